/-
  Contracts by value for package mul; quincunxlaw02.awake; the walks of MulSame and MulRules.
-/
import Derived.Test.YthpohkklggabpaaMulA
namespace Go.Proofs.Ythpohkklggabpaa
open Go.RowKit
set_option linter.unusedVariables false

set_option maxHeartbeats 400000 in
theorem mawake_calls (w : World) : Calls Try.prog 9 #[] w (TruePost w) := by
  have hW := Below.refl w.heap.size w
  go_enter Try.func9, Try.ntmps9
  go_wp2_with fail
  refine (of_v 3 (by omega) _).mono ?_
  rintro e w1 ⟨A1, n1, c1, rfl, h1, k1, B1, -⟩
  replace hW := hW.trans (B1.mono hW.size)
  go_wp2_with fail
  refine (powc_v (k := 4) (K := 4) h1 (by omega) (by omega) (above_small (by rw [bl_three]; omega)) (by omega)).mono ?_
  rintro e w2 ⟨A2, n2, c2, rfl, h2, k2, B2⟩
  replace hW := hW.trans (B2.mono hW.size)
  go_wp2_with fail
  refine (of_v 81 (by omega) _).mono ?_
  rintro e w3 ⟨A3, n3, c3, rfl, h3, k3, B3, -⟩
  replace h2 := h2.below B3
  replace hW := hW.trans (B3.mono hW.size)
  go_wp2_with fail
  refine (cmp_same_v h2.nv h3 (by decide)).mono ?_
  rintro e w4 ⟨rfl, B4⟩
  replace hW := hW.trans (B4.mono hW.size)
  go_wp2
  go_ret
  exact ⟨rfl, hW⟩

set_option maxHeartbeats 400000 in
theorem msame_calls (A B : Option Addr) (n m c d : Nat) (x y : Nat) (w : World) (ha : Nv w A n c x) (hb : Nv w B m d y) (hn : n ≤ 9223372036854775807) (hm : m ≤ 9223372036854775807) :
    Calls Try.prog 4 #[.slice A n c, .slice B m d] w (TruePost w) := by
  have hW := Below.refl w.heap.size w
  by_cases h1 : (n : Int) ≤ 100
  · by_cases h2 : (m : Int) ≤ 100
    · go_enter Try.func4, Try.ntmps4
      go_wp2_with fail
      refine (mawake_calls _).mono ?_
      rintro e w1 ⟨rfl, B1⟩
      replace ha := ha.below B1
      replace hb := hb.below B1
      replace hW := hW.trans (B1.mono hW.size)
      go_wp2_with fail
      refine (mmulc_v ha hb (by omega) (by omega)).mono ?_
      rintro e w2 ⟨A2, n2, c2, rfl, p2, k2, B2⟩
      replace ha := ha.below B2
      replace hb := hb.below B2
      replace hW := hW.trans (B2.mono hW.size)
      go_wp2_with fail
      refine (mulc_v ha hb (by omega) (by omega)).mono ?_
      rintro e w3 ⟨A3, n3, c3, rfl, p3, k3, B3⟩
      replace ha := ha.below B3
      replace hb := hb.below B3
      replace p2 := p2.below B3
      replace hW := hW.trans (B3.mono hW.size)
      go_wp2_with fail
      refine (same_v p2 p3 rfl).mono ?_
      rintro e w4 ⟨rfl, B4⟩
      replace ha := ha.below B4
      replace hb := hb.below B4
      replace hW := hW.trans (B4.mono hW.size)
      clear p2 p3
      go_wp2_with fail
      refine (mmulc_v hb ha (by omega) (by omega)).mono ?_
      rintro e w5 ⟨A5, n5, c5, rfl, p5, k5, B5⟩
      replace ha := ha.below B5
      replace hb := hb.below B5
      replace hW := hW.trans (B5.mono hW.size)
      go_wp2_with fail
      refine (mulc_v ha hb (by omega) (by omega)).mono ?_
      rintro e w6 ⟨A6, n6, c6, rfl, p6, k6, B6⟩
      replace p5 := p5.below B6
      replace hW := hW.trans (B6.mono hW.size)
      go_wp2_with fail
      refine (same_v p5 p6 (Nat.mul_comm _ _)).mono ?_
      rintro e w7 ⟨rfl, B7⟩
      replace hW := hW.trans (B7.mono hW.size)
      go_wp2
      go_ret
      exact ⟨rfl, hW⟩
    · go_enter Try.func4, Try.ntmps4
      go_wp2_with fail
      refine (mawake_calls _).mono ?_
      rintro e w1 ⟨rfl, B1⟩
      replace hW := hW.trans (B1.mono hW.size)
      go_wp2_with fail
      refine (mawake_calls _).mono ?_
      rintro e w2 ⟨rfl, B2⟩
      replace hW := hW.trans (B2.mono hW.size)
      go_wp2
      go_ret
      exact ⟨rfl, hW⟩
  · go_enter Try.func4, Try.ntmps4
    go_wp2_with fail
    refine (mawake_calls _).mono ?_
    rintro e w1 ⟨rfl, B1⟩
    replace hW := hW.trans (B1.mono hW.size)
    go_wp2_with fail
    refine (mawake_calls _).mono ?_
    rintro e w2 ⟨rfl, B2⟩
    replace hW := hW.trans (B2.mono hW.size)
    go_wp2
    go_ret
    exact ⟨rfl, hW⟩
end Go.Proofs.Ythpohkklggabpaa
