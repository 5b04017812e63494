/-
  The walk of MulMuls.
-/
import Derived.Test.YthpohkklggabpaaSame
import Derived.Test.YthpohkklggabpaaMuls
namespace Go.Proofs.Ythpohkklggabpaa
open Go.RowKit
set_option linter.unusedVariables false

set_option maxHeartbeats 1000000 in
theorem mmuls_calls (A B : Option Addr) (n m c d : Nat) (x y : Nat) (w : World) (ha : Nv w A n c x) (hb : Nv w B m d y) (hn : n ≤ 9223372036854775807) (hm : m ≤ 9223372036854775807) :
    Calls Try.prog 3 #[.slice A n c, .slice B m d] w (TruePost w) := by
  have hW := Below.refl w.heap.size w
  by_cases h1 : (n : Int) ≤ 60
  · by_cases h2 : (m : Int) ≤ 60
    · go_enter Try.func3, Try.ntmps3
      go_wp2_with fail
      refine (mawake_calls _).mono ?_
      rintro e w1 ⟨rfl, B1⟩
      replace ha := ha.below B1
      replace hb := hb.below B1
      replace hW := hW.trans (B1.mono hW.size)
      go_wp2_with fail
      refine (from_v ha (by omega)).mono ?_
      rintro e w2 ⟨A2, n2, c2, rfl, dx, k2, B2⟩
      replace ha := ha.below B2
      replace hb := hb.below B2
      replace hW := hW.trans (B2.mono hW.size)
      go_wp2_with fail
      refine (from_v hb (by omega)).mono ?_
      rintro e w3 ⟨A3, n3, c3, rfl, dy, k3, B3⟩
      replace ha := ha.below B3
      replace hb := hb.below B3
      replace dx := dx.below B3
      replace hW := hW.trans (B3.mono hW.size)
      go_wp2_with fail
      refine (mmulc_v ha hb (by omega) (by omega)).mono ?_
      rintro e w4 ⟨A4, n4, c4, rfl, p1, k4, B4⟩
      replace ha := ha.below B4
      replace hb := hb.below B4
      replace dx := dx.below B4
      replace dy := dy.below B4
      replace hW := hW.trans (B4.mono hW.size)
      go_wp2_with fail
      refine (rmul_v dx dy (by omega) (by omega)).mono ?_
      rintro e w5 ⟨A5, n5, c5, rfl, m1, k5, B5⟩
      replace ha := ha.below B5
      replace hb := hb.below B5
      replace dx := dx.below B5
      replace dy := dy.below B5
      replace p1 := p1.below B5
      replace hW := hW.trans (B5.mono hW.size)
      go_wp2_with fail
      refine (is_v p1 m1 (by omega) rfl).mono ?_
      rintro e w6 ⟨rfl, B6⟩
      replace ha := ha.below B6
      replace hb := hb.below B6
      replace dx := dx.below B6
      replace dy := dy.below B6
      replace p1 := p1.below B6
      replace m1 := m1.below B6
      replace hW := hW.trans (B6.mono hW.size)
      clear p1
      clear m1
      go_wp2_with fail
      refine (squarec_v ha (by omega)).mono ?_
      rintro e w7 ⟨A7, n7, c7, rfl, p2, k7, B7⟩
      replace ha := ha.below B7
      replace hb := hb.below B7
      replace dx := dx.below B7
      replace dy := dy.below B7
      replace hW := hW.trans (B7.mono hW.size)
      go_wp2_with fail
      refine (rmul_v dx dx (by omega) (by omega)).mono ?_
      rintro e w8 ⟨A8, n8, c8, rfl, m2, k8, B8⟩
      replace ha := ha.below B8
      replace hb := hb.below B8
      replace dx := dx.below B8
      replace dy := dy.below B8
      replace p2 := p2.below B8
      replace hW := hW.trans (B8.mono hW.size)
      go_wp2_with fail
      refine (is_v p2 m2 (by omega) rfl).mono ?_
      rintro e w9 ⟨rfl, B9⟩
      replace ha := ha.below B9
      replace hb := hb.below B9
      replace dx := dx.below B9
      replace dy := dy.below B9
      replace p2 := p2.below B9
      replace m2 := m2.below B9
      replace hW := hW.trans (B9.mono hW.size)
      go_wp2
      go_ret
      exact ⟨rfl, hW⟩
    · go_enter Try.func3, Try.ntmps3
      go_wp2_with fail
      refine (mawake_calls _).mono ?_
      rintro e w1 ⟨rfl, B1⟩
      replace hW := hW.trans (B1.mono hW.size)
      go_wp2_with fail
      refine (mawake_calls _).mono ?_
      rintro e w2 ⟨rfl, B2⟩
      replace hW := hW.trans (B2.mono hW.size)
      go_wp2
      go_ret
      exact ⟨rfl, hW⟩
  · go_enter Try.func3, Try.ntmps3
    go_wp2_with fail
    refine (mawake_calls _).mono ?_
    rintro e w1 ⟨rfl, B1⟩
    replace hW := hW.trans (B1.mono hW.size)
    go_wp2_with fail
    refine (mawake_calls _).mono ?_
    rintro e w2 ⟨rfl, B2⟩
    replace hW := hW.trans (B2.mono hW.size)
    go_wp2
    go_ret
    exact ⟨rfl, hW⟩
end Go.Proofs.Ythpohkklggabpaa
