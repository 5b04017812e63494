/-
  The walk of DivCommon.
-/
import Derived.Test.YtnnohfkocaajfaaGcdF
/-! The walk of DivCommon. -/
namespace Go.Proofs.Ytnnohfkocaajfaa
open Go.RowKit
set_option linter.unusedVariables false

set_option maxHeartbeats 1000000 in
theorem dcommon_calls (A B C : Option Addr) (n m l c d e' x y z : Nat) (w : World) (ha : Nv w A n c x) (hb : Nv w B m d y) (hc : Nv w C l e' z) (hn : n ≤ 9223372036854775807) (hm : m ≤ 9223372036854775807) (hl : l ≤ 9223372036854775807) :
    Calls Try.prog 4 #[.slice A n c, .slice B m d, .slice C l e'] w (TruePost w) := by
  have hW := Below.refl w.heap.size w
  by_cases h1 : (n : Int) ≤ 6
  · by_cases h2 : (m : Int) ≤ 6
    · by_cases h3 : (l : Int) ≤ 6
      · go_enter Try.func4, Try.ntmps4
        go_wp2_with fail
        refine (dawake_calls _).mono ?_
        rintro e w1 ⟨rfl, B1⟩
        replace ha := ha.below B1
        replace hb := hb.below B1
        replace hc := hc.below B1
        replace hW := hW.trans (B1.mono hW.size)
        go_wp2_with fail
        refine (gcd_v ha hb (by omega) (by omega)).mono ?_
        rintro e w2 ⟨A2, n2, c2, rfl, pg, k2, B2⟩
        replace ha := ha.below B2
        replace hb := hb.below B2
        replace hc := hc.below B2
        replace hW := hW.trans (B2.mono hW.size)
        go_wp2_with fail
        refine (mulc_v ha hc (by omega) (by omega)).mono ?_
        rintro e w3 ⟨A3, n3, c3, rfl, m1, k3, B3⟩
        replace ha := ha.below B3
        replace hb := hb.below B3
        replace hc := hc.below B3
        replace pg := pg.below B3
        replace hW := hW.trans (B3.mono hW.size)
        go_wp2_with fail
        refine (mulc_v hb hc (by omega) (by omega)).mono ?_
        rintro e w4 ⟨A4, n4, c4, rfl, m2, k4, B4⟩
        replace ha := ha.below B4
        replace hb := hb.below B4
        replace hc := hc.below B4
        replace pg := pg.below B4
        replace m1 := m1.below B4
        replace hW := hW.trans (B4.mono hW.size)
        go_wp2_with fail
        refine (gcd_v m1.nv m2.nv (by omega) (by omega)).mono ?_
        rintro e w5 ⟨A5, n5, c5, rfl, g2, k5, B5⟩
        replace ha := ha.below B5
        replace hb := hb.below B5
        replace hc := hc.below B5
        replace pg := pg.below B5
        replace m1 := m1.below B5
        replace m2 := m2.below B5
        replace hW := hW.trans (B5.mono hW.size)
        go_wp2_with fail
        clear m1 m2
        refine (mulc_v pg.nv hc (by omega) (by omega)).mono ?_
        rintro e w6 ⟨A6, n6, c6, rfl, m3, k6, B6⟩
        replace ha := ha.below B6
        replace hb := hb.below B6
        replace hc := hc.below B6
        replace pg := pg.below B6
        replace g2 := g2.below B6
        replace hW := hW.trans (B6.mono hW.size)
        go_wp2_with fail
        refine (cmp_same_v g2.nv m3.nv (Nat.gcd_mul_right _ _ _)).mono ?_
        rintro e w7 ⟨rfl, B7⟩
        replace ha := ha.below B7
        replace hb := hb.below B7
        replace hc := hc.below B7
        replace pg := pg.below B7
        replace g2 := g2.below B7
        replace m3 := m3.below B7
        replace hW := hW.trans (B7.mono hW.size)
        go_wp2_with fail
        clear g2 m3
        refine (gcd_v hb ha (by omega) (by omega)).mono ?_
        rintro e w8 ⟨A8, n8, c8, rfl, g3, k8, B8⟩
        replace ha := ha.below B8
        replace hb := hb.below B8
        replace hc := hc.below B8
        replace pg := pg.below B8
        replace hW := hW.trans (B8.mono hW.size)
        go_wp2_with fail
        refine (cmp_same_v g3.nv pg.nv (Nat.gcd_comm _ _)).mono ?_
        rintro e w9 ⟨rfl, B9⟩
        replace ha := ha.below B9
        replace hb := hb.below B9
        replace hc := hc.below B9
        replace pg := pg.below B9
        replace g3 := g3.below B9
        replace hW := hW.trans (B9.mono hW.size)
        go_wp2_with fail
        clear g3
        refine (gcd_v ha (Nv.nil _) (by omega) (by omega)).mono ?_
        rintro e w10 ⟨A10, n10, c10, rfl, g4, k10, B10⟩
        replace ha := ha.below B10
        replace hb := hb.below B10
        replace hc := hc.below B10
        replace pg := pg.below B10
        replace hW := hW.trans (B10.mono hW.size)
        go_wp2_with fail
        refine (cmp_same_v g4.nv ha (Nat.gcd_zero_right _)).mono ?_
        rintro e w11 ⟨rfl, B11⟩
        replace ha := ha.below B11
        replace hb := hb.below B11
        replace hc := hc.below B11
        replace pg := pg.below B11
        replace g4 := g4.below B11
        replace hW := hW.trans (B11.mono hW.size)
        go_wp2
        go_ret
        exact ⟨rfl, hW⟩
      · go_enter Try.func4, Try.ntmps4
        go_wp2_with fail
        refine (dawake_calls _).mono ?_
        rintro e w1 ⟨rfl, B1⟩
        replace hW := hW.trans (B1.mono hW.size)
        go_wp2_with fail
        refine (dawake_calls _).mono ?_
        rintro e w2 ⟨rfl, B2⟩
        replace hW := hW.trans (B2.mono hW.size)
        go_wp2
        go_ret
        exact ⟨rfl, hW⟩

    · go_enter Try.func4, Try.ntmps4
      go_wp2_with fail
      refine (dawake_calls _).mono ?_
      rintro e w1 ⟨rfl, B1⟩
      replace hW := hW.trans (B1.mono hW.size)
      go_wp2_with fail
      refine (dawake_calls _).mono ?_
      rintro e w2 ⟨rfl, B2⟩
      replace hW := hW.trans (B2.mono hW.size)
      go_wp2
      go_ret
      exact ⟨rfl, hW⟩

  · go_enter Try.func4, Try.ntmps4
    go_wp2_with fail
    refine (dawake_calls _).mono ?_
    rintro e w1 ⟨rfl, B1⟩
    replace hW := hW.trans (B1.mono hW.size)
    go_wp2_with fail
    refine (dawake_calls _).mono ?_
    rintro e w2 ⟨rfl, B2⟩
    replace hW := hW.trans (B2.mono hW.size)
    go_wp2
    go_ret
    exact ⟨rfl, hW⟩

end Go.Proofs.Ytnnohfkocaajfaa
