/-
  The walk of DivRoot.
-/
import Derived.Test.YtobhoobdbbinhaaRootA
/-! The walk of DivRoot. -/
namespace Go.Proofs.Ytobhoobdbbinhaa
open Go.RowKit
set_option linter.unusedVariables false

set_option maxHeartbeats 1000000 in
theorem droot_calls (A : Option Addr) (n c x : Nat) (w : World) (ha : Nv w A n c x) (hn : n ≤ 9223372036854775807) :
    Calls Try.prog 8 #[.slice A n c] w (TruePost w) := by
  have hW := Below.refl w.heap.size w
  by_cases h1 : (n : Int) ≤ 10
  · go_enter Try.func8, Try.ntmps8
    go_wp2_with fail
    refine (dawake_calls _).mono ?_
    rintro e w1 ⟨rfl, B1⟩
    replace ha := ha.below B1
    replace hW := hW.trans (B1.mono hW.size)
    go_wp2_with fail
    refine (root_ok x _ _ _ _ ha (by omega)).mono ?_
    rintro e w2 ⟨A2, n2, c2, A2', n2', c2', r, rfl, hR, pr, pd, k2, k2', B2⟩
    replace ha := ha.below B2
    replace hW := hW.trans (B2.mono hW.size)
    go_wp2_with fail
    refine (ofc_v 1 (by omega) _).mono ?_
    rintro e w3 ⟨A3, n3, c3, rfl, po, k3, B3⟩
    replace ha := ha.below B3
    replace pr := pr.below B3
    replace pd := pd.below B3
    replace hW := hW.trans (B3.mono hW.size)
    go_wp2_with fail
    refine (addc_v pr.nv po.nv (by omega) (by omega)).mono ?_
    rintro e w4 ⟨A4, n4, c4, rfl, pn, k4, B4⟩
    replace ha := ha.below B4
    replace pr := pr.below B4
    replace pd := pd.below B4
    replace po := po.below B4
    replace hW := hW.trans (B4.mono hW.size)
    go_wp2_with fail
    clear po
    refine (mulc_v pr.nv pr.nv (by omega) (by omega)).mono ?_
    rintro e w5 ⟨A5, n5, c5, rfl, m1, k5, B5⟩
    replace ha := ha.below B5
    replace pr := pr.below B5
    replace pd := pd.below B5
    replace pn := pn.below B5
    replace hW := hW.trans (B5.mono hW.size)
    go_wp2_with fail
    refine (addc_v m1.nv pd.nv (by omega) (by omega)).mono ?_
    rintro e w6 ⟨A6, n6, c6, rfl, m2, k6, B6⟩
    replace ha := ha.below B6
    replace pr := pr.below B6
    replace pd := pd.below B6
    replace pn := pn.below B6
    replace m1 := m1.below B6
    replace hW := hW.trans (B6.mono hW.size)
    go_wp2_with fail
    refine (cmp_same_v m2.nv ha (Nat.add_sub_cancel' hR.out.1)).mono ?_
    rintro e w7 ⟨rfl, B7⟩
    replace ha := ha.below B7
    replace pr := pr.below B7
    replace pd := pd.below B7
    replace pn := pn.below B7
    replace m1 := m1.below B7
    replace m2 := m2.below B7
    replace hW := hW.trans (B7.mono hW.size)
    go_wp2_with fail
    refine (mulc_v pn.nv pn.nv (by omega) (by omega)).mono ?_
    rintro e w8 ⟨A8, n8, c8, rfl, m3, k8, B8⟩
    replace ha := ha.below B8
    replace pr := pr.below B8
    replace pd := pd.below B8
    replace pn := pn.below B8
    replace m1 := m1.below B8
    replace m2 := m2.below B8
    replace hW := hW.trans (B8.mono hW.size)
    go_wp2_with fail
    refine (cmp_as m3.nv ha (cmpN_gt hR.out.2)).mono ?_
    rintro e w9 ⟨rfl, B9⟩
    replace ha := ha.below B9
    replace pr := pr.below B9
    replace pd := pd.below B9
    replace pn := pn.below B9
    replace m1 := m1.below B9
    replace m2 := m2.below B9
    replace m3 := m3.below B9
    replace hW := hW.trans (B9.mono hW.size)
    go_wp2
    go_ret
    exact ⟨rfl, hW⟩
  · go_enter Try.func8, Try.ntmps8
    go_wp2_with fail
    refine (dawake_calls _).mono ?_
    rintro e w1 ⟨rfl, B1⟩
    replace hW := hW.trans (B1.mono hW.size)
    go_wp2_with fail
    refine (dawake_calls _).mono ?_
    rintro e w2 ⟨rfl, B2⟩
    replace hW := hW.trans (B2.mono hW.size)
    go_wp2
    go_ret
    exact ⟨rfl, hW⟩

end Go.Proofs.Ytobhoobdbbinhaa
