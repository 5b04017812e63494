/-
  The walk of DivDivides.
-/
import Derived.Test.YtobhoobdbbinhaaDivE
import Derived.Test.YtobhoobdbbinhaaRefC
/-! The walk of DivDivides. -/
namespace Go.Proofs.Ytobhoobdbbinhaa
open Go.RowKit
set_option linter.unusedVariables false

set_option maxRecDepth 100000 in
set_option maxHeartbeats 2000000 in
theorem ddivides_calls (A B : Option Addr) (n m c d x y : Nat) (w : World) (ha : Nv w A n c x) (hb : Nv w B m d y) (hn : n ≤ 9223372036854775807) (hm : m ≤ 9223372036854775807) :
    Calls Try.prog 3 #[.slice A n c, .slice B m d] w (TruePost w) := by
  have hW := Below.refl w.heap.size w
  by_cases h1 : (n : Int) ≤ 12
  · by_cases h2 : (m : Int) ≤ 12
    · rcases Nat.eq_zero_or_pos y with rfl | hy
      · skip
        go_enter Try.func3, Try.ntmps3
        go_wp2_with fail
        refine (dawake_calls _).mono ?_
        rintro e w1 ⟨rfl, B1⟩
        replace ha := ha.below B1
        replace hb := hb.below B1
        replace hW := hW.trans (B1.mono hW.size)
        go_wp2_with fail
        refine (from_v ha (by omega)).mono ?_
        rintro e w2 ⟨A2, n2, c2, rfl, dx, k2, B2⟩
        replace ha := ha.below B2
        replace hb := hb.below B2
        replace hW := hW.trans (B2.mono hW.size)
        go_wp2_with fail
        refine (from_v hb (by omega)).mono ?_
        rintro e w3 ⟨A3, n3, c3, rfl, dy, k3, B3⟩
        replace ha := ha.below B3
        replace hb := hb.below B3
        replace dx := dx.below B3
        replace hW := hW.trans (B3.mono hW.size)
        go_wp2_with fail
        refine (dm_none ha hb (by omega) (by omega)).mono ?_
        rintro e w4 ⟨rfl, rfl⟩
        go_wp2_with fail
        refine (mod_none ha hb (by omega) (by omega)).mono ?_
        rintro e w5 ⟨rfl, B5⟩
        replace ha := ha.below B5
        replace hb := hb.below B5
        replace dx := dx.below B5
        replace dy := dy.below B5
        replace hW := hW.trans (B5.mono hW.size)
        go_wp2_with fail
        refine (exact_none ha hb (by omega) (by omega)).mono ?_
        rintro e w6 ⟨rfl, B6⟩
        replace ha := ha.below B6
        replace hb := hb.below B6
        replace dx := dx.below B6
        replace dy := dy.below B6
        replace hW := hW.trans (B6.mono hW.size)
        go_wp2_with fail
        refine (rzero_v dy (b := true) rfl).mono ?_
        rintro e w7 ⟨rfl, rfl⟩
        go_wp2
        go_ret
        exact ⟨rfl, hW⟩
      · have HY := Lib.hid (show decide (y = 0) = false from decide_eq_false (by omega))
        by_cases h0 : x % y = 0
        · have H0 := Lib.hid h0
          have HZ := Lib.hid (show decide (x % y = 0) = true from decide_eq_true h0)
          clear h0
          go_enter Try.func3, Try.ntmps3
          go_wp2_with fail
          refine (dawake_calls _).mono ?_
          rintro e w1 ⟨rfl, B1⟩
          replace ha := ha.below B1
          replace hb := hb.below B1
          replace hW := hW.trans (B1.mono hW.size)
          go_wp2_with fail
          refine (from_v ha (by omega)).mono ?_
          rintro e w2 ⟨A2, n2, c2, rfl, dx, k2, B2⟩
          replace ha := ha.below B2
          replace hb := hb.below B2
          replace hW := hW.trans (B2.mono hW.size)
          go_wp2_with fail
          refine (from_v hb (by omega)).mono ?_
          rintro e w3 ⟨A3, n3, c3, rfl, dy, k3, B3⟩
          replace ha := ha.below B3
          replace hb := hb.below B3
          replace dx := dx.below B3
          replace hW := hW.trans (B3.mono hW.size)
          go_wp2_with fail
          refine (dm_v ha hb (by omega) (by omega) hy).mono ?_
          rintro e w4 ⟨A4, n4, c4, A4', n4', c4', rfl, pq, pr, k4, k4', B4⟩
          replace ha := ha.below B4
          replace hb := hb.below B4
          replace dx := dx.below B4
          replace dy := dy.below B4
          replace hW := hW.trans (B4.mono hW.size)
          go_wp2_with fail
          refine (mod_v ha hb (by omega) (by omega) hy).mono ?_
          rintro e w5 ⟨A5, n5, c5, rfl, pm, k5, B5⟩
          replace ha := ha.below B5
          replace hb := hb.below B5
          replace dx := dx.below B5
          replace dy := dy.below B5
          replace pq := pq.below B5
          replace pr := pr.below B5
          replace hW := hW.trans (B5.mono hW.size)
          go_wp2_with fail
          refine (exact_v ha hb (by omega) (by omega) hy H0.out).mono ?_
          rintro e w6 ⟨A6, n6, c6, rfl, pe, k6, B6⟩
          replace ha := ha.below B6
          replace hb := hb.below B6
          replace dx := dx.below B6
          replace dy := dy.below B6
          replace pq := pq.below B6
          replace pr := pr.below B6
          replace pm := pm.below B6
          replace hW := hW.trans (B6.mono hW.size)
          go_wp2_with fail
          refine (rzero_v dy HY.out).mono ?_
          rintro e w7 ⟨rfl, rfl⟩
          go_wp2_with fail
          refine (rdm_v dx dy (by omega) (by omega) hy).mono ?_
          rintro e w8 ⟨A8, n8, c8, A8', n8', c8', rfl, du, dv, k8, k8', B8⟩
          replace ha := ha.below B8
          replace hb := hb.below B8
          replace dx := dx.below B8
          replace dy := dy.below B8
          replace pq := pq.below B8
          replace pr := pr.below B8
          replace pm := pm.below B8
          replace pe := pe.below B8
          replace hW := hW.trans (B8.mono hW.size)
          go_wp2_with fail
          refine (is_v pq du (by omega) rfl).mono ?_
          rintro e w9 ⟨rfl, B9⟩
          replace ha := ha.below B9
          replace hb := hb.below B9
          replace dx := dx.below B9
          replace dy := dy.below B9
          replace pq := pq.below B9
          replace pr := pr.below B9
          replace pm := pm.below B9
          replace pe := pe.below B9
          replace du := du.below B9
          replace dv := dv.below B9
          replace hW := hW.trans (B9.mono hW.size)
          go_wp2_with fail
          refine (is_v pr dv (by omega) rfl).mono ?_
          rintro e w10 ⟨rfl, B10⟩
          replace ha := ha.below B10
          replace hb := hb.below B10
          replace dx := dx.below B10
          replace dy := dy.below B10
          replace pq := pq.below B10
          replace pr := pr.below B10
          replace pm := pm.below B10
          replace pe := pe.below B10
          replace du := du.below B10
          replace dv := dv.below B10
          replace hW := hW.trans (B10.mono hW.size)
          go_wp2_with fail
          refine (is_v pm dv (by omega) rfl).mono ?_
          rintro e w11 ⟨rfl, B11⟩
          replace ha := ha.below B11
          replace hb := hb.below B11
          replace dx := dx.below B11
          replace dy := dy.below B11
          replace pq := pq.below B11
          replace pr := pr.below B11
          replace pm := pm.below B11
          replace pe := pe.below B11
          replace du := du.below B11
          replace dv := dv.below B11
          replace hW := hW.trans (B11.mono hW.size)
          go_wp2_with fail
          refine (rzero_v dv HZ.out).mono ?_
          rintro e w12 ⟨rfl, rfl⟩
          go_wp2_with fail
          refine (is_v pe du (by omega) rfl).mono ?_
          rintro e w13 ⟨rfl, B13⟩
          replace ha := ha.below B13
          replace hb := hb.below B13
          replace dx := dx.below B13
          replace dy := dy.below B13
          replace pq := pq.below B13
          replace pr := pr.below B13
          replace pm := pm.below B13
          replace pe := pe.below B13
          replace du := du.below B13
          replace dv := dv.below B13
          replace hW := hW.trans (B13.mono hW.size)
          go_wp2
          go_ret
          exact ⟨rfl, hW⟩
        · have H0 := Lib.hid h0
          have HZ := Lib.hid (show decide (x % y = 0) = false from decide_eq_false h0)
          clear h0
          go_enter Try.func3, Try.ntmps3
          go_wp2_with fail
          refine (dawake_calls _).mono ?_
          rintro e w1 ⟨rfl, B1⟩
          replace ha := ha.below B1
          replace hb := hb.below B1
          replace hW := hW.trans (B1.mono hW.size)
          go_wp2_with fail
          refine (from_v ha (by omega)).mono ?_
          rintro e w2 ⟨A2, n2, c2, rfl, dx, k2, B2⟩
          replace ha := ha.below B2
          replace hb := hb.below B2
          replace hW := hW.trans (B2.mono hW.size)
          go_wp2_with fail
          refine (from_v hb (by omega)).mono ?_
          rintro e w3 ⟨A3, n3, c3, rfl, dy, k3, B3⟩
          replace ha := ha.below B3
          replace hb := hb.below B3
          replace dx := dx.below B3
          replace hW := hW.trans (B3.mono hW.size)
          go_wp2_with fail
          refine (dm_v ha hb (by omega) (by omega) hy).mono ?_
          rintro e w4 ⟨A4, n4, c4, A4', n4', c4', rfl, pq, pr, k4, k4', B4⟩
          replace ha := ha.below B4
          replace hb := hb.below B4
          replace dx := dx.below B4
          replace dy := dy.below B4
          replace hW := hW.trans (B4.mono hW.size)
          go_wp2_with fail
          refine (mod_v ha hb (by omega) (by omega) hy).mono ?_
          rintro e w5 ⟨A5, n5, c5, rfl, pm, k5, B5⟩
          replace ha := ha.below B5
          replace hb := hb.below B5
          replace dx := dx.below B5
          replace dy := dy.below B5
          replace pq := pq.below B5
          replace pr := pr.below B5
          replace hW := hW.trans (B5.mono hW.size)
          go_wp2_with fail
          refine (exact_no ha hb (by omega) (by omega) hy H0.out).mono ?_
          rintro e w6 ⟨rfl, B6⟩
          replace ha := ha.below B6
          replace hb := hb.below B6
          replace dx := dx.below B6
          replace dy := dy.below B6
          replace pq := pq.below B6
          replace pr := pr.below B6
          replace pm := pm.below B6
          replace hW := hW.trans (B6.mono hW.size)
          go_wp2_with fail
          refine (rzero_v dy HY.out).mono ?_
          rintro e w7 ⟨rfl, rfl⟩
          go_wp2_with fail
          refine (rdm_v dx dy (by omega) (by omega) hy).mono ?_
          rintro e w8 ⟨A8, n8, c8, A8', n8', c8', rfl, du, dv, k8, k8', B8⟩
          replace ha := ha.below B8
          replace hb := hb.below B8
          replace dx := dx.below B8
          replace dy := dy.below B8
          replace pq := pq.below B8
          replace pr := pr.below B8
          replace pm := pm.below B8
          replace hW := hW.trans (B8.mono hW.size)
          go_wp2_with fail
          refine (is_v pq du (by omega) rfl).mono ?_
          rintro e w9 ⟨rfl, B9⟩
          replace ha := ha.below B9
          replace hb := hb.below B9
          replace dx := dx.below B9
          replace dy := dy.below B9
          replace pq := pq.below B9
          replace pr := pr.below B9
          replace pm := pm.below B9
          replace du := du.below B9
          replace dv := dv.below B9
          replace hW := hW.trans (B9.mono hW.size)
          go_wp2_with fail
          refine (is_v pr dv (by omega) rfl).mono ?_
          rintro e w10 ⟨rfl, B10⟩
          replace ha := ha.below B10
          replace hb := hb.below B10
          replace dx := dx.below B10
          replace dy := dy.below B10
          replace pq := pq.below B10
          replace pr := pr.below B10
          replace pm := pm.below B10
          replace du := du.below B10
          replace dv := dv.below B10
          replace hW := hW.trans (B10.mono hW.size)
          go_wp2_with fail
          refine (is_v pm dv (by omega) rfl).mono ?_
          rintro e w11 ⟨rfl, B11⟩
          replace ha := ha.below B11
          replace hb := hb.below B11
          replace dx := dx.below B11
          replace dy := dy.below B11
          replace pq := pq.below B11
          replace pr := pr.below B11
          replace pm := pm.below B11
          replace du := du.below B11
          replace dv := dv.below B11
          replace hW := hW.trans (B11.mono hW.size)
          go_wp2_with fail
          refine (rzero_v dv HZ.out).mono ?_
          rintro e w12 ⟨rfl, rfl⟩
          go_wp2
          go_ret
          exact ⟨rfl, hW⟩
    · go_enter Try.func3, Try.ntmps3
      go_wp2_with fail
      refine (dawake_calls _).mono ?_
      rintro e w1 ⟨rfl, B1⟩
      replace hW := hW.trans (B1.mono hW.size)
      go_wp2_with fail
      refine (dawake_calls _).mono ?_
      rintro e w2 ⟨rfl, B2⟩
      replace hW := hW.trans (B2.mono hW.size)
      go_wp2
      go_ret
      exact ⟨rfl, hW⟩

  · go_enter Try.func3, Try.ntmps3
    go_wp2_with fail
    refine (dawake_calls _).mono ?_
    rintro e w1 ⟨rfl, B1⟩
    replace hW := hW.trans (B1.mono hW.size)
    go_wp2_with fail
    refine (dawake_calls _).mono ?_
    rintro e w2 ⟨rfl, B2⟩
    replace hW := hW.trans (B2.mono hW.size)
    go_wp2
    go_ret
    exact ⟨rfl, hW⟩

end Go.Proofs.Ytobhoobdbbinhaa
