/-
  The walk of DivGcd.
-/
import Derived.Test.YtnnohfkocaajfaaGcdF
import Derived.Test.YtnnohfkocaajfaaRefC
/-! The walk of DivGcd. -/
namespace Go.Proofs.Ytnnohfkocaajfaa
open Go.RowKit
set_option linter.unusedVariables false

/-- Whether a number divides both. -/
def BoCut (w : World) (x y z : Nat) (v : Value) (wx : World) : Prop := ∃ b : Bool, v = .bool b ∧ (b = true → 0 < z ∧ z ∣ x ∧ z ∣ y) ∧ Below w.heap.size w wx

set_option maxRecDepth 100000 in
set_option maxHeartbeats 4000000 in
theorem dgcd_calls (A B C : Option Addr) (n m l c d e' x y z : Nat) (w : World) (ha : Nv w A n c x) (hb : Nv w B m d y) (hc : Nv w C l e' z) (hn : n ≤ 9223372036854775807) (hm : m ≤ 9223372036854775807) (hl : l ≤ 9223372036854775807) :
    Calls Try.prog 3 #[.slice A n c, .slice B m d, .slice C l e'] w (TruePost w) := by
  have hW := Below.refl w.heap.size w
  by_cases h1 : (n : Int) ≤ 8
  · by_cases h2 : (m : Int) ≤ 8
    · by_cases h3 : (l : Int) ≤ 8
      · go_enter Try.func3, Try.ntmps3
        go_wp2_with fail
        refine (dawake_calls _).mono ?_
        rintro e w1 ⟨rfl, B1⟩
        replace ha := ha.below B1
        replace hb := hb.below B1
        replace hc := hc.below B1
        replace hW := hW.trans (B1.mono hW.size)
        go_wp2_with fail
        refine (gcd_v ha hb (by omega) (by omega)).mono ?_
        rintro e w2 ⟨A2, n2, c2, rfl, pg, k2, B2⟩
        replace ha := ha.below B2
        replace hb := hb.below B2
        replace hc := hc.below B2
        replace hW := hW.trans (B2.mono hW.size)
        go_wp2_with fail
        refine (lcm_v ha hb (by omega) (by omega)).mono ?_
        rintro e w3 ⟨A3, n3, c3, rfl, pl, k3, B3⟩
        replace ha := ha.below B3
        replace hb := hb.below B3
        replace hc := hc.below B3
        replace pg := pg.below B3
        replace hW := hW.trans (B3.mono hW.size)
        go_wp2_with fail
        refine (from_v ha (by omega)).mono ?_
        rintro e w4 ⟨A4, n4, c4, rfl, dx, k4, B4⟩
        replace ha := ha.below B4
        replace hb := hb.below B4
        replace hc := hc.below B4
        replace pg := pg.below B4
        replace pl := pl.below B4
        replace hW := hW.trans (B4.mono hW.size)
        go_wp2_with fail
        refine (from_v hb (by omega)).mono ?_
        rintro e w5 ⟨A5, n5, c5, rfl, dy, k5, B5⟩
        replace ha := ha.below B5
        replace hb := hb.below B5
        replace hc := hc.below B5
        replace pg := pg.below B5
        replace pl := pl.below B5
        replace dx := dx.below B5
        replace hW := hW.trans (B5.mono hW.size)
        go_wp2_with fail
        refine (from_v hc (by omega)).mono ?_
        rintro e w6 ⟨A6, n6, c6, rfl, dz, k6, B6⟩
        replace ha := ha.below B6
        replace hb := hb.below B6
        replace hc := hc.below B6
        replace pg := pg.below B6
        replace pl := pl.below B6
        replace dx := dx.below B6
        replace dy := dy.below B6
        replace hW := hW.trans (B6.mono hW.size)
        go_wp2_with fail
        refine (from_v pg.nv (by omega)).mono ?_
        rintro e w7 ⟨A7, n7, c7, rfl, dw, k7, B7⟩
        replace ha := ha.below B7
        replace hb := hb.below B7
        replace hc := hc.below B7
        replace pg := pg.below B7
        replace pl := pl.below B7
        replace dx := dx.below B7
        replace dy := dy.below B7
        replace dz := dz.below B7
        replace hW := hW.trans (B7.mono hW.size)
        go_wp2_with fail
        refine (rdivides_v dx dw (by omega) (by omega) (decide_eq_true (Nat.gcd_dvd_left x y))).mono ?_
        rintro e w8 ⟨rfl, B8⟩
        replace ha := ha.below B8
        replace hb := hb.below B8
        replace hc := hc.below B8
        replace pg := pg.below B8
        replace pl := pl.below B8
        replace dx := dx.below B8
        replace dy := dy.below B8
        replace dz := dz.below B8
        replace dw := dw.below B8
        replace hW := hW.trans (B8.mono hW.size)
        go_wp2_with fail
        refine (rdivides_v dy dw (by omega) (by omega) (decide_eq_true (Nat.gcd_dvd_right x y))).mono ?_
        rintro e w9 ⟨rfl, B9⟩
        replace ha := ha.below B9
        replace hb := hb.below B9
        replace hc := hc.below B9
        replace pg := pg.below B9
        replace pl := pl.below B9
        replace dx := dx.below B9
        replace dy := dy.below B9
        replace dz := dz.below B9
        replace dw := dw.below B9
        replace hW := hW.trans (B9.mono hW.size)
        go_wp2_with fail
        refine (mulc_v pg.nv pl.nv (by omega) (by omega)).mono ?_
        rintro e w10 ⟨A10, n10, c10, rfl, m1, k10, B10⟩
        replace ha := ha.below B10
        replace hb := hb.below B10
        replace hc := hc.below B10
        replace pg := pg.below B10
        replace pl := pl.below B10
        replace dx := dx.below B10
        replace dy := dy.below B10
        replace dz := dz.below B10
        replace dw := dw.below B10
        replace hW := hW.trans (B10.mono hW.size)
        go_wp2_with fail
        refine (mulc_v ha hb (by omega) (by omega)).mono ?_
        rintro e w11 ⟨A11, n11, c11, rfl, m2, k11, B11⟩
        replace ha := ha.below B11
        replace hb := hb.below B11
        replace hc := hc.below B11
        replace pg := pg.below B11
        replace pl := pl.below B11
        replace dx := dx.below B11
        replace dy := dy.below B11
        replace dz := dz.below B11
        replace dw := dw.below B11
        replace m1 := m1.below B11
        replace hW := hW.trans (B11.mono hW.size)
        go_wp2_with fail
        refine (cmp_same_v m1.nv m2.nv (lcmV_mul x y)).mono ?_
        rintro e w12 ⟨rfl, B12⟩
        replace ha := ha.below B12
        replace hb := hb.below B12
        replace hc := hc.below B12
        replace pg := pg.below B12
        replace pl := pl.below B12
        replace dx := dx.below B12
        replace dy := dy.below B12
        replace dz := dz.below B12
        replace dw := dw.below B12
        replace m1 := m1.below B12
        replace m2 := m2.below B12
        replace hW := hW.trans (B12.mono hW.size)
        go_upto_region 7 with fail
        clear m1 m2 pg pl
        go_cut [13] (BoCut w12 x y z)
        case first =>
          have hV := Below.refl w12.heap.size w12
          clear hW
          by_cases hz : z = 0
          · go_wp2_with fail
            refine (rzero_v dz (decide_eq_true hz)).mono ?_
            rintro e w31 ⟨rfl, rfl⟩
            go_wp2_with fail
            go_meet
            exact ⟨false, rfl, (fun h => by cases h), hV⟩
          · have HZ := Lib.hid (decide_eq_false hz)
            have HZP := Lib.hid (Nat.pos_of_ne_zero hz)
            clear hz
            by_cases hzx : z ∣ x
            · have HZX := Lib.hid (decide_eq_true hzx)
              have HZXP := Lib.hid hzx
              clear hzx
              by_cases hzy : z ∣ y
              · have HZY := Lib.hid (decide_eq_true hzy)
                have HZYP := Lib.hid hzy
                clear hzy
                go_wp2_with fail
                refine (rzero_v dz HZ.out).mono ?_
                rintro e w31 ⟨rfl, rfl⟩
                go_wp2_with fail
                refine (rdivides_v dx dz (by omega) (by omega) HZX.out).mono ?_
                rintro e w32 ⟨rfl, B32⟩
                replace dx := dx.below B32
                replace dy := dy.below B32
                replace dz := dz.below B32
                replace dw := dw.below B32
                replace hV := hV.trans (B32.mono hV.size)
                go_wp2_with fail
                refine (rdivides_v dy dz (by omega) (by omega) HZY.out).mono ?_
                rintro e w33 ⟨rfl, B33⟩
                replace dx := dx.below B33
                replace dy := dy.below B33
                replace dz := dz.below B33
                replace dw := dw.below B33
                replace hV := hV.trans (B33.mono hV.size)
                go_wp2_with fail
                go_meet
                exact ⟨true, rfl, (fun _ => ⟨HZP.out, HZXP.out, HZYP.out⟩), hV⟩
              · have HZY := Lib.hid (decide_eq_false hzy)
                clear hzy
                go_wp2_with fail
                refine (rzero_v dz HZ.out).mono ?_
                rintro e w31 ⟨rfl, rfl⟩
                go_wp2_with fail
                refine (rdivides_v dx dz (by omega) (by omega) HZX.out).mono ?_
                rintro e w32 ⟨rfl, B32⟩
                replace dx := dx.below B32
                replace dy := dy.below B32
                replace dz := dz.below B32
                replace dw := dw.below B32
                replace hV := hV.trans (B32.mono hV.size)
                go_wp2_with fail
                refine (rdivides_v dy dz (by omega) (by omega) HZY.out).mono ?_
                rintro e w33 ⟨rfl, B33⟩
                replace dx := dx.below B33
                replace dy := dy.below B33
                replace dz := dz.below B33
                replace dw := dw.below B33
                replace hV := hV.trans (B33.mono hV.size)
                go_wp2_with fail
                go_meet
                exact ⟨false, rfl, (fun h => by cases h), hV⟩
            · have HZX := Lib.hid (decide_eq_false hzx)
              clear hzx
              go_wp2_with fail
              refine (rzero_v dz HZ.out).mono ?_
              rintro e w31 ⟨rfl, rfl⟩
              go_wp2_with fail
              refine (rdivides_v dx dz (by omega) (by omega) HZX.out).mono ?_
              rintro e w32 ⟨rfl, B32⟩
              replace dx := dx.below B32
              replace dy := dy.below B32
              replace dz := dz.below B32
              replace dw := dw.below B32
              replace hV := hV.trans (B32.mono hV.size)
              go_wp2_with fail
              go_meet
              exact ⟨false, rfl, (fun h => by cases h), hV⟩
        case rest =>
          obtain ⟨bo, rfl, hbo, B30⟩ := hcut
          replace dx := dx.below B30
          replace dy := dy.below B30
          replace dz := dz.below B30
          replace dw := dw.below B30
          replace hW := hW.trans (B30.mono hW.size)
          clear ha hb hc
          cases bo
          · clear hbo
            by_cases hx0 : x = 0
            · have HX0 := Lib.hid (decide_eq_true hx0)
              by_cases hy0 : y = 0
              · have HY0 := Lib.hid (decide_eq_true hy0)
                have HG0 := Lib.hid (show decide (Nat.gcd x y = 0) = true from decide_eq_true (by rw [hx0, hy0]; rfl))
                clear hx0 hy0
                go_wp2_with fail
                refine (rzero_v dw HG0.out).mono ?_
                rintro e w41 ⟨rfl, rfl⟩
                go_wp2_with fail
                refine (rzero_v dx HX0.out).mono ?_
                rintro e w42 ⟨rfl, rfl⟩
                go_wp2_with fail
                refine (rzero_v dy HY0.out).mono ?_
                rintro e w43 ⟨rfl, rfl⟩
                go_wp2
                go_ret
                exact ⟨rfl, hW⟩
              · have HY0 := Lib.hid (decide_eq_false hy0)
                have HG0 := Lib.hid (show decide (Nat.gcd x y = 0) = false from decide_eq_false (by rw [hx0, Nat.gcd_zero_left]; exact hy0))
                clear hx0 hy0
                go_wp2_with fail
                refine (rzero_v dw HG0.out).mono ?_
                rintro e w41 ⟨rfl, rfl⟩
                go_wp2_with fail
                refine (rzero_v dx HX0.out).mono ?_
                rintro e w42 ⟨rfl, rfl⟩
                go_wp2_with fail
                refine (rzero_v dy HY0.out).mono ?_
                rintro e w43 ⟨rfl, rfl⟩
                go_wp2
                go_ret
                exact ⟨rfl, hW⟩
            · have HX0 := Lib.hid (decide_eq_false hx0)
              have HG0 := Lib.hid (show decide (Nat.gcd x y = 0) = false from decide_eq_false (fun h => hx0 (Nat.eq_zero_of_gcd_eq_zero_left h)))
              clear hx0
              go_wp2_with fail
              refine (rzero_v dw HG0.out).mono ?_
              rintro e w41 ⟨rfl, rfl⟩
              go_wp2_with fail
              refine (rzero_v dx HX0.out).mono ?_
              rintro e w42 ⟨rfl, rfl⟩
              go_wp2
              go_ret
              exact ⟨rfl, hW⟩
          · have HDV := Lib.hid (show decide (z ∣ Nat.gcd x y) = true from decide_eq_true (Nat.dvd_gcd (hbo rfl).2.1 (hbo rfl).2.2))
            clear hbo
            by_cases hx0 : x = 0
            · have HX0 := Lib.hid (decide_eq_true hx0)
              by_cases hy0 : y = 0
              · have HY0 := Lib.hid (decide_eq_true hy0)
                have HG0 := Lib.hid (show decide (Nat.gcd x y = 0) = true from decide_eq_true (by rw [hx0, hy0]; rfl))
                clear hx0 hy0
                go_wp2_with fail
                refine (rdivides_v dw dz (by omega) (by omega) HDV.out).mono ?_
                rintro e w41 ⟨rfl, B41⟩
                replace dx := dx.below B41
                replace dy := dy.below B41
                replace dz := dz.below B41
                replace dw := dw.below B41
                replace hW := hW.trans (B41.mono hW.size)
                go_wp2_with fail
                refine (rzero_v dw HG0.out).mono ?_
                rintro e w42 ⟨rfl, rfl⟩
                go_wp2_with fail
                refine (rzero_v dx HX0.out).mono ?_
                rintro e w43 ⟨rfl, rfl⟩
                go_wp2_with fail
                refine (rzero_v dy HY0.out).mono ?_
                rintro e w44 ⟨rfl, rfl⟩
                go_wp2
                go_ret
                exact ⟨rfl, hW⟩
              · have HY0 := Lib.hid (decide_eq_false hy0)
                have HG0 := Lib.hid (show decide (Nat.gcd x y = 0) = false from decide_eq_false (by rw [hx0, Nat.gcd_zero_left]; exact hy0))
                clear hx0 hy0
                go_wp2_with fail
                refine (rdivides_v dw dz (by omega) (by omega) HDV.out).mono ?_
                rintro e w41 ⟨rfl, B41⟩
                replace dx := dx.below B41
                replace dy := dy.below B41
                replace dz := dz.below B41
                replace dw := dw.below B41
                replace hW := hW.trans (B41.mono hW.size)
                go_wp2_with fail
                refine (rzero_v dw HG0.out).mono ?_
                rintro e w42 ⟨rfl, rfl⟩
                go_wp2_with fail
                refine (rzero_v dx HX0.out).mono ?_
                rintro e w43 ⟨rfl, rfl⟩
                go_wp2_with fail
                refine (rzero_v dy HY0.out).mono ?_
                rintro e w44 ⟨rfl, rfl⟩
                go_wp2
                go_ret
                exact ⟨rfl, hW⟩
            · have HX0 := Lib.hid (decide_eq_false hx0)
              have HG0 := Lib.hid (show decide (Nat.gcd x y = 0) = false from decide_eq_false (fun h => hx0 (Nat.eq_zero_of_gcd_eq_zero_left h)))
              clear hx0
              go_wp2_with fail
              refine (rdivides_v dw dz (by omega) (by omega) HDV.out).mono ?_
              rintro e w41 ⟨rfl, B41⟩
              replace dx := dx.below B41
              replace dy := dy.below B41
              replace dz := dz.below B41
              replace dw := dw.below B41
              replace hW := hW.trans (B41.mono hW.size)
              go_wp2_with fail
              refine (rzero_v dw HG0.out).mono ?_
              rintro e w42 ⟨rfl, rfl⟩
              go_wp2_with fail
              refine (rzero_v dx HX0.out).mono ?_
              rintro e w43 ⟨rfl, rfl⟩
              go_wp2
              go_ret
              exact ⟨rfl, hW⟩

      · go_enter Try.func3, Try.ntmps3
        go_wp2_with fail
        refine (dawake_calls _).mono ?_
        rintro e w1 ⟨rfl, B1⟩
        replace hW := hW.trans (B1.mono hW.size)
        go_wp2_with fail
        refine (dawake_calls _).mono ?_
        rintro e w2 ⟨rfl, B2⟩
        replace hW := hW.trans (B2.mono hW.size)
        go_wp2
        go_ret
        exact ⟨rfl, hW⟩

    · go_enter Try.func3, Try.ntmps3
      go_wp2_with fail
      refine (dawake_calls _).mono ?_
      rintro e w1 ⟨rfl, B1⟩
      replace hW := hW.trans (B1.mono hW.size)
      go_wp2_with fail
      refine (dawake_calls _).mono ?_
      rintro e w2 ⟨rfl, B2⟩
      replace hW := hW.trans (B2.mono hW.size)
      go_wp2
      go_ret
      exact ⟨rfl, hW⟩

  · go_enter Try.func3, Try.ntmps3
    go_wp2_with fail
    refine (dawake_calls _).mono ?_
    rintro e w1 ⟨rfl, B1⟩
    replace hW := hW.trans (B1.mono hW.size)
    go_wp2_with fail
    refine (dawake_calls _).mono ?_
    rintro e w2 ⟨rfl, B2⟩
    replace hW := hW.trans (B2.mono hW.size)
    go_wp2
    go_ret
    exact ⟨rfl, hW⟩

end Go.Proofs.Ytnnohfkocaajfaa
