/-
  The walk of IntSmall.
-/
import Derived.Test.YtnkmoeihlfdjbaaZintD
import Derived.Deep.DeepCutAuto
import Derived.IntWalk
/-! The walk of IntSmall. -/
namespace Go.Proofs.Ytnkmoeihlfdjbaa
open Go.RowKit
set_option linter.unusedVariables false
set_option linter.unusedSimpArgs false

theorem zsmall_yes {A : Option Addr} {n c : Nat} {s : Bool} {z : Int} {w : World} (hx : Zv w s A n c z) (h1 : -9223372036854775808 ≤ z) (h2 : z ≤ 9223372036854775807) :
    Calls Try.prog 45 #[.agg #[.bool s, .slice A n c]] w fun e w' => e = .returned (.tuple #[.int .i64 z, .bool true]) ∧ Below w.heap.size w w' := by
  refine (zsmall_v hx).mono ?_
  rintro e w' ⟨rfl, hb⟩
  exact ⟨by rw [if_pos ⟨h1, h2⟩, decide_eq_true ⟨h1, h2⟩], hb⟩
theorem zsmall_no {A : Option Addr} {n c : Nat} {s : Bool} {z : Int} {w : World} (hx : Zv w s A n c z) (h : ¬ (-9223372036854775808 ≤ z ∧ z ≤ 9223372036854775807)) :
    Calls Try.prog 45 #[.agg #[.bool s, .slice A n c]] w fun e w' => e = .returned (.tuple #[.int .i64 0, .bool false]) ∧ Below w.heap.size w w' := by
  refine (zsmall_v hx).mono ?_
  rintro e w' ⟨rfl, hb⟩
  exact ⟨by rw [if_neg h, decide_eq_false h], hb⟩
/-- The big product: itself, or too great. -/
theorem small_big {x v : Int} {b : Bool} (hv : (if x = 0 then 0 else if x = 1 ∨ x = -1 then 9223372036854775807 else 0) = v) (hb : decide (x = 0 ∨ x = 1 ∨ x = -1) = b) {A : Option Addr} {n c : Nat} {s : Bool} {w : World} (hx : Zv w s A n c (x * x * 9223372036854775807)) :
    Calls Try.prog 45 #[.agg #[.bool s, .slice A n c]] w fun e w' => e = .returned (.tuple #[.int .i64 v, .bool b]) ∧ Below w.heap.size w w' := by
  by_cases h0 : x = 0
  · subst h0
    simp at hv hb
    subst hv hb
    exact zsmall_yes (by simpa using hx) (by omega) (by omega)
  · by_cases h1 : x = 1 ∨ x = -1
    · have e : x * x * 9223372036854775807 = 9223372036854775807 := by rcases h1 with rfl | rfl <;> rfl
      rw [e] at hx
      rw [if_neg h0, if_pos h1] at hv
      rw [decide_eq_true (.inr h1)] at hb
      subst hv hb
      exact zsmall_yes hx (by omega) (by omega)
    · rw [if_neg h0, if_neg h1] at hv
      rw [decide_eq_false (by rintro (h | h); exact h0 h; exact h1 h)] at hb
      subst hv hb
      refine zsmall_no hx ?_
      have h4 : 4 ≤ x * x := by
        rcases Int.lt_trichotomy x 0 with h | h | h
        · have := Int.mul_le_mul (a := 2) (b := 2) (c := -x) (d := -x) (by omega) (by omega) (by omega) (by omega)
          rw [Int.neg_mul_neg] at this
          omega
        · omega
        · have := Int.mul_le_mul (a := 2) (b := 2) (c := x) (d := x) (by omega) (by omega) (by omega) (by omega)
          omega
      omega
theorem tdiv_small {x : Int} (h1 : -9223372036854775808 ≤ x) (h2 : x ≤ 9223372036854775807) : -2147483648 ≤ x.tdiv 4294967296 ∧ x.tdiv 4294967296 ≤ 2147483648 := by
  rcases Int.lt_or_le x 0 with h | h
  · have e : x.tdiv 4294967296 = -((-x) / 4294967296) := by
      have := Int.neg_tdiv (a := -x) (b := 4294967296)
      rw [Int.neg_neg] at this
      rw [this, Int.tdiv_eq_ediv_of_nonneg (by omega)]
    rw [e]; omega
  · rw [Int.tdiv_eq_ediv_of_nonneg h]; omega
theorem small_mul {p q : Int} (hp : -2147483648 ≤ p ∧ p ≤ 2147483648) (hq : -2147483648 ≤ q ∧ q ≤ 2147483648) : -4611686018427387904 ≤ p * q ∧ p * q ≤ 4611686018427387904 := by
  have h1 : (p * q).natAbs ≤ 2147483648 * 2147483648 := by
    rw [Int.natAbs_mul]
    exact Nat.mul_le_mul (by omega) (by omega)
  omega
set_option maxRecDepth 100000 in
set_option maxHeartbeats 1000000 in
theorem ismall_calls (x y : Int) (w : World) (hx : -9223372036854775808 ≤ x ∧ x ≤ 9223372036854775807) (hy : -9223372036854775808 ≤ y ∧ y ≤ 9223372036854775807) :
    Calls Try.prog 9 #[.int .i64 x, .int .i64 y] w (TruePost w) := by
  obtain ⟨hx1, hx2⟩ := hx
  obtain ⟨hy1, hy2⟩ := hy
  have hW := Below.refl w.heap.size w
  go_enter Try.func9, Try.ntmps9
  go_wp2_with fail
  refine (zof_v x hx1 hx2 _).mono ?_
  rintro e w1 ⟨s1, A1, n1, c1, rfl, p1, k1, B1⟩
  replace hW := hW.trans (B1.mono hW.size)
  go_wp2_with fail
  refine (zof_v y hy1 hy2 _).mono ?_
  rintro e w2 ⟨s2, A2, n2, c2, rfl, p2, k2, B2⟩
  replace p1 := p1.below B2
  replace hW := hW.trans (B2.mono hW.size)
  obtain ⟨w3, hw3, I1, I2, z0⟩ := open2 w2 s1 s2 A1 A2 n1 c1 n2 c2
  have HW := Lib.hid hw3.symm
  replace p1 := p1.below z0
  replace p2 := p2.below z0
  replace hW := hW.trans (z0.mono hW.size)
  clear B1 B2 z0 hw3
  have H1 := Lib.hid I1
  have H2 := Lib.hid I2
  obtain ⟨a1, a2, a3, a4, a5⟩ := I1
  obtain ⟨b1, b2, b3, b4, b5⟩ := I2
  go_wp2_with fail
  rw [HW.out]
  refine (zsmall_yes p1.zv hx1 hx2).mono ?_
  rintro e w4 ⟨rfl, B4⟩
  replace p1 := p1.below B4
  replace p2 := p2.below B4
  replace hW := hW.trans (B4.mono hW.size)
  clear a1 a2 a3 a4 a5 b1 b2 b3 b4 b5
  have I1 := H1.out.below B4
  have I2 := H2.out.below B4
  clear H1 H2
  have H1 := Lib.hid I1
  have H2 := Lib.hid I2
  obtain ⟨a1, a2, a3, a4, a5⟩ := I1
  clear I2
  go_wp2_with fail
  refine (zmul_v p1.zv p1.zv (by omega) (by omega)).mono ?_
  rintro e w5 ⟨s5, A5, n5, c5, rfl, p5, k5, B5⟩
  replace p1 := p1.below B5
  replace p2 := p2.below B5
  replace hW := hW.trans (B5.mono hW.size)
  go_wp2_with fail
  refine (zof_v 9223372036854775807 (by omega) (by omega) _).mono ?_
  rintro e w6 ⟨s6, A6, n6, c6, rfl, p6, k6, B6⟩
  replace p1 := p1.below B6
  replace p2 := p2.below B6
  replace p5 := p5.below B6
  replace hW := hW.trans (B6.mono hW.size)
  go_wp2_with fail
  refine (zmul_v p5.zv p6.zv (by omega) (by omega)).mono ?_
  rintro e w7 ⟨s7, A7, n7, c7, rfl, p7, k7, B7⟩
  replace p1 := p1.below B7
  replace p2 := p2.below B7
  replace hW := hW.trans (B7.mono hW.size)
  have I1 := ((H1.out.below B5).below B6).below B7
  have I2 := ((H2.out.below B5).below B6).below B7
  clear p5 p6 H1 H2 a1 a2 a3 a4 a5 B4 B5 B6 B7
  have z8 := zba w7 (.cells #[.bool s7, .slice A7 n7 c7] 25)
  obtain ⟨w8, hw8⟩ : ∃ w8, w8 = w7.alloc (.cells #[.bool s7, .slice A7 n7 c7] 25) := ⟨_, rfl⟩
  have I7 : Ib w8 w7.heap.size s7 A7 n7 c7 := by rw [hw8]; exact Ib.new _ _ _ _ _ _
  rw [← hw8] at z8
  have HW8 := Lib.hid hw8.symm
  replace p1 := p1.below z8
  replace p2 := p2.below z8
  replace p7 := p7.below z8
  replace hW := hW.trans (z8.mono hW.size)
  replace I1 := I1.below z8
  replace I2 := I2.below z8
  clear z8 hw8
  have H1 := Lib.hid I1
  have H2 := Lib.hid I2
  obtain ⟨v, hv⟩ : ∃ v : Int, (if x = 0 then 0 else if x = 1 ∨ x = -1 then 9223372036854775807 else 0) = v := ⟨_, rfl⟩
  obtain ⟨b, hb⟩ : ∃ b, decide (x = 0 ∨ x = 1 ∨ x = -1) = b := ⟨_, rfl⟩
  have HV := Lib.hid hv
  have HB := Lib.hid hb
  clear hv hb I1 I2
  obtain ⟨a1, a2, a3, a4, a5⟩ := I7
  go_wp2_with fail
  rw [HW8.out]
  refine (small_big HV.out HB.out p7.zv).mono ?_
  rintro e w9 ⟨rfl, B9⟩
  replace p1 := p1.below B9
  replace p2 := p2.below B9
  replace hW := hW.trans (B9.mono hW.size)
  have I1 := H1.out.below B9
  have I2 := H2.out.below B9
  clear H1 H2 a1 a2 a3 a4 a5 p7
  go_wp2_with fail
  refine (zawake_calls _).mono ?_
  rintro e w10 ⟨rfl, B10⟩
  replace p1 := p1.below B10
  replace p2 := p2.below B10
  replace hW := hW.trans (B10.mono hW.size)
  replace I1 := I1.below B10
  replace I2 := I2.below B10
  clear B9 B10
  have H1 := Lib.hid I1
  have H2 := Lib.hid I2
  obtain ⟨a1, a2, a3, a4, a5⟩ := I1
  obtain ⟨b1, b2, b3, b4, b5⟩ := I2
  go_wp2_with fail
  obtain ⟨r, hr⟩ : ∃ r, (x - y).sign = r := ⟨_, rfl⟩
  obtain ⟨bl, hbl⟩ : ∃ bl, decide (x < y) = bl := ⟨_, rfl⟩
  obtain ⟨be, hbe⟩ : ∃ be, decide (x = y) = be := ⟨_, rfl⟩
  have hrl : decide (r < 0) = bl := by
    rw [← hbl, ← hr, decide_eq_decide]
    constructor
    · intro h; have := sign_neg h; omega
    · intro h; rw [Int.sign_eq_neg_one_of_neg (by omega)]; omega
  have hbe2 : (x == y) = be := by rw [← hbe, Bool.eq_iff_iff, beq_iff_eq, decide_eq_true_iff]
  have HR := Lib.hid hr
  have HBE := Lib.hid hbe
  clear hr hbe
  refine (zcmp_v p1.zv p2.zv (by omega) (by omega) HR.out).mono ?_
  rintro e w11 ⟨rfl, B11⟩
  replace p1 := p1.below B11
  replace p2 := p2.below B11
  replace hW := hW.trans (B11.mono hW.size)
  clear a1 a2 a3 a4 a5 b1 b2 b3 b4 b5
  obtain ⟨a1, a2, a3, a4, a5⟩ := H1.out.below B11
  obtain ⟨b1, b2, b3, b4, b5⟩ := H2.out.below B11
  go_wp2_with fail
  refine (zsame_v p1.zv p2.zv (by omega) (by omega) HBE.out).mono ?_
  rintro e w12 ⟨rfl, B12⟩
  replace hW := hW.trans (B12.mono hW.size)
  clear a1 a2 a3 a4 a5 b1 b2 b3 b4 b5 p1 p2 B11 B12 H1 H2
  obtain ⟨p, hp⟩ : ∃ p, x.tdiv 4294967296 = p := ⟨_, rfl⟩
  obtain ⟨q, hq⟩ : ∃ q, y.tdiv 4294967296 = q := ⟨_, rfl⟩
  have hp1 : -2147483648 ≤ p ∧ p ≤ 2147483648 := by rw [← hp]; exact tdiv_small hx1 hx2
  have hq1 : -2147483648 ≤ q ∧ q ≤ 2147483648 := by rw [← hq]; exact tdiv_small hy1 hy2
  obtain ⟨hp2, hp3⟩ := hp1
  obtain ⟨hq2, hq3⟩ := hq1
  have hm : -4611686018427387904 ≤ p * q ∧ p * q ≤ 4611686018427387904 := small_mul ⟨hp2, hp3⟩ ⟨hq2, hq3⟩
  obtain ⟨m, hm0⟩ : ∃ m, p * q = m := ⟨_, rfl⟩
  rw [hm0] at hm
  obtain ⟨hm1, hm2⟩ := hm
  have HM := Lib.hid hm0
  have ew1 : IntKind.i64.wrap p = p := IntWalk.i64_in _ (by omega)
  have ew2 : IntKind.i64.wrap q = q := IntWalk.i64_in _ (by omega)
  have ew3 : IntKind.i64.wrap m = m := IntWalk.i64_in _ (by omega)
  have hcase : (b = true ∧ v = 0 ∧ (x != 0) = false ∧ (x == 0) = true ∧ (x != 1) = true ∧ (x != -1) = true) ∨ (b = true ∧ (x != 0) = true ∧ (x == 0) = false ∧ (x != 1) = false ∧ (x != -1) = true) ∨ (b = true ∧ (x != 0) = true ∧ (x == 0) = false ∧ (x != 1) = true ∧ (x != -1) = false) ∨ (b = false ∧ v = 0) := by
    have hv := HV.out
    have hb := HB.out
    by_cases h0 : x = 0
    · subst h0
      simp at hv hb
      exact .inl ⟨hb, hv.symm, rfl, rfl, rfl, rfl⟩
    · by_cases h1 : x = 1
      · subst h1
        simp at hb
        exact .inr (.inl ⟨hb, rfl, rfl, rfl, rfl⟩)
      · by_cases h2 : x = -1
        · subst h2
          simp at hb
          exact .inr (.inr (.inl ⟨hb, rfl, rfl, rfl, rfl⟩))
        · rw [if_neg h0, if_neg (by omega)] at hv
          rw [decide_eq_false (by omega)] at hb
          exact .inr (.inr (.inr ⟨hb.symm, hv.symm⟩))
  rcases hcase with ⟨rfl, rfl, u1, u2, u3, u4⟩ | ⟨rfl, u1, u2, u3, u4⟩ | ⟨rfl, u1, u2, u3, u4⟩ | ⟨rfl, rfl⟩
  all_goals
    go_wp2_with fail
    refine (zof_v p (by omega) (by omega) _).mono ?_
    rintro e w13 ⟨s13, A13, n13, c13, rfl, p13, k13, B13⟩
    replace hW := hW.trans (B13.mono hW.size)
    go_wp2_with fail
    refine (zof_v q (by omega) (by omega) _).mono ?_
    rintro e w14 ⟨s14, A14, n14, c14, rfl, p14, k14, B14⟩
    replace p13 := p13.below B14
    replace hW := hW.trans (B14.mono hW.size)
    go_wp2_with fail
    refine (zadd_v p13.zv p14.zv (by omega) (by omega)).mono ?_
    rintro e w15 ⟨s15, A15, n15, c15, rfl, p15, k15, B15⟩
    replace hW := hW.trans (B15.mono hW.size)
    clear p13 p14
    go_wp2_with fail
    refine (zsmall_yes p15.zv (by omega) (by omega)).mono ?_
    rintro e w16 ⟨rfl, B16⟩
    replace hW := hW.trans (B16.mono hW.size)
    clear p15 B13 B14 B15 B16
    go_wp2_with fail
    refine (zof_v p (by omega) (by omega) _).mono ?_
    rintro e w17 ⟨s17, A17, n17, c17, rfl, p17, k17, B17⟩
    replace hW := hW.trans (B17.mono hW.size)
    go_wp2_with fail
    refine (zof_v q (by omega) (by omega) _).mono ?_
    rintro e w18 ⟨s18, A18, n18, c18, rfl, p18, k18, B18⟩
    replace p17 := p17.below B18
    replace hW := hW.trans (B18.mono hW.size)
    go_wp2_with fail
    refine (zmul_v p17.zv p18.zv (by omega) (by omega)).mono ?_
    rw [HM.out]
    rintro e w19 ⟨s19, A19, n19, c19, rfl, p19, k19, B19⟩
    replace hW := hW.trans (B19.mono hW.size)
    clear p17 p18
    go_wp2_with fail
    refine (zsmall_yes p19.zv (by omega) (by omega)).mono ?_
    rintro e w20 ⟨rfl, B20⟩
    replace hW := hW.trans (B20.mono hW.size)
    clear p19 B17 B18 B19 B20
    go_wp2_with fail
    go_ret
    exact ⟨rfl, hW⟩
end Go.Proofs.Ytnkmoeihlfdjbaa
