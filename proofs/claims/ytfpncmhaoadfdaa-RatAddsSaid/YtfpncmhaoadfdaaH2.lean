/-
  The walk of RatAdds.
-/
import Derived.Test.YtfpncmhaoadfdaaRatW
/-! The walk of RatAdds. -/
namespace Go.Proofs.Ytfpncmhaoadfdaa
open Go.RowKit
set_option linter.unusedVariables false
set_option linter.unusedSimpArgs false

theorem af_sign {N D : Int} {p : Rat} (hD : 0 < D) (hp : Rat.divInt N D = p) : rsg p = N.sign := by
  rw [← hp]
  unfold rsg
  rw [rsg_divInt, Int.sign_eq_one_of_pos hD, Int.mul_one]
theorem af_cmp {N D M E : Int} {p q : Rat} (hD : 0 < D) (hE : 0 < E) (hp : Rat.divInt N D = p) (hq : Rat.divInt M E = q) : (N * E - M * D).sign = rsg (p - q) := by
  have h := rcmp_eq (N := N) (M := M) (show D ≠ 0 by omega) (show E ≠ 0 by omega)
  rw [Int.sign_eq_one_of_pos hD, Int.sign_eq_one_of_pos hE, Int.mul_one, Int.mul_one, hp, hq] at h
  exact h
theorem af_pos {D E : Int} (hD : 0 < D) (hE : 0 < E) : D * E ≠ 0 := by have := Int.mul_pos hD hE; omega
theorem af_add {N D M E : Int} {p q : Rat} (hD : 0 < D) (hE : 0 < E) (hp : Rat.divInt N D = p) (hq : Rat.divInt M E = q) : (p + q).num * (D * E) = (N * E + M * D) * ((p + q).den : Int) := by
  rw [← rq_iff (af_pos hD hE), ← hp, ← hq, radd_divInt (by omega) (by omega)]
theorem af_sub {N D M E : Int} {p q : Rat} (hD : 0 < D) (hE : 0 < E) (hp : Rat.divInt N D = p) (hq : Rat.divInt M E = q) : (p - q).num * (D * E) = (N * E - M * D) * ((p - q).den : Int) := by
  rw [← rq_iff (af_pos hD hE), ← hp, ← hq, rsub_divInt (by omega) (by omega)]
theorem af_mul {N D M E : Int} {p q : Rat} (hD : 0 < D) (hE : 0 < E) (hp : Rat.divInt N D = p) (hq : Rat.divInt M E = q) : (p * q).num * (D * E) = (N * M) * ((p * q).den : Int) := by
  rw [← rq_iff (af_pos hD hE), ← hp, ← hq, rmul_divInt]
theorem af_neg {N D : Int} {p : Rat} (hD : 0 < D) (hp : Rat.divInt N D = p) : (-p).num * D = (-N) * ((-p).den : Int) := by
  rw [← rq_iff (by omega), ← hp, Rat.neg_divInt]
theorem af_quo {N D M E : Int} {p q : Rat} (hD : 0 < D) (hE : 0 < E) (hp : Rat.divInt N D = p) (hq : Rat.divInt M E = q) (h0 : q ≠ 0) : (p / q).num * (M * D) = (N * E) * ((p / q).den : Int) := by
  have hM : M ≠ 0 := fun h => h0 (by rw [← hq, h]; simp)
  rw [← rq_iff (Int.mul_ne_zero hM (by omega)), ← hp, ← hq, ← rquo_eq, Int.mul_comm D M]
theorem af_none {p q : Rat} (h0 : q = 0) : (p / q).num * 1 = 0 * ((p / q).den : Int) := by
  rw [h0, Rat.div_def, Rat.inv_zero, Rat.mul_zero]; rfl
theorem af_zero {M : Int} {q : Rat} {s : Int} (h : rsg q = s) : (s != 0) = decide (q ≠ 0) := by
  rw [← h]
  by_cases k : q = 0
  · subst k; rfl
  · rw [decide_eq_true k, bne_iff_ne]; exact fun e => k (rsg_eq.1 e)
set_option maxRecDepth 100000 in
set_option maxHeartbeats 16000000 in
theorem adds_few1 {A B C D' : Option Addr} {n c m d l e' f' h' : Nat} {s t u v : Bool} {N D M E : Int} {w : World} (hn : Zv w s A n c N) (hd : Zv w t B m d D) (hm : Zv w u C l e' M) (he : Zv w v D' f' h' E) (n9 : n ≤ 9223372036854775807) (m9 : m ≤ 9223372036854775807) (l9 : l ≤ 9223372036854775807) (f9 : f' ≤ 9223372036854775807) (h1 : ¬ (n ≤ 4 ∧ m ≤ 4)) :
    Calls Try.prog 4 #[.agg #[.bool s, .slice A n c, .bool t, .slice B m d], .agg #[.bool u, .slice C l e', .bool v, .slice D' f' h']] w (TruePost w) := by
  have hW := Below.refl w.heap.size w
  obtain ⟨wp0, hwp0⟩ : ∃ x, x = w.alloc (.cells #[.bool s, .slice A n c, .bool t, .slice B m d] 28) := ⟨_, rfl⟩
  have zp0 : Below w.heap.size w wp0 := by rw [hwp0]; exact zba _ _
  have sp0 : wp0.heap.size = w.heap.size + 1 := by rw [hwp0, World.size_alloc]
  have Ia : Rb wp0 w.heap.size s A n c t B m d := by rw [hwp0]; exact Rb.new _ _ _ _ _ _ _ _ _ _
  replace hn := hn.below zp0
  replace hd := hd.below zp0
  replace hm := hm.below zp0
  replace he := he.below zp0
  replace hW := hW.trans (zp0.mono hW.size)
  have H_a := Lib.hid Ia
  clear Ia zp0
  obtain ⟨wp1, hwp1⟩ : ∃ x, x = wp0.alloc (.cells #[.bool u, .slice C l e', .bool v, .slice D' f' h'] 28) := ⟨_, rfl⟩
  have zp1 : Below wp0.heap.size wp0 wp1 := by rw [hwp1]; exact zba _ _
  have sp1 : wp1.heap.size = w.heap.size + 1 + 1 := by rw [hwp1, World.size_alloc, sp0]
  have Ib : Rb wp1 (w.heap.size + 1) u C l e' v D' f' h' := by rw [hwp1, ← sp0]; exact Rb.new _ _ _ _ _ _ _ _ _ _
  replace H_a := Lib.hid (H_a.out.below zp1)
  replace hn := hn.below zp1
  replace hd := hd.below zp1
  replace hm := hm.below zp1
  replace he := he.below zp1
  replace hW := hW.trans (zp1.mono hW.size)
  have H_b := Lib.hid Ib
  clear Ib zp1
  have HW : Hid (((w.alloc (.cells #[.bool s, .slice A n c, .bool t, .slice B m d] 28)).alloc (.cells #[.bool u, .slice C l e', .bool v, .slice D' f' h'] 28)) = wp1) := Lib.hid (by rw [hwp1, hwp0])
  have nn_a_b : ¬ (w.heap.size = (w.heap.size + 1)) := by omega
  have nm_a_b : ¬ ((w.heap.size + 1) = w.heap.size) := by omega
  have lw_a : w.heap.size ≤ w.heap.size := by omega
  have lw_b : w.heap.size ≤ (w.heap.size + 1) := by omega
  clear hwp0 hwp1 sp0 sp1
  have HF1 : Hid (decide (n ≤ 4 ∧ m ≤ 4) = false) := Lib.hid (decide_eq_false h1)
  clear h1
  go_enter Try.func4, Try.ntmps4
  obtain ⟨a1, a2, a3, a4, a5, a6, a7, a8, a9⟩ := H_a.out
  obtain ⟨b1, b2, b3, b4, b5, b6, b7, b8, b9⟩ := H_b.out
  go_wp2_with fail
  rw [HW.out]
  clear a1 a2 a3 a4 a5 a6 a7 a8 a9 b1 b2 b3 b4 b5 b6 b7 b8 b9
  refine (qawake_v _).mono ?_
  rintro e w21 ⟨rfl, B21⟩
  replace H_a := Lib.hid (H_a.out.below B21)
  replace H_b := Lib.hid (H_b.out.below B21)
  replace hn := hn.below B21
  replace hd := hd.below B21
  replace hm := hm.below B21
  replace he := he.below B21
  replace hW := hW.trans (B21.mono hW.size)
  clear B21
  obtain ⟨a1, a2, a3, a4, a5, a6, a7, a8, a9⟩ := H_a.out
  obtain ⟨b1, b2, b3, b4, b5, b6, b7, b8, b9⟩ := H_b.out
  go_wp2_with fail
  clear a1 a2 a3 a4 a5 a6 a7 a8 a9 b1 b2 b3 b4 b5 b6 b7 b8 b9
  refine (few7_v (k := 4) (b := false) (by omega) (by omega) (by omega) HF1.out).mono ?_
  rintro e w22 ⟨rfl, B22⟩
  replace H_a := Lib.hid (H_a.out.below B22)
  replace H_b := Lib.hid (H_b.out.below B22)
  replace hn := hn.below B22
  replace hd := hd.below B22
  replace hm := hm.below B22
  replace he := he.below B22
  replace hW := hW.trans (B22.mono hW.size)
  clear B22
  obtain ⟨a1, a2, a3, a4, a5, a6, a7, a8, a9⟩ := H_a.out
  obtain ⟨b1, b2, b3, b4, b5, b6, b7, b8, b9⟩ := H_b.out
  go_wp2_with fail
  clear a1 a2 a3 a4 a5 a6 a7 a8 a9 b1 b2 b3 b4 b5 b6 b7 b8 b9
  refine (qawake_v _).mono ?_
  rintro e w23 ⟨rfl, B23⟩
  replace H_a := Lib.hid (H_a.out.below B23)
  replace H_b := Lib.hid (H_b.out.below B23)
  replace hn := hn.below B23
  replace hd := hd.below B23
  replace hm := hm.below B23
  replace he := he.below B23
  replace hW := hW.trans (B23.mono hW.size)
  clear B23
  go_wp2_with fail
  go_ret
  exact ⟨rfl, hW⟩
set_option maxRecDepth 100000 in
set_option maxHeartbeats 16000000 in
theorem adds_few2 {A B C D' : Option Addr} {n c m d l e' f' h' : Nat} {s t u v : Bool} {N D M E : Int} {w : World} (hn : Zv w s A n c N) (hd : Zv w t B m d D) (hm : Zv w u C l e' M) (he : Zv w v D' f' h' E) (n9 : n ≤ 9223372036854775807) (m9 : m ≤ 9223372036854775807) (l9 : l ≤ 9223372036854775807) (f9 : f' ≤ 9223372036854775807) (h1 : n ≤ 4 ∧ m ≤ 4) (h2 : ¬ (l ≤ 4 ∧ f' ≤ 4)) :
    Calls Try.prog 4 #[.agg #[.bool s, .slice A n c, .bool t, .slice B m d], .agg #[.bool u, .slice C l e', .bool v, .slice D' f' h']] w (TruePost w) := by
  have hW := Below.refl w.heap.size w
  obtain ⟨wp0, hwp0⟩ : ∃ x, x = w.alloc (.cells #[.bool s, .slice A n c, .bool t, .slice B m d] 28) := ⟨_, rfl⟩
  have zp0 : Below w.heap.size w wp0 := by rw [hwp0]; exact zba _ _
  have sp0 : wp0.heap.size = w.heap.size + 1 := by rw [hwp0, World.size_alloc]
  have Ia : Rb wp0 w.heap.size s A n c t B m d := by rw [hwp0]; exact Rb.new _ _ _ _ _ _ _ _ _ _
  replace hn := hn.below zp0
  replace hd := hd.below zp0
  replace hm := hm.below zp0
  replace he := he.below zp0
  replace hW := hW.trans (zp0.mono hW.size)
  have H_a := Lib.hid Ia
  clear Ia zp0
  obtain ⟨wp1, hwp1⟩ : ∃ x, x = wp0.alloc (.cells #[.bool u, .slice C l e', .bool v, .slice D' f' h'] 28) := ⟨_, rfl⟩
  have zp1 : Below wp0.heap.size wp0 wp1 := by rw [hwp1]; exact zba _ _
  have sp1 : wp1.heap.size = w.heap.size + 1 + 1 := by rw [hwp1, World.size_alloc, sp0]
  have Ib : Rb wp1 (w.heap.size + 1) u C l e' v D' f' h' := by rw [hwp1, ← sp0]; exact Rb.new _ _ _ _ _ _ _ _ _ _
  replace H_a := Lib.hid (H_a.out.below zp1)
  replace hn := hn.below zp1
  replace hd := hd.below zp1
  replace hm := hm.below zp1
  replace he := he.below zp1
  replace hW := hW.trans (zp1.mono hW.size)
  have H_b := Lib.hid Ib
  clear Ib zp1
  have HW : Hid (((w.alloc (.cells #[.bool s, .slice A n c, .bool t, .slice B m d] 28)).alloc (.cells #[.bool u, .slice C l e', .bool v, .slice D' f' h'] 28)) = wp1) := Lib.hid (by rw [hwp1, hwp0])
  have nn_a_b : ¬ (w.heap.size = (w.heap.size + 1)) := by omega
  have nm_a_b : ¬ ((w.heap.size + 1) = w.heap.size) := by omega
  have lw_a : w.heap.size ≤ w.heap.size := by omega
  have lw_b : w.heap.size ≤ (w.heap.size + 1) := by omega
  clear hwp0 hwp1 sp0 sp1
  have HF1 : Hid (decide (n ≤ 4 ∧ m ≤ 4) = true) := Lib.hid (decide_eq_true h1)
  have HF2 : Hid (decide (l ≤ 4 ∧ f' ≤ 4) = false) := Lib.hid (decide_eq_false h2)
  clear h1 h2
  go_enter Try.func4, Try.ntmps4
  obtain ⟨a1, a2, a3, a4, a5, a6, a7, a8, a9⟩ := H_a.out
  obtain ⟨b1, b2, b3, b4, b5, b6, b7, b8, b9⟩ := H_b.out
  go_wp2_with fail
  rw [HW.out]
  clear a1 a2 a3 a4 a5 a6 a7 a8 a9 b1 b2 b3 b4 b5 b6 b7 b8 b9
  refine (qawake_v _).mono ?_
  rintro e w21 ⟨rfl, B21⟩
  replace H_a := Lib.hid (H_a.out.below B21)
  replace H_b := Lib.hid (H_b.out.below B21)
  replace hn := hn.below B21
  replace hd := hd.below B21
  replace hm := hm.below B21
  replace he := he.below B21
  replace hW := hW.trans (B21.mono hW.size)
  clear B21
  obtain ⟨a1, a2, a3, a4, a5, a6, a7, a8, a9⟩ := H_a.out
  obtain ⟨b1, b2, b3, b4, b5, b6, b7, b8, b9⟩ := H_b.out
  go_wp2_with fail
  clear a1 a2 a3 a4 a5 a6 a7 a8 a9 b1 b2 b3 b4 b5 b6 b7 b8 b9
  refine (few7_v (k := 4) (b := true) (by omega) (by omega) (by omega) HF1.out).mono ?_
  rintro e w22 ⟨rfl, B22⟩
  replace H_a := Lib.hid (H_a.out.below B22)
  replace H_b := Lib.hid (H_b.out.below B22)
  replace hn := hn.below B22
  replace hd := hd.below B22
  replace hm := hm.below B22
  replace he := he.below B22
  replace hW := hW.trans (B22.mono hW.size)
  clear B22
  obtain ⟨a1, a2, a3, a4, a5, a6, a7, a8, a9⟩ := H_a.out
  obtain ⟨b1, b2, b3, b4, b5, b6, b7, b8, b9⟩ := H_b.out
  go_wp2_with fail
  clear a1 a2 a3 a4 a5 a6 a7 a8 a9 b1 b2 b3 b4 b5 b6 b7 b8 b9
  refine (few7_v (k := 4) (b := false) (by omega) (by omega) (by omega) HF2.out).mono ?_
  rintro e w23 ⟨rfl, B23⟩
  replace H_a := Lib.hid (H_a.out.below B23)
  replace H_b := Lib.hid (H_b.out.below B23)
  replace hn := hn.below B23
  replace hd := hd.below B23
  replace hm := hm.below B23
  replace he := he.below B23
  replace hW := hW.trans (B23.mono hW.size)
  clear B23
  obtain ⟨a1, a2, a3, a4, a5, a6, a7, a8, a9⟩ := H_a.out
  obtain ⟨b1, b2, b3, b4, b5, b6, b7, b8, b9⟩ := H_b.out
  go_wp2_with fail
  clear a1 a2 a3 a4 a5 a6 a7 a8 a9 b1 b2 b3 b4 b5 b6 b7 b8 b9
  refine (qawake_v _).mono ?_
  rintro e w24 ⟨rfl, B24⟩
  replace H_a := Lib.hid (H_a.out.below B24)
  replace H_b := Lib.hid (H_b.out.below B24)
  replace hn := hn.below B24
  replace hd := hd.below B24
  replace hm := hm.below B24
  replace he := he.below B24
  replace hW := hW.trans (B24.mono hW.size)
  clear B24
  go_wp2_with fail
  go_ret
  exact ⟨rfl, hW⟩
set_option maxRecDepth 100000 in
set_option maxHeartbeats 16000000 in
theorem adds_yes {A B C D' : Option Addr} {n c m d l e' f' h' : Nat} {s t u v : Bool} {N D M E : Int} {w : World} (hn : Zv w s A n c N) (hd : Zv w t B m d D) (hm : Zv w u C l e' M) (he : Zv w v D' f' h' E) (h1 : n ≤ 4) (h2 : m ≤ 4) (h3 : l ≤ 4) (h4 : f' ≤ 4) (h0 : Rat.divInt M E ≠ 0) :
    Calls Try.prog 4 #[.agg #[.bool s, .slice A n c, .bool t, .slice B m d], .agg #[.bool u, .slice C l e', .bool v, .slice D' f' h']] w (TruePost w) := by
  have hW := Below.refl w.heap.size w
  obtain ⟨wp0, hwp0⟩ : ∃ x, x = w.alloc (.cells #[.bool s, .slice A n c, .bool t, .slice B m d] 28) := ⟨_, rfl⟩
  have zp0 : Below w.heap.size w wp0 := by rw [hwp0]; exact zba _ _
  have sp0 : wp0.heap.size = w.heap.size + 1 := by rw [hwp0, World.size_alloc]
  have Ia : Rb wp0 w.heap.size s A n c t B m d := by rw [hwp0]; exact Rb.new _ _ _ _ _ _ _ _ _ _
  replace hn := hn.below zp0
  replace hd := hd.below zp0
  replace hm := hm.below zp0
  replace he := he.below zp0
  replace hW := hW.trans (zp0.mono hW.size)
  have H_a := Lib.hid Ia
  clear Ia zp0
  obtain ⟨wp1, hwp1⟩ : ∃ x, x = wp0.alloc (.cells #[.bool u, .slice C l e', .bool v, .slice D' f' h'] 28) := ⟨_, rfl⟩
  have zp1 : Below wp0.heap.size wp0 wp1 := by rw [hwp1]; exact zba _ _
  have sp1 : wp1.heap.size = w.heap.size + 1 + 1 := by rw [hwp1, World.size_alloc, sp0]
  have Ib : Rb wp1 (w.heap.size + 1) u C l e' v D' f' h' := by rw [hwp1, ← sp0]; exact Rb.new _ _ _ _ _ _ _ _ _ _
  replace H_a := Lib.hid (H_a.out.below zp1)
  replace hn := hn.below zp1
  replace hd := hd.below zp1
  replace hm := hm.below zp1
  replace he := he.below zp1
  replace hW := hW.trans (zp1.mono hW.size)
  have H_b := Lib.hid Ib
  clear Ib zp1
  have HW : Hid (((w.alloc (.cells #[.bool s, .slice A n c, .bool t, .slice B m d] 28)).alloc (.cells #[.bool u, .slice C l e', .bool v, .slice D' f' h'] 28)) = wp1) := Lib.hid (by rw [hwp1, hwp0])
  have nn_a_b : ¬ (w.heap.size = (w.heap.size + 1)) := by omega
  have nm_a_b : ¬ ((w.heap.size + 1) = w.heap.size) := by omega
  have lw_a : w.heap.size ≤ w.heap.size := by omega
  have lw_b : w.heap.size ≤ (w.heap.size + 1) := by omega
  clear hwp0 hwp1 sp0 sp1
  have HF1 : Hid (decide (n ≤ 4 ∧ m ≤ 4) = true) := Lib.hid (decide_eq_true ⟨h1, h2⟩)
  have HF2 : Hid (decide (l ≤ 4 ∧ f' ≤ 4) = true) := Lib.hid (decide_eq_true ⟨h3, h4⟩)
  obtain ⟨p, hp⟩ : ∃ p, Rat.divInt N D = p := ⟨_, rfl⟩
  obtain ⟨q, hq⟩ : ∃ p, Rat.divInt M E = p := ⟨_, rfl⟩
  rw [hq] at h0
  have ha := Qv.mk hn hd
  have hb := Qv.mk hm he
  rw [hp] at ha
  rw [hq] at hb
  have hp1 := rq_ref N D
  have hq1 := rq_ref M E
  rw [hp] at hp1
  rw [hq] at hq1
  obtain ⟨N1, hN1⟩ : ∃ x, rN N D = x := ⟨_, rfl⟩
  obtain ⟨D1, hD1⟩ : ∃ x, rD D = x := ⟨_, rfl⟩
  obtain ⟨M1, hM1⟩ : ∃ x, rN M E = x := ⟨_, rfl⟩
  obtain ⟨E1, hE1⟩ : ∃ x, rD E = x := ⟨_, rfl⟩
  have hDp := rD_pos D
  have hEp := rD_pos E
  rw [hN1, hD1] at hp1
  rw [hM1, hE1] at hq1
  rw [hD1] at hDp
  rw [hE1] at hEp
  have C1 : ∀ w : World, VPost (rN N D) 4 w = VPost N1 4 w := fun w => by rw [hN1]
  have C2 : ∀ w : World, ZPost (rD D) 4 w = ZPost D1 4 w := fun w => by rw [hD1]
  have C3 : ∀ w : World, VPost (rN M E) 4 w = VPost M1 4 w := fun w => by rw [hM1]
  have C4 : ∀ w : World, ZPost (rD E) 4 w = ZPost E1 4 w := fun w => by rw [hE1]
  have HA := Lib.hid (af_add hDp hEp hp1 hq1)
  have HS := Lib.hid (af_sub hDp hEp hp1 hq1)
  have HM := Lib.hid (af_mul hDp hEp hp1 hq1)
  have HN := Lib.hid (af_neg hDp hp1)
  obtain ⟨r0, hr0⟩ : ∃ r, rsg (p - q) = r := ⟨_, rfl⟩
  have HC := Lib.hid hr0
  have HC2 : Hid ((N1 * E1 - M1 * D1).sign = r0) := Lib.hid (by rw [af_cmp hDp hEp hp1 hq1, hr0])
  obtain ⟨r1, hr1⟩ : ∃ r, rsg p = r := ⟨_, rfl⟩
  have HP := Lib.hid hr1
  have HP2 : Hid (N1.sign = r1) := Lib.hid (by rw [← af_sign hDp hp1, hr1])
  obtain ⟨s2, hs2'⟩ : ∃ r, rsg q = r := ⟨_, rfl⟩
  have HQ2 : Hid (M1.sign = s2) := Lib.hid (by rw [← af_sign hEp hq1, hs2'])
  have hs2 : (s2 != 0) = true := by rw [af_zero (M := 0) hs2']; exact decide_eq_true h0
  have HB : Hid (decide (q ≠ 0) = true) := Lib.hid (decide_eq_true h0)
  have HX := Lib.hid (af_quo hDp hEp hp1 hq1 h0)
  clear hp hq hp1 hq1 hN1 hD1 hM1 hE1 hDp hEp hr0 hr1 hs2' h0
  go_enter Try.func4, Try.ntmps4
  obtain ⟨a1, a2, a3, a4, a5, a6, a7, a8, a9⟩ := H_a.out
  obtain ⟨b1, b2, b3, b4, b5, b6, b7, b8, b9⟩ := H_b.out
  go_wp2_with fail
  rw [HW.out]
  clear a1 a2 a3 a4 a5 a6 a7 a8 a9 b1 b2 b3 b4 b5 b6 b7 b8 b9
  refine (qawake_v _).mono ?_
  rintro e w21 ⟨rfl, B21⟩
  replace H_a := Lib.hid (H_a.out.below B21)
  replace H_b := Lib.hid (H_b.out.below B21)
  replace hn := hn.below B21
  replace hd := hd.below B21
  replace hm := hm.below B21
  replace he := he.below B21
  replace ha := ha.below B21
  replace hb := hb.below B21
  replace hW := hW.trans (B21.mono hW.size)
  clear B21
  obtain ⟨a1, a2, a3, a4, a5, a6, a7, a8, a9⟩ := H_a.out
  obtain ⟨b1, b2, b3, b4, b5, b6, b7, b8, b9⟩ := H_b.out
  go_wp2_with fail
  clear a1 a2 a3 a4 a5 a6 a7 a8 a9 b1 b2 b3 b4 b5 b6 b7 b8 b9
  refine (few7_v (k := 4) (b := true) (by omega) (by omega) (by omega) HF1.out).mono ?_
  rintro e w22 ⟨rfl, B22⟩
  replace H_a := Lib.hid (H_a.out.below B22)
  replace H_b := Lib.hid (H_b.out.below B22)
  replace hn := hn.below B22
  replace hd := hd.below B22
  replace hm := hm.below B22
  replace he := he.below B22
  replace ha := ha.below B22
  replace hb := hb.below B22
  replace hW := hW.trans (B22.mono hW.size)
  clear B22
  obtain ⟨a1, a2, a3, a4, a5, a6, a7, a8, a9⟩ := H_a.out
  obtain ⟨b1, b2, b3, b4, b5, b6, b7, b8, b9⟩ := H_b.out
  go_wp2_with fail
  clear a1 a2 a3 a4 a5 a6 a7 a8 a9 b1 b2 b3 b4 b5 b6 b7 b8 b9
  refine (few7_v (k := 4) (b := true) (by omega) (by omega) (by omega) HF2.out).mono ?_
  rintro e w23 ⟨rfl, B23⟩
  replace H_a := Lib.hid (H_a.out.below B23)
  replace H_b := Lib.hid (H_b.out.below B23)
  replace hn := hn.below B23
  replace hd := hd.below B23
  replace hm := hm.below B23
  replace he := he.below B23
  replace ha := ha.below B23
  replace hb := hb.below B23
  replace hW := hW.trans (B23.mono hW.size)
  clear B23
  obtain ⟨a1, a2, a3, a4, a5, a6, a7, a8, a9⟩ := H_a.out
  obtain ⟨b1, b2, b3, b4, b5, b6, b7, b8, b9⟩ := H_b.out
  go_wp2_with fail
  clear a1 a2 a3 a4 a5 a6 a7 a8 a9 b1 b2 b3 b4 b5 b6 b7 b8 b9
  refine region7 [] 12 [IsK (.agg #[.bool s, .slice A n c, .bool t, .slice B m d]), IsV N1 4, IsK (.agg #[.bool s, .slice A n c, .bool t, .slice B m d]), IsC D1 4, IsK (.agg #[.bool u, .slice C l e', .bool v, .slice D' f' h']), IsV M1 4, IsK (.agg #[.bool u, .slice C l e', .bool v, .slice D' f' h']), IsC E1 4, IsK undef, IsK undef, IsK undef, IsK undef] (fun _ _ d _ _ h => by cases d <;> exact h) (by kernel_rfl) (by kernel_rfl) (by kernel_rfl) ⟨stay_k _, stay_v _ _, stay_k _, stay_c _ _, stay_k _, stay_v _ _, stay_k _, stay_c _ _, stay_k _, stay_k _, stay_k _, stay_k _, trivial⟩ ?_ ?_
  · refine HopAll.cons rfl ?_ (HopAll.cons rfl ?_ (HopAll.cons rfl ?_ (HopAll.cons rfl ?_ (HopAll.cons rfl ?_ (HopAll.cons rfl ?_ (HopAll.cons rfl ?_ (HopAll.cons rfl ?_ (HopAll.al rfl (HopAll.al rfl (HopAll.al rfl (HopAll.al rfl HopAll.nil)))))))))))
    · intro a w1 hB ho hp K hK
      have e2 : a.eval (.tmp 2) = (.pointer (some ⟨w.heap.size, 0, none⟩)) := ho 2 (by kernel_rfl)
      obtain ⟨u1, u2, u3, u4, u5, u6, u7, u8, u9⟩ := H_a.out.below hB
      exact hop_load (wanted_none rfl) rfl e2 (run_ldq u1 u2 u3 u4) (hK _ _ rfl (Below.refl _ _))
    · intro a w1 hB ho hp K hK
      have e27 : a.eval (.tmp 27) = (.agg #[.bool s, .slice A n c, .bool t, .slice B m d]) := hp 0 27 (by kernel_rfl)
      refine hop_call (wanted_none rfl) rfl (args := #[(.agg #[.bool s, .slice A n c, .bool t, .slice B m d])]) (by simp only [List.map_toArray, List.map_cons, List.map_nil, eval_const, e27]) (ent7 (by kernel_rfl) _ _) ((C1 _) ▸ refn_v (k := 4) (hn.below hB) (hd.below hB) (by omega) (by omega) (by omega) (by omega)) ?_
      rintro e w2 ⟨s, A, n, c, rfl, p, k, B⟩
      exact ⟨_, rfl, hK _ _ ⟨s, A, n, c, rfl, p, by omega⟩ B⟩
    · intro a w1 hB ho hp K hK
      have e2 : a.eval (.tmp 2) = (.pointer (some ⟨w.heap.size, 0, none⟩)) := ho 2 (by kernel_rfl)
      obtain ⟨u1, u2, u3, u4, u5, u6, u7, u8, u9⟩ := H_a.out.below hB
      exact hop_load (wanted_none rfl) rfl e2 (run_ldq u1 u2 u3 u4) (hK _ _ rfl (Below.refl _ _))
    · intro a w1 hB ho hp K hK
      have e29 : a.eval (.tmp 29) = (.agg #[.bool s, .slice A n c, .bool t, .slice B m d]) := hp 2 29 (by kernel_rfl)
      refine hop_call (wanted_none rfl) rfl (args := #[(.agg #[.bool s, .slice A n c, .bool t, .slice B m d])]) (by simp only [List.map_toArray, List.map_cons, List.map_nil, eval_const, e29]) (ent7 (by kernel_rfl) _ _) ((C2 _) ▸ refd_v (k := 4) (hn.below hB) (hd.below hB) (by omega) (by omega) (by omega) (by omega)) ?_
      rintro e w2 ⟨s, A, n, c, rfl, p, k, B⟩
      exact ⟨_, rfl, hK _ _ ⟨s, A, n, c, rfl, p, by omega⟩ B⟩
    · intro a w1 hB ho hp K hK
      have e3 : a.eval (.tmp 3) = (.pointer (some ⟨(w.heap.size + 1), 0, none⟩)) := ho 3 (by kernel_rfl)
      obtain ⟨u1, u2, u3, u4, u5, u6, u7, u8, u9⟩ := H_b.out.below hB
      exact hop_load (wanted_none rfl) rfl e3 (run_ldq u1 u2 u3 u4) (hK _ _ rfl (Below.refl _ _))
    · intro a w1 hB ho hp K hK
      have e31 : a.eval (.tmp 31) = (.agg #[.bool u, .slice C l e', .bool v, .slice D' f' h']) := hp 4 31 (by kernel_rfl)
      refine hop_call (wanted_none rfl) rfl (args := #[(.agg #[.bool u, .slice C l e', .bool v, .slice D' f' h'])]) (by simp only [List.map_toArray, List.map_cons, List.map_nil, eval_const, e31]) (ent7 (by kernel_rfl) _ _) ((C3 _) ▸ refn_v (k := 4) (hm.below hB) (he.below hB) (by omega) (by omega) (by omega) (by omega)) ?_
      rintro e w2 ⟨s, A, n, c, rfl, p, k, B⟩
      exact ⟨_, rfl, hK _ _ ⟨s, A, n, c, rfl, p, by omega⟩ B⟩
    · intro a w1 hB ho hp K hK
      have e3 : a.eval (.tmp 3) = (.pointer (some ⟨(w.heap.size + 1), 0, none⟩)) := ho 3 (by kernel_rfl)
      obtain ⟨u1, u2, u3, u4, u5, u6, u7, u8, u9⟩ := H_b.out.below hB
      exact hop_load (wanted_none rfl) rfl e3 (run_ldq u1 u2 u3 u4) (hK _ _ rfl (Below.refl _ _))
    · intro a w1 hB ho hp K hK
      have e33 : a.eval (.tmp 33) = (.agg #[.bool u, .slice C l e', .bool v, .slice D' f' h']) := hp 6 33 (by kernel_rfl)
      refine hop_call (wanted_none rfl) rfl (args := #[(.agg #[.bool u, .slice C l e', .bool v, .slice D' f' h'])]) (by simp only [List.map_toArray, List.map_cons, List.map_nil, eval_const, e33]) (ent7 (by kernel_rfl) _ _) ((C4 _) ▸ refd_v (k := 4) (hm.below hB) (he.below hB) (by omega) (by omega) (by omega) (by omega)) ?_
      rintro e w2 ⟨s, A, n, c, rfl, p, k, B⟩
      exact ⟨_, rfl, hK _ _ ⟨s, A, n, c, rfl, p, by omega⟩ B⟩
  intro w24 B24
  have lt24_a : w.heap.size < w23.heap.size := H_a.out.2.2.2.2.2.2.2.2
  have lt24_b : (w.heap.size + 1) < w23.heap.size := H_b.out.2.2.2.2.2.2.2.2
  have hWs24 := hW.size
  refine EndAll.one rfl fun vv hv => ?_
  obtain rfl : vv = (.agg #[.bool s, .slice A n c, .bool t, .slice B m d]) := hv
  refine EndAll.one rfl fun vv hv => ?_
  obtain ⟨s25, A25, n25, c25, rfl, p25, k25⟩ : IsV N1 4 vv w24 := hv
  refine EndAll.one rfl fun vv hv => ?_
  obtain rfl : vv = (.agg #[.bool s, .slice A n c, .bool t, .slice B m d]) := hv
  refine EndAll.one rfl fun vv hv => ?_
  obtain ⟨s26, A26, n26, c26, rfl, p26, k26⟩ : IsC D1 4 vv w24 := hv
  refine EndAll.one rfl fun vv hv => ?_
  obtain rfl : vv = (.agg #[.bool u, .slice C l e', .bool v, .slice D' f' h']) := hv
  refine EndAll.one rfl fun vv hv => ?_
  obtain ⟨s27, A27, n27, c27, rfl, p27, k27⟩ : IsV M1 4 vv w24 := hv
  refine EndAll.one rfl fun vv hv => ?_
  obtain rfl : vv = (.agg #[.bool u, .slice C l e', .bool v, .slice D' f' h']) := hv
  refine EndAll.one rfl fun vv hv => ?_
  obtain ⟨s28, A28, n28, c28, rfl, p28, k28⟩ : IsC E1 4 vv w24 := hv
  refine EndAll.al rfl fun g29 hg29 hl29 hc29 ha29 => ?_
  refine EndAll.al rfl fun g30 hg30 hl30 hc30 ha30 => ?_
  refine EndAll.al rfl fun g31 hg31 hl31 hc31 ha31 => ?_
  refine EndAll.al rfl fun g32 hg32 hl32 hc32 ha32 => ?_
  refine EndAll.nil (l := [_, _, _, _]) rfl ?_
  simp only [Act.put, List.setIfInBounds_toArray, List.set_cons_zero, List.set_cons_succ]
  replace H_a := Lib.hid (H_a.out.below B24)
  replace H_b := Lib.hid (H_b.out.below B24)
  replace hn := hn.below B24
  replace hd := hd.below B24
  replace hm := hm.below B24
  replace he := he.below B24
  replace ha := ha.below B24
  replace hb := hb.below B24
  replace hW := hW.trans (B24.mono hW.size)
  have fn := p25
  have fd := p26
  have fm := p27
  have fe := p28
  have nn_a_na : ¬ (w.heap.size = g29) := by have := lt24_a; omega
  have nm_a_na : ¬ (g29 = w.heap.size) := by omega
  have nn_b_na : ¬ ((w.heap.size + 1) = g29) := by have := lt24_b; omega
  have nm_b_na : ¬ (g29 = (w.heap.size + 1)) := by omega
  have H_na : Hid (Ib w24 g29 false none 0 0) := Lib.hid (Ib.entry (T := 25) hc29)
  have lw_na : w.heap.size ≤ g29 := by omega
  have nn_a_da : ¬ (w.heap.size = g30) := by have := lt24_a; omega
  have nm_a_da : ¬ (g30 = w.heap.size) := by omega
  have nn_b_da : ¬ ((w.heap.size + 1) = g30) := by have := lt24_b; omega
  have nm_b_da : ¬ (g30 = (w.heap.size + 1)) := by omega
  obtain ⟨nn_na_da, _⟩ := ha30
  have nm_na_da := Ne.symm nn_na_da
  have H_da : Hid (Ib w24 g30 false none 0 0) := Lib.hid (Ib.entry (T := 25) hc30)
  have lw_da : w.heap.size ≤ g30 := by omega
  have nn_a_ma : ¬ (w.heap.size = g31) := by have := lt24_a; omega
  have nm_a_ma : ¬ (g31 = w.heap.size) := by omega
  have nn_b_ma : ¬ ((w.heap.size + 1) = g31) := by have := lt24_b; omega
  have nm_b_ma : ¬ (g31 = (w.heap.size + 1)) := by omega
  obtain ⟨nn_da_ma, nn_na_ma, _⟩ := ha31
  have nm_na_ma := Ne.symm nn_na_ma
  have nm_da_ma := Ne.symm nn_da_ma
  have H_ma : Hid (Ib w24 g31 false none 0 0) := Lib.hid (Ib.entry (T := 25) hc31)
  have lw_ma : w.heap.size ≤ g31 := by omega
  have nn_a_ea : ¬ (w.heap.size = g32) := by have := lt24_a; omega
  have nm_a_ea : ¬ (g32 = w.heap.size) := by omega
  have nn_b_ea : ¬ ((w.heap.size + 1) = g32) := by have := lt24_b; omega
  have nm_b_ea : ¬ (g32 = (w.heap.size + 1)) := by omega
  obtain ⟨nn_ma_ea, nn_da_ea, nn_na_ea, _⟩ := ha32
  have nm_na_ea := Ne.symm nn_na_ea
  have nm_da_ea := Ne.symm nn_da_ea
  have nm_ma_ea := Ne.symm nn_ma_ea
  have H_ea : Hid (Ib w24 g32 false none 0 0) := Lib.hid (Ib.entry (T := 25) hc32)
  have lw_ea : w.heap.size ≤ g32 := by omega
  clear hg29 hl29 hc29
  clear hg30 hl30 hc30
  clear hg31 hl31 hc31
  clear hg32 hl32 hc32
  clear B24
  have O_a := H_a
  have O_b := H_b
  have O_na := H_na
  have O_da := H_da
  have O_ma := H_ma
  have O_ea := H_ea
  obtain ⟨w33, hw33⟩ : ∃ x, x = zput w24 g29 s25 A25 n25 c25 := ⟨_, rfl⟩
  have HW33 : Hid (((w24.setCell ⟨g29, 0, none⟩ (.bool s25)).setCell ⟨g29, 1, none⟩ (.slice A25 n25 c25)) = w33) := Lib.hid hw33.symm
  have OI := H_na.out
  replace H_a : Hid (Rb w33 w.heap.size s A n c t B m d) := Lib.hid (by rw [hw33]; exact H_a.out.zput (by omega))
  replace H_b : Hid (Rb w33 (w.heap.size + 1) u C l e' v D' f' h') := Lib.hid (by rw [hw33]; exact H_b.out.zput (by omega))
  replace H_da : Hid (Ib w33 g30 false none 0 0) := Lib.hid (by rw [hw33]; exact H_da.out.zput (by omega))
  replace H_ma : Hid (Ib w33 g31 false none 0 0) := Lib.hid (by rw [hw33]; exact H_ma.out.zput (by omega))
  replace H_ea : Hid (Ib w33 g32 false none 0 0) := Lib.hid (by rw [hw33]; exact H_ea.out.zput (by omega))
  replace hn := hn.zput (s' := s25) (A' := A25) (n' := n25) (c' := c25) OI
  replace hd := hd.zput (s' := s25) (A' := A25) (n' := n25) (c' := c25) OI
  replace hm := hm.zput (s' := s25) (A' := A25) (n' := n25) (c' := c25) OI
  replace he := he.zput (s' := s25) (A' := A25) (n' := n25) (c' := c25) OI
  replace ha := ha.zput (s' := s25) (A' := A25) (n' := n25) (c' := c25) OI
  replace hb := hb.zput (s' := s25) (A' := A25) (n' := n25) (c' := c25) OI
  replace fn := fn.zput (s' := s25) (A' := A25) (n' := n25) (c' := c25) OI
  replace fd := fd.zput (s' := s25) (A' := A25) (n' := n25) (c' := c25) OI
  replace fm := fm.zput (s' := s25) (A' := A25) (n' := n25) (c' := c25) OI
  replace fe := fe.zput (s' := s25) (A' := A25) (n' := n25) (c' := c25) OI
  rw [← hw33] at hn
  rw [← hw33] at hd
  rw [← hw33] at hm
  rw [← hw33] at he
  rw [← hw33] at ha
  rw [← hw33] at hb
  rw [← hw33] at fn
  rw [← hw33] at fd
  rw [← hw33] at fm
  rw [← hw33] at fe
  replace hW : Below w.heap.size w w33 := by rw [hw33]; exact below_put hW lw_na
  replace H_na : Hid (Ib w33 g29 s25 A25 n25 c25) := Lib.hid (by rw [hw33]; exact OI.own)
  clear hw33 OI
  obtain ⟨w34, hw34⟩ : ∃ x, x = zput w33 g30 s26 A26 n26 c26 := ⟨_, rfl⟩
  have HW34 : Hid (((w33.setCell ⟨g30, 0, none⟩ (.bool s26)).setCell ⟨g30, 1, none⟩ (.slice A26 n26 c26)) = w34) := Lib.hid hw34.symm
  have OI := H_da.out
  replace H_a : Hid (Rb w34 w.heap.size s A n c t B m d) := Lib.hid (by rw [hw34]; exact H_a.out.zput (by omega))
  replace H_b : Hid (Rb w34 (w.heap.size + 1) u C l e' v D' f' h') := Lib.hid (by rw [hw34]; exact H_b.out.zput (by omega))
  replace H_na : Hid (Ib w34 g29 s25 A25 n25 c25) := Lib.hid (by rw [hw34]; exact H_na.out.zput (by omega))
  replace H_ma : Hid (Ib w34 g31 false none 0 0) := Lib.hid (by rw [hw34]; exact H_ma.out.zput (by omega))
  replace H_ea : Hid (Ib w34 g32 false none 0 0) := Lib.hid (by rw [hw34]; exact H_ea.out.zput (by omega))
  replace hn := hn.zput (s' := s26) (A' := A26) (n' := n26) (c' := c26) OI
  replace hd := hd.zput (s' := s26) (A' := A26) (n' := n26) (c' := c26) OI
  replace hm := hm.zput (s' := s26) (A' := A26) (n' := n26) (c' := c26) OI
  replace he := he.zput (s' := s26) (A' := A26) (n' := n26) (c' := c26) OI
  replace ha := ha.zput (s' := s26) (A' := A26) (n' := n26) (c' := c26) OI
  replace hb := hb.zput (s' := s26) (A' := A26) (n' := n26) (c' := c26) OI
  replace fn := fn.zput (s' := s26) (A' := A26) (n' := n26) (c' := c26) OI
  replace fd := fd.zput (s' := s26) (A' := A26) (n' := n26) (c' := c26) OI
  replace fm := fm.zput (s' := s26) (A' := A26) (n' := n26) (c' := c26) OI
  replace fe := fe.zput (s' := s26) (A' := A26) (n' := n26) (c' := c26) OI
  rw [← hw34] at hn
  rw [← hw34] at hd
  rw [← hw34] at hm
  rw [← hw34] at he
  rw [← hw34] at ha
  rw [← hw34] at hb
  rw [← hw34] at fn
  rw [← hw34] at fd
  rw [← hw34] at fm
  rw [← hw34] at fe
  replace hW : Below w.heap.size w w34 := by rw [hw34]; exact below_put hW lw_da
  replace H_da : Hid (Ib w34 g30 s26 A26 n26 c26) := Lib.hid (by rw [hw34]; exact OI.own)
  clear hw34 OI
  obtain ⟨w35, hw35⟩ : ∃ x, x = zput w34 g31 s27 A27 n27 c27 := ⟨_, rfl⟩
  have HW35 : Hid (((w34.setCell ⟨g31, 0, none⟩ (.bool s27)).setCell ⟨g31, 1, none⟩ (.slice A27 n27 c27)) = w35) := Lib.hid hw35.symm
  have OI := H_ma.out
  replace H_a : Hid (Rb w35 w.heap.size s A n c t B m d) := Lib.hid (by rw [hw35]; exact H_a.out.zput (by omega))
  replace H_b : Hid (Rb w35 (w.heap.size + 1) u C l e' v D' f' h') := Lib.hid (by rw [hw35]; exact H_b.out.zput (by omega))
  replace H_na : Hid (Ib w35 g29 s25 A25 n25 c25) := Lib.hid (by rw [hw35]; exact H_na.out.zput (by omega))
  replace H_da : Hid (Ib w35 g30 s26 A26 n26 c26) := Lib.hid (by rw [hw35]; exact H_da.out.zput (by omega))
  replace H_ea : Hid (Ib w35 g32 false none 0 0) := Lib.hid (by rw [hw35]; exact H_ea.out.zput (by omega))
  replace hn := hn.zput (s' := s27) (A' := A27) (n' := n27) (c' := c27) OI
  replace hd := hd.zput (s' := s27) (A' := A27) (n' := n27) (c' := c27) OI
  replace hm := hm.zput (s' := s27) (A' := A27) (n' := n27) (c' := c27) OI
  replace he := he.zput (s' := s27) (A' := A27) (n' := n27) (c' := c27) OI
  replace ha := ha.zput (s' := s27) (A' := A27) (n' := n27) (c' := c27) OI
  replace hb := hb.zput (s' := s27) (A' := A27) (n' := n27) (c' := c27) OI
  replace fn := fn.zput (s' := s27) (A' := A27) (n' := n27) (c' := c27) OI
  replace fd := fd.zput (s' := s27) (A' := A27) (n' := n27) (c' := c27) OI
  replace fm := fm.zput (s' := s27) (A' := A27) (n' := n27) (c' := c27) OI
  replace fe := fe.zput (s' := s27) (A' := A27) (n' := n27) (c' := c27) OI
  rw [← hw35] at hn
  rw [← hw35] at hd
  rw [← hw35] at hm
  rw [← hw35] at he
  rw [← hw35] at ha
  rw [← hw35] at hb
  rw [← hw35] at fn
  rw [← hw35] at fd
  rw [← hw35] at fm
  rw [← hw35] at fe
  replace hW : Below w.heap.size w w35 := by rw [hw35]; exact below_put hW lw_ma
  replace H_ma : Hid (Ib w35 g31 s27 A27 n27 c27) := Lib.hid (by rw [hw35]; exact OI.own)
  clear hw35 OI
  obtain ⟨w36, hw36⟩ : ∃ x, x = zput w35 g32 s28 A28 n28 c28 := ⟨_, rfl⟩
  have HW36 : Hid (((w35.setCell ⟨g32, 0, none⟩ (.bool s28)).setCell ⟨g32, 1, none⟩ (.slice A28 n28 c28)) = w36) := Lib.hid hw36.symm
  have OI := H_ea.out
  replace H_a : Hid (Rb w36 w.heap.size s A n c t B m d) := Lib.hid (by rw [hw36]; exact H_a.out.zput (by omega))
  replace H_b : Hid (Rb w36 (w.heap.size + 1) u C l e' v D' f' h') := Lib.hid (by rw [hw36]; exact H_b.out.zput (by omega))
  replace H_na : Hid (Ib w36 g29 s25 A25 n25 c25) := Lib.hid (by rw [hw36]; exact H_na.out.zput (by omega))
  replace H_da : Hid (Ib w36 g30 s26 A26 n26 c26) := Lib.hid (by rw [hw36]; exact H_da.out.zput (by omega))
  replace H_ma : Hid (Ib w36 g31 s27 A27 n27 c27) := Lib.hid (by rw [hw36]; exact H_ma.out.zput (by omega))
  replace hn := hn.zput (s' := s28) (A' := A28) (n' := n28) (c' := c28) OI
  replace hd := hd.zput (s' := s28) (A' := A28) (n' := n28) (c' := c28) OI
  replace hm := hm.zput (s' := s28) (A' := A28) (n' := n28) (c' := c28) OI
  replace he := he.zput (s' := s28) (A' := A28) (n' := n28) (c' := c28) OI
  replace ha := ha.zput (s' := s28) (A' := A28) (n' := n28) (c' := c28) OI
  replace hb := hb.zput (s' := s28) (A' := A28) (n' := n28) (c' := c28) OI
  replace fn := fn.zput (s' := s28) (A' := A28) (n' := n28) (c' := c28) OI
  replace fd := fd.zput (s' := s28) (A' := A28) (n' := n28) (c' := c28) OI
  replace fm := fm.zput (s' := s28) (A' := A28) (n' := n28) (c' := c28) OI
  replace fe := fe.zput (s' := s28) (A' := A28) (n' := n28) (c' := c28) OI
  rw [← hw36] at hn
  rw [← hw36] at hd
  rw [← hw36] at hm
  rw [← hw36] at he
  rw [← hw36] at ha
  rw [← hw36] at hb
  rw [← hw36] at fn
  rw [← hw36] at fd
  rw [← hw36] at fm
  rw [← hw36] at fe
  replace hW : Below w.heap.size w w36 := by rw [hw36]; exact below_put hW lw_ea
  replace H_ea : Hid (Ib w36 g32 s28 A28 n28 c28) := Lib.hid (by rw [hw36]; exact OI.own)
  clear hw36 OI
  clear hn hd hm he
  obtain ⟨a1, a2, a3, a4, a5, a6, a7, a8, a9⟩ := O_a.out
  obtain ⟨b1, b2, b3, b4, b5, b6, b7, b8, b9⟩ := O_b.out
  obtain ⟨na1, na2, na3, na4, na5⟩ := O_na.out
  obtain ⟨da1, da2, da3, da4, da5⟩ := O_da.out
  obtain ⟨ma1, ma2, ma3, ma4, ma5⟩ := O_ma.out
  obtain ⟨ea1, ea2, ea3, ea4, ea5⟩ := O_ea.out
  go_wp2_with fail
  rw [HW33.out]
  rw [HW34.out]
  rw [HW35.out]
  rw [HW36.out]
  clear a1 a2 a3 a4 a5 a6 a7 a8 a9 b1 b2 b3 b4 b5 b6 b7 b8 b9 na1 na2 na3 na4 na5 da1 da2 da3 da4 da5 ma1 ma2 ma3 ma4 ma5 ea1 ea2 ea3 ea4 ea5 O_a O_b O_na O_da O_ma O_ea
  refine region7 [] 12 [IsK (.agg #[.bool s25, .slice A25 n25 c25]), IsK (.agg #[.bool s28, .slice A28 n28 c28]), IsC (N1 * E1) 8, IsK (.agg #[.bool s27, .slice A27 n27 c27]), IsK (.agg #[.bool s26, .slice A26 n26 c26]), IsC (M1 * D1) 8, IsK (.agg #[.bool s26, .slice A26 n26 c26]), IsK (.agg #[.bool s28, .slice A28 n28 c28]), IsC (D1 * E1) 8, IsK undef, IsK undef, IsK undef] (fun _ _ d _ _ h => by cases d <;> exact h) (by kernel_rfl) (by kernel_rfl) (by kernel_rfl) ⟨stay_k _, stay_k _, stay_c _ _, stay_k _, stay_k _, stay_c _ _, stay_k _, stay_k _, stay_c _ _, stay_k _, stay_k _, stay_k _, trivial⟩ ?_ ?_
  · refine HopAll.cons rfl ?_ (HopAll.cons rfl ?_ (HopAll.cons rfl ?_ (HopAll.cons rfl ?_ (HopAll.cons rfl ?_ (HopAll.cons rfl ?_ (HopAll.cons rfl ?_ (HopAll.cons rfl ?_ (HopAll.cons rfl ?_ (HopAll.al rfl (HopAll.al rfl (HopAll.al rfl HopAll.nil)))))))))))
    · intro a w1 hB ho hp K hK
      have e5 : a.eval (.tmp 5) = (.pointer (some ⟨g29, 0, none⟩)) := ho 5 (by kernel_rfl)
      obtain ⟨u1, u2, u3, u4, u5⟩ := H_na.out.below hB
      exact hop_load (wanted_none rfl) rfl e5 (run_ldz u1 u2) (hK _ _ rfl (Below.refl _ _))
    · intro a w1 hB ho hp K hK
      have e8 : a.eval (.tmp 8) = (.pointer (some ⟨g32, 0, none⟩)) := ho 8 (by kernel_rfl)
      obtain ⟨u1, u2, u3, u4, u5⟩ := H_ea.out.below hB
      exact hop_load (wanted_none rfl) rfl e8 (run_ldz u1 u2) (hK _ _ rfl (Below.refl _ _))
    · intro a w1 hB ho hp K hK
      have e35 : a.eval (.tmp 35) = (.agg #[.bool s25, .slice A25 n25 c25]) := hp 0 35 (by kernel_rfl)
      have e36 : a.eval (.tmp 36) = (.agg #[.bool s28, .slice A28 n28 c28]) := hp 1 36 (by kernel_rfl)
      refine hop_call (wanted_none rfl) rfl (args := #[(.agg #[.bool s25, .slice A25 n25 c25]), (.agg #[.bool s28, .slice A28 n28 c28])]) (by simp only [List.map_toArray, List.map_cons, List.map_nil, eval_const, e35, e36]) (ent7 (by kernel_rfl) _ _) (zmul_v (fn.below hB) (fe.below hB).zv (by omega) (by omega)) ?_
      rintro e w2 ⟨s, A, n, c, rfl, p, k, B⟩
      exact ⟨_, rfl, hK _ _ ⟨s, A, n, c, rfl, p, by omega⟩ B⟩
    · intro a w1 hB ho hp K hK
      have e7 : a.eval (.tmp 7) = (.pointer (some ⟨g31, 0, none⟩)) := ho 7 (by kernel_rfl)
      obtain ⟨u1, u2, u3, u4, u5⟩ := H_ma.out.below hB
      exact hop_load (wanted_none rfl) rfl e7 (run_ldz u1 u2) (hK _ _ rfl (Below.refl _ _))
    · intro a w1 hB ho hp K hK
      have e6 : a.eval (.tmp 6) = (.pointer (some ⟨g30, 0, none⟩)) := ho 6 (by kernel_rfl)
      obtain ⟨u1, u2, u3, u4, u5⟩ := H_da.out.below hB
      exact hop_load (wanted_none rfl) rfl e6 (run_ldz u1 u2) (hK _ _ rfl (Below.refl _ _))
    · intro a w1 hB ho hp K hK
      have e38 : a.eval (.tmp 38) = (.agg #[.bool s27, .slice A27 n27 c27]) := hp 3 38 (by kernel_rfl)
      have e39 : a.eval (.tmp 39) = (.agg #[.bool s26, .slice A26 n26 c26]) := hp 4 39 (by kernel_rfl)
      refine hop_call (wanted_none rfl) rfl (args := #[(.agg #[.bool s27, .slice A27 n27 c27]), (.agg #[.bool s26, .slice A26 n26 c26])]) (by simp only [List.map_toArray, List.map_cons, List.map_nil, eval_const, e38, e39]) (ent7 (by kernel_rfl) _ _) (zmul_v (fm.below hB) (fd.below hB).zv (by omega) (by omega)) ?_
      rintro e w2 ⟨s, A, n, c, rfl, p, k, B⟩
      exact ⟨_, rfl, hK _ _ ⟨s, A, n, c, rfl, p, by omega⟩ B⟩
    · intro a w1 hB ho hp K hK
      have e6 : a.eval (.tmp 6) = (.pointer (some ⟨g30, 0, none⟩)) := ho 6 (by kernel_rfl)
      obtain ⟨u1, u2, u3, u4, u5⟩ := H_da.out.below hB
      exact hop_load (wanted_none rfl) rfl e6 (run_ldz u1 u2) (hK _ _ rfl (Below.refl _ _))
    · intro a w1 hB ho hp K hK
      have e8 : a.eval (.tmp 8) = (.pointer (some ⟨g32, 0, none⟩)) := ho 8 (by kernel_rfl)
      obtain ⟨u1, u2, u3, u4, u5⟩ := H_ea.out.below hB
      exact hop_load (wanted_none rfl) rfl e8 (run_ldz u1 u2) (hK _ _ rfl (Below.refl _ _))
    · intro a w1 hB ho hp K hK
      have e41 : a.eval (.tmp 41) = (.agg #[.bool s26, .slice A26 n26 c26]) := hp 6 41 (by kernel_rfl)
      have e42 : a.eval (.tmp 42) = (.agg #[.bool s28, .slice A28 n28 c28]) := hp 7 42 (by kernel_rfl)
      refine hop_call (wanted_none rfl) rfl (args := #[(.agg #[.bool s26, .slice A26 n26 c26]), (.agg #[.bool s28, .slice A28 n28 c28])]) (by simp only [List.map_toArray, List.map_cons, List.map_nil, eval_const, e41, e42]) (ent7 (by kernel_rfl) _ _) (zmul_v (fd.below hB).zv (fe.below hB).zv (by omega) (by omega)) ?_
      rintro e w2 ⟨s, A, n, c, rfl, p, k, B⟩
      exact ⟨_, rfl, hK _ _ ⟨s, A, n, c, rfl, p, by omega⟩ B⟩
  intro w37 B37
  have lt37_a : w.heap.size < w36.heap.size := H_a.out.2.2.2.2.2.2.2.2
  have lt37_b : (w.heap.size + 1) < w36.heap.size := H_b.out.2.2.2.2.2.2.2.2
  have lt37_na : g29 < w36.heap.size := H_na.out.2.2.2.2
  have lt37_da : g30 < w36.heap.size := H_da.out.2.2.2.2
  have lt37_ma : g31 < w36.heap.size := H_ma.out.2.2.2.2
  have lt37_ea : g32 < w36.heap.size := H_ea.out.2.2.2.2
  have hWs37 := hW.size
  refine EndAll.one rfl fun vv hv => ?_
  obtain rfl : vv = (.agg #[.bool s25, .slice A25 n25 c25]) := hv
  refine EndAll.one rfl fun vv hv => ?_
  obtain rfl : vv = (.agg #[.bool s28, .slice A28 n28 c28]) := hv
  refine EndAll.one rfl fun vv hv => ?_
  obtain ⟨s38, A38, n38, c38, rfl, p38, k38⟩ : IsC (N1 * E1) 8 vv w37 := hv
  refine EndAll.one rfl fun vv hv => ?_
  obtain rfl : vv = (.agg #[.bool s27, .slice A27 n27 c27]) := hv
  refine EndAll.one rfl fun vv hv => ?_
  obtain rfl : vv = (.agg #[.bool s26, .slice A26 n26 c26]) := hv
  refine EndAll.one rfl fun vv hv => ?_
  obtain ⟨s39, A39, n39, c39, rfl, p39, k39⟩ : IsC (M1 * D1) 8 vv w37 := hv
  refine EndAll.one rfl fun vv hv => ?_
  obtain rfl : vv = (.agg #[.bool s26, .slice A26 n26 c26]) := hv
  refine EndAll.one rfl fun vv hv => ?_
  obtain rfl : vv = (.agg #[.bool s28, .slice A28 n28 c28]) := hv
  refine EndAll.one rfl fun vv hv => ?_
  obtain ⟨s40, A40, n40, c40, rfl, p40, k40⟩ : IsC (D1 * E1) 8 vv w37 := hv
  refine EndAll.al rfl fun g41 hg41 hl41 hc41 ha41 => ?_
  refine EndAll.al rfl fun g42 hg42 hl42 hc42 ha42 => ?_
  refine EndAll.al rfl fun g43 hg43 hl43 hc43 ha43 => ?_
  refine EndAll.nil (l := [_, _, _]) rfl ?_
  simp only [Act.put, List.setIfInBounds_toArray, List.set_cons_zero, List.set_cons_succ]
  replace H_a := Lib.hid (H_a.out.below B37)
  replace H_b := Lib.hid (H_b.out.below B37)
  replace H_na := Lib.hid (H_na.out.below B37)
  replace H_da := Lib.hid (H_da.out.below B37)
  replace H_ma := Lib.hid (H_ma.out.below B37)
  replace H_ea := Lib.hid (H_ea.out.below B37)
  replace ha := ha.below B37
  replace hb := hb.below B37
  replace fn := fn.below B37
  replace fd := fd.below B37
  replace fm := fm.below B37
  replace fe := fe.below B37
  replace hW := hW.trans (B37.mono hW.size)
  have fl := p38
  have fr := p39
  have fa := p40
  have nn_a_la : ¬ (w.heap.size = g41) := by have := lt37_a; omega
  have nm_a_la : ¬ (g41 = w.heap.size) := by omega
  have nn_b_la : ¬ ((w.heap.size + 1) = g41) := by have := lt37_b; omega
  have nm_b_la : ¬ (g41 = (w.heap.size + 1)) := by omega
  have nn_na_la : ¬ (g29 = g41) := by have := lt37_na; omega
  have nm_na_la : ¬ (g41 = g29) := by omega
  have nn_da_la : ¬ (g30 = g41) := by have := lt37_da; omega
  have nm_da_la : ¬ (g41 = g30) := by omega
  have nn_ma_la : ¬ (g31 = g41) := by have := lt37_ma; omega
  have nm_ma_la : ¬ (g41 = g31) := by omega
  have nn_ea_la : ¬ (g32 = g41) := by have := lt37_ea; omega
  have nm_ea_la : ¬ (g41 = g32) := by omega
  have H_la : Hid (Ib w37 g41 false none 0 0) := Lib.hid (Ib.entry (T := 25) hc41)
  have lw_la : w.heap.size ≤ g41 := by omega
  have nn_a_ra : ¬ (w.heap.size = g42) := by have := lt37_a; omega
  have nm_a_ra : ¬ (g42 = w.heap.size) := by omega
  have nn_b_ra : ¬ ((w.heap.size + 1) = g42) := by have := lt37_b; omega
  have nm_b_ra : ¬ (g42 = (w.heap.size + 1)) := by omega
  have nn_na_ra : ¬ (g29 = g42) := by have := lt37_na; omega
  have nm_na_ra : ¬ (g42 = g29) := by omega
  have nn_da_ra : ¬ (g30 = g42) := by have := lt37_da; omega
  have nm_da_ra : ¬ (g42 = g30) := by omega
  have nn_ma_ra : ¬ (g31 = g42) := by have := lt37_ma; omega
  have nm_ma_ra : ¬ (g42 = g31) := by omega
  have nn_ea_ra : ¬ (g32 = g42) := by have := lt37_ea; omega
  have nm_ea_ra : ¬ (g42 = g32) := by omega
  obtain ⟨nn_la_ra, _⟩ := ha42
  have nm_la_ra := Ne.symm nn_la_ra
  have H_ra : Hid (Ib w37 g42 false none 0 0) := Lib.hid (Ib.entry (T := 25) hc42)
  have lw_ra : w.heap.size ≤ g42 := by omega
  have nn_a_al : ¬ (w.heap.size = g43) := by have := lt37_a; omega
  have nm_a_al : ¬ (g43 = w.heap.size) := by omega
  have nn_b_al : ¬ ((w.heap.size + 1) = g43) := by have := lt37_b; omega
  have nm_b_al : ¬ (g43 = (w.heap.size + 1)) := by omega
  have nn_na_al : ¬ (g29 = g43) := by have := lt37_na; omega
  have nm_na_al : ¬ (g43 = g29) := by omega
  have nn_da_al : ¬ (g30 = g43) := by have := lt37_da; omega
  have nm_da_al : ¬ (g43 = g30) := by omega
  have nn_ma_al : ¬ (g31 = g43) := by have := lt37_ma; omega
  have nm_ma_al : ¬ (g43 = g31) := by omega
  have nn_ea_al : ¬ (g32 = g43) := by have := lt37_ea; omega
  have nm_ea_al : ¬ (g43 = g32) := by omega
  obtain ⟨nn_ra_al, nn_la_al, _⟩ := ha43
  have nm_la_al := Ne.symm nn_la_al
  have nm_ra_al := Ne.symm nn_ra_al
  have H_al : Hid (Ib w37 g43 false none 0 0) := Lib.hid (Ib.entry (T := 25) hc43)
  have lw_al : w.heap.size ≤ g43 := by omega
  clear hg41 hl41 hc41
  clear hg42 hl42 hc42
  clear hg43 hl43 hc43
  clear B37
  have O_a := H_a
  have O_b := H_b
  have O_na := H_na
  have O_da := H_da
  have O_ma := H_ma
  have O_ea := H_ea
  have O_la := H_la
  have O_ra := H_ra
  have O_al := H_al
  obtain ⟨w44, hw44⟩ : ∃ x, x = zput w37 g41 s38 A38 n38 c38 := ⟨_, rfl⟩
  have HW44 : Hid (((w37.setCell ⟨g41, 0, none⟩ (.bool s38)).setCell ⟨g41, 1, none⟩ (.slice A38 n38 c38)) = w44) := Lib.hid hw44.symm
  have OI := H_la.out
  replace H_a : Hid (Rb w44 w.heap.size s A n c t B m d) := Lib.hid (by rw [hw44]; exact H_a.out.zput (by omega))
  replace H_b : Hid (Rb w44 (w.heap.size + 1) u C l e' v D' f' h') := Lib.hid (by rw [hw44]; exact H_b.out.zput (by omega))
  replace H_na : Hid (Ib w44 g29 s25 A25 n25 c25) := Lib.hid (by rw [hw44]; exact H_na.out.zput (by omega))
  replace H_da : Hid (Ib w44 g30 s26 A26 n26 c26) := Lib.hid (by rw [hw44]; exact H_da.out.zput (by omega))
  replace H_ma : Hid (Ib w44 g31 s27 A27 n27 c27) := Lib.hid (by rw [hw44]; exact H_ma.out.zput (by omega))
  replace H_ea : Hid (Ib w44 g32 s28 A28 n28 c28) := Lib.hid (by rw [hw44]; exact H_ea.out.zput (by omega))
  replace H_ra : Hid (Ib w44 g42 false none 0 0) := Lib.hid (by rw [hw44]; exact H_ra.out.zput (by omega))
  replace H_al : Hid (Ib w44 g43 false none 0 0) := Lib.hid (by rw [hw44]; exact H_al.out.zput (by omega))
  replace ha := ha.zput (s' := s38) (A' := A38) (n' := n38) (c' := c38) OI
  replace hb := hb.zput (s' := s38) (A' := A38) (n' := n38) (c' := c38) OI
  replace fn := fn.zput (s' := s38) (A' := A38) (n' := n38) (c' := c38) OI
  replace fd := fd.zput (s' := s38) (A' := A38) (n' := n38) (c' := c38) OI
  replace fm := fm.zput (s' := s38) (A' := A38) (n' := n38) (c' := c38) OI
  replace fe := fe.zput (s' := s38) (A' := A38) (n' := n38) (c' := c38) OI
  replace fl := fl.zput (s' := s38) (A' := A38) (n' := n38) (c' := c38) OI
  replace fr := fr.zput (s' := s38) (A' := A38) (n' := n38) (c' := c38) OI
  replace fa := fa.zput (s' := s38) (A' := A38) (n' := n38) (c' := c38) OI
  rw [← hw44] at ha
  rw [← hw44] at hb
  rw [← hw44] at fn
  rw [← hw44] at fd
  rw [← hw44] at fm
  rw [← hw44] at fe
  rw [← hw44] at fl
  rw [← hw44] at fr
  rw [← hw44] at fa
  replace hW : Below w.heap.size w w44 := by rw [hw44]; exact below_put hW lw_la
  replace H_la : Hid (Ib w44 g41 s38 A38 n38 c38) := Lib.hid (by rw [hw44]; exact OI.own)
  clear hw44 OI
  obtain ⟨w45, hw45⟩ : ∃ x, x = zput w44 g42 s39 A39 n39 c39 := ⟨_, rfl⟩
  have HW45 : Hid (((w44.setCell ⟨g42, 0, none⟩ (.bool s39)).setCell ⟨g42, 1, none⟩ (.slice A39 n39 c39)) = w45) := Lib.hid hw45.symm
  have OI := H_ra.out
  replace H_a : Hid (Rb w45 w.heap.size s A n c t B m d) := Lib.hid (by rw [hw45]; exact H_a.out.zput (by omega))
  replace H_b : Hid (Rb w45 (w.heap.size + 1) u C l e' v D' f' h') := Lib.hid (by rw [hw45]; exact H_b.out.zput (by omega))
  replace H_na : Hid (Ib w45 g29 s25 A25 n25 c25) := Lib.hid (by rw [hw45]; exact H_na.out.zput (by omega))
  replace H_da : Hid (Ib w45 g30 s26 A26 n26 c26) := Lib.hid (by rw [hw45]; exact H_da.out.zput (by omega))
  replace H_ma : Hid (Ib w45 g31 s27 A27 n27 c27) := Lib.hid (by rw [hw45]; exact H_ma.out.zput (by omega))
  replace H_ea : Hid (Ib w45 g32 s28 A28 n28 c28) := Lib.hid (by rw [hw45]; exact H_ea.out.zput (by omega))
  replace H_la : Hid (Ib w45 g41 s38 A38 n38 c38) := Lib.hid (by rw [hw45]; exact H_la.out.zput (by omega))
  replace H_al : Hid (Ib w45 g43 false none 0 0) := Lib.hid (by rw [hw45]; exact H_al.out.zput (by omega))
  replace ha := ha.zput (s' := s39) (A' := A39) (n' := n39) (c' := c39) OI
  replace hb := hb.zput (s' := s39) (A' := A39) (n' := n39) (c' := c39) OI
  replace fn := fn.zput (s' := s39) (A' := A39) (n' := n39) (c' := c39) OI
  replace fd := fd.zput (s' := s39) (A' := A39) (n' := n39) (c' := c39) OI
  replace fm := fm.zput (s' := s39) (A' := A39) (n' := n39) (c' := c39) OI
  replace fe := fe.zput (s' := s39) (A' := A39) (n' := n39) (c' := c39) OI
  replace fl := fl.zput (s' := s39) (A' := A39) (n' := n39) (c' := c39) OI
  replace fr := fr.zput (s' := s39) (A' := A39) (n' := n39) (c' := c39) OI
  replace fa := fa.zput (s' := s39) (A' := A39) (n' := n39) (c' := c39) OI
  rw [← hw45] at ha
  rw [← hw45] at hb
  rw [← hw45] at fn
  rw [← hw45] at fd
  rw [← hw45] at fm
  rw [← hw45] at fe
  rw [← hw45] at fl
  rw [← hw45] at fr
  rw [← hw45] at fa
  replace hW : Below w.heap.size w w45 := by rw [hw45]; exact below_put hW lw_ra
  replace H_ra : Hid (Ib w45 g42 s39 A39 n39 c39) := Lib.hid (by rw [hw45]; exact OI.own)
  clear hw45 OI
  obtain ⟨w46, hw46⟩ : ∃ x, x = zput w45 g43 s40 A40 n40 c40 := ⟨_, rfl⟩
  have HW46 : Hid (((w45.setCell ⟨g43, 0, none⟩ (.bool s40)).setCell ⟨g43, 1, none⟩ (.slice A40 n40 c40)) = w46) := Lib.hid hw46.symm
  have OI := H_al.out
  replace H_a : Hid (Rb w46 w.heap.size s A n c t B m d) := Lib.hid (by rw [hw46]; exact H_a.out.zput (by omega))
  replace H_b : Hid (Rb w46 (w.heap.size + 1) u C l e' v D' f' h') := Lib.hid (by rw [hw46]; exact H_b.out.zput (by omega))
  replace H_na : Hid (Ib w46 g29 s25 A25 n25 c25) := Lib.hid (by rw [hw46]; exact H_na.out.zput (by omega))
  replace H_da : Hid (Ib w46 g30 s26 A26 n26 c26) := Lib.hid (by rw [hw46]; exact H_da.out.zput (by omega))
  replace H_ma : Hid (Ib w46 g31 s27 A27 n27 c27) := Lib.hid (by rw [hw46]; exact H_ma.out.zput (by omega))
  replace H_ea : Hid (Ib w46 g32 s28 A28 n28 c28) := Lib.hid (by rw [hw46]; exact H_ea.out.zput (by omega))
  replace H_la : Hid (Ib w46 g41 s38 A38 n38 c38) := Lib.hid (by rw [hw46]; exact H_la.out.zput (by omega))
  replace H_ra : Hid (Ib w46 g42 s39 A39 n39 c39) := Lib.hid (by rw [hw46]; exact H_ra.out.zput (by omega))
  replace ha := ha.zput (s' := s40) (A' := A40) (n' := n40) (c' := c40) OI
  replace hb := hb.zput (s' := s40) (A' := A40) (n' := n40) (c' := c40) OI
  replace fn := fn.zput (s' := s40) (A' := A40) (n' := n40) (c' := c40) OI
  replace fd := fd.zput (s' := s40) (A' := A40) (n' := n40) (c' := c40) OI
  replace fm := fm.zput (s' := s40) (A' := A40) (n' := n40) (c' := c40) OI
  replace fe := fe.zput (s' := s40) (A' := A40) (n' := n40) (c' := c40) OI
  replace fl := fl.zput (s' := s40) (A' := A40) (n' := n40) (c' := c40) OI
  replace fr := fr.zput (s' := s40) (A' := A40) (n' := n40) (c' := c40) OI
  replace fa := fa.zput (s' := s40) (A' := A40) (n' := n40) (c' := c40) OI
  rw [← hw46] at ha
  rw [← hw46] at hb
  rw [← hw46] at fn
  rw [← hw46] at fd
  rw [← hw46] at fm
  rw [← hw46] at fe
  rw [← hw46] at fl
  rw [← hw46] at fr
  rw [← hw46] at fa
  replace hW : Below w.heap.size w w46 := by rw [hw46]; exact below_put hW lw_al
  replace H_al : Hid (Ib w46 g43 s40 A40 n40 c40) := Lib.hid (by rw [hw46]; exact OI.own)
  clear hw46 OI
  obtain ⟨a1, a2, a3, a4, a5, a6, a7, a8, a9⟩ := O_a.out
  obtain ⟨b1, b2, b3, b4, b5, b6, b7, b8, b9⟩ := O_b.out
  obtain ⟨na1, na2, na3, na4, na5⟩ := O_na.out
  obtain ⟨da1, da2, da3, da4, da5⟩ := O_da.out
  obtain ⟨ma1, ma2, ma3, ma4, ma5⟩ := O_ma.out
  obtain ⟨ea1, ea2, ea3, ea4, ea5⟩ := O_ea.out
  obtain ⟨la1, la2, la3, la4, la5⟩ := O_la.out
  obtain ⟨ra1, ra2, ra3, ra4, ra5⟩ := O_ra.out
  obtain ⟨al1, al2, al3, al4, al5⟩ := O_al.out
  go_wp2_with fail
  rw [HW44.out]
  rw [HW45.out]
  rw [HW46.out]
  clear a1 a2 a3 a4 a5 a6 a7 a8 a9 b1 b2 b3 b4 b5 b6 b7 b8 b9 na1 na2 na3 na4 na5 da1 da2 da3 da4 da5 ma1 ma2 ma3 ma4 ma5 ea1 ea2 ea3 ea4 ea5 la1 la2 la3 la4 la5 ra1 ra2 ra3 ra4 ra5 al1 al2 al3 al4 al5 O_a O_b O_na O_da O_ma O_ea O_la O_ra O_al
  refine region7 [] 40 [IsK (.agg #[.bool s, .slice A n c, .bool t, .slice B m d]), IsK (.agg #[.bool u, .slice C l e', .bool v, .slice D' f' h']), IsQ (p + q) 9, IsK (.agg #[.bool s38, .slice A38 n38 c38]), IsK (.agg #[.bool s39, .slice A39 n39 c39]), IsC (N1 * E1 + M1 * D1) 9, IsK (.agg #[.bool s40, .slice A40 n40 c40]), IsK (.bool true), IsK (.bool false), IsK (.bool false), IsK (.agg #[.bool s, .slice A n c, .bool t, .slice B m d]), IsK (.agg #[.bool u, .slice C l e', .bool v, .slice D' f' h']), IsQ (p - q) 9, IsK (.agg #[.bool s38, .slice A38 n38 c38]), IsK (.agg #[.bool s39, .slice A39 n39 c39]), IsC (N1 * E1 - M1 * D1) 9, IsK (.agg #[.bool s40, .slice A40 n40 c40]), IsK (.bool true), IsK (.bool false), IsK (.bool false), IsK (.bool false), IsK (.agg #[.bool s, .slice A n c, .bool t, .slice B m d]), IsK (.agg #[.bool u, .slice C l e', .bool v, .slice D' f' h']), IsQ (p * q) 8, IsK (.agg #[.bool s25, .slice A25 n25 c25]), IsK (.agg #[.bool s27, .slice A27 n27 c27]), IsC (N1 * M1) 8, IsK (.agg #[.bool s40, .slice A40 n40 c40]), IsK (.bool true), IsK (.bool false), IsK (.bool false), IsK (.bool false), IsK (.agg #[.bool s, .slice A n c, .bool t, .slice B m d]), IsQ (-p) 4, IsK (.agg #[.bool s25, .slice A25 n25 c25]), IsC (-N1) 4, IsK (.agg #[.bool s26, .slice A26 n26 c26]), IsK (.bool true), IsK (.bool false), IsK (.bool false)] (fun _ _ d _ _ h => by cases d <;> exact h) (by kernel_rfl) (by kernel_rfl) (by kernel_rfl) ⟨stay_k _, stay_k _, stay_q _ _, stay_k _, stay_k _, stay_c _ _, stay_k _, stay_k _, stay_k _, stay_k _, stay_k _, stay_k _, stay_q _ _, stay_k _, stay_k _, stay_c _ _, stay_k _, stay_k _, stay_k _, stay_k _, stay_k _, stay_k _, stay_k _, stay_q _ _, stay_k _, stay_k _, stay_c _ _, stay_k _, stay_k _, stay_k _, stay_k _, stay_k _, stay_k _, stay_q _ _, stay_k _, stay_c _ _, stay_k _, stay_k _, stay_k _, stay_k _, trivial⟩ ?_ ?_
  · refine HopAll.cons rfl ?_ (HopAll.cons rfl ?_ (HopAll.cons rfl ?_ (HopAll.cons rfl ?_ (HopAll.cons rfl ?_ (HopAll.cons rfl ?_ (HopAll.cons rfl ?_ (HopAll.cons rfl ?_ (HopAll.cons rfl ?_ (HopAll.cons rfl ?_ (HopAll.cons rfl ?_ (HopAll.cons rfl ?_ (HopAll.cons rfl ?_ (HopAll.cons rfl ?_ (HopAll.cons rfl ?_ (HopAll.cons rfl ?_ (HopAll.cons rfl ?_ (HopAll.cons rfl ?_ (HopAll.cons rfl ?_ (HopAll.cons rfl ?_ (HopAll.cons rfl ?_ (HopAll.cons rfl ?_ (HopAll.cons rfl ?_ (HopAll.cons rfl ?_ (HopAll.cons rfl ?_ (HopAll.cons rfl ?_ (HopAll.cons rfl ?_ (HopAll.cons rfl ?_ (HopAll.cons rfl ?_ (HopAll.cons rfl ?_ (HopAll.cons rfl ?_ (HopAll.cons rfl ?_ (HopAll.cons rfl ?_ (HopAll.cons rfl ?_ (HopAll.cons rfl ?_ (HopAll.cons rfl ?_ (HopAll.cons rfl ?_ (HopAll.cons rfl ?_ (HopAll.cons rfl ?_ (HopAll.cons rfl ?_ HopAll.nil)))))))))))))))))))))))))))))))))))))))
    · intro a w1 hB ho hp K hK
      have e2 : a.eval (.tmp 2) = (.pointer (some ⟨w.heap.size, 0, none⟩)) := ho 2 (by kernel_rfl)
      obtain ⟨u1, u2, u3, u4, u5, u6, u7, u8, u9⟩ := H_a.out.below hB
      exact hop_load (wanted_none rfl) rfl e2 (run_ldq u1 u2 u3 u4) (hK _ _ rfl (Below.refl _ _))
    · intro a w1 hB ho hp K hK
      have e3 : a.eval (.tmp 3) = (.pointer (some ⟨(w.heap.size + 1), 0, none⟩)) := ho 3 (by kernel_rfl)
      obtain ⟨u1, u2, u3, u4, u5, u6, u7, u8, u9⟩ := H_b.out.below hB
      exact hop_load (wanted_none rfl) rfl e3 (run_ldq u1 u2 u3 u4) (hK _ _ rfl (Below.refl _ _))
    · intro a w1 hB ho hp K hK
      have e44 : a.eval (.tmp 44) = (.agg #[.bool s, .slice A n c, .bool t, .slice B m d]) := hp 0 44 (by kernel_rfl)
      have e45 : a.eval (.tmp 45) = (.agg #[.bool u, .slice C l e', .bool v, .slice D' f' h']) := hp 1 45 (by kernel_rfl)
      refine hop_call (wanted_none rfl) rfl (args := #[(.agg #[.bool s, .slice A n c, .bool t, .slice B m d]), (.agg #[.bool u, .slice C l e', .bool v, .slice D' f' h'])]) (by simp only [List.map_toArray, List.map_cons, List.map_nil, eval_const, e44, e45]) (ent7 (by kernel_rfl) _ _) (add_q (ha.below hB) (hb.below hB) 4 (by omega) (by omega) (by omega) (by omega) (by omega) (by omega)) ?_
      rintro e w2 ⟨s, A, n, c, t, B, m, d, rfl, p, k, l, BB⟩
      exact ⟨_, rfl, hK _ _ ⟨s, A, n, c, t, B, m, d, rfl, p, by omega, by omega⟩ BB⟩
    · intro a w1 hB ho hp K hK
      have e9 : a.eval (.tmp 9) = (.pointer (some ⟨g41, 0, none⟩)) := ho 9 (by kernel_rfl)
      obtain ⟨u1, u2, u3, u4, u5⟩ := H_la.out.below hB
      exact hop_load (wanted_none rfl) rfl e9 (run_ldz u1 u2) (hK _ _ rfl (Below.refl _ _))
    · intro a w1 hB ho hp K hK
      have e10 : a.eval (.tmp 10) = (.pointer (some ⟨g42, 0, none⟩)) := ho 10 (by kernel_rfl)
      obtain ⟨u1, u2, u3, u4, u5⟩ := H_ra.out.below hB
      exact hop_load (wanted_none rfl) rfl e10 (run_ldz u1 u2) (hK _ _ rfl (Below.refl _ _))
    · intro a w1 hB ho hp K hK
      have e47 : a.eval (.tmp 47) = (.agg #[.bool s38, .slice A38 n38 c38]) := hp 3 47 (by kernel_rfl)
      have e48 : a.eval (.tmp 48) = (.agg #[.bool s39, .slice A39 n39 c39]) := hp 4 48 (by kernel_rfl)
      refine hop_call (wanted_none rfl) rfl (args := #[(.agg #[.bool s38, .slice A38 n38 c38]), (.agg #[.bool s39, .slice A39 n39 c39])]) (by simp only [List.map_toArray, List.map_cons, List.map_nil, eval_const, e47, e48]) (ent7 (by kernel_rfl) _ _) (zadd_v (fl.below hB).zv (fr.below hB).zv (by omega) (by omega)) ?_
      rintro e w2 ⟨s, A, n, c, rfl, p, k, B⟩
      exact ⟨_, rfl, hK _ _ ⟨s, A, n, c, rfl, p, by omega⟩ B⟩
    · intro a w1 hB ho hp K hK
      have e11 : a.eval (.tmp 11) = (.pointer (some ⟨g43, 0, none⟩)) := ho 11 (by kernel_rfl)
      obtain ⟨u1, u2, u3, u4, u5⟩ := H_al.out.below hB
      exact hop_load (wanted_none rfl) rfl e11 (run_ldz u1 u2) (hK _ _ rfl (Below.refl _ _))
    · intro a w1 hB ho hp K hK
      obtain ⟨s46, A46, n46, c46, t46, D46, m46, d46, e46, p46, k46, l46⟩ : IsQ (p + q) 9 (a.eval (.tmp 46)) w1 := hp 2 46 (by kernel_rfl)
      obtain ⟨s49, A49, n49, c49, e49, p49, k49⟩ : IsC (N1 * E1 + M1 * D1) 9 (a.eval (.tmp 49)) w1 := hp 5 49 (by kernel_rfl)
      have e50 : a.eval (.tmp 50) = (.agg #[.bool s40, .slice A40 n40 c40]) := hp 6 50 (by kernel_rfl)
      refine hop_call (wanted_none rfl) rfl (args := #[(.agg #[.bool s46, .slice A46 n46 c46, .bool t46, .slice D46 m46 d46]), (.agg #[.bool s49, .slice A49 n49 c49]), (.agg #[.bool s40, .slice A40 n40 c40])]) (by simp only [List.map_toArray, List.map_cons, List.map_nil, eval_const, e46, e49, e50]) (ent7 (by kernel_rfl) _ _) (isq_yes p46 p49.zv (fa.below hB).zv (by omega) (by omega) (by omega) (by omega) HA.out) ?_
      rintro e w2 ⟨rfl, B⟩
      exact ⟨_, rfl, hK _ _ rfl B⟩
    · intro a w1 hB ho hp K hK
      have e51 : a.eval (.tmp 51) = (.bool true) := hp 7 51 (by kernel_rfl)
      refine hop_val (wanted_none rfl) ?_ (hK (.bool false) _ rfl (Below.refl _ _))
      unfold execOp; simp only [eval_const, e51]; simp [go_sem]
    · intro a w1 hB ho hp K hK
      have e52 : a.eval (.tmp 52) = (.bool false) := hp 8 52 (by kernel_rfl)
      refine hop_val (wanted_none rfl) ?_ (hK (.bool false) _ rfl (Below.refl _ _))
      unfold execOp; simp only [eval_const, e52]; simp [go_sem]
    · intro a w1 hB ho hp K hK
      have e2 : a.eval (.tmp 2) = (.pointer (some ⟨w.heap.size, 0, none⟩)) := ho 2 (by kernel_rfl)
      obtain ⟨u1, u2, u3, u4, u5, u6, u7, u8, u9⟩ := H_a.out.below hB
      exact hop_load (wanted_at rfl (j := 9) (d := 53) (b := false) (by kernel_rfl) (hp 9 53 (by kernel_rfl))) rfl e2 (run_ldq u1 u2 u3 u4) (hK _ _ rfl (Below.refl _ _))
    · intro a w1 hB ho hp K hK
      have e3 : a.eval (.tmp 3) = (.pointer (some ⟨(w.heap.size + 1), 0, none⟩)) := ho 3 (by kernel_rfl)
      obtain ⟨u1, u2, u3, u4, u5, u6, u7, u8, u9⟩ := H_b.out.below hB
      exact hop_load (wanted_at rfl (j := 9) (d := 53) (b := false) (by kernel_rfl) (hp 9 53 (by kernel_rfl))) rfl e3 (run_ldq u1 u2 u3 u4) (hK _ _ rfl (Below.refl _ _))
    · intro a w1 hB ho hp K hK
      have e54 : a.eval (.tmp 54) = (.agg #[.bool s, .slice A n c, .bool t, .slice B m d]) := hp 10 54 (by kernel_rfl)
      have e55 : a.eval (.tmp 55) = (.agg #[.bool u, .slice C l e', .bool v, .slice D' f' h']) := hp 11 55 (by kernel_rfl)
      refine hop_call (wanted_at rfl (j := 9) (d := 53) (b := false) (by kernel_rfl) (hp 9 53 (by kernel_rfl))) rfl (args := #[(.agg #[.bool s, .slice A n c, .bool t, .slice B m d]), (.agg #[.bool u, .slice C l e', .bool v, .slice D' f' h'])]) (by simp only [List.map_toArray, List.map_cons, List.map_nil, eval_const, e54, e55]) (ent7 (by kernel_rfl) _ _) (sub_q (ha.below hB) (hb.below hB) 4 (by omega) (by omega) (by omega) (by omega) (by omega) (by omega)) ?_
      rintro e w2 ⟨s, A, n, c, t, B, m, d, rfl, p, k, l, BB⟩
      exact ⟨_, rfl, hK _ _ ⟨s, A, n, c, t, B, m, d, rfl, p, by omega, by omega⟩ BB⟩
    · intro a w1 hB ho hp K hK
      have e9 : a.eval (.tmp 9) = (.pointer (some ⟨g41, 0, none⟩)) := ho 9 (by kernel_rfl)
      obtain ⟨u1, u2, u3, u4, u5⟩ := H_la.out.below hB
      exact hop_load (wanted_at rfl (j := 9) (d := 53) (b := false) (by kernel_rfl) (hp 9 53 (by kernel_rfl))) rfl e9 (run_ldz u1 u2) (hK _ _ rfl (Below.refl _ _))
    · intro a w1 hB ho hp K hK
      have e10 : a.eval (.tmp 10) = (.pointer (some ⟨g42, 0, none⟩)) := ho 10 (by kernel_rfl)
      obtain ⟨u1, u2, u3, u4, u5⟩ := H_ra.out.below hB
      exact hop_load (wanted_at rfl (j := 9) (d := 53) (b := false) (by kernel_rfl) (hp 9 53 (by kernel_rfl))) rfl e10 (run_ldz u1 u2) (hK _ _ rfl (Below.refl _ _))
    · intro a w1 hB ho hp K hK
      have e57 : a.eval (.tmp 57) = (.agg #[.bool s38, .slice A38 n38 c38]) := hp 13 57 (by kernel_rfl)
      have e58 : a.eval (.tmp 58) = (.agg #[.bool s39, .slice A39 n39 c39]) := hp 14 58 (by kernel_rfl)
      refine hop_call (wanted_at rfl (j := 9) (d := 53) (b := false) (by kernel_rfl) (hp 9 53 (by kernel_rfl))) rfl (args := #[(.agg #[.bool s38, .slice A38 n38 c38]), (.agg #[.bool s39, .slice A39 n39 c39])]) (by simp only [List.map_toArray, List.map_cons, List.map_nil, eval_const, e57, e58]) (ent7 (by kernel_rfl) _ _) (zsub_v (fl.below hB).zv (fr.below hB).zv (by omega) (by omega)) ?_
      rintro e w2 ⟨s, A, n, c, rfl, p, k, B⟩
      exact ⟨_, rfl, hK _ _ ⟨s, A, n, c, rfl, p, by omega⟩ B⟩
    · intro a w1 hB ho hp K hK
      have e11 : a.eval (.tmp 11) = (.pointer (some ⟨g43, 0, none⟩)) := ho 11 (by kernel_rfl)
      obtain ⟨u1, u2, u3, u4, u5⟩ := H_al.out.below hB
      exact hop_load (wanted_at rfl (j := 9) (d := 53) (b := false) (by kernel_rfl) (hp 9 53 (by kernel_rfl))) rfl e11 (run_ldz u1 u2) (hK _ _ rfl (Below.refl _ _))
    · intro a w1 hB ho hp K hK
      obtain ⟨s56, A56, n56, c56, t56, D56, m56, d56, e56, p56, k56, l56⟩ : IsQ (p - q) 9 (a.eval (.tmp 56)) w1 := hp 12 56 (by kernel_rfl)
      obtain ⟨s59, A59, n59, c59, e59, p59, k59⟩ : IsC (N1 * E1 - M1 * D1) 9 (a.eval (.tmp 59)) w1 := hp 15 59 (by kernel_rfl)
      have e60 : a.eval (.tmp 60) = (.agg #[.bool s40, .slice A40 n40 c40]) := hp 16 60 (by kernel_rfl)
      refine hop_call (wanted_at rfl (j := 9) (d := 53) (b := false) (by kernel_rfl) (hp 9 53 (by kernel_rfl))) rfl (args := #[(.agg #[.bool s56, .slice A56 n56 c56, .bool t56, .slice D56 m56 d56]), (.agg #[.bool s59, .slice A59 n59 c59]), (.agg #[.bool s40, .slice A40 n40 c40])]) (by simp only [List.map_toArray, List.map_cons, List.map_nil, eval_const, e56, e59, e60]) (ent7 (by kernel_rfl) _ _) (isq_yes p56 p59.zv (fa.below hB).zv (by omega) (by omega) (by omega) (by omega) HS.out) ?_
      rintro e w2 ⟨rfl, B⟩
      exact ⟨_, rfl, hK _ _ rfl B⟩
    · intro a w1 hB ho hp K hK
      have e61 : a.eval (.tmp 61) = (.bool true) := hp 17 61 (by kernel_rfl)
      refine hop_val (wanted_at rfl (j := 9) (d := 53) (b := false) (by kernel_rfl) (hp 9 53 (by kernel_rfl))) ?_ (hK (.bool false) _ rfl (Below.refl _ _))
      unfold execOp; simp only [eval_const, e61]; simp [go_sem]
    · intro a w1 hB ho hp K hK
      have e53 : a.eval (.tmp 53) = (.bool false) := hp 9 53 (by kernel_rfl)
      have e62 : a.eval (.tmp 62) = (.bool false) := hp 18 62 (by kernel_rfl)
      refine hop_val (wanted_none rfl) ?_ (hK (.bool false) _ rfl (Below.refl _ _))
      unfold execOp; simp only [eval_const, e53, e62]; simp [go_sem]
    · intro a w1 hB ho hp K hK
      have e63 : a.eval (.tmp 63) = (.bool false) := hp 19 63 (by kernel_rfl)
      refine hop_val (wanted_none rfl) ?_ (hK (.bool false) _ rfl (Below.refl _ _))
      unfold execOp; simp only [eval_const, e63]; simp [go_sem]
    · intro a w1 hB ho hp K hK
      have e2 : a.eval (.tmp 2) = (.pointer (some ⟨w.heap.size, 0, none⟩)) := ho 2 (by kernel_rfl)
      obtain ⟨u1, u2, u3, u4, u5, u6, u7, u8, u9⟩ := H_a.out.below hB
      exact hop_load (wanted_at rfl (j := 20) (d := 64) (b := false) (by kernel_rfl) (hp 20 64 (by kernel_rfl))) rfl e2 (run_ldq u1 u2 u3 u4) (hK _ _ rfl (Below.refl _ _))
    · intro a w1 hB ho hp K hK
      have e3 : a.eval (.tmp 3) = (.pointer (some ⟨(w.heap.size + 1), 0, none⟩)) := ho 3 (by kernel_rfl)
      obtain ⟨u1, u2, u3, u4, u5, u6, u7, u8, u9⟩ := H_b.out.below hB
      exact hop_load (wanted_at rfl (j := 20) (d := 64) (b := false) (by kernel_rfl) (hp 20 64 (by kernel_rfl))) rfl e3 (run_ldq u1 u2 u3 u4) (hK _ _ rfl (Below.refl _ _))
    · intro a w1 hB ho hp K hK
      have e65 : a.eval (.tmp 65) = (.agg #[.bool s, .slice A n c, .bool t, .slice B m d]) := hp 21 65 (by kernel_rfl)
      have e66 : a.eval (.tmp 66) = (.agg #[.bool u, .slice C l e', .bool v, .slice D' f' h']) := hp 22 66 (by kernel_rfl)
      refine hop_call (wanted_at rfl (j := 20) (d := 64) (b := false) (by kernel_rfl) (hp 20 64 (by kernel_rfl))) rfl (args := #[(.agg #[.bool s, .slice A n c, .bool t, .slice B m d]), (.agg #[.bool u, .slice C l e', .bool v, .slice D' f' h'])]) (by simp only [List.map_toArray, List.map_cons, List.map_nil, eval_const, e65, e66]) (ent7 (by kernel_rfl) _ _) (mul_q (ha.below hB) (hb.below hB) 4 (by omega) (by omega) (by omega) (by omega) (by omega) (by omega)) ?_
      rintro e w2 ⟨s, A, n, c, t, B, m, d, rfl, p, k, l, BB⟩
      exact ⟨_, rfl, hK _ _ ⟨s, A, n, c, t, B, m, d, rfl, p, by omega, by omega⟩ BB⟩
    · intro a w1 hB ho hp K hK
      have e5 : a.eval (.tmp 5) = (.pointer (some ⟨g29, 0, none⟩)) := ho 5 (by kernel_rfl)
      obtain ⟨u1, u2, u3, u4, u5⟩ := H_na.out.below hB
      exact hop_load (wanted_at rfl (j := 20) (d := 64) (b := false) (by kernel_rfl) (hp 20 64 (by kernel_rfl))) rfl e5 (run_ldz u1 u2) (hK _ _ rfl (Below.refl _ _))
    · intro a w1 hB ho hp K hK
      have e7 : a.eval (.tmp 7) = (.pointer (some ⟨g31, 0, none⟩)) := ho 7 (by kernel_rfl)
      obtain ⟨u1, u2, u3, u4, u5⟩ := H_ma.out.below hB
      exact hop_load (wanted_at rfl (j := 20) (d := 64) (b := false) (by kernel_rfl) (hp 20 64 (by kernel_rfl))) rfl e7 (run_ldz u1 u2) (hK _ _ rfl (Below.refl _ _))
    · intro a w1 hB ho hp K hK
      have e68 : a.eval (.tmp 68) = (.agg #[.bool s25, .slice A25 n25 c25]) := hp 24 68 (by kernel_rfl)
      have e69 : a.eval (.tmp 69) = (.agg #[.bool s27, .slice A27 n27 c27]) := hp 25 69 (by kernel_rfl)
      refine hop_call (wanted_at rfl (j := 20) (d := 64) (b := false) (by kernel_rfl) (hp 20 64 (by kernel_rfl))) rfl (args := #[(.agg #[.bool s25, .slice A25 n25 c25]), (.agg #[.bool s27, .slice A27 n27 c27])]) (by simp only [List.map_toArray, List.map_cons, List.map_nil, eval_const, e68, e69]) (ent7 (by kernel_rfl) _ _) (zmul_v (fn.below hB) (fm.below hB) (by omega) (by omega)) ?_
      rintro e w2 ⟨s, A, n, c, rfl, p, k, B⟩
      exact ⟨_, rfl, hK _ _ ⟨s, A, n, c, rfl, p, by omega⟩ B⟩
    · intro a w1 hB ho hp K hK
      have e11 : a.eval (.tmp 11) = (.pointer (some ⟨g43, 0, none⟩)) := ho 11 (by kernel_rfl)
      obtain ⟨u1, u2, u3, u4, u5⟩ := H_al.out.below hB
      exact hop_load (wanted_at rfl (j := 20) (d := 64) (b := false) (by kernel_rfl) (hp 20 64 (by kernel_rfl))) rfl e11 (run_ldz u1 u2) (hK _ _ rfl (Below.refl _ _))
    · intro a w1 hB ho hp K hK
      obtain ⟨s67, A67, n67, c67, t67, D67, m67, d67, e67, p67, k67, l67⟩ : IsQ (p * q) 8 (a.eval (.tmp 67)) w1 := hp 23 67 (by kernel_rfl)
      obtain ⟨s70, A70, n70, c70, e70, p70, k70⟩ : IsC (N1 * M1) 8 (a.eval (.tmp 70)) w1 := hp 26 70 (by kernel_rfl)
      have e71 : a.eval (.tmp 71) = (.agg #[.bool s40, .slice A40 n40 c40]) := hp 27 71 (by kernel_rfl)
      refine hop_call (wanted_at rfl (j := 20) (d := 64) (b := false) (by kernel_rfl) (hp 20 64 (by kernel_rfl))) rfl (args := #[(.agg #[.bool s67, .slice A67 n67 c67, .bool t67, .slice D67 m67 d67]), (.agg #[.bool s70, .slice A70 n70 c70]), (.agg #[.bool s40, .slice A40 n40 c40])]) (by simp only [List.map_toArray, List.map_cons, List.map_nil, eval_const, e67, e70, e71]) (ent7 (by kernel_rfl) _ _) (isq_yes p67 p70.zv (fa.below hB).zv (by omega) (by omega) (by omega) (by omega) HM.out) ?_
      rintro e w2 ⟨rfl, B⟩
      exact ⟨_, rfl, hK _ _ rfl B⟩
    · intro a w1 hB ho hp K hK
      have e72 : a.eval (.tmp 72) = (.bool true) := hp 28 72 (by kernel_rfl)
      refine hop_val (wanted_at rfl (j := 20) (d := 64) (b := false) (by kernel_rfl) (hp 20 64 (by kernel_rfl))) ?_ (hK (.bool false) _ rfl (Below.refl _ _))
      unfold execOp; simp only [eval_const, e72]; simp [go_sem]
    · intro a w1 hB ho hp K hK
      have e64 : a.eval (.tmp 64) = (.bool false) := hp 20 64 (by kernel_rfl)
      have e73 : a.eval (.tmp 73) = (.bool false) := hp 29 73 (by kernel_rfl)
      refine hop_val (wanted_none rfl) ?_ (hK (.bool false) _ rfl (Below.refl _ _))
      unfold execOp; simp only [eval_const, e64, e73]; simp [go_sem]
    · intro a w1 hB ho hp K hK
      have e74 : a.eval (.tmp 74) = (.bool false) := hp 30 74 (by kernel_rfl)
      refine hop_val (wanted_none rfl) ?_ (hK (.bool false) _ rfl (Below.refl _ _))
      unfold execOp; simp only [eval_const, e74]; simp [go_sem]
    · intro a w1 hB ho hp K hK
      have e2 : a.eval (.tmp 2) = (.pointer (some ⟨w.heap.size, 0, none⟩)) := ho 2 (by kernel_rfl)
      obtain ⟨u1, u2, u3, u4, u5, u6, u7, u8, u9⟩ := H_a.out.below hB
      exact hop_load (wanted_at rfl (j := 31) (d := 75) (b := false) (by kernel_rfl) (hp 31 75 (by kernel_rfl))) rfl e2 (run_ldq u1 u2 u3 u4) (hK _ _ rfl (Below.refl _ _))
    · intro a w1 hB ho hp K hK
      have e76 : a.eval (.tmp 76) = (.agg #[.bool s, .slice A n c, .bool t, .slice B m d]) := hp 32 76 (by kernel_rfl)
      refine hop_call (wanted_at rfl (j := 31) (d := 75) (b := false) (by kernel_rfl) (hp 31 75 (by kernel_rfl))) rfl (args := #[(.agg #[.bool s, .slice A n c, .bool t, .slice B m d])]) (by simp only [List.map_toArray, List.map_cons, List.map_nil, eval_const, e76]) (ent7 (by kernel_rfl) _ _) (neg_q (ha.below hB) 4 (by omega) (by omega) (by omega) (by omega)) ?_
      rintro e w2 ⟨s, A, n, c, t, B, m, d, rfl, p, k, l, BB⟩
      exact ⟨_, rfl, hK _ _ ⟨s, A, n, c, t, B, m, d, rfl, p, by omega, by omega⟩ BB⟩
    · intro a w1 hB ho hp K hK
      have e5 : a.eval (.tmp 5) = (.pointer (some ⟨g29, 0, none⟩)) := ho 5 (by kernel_rfl)
      obtain ⟨u1, u2, u3, u4, u5⟩ := H_na.out.below hB
      exact hop_load (wanted_at rfl (j := 31) (d := 75) (b := false) (by kernel_rfl) (hp 31 75 (by kernel_rfl))) rfl e5 (run_ldz u1 u2) (hK _ _ rfl (Below.refl _ _))
    · intro a w1 hB ho hp K hK
      have e78 : a.eval (.tmp 78) = (.agg #[.bool s25, .slice A25 n25 c25]) := hp 34 78 (by kernel_rfl)
      refine hop_call (wanted_at rfl (j := 31) (d := 75) (b := false) (by kernel_rfl) (hp 31 75 (by kernel_rfl))) rfl (args := #[(.agg #[.bool s25, .slice A25 n25 c25])]) (by simp only [List.map_toArray, List.map_cons, List.map_nil, eval_const, e78]) (ent7 (by kernel_rfl) _ _) (zneg_v (fn.below hB) (by omega)) ?_
      rintro e w2 ⟨s, A, n, c, rfl, p, k, B⟩
      exact ⟨_, rfl, hK _ _ ⟨s, A, n, c, rfl, p, by omega⟩ B⟩
    · intro a w1 hB ho hp K hK
      have e6 : a.eval (.tmp 6) = (.pointer (some ⟨g30, 0, none⟩)) := ho 6 (by kernel_rfl)
      obtain ⟨u1, u2, u3, u4, u5⟩ := H_da.out.below hB
      exact hop_load (wanted_at rfl (j := 31) (d := 75) (b := false) (by kernel_rfl) (hp 31 75 (by kernel_rfl))) rfl e6 (run_ldz u1 u2) (hK _ _ rfl (Below.refl _ _))
    · intro a w1 hB ho hp K hK
      obtain ⟨s77, A77, n77, c77, t77, D77, m77, d77, e77, p77, k77, l77⟩ : IsQ (-p) 4 (a.eval (.tmp 77)) w1 := hp 33 77 (by kernel_rfl)
      obtain ⟨s79, A79, n79, c79, e79, p79, k79⟩ : IsC (-N1) 4 (a.eval (.tmp 79)) w1 := hp 35 79 (by kernel_rfl)
      have e80 : a.eval (.tmp 80) = (.agg #[.bool s26, .slice A26 n26 c26]) := hp 36 80 (by kernel_rfl)
      refine hop_call (wanted_at rfl (j := 31) (d := 75) (b := false) (by kernel_rfl) (hp 31 75 (by kernel_rfl))) rfl (args := #[(.agg #[.bool s77, .slice A77 n77 c77, .bool t77, .slice D77 m77 d77]), (.agg #[.bool s79, .slice A79 n79 c79]), (.agg #[.bool s26, .slice A26 n26 c26])]) (by simp only [List.map_toArray, List.map_cons, List.map_nil, eval_const, e77, e79, e80]) (ent7 (by kernel_rfl) _ _) (isq_yes p77 p79.zv (fd.below hB).zv (by omega) (by omega) (by omega) (by omega) HN.out) ?_
      rintro e w2 ⟨rfl, B⟩
      exact ⟨_, rfl, hK _ _ rfl B⟩
    · intro a w1 hB ho hp K hK
      have e81 : a.eval (.tmp 81) = (.bool true) := hp 37 81 (by kernel_rfl)
      refine hop_val (wanted_at rfl (j := 31) (d := 75) (b := false) (by kernel_rfl) (hp 31 75 (by kernel_rfl))) ?_ (hK (.bool false) _ rfl (Below.refl _ _))
      unfold execOp; simp only [eval_const, e81]; simp [go_sem]
    · intro a w1 hB ho hp K hK
      have e75 : a.eval (.tmp 75) = (.bool false) := hp 31 75 (by kernel_rfl)
      have e82 : a.eval (.tmp 82) = (.bool false) := hp 38 82 (by kernel_rfl)
      refine hop_val (wanted_none rfl) ?_ (hK (.bool false) _ rfl (Below.refl _ _))
      unfold execOp; simp only [eval_const, e75, e82]; simp [go_sem]
  intro w47 B47
  refine EndAll.one rfl fun vv hv => ?_
  obtain rfl : vv = (.agg #[.bool s, .slice A n c, .bool t, .slice B m d]) := hv
  refine EndAll.one rfl fun vv hv => ?_
  obtain rfl : vv = (.agg #[.bool u, .slice C l e', .bool v, .slice D' f' h']) := hv
  refine EndAll.one rfl fun vv hv => ?_
  obtain ⟨s48, A48, n48, c48, t48, D48, m48, d48, rfl, p48, k48, l48⟩ : IsQ (p + q) 9 vv w47 := hv
  refine EndAll.one rfl fun vv hv => ?_
  obtain rfl : vv = (.agg #[.bool s38, .slice A38 n38 c38]) := hv
  refine EndAll.one rfl fun vv hv => ?_
  obtain rfl : vv = (.agg #[.bool s39, .slice A39 n39 c39]) := hv
  refine EndAll.one rfl fun vv hv => ?_
  obtain ⟨s49, A49, n49, c49, rfl, p49, k49⟩ : IsC (N1 * E1 + M1 * D1) 9 vv w47 := hv
  refine EndAll.one rfl fun vv hv => ?_
  obtain rfl : vv = (.agg #[.bool s40, .slice A40 n40 c40]) := hv
  refine EndAll.one rfl fun vv hv => ?_
  obtain rfl : vv = (.bool true) := hv
  refine EndAll.one rfl fun vv hv => ?_
  obtain rfl : vv = (.bool false) := hv
  refine EndAll.one rfl fun vv hv => ?_
  obtain rfl : vv = (.bool false) := hv
  refine EndAll.one rfl fun vv hv => ?_
  obtain rfl : vv = (.agg #[.bool s, .slice A n c, .bool t, .slice B m d]) := hv
  refine EndAll.one rfl fun vv hv => ?_
  obtain rfl : vv = (.agg #[.bool u, .slice C l e', .bool v, .slice D' f' h']) := hv
  refine EndAll.one rfl fun vv hv => ?_
  obtain ⟨s50, A50, n50, c50, t50, D50, m50, d50, rfl, p50, k50, l50⟩ : IsQ (p - q) 9 vv w47 := hv
  refine EndAll.one rfl fun vv hv => ?_
  obtain rfl : vv = (.agg #[.bool s38, .slice A38 n38 c38]) := hv
  refine EndAll.one rfl fun vv hv => ?_
  obtain rfl : vv = (.agg #[.bool s39, .slice A39 n39 c39]) := hv
  refine EndAll.one rfl fun vv hv => ?_
  obtain ⟨s51, A51, n51, c51, rfl, p51, k51⟩ : IsC (N1 * E1 - M1 * D1) 9 vv w47 := hv
  refine EndAll.one rfl fun vv hv => ?_
  obtain rfl : vv = (.agg #[.bool s40, .slice A40 n40 c40]) := hv
  refine EndAll.one rfl fun vv hv => ?_
  obtain rfl : vv = (.bool true) := hv
  refine EndAll.one rfl fun vv hv => ?_
  obtain rfl : vv = (.bool false) := hv
  refine EndAll.one rfl fun vv hv => ?_
  obtain rfl : vv = (.bool false) := hv
  refine EndAll.one rfl fun vv hv => ?_
  obtain rfl : vv = (.bool false) := hv
  refine EndAll.one rfl fun vv hv => ?_
  obtain rfl : vv = (.agg #[.bool s, .slice A n c, .bool t, .slice B m d]) := hv
  refine EndAll.one rfl fun vv hv => ?_
  obtain rfl : vv = (.agg #[.bool u, .slice C l e', .bool v, .slice D' f' h']) := hv
  refine EndAll.one rfl fun vv hv => ?_
  obtain ⟨s52, A52, n52, c52, t52, D52, m52, d52, rfl, p52, k52, l52⟩ : IsQ (p * q) 8 vv w47 := hv
  refine EndAll.one rfl fun vv hv => ?_
  obtain rfl : vv = (.agg #[.bool s25, .slice A25 n25 c25]) := hv
  refine EndAll.one rfl fun vv hv => ?_
  obtain rfl : vv = (.agg #[.bool s27, .slice A27 n27 c27]) := hv
  refine EndAll.one rfl fun vv hv => ?_
  obtain ⟨s53, A53, n53, c53, rfl, p53, k53⟩ : IsC (N1 * M1) 8 vv w47 := hv
  refine EndAll.one rfl fun vv hv => ?_
  obtain rfl : vv = (.agg #[.bool s40, .slice A40 n40 c40]) := hv
  refine EndAll.one rfl fun vv hv => ?_
  obtain rfl : vv = (.bool true) := hv
  refine EndAll.one rfl fun vv hv => ?_
  obtain rfl : vv = (.bool false) := hv
  refine EndAll.one rfl fun vv hv => ?_
  obtain rfl : vv = (.bool false) := hv
  refine EndAll.one rfl fun vv hv => ?_
  obtain rfl : vv = (.bool false) := hv
  refine EndAll.one rfl fun vv hv => ?_
  obtain rfl : vv = (.agg #[.bool s, .slice A n c, .bool t, .slice B m d]) := hv
  refine EndAll.one rfl fun vv hv => ?_
  obtain ⟨s54, A54, n54, c54, t54, D54, m54, d54, rfl, p54, k54, l54⟩ : IsQ (-p) 4 vv w47 := hv
  refine EndAll.one rfl fun vv hv => ?_
  obtain rfl : vv = (.agg #[.bool s25, .slice A25 n25 c25]) := hv
  refine EndAll.one rfl fun vv hv => ?_
  obtain ⟨s55, A55, n55, c55, rfl, p55, k55⟩ : IsC (-N1) 4 vv w47 := hv
  refine EndAll.one rfl fun vv hv => ?_
  obtain rfl : vv = (.agg #[.bool s26, .slice A26 n26 c26]) := hv
  refine EndAll.one rfl fun vv hv => ?_
  obtain rfl : vv = (.bool true) := hv
  refine EndAll.one rfl fun vv hv => ?_
  obtain rfl : vv = (.bool false) := hv
  refine EndAll.one rfl fun vv hv => ?_
  obtain rfl : vv = (.bool false) := hv
  refine EndAll.nil (l := []) rfl ?_
  simp only [Act.put, List.setIfInBounds_toArray, List.set_cons_zero, List.set_cons_succ]
  replace H_a := Lib.hid (H_a.out.below B47)
  replace H_b := Lib.hid (H_b.out.below B47)
  replace H_na := Lib.hid (H_na.out.below B47)
  replace H_da := Lib.hid (H_da.out.below B47)
  replace H_ma := Lib.hid (H_ma.out.below B47)
  replace H_ea := Lib.hid (H_ea.out.below B47)
  replace H_la := Lib.hid (H_la.out.below B47)
  replace H_ra := Lib.hid (H_ra.out.below B47)
  replace H_al := Lib.hid (H_al.out.below B47)
  replace ha := ha.below B47
  replace hb := hb.below B47
  replace fn := fn.below B47
  replace fd := fd.below B47
  replace fm := fm.below B47
  replace fe := fe.below B47
  replace fl := fl.below B47
  replace fr := fr.below B47
  replace fa := fa.below B47
  replace hW := hW.trans (B47.mono hW.size)
  clear B47
  obtain ⟨a1, a2, a3, a4, a5, a6, a7, a8, a9⟩ := H_a.out
  obtain ⟨b1, b2, b3, b4, b5, b6, b7, b8, b9⟩ := H_b.out
  obtain ⟨na1, na2, na3, na4, na5⟩ := H_na.out
  obtain ⟨da1, da2, da3, da4, da5⟩ := H_da.out
  obtain ⟨ma1, ma2, ma3, ma4, ma5⟩ := H_ma.out
  obtain ⟨ea1, ea2, ea3, ea4, ea5⟩ := H_ea.out
  obtain ⟨la1, la2, la3, la4, la5⟩ := H_la.out
  obtain ⟨ra1, ra2, ra3, ra4, ra5⟩ := H_ra.out
  obtain ⟨al1, al2, al3, al4, al5⟩ := H_al.out
  go_wp2_with fail
  clear a1 a2 a3 a4 a5 a6 a7 a8 a9 b1 b2 b3 b4 b5 b6 b7 b8 b9 na1 na2 na3 na4 na5 da1 da2 da3 da4 da5 ma1 ma2 ma3 ma4 ma5 ea1 ea2 ea3 ea4 ea5 la1 la2 la3 la4 la5 ra1 ra2 ra3 ra4 ra5 al1 al2 al3 al4 al5
  refine (quo_q ha hb 4 (by omega) (by omega) (by omega) (by omega) (by omega) (by omega) HB.out).mono ?_
  rintro e w56 ⟨s56, A56, n56, c56, t56, D56, m56, d56, rfl, pq, k56, l56, B56⟩
  replace H_a := Lib.hid (H_a.out.below B56)
  replace H_b := Lib.hid (H_b.out.below B56)
  replace H_na := Lib.hid (H_na.out.below B56)
  replace H_da := Lib.hid (H_da.out.below B56)
  replace H_ma := Lib.hid (H_ma.out.below B56)
  replace H_ea := Lib.hid (H_ea.out.below B56)
  replace H_la := Lib.hid (H_la.out.below B56)
  replace H_ra := Lib.hid (H_ra.out.below B56)
  replace H_al := Lib.hid (H_al.out.below B56)
  replace ha := ha.below B56
  replace hb := hb.below B56
  replace fn := fn.below B56
  replace fd := fd.below B56
  replace fm := fm.below B56
  replace fe := fe.below B56
  replace fl := fl.below B56
  replace fr := fr.below B56
  replace fa := fa.below B56
  replace hW := hW.trans (B56.mono hW.size)
  clear B56
  have O_a := H_a
  have O_b := H_b
  have O_na := H_na
  have O_da := H_da
  have O_ma := H_ma
  have O_ea := H_ea
  have O_la := H_la
  have O_ra := H_ra
  have O_al := H_al
  obtain ⟨w57, hw57⟩ : ∃ x, x = w56.alloc (.cells #[.bool s56, .slice A56 n56 c56, .bool t56, .slice D56 m56 d56] 28) := ⟨_, rfl⟩
  have z57 : Below w56.heap.size w56 w57 := by rw [hw57]; exact zba _ _
  have HW57 : Hid (w56.alloc (.cells #[.bool s56, .slice A56 n56 c56, .bool t56, .slice D56 m56 d56] 28) = w57) := Lib.hid hw57.symm
  have nn_a_qa : ¬ (w.heap.size = w56.heap.size) := by have := H_a.out.2.2.2.2.2.2.2.2; omega
  have nm_a_qa : ¬ (w56.heap.size = w.heap.size) := by omega
  have nn_b_qa : ¬ ((w.heap.size + 1) = w56.heap.size) := by have := H_b.out.2.2.2.2.2.2.2.2; omega
  have nm_b_qa : ¬ (w56.heap.size = (w.heap.size + 1)) := by omega
  have nn_na_qa : ¬ (g29 = w56.heap.size) := by have := H_na.out.2.2.2.2; omega
  have nm_na_qa : ¬ (w56.heap.size = g29) := by omega
  have nn_da_qa : ¬ (g30 = w56.heap.size) := by have := H_da.out.2.2.2.2; omega
  have nm_da_qa : ¬ (w56.heap.size = g30) := by omega
  have nn_ma_qa : ¬ (g31 = w56.heap.size) := by have := H_ma.out.2.2.2.2; omega
  have nm_ma_qa : ¬ (w56.heap.size = g31) := by omega
  have nn_ea_qa : ¬ (g32 = w56.heap.size) := by have := H_ea.out.2.2.2.2; omega
  have nm_ea_qa : ¬ (w56.heap.size = g32) := by omega
  have nn_la_qa : ¬ (g41 = w56.heap.size) := by have := H_la.out.2.2.2.2; omega
  have nm_la_qa : ¬ (w56.heap.size = g41) := by omega
  have nn_ra_qa : ¬ (g42 = w56.heap.size) := by have := H_ra.out.2.2.2.2; omega
  have nm_ra_qa : ¬ (w56.heap.size = g42) := by omega
  have nn_al_qa : ¬ (g43 = w56.heap.size) := by have := H_al.out.2.2.2.2; omega
  have nm_al_qa : ¬ (w56.heap.size = g43) := by omega
  have lw_qa : w.heap.size ≤ w56.heap.size := by have := hW.size; omega
  replace H_a := Lib.hid (H_a.out.below z57)
  replace H_b := Lib.hid (H_b.out.below z57)
  replace H_na := Lib.hid (H_na.out.below z57)
  replace H_da := Lib.hid (H_da.out.below z57)
  replace H_ma := Lib.hid (H_ma.out.below z57)
  replace H_ea := Lib.hid (H_ea.out.below z57)
  replace H_la := Lib.hid (H_la.out.below z57)
  replace H_ra := Lib.hid (H_ra.out.below z57)
  replace H_al := Lib.hid (H_al.out.below z57)
  replace ha := ha.below z57
  replace hb := hb.below z57
  replace fn := fn.below z57
  replace fd := fd.below z57
  replace fm := fm.below z57
  replace fe := fe.below z57
  replace fl := fl.below z57
  replace fr := fr.below z57
  replace fa := fa.below z57
  replace pq := pq.below z57
  replace hW := hW.trans (z57.mono hW.size)
  have H_qa : Hid (Rb w57 w56.heap.size s56 A56 n56 c56 t56 D56 m56 d56) := Lib.hid (by rw [hw57]; exact Rb.new _ _ _ _ _ _ _ _ _ _)
  clear z57 hw57
  obtain ⟨a1, a2, a3, a4, a5, a6, a7, a8, a9⟩ := O_a.out
  obtain ⟨b1, b2, b3, b4, b5, b6, b7, b8, b9⟩ := O_b.out
  obtain ⟨na1, na2, na3, na4, na5⟩ := O_na.out
  obtain ⟨da1, da2, da3, da4, da5⟩ := O_da.out
  obtain ⟨ma1, ma2, ma3, ma4, ma5⟩ := O_ma.out
  obtain ⟨ea1, ea2, ea3, ea4, ea5⟩ := O_ea.out
  obtain ⟨la1, la2, la3, la4, la5⟩ := O_la.out
  obtain ⟨ra1, ra2, ra3, ra4, ra5⟩ := O_ra.out
  obtain ⟨al1, al2, al3, al4, al5⟩ := O_al.out
  go_wp2_with fail
  rw [HW57.out]
  clear a1 a2 a3 a4 a5 a6 a7 a8 a9 b1 b2 b3 b4 b5 b6 b7 b8 b9 na1 na2 na3 na4 na5 da1 da2 da3 da4 da5 ma1 ma2 ma3 ma4 ma5 ea1 ea2 ea3 ea4 ea5 la1 la2 la3 la4 la5 ra1 ra2 ra3 ra4 ra5 al1 al2 al3 al4 al5 O_a O_b O_na O_da O_ma O_ea O_la O_ra O_al
  refine region7 [] 21 [IsK (.agg #[.bool s, .slice A n c, .bool t, .slice B m d]), IsK (.agg #[.bool u, .slice C l e', .bool v, .slice D' f' h']), IsK (.int .i64 r0), IsK (.agg #[.bool s38, .slice A38 n38 c38]), IsK (.agg #[.bool s39, .slice A39 n39 c39]), IsK (.int .i64 r0), IsK (.bool false), IsK (.bool false), IsK (.agg #[.bool s, .slice A n c, .bool t, .slice B m d]), IsK (.int .i64 r1), IsK (.agg #[.bool s25, .slice A25 n25 c25]), IsK (.int .i64 r1), IsK (.bool false), IsK (.bool false), IsK (.bool false), IsK (.bool true), IsK (.agg #[.bool s27, .slice A27 n27 c27]), IsK (.int .i64 s2), IsK (.bool true), IsK (.bool false), IsK (.bool false)] (fun _ _ d _ _ h => by cases d <;> exact h) (by kernel_rfl) (by kernel_rfl) (by kernel_rfl) ⟨stay_k _, stay_k _, stay_k _, stay_k _, stay_k _, stay_k _, stay_k _, stay_k _, stay_k _, stay_k _, stay_k _, stay_k _, stay_k _, stay_k _, stay_k _, stay_k _, stay_k _, stay_k _, stay_k _, stay_k _, stay_k _, trivial⟩ ?_ ?_
  · refine HopAll.cons rfl ?_ (HopAll.cons rfl ?_ (HopAll.cons rfl ?_ (HopAll.cons rfl ?_ (HopAll.cons rfl ?_ (HopAll.cons rfl ?_ (HopAll.cons rfl ?_ (HopAll.cons rfl ?_ (HopAll.cons rfl ?_ (HopAll.cons rfl ?_ (HopAll.cons rfl ?_ (HopAll.cons rfl ?_ (HopAll.cons rfl ?_ (HopAll.cons rfl ?_ (HopAll.cons rfl ?_ (HopAll.cons rfl ?_ (HopAll.cons rfl ?_ (HopAll.cons rfl ?_ (HopAll.cons rfl ?_ (HopAll.cons rfl ?_ (HopAll.cons rfl ?_ HopAll.nil))))))))))))))))))))
    · intro a w1 hB ho hp K hK
      have e2 : a.eval (.tmp 2) = (.pointer (some ⟨w.heap.size, 0, none⟩)) := ho 2 (by kernel_rfl)
      obtain ⟨u1, u2, u3, u4, u5, u6, u7, u8, u9⟩ := H_a.out.below hB
      exact hop_load (wanted_none rfl) rfl e2 (run_ldq u1 u2 u3 u4) (hK _ _ rfl (Below.refl _ _))
    · intro a w1 hB ho hp K hK
      have e3 : a.eval (.tmp 3) = (.pointer (some ⟨(w.heap.size + 1), 0, none⟩)) := ho 3 (by kernel_rfl)
      obtain ⟨u1, u2, u3, u4, u5, u6, u7, u8, u9⟩ := H_b.out.below hB
      exact hop_load (wanted_none rfl) rfl e3 (run_ldq u1 u2 u3 u4) (hK _ _ rfl (Below.refl _ _))
    · intro a w1 hB ho hp K hK
      have e90 : a.eval (.tmp 90) = (.agg #[.bool s, .slice A n c, .bool t, .slice B m d]) := hp 0 90 (by kernel_rfl)
      have e91 : a.eval (.tmp 91) = (.agg #[.bool u, .slice C l e', .bool v, .slice D' f' h']) := hp 1 91 (by kernel_rfl)
      refine hop_call (wanted_none rfl) rfl (args := #[(.agg #[.bool s, .slice A n c, .bool t, .slice B m d]), (.agg #[.bool u, .slice C l e', .bool v, .slice D' f' h'])]) (by simp only [List.map_toArray, List.map_cons, List.map_nil, eval_const, e90, e91]) (ent7 (by kernel_rfl) _ _) (cmp_q (ha.below hB) (hb.below hB) 4 (by omega) (by omega) (by omega) (by omega) (by omega) (by omega) HC.out) ?_
      rintro e w2 ⟨rfl, B⟩
      exact ⟨_, rfl, hK _ _ rfl B⟩
    · intro a w1 hB ho hp K hK
      have e9 : a.eval (.tmp 9) = (.pointer (some ⟨g41, 0, none⟩)) := ho 9 (by kernel_rfl)
      obtain ⟨u1, u2, u3, u4, u5⟩ := H_la.out.below hB
      exact hop_load (wanted_none rfl) rfl e9 (run_ldz u1 u2) (hK _ _ rfl (Below.refl _ _))
    · intro a w1 hB ho hp K hK
      have e10 : a.eval (.tmp 10) = (.pointer (some ⟨g42, 0, none⟩)) := ho 10 (by kernel_rfl)
      obtain ⟨u1, u2, u3, u4, u5⟩ := H_ra.out.below hB
      exact hop_load (wanted_none rfl) rfl e10 (run_ldz u1 u2) (hK _ _ rfl (Below.refl _ _))
    · intro a w1 hB ho hp K hK
      have e93 : a.eval (.tmp 93) = (.agg #[.bool s38, .slice A38 n38 c38]) := hp 3 93 (by kernel_rfl)
      have e94 : a.eval (.tmp 94) = (.agg #[.bool s39, .slice A39 n39 c39]) := hp 4 94 (by kernel_rfl)
      refine hop_call (wanted_none rfl) rfl (args := #[(.agg #[.bool s38, .slice A38 n38 c38]), (.agg #[.bool s39, .slice A39 n39 c39])]) (by simp only [List.map_toArray, List.map_cons, List.map_nil, eval_const, e93, e94]) (ent7 (by kernel_rfl) _ _) (zcmp_v (fl.below hB).zv (fr.below hB).zv (by omega) (by omega) HC2.out) ?_
      rintro e w2 ⟨rfl, B⟩
      exact ⟨_, rfl, hK _ _ rfl B⟩
    · intro a w1 hB ho hp K hK
      have e92 : a.eval (.tmp 92) = (.int .i64 r0) := hp 2 92 (by kernel_rfl)
      have e95 : a.eval (.tmp 95) = (.int .i64 r0) := hp 5 95 (by kernel_rfl)
      refine hop_val (wanted_none rfl) ?_ (hK (.bool false) _ rfl (Below.refl _ _))
      unfold execOp; simp only [eval_const, e92, e95]; simp [go_sem]
    · intro a w1 hB ho hp K hK
      have e96 : a.eval (.tmp 96) = (.bool false) := hp 6 96 (by kernel_rfl)
      refine hop_val (wanted_none rfl) ?_ (hK (.bool false) _ rfl (Below.refl _ _))
      unfold execOp; simp only [eval_const, e96]; simp [go_sem]
    · intro a w1 hB ho hp K hK
      have e2 : a.eval (.tmp 2) = (.pointer (some ⟨w.heap.size, 0, none⟩)) := ho 2 (by kernel_rfl)
      obtain ⟨u1, u2, u3, u4, u5, u6, u7, u8, u9⟩ := H_a.out.below hB
      exact hop_load (wanted_at rfl (j := 7) (d := 97) (b := false) (by kernel_rfl) (hp 7 97 (by kernel_rfl))) rfl e2 (run_ldq u1 u2 u3 u4) (hK _ _ rfl (Below.refl _ _))
    · intro a w1 hB ho hp K hK
      have e98 : a.eval (.tmp 98) = (.agg #[.bool s, .slice A n c, .bool t, .slice B m d]) := hp 8 98 (by kernel_rfl)
      refine hop_call (wanted_at rfl (j := 7) (d := 97) (b := false) (by kernel_rfl) (hp 7 97 (by kernel_rfl))) rfl (args := #[(.agg #[.bool s, .slice A n c, .bool t, .slice B m d])]) (by simp only [List.map_toArray, List.map_cons, List.map_nil, eval_const, e98]) (ent7 (by kernel_rfl) _ _) (sign_q (ha.below hB) 4 (by omega) (by omega) (by omega) HP.out) ?_
      rintro e w2 ⟨rfl, B⟩
      exact ⟨_, rfl, hK _ _ rfl B⟩
    · intro a w1 hB ho hp K hK
      have e5 : a.eval (.tmp 5) = (.pointer (some ⟨g29, 0, none⟩)) := ho 5 (by kernel_rfl)
      obtain ⟨u1, u2, u3, u4, u5⟩ := H_na.out.below hB
      exact hop_load (wanted_at rfl (j := 7) (d := 97) (b := false) (by kernel_rfl) (hp 7 97 (by kernel_rfl))) rfl e5 (run_ldz u1 u2) (hK _ _ rfl (Below.refl _ _))
    · intro a w1 hB ho hp K hK
      have e100 : a.eval (.tmp 100) = (.agg #[.bool s25, .slice A25 n25 c25]) := hp 10 100 (by kernel_rfl)
      refine hop_call (wanted_at rfl (j := 7) (d := 97) (b := false) (by kernel_rfl) (hp 7 97 (by kernel_rfl))) rfl (args := #[(.agg #[.bool s25, .slice A25 n25 c25])]) (by simp only [List.map_toArray, List.map_cons, List.map_nil, eval_const, e100]) (ent7 (by kernel_rfl) _ _) (zsign_v (fn.below hB) (by omega) HP2.out) ?_
      rintro e w2 ⟨rfl, B⟩
      exact ⟨_, rfl, hK _ _ rfl B⟩
    · intro a w1 hB ho hp K hK
      have e99 : a.eval (.tmp 99) = (.int .i64 r1) := hp 9 99 (by kernel_rfl)
      have e101 : a.eval (.tmp 101) = (.int .i64 r1) := hp 11 101 (by kernel_rfl)
      refine hop_val (wanted_at rfl (j := 7) (d := 97) (b := false) (by kernel_rfl) (hp 7 97 (by kernel_rfl))) ?_ (hK (.bool false) _ rfl (Below.refl _ _))
      unfold execOp; simp only [eval_const, e99, e101]; simp [go_sem]
    · intro a w1 hB ho hp K hK
      have e97 : a.eval (.tmp 97) = (.bool false) := hp 7 97 (by kernel_rfl)
      have e102 : a.eval (.tmp 102) = (.bool false) := hp 12 102 (by kernel_rfl)
      refine hop_val (wanted_none rfl) ?_ (hK (.bool false) _ rfl (Below.refl _ _))
      unfold execOp; simp only [eval_const, e97, e102]; simp [go_sem]
    · intro a w1 hB ho hp K hK
      have e103 : a.eval (.tmp 103) = (.bool false) := hp 13 103 (by kernel_rfl)
      refine hop_val (wanted_none rfl) ?_ (hK (.bool false) _ rfl (Below.refl _ _))
      unfold execOp; simp only [eval_const, e103]; simp [go_sem]
    · intro a w1 hB ho hp K hK
      have e13 : a.eval (.tmp 13) = (.bool true) := ho 13 (by kernel_rfl)
      refine hop_val (wanted_at rfl (j := 14) (d := 104) (b := false) (by kernel_rfl) (hp 14 104 (by kernel_rfl))) ?_ (hK (.bool true) _ rfl (Below.refl _ _))
      unfold execOp; simp only [eval_const, e13]; simp [go_sem]
    · intro a w1 hB ho hp K hK
      have e7 : a.eval (.tmp 7) = (.pointer (some ⟨g31, 0, none⟩)) := ho 7 (by kernel_rfl)
      obtain ⟨u1, u2, u3, u4, u5⟩ := H_ma.out.below hB
      exact hop_load (wanted_at rfl (j := 14) (d := 104) (b := false) (by kernel_rfl) (hp 14 104 (by kernel_rfl))) rfl e7 (run_ldz u1 u2) (hK _ _ rfl (Below.refl _ _))
    · intro a w1 hB ho hp K hK
      have e106 : a.eval (.tmp 106) = (.agg #[.bool s27, .slice A27 n27 c27]) := hp 16 106 (by kernel_rfl)
      refine hop_call (wanted_at rfl (j := 14) (d := 104) (b := false) (by kernel_rfl) (hp 14 104 (by kernel_rfl))) rfl (args := #[(.agg #[.bool s27, .slice A27 n27 c27])]) (by simp only [List.map_toArray, List.map_cons, List.map_nil, eval_const, e106]) (ent7 (by kernel_rfl) _ _) (zsign_v (fm.below hB) (by omega) HQ2.out) ?_
      rintro e w2 ⟨rfl, B⟩
      exact ⟨_, rfl, hK _ _ rfl B⟩
    · intro a w1 hB ho hp K hK
      have e107 : a.eval (.tmp 107) = (.int .i64 s2) := hp 17 107 (by kernel_rfl)
      refine hop_val (wanted_at rfl (j := 14) (d := 104) (b := false) (by kernel_rfl) (hp 14 104 (by kernel_rfl))) ?_ (hK (.bool true) _ rfl (Below.refl _ _))
      unfold execOp; simp only [eval_const, e107]; simp [go_sem, hs2]
    · intro a w1 hB ho hp K hK
      have e105 : a.eval (.tmp 105) = (.bool true) := hp 15 105 (by kernel_rfl)
      have e108 : a.eval (.tmp 108) = (.bool true) := hp 18 108 (by kernel_rfl)
      refine hop_val (wanted_at rfl (j := 14) (d := 104) (b := false) (by kernel_rfl) (hp 14 104 (by kernel_rfl))) ?_ (hK (.bool false) _ rfl (Below.refl _ _))
      unfold execOp; simp only [eval_const, e105, e108]; simp [go_sem]
    · intro a w1 hB ho hp K hK
      have e104 : a.eval (.tmp 104) = (.bool false) := hp 14 104 (by kernel_rfl)
      have e109 : a.eval (.tmp 109) = (.bool false) := hp 19 109 (by kernel_rfl)
      refine hop_val (wanted_none rfl) ?_ (hK (.bool false) _ rfl (Below.refl _ _))
      unfold execOp; simp only [eval_const, e104, e109]; simp [go_sem]
  intro w58 B58
  refine EndAll.one rfl fun vv hv => ?_
  obtain rfl : vv = (.agg #[.bool s, .slice A n c, .bool t, .slice B m d]) := hv
  refine EndAll.one rfl fun vv hv => ?_
  obtain rfl : vv = (.agg #[.bool u, .slice C l e', .bool v, .slice D' f' h']) := hv
  refine EndAll.one rfl fun vv hv => ?_
  obtain rfl : vv = (.int .i64 r0) := hv
  refine EndAll.one rfl fun vv hv => ?_
  obtain rfl : vv = (.agg #[.bool s38, .slice A38 n38 c38]) := hv
  refine EndAll.one rfl fun vv hv => ?_
  obtain rfl : vv = (.agg #[.bool s39, .slice A39 n39 c39]) := hv
  refine EndAll.one rfl fun vv hv => ?_
  obtain rfl : vv = (.int .i64 r0) := hv
  refine EndAll.one rfl fun vv hv => ?_
  obtain rfl : vv = (.bool false) := hv
  refine EndAll.one rfl fun vv hv => ?_
  obtain rfl : vv = (.bool false) := hv
  refine EndAll.one rfl fun vv hv => ?_
  obtain rfl : vv = (.agg #[.bool s, .slice A n c, .bool t, .slice B m d]) := hv
  refine EndAll.one rfl fun vv hv => ?_
  obtain rfl : vv = (.int .i64 r1) := hv
  refine EndAll.one rfl fun vv hv => ?_
  obtain rfl : vv = (.agg #[.bool s25, .slice A25 n25 c25]) := hv
  refine EndAll.one rfl fun vv hv => ?_
  obtain rfl : vv = (.int .i64 r1) := hv
  refine EndAll.one rfl fun vv hv => ?_
  obtain rfl : vv = (.bool false) := hv
  refine EndAll.one rfl fun vv hv => ?_
  obtain rfl : vv = (.bool false) := hv
  refine EndAll.one rfl fun vv hv => ?_
  obtain rfl : vv = (.bool false) := hv
  refine EndAll.one rfl fun vv hv => ?_
  obtain rfl : vv = (.bool true) := hv
  refine EndAll.one rfl fun vv hv => ?_
  obtain rfl : vv = (.agg #[.bool s27, .slice A27 n27 c27]) := hv
  refine EndAll.one rfl fun vv hv => ?_
  obtain rfl : vv = (.int .i64 s2) := hv
  refine EndAll.one rfl fun vv hv => ?_
  obtain rfl : vv = (.bool true) := hv
  refine EndAll.one rfl fun vv hv => ?_
  obtain rfl : vv = (.bool false) := hv
  refine EndAll.one rfl fun vv hv => ?_
  obtain rfl : vv = (.bool false) := hv
  refine EndAll.nil (l := []) rfl ?_
  simp only [Act.put, List.setIfInBounds_toArray, List.set_cons_zero, List.set_cons_succ]
  replace H_a := Lib.hid (H_a.out.below B58)
  replace H_b := Lib.hid (H_b.out.below B58)
  replace H_na := Lib.hid (H_na.out.below B58)
  replace H_da := Lib.hid (H_da.out.below B58)
  replace H_ma := Lib.hid (H_ma.out.below B58)
  replace H_ea := Lib.hid (H_ea.out.below B58)
  replace H_la := Lib.hid (H_la.out.below B58)
  replace H_ra := Lib.hid (H_ra.out.below B58)
  replace H_al := Lib.hid (H_al.out.below B58)
  replace H_qa := Lib.hid (H_qa.out.below B58)
  replace ha := ha.below B58
  replace hb := hb.below B58
  replace fn := fn.below B58
  replace fd := fd.below B58
  replace fm := fm.below B58
  replace fe := fe.below B58
  replace fl := fl.below B58
  replace fr := fr.below B58
  replace fa := fa.below B58
  replace pq := pq.below B58
  replace hW := hW.trans (B58.mono hW.size)
  clear B58
  obtain ⟨a1, a2, a3, a4, a5, a6, a7, a8, a9⟩ := H_a.out
  obtain ⟨b1, b2, b3, b4, b5, b6, b7, b8, b9⟩ := H_b.out
  obtain ⟨na1, na2, na3, na4, na5⟩ := H_na.out
  obtain ⟨da1, da2, da3, da4, da5⟩ := H_da.out
  obtain ⟨ma1, ma2, ma3, ma4, ma5⟩ := H_ma.out
  obtain ⟨ea1, ea2, ea3, ea4, ea5⟩ := H_ea.out
  obtain ⟨la1, la2, la3, la4, la5⟩ := H_la.out
  obtain ⟨ra1, ra2, ra3, ra4, ra5⟩ := H_ra.out
  obtain ⟨al1, al2, al3, al4, al5⟩ := H_al.out
  obtain ⟨qa1, qa2, qa3, qa4, qa5, qa6, qa7, qa8, qa9⟩ := H_qa.out
  go_wp2_with fail
  clear a1 a2 a3 a4 a5 a6 a7 a8 a9 b1 b2 b3 b4 b5 b6 b7 b8 b9 na1 na2 na3 na4 na5 da1 da2 da3 da4 da5 ma1 ma2 ma3 ma4 ma5 ea1 ea2 ea3 ea4 ea5 la1 la2 la3 la4 la5 ra1 ra2 ra3 ra4 ra5 al1 al2 al3 al4 al5 qa1 qa2 qa3 qa4 qa5 qa6 qa7 qa8 qa9
  refine region7 [] 18 [IsK (.bool true), IsK (.bool true), IsK (.agg #[.bool s56, .slice A56 n56 c56, .bool t56, .slice D56 m56 d56]), IsK (.agg #[.bool s38, .slice A38 n38 c38]), IsK (.agg #[.bool s39, .slice A39 n39 c39]), IsK (.bool true), IsK (.bool true), IsK (.bool true), IsK undef, IsK undef, IsK undef, IsK undef, IsK undef, IsK undef, IsK undef, IsK undef, IsK (.bool true), IsK (.bool true)] (fun _ _ d _ _ h => by cases d <;> exact h) (by kernel_rfl) (by kernel_rfl) (by kernel_rfl) ⟨stay_k _, stay_k _, stay_k _, stay_k _, stay_k _, stay_k _, stay_k _, stay_k _, stay_k _, stay_k _, stay_k _, stay_k _, stay_k _, stay_k _, stay_k _, stay_k _, stay_k _, stay_k _, trivial⟩ ?_ ?_
  · refine HopAll.cons rfl ?_ (HopAll.cons rfl ?_ (HopAll.cons rfl ?_ (HopAll.cons rfl ?_ (HopAll.cons rfl ?_ (HopAll.cons rfl ?_ (HopAll.cons rfl ?_ (HopAll.cons rfl ?_ (HopAll.cons rfl ?_ (HopAll.cons rfl ?_ (HopAll.cons rfl ?_ (HopAll.cons rfl ?_ (HopAll.cons rfl ?_ (HopAll.cons rfl ?_ (HopAll.cons rfl ?_ (HopAll.cons rfl ?_ (HopAll.cons rfl ?_ (HopAll.cons rfl ?_ HopAll.nil)))))))))))))))))
    · intro a w1 hB ho hp K hK
      have e13 : a.eval (.tmp 13) = (.bool true) := ho 13 (by kernel_rfl)
      refine hop_val (wanted_none rfl) ?_ (hK (.bool true) _ rfl (Below.refl _ _))
      unfold execOp; simp only [eval_const, e13]; simp [go_sem]
    · intro a w1 hB ho hp K hK
      have e111 : a.eval (.tmp 111) = (.bool true) := hp 0 111 (by kernel_rfl)
      refine hop_val (wanted_none rfl) ?_ (hK (.bool true) _ rfl (Below.refl _ _))
      unfold execOp; simp only [eval_const, e111]; simp [go_sem]
    · intro a w1 hB ho hp K hK
      have e12 : a.eval (.tmp 12) = (.pointer (some ⟨w56.heap.size, 0, none⟩)) := ho 12 (by kernel_rfl)
      obtain ⟨u1, u2, u3, u4, u5, u6, u7, u8, u9⟩ := H_qa.out.below hB
      exact hop_load (wanted_at rfl (j := 1) (d := 112) (b := true) (by kernel_rfl) (hp 1 112 (by kernel_rfl))) rfl e12 (run_ldq u1 u2 u3 u4) (hK _ _ rfl (Below.refl _ _))
    · intro a w1 hB ho hp K hK
      have e9 : a.eval (.tmp 9) = (.pointer (some ⟨g41, 0, none⟩)) := ho 9 (by kernel_rfl)
      obtain ⟨u1, u2, u3, u4, u5⟩ := H_la.out.below hB
      exact hop_load (wanted_at rfl (j := 1) (d := 112) (b := true) (by kernel_rfl) (hp 1 112 (by kernel_rfl))) rfl e9 (run_ldz u1 u2) (hK _ _ rfl (Below.refl _ _))
    · intro a w1 hB ho hp K hK
      have e10 : a.eval (.tmp 10) = (.pointer (some ⟨g42, 0, none⟩)) := ho 10 (by kernel_rfl)
      obtain ⟨u1, u2, u3, u4, u5⟩ := H_ra.out.below hB
      exact hop_load (wanted_at rfl (j := 1) (d := 112) (b := true) (by kernel_rfl) (hp 1 112 (by kernel_rfl))) rfl e10 (run_ldz u1 u2) (hK _ _ rfl (Below.refl _ _))
    · intro a w1 hB ho hp K hK
      have e113 : a.eval (.tmp 113) = (.agg #[.bool s56, .slice A56 n56 c56, .bool t56, .slice D56 m56 d56]) := hp 2 113 (by kernel_rfl)
      have e114 : a.eval (.tmp 114) = (.agg #[.bool s38, .slice A38 n38 c38]) := hp 3 114 (by kernel_rfl)
      have e115 : a.eval (.tmp 115) = (.agg #[.bool s39, .slice A39 n39 c39]) := hp 4 115 (by kernel_rfl)
      refine hop_call (wanted_at rfl (j := 1) (d := 112) (b := true) (by kernel_rfl) (hp 1 112 (by kernel_rfl))) rfl (args := #[(.agg #[.bool s56, .slice A56 n56 c56, .bool t56, .slice D56 m56 d56]), (.agg #[.bool s38, .slice A38 n38 c38]), (.agg #[.bool s39, .slice A39 n39 c39])]) (by simp only [List.map_toArray, List.map_cons, List.map_nil, eval_const, e113, e114, e115]) (ent7 (by kernel_rfl) _ _) (isq_yes (pq.below hB) (fl.below hB).zv (fr.below hB).zv (by omega) (by omega) (by omega) (by omega) HX.out) ?_
      rintro e w2 ⟨rfl, B⟩
      exact ⟨_, rfl, hK _ _ rfl B⟩
    · intro a w1 hB ho hp K hK
      have e112 : a.eval (.tmp 112) = (.bool true) := hp 1 112 (by kernel_rfl)
      have e116 : a.eval (.tmp 116) = (.bool true) := hp 5 116 (by kernel_rfl)
      refine hop_val (wanted_none rfl) ?_ (hK (.bool true) _ rfl (Below.refl _ _))
      unfold execOp; simp only [eval_const, e112, e116]; simp [go_sem]
    · intro a w1 hB ho hp K hK
      have e117 : a.eval (.tmp 117) = (.bool true) := hp 6 117 (by kernel_rfl)
      refine hop_val (wanted_none rfl) ?_ (hK (.bool true) _ rfl (Below.refl _ _))
      unfold execOp; simp only [eval_const, e117]; simp [go_sem]
    · intro a w1 hB ho hp K hK
      exact hop_not (unwanted_at rfl (j := 7) (d := 118) (b := false) (by kernel_rfl) (hp 7 118 (by kernel_rfl)) rfl) (hK _ _ rfl (Below.refl _ _))
    · intro a w1 hB ho hp K hK
      exact hop_not (unwanted_at rfl (j := 7) (d := 118) (b := false) (by kernel_rfl) (hp 7 118 (by kernel_rfl)) rfl) (hK _ _ rfl (Below.refl _ _))
    · intro a w1 hB ho hp K hK
      exact hop_not (unwanted_at rfl (j := 7) (d := 118) (b := false) (by kernel_rfl) (hp 7 118 (by kernel_rfl)) rfl) (hK _ _ rfl (Below.refl _ _))
    · intro a w1 hB ho hp K hK
      exact hop_not (unwanted_undef rfl (j := 10) (d := 121) (b := true) (by kernel_rfl) (hp 10 121 (by kernel_rfl))) (hK _ _ rfl (Below.refl _ _))
    · intro a w1 hB ho hp K hK
      exact hop_not (unwanted_undef rfl (j := 10) (d := 121) (b := true) (by kernel_rfl) (hp 10 121 (by kernel_rfl))) (hK _ _ rfl (Below.refl _ _))
    · intro a w1 hB ho hp K hK
      exact hop_not (unwanted_undef rfl (j := 10) (d := 121) (b := true) (by kernel_rfl) (hp 10 121 (by kernel_rfl))) (hK _ _ rfl (Below.refl _ _))
    · intro a w1 hB ho hp K hK
      exact hop_not (unwanted_undef rfl (j := 10) (d := 121) (b := true) (by kernel_rfl) (hp 10 121 (by kernel_rfl))) (hK _ _ rfl (Below.refl _ _))
    · intro a w1 hB ho hp K hK
      exact hop_not (unwanted_at rfl (j := 7) (d := 118) (b := false) (by kernel_rfl) (hp 7 118 (by kernel_rfl)) rfl) (hK _ _ rfl (Below.refl _ _))
    · intro a w1 hB ho hp K hK
      have e118 : a.eval (.tmp 118) = (.bool true) := hp 7 118 (by kernel_rfl)
      have e126 : a.eval (.tmp 126) = undef := hp 15 126 (by kernel_rfl)
      refine hop_val (wanted_none rfl) ?_ (hK (.bool true) _ rfl (Below.refl _ _))
      unfold execOp; simp only [eval_const, e118, e126]; simp [go_sem]
    · intro a w1 hB ho hp K hK
      have e127 : a.eval (.tmp 127) = (.bool true) := hp 16 127 (by kernel_rfl)
      refine hop_val (wanted_none rfl) ?_ (hK (.bool true) _ rfl (Below.refl _ _))
      unfold execOp; simp only [eval_const, e127]; simp [go_sem]
  intro w59 B59
  refine EndAll.one rfl fun vv hv => ?_
  obtain rfl : vv = (.bool true) := hv
  refine EndAll.one rfl fun vv hv => ?_
  obtain rfl : vv = (.bool true) := hv
  refine EndAll.one rfl fun vv hv => ?_
  obtain rfl : vv = (.agg #[.bool s56, .slice A56 n56 c56, .bool t56, .slice D56 m56 d56]) := hv
  refine EndAll.one rfl fun vv hv => ?_
  obtain rfl : vv = (.agg #[.bool s38, .slice A38 n38 c38]) := hv
  refine EndAll.one rfl fun vv hv => ?_
  obtain rfl : vv = (.agg #[.bool s39, .slice A39 n39 c39]) := hv
  refine EndAll.one rfl fun vv hv => ?_
  obtain rfl : vv = (.bool true) := hv
  refine EndAll.one rfl fun vv hv => ?_
  obtain rfl : vv = (.bool true) := hv
  refine EndAll.one rfl fun vv hv => ?_
  obtain rfl : vv = (.bool true) := hv
  refine EndAll.one rfl fun vv hv => ?_
  obtain rfl : vv = undef := hv
  refine EndAll.one rfl fun vv hv => ?_
  obtain rfl : vv = undef := hv
  refine EndAll.one rfl fun vv hv => ?_
  obtain rfl : vv = undef := hv
  refine EndAll.one rfl fun vv hv => ?_
  obtain rfl : vv = undef := hv
  refine EndAll.one rfl fun vv hv => ?_
  obtain rfl : vv = undef := hv
  refine EndAll.one rfl fun vv hv => ?_
  obtain rfl : vv = undef := hv
  refine EndAll.one rfl fun vv hv => ?_
  obtain rfl : vv = undef := hv
  refine EndAll.one rfl fun vv hv => ?_
  obtain rfl : vv = undef := hv
  refine EndAll.one rfl fun vv hv => ?_
  obtain rfl : vv = (.bool true) := hv
  refine EndAll.one rfl fun vv hv => ?_
  obtain rfl : vv = (.bool true) := hv
  refine EndAll.nil (l := []) rfl ?_
  simp only [Act.put, List.setIfInBounds_toArray, List.set_cons_zero, List.set_cons_succ]
  replace H_a := Lib.hid (H_a.out.below B59)
  replace H_b := Lib.hid (H_b.out.below B59)
  replace H_na := Lib.hid (H_na.out.below B59)
  replace H_da := Lib.hid (H_da.out.below B59)
  replace H_ma := Lib.hid (H_ma.out.below B59)
  replace H_ea := Lib.hid (H_ea.out.below B59)
  replace H_la := Lib.hid (H_la.out.below B59)
  replace H_ra := Lib.hid (H_ra.out.below B59)
  replace H_al := Lib.hid (H_al.out.below B59)
  replace H_qa := Lib.hid (H_qa.out.below B59)
  replace ha := ha.below B59
  replace hb := hb.below B59
  replace fn := fn.below B59
  replace fd := fd.below B59
  replace fm := fm.below B59
  replace fe := fe.below B59
  replace fl := fl.below B59
  replace fr := fr.below B59
  replace fa := fa.below B59
  replace pq := pq.below B59
  replace hW := hW.trans (B59.mono hW.size)
  clear B59
  go_wp2_with fail
  go_ret
  exact ⟨rfl, hW⟩
set_option maxRecDepth 100000 in
set_option maxHeartbeats 16000000 in
theorem adds_no {A B C D' : Option Addr} {n c m d l e' f' h' : Nat} {s t u v : Bool} {N D M E : Int} {w : World} (hn : Zv w s A n c N) (hd : Zv w t B m d D) (hm : Zv w u C l e' M) (he : Zv w v D' f' h' E) (h1 : n ≤ 4) (h2 : m ≤ 4) (h3 : l ≤ 4) (h4 : f' ≤ 4) (h0 : Rat.divInt M E = 0) :
    Calls Try.prog 4 #[.agg #[.bool s, .slice A n c, .bool t, .slice B m d], .agg #[.bool u, .slice C l e', .bool v, .slice D' f' h']] w (TruePost w) := by
  have hW := Below.refl w.heap.size w
  obtain ⟨wp0, hwp0⟩ : ∃ x, x = w.alloc (.cells #[.bool s, .slice A n c, .bool t, .slice B m d] 28) := ⟨_, rfl⟩
  have zp0 : Below w.heap.size w wp0 := by rw [hwp0]; exact zba _ _
  have sp0 : wp0.heap.size = w.heap.size + 1 := by rw [hwp0, World.size_alloc]
  have Ia : Rb wp0 w.heap.size s A n c t B m d := by rw [hwp0]; exact Rb.new _ _ _ _ _ _ _ _ _ _
  replace hn := hn.below zp0
  replace hd := hd.below zp0
  replace hm := hm.below zp0
  replace he := he.below zp0
  replace hW := hW.trans (zp0.mono hW.size)
  have H_a := Lib.hid Ia
  clear Ia zp0
  obtain ⟨wp1, hwp1⟩ : ∃ x, x = wp0.alloc (.cells #[.bool u, .slice C l e', .bool v, .slice D' f' h'] 28) := ⟨_, rfl⟩
  have zp1 : Below wp0.heap.size wp0 wp1 := by rw [hwp1]; exact zba _ _
  have sp1 : wp1.heap.size = w.heap.size + 1 + 1 := by rw [hwp1, World.size_alloc, sp0]
  have Ib : Rb wp1 (w.heap.size + 1) u C l e' v D' f' h' := by rw [hwp1, ← sp0]; exact Rb.new _ _ _ _ _ _ _ _ _ _
  replace H_a := Lib.hid (H_a.out.below zp1)
  replace hn := hn.below zp1
  replace hd := hd.below zp1
  replace hm := hm.below zp1
  replace he := he.below zp1
  replace hW := hW.trans (zp1.mono hW.size)
  have H_b := Lib.hid Ib
  clear Ib zp1
  have HW : Hid (((w.alloc (.cells #[.bool s, .slice A n c, .bool t, .slice B m d] 28)).alloc (.cells #[.bool u, .slice C l e', .bool v, .slice D' f' h'] 28)) = wp1) := Lib.hid (by rw [hwp1, hwp0])
  have nn_a_b : ¬ (w.heap.size = (w.heap.size + 1)) := by omega
  have nm_a_b : ¬ ((w.heap.size + 1) = w.heap.size) := by omega
  have lw_a : w.heap.size ≤ w.heap.size := by omega
  have lw_b : w.heap.size ≤ (w.heap.size + 1) := by omega
  clear hwp0 hwp1 sp0 sp1
  have HF1 : Hid (decide (n ≤ 4 ∧ m ≤ 4) = true) := Lib.hid (decide_eq_true ⟨h1, h2⟩)
  have HF2 : Hid (decide (l ≤ 4 ∧ f' ≤ 4) = true) := Lib.hid (decide_eq_true ⟨h3, h4⟩)
  obtain ⟨p, hp⟩ : ∃ p, Rat.divInt N D = p := ⟨_, rfl⟩
  obtain ⟨q, hq⟩ : ∃ p, Rat.divInt M E = p := ⟨_, rfl⟩
  rw [hq] at h0
  have ha := Qv.mk hn hd
  have hb := Qv.mk hm he
  rw [hp] at ha
  rw [hq] at hb
  have hp1 := rq_ref N D
  have hq1 := rq_ref M E
  rw [hp] at hp1
  rw [hq] at hq1
  obtain ⟨N1, hN1⟩ : ∃ x, rN N D = x := ⟨_, rfl⟩
  obtain ⟨D1, hD1⟩ : ∃ x, rD D = x := ⟨_, rfl⟩
  obtain ⟨M1, hM1⟩ : ∃ x, rN M E = x := ⟨_, rfl⟩
  obtain ⟨E1, hE1⟩ : ∃ x, rD E = x := ⟨_, rfl⟩
  have hDp := rD_pos D
  have hEp := rD_pos E
  rw [hN1, hD1] at hp1
  rw [hM1, hE1] at hq1
  rw [hD1] at hDp
  rw [hE1] at hEp
  have C1 : ∀ w : World, VPost (rN N D) 4 w = VPost N1 4 w := fun w => by rw [hN1]
  have C2 : ∀ w : World, ZPost (rD D) 4 w = ZPost D1 4 w := fun w => by rw [hD1]
  have C3 : ∀ w : World, VPost (rN M E) 4 w = VPost M1 4 w := fun w => by rw [hM1]
  have C4 : ∀ w : World, ZPost (rD E) 4 w = ZPost E1 4 w := fun w => by rw [hE1]
  have HA := Lib.hid (af_add hDp hEp hp1 hq1)
  have HS := Lib.hid (af_sub hDp hEp hp1 hq1)
  have HM := Lib.hid (af_mul hDp hEp hp1 hq1)
  have HN := Lib.hid (af_neg hDp hp1)
  obtain ⟨r0, hr0⟩ : ∃ r, rsg (p - q) = r := ⟨_, rfl⟩
  have HC := Lib.hid hr0
  have HC2 : Hid ((N1 * E1 - M1 * D1).sign = r0) := Lib.hid (by rw [af_cmp hDp hEp hp1 hq1, hr0])
  obtain ⟨r1, hr1⟩ : ∃ r, rsg p = r := ⟨_, rfl⟩
  have HP := Lib.hid hr1
  have HP2 : Hid (N1.sign = r1) := Lib.hid (by rw [← af_sign hDp hp1, hr1])
  obtain ⟨s2, hs2'⟩ : ∃ r, rsg q = r := ⟨_, rfl⟩
  have HQ2 : Hid (M1.sign = s2) := Lib.hid (by rw [← af_sign hEp hq1, hs2'])
  have hs2 : (s2 != 0) = false := by rw [af_zero (M := 0) hs2']; exact decide_eq_false (fun k => k h0)
  have HB : Hid (decide (q ≠ 0) = false) := Lib.hid (decide_eq_false (fun k => k h0))
  have HX := Lib.hid (af_none (p := p) h0)
  clear hp hq hp1 hq1 hN1 hD1 hM1 hE1 hDp hEp hr0 hr1 hs2' h0
  go_enter Try.func4, Try.ntmps4
  obtain ⟨a1, a2, a3, a4, a5, a6, a7, a8, a9⟩ := H_a.out
  obtain ⟨b1, b2, b3, b4, b5, b6, b7, b8, b9⟩ := H_b.out
  go_wp2_with fail
  rw [HW.out]
  clear a1 a2 a3 a4 a5 a6 a7 a8 a9 b1 b2 b3 b4 b5 b6 b7 b8 b9
  refine (qawake_v _).mono ?_
  rintro e w21 ⟨rfl, B21⟩
  replace H_a := Lib.hid (H_a.out.below B21)
  replace H_b := Lib.hid (H_b.out.below B21)
  replace hn := hn.below B21
  replace hd := hd.below B21
  replace hm := hm.below B21
  replace he := he.below B21
  replace ha := ha.below B21
  replace hb := hb.below B21
  replace hW := hW.trans (B21.mono hW.size)
  clear B21
  obtain ⟨a1, a2, a3, a4, a5, a6, a7, a8, a9⟩ := H_a.out
  obtain ⟨b1, b2, b3, b4, b5, b6, b7, b8, b9⟩ := H_b.out
  go_wp2_with fail
  clear a1 a2 a3 a4 a5 a6 a7 a8 a9 b1 b2 b3 b4 b5 b6 b7 b8 b9
  refine (few7_v (k := 4) (b := true) (by omega) (by omega) (by omega) HF1.out).mono ?_
  rintro e w22 ⟨rfl, B22⟩
  replace H_a := Lib.hid (H_a.out.below B22)
  replace H_b := Lib.hid (H_b.out.below B22)
  replace hn := hn.below B22
  replace hd := hd.below B22
  replace hm := hm.below B22
  replace he := he.below B22
  replace ha := ha.below B22
  replace hb := hb.below B22
  replace hW := hW.trans (B22.mono hW.size)
  clear B22
  obtain ⟨a1, a2, a3, a4, a5, a6, a7, a8, a9⟩ := H_a.out
  obtain ⟨b1, b2, b3, b4, b5, b6, b7, b8, b9⟩ := H_b.out
  go_wp2_with fail
  clear a1 a2 a3 a4 a5 a6 a7 a8 a9 b1 b2 b3 b4 b5 b6 b7 b8 b9
  refine (few7_v (k := 4) (b := true) (by omega) (by omega) (by omega) HF2.out).mono ?_
  rintro e w23 ⟨rfl, B23⟩
  replace H_a := Lib.hid (H_a.out.below B23)
  replace H_b := Lib.hid (H_b.out.below B23)
  replace hn := hn.below B23
  replace hd := hd.below B23
  replace hm := hm.below B23
  replace he := he.below B23
  replace ha := ha.below B23
  replace hb := hb.below B23
  replace hW := hW.trans (B23.mono hW.size)
  clear B23
  obtain ⟨a1, a2, a3, a4, a5, a6, a7, a8, a9⟩ := H_a.out
  obtain ⟨b1, b2, b3, b4, b5, b6, b7, b8, b9⟩ := H_b.out
  go_wp2_with fail
  clear a1 a2 a3 a4 a5 a6 a7 a8 a9 b1 b2 b3 b4 b5 b6 b7 b8 b9
  refine region7 [] 12 [IsK (.agg #[.bool s, .slice A n c, .bool t, .slice B m d]), IsV N1 4, IsK (.agg #[.bool s, .slice A n c, .bool t, .slice B m d]), IsC D1 4, IsK (.agg #[.bool u, .slice C l e', .bool v, .slice D' f' h']), IsV M1 4, IsK (.agg #[.bool u, .slice C l e', .bool v, .slice D' f' h']), IsC E1 4, IsK undef, IsK undef, IsK undef, IsK undef] (fun _ _ d _ _ h => by cases d <;> exact h) (by kernel_rfl) (by kernel_rfl) (by kernel_rfl) ⟨stay_k _, stay_v _ _, stay_k _, stay_c _ _, stay_k _, stay_v _ _, stay_k _, stay_c _ _, stay_k _, stay_k _, stay_k _, stay_k _, trivial⟩ ?_ ?_
  · refine HopAll.cons rfl ?_ (HopAll.cons rfl ?_ (HopAll.cons rfl ?_ (HopAll.cons rfl ?_ (HopAll.cons rfl ?_ (HopAll.cons rfl ?_ (HopAll.cons rfl ?_ (HopAll.cons rfl ?_ (HopAll.al rfl (HopAll.al rfl (HopAll.al rfl (HopAll.al rfl HopAll.nil)))))))))))
    · intro a w1 hB ho hp K hK
      have e2 : a.eval (.tmp 2) = (.pointer (some ⟨w.heap.size, 0, none⟩)) := ho 2 (by kernel_rfl)
      obtain ⟨u1, u2, u3, u4, u5, u6, u7, u8, u9⟩ := H_a.out.below hB
      exact hop_load (wanted_none rfl) rfl e2 (run_ldq u1 u2 u3 u4) (hK _ _ rfl (Below.refl _ _))
    · intro a w1 hB ho hp K hK
      have e27 : a.eval (.tmp 27) = (.agg #[.bool s, .slice A n c, .bool t, .slice B m d]) := hp 0 27 (by kernel_rfl)
      refine hop_call (wanted_none rfl) rfl (args := #[(.agg #[.bool s, .slice A n c, .bool t, .slice B m d])]) (by simp only [List.map_toArray, List.map_cons, List.map_nil, eval_const, e27]) (ent7 (by kernel_rfl) _ _) ((C1 _) ▸ refn_v (k := 4) (hn.below hB) (hd.below hB) (by omega) (by omega) (by omega) (by omega)) ?_
      rintro e w2 ⟨s, A, n, c, rfl, p, k, B⟩
      exact ⟨_, rfl, hK _ _ ⟨s, A, n, c, rfl, p, by omega⟩ B⟩
    · intro a w1 hB ho hp K hK
      have e2 : a.eval (.tmp 2) = (.pointer (some ⟨w.heap.size, 0, none⟩)) := ho 2 (by kernel_rfl)
      obtain ⟨u1, u2, u3, u4, u5, u6, u7, u8, u9⟩ := H_a.out.below hB
      exact hop_load (wanted_none rfl) rfl e2 (run_ldq u1 u2 u3 u4) (hK _ _ rfl (Below.refl _ _))
    · intro a w1 hB ho hp K hK
      have e29 : a.eval (.tmp 29) = (.agg #[.bool s, .slice A n c, .bool t, .slice B m d]) := hp 2 29 (by kernel_rfl)
      refine hop_call (wanted_none rfl) rfl (args := #[(.agg #[.bool s, .slice A n c, .bool t, .slice B m d])]) (by simp only [List.map_toArray, List.map_cons, List.map_nil, eval_const, e29]) (ent7 (by kernel_rfl) _ _) ((C2 _) ▸ refd_v (k := 4) (hn.below hB) (hd.below hB) (by omega) (by omega) (by omega) (by omega)) ?_
      rintro e w2 ⟨s, A, n, c, rfl, p, k, B⟩
      exact ⟨_, rfl, hK _ _ ⟨s, A, n, c, rfl, p, by omega⟩ B⟩
    · intro a w1 hB ho hp K hK
      have e3 : a.eval (.tmp 3) = (.pointer (some ⟨(w.heap.size + 1), 0, none⟩)) := ho 3 (by kernel_rfl)
      obtain ⟨u1, u2, u3, u4, u5, u6, u7, u8, u9⟩ := H_b.out.below hB
      exact hop_load (wanted_none rfl) rfl e3 (run_ldq u1 u2 u3 u4) (hK _ _ rfl (Below.refl _ _))
    · intro a w1 hB ho hp K hK
      have e31 : a.eval (.tmp 31) = (.agg #[.bool u, .slice C l e', .bool v, .slice D' f' h']) := hp 4 31 (by kernel_rfl)
      refine hop_call (wanted_none rfl) rfl (args := #[(.agg #[.bool u, .slice C l e', .bool v, .slice D' f' h'])]) (by simp only [List.map_toArray, List.map_cons, List.map_nil, eval_const, e31]) (ent7 (by kernel_rfl) _ _) ((C3 _) ▸ refn_v (k := 4) (hm.below hB) (he.below hB) (by omega) (by omega) (by omega) (by omega)) ?_
      rintro e w2 ⟨s, A, n, c, rfl, p, k, B⟩
      exact ⟨_, rfl, hK _ _ ⟨s, A, n, c, rfl, p, by omega⟩ B⟩
    · intro a w1 hB ho hp K hK
      have e3 : a.eval (.tmp 3) = (.pointer (some ⟨(w.heap.size + 1), 0, none⟩)) := ho 3 (by kernel_rfl)
      obtain ⟨u1, u2, u3, u4, u5, u6, u7, u8, u9⟩ := H_b.out.below hB
      exact hop_load (wanted_none rfl) rfl e3 (run_ldq u1 u2 u3 u4) (hK _ _ rfl (Below.refl _ _))
    · intro a w1 hB ho hp K hK
      have e33 : a.eval (.tmp 33) = (.agg #[.bool u, .slice C l e', .bool v, .slice D' f' h']) := hp 6 33 (by kernel_rfl)
      refine hop_call (wanted_none rfl) rfl (args := #[(.agg #[.bool u, .slice C l e', .bool v, .slice D' f' h'])]) (by simp only [List.map_toArray, List.map_cons, List.map_nil, eval_const, e33]) (ent7 (by kernel_rfl) _ _) ((C4 _) ▸ refd_v (k := 4) (hm.below hB) (he.below hB) (by omega) (by omega) (by omega) (by omega)) ?_
      rintro e w2 ⟨s, A, n, c, rfl, p, k, B⟩
      exact ⟨_, rfl, hK _ _ ⟨s, A, n, c, rfl, p, by omega⟩ B⟩
  intro w24 B24
  have lt24_a : w.heap.size < w23.heap.size := H_a.out.2.2.2.2.2.2.2.2
  have lt24_b : (w.heap.size + 1) < w23.heap.size := H_b.out.2.2.2.2.2.2.2.2
  have hWs24 := hW.size
  refine EndAll.one rfl fun vv hv => ?_
  obtain rfl : vv = (.agg #[.bool s, .slice A n c, .bool t, .slice B m d]) := hv
  refine EndAll.one rfl fun vv hv => ?_
  obtain ⟨s25, A25, n25, c25, rfl, p25, k25⟩ : IsV N1 4 vv w24 := hv
  refine EndAll.one rfl fun vv hv => ?_
  obtain rfl : vv = (.agg #[.bool s, .slice A n c, .bool t, .slice B m d]) := hv
  refine EndAll.one rfl fun vv hv => ?_
  obtain ⟨s26, A26, n26, c26, rfl, p26, k26⟩ : IsC D1 4 vv w24 := hv
  refine EndAll.one rfl fun vv hv => ?_
  obtain rfl : vv = (.agg #[.bool u, .slice C l e', .bool v, .slice D' f' h']) := hv
  refine EndAll.one rfl fun vv hv => ?_
  obtain ⟨s27, A27, n27, c27, rfl, p27, k27⟩ : IsV M1 4 vv w24 := hv
  refine EndAll.one rfl fun vv hv => ?_
  obtain rfl : vv = (.agg #[.bool u, .slice C l e', .bool v, .slice D' f' h']) := hv
  refine EndAll.one rfl fun vv hv => ?_
  obtain ⟨s28, A28, n28, c28, rfl, p28, k28⟩ : IsC E1 4 vv w24 := hv
  refine EndAll.al rfl fun g29 hg29 hl29 hc29 ha29 => ?_
  refine EndAll.al rfl fun g30 hg30 hl30 hc30 ha30 => ?_
  refine EndAll.al rfl fun g31 hg31 hl31 hc31 ha31 => ?_
  refine EndAll.al rfl fun g32 hg32 hl32 hc32 ha32 => ?_
  refine EndAll.nil (l := [_, _, _, _]) rfl ?_
  simp only [Act.put, List.setIfInBounds_toArray, List.set_cons_zero, List.set_cons_succ]
  replace H_a := Lib.hid (H_a.out.below B24)
  replace H_b := Lib.hid (H_b.out.below B24)
  replace hn := hn.below B24
  replace hd := hd.below B24
  replace hm := hm.below B24
  replace he := he.below B24
  replace ha := ha.below B24
  replace hb := hb.below B24
  replace hW := hW.trans (B24.mono hW.size)
  have fn := p25
  have fd := p26
  have fm := p27
  have fe := p28
  have nn_a_na : ¬ (w.heap.size = g29) := by have := lt24_a; omega
  have nm_a_na : ¬ (g29 = w.heap.size) := by omega
  have nn_b_na : ¬ ((w.heap.size + 1) = g29) := by have := lt24_b; omega
  have nm_b_na : ¬ (g29 = (w.heap.size + 1)) := by omega
  have H_na : Hid (Ib w24 g29 false none 0 0) := Lib.hid (Ib.entry (T := 25) hc29)
  have lw_na : w.heap.size ≤ g29 := by omega
  have nn_a_da : ¬ (w.heap.size = g30) := by have := lt24_a; omega
  have nm_a_da : ¬ (g30 = w.heap.size) := by omega
  have nn_b_da : ¬ ((w.heap.size + 1) = g30) := by have := lt24_b; omega
  have nm_b_da : ¬ (g30 = (w.heap.size + 1)) := by omega
  obtain ⟨nn_na_da, _⟩ := ha30
  have nm_na_da := Ne.symm nn_na_da
  have H_da : Hid (Ib w24 g30 false none 0 0) := Lib.hid (Ib.entry (T := 25) hc30)
  have lw_da : w.heap.size ≤ g30 := by omega
  have nn_a_ma : ¬ (w.heap.size = g31) := by have := lt24_a; omega
  have nm_a_ma : ¬ (g31 = w.heap.size) := by omega
  have nn_b_ma : ¬ ((w.heap.size + 1) = g31) := by have := lt24_b; omega
  have nm_b_ma : ¬ (g31 = (w.heap.size + 1)) := by omega
  obtain ⟨nn_da_ma, nn_na_ma, _⟩ := ha31
  have nm_na_ma := Ne.symm nn_na_ma
  have nm_da_ma := Ne.symm nn_da_ma
  have H_ma : Hid (Ib w24 g31 false none 0 0) := Lib.hid (Ib.entry (T := 25) hc31)
  have lw_ma : w.heap.size ≤ g31 := by omega
  have nn_a_ea : ¬ (w.heap.size = g32) := by have := lt24_a; omega
  have nm_a_ea : ¬ (g32 = w.heap.size) := by omega
  have nn_b_ea : ¬ ((w.heap.size + 1) = g32) := by have := lt24_b; omega
  have nm_b_ea : ¬ (g32 = (w.heap.size + 1)) := by omega
  obtain ⟨nn_ma_ea, nn_da_ea, nn_na_ea, _⟩ := ha32
  have nm_na_ea := Ne.symm nn_na_ea
  have nm_da_ea := Ne.symm nn_da_ea
  have nm_ma_ea := Ne.symm nn_ma_ea
  have H_ea : Hid (Ib w24 g32 false none 0 0) := Lib.hid (Ib.entry (T := 25) hc32)
  have lw_ea : w.heap.size ≤ g32 := by omega
  clear hg29 hl29 hc29
  clear hg30 hl30 hc30
  clear hg31 hl31 hc31
  clear hg32 hl32 hc32
  clear B24
  have O_a := H_a
  have O_b := H_b
  have O_na := H_na
  have O_da := H_da
  have O_ma := H_ma
  have O_ea := H_ea
  obtain ⟨w33, hw33⟩ : ∃ x, x = zput w24 g29 s25 A25 n25 c25 := ⟨_, rfl⟩
  have HW33 : Hid (((w24.setCell ⟨g29, 0, none⟩ (.bool s25)).setCell ⟨g29, 1, none⟩ (.slice A25 n25 c25)) = w33) := Lib.hid hw33.symm
  have OI := H_na.out
  replace H_a : Hid (Rb w33 w.heap.size s A n c t B m d) := Lib.hid (by rw [hw33]; exact H_a.out.zput (by omega))
  replace H_b : Hid (Rb w33 (w.heap.size + 1) u C l e' v D' f' h') := Lib.hid (by rw [hw33]; exact H_b.out.zput (by omega))
  replace H_da : Hid (Ib w33 g30 false none 0 0) := Lib.hid (by rw [hw33]; exact H_da.out.zput (by omega))
  replace H_ma : Hid (Ib w33 g31 false none 0 0) := Lib.hid (by rw [hw33]; exact H_ma.out.zput (by omega))
  replace H_ea : Hid (Ib w33 g32 false none 0 0) := Lib.hid (by rw [hw33]; exact H_ea.out.zput (by omega))
  replace hn := hn.zput (s' := s25) (A' := A25) (n' := n25) (c' := c25) OI
  replace hd := hd.zput (s' := s25) (A' := A25) (n' := n25) (c' := c25) OI
  replace hm := hm.zput (s' := s25) (A' := A25) (n' := n25) (c' := c25) OI
  replace he := he.zput (s' := s25) (A' := A25) (n' := n25) (c' := c25) OI
  replace ha := ha.zput (s' := s25) (A' := A25) (n' := n25) (c' := c25) OI
  replace hb := hb.zput (s' := s25) (A' := A25) (n' := n25) (c' := c25) OI
  replace fn := fn.zput (s' := s25) (A' := A25) (n' := n25) (c' := c25) OI
  replace fd := fd.zput (s' := s25) (A' := A25) (n' := n25) (c' := c25) OI
  replace fm := fm.zput (s' := s25) (A' := A25) (n' := n25) (c' := c25) OI
  replace fe := fe.zput (s' := s25) (A' := A25) (n' := n25) (c' := c25) OI
  rw [← hw33] at hn
  rw [← hw33] at hd
  rw [← hw33] at hm
  rw [← hw33] at he
  rw [← hw33] at ha
  rw [← hw33] at hb
  rw [← hw33] at fn
  rw [← hw33] at fd
  rw [← hw33] at fm
  rw [← hw33] at fe
  replace hW : Below w.heap.size w w33 := by rw [hw33]; exact below_put hW lw_na
  replace H_na : Hid (Ib w33 g29 s25 A25 n25 c25) := Lib.hid (by rw [hw33]; exact OI.own)
  clear hw33 OI
  obtain ⟨w34, hw34⟩ : ∃ x, x = zput w33 g30 s26 A26 n26 c26 := ⟨_, rfl⟩
  have HW34 : Hid (((w33.setCell ⟨g30, 0, none⟩ (.bool s26)).setCell ⟨g30, 1, none⟩ (.slice A26 n26 c26)) = w34) := Lib.hid hw34.symm
  have OI := H_da.out
  replace H_a : Hid (Rb w34 w.heap.size s A n c t B m d) := Lib.hid (by rw [hw34]; exact H_a.out.zput (by omega))
  replace H_b : Hid (Rb w34 (w.heap.size + 1) u C l e' v D' f' h') := Lib.hid (by rw [hw34]; exact H_b.out.zput (by omega))
  replace H_na : Hid (Ib w34 g29 s25 A25 n25 c25) := Lib.hid (by rw [hw34]; exact H_na.out.zput (by omega))
  replace H_ma : Hid (Ib w34 g31 false none 0 0) := Lib.hid (by rw [hw34]; exact H_ma.out.zput (by omega))
  replace H_ea : Hid (Ib w34 g32 false none 0 0) := Lib.hid (by rw [hw34]; exact H_ea.out.zput (by omega))
  replace hn := hn.zput (s' := s26) (A' := A26) (n' := n26) (c' := c26) OI
  replace hd := hd.zput (s' := s26) (A' := A26) (n' := n26) (c' := c26) OI
  replace hm := hm.zput (s' := s26) (A' := A26) (n' := n26) (c' := c26) OI
  replace he := he.zput (s' := s26) (A' := A26) (n' := n26) (c' := c26) OI
  replace ha := ha.zput (s' := s26) (A' := A26) (n' := n26) (c' := c26) OI
  replace hb := hb.zput (s' := s26) (A' := A26) (n' := n26) (c' := c26) OI
  replace fn := fn.zput (s' := s26) (A' := A26) (n' := n26) (c' := c26) OI
  replace fd := fd.zput (s' := s26) (A' := A26) (n' := n26) (c' := c26) OI
  replace fm := fm.zput (s' := s26) (A' := A26) (n' := n26) (c' := c26) OI
  replace fe := fe.zput (s' := s26) (A' := A26) (n' := n26) (c' := c26) OI
  rw [← hw34] at hn
  rw [← hw34] at hd
  rw [← hw34] at hm
  rw [← hw34] at he
  rw [← hw34] at ha
  rw [← hw34] at hb
  rw [← hw34] at fn
  rw [← hw34] at fd
  rw [← hw34] at fm
  rw [← hw34] at fe
  replace hW : Below w.heap.size w w34 := by rw [hw34]; exact below_put hW lw_da
  replace H_da : Hid (Ib w34 g30 s26 A26 n26 c26) := Lib.hid (by rw [hw34]; exact OI.own)
  clear hw34 OI
  obtain ⟨w35, hw35⟩ : ∃ x, x = zput w34 g31 s27 A27 n27 c27 := ⟨_, rfl⟩
  have HW35 : Hid (((w34.setCell ⟨g31, 0, none⟩ (.bool s27)).setCell ⟨g31, 1, none⟩ (.slice A27 n27 c27)) = w35) := Lib.hid hw35.symm
  have OI := H_ma.out
  replace H_a : Hid (Rb w35 w.heap.size s A n c t B m d) := Lib.hid (by rw [hw35]; exact H_a.out.zput (by omega))
  replace H_b : Hid (Rb w35 (w.heap.size + 1) u C l e' v D' f' h') := Lib.hid (by rw [hw35]; exact H_b.out.zput (by omega))
  replace H_na : Hid (Ib w35 g29 s25 A25 n25 c25) := Lib.hid (by rw [hw35]; exact H_na.out.zput (by omega))
  replace H_da : Hid (Ib w35 g30 s26 A26 n26 c26) := Lib.hid (by rw [hw35]; exact H_da.out.zput (by omega))
  replace H_ea : Hid (Ib w35 g32 false none 0 0) := Lib.hid (by rw [hw35]; exact H_ea.out.zput (by omega))
  replace hn := hn.zput (s' := s27) (A' := A27) (n' := n27) (c' := c27) OI
  replace hd := hd.zput (s' := s27) (A' := A27) (n' := n27) (c' := c27) OI
  replace hm := hm.zput (s' := s27) (A' := A27) (n' := n27) (c' := c27) OI
  replace he := he.zput (s' := s27) (A' := A27) (n' := n27) (c' := c27) OI
  replace ha := ha.zput (s' := s27) (A' := A27) (n' := n27) (c' := c27) OI
  replace hb := hb.zput (s' := s27) (A' := A27) (n' := n27) (c' := c27) OI
  replace fn := fn.zput (s' := s27) (A' := A27) (n' := n27) (c' := c27) OI
  replace fd := fd.zput (s' := s27) (A' := A27) (n' := n27) (c' := c27) OI
  replace fm := fm.zput (s' := s27) (A' := A27) (n' := n27) (c' := c27) OI
  replace fe := fe.zput (s' := s27) (A' := A27) (n' := n27) (c' := c27) OI
  rw [← hw35] at hn
  rw [← hw35] at hd
  rw [← hw35] at hm
  rw [← hw35] at he
  rw [← hw35] at ha
  rw [← hw35] at hb
  rw [← hw35] at fn
  rw [← hw35] at fd
  rw [← hw35] at fm
  rw [← hw35] at fe
  replace hW : Below w.heap.size w w35 := by rw [hw35]; exact below_put hW lw_ma
  replace H_ma : Hid (Ib w35 g31 s27 A27 n27 c27) := Lib.hid (by rw [hw35]; exact OI.own)
  clear hw35 OI
  obtain ⟨w36, hw36⟩ : ∃ x, x = zput w35 g32 s28 A28 n28 c28 := ⟨_, rfl⟩
  have HW36 : Hid (((w35.setCell ⟨g32, 0, none⟩ (.bool s28)).setCell ⟨g32, 1, none⟩ (.slice A28 n28 c28)) = w36) := Lib.hid hw36.symm
  have OI := H_ea.out
  replace H_a : Hid (Rb w36 w.heap.size s A n c t B m d) := Lib.hid (by rw [hw36]; exact H_a.out.zput (by omega))
  replace H_b : Hid (Rb w36 (w.heap.size + 1) u C l e' v D' f' h') := Lib.hid (by rw [hw36]; exact H_b.out.zput (by omega))
  replace H_na : Hid (Ib w36 g29 s25 A25 n25 c25) := Lib.hid (by rw [hw36]; exact H_na.out.zput (by omega))
  replace H_da : Hid (Ib w36 g30 s26 A26 n26 c26) := Lib.hid (by rw [hw36]; exact H_da.out.zput (by omega))
  replace H_ma : Hid (Ib w36 g31 s27 A27 n27 c27) := Lib.hid (by rw [hw36]; exact H_ma.out.zput (by omega))
  replace hn := hn.zput (s' := s28) (A' := A28) (n' := n28) (c' := c28) OI
  replace hd := hd.zput (s' := s28) (A' := A28) (n' := n28) (c' := c28) OI
  replace hm := hm.zput (s' := s28) (A' := A28) (n' := n28) (c' := c28) OI
  replace he := he.zput (s' := s28) (A' := A28) (n' := n28) (c' := c28) OI
  replace ha := ha.zput (s' := s28) (A' := A28) (n' := n28) (c' := c28) OI
  replace hb := hb.zput (s' := s28) (A' := A28) (n' := n28) (c' := c28) OI
  replace fn := fn.zput (s' := s28) (A' := A28) (n' := n28) (c' := c28) OI
  replace fd := fd.zput (s' := s28) (A' := A28) (n' := n28) (c' := c28) OI
  replace fm := fm.zput (s' := s28) (A' := A28) (n' := n28) (c' := c28) OI
  replace fe := fe.zput (s' := s28) (A' := A28) (n' := n28) (c' := c28) OI
  rw [← hw36] at hn
  rw [← hw36] at hd
  rw [← hw36] at hm
  rw [← hw36] at he
  rw [← hw36] at ha
  rw [← hw36] at hb
  rw [← hw36] at fn
  rw [← hw36] at fd
  rw [← hw36] at fm
  rw [← hw36] at fe
  replace hW : Below w.heap.size w w36 := by rw [hw36]; exact below_put hW lw_ea
  replace H_ea : Hid (Ib w36 g32 s28 A28 n28 c28) := Lib.hid (by rw [hw36]; exact OI.own)
  clear hw36 OI
  clear hn hd hm he
  obtain ⟨a1, a2, a3, a4, a5, a6, a7, a8, a9⟩ := O_a.out
  obtain ⟨b1, b2, b3, b4, b5, b6, b7, b8, b9⟩ := O_b.out
  obtain ⟨na1, na2, na3, na4, na5⟩ := O_na.out
  obtain ⟨da1, da2, da3, da4, da5⟩ := O_da.out
  obtain ⟨ma1, ma2, ma3, ma4, ma5⟩ := O_ma.out
  obtain ⟨ea1, ea2, ea3, ea4, ea5⟩ := O_ea.out
  go_wp2_with fail
  rw [HW33.out]
  rw [HW34.out]
  rw [HW35.out]
  rw [HW36.out]
  clear a1 a2 a3 a4 a5 a6 a7 a8 a9 b1 b2 b3 b4 b5 b6 b7 b8 b9 na1 na2 na3 na4 na5 da1 da2 da3 da4 da5 ma1 ma2 ma3 ma4 ma5 ea1 ea2 ea3 ea4 ea5 O_a O_b O_na O_da O_ma O_ea
  refine region7 [] 12 [IsK (.agg #[.bool s25, .slice A25 n25 c25]), IsK (.agg #[.bool s28, .slice A28 n28 c28]), IsC (N1 * E1) 8, IsK (.agg #[.bool s27, .slice A27 n27 c27]), IsK (.agg #[.bool s26, .slice A26 n26 c26]), IsC (M1 * D1) 8, IsK (.agg #[.bool s26, .slice A26 n26 c26]), IsK (.agg #[.bool s28, .slice A28 n28 c28]), IsC (D1 * E1) 8, IsK undef, IsK undef, IsK undef] (fun _ _ d _ _ h => by cases d <;> exact h) (by kernel_rfl) (by kernel_rfl) (by kernel_rfl) ⟨stay_k _, stay_k _, stay_c _ _, stay_k _, stay_k _, stay_c _ _, stay_k _, stay_k _, stay_c _ _, stay_k _, stay_k _, stay_k _, trivial⟩ ?_ ?_
  · refine HopAll.cons rfl ?_ (HopAll.cons rfl ?_ (HopAll.cons rfl ?_ (HopAll.cons rfl ?_ (HopAll.cons rfl ?_ (HopAll.cons rfl ?_ (HopAll.cons rfl ?_ (HopAll.cons rfl ?_ (HopAll.cons rfl ?_ (HopAll.al rfl (HopAll.al rfl (HopAll.al rfl HopAll.nil)))))))))))
    · intro a w1 hB ho hp K hK
      have e5 : a.eval (.tmp 5) = (.pointer (some ⟨g29, 0, none⟩)) := ho 5 (by kernel_rfl)
      obtain ⟨u1, u2, u3, u4, u5⟩ := H_na.out.below hB
      exact hop_load (wanted_none rfl) rfl e5 (run_ldz u1 u2) (hK _ _ rfl (Below.refl _ _))
    · intro a w1 hB ho hp K hK
      have e8 : a.eval (.tmp 8) = (.pointer (some ⟨g32, 0, none⟩)) := ho 8 (by kernel_rfl)
      obtain ⟨u1, u2, u3, u4, u5⟩ := H_ea.out.below hB
      exact hop_load (wanted_none rfl) rfl e8 (run_ldz u1 u2) (hK _ _ rfl (Below.refl _ _))
    · intro a w1 hB ho hp K hK
      have e35 : a.eval (.tmp 35) = (.agg #[.bool s25, .slice A25 n25 c25]) := hp 0 35 (by kernel_rfl)
      have e36 : a.eval (.tmp 36) = (.agg #[.bool s28, .slice A28 n28 c28]) := hp 1 36 (by kernel_rfl)
      refine hop_call (wanted_none rfl) rfl (args := #[(.agg #[.bool s25, .slice A25 n25 c25]), (.agg #[.bool s28, .slice A28 n28 c28])]) (by simp only [List.map_toArray, List.map_cons, List.map_nil, eval_const, e35, e36]) (ent7 (by kernel_rfl) _ _) (zmul_v (fn.below hB) (fe.below hB).zv (by omega) (by omega)) ?_
      rintro e w2 ⟨s, A, n, c, rfl, p, k, B⟩
      exact ⟨_, rfl, hK _ _ ⟨s, A, n, c, rfl, p, by omega⟩ B⟩
    · intro a w1 hB ho hp K hK
      have e7 : a.eval (.tmp 7) = (.pointer (some ⟨g31, 0, none⟩)) := ho 7 (by kernel_rfl)
      obtain ⟨u1, u2, u3, u4, u5⟩ := H_ma.out.below hB
      exact hop_load (wanted_none rfl) rfl e7 (run_ldz u1 u2) (hK _ _ rfl (Below.refl _ _))
    · intro a w1 hB ho hp K hK
      have e6 : a.eval (.tmp 6) = (.pointer (some ⟨g30, 0, none⟩)) := ho 6 (by kernel_rfl)
      obtain ⟨u1, u2, u3, u4, u5⟩ := H_da.out.below hB
      exact hop_load (wanted_none rfl) rfl e6 (run_ldz u1 u2) (hK _ _ rfl (Below.refl _ _))
    · intro a w1 hB ho hp K hK
      have e38 : a.eval (.tmp 38) = (.agg #[.bool s27, .slice A27 n27 c27]) := hp 3 38 (by kernel_rfl)
      have e39 : a.eval (.tmp 39) = (.agg #[.bool s26, .slice A26 n26 c26]) := hp 4 39 (by kernel_rfl)
      refine hop_call (wanted_none rfl) rfl (args := #[(.agg #[.bool s27, .slice A27 n27 c27]), (.agg #[.bool s26, .slice A26 n26 c26])]) (by simp only [List.map_toArray, List.map_cons, List.map_nil, eval_const, e38, e39]) (ent7 (by kernel_rfl) _ _) (zmul_v (fm.below hB) (fd.below hB).zv (by omega) (by omega)) ?_
      rintro e w2 ⟨s, A, n, c, rfl, p, k, B⟩
      exact ⟨_, rfl, hK _ _ ⟨s, A, n, c, rfl, p, by omega⟩ B⟩
    · intro a w1 hB ho hp K hK
      have e6 : a.eval (.tmp 6) = (.pointer (some ⟨g30, 0, none⟩)) := ho 6 (by kernel_rfl)
      obtain ⟨u1, u2, u3, u4, u5⟩ := H_da.out.below hB
      exact hop_load (wanted_none rfl) rfl e6 (run_ldz u1 u2) (hK _ _ rfl (Below.refl _ _))
    · intro a w1 hB ho hp K hK
      have e8 : a.eval (.tmp 8) = (.pointer (some ⟨g32, 0, none⟩)) := ho 8 (by kernel_rfl)
      obtain ⟨u1, u2, u3, u4, u5⟩ := H_ea.out.below hB
      exact hop_load (wanted_none rfl) rfl e8 (run_ldz u1 u2) (hK _ _ rfl (Below.refl _ _))
    · intro a w1 hB ho hp K hK
      have e41 : a.eval (.tmp 41) = (.agg #[.bool s26, .slice A26 n26 c26]) := hp 6 41 (by kernel_rfl)
      have e42 : a.eval (.tmp 42) = (.agg #[.bool s28, .slice A28 n28 c28]) := hp 7 42 (by kernel_rfl)
      refine hop_call (wanted_none rfl) rfl (args := #[(.agg #[.bool s26, .slice A26 n26 c26]), (.agg #[.bool s28, .slice A28 n28 c28])]) (by simp only [List.map_toArray, List.map_cons, List.map_nil, eval_const, e41, e42]) (ent7 (by kernel_rfl) _ _) (zmul_v (fd.below hB).zv (fe.below hB).zv (by omega) (by omega)) ?_
      rintro e w2 ⟨s, A, n, c, rfl, p, k, B⟩
      exact ⟨_, rfl, hK _ _ ⟨s, A, n, c, rfl, p, by omega⟩ B⟩
  intro w37 B37
  have lt37_a : w.heap.size < w36.heap.size := H_a.out.2.2.2.2.2.2.2.2
  have lt37_b : (w.heap.size + 1) < w36.heap.size := H_b.out.2.2.2.2.2.2.2.2
  have lt37_na : g29 < w36.heap.size := H_na.out.2.2.2.2
  have lt37_da : g30 < w36.heap.size := H_da.out.2.2.2.2
  have lt37_ma : g31 < w36.heap.size := H_ma.out.2.2.2.2
  have lt37_ea : g32 < w36.heap.size := H_ea.out.2.2.2.2
  have hWs37 := hW.size
  refine EndAll.one rfl fun vv hv => ?_
  obtain rfl : vv = (.agg #[.bool s25, .slice A25 n25 c25]) := hv
  refine EndAll.one rfl fun vv hv => ?_
  obtain rfl : vv = (.agg #[.bool s28, .slice A28 n28 c28]) := hv
  refine EndAll.one rfl fun vv hv => ?_
  obtain ⟨s38, A38, n38, c38, rfl, p38, k38⟩ : IsC (N1 * E1) 8 vv w37 := hv
  refine EndAll.one rfl fun vv hv => ?_
  obtain rfl : vv = (.agg #[.bool s27, .slice A27 n27 c27]) := hv
  refine EndAll.one rfl fun vv hv => ?_
  obtain rfl : vv = (.agg #[.bool s26, .slice A26 n26 c26]) := hv
  refine EndAll.one rfl fun vv hv => ?_
  obtain ⟨s39, A39, n39, c39, rfl, p39, k39⟩ : IsC (M1 * D1) 8 vv w37 := hv
  refine EndAll.one rfl fun vv hv => ?_
  obtain rfl : vv = (.agg #[.bool s26, .slice A26 n26 c26]) := hv
  refine EndAll.one rfl fun vv hv => ?_
  obtain rfl : vv = (.agg #[.bool s28, .slice A28 n28 c28]) := hv
  refine EndAll.one rfl fun vv hv => ?_
  obtain ⟨s40, A40, n40, c40, rfl, p40, k40⟩ : IsC (D1 * E1) 8 vv w37 := hv
  refine EndAll.al rfl fun g41 hg41 hl41 hc41 ha41 => ?_
  refine EndAll.al rfl fun g42 hg42 hl42 hc42 ha42 => ?_
  refine EndAll.al rfl fun g43 hg43 hl43 hc43 ha43 => ?_
  refine EndAll.nil (l := [_, _, _]) rfl ?_
  simp only [Act.put, List.setIfInBounds_toArray, List.set_cons_zero, List.set_cons_succ]
  replace H_a := Lib.hid (H_a.out.below B37)
  replace H_b := Lib.hid (H_b.out.below B37)
  replace H_na := Lib.hid (H_na.out.below B37)
  replace H_da := Lib.hid (H_da.out.below B37)
  replace H_ma := Lib.hid (H_ma.out.below B37)
  replace H_ea := Lib.hid (H_ea.out.below B37)
  replace ha := ha.below B37
  replace hb := hb.below B37
  replace fn := fn.below B37
  replace fd := fd.below B37
  replace fm := fm.below B37
  replace fe := fe.below B37
  replace hW := hW.trans (B37.mono hW.size)
  have fl := p38
  have fr := p39
  have fa := p40
  have nn_a_la : ¬ (w.heap.size = g41) := by have := lt37_a; omega
  have nm_a_la : ¬ (g41 = w.heap.size) := by omega
  have nn_b_la : ¬ ((w.heap.size + 1) = g41) := by have := lt37_b; omega
  have nm_b_la : ¬ (g41 = (w.heap.size + 1)) := by omega
  have nn_na_la : ¬ (g29 = g41) := by have := lt37_na; omega
  have nm_na_la : ¬ (g41 = g29) := by omega
  have nn_da_la : ¬ (g30 = g41) := by have := lt37_da; omega
  have nm_da_la : ¬ (g41 = g30) := by omega
  have nn_ma_la : ¬ (g31 = g41) := by have := lt37_ma; omega
  have nm_ma_la : ¬ (g41 = g31) := by omega
  have nn_ea_la : ¬ (g32 = g41) := by have := lt37_ea; omega
  have nm_ea_la : ¬ (g41 = g32) := by omega
  have H_la : Hid (Ib w37 g41 false none 0 0) := Lib.hid (Ib.entry (T := 25) hc41)
  have lw_la : w.heap.size ≤ g41 := by omega
  have nn_a_ra : ¬ (w.heap.size = g42) := by have := lt37_a; omega
  have nm_a_ra : ¬ (g42 = w.heap.size) := by omega
  have nn_b_ra : ¬ ((w.heap.size + 1) = g42) := by have := lt37_b; omega
  have nm_b_ra : ¬ (g42 = (w.heap.size + 1)) := by omega
  have nn_na_ra : ¬ (g29 = g42) := by have := lt37_na; omega
  have nm_na_ra : ¬ (g42 = g29) := by omega
  have nn_da_ra : ¬ (g30 = g42) := by have := lt37_da; omega
  have nm_da_ra : ¬ (g42 = g30) := by omega
  have nn_ma_ra : ¬ (g31 = g42) := by have := lt37_ma; omega
  have nm_ma_ra : ¬ (g42 = g31) := by omega
  have nn_ea_ra : ¬ (g32 = g42) := by have := lt37_ea; omega
  have nm_ea_ra : ¬ (g42 = g32) := by omega
  obtain ⟨nn_la_ra, _⟩ := ha42
  have nm_la_ra := Ne.symm nn_la_ra
  have H_ra : Hid (Ib w37 g42 false none 0 0) := Lib.hid (Ib.entry (T := 25) hc42)
  have lw_ra : w.heap.size ≤ g42 := by omega
  have nn_a_al : ¬ (w.heap.size = g43) := by have := lt37_a; omega
  have nm_a_al : ¬ (g43 = w.heap.size) := by omega
  have nn_b_al : ¬ ((w.heap.size + 1) = g43) := by have := lt37_b; omega
  have nm_b_al : ¬ (g43 = (w.heap.size + 1)) := by omega
  have nn_na_al : ¬ (g29 = g43) := by have := lt37_na; omega
  have nm_na_al : ¬ (g43 = g29) := by omega
  have nn_da_al : ¬ (g30 = g43) := by have := lt37_da; omega
  have nm_da_al : ¬ (g43 = g30) := by omega
  have nn_ma_al : ¬ (g31 = g43) := by have := lt37_ma; omega
  have nm_ma_al : ¬ (g43 = g31) := by omega
  have nn_ea_al : ¬ (g32 = g43) := by have := lt37_ea; omega
  have nm_ea_al : ¬ (g43 = g32) := by omega
  obtain ⟨nn_ra_al, nn_la_al, _⟩ := ha43
  have nm_la_al := Ne.symm nn_la_al
  have nm_ra_al := Ne.symm nn_ra_al
  have H_al : Hid (Ib w37 g43 false none 0 0) := Lib.hid (Ib.entry (T := 25) hc43)
  have lw_al : w.heap.size ≤ g43 := by omega
  clear hg41 hl41 hc41
  clear hg42 hl42 hc42
  clear hg43 hl43 hc43
  clear B37
  have O_a := H_a
  have O_b := H_b
  have O_na := H_na
  have O_da := H_da
  have O_ma := H_ma
  have O_ea := H_ea
  have O_la := H_la
  have O_ra := H_ra
  have O_al := H_al
  obtain ⟨w44, hw44⟩ : ∃ x, x = zput w37 g41 s38 A38 n38 c38 := ⟨_, rfl⟩
  have HW44 : Hid (((w37.setCell ⟨g41, 0, none⟩ (.bool s38)).setCell ⟨g41, 1, none⟩ (.slice A38 n38 c38)) = w44) := Lib.hid hw44.symm
  have OI := H_la.out
  replace H_a : Hid (Rb w44 w.heap.size s A n c t B m d) := Lib.hid (by rw [hw44]; exact H_a.out.zput (by omega))
  replace H_b : Hid (Rb w44 (w.heap.size + 1) u C l e' v D' f' h') := Lib.hid (by rw [hw44]; exact H_b.out.zput (by omega))
  replace H_na : Hid (Ib w44 g29 s25 A25 n25 c25) := Lib.hid (by rw [hw44]; exact H_na.out.zput (by omega))
  replace H_da : Hid (Ib w44 g30 s26 A26 n26 c26) := Lib.hid (by rw [hw44]; exact H_da.out.zput (by omega))
  replace H_ma : Hid (Ib w44 g31 s27 A27 n27 c27) := Lib.hid (by rw [hw44]; exact H_ma.out.zput (by omega))
  replace H_ea : Hid (Ib w44 g32 s28 A28 n28 c28) := Lib.hid (by rw [hw44]; exact H_ea.out.zput (by omega))
  replace H_ra : Hid (Ib w44 g42 false none 0 0) := Lib.hid (by rw [hw44]; exact H_ra.out.zput (by omega))
  replace H_al : Hid (Ib w44 g43 false none 0 0) := Lib.hid (by rw [hw44]; exact H_al.out.zput (by omega))
  replace ha := ha.zput (s' := s38) (A' := A38) (n' := n38) (c' := c38) OI
  replace hb := hb.zput (s' := s38) (A' := A38) (n' := n38) (c' := c38) OI
  replace fn := fn.zput (s' := s38) (A' := A38) (n' := n38) (c' := c38) OI
  replace fd := fd.zput (s' := s38) (A' := A38) (n' := n38) (c' := c38) OI
  replace fm := fm.zput (s' := s38) (A' := A38) (n' := n38) (c' := c38) OI
  replace fe := fe.zput (s' := s38) (A' := A38) (n' := n38) (c' := c38) OI
  replace fl := fl.zput (s' := s38) (A' := A38) (n' := n38) (c' := c38) OI
  replace fr := fr.zput (s' := s38) (A' := A38) (n' := n38) (c' := c38) OI
  replace fa := fa.zput (s' := s38) (A' := A38) (n' := n38) (c' := c38) OI
  rw [← hw44] at ha
  rw [← hw44] at hb
  rw [← hw44] at fn
  rw [← hw44] at fd
  rw [← hw44] at fm
  rw [← hw44] at fe
  rw [← hw44] at fl
  rw [← hw44] at fr
  rw [← hw44] at fa
  replace hW : Below w.heap.size w w44 := by rw [hw44]; exact below_put hW lw_la
  replace H_la : Hid (Ib w44 g41 s38 A38 n38 c38) := Lib.hid (by rw [hw44]; exact OI.own)
  clear hw44 OI
  obtain ⟨w45, hw45⟩ : ∃ x, x = zput w44 g42 s39 A39 n39 c39 := ⟨_, rfl⟩
  have HW45 : Hid (((w44.setCell ⟨g42, 0, none⟩ (.bool s39)).setCell ⟨g42, 1, none⟩ (.slice A39 n39 c39)) = w45) := Lib.hid hw45.symm
  have OI := H_ra.out
  replace H_a : Hid (Rb w45 w.heap.size s A n c t B m d) := Lib.hid (by rw [hw45]; exact H_a.out.zput (by omega))
  replace H_b : Hid (Rb w45 (w.heap.size + 1) u C l e' v D' f' h') := Lib.hid (by rw [hw45]; exact H_b.out.zput (by omega))
  replace H_na : Hid (Ib w45 g29 s25 A25 n25 c25) := Lib.hid (by rw [hw45]; exact H_na.out.zput (by omega))
  replace H_da : Hid (Ib w45 g30 s26 A26 n26 c26) := Lib.hid (by rw [hw45]; exact H_da.out.zput (by omega))
  replace H_ma : Hid (Ib w45 g31 s27 A27 n27 c27) := Lib.hid (by rw [hw45]; exact H_ma.out.zput (by omega))
  replace H_ea : Hid (Ib w45 g32 s28 A28 n28 c28) := Lib.hid (by rw [hw45]; exact H_ea.out.zput (by omega))
  replace H_la : Hid (Ib w45 g41 s38 A38 n38 c38) := Lib.hid (by rw [hw45]; exact H_la.out.zput (by omega))
  replace H_al : Hid (Ib w45 g43 false none 0 0) := Lib.hid (by rw [hw45]; exact H_al.out.zput (by omega))
  replace ha := ha.zput (s' := s39) (A' := A39) (n' := n39) (c' := c39) OI
  replace hb := hb.zput (s' := s39) (A' := A39) (n' := n39) (c' := c39) OI
  replace fn := fn.zput (s' := s39) (A' := A39) (n' := n39) (c' := c39) OI
  replace fd := fd.zput (s' := s39) (A' := A39) (n' := n39) (c' := c39) OI
  replace fm := fm.zput (s' := s39) (A' := A39) (n' := n39) (c' := c39) OI
  replace fe := fe.zput (s' := s39) (A' := A39) (n' := n39) (c' := c39) OI
  replace fl := fl.zput (s' := s39) (A' := A39) (n' := n39) (c' := c39) OI
  replace fr := fr.zput (s' := s39) (A' := A39) (n' := n39) (c' := c39) OI
  replace fa := fa.zput (s' := s39) (A' := A39) (n' := n39) (c' := c39) OI
  rw [← hw45] at ha
  rw [← hw45] at hb
  rw [← hw45] at fn
  rw [← hw45] at fd
  rw [← hw45] at fm
  rw [← hw45] at fe
  rw [← hw45] at fl
  rw [← hw45] at fr
  rw [← hw45] at fa
  replace hW : Below w.heap.size w w45 := by rw [hw45]; exact below_put hW lw_ra
  replace H_ra : Hid (Ib w45 g42 s39 A39 n39 c39) := Lib.hid (by rw [hw45]; exact OI.own)
  clear hw45 OI
  obtain ⟨w46, hw46⟩ : ∃ x, x = zput w45 g43 s40 A40 n40 c40 := ⟨_, rfl⟩
  have HW46 : Hid (((w45.setCell ⟨g43, 0, none⟩ (.bool s40)).setCell ⟨g43, 1, none⟩ (.slice A40 n40 c40)) = w46) := Lib.hid hw46.symm
  have OI := H_al.out
  replace H_a : Hid (Rb w46 w.heap.size s A n c t B m d) := Lib.hid (by rw [hw46]; exact H_a.out.zput (by omega))
  replace H_b : Hid (Rb w46 (w.heap.size + 1) u C l e' v D' f' h') := Lib.hid (by rw [hw46]; exact H_b.out.zput (by omega))
  replace H_na : Hid (Ib w46 g29 s25 A25 n25 c25) := Lib.hid (by rw [hw46]; exact H_na.out.zput (by omega))
  replace H_da : Hid (Ib w46 g30 s26 A26 n26 c26) := Lib.hid (by rw [hw46]; exact H_da.out.zput (by omega))
  replace H_ma : Hid (Ib w46 g31 s27 A27 n27 c27) := Lib.hid (by rw [hw46]; exact H_ma.out.zput (by omega))
  replace H_ea : Hid (Ib w46 g32 s28 A28 n28 c28) := Lib.hid (by rw [hw46]; exact H_ea.out.zput (by omega))
  replace H_la : Hid (Ib w46 g41 s38 A38 n38 c38) := Lib.hid (by rw [hw46]; exact H_la.out.zput (by omega))
  replace H_ra : Hid (Ib w46 g42 s39 A39 n39 c39) := Lib.hid (by rw [hw46]; exact H_ra.out.zput (by omega))
  replace ha := ha.zput (s' := s40) (A' := A40) (n' := n40) (c' := c40) OI
  replace hb := hb.zput (s' := s40) (A' := A40) (n' := n40) (c' := c40) OI
  replace fn := fn.zput (s' := s40) (A' := A40) (n' := n40) (c' := c40) OI
  replace fd := fd.zput (s' := s40) (A' := A40) (n' := n40) (c' := c40) OI
  replace fm := fm.zput (s' := s40) (A' := A40) (n' := n40) (c' := c40) OI
  replace fe := fe.zput (s' := s40) (A' := A40) (n' := n40) (c' := c40) OI
  replace fl := fl.zput (s' := s40) (A' := A40) (n' := n40) (c' := c40) OI
  replace fr := fr.zput (s' := s40) (A' := A40) (n' := n40) (c' := c40) OI
  replace fa := fa.zput (s' := s40) (A' := A40) (n' := n40) (c' := c40) OI
  rw [← hw46] at ha
  rw [← hw46] at hb
  rw [← hw46] at fn
  rw [← hw46] at fd
  rw [← hw46] at fm
  rw [← hw46] at fe
  rw [← hw46] at fl
  rw [← hw46] at fr
  rw [← hw46] at fa
  replace hW : Below w.heap.size w w46 := by rw [hw46]; exact below_put hW lw_al
  replace H_al : Hid (Ib w46 g43 s40 A40 n40 c40) := Lib.hid (by rw [hw46]; exact OI.own)
  clear hw46 OI
  obtain ⟨a1, a2, a3, a4, a5, a6, a7, a8, a9⟩ := O_a.out
  obtain ⟨b1, b2, b3, b4, b5, b6, b7, b8, b9⟩ := O_b.out
  obtain ⟨na1, na2, na3, na4, na5⟩ := O_na.out
  obtain ⟨da1, da2, da3, da4, da5⟩ := O_da.out
  obtain ⟨ma1, ma2, ma3, ma4, ma5⟩ := O_ma.out
  obtain ⟨ea1, ea2, ea3, ea4, ea5⟩ := O_ea.out
  obtain ⟨la1, la2, la3, la4, la5⟩ := O_la.out
  obtain ⟨ra1, ra2, ra3, ra4, ra5⟩ := O_ra.out
  obtain ⟨al1, al2, al3, al4, al5⟩ := O_al.out
  go_wp2_with fail
  rw [HW44.out]
  rw [HW45.out]
  rw [HW46.out]
  clear a1 a2 a3 a4 a5 a6 a7 a8 a9 b1 b2 b3 b4 b5 b6 b7 b8 b9 na1 na2 na3 na4 na5 da1 da2 da3 da4 da5 ma1 ma2 ma3 ma4 ma5 ea1 ea2 ea3 ea4 ea5 la1 la2 la3 la4 la5 ra1 ra2 ra3 ra4 ra5 al1 al2 al3 al4 al5 O_a O_b O_na O_da O_ma O_ea O_la O_ra O_al
  refine region7 [] 40 [IsK (.agg #[.bool s, .slice A n c, .bool t, .slice B m d]), IsK (.agg #[.bool u, .slice C l e', .bool v, .slice D' f' h']), IsQ (p + q) 9, IsK (.agg #[.bool s38, .slice A38 n38 c38]), IsK (.agg #[.bool s39, .slice A39 n39 c39]), IsC (N1 * E1 + M1 * D1) 9, IsK (.agg #[.bool s40, .slice A40 n40 c40]), IsK (.bool true), IsK (.bool false), IsK (.bool false), IsK (.agg #[.bool s, .slice A n c, .bool t, .slice B m d]), IsK (.agg #[.bool u, .slice C l e', .bool v, .slice D' f' h']), IsQ (p - q) 9, IsK (.agg #[.bool s38, .slice A38 n38 c38]), IsK (.agg #[.bool s39, .slice A39 n39 c39]), IsC (N1 * E1 - M1 * D1) 9, IsK (.agg #[.bool s40, .slice A40 n40 c40]), IsK (.bool true), IsK (.bool false), IsK (.bool false), IsK (.bool false), IsK (.agg #[.bool s, .slice A n c, .bool t, .slice B m d]), IsK (.agg #[.bool u, .slice C l e', .bool v, .slice D' f' h']), IsQ (p * q) 8, IsK (.agg #[.bool s25, .slice A25 n25 c25]), IsK (.agg #[.bool s27, .slice A27 n27 c27]), IsC (N1 * M1) 8, IsK (.agg #[.bool s40, .slice A40 n40 c40]), IsK (.bool true), IsK (.bool false), IsK (.bool false), IsK (.bool false), IsK (.agg #[.bool s, .slice A n c, .bool t, .slice B m d]), IsQ (-p) 4, IsK (.agg #[.bool s25, .slice A25 n25 c25]), IsC (-N1) 4, IsK (.agg #[.bool s26, .slice A26 n26 c26]), IsK (.bool true), IsK (.bool false), IsK (.bool false)] (fun _ _ d _ _ h => by cases d <;> exact h) (by kernel_rfl) (by kernel_rfl) (by kernel_rfl) ⟨stay_k _, stay_k _, stay_q _ _, stay_k _, stay_k _, stay_c _ _, stay_k _, stay_k _, stay_k _, stay_k _, stay_k _, stay_k _, stay_q _ _, stay_k _, stay_k _, stay_c _ _, stay_k _, stay_k _, stay_k _, stay_k _, stay_k _, stay_k _, stay_k _, stay_q _ _, stay_k _, stay_k _, stay_c _ _, stay_k _, stay_k _, stay_k _, stay_k _, stay_k _, stay_k _, stay_q _ _, stay_k _, stay_c _ _, stay_k _, stay_k _, stay_k _, stay_k _, trivial⟩ ?_ ?_
  · refine HopAll.cons rfl ?_ (HopAll.cons rfl ?_ (HopAll.cons rfl ?_ (HopAll.cons rfl ?_ (HopAll.cons rfl ?_ (HopAll.cons rfl ?_ (HopAll.cons rfl ?_ (HopAll.cons rfl ?_ (HopAll.cons rfl ?_ (HopAll.cons rfl ?_ (HopAll.cons rfl ?_ (HopAll.cons rfl ?_ (HopAll.cons rfl ?_ (HopAll.cons rfl ?_ (HopAll.cons rfl ?_ (HopAll.cons rfl ?_ (HopAll.cons rfl ?_ (HopAll.cons rfl ?_ (HopAll.cons rfl ?_ (HopAll.cons rfl ?_ (HopAll.cons rfl ?_ (HopAll.cons rfl ?_ (HopAll.cons rfl ?_ (HopAll.cons rfl ?_ (HopAll.cons rfl ?_ (HopAll.cons rfl ?_ (HopAll.cons rfl ?_ (HopAll.cons rfl ?_ (HopAll.cons rfl ?_ (HopAll.cons rfl ?_ (HopAll.cons rfl ?_ (HopAll.cons rfl ?_ (HopAll.cons rfl ?_ (HopAll.cons rfl ?_ (HopAll.cons rfl ?_ (HopAll.cons rfl ?_ (HopAll.cons rfl ?_ (HopAll.cons rfl ?_ (HopAll.cons rfl ?_ (HopAll.cons rfl ?_ HopAll.nil)))))))))))))))))))))))))))))))))))))))
    · intro a w1 hB ho hp K hK
      have e2 : a.eval (.tmp 2) = (.pointer (some ⟨w.heap.size, 0, none⟩)) := ho 2 (by kernel_rfl)
      obtain ⟨u1, u2, u3, u4, u5, u6, u7, u8, u9⟩ := H_a.out.below hB
      exact hop_load (wanted_none rfl) rfl e2 (run_ldq u1 u2 u3 u4) (hK _ _ rfl (Below.refl _ _))
    · intro a w1 hB ho hp K hK
      have e3 : a.eval (.tmp 3) = (.pointer (some ⟨(w.heap.size + 1), 0, none⟩)) := ho 3 (by kernel_rfl)
      obtain ⟨u1, u2, u3, u4, u5, u6, u7, u8, u9⟩ := H_b.out.below hB
      exact hop_load (wanted_none rfl) rfl e3 (run_ldq u1 u2 u3 u4) (hK _ _ rfl (Below.refl _ _))
    · intro a w1 hB ho hp K hK
      have e44 : a.eval (.tmp 44) = (.agg #[.bool s, .slice A n c, .bool t, .slice B m d]) := hp 0 44 (by kernel_rfl)
      have e45 : a.eval (.tmp 45) = (.agg #[.bool u, .slice C l e', .bool v, .slice D' f' h']) := hp 1 45 (by kernel_rfl)
      refine hop_call (wanted_none rfl) rfl (args := #[(.agg #[.bool s, .slice A n c, .bool t, .slice B m d]), (.agg #[.bool u, .slice C l e', .bool v, .slice D' f' h'])]) (by simp only [List.map_toArray, List.map_cons, List.map_nil, eval_const, e44, e45]) (ent7 (by kernel_rfl) _ _) (add_q (ha.below hB) (hb.below hB) 4 (by omega) (by omega) (by omega) (by omega) (by omega) (by omega)) ?_
      rintro e w2 ⟨s, A, n, c, t, B, m, d, rfl, p, k, l, BB⟩
      exact ⟨_, rfl, hK _ _ ⟨s, A, n, c, t, B, m, d, rfl, p, by omega, by omega⟩ BB⟩
    · intro a w1 hB ho hp K hK
      have e9 : a.eval (.tmp 9) = (.pointer (some ⟨g41, 0, none⟩)) := ho 9 (by kernel_rfl)
      obtain ⟨u1, u2, u3, u4, u5⟩ := H_la.out.below hB
      exact hop_load (wanted_none rfl) rfl e9 (run_ldz u1 u2) (hK _ _ rfl (Below.refl _ _))
    · intro a w1 hB ho hp K hK
      have e10 : a.eval (.tmp 10) = (.pointer (some ⟨g42, 0, none⟩)) := ho 10 (by kernel_rfl)
      obtain ⟨u1, u2, u3, u4, u5⟩ := H_ra.out.below hB
      exact hop_load (wanted_none rfl) rfl e10 (run_ldz u1 u2) (hK _ _ rfl (Below.refl _ _))
    · intro a w1 hB ho hp K hK
      have e47 : a.eval (.tmp 47) = (.agg #[.bool s38, .slice A38 n38 c38]) := hp 3 47 (by kernel_rfl)
      have e48 : a.eval (.tmp 48) = (.agg #[.bool s39, .slice A39 n39 c39]) := hp 4 48 (by kernel_rfl)
      refine hop_call (wanted_none rfl) rfl (args := #[(.agg #[.bool s38, .slice A38 n38 c38]), (.agg #[.bool s39, .slice A39 n39 c39])]) (by simp only [List.map_toArray, List.map_cons, List.map_nil, eval_const, e47, e48]) (ent7 (by kernel_rfl) _ _) (zadd_v (fl.below hB).zv (fr.below hB).zv (by omega) (by omega)) ?_
      rintro e w2 ⟨s, A, n, c, rfl, p, k, B⟩
      exact ⟨_, rfl, hK _ _ ⟨s, A, n, c, rfl, p, by omega⟩ B⟩
    · intro a w1 hB ho hp K hK
      have e11 : a.eval (.tmp 11) = (.pointer (some ⟨g43, 0, none⟩)) := ho 11 (by kernel_rfl)
      obtain ⟨u1, u2, u3, u4, u5⟩ := H_al.out.below hB
      exact hop_load (wanted_none rfl) rfl e11 (run_ldz u1 u2) (hK _ _ rfl (Below.refl _ _))
    · intro a w1 hB ho hp K hK
      obtain ⟨s46, A46, n46, c46, t46, D46, m46, d46, e46, p46, k46, l46⟩ : IsQ (p + q) 9 (a.eval (.tmp 46)) w1 := hp 2 46 (by kernel_rfl)
      obtain ⟨s49, A49, n49, c49, e49, p49, k49⟩ : IsC (N1 * E1 + M1 * D1) 9 (a.eval (.tmp 49)) w1 := hp 5 49 (by kernel_rfl)
      have e50 : a.eval (.tmp 50) = (.agg #[.bool s40, .slice A40 n40 c40]) := hp 6 50 (by kernel_rfl)
      refine hop_call (wanted_none rfl) rfl (args := #[(.agg #[.bool s46, .slice A46 n46 c46, .bool t46, .slice D46 m46 d46]), (.agg #[.bool s49, .slice A49 n49 c49]), (.agg #[.bool s40, .slice A40 n40 c40])]) (by simp only [List.map_toArray, List.map_cons, List.map_nil, eval_const, e46, e49, e50]) (ent7 (by kernel_rfl) _ _) (isq_yes p46 p49.zv (fa.below hB).zv (by omega) (by omega) (by omega) (by omega) HA.out) ?_
      rintro e w2 ⟨rfl, B⟩
      exact ⟨_, rfl, hK _ _ rfl B⟩
    · intro a w1 hB ho hp K hK
      have e51 : a.eval (.tmp 51) = (.bool true) := hp 7 51 (by kernel_rfl)
      refine hop_val (wanted_none rfl) ?_ (hK (.bool false) _ rfl (Below.refl _ _))
      unfold execOp; simp only [eval_const, e51]; simp [go_sem]
    · intro a w1 hB ho hp K hK
      have e52 : a.eval (.tmp 52) = (.bool false) := hp 8 52 (by kernel_rfl)
      refine hop_val (wanted_none rfl) ?_ (hK (.bool false) _ rfl (Below.refl _ _))
      unfold execOp; simp only [eval_const, e52]; simp [go_sem]
    · intro a w1 hB ho hp K hK
      have e2 : a.eval (.tmp 2) = (.pointer (some ⟨w.heap.size, 0, none⟩)) := ho 2 (by kernel_rfl)
      obtain ⟨u1, u2, u3, u4, u5, u6, u7, u8, u9⟩ := H_a.out.below hB
      exact hop_load (wanted_at rfl (j := 9) (d := 53) (b := false) (by kernel_rfl) (hp 9 53 (by kernel_rfl))) rfl e2 (run_ldq u1 u2 u3 u4) (hK _ _ rfl (Below.refl _ _))
    · intro a w1 hB ho hp K hK
      have e3 : a.eval (.tmp 3) = (.pointer (some ⟨(w.heap.size + 1), 0, none⟩)) := ho 3 (by kernel_rfl)
      obtain ⟨u1, u2, u3, u4, u5, u6, u7, u8, u9⟩ := H_b.out.below hB
      exact hop_load (wanted_at rfl (j := 9) (d := 53) (b := false) (by kernel_rfl) (hp 9 53 (by kernel_rfl))) rfl e3 (run_ldq u1 u2 u3 u4) (hK _ _ rfl (Below.refl _ _))
    · intro a w1 hB ho hp K hK
      have e54 : a.eval (.tmp 54) = (.agg #[.bool s, .slice A n c, .bool t, .slice B m d]) := hp 10 54 (by kernel_rfl)
      have e55 : a.eval (.tmp 55) = (.agg #[.bool u, .slice C l e', .bool v, .slice D' f' h']) := hp 11 55 (by kernel_rfl)
      refine hop_call (wanted_at rfl (j := 9) (d := 53) (b := false) (by kernel_rfl) (hp 9 53 (by kernel_rfl))) rfl (args := #[(.agg #[.bool s, .slice A n c, .bool t, .slice B m d]), (.agg #[.bool u, .slice C l e', .bool v, .slice D' f' h'])]) (by simp only [List.map_toArray, List.map_cons, List.map_nil, eval_const, e54, e55]) (ent7 (by kernel_rfl) _ _) (sub_q (ha.below hB) (hb.below hB) 4 (by omega) (by omega) (by omega) (by omega) (by omega) (by omega)) ?_
      rintro e w2 ⟨s, A, n, c, t, B, m, d, rfl, p, k, l, BB⟩
      exact ⟨_, rfl, hK _ _ ⟨s, A, n, c, t, B, m, d, rfl, p, by omega, by omega⟩ BB⟩
    · intro a w1 hB ho hp K hK
      have e9 : a.eval (.tmp 9) = (.pointer (some ⟨g41, 0, none⟩)) := ho 9 (by kernel_rfl)
      obtain ⟨u1, u2, u3, u4, u5⟩ := H_la.out.below hB
      exact hop_load (wanted_at rfl (j := 9) (d := 53) (b := false) (by kernel_rfl) (hp 9 53 (by kernel_rfl))) rfl e9 (run_ldz u1 u2) (hK _ _ rfl (Below.refl _ _))
    · intro a w1 hB ho hp K hK
      have e10 : a.eval (.tmp 10) = (.pointer (some ⟨g42, 0, none⟩)) := ho 10 (by kernel_rfl)
      obtain ⟨u1, u2, u3, u4, u5⟩ := H_ra.out.below hB
      exact hop_load (wanted_at rfl (j := 9) (d := 53) (b := false) (by kernel_rfl) (hp 9 53 (by kernel_rfl))) rfl e10 (run_ldz u1 u2) (hK _ _ rfl (Below.refl _ _))
    · intro a w1 hB ho hp K hK
      have e57 : a.eval (.tmp 57) = (.agg #[.bool s38, .slice A38 n38 c38]) := hp 13 57 (by kernel_rfl)
      have e58 : a.eval (.tmp 58) = (.agg #[.bool s39, .slice A39 n39 c39]) := hp 14 58 (by kernel_rfl)
      refine hop_call (wanted_at rfl (j := 9) (d := 53) (b := false) (by kernel_rfl) (hp 9 53 (by kernel_rfl))) rfl (args := #[(.agg #[.bool s38, .slice A38 n38 c38]), (.agg #[.bool s39, .slice A39 n39 c39])]) (by simp only [List.map_toArray, List.map_cons, List.map_nil, eval_const, e57, e58]) (ent7 (by kernel_rfl) _ _) (zsub_v (fl.below hB).zv (fr.below hB).zv (by omega) (by omega)) ?_
      rintro e w2 ⟨s, A, n, c, rfl, p, k, B⟩
      exact ⟨_, rfl, hK _ _ ⟨s, A, n, c, rfl, p, by omega⟩ B⟩
    · intro a w1 hB ho hp K hK
      have e11 : a.eval (.tmp 11) = (.pointer (some ⟨g43, 0, none⟩)) := ho 11 (by kernel_rfl)
      obtain ⟨u1, u2, u3, u4, u5⟩ := H_al.out.below hB
      exact hop_load (wanted_at rfl (j := 9) (d := 53) (b := false) (by kernel_rfl) (hp 9 53 (by kernel_rfl))) rfl e11 (run_ldz u1 u2) (hK _ _ rfl (Below.refl _ _))
    · intro a w1 hB ho hp K hK
      obtain ⟨s56, A56, n56, c56, t56, D56, m56, d56, e56, p56, k56, l56⟩ : IsQ (p - q) 9 (a.eval (.tmp 56)) w1 := hp 12 56 (by kernel_rfl)
      obtain ⟨s59, A59, n59, c59, e59, p59, k59⟩ : IsC (N1 * E1 - M1 * D1) 9 (a.eval (.tmp 59)) w1 := hp 15 59 (by kernel_rfl)
      have e60 : a.eval (.tmp 60) = (.agg #[.bool s40, .slice A40 n40 c40]) := hp 16 60 (by kernel_rfl)
      refine hop_call (wanted_at rfl (j := 9) (d := 53) (b := false) (by kernel_rfl) (hp 9 53 (by kernel_rfl))) rfl (args := #[(.agg #[.bool s56, .slice A56 n56 c56, .bool t56, .slice D56 m56 d56]), (.agg #[.bool s59, .slice A59 n59 c59]), (.agg #[.bool s40, .slice A40 n40 c40])]) (by simp only [List.map_toArray, List.map_cons, List.map_nil, eval_const, e56, e59, e60]) (ent7 (by kernel_rfl) _ _) (isq_yes p56 p59.zv (fa.below hB).zv (by omega) (by omega) (by omega) (by omega) HS.out) ?_
      rintro e w2 ⟨rfl, B⟩
      exact ⟨_, rfl, hK _ _ rfl B⟩
    · intro a w1 hB ho hp K hK
      have e61 : a.eval (.tmp 61) = (.bool true) := hp 17 61 (by kernel_rfl)
      refine hop_val (wanted_at rfl (j := 9) (d := 53) (b := false) (by kernel_rfl) (hp 9 53 (by kernel_rfl))) ?_ (hK (.bool false) _ rfl (Below.refl _ _))
      unfold execOp; simp only [eval_const, e61]; simp [go_sem]
    · intro a w1 hB ho hp K hK
      have e53 : a.eval (.tmp 53) = (.bool false) := hp 9 53 (by kernel_rfl)
      have e62 : a.eval (.tmp 62) = (.bool false) := hp 18 62 (by kernel_rfl)
      refine hop_val (wanted_none rfl) ?_ (hK (.bool false) _ rfl (Below.refl _ _))
      unfold execOp; simp only [eval_const, e53, e62]; simp [go_sem]
    · intro a w1 hB ho hp K hK
      have e63 : a.eval (.tmp 63) = (.bool false) := hp 19 63 (by kernel_rfl)
      refine hop_val (wanted_none rfl) ?_ (hK (.bool false) _ rfl (Below.refl _ _))
      unfold execOp; simp only [eval_const, e63]; simp [go_sem]
    · intro a w1 hB ho hp K hK
      have e2 : a.eval (.tmp 2) = (.pointer (some ⟨w.heap.size, 0, none⟩)) := ho 2 (by kernel_rfl)
      obtain ⟨u1, u2, u3, u4, u5, u6, u7, u8, u9⟩ := H_a.out.below hB
      exact hop_load (wanted_at rfl (j := 20) (d := 64) (b := false) (by kernel_rfl) (hp 20 64 (by kernel_rfl))) rfl e2 (run_ldq u1 u2 u3 u4) (hK _ _ rfl (Below.refl _ _))
    · intro a w1 hB ho hp K hK
      have e3 : a.eval (.tmp 3) = (.pointer (some ⟨(w.heap.size + 1), 0, none⟩)) := ho 3 (by kernel_rfl)
      obtain ⟨u1, u2, u3, u4, u5, u6, u7, u8, u9⟩ := H_b.out.below hB
      exact hop_load (wanted_at rfl (j := 20) (d := 64) (b := false) (by kernel_rfl) (hp 20 64 (by kernel_rfl))) rfl e3 (run_ldq u1 u2 u3 u4) (hK _ _ rfl (Below.refl _ _))
    · intro a w1 hB ho hp K hK
      have e65 : a.eval (.tmp 65) = (.agg #[.bool s, .slice A n c, .bool t, .slice B m d]) := hp 21 65 (by kernel_rfl)
      have e66 : a.eval (.tmp 66) = (.agg #[.bool u, .slice C l e', .bool v, .slice D' f' h']) := hp 22 66 (by kernel_rfl)
      refine hop_call (wanted_at rfl (j := 20) (d := 64) (b := false) (by kernel_rfl) (hp 20 64 (by kernel_rfl))) rfl (args := #[(.agg #[.bool s, .slice A n c, .bool t, .slice B m d]), (.agg #[.bool u, .slice C l e', .bool v, .slice D' f' h'])]) (by simp only [List.map_toArray, List.map_cons, List.map_nil, eval_const, e65, e66]) (ent7 (by kernel_rfl) _ _) (mul_q (ha.below hB) (hb.below hB) 4 (by omega) (by omega) (by omega) (by omega) (by omega) (by omega)) ?_
      rintro e w2 ⟨s, A, n, c, t, B, m, d, rfl, p, k, l, BB⟩
      exact ⟨_, rfl, hK _ _ ⟨s, A, n, c, t, B, m, d, rfl, p, by omega, by omega⟩ BB⟩
    · intro a w1 hB ho hp K hK
      have e5 : a.eval (.tmp 5) = (.pointer (some ⟨g29, 0, none⟩)) := ho 5 (by kernel_rfl)
      obtain ⟨u1, u2, u3, u4, u5⟩ := H_na.out.below hB
      exact hop_load (wanted_at rfl (j := 20) (d := 64) (b := false) (by kernel_rfl) (hp 20 64 (by kernel_rfl))) rfl e5 (run_ldz u1 u2) (hK _ _ rfl (Below.refl _ _))
    · intro a w1 hB ho hp K hK
      have e7 : a.eval (.tmp 7) = (.pointer (some ⟨g31, 0, none⟩)) := ho 7 (by kernel_rfl)
      obtain ⟨u1, u2, u3, u4, u5⟩ := H_ma.out.below hB
      exact hop_load (wanted_at rfl (j := 20) (d := 64) (b := false) (by kernel_rfl) (hp 20 64 (by kernel_rfl))) rfl e7 (run_ldz u1 u2) (hK _ _ rfl (Below.refl _ _))
    · intro a w1 hB ho hp K hK
      have e68 : a.eval (.tmp 68) = (.agg #[.bool s25, .slice A25 n25 c25]) := hp 24 68 (by kernel_rfl)
      have e69 : a.eval (.tmp 69) = (.agg #[.bool s27, .slice A27 n27 c27]) := hp 25 69 (by kernel_rfl)
      refine hop_call (wanted_at rfl (j := 20) (d := 64) (b := false) (by kernel_rfl) (hp 20 64 (by kernel_rfl))) rfl (args := #[(.agg #[.bool s25, .slice A25 n25 c25]), (.agg #[.bool s27, .slice A27 n27 c27])]) (by simp only [List.map_toArray, List.map_cons, List.map_nil, eval_const, e68, e69]) (ent7 (by kernel_rfl) _ _) (zmul_v (fn.below hB) (fm.below hB) (by omega) (by omega)) ?_
      rintro e w2 ⟨s, A, n, c, rfl, p, k, B⟩
      exact ⟨_, rfl, hK _ _ ⟨s, A, n, c, rfl, p, by omega⟩ B⟩
    · intro a w1 hB ho hp K hK
      have e11 : a.eval (.tmp 11) = (.pointer (some ⟨g43, 0, none⟩)) := ho 11 (by kernel_rfl)
      obtain ⟨u1, u2, u3, u4, u5⟩ := H_al.out.below hB
      exact hop_load (wanted_at rfl (j := 20) (d := 64) (b := false) (by kernel_rfl) (hp 20 64 (by kernel_rfl))) rfl e11 (run_ldz u1 u2) (hK _ _ rfl (Below.refl _ _))
    · intro a w1 hB ho hp K hK
      obtain ⟨s67, A67, n67, c67, t67, D67, m67, d67, e67, p67, k67, l67⟩ : IsQ (p * q) 8 (a.eval (.tmp 67)) w1 := hp 23 67 (by kernel_rfl)
      obtain ⟨s70, A70, n70, c70, e70, p70, k70⟩ : IsC (N1 * M1) 8 (a.eval (.tmp 70)) w1 := hp 26 70 (by kernel_rfl)
      have e71 : a.eval (.tmp 71) = (.agg #[.bool s40, .slice A40 n40 c40]) := hp 27 71 (by kernel_rfl)
      refine hop_call (wanted_at rfl (j := 20) (d := 64) (b := false) (by kernel_rfl) (hp 20 64 (by kernel_rfl))) rfl (args := #[(.agg #[.bool s67, .slice A67 n67 c67, .bool t67, .slice D67 m67 d67]), (.agg #[.bool s70, .slice A70 n70 c70]), (.agg #[.bool s40, .slice A40 n40 c40])]) (by simp only [List.map_toArray, List.map_cons, List.map_nil, eval_const, e67, e70, e71]) (ent7 (by kernel_rfl) _ _) (isq_yes p67 p70.zv (fa.below hB).zv (by omega) (by omega) (by omega) (by omega) HM.out) ?_
      rintro e w2 ⟨rfl, B⟩
      exact ⟨_, rfl, hK _ _ rfl B⟩
    · intro a w1 hB ho hp K hK
      have e72 : a.eval (.tmp 72) = (.bool true) := hp 28 72 (by kernel_rfl)
      refine hop_val (wanted_at rfl (j := 20) (d := 64) (b := false) (by kernel_rfl) (hp 20 64 (by kernel_rfl))) ?_ (hK (.bool false) _ rfl (Below.refl _ _))
      unfold execOp; simp only [eval_const, e72]; simp [go_sem]
    · intro a w1 hB ho hp K hK
      have e64 : a.eval (.tmp 64) = (.bool false) := hp 20 64 (by kernel_rfl)
      have e73 : a.eval (.tmp 73) = (.bool false) := hp 29 73 (by kernel_rfl)
      refine hop_val (wanted_none rfl) ?_ (hK (.bool false) _ rfl (Below.refl _ _))
      unfold execOp; simp only [eval_const, e64, e73]; simp [go_sem]
    · intro a w1 hB ho hp K hK
      have e74 : a.eval (.tmp 74) = (.bool false) := hp 30 74 (by kernel_rfl)
      refine hop_val (wanted_none rfl) ?_ (hK (.bool false) _ rfl (Below.refl _ _))
      unfold execOp; simp only [eval_const, e74]; simp [go_sem]
    · intro a w1 hB ho hp K hK
      have e2 : a.eval (.tmp 2) = (.pointer (some ⟨w.heap.size, 0, none⟩)) := ho 2 (by kernel_rfl)
      obtain ⟨u1, u2, u3, u4, u5, u6, u7, u8, u9⟩ := H_a.out.below hB
      exact hop_load (wanted_at rfl (j := 31) (d := 75) (b := false) (by kernel_rfl) (hp 31 75 (by kernel_rfl))) rfl e2 (run_ldq u1 u2 u3 u4) (hK _ _ rfl (Below.refl _ _))
    · intro a w1 hB ho hp K hK
      have e76 : a.eval (.tmp 76) = (.agg #[.bool s, .slice A n c, .bool t, .slice B m d]) := hp 32 76 (by kernel_rfl)
      refine hop_call (wanted_at rfl (j := 31) (d := 75) (b := false) (by kernel_rfl) (hp 31 75 (by kernel_rfl))) rfl (args := #[(.agg #[.bool s, .slice A n c, .bool t, .slice B m d])]) (by simp only [List.map_toArray, List.map_cons, List.map_nil, eval_const, e76]) (ent7 (by kernel_rfl) _ _) (neg_q (ha.below hB) 4 (by omega) (by omega) (by omega) (by omega)) ?_
      rintro e w2 ⟨s, A, n, c, t, B, m, d, rfl, p, k, l, BB⟩
      exact ⟨_, rfl, hK _ _ ⟨s, A, n, c, t, B, m, d, rfl, p, by omega, by omega⟩ BB⟩
    · intro a w1 hB ho hp K hK
      have e5 : a.eval (.tmp 5) = (.pointer (some ⟨g29, 0, none⟩)) := ho 5 (by kernel_rfl)
      obtain ⟨u1, u2, u3, u4, u5⟩ := H_na.out.below hB
      exact hop_load (wanted_at rfl (j := 31) (d := 75) (b := false) (by kernel_rfl) (hp 31 75 (by kernel_rfl))) rfl e5 (run_ldz u1 u2) (hK _ _ rfl (Below.refl _ _))
    · intro a w1 hB ho hp K hK
      have e78 : a.eval (.tmp 78) = (.agg #[.bool s25, .slice A25 n25 c25]) := hp 34 78 (by kernel_rfl)
      refine hop_call (wanted_at rfl (j := 31) (d := 75) (b := false) (by kernel_rfl) (hp 31 75 (by kernel_rfl))) rfl (args := #[(.agg #[.bool s25, .slice A25 n25 c25])]) (by simp only [List.map_toArray, List.map_cons, List.map_nil, eval_const, e78]) (ent7 (by kernel_rfl) _ _) (zneg_v (fn.below hB) (by omega)) ?_
      rintro e w2 ⟨s, A, n, c, rfl, p, k, B⟩
      exact ⟨_, rfl, hK _ _ ⟨s, A, n, c, rfl, p, by omega⟩ B⟩
    · intro a w1 hB ho hp K hK
      have e6 : a.eval (.tmp 6) = (.pointer (some ⟨g30, 0, none⟩)) := ho 6 (by kernel_rfl)
      obtain ⟨u1, u2, u3, u4, u5⟩ := H_da.out.below hB
      exact hop_load (wanted_at rfl (j := 31) (d := 75) (b := false) (by kernel_rfl) (hp 31 75 (by kernel_rfl))) rfl e6 (run_ldz u1 u2) (hK _ _ rfl (Below.refl _ _))
    · intro a w1 hB ho hp K hK
      obtain ⟨s77, A77, n77, c77, t77, D77, m77, d77, e77, p77, k77, l77⟩ : IsQ (-p) 4 (a.eval (.tmp 77)) w1 := hp 33 77 (by kernel_rfl)
      obtain ⟨s79, A79, n79, c79, e79, p79, k79⟩ : IsC (-N1) 4 (a.eval (.tmp 79)) w1 := hp 35 79 (by kernel_rfl)
      have e80 : a.eval (.tmp 80) = (.agg #[.bool s26, .slice A26 n26 c26]) := hp 36 80 (by kernel_rfl)
      refine hop_call (wanted_at rfl (j := 31) (d := 75) (b := false) (by kernel_rfl) (hp 31 75 (by kernel_rfl))) rfl (args := #[(.agg #[.bool s77, .slice A77 n77 c77, .bool t77, .slice D77 m77 d77]), (.agg #[.bool s79, .slice A79 n79 c79]), (.agg #[.bool s26, .slice A26 n26 c26])]) (by simp only [List.map_toArray, List.map_cons, List.map_nil, eval_const, e77, e79, e80]) (ent7 (by kernel_rfl) _ _) (isq_yes p77 p79.zv (fd.below hB).zv (by omega) (by omega) (by omega) (by omega) HN.out) ?_
      rintro e w2 ⟨rfl, B⟩
      exact ⟨_, rfl, hK _ _ rfl B⟩
    · intro a w1 hB ho hp K hK
      have e81 : a.eval (.tmp 81) = (.bool true) := hp 37 81 (by kernel_rfl)
      refine hop_val (wanted_at rfl (j := 31) (d := 75) (b := false) (by kernel_rfl) (hp 31 75 (by kernel_rfl))) ?_ (hK (.bool false) _ rfl (Below.refl _ _))
      unfold execOp; simp only [eval_const, e81]; simp [go_sem]
    · intro a w1 hB ho hp K hK
      have e75 : a.eval (.tmp 75) = (.bool false) := hp 31 75 (by kernel_rfl)
      have e82 : a.eval (.tmp 82) = (.bool false) := hp 38 82 (by kernel_rfl)
      refine hop_val (wanted_none rfl) ?_ (hK (.bool false) _ rfl (Below.refl _ _))
      unfold execOp; simp only [eval_const, e75, e82]; simp [go_sem]
  intro w47 B47
  refine EndAll.one rfl fun vv hv => ?_
  obtain rfl : vv = (.agg #[.bool s, .slice A n c, .bool t, .slice B m d]) := hv
  refine EndAll.one rfl fun vv hv => ?_
  obtain rfl : vv = (.agg #[.bool u, .slice C l e', .bool v, .slice D' f' h']) := hv
  refine EndAll.one rfl fun vv hv => ?_
  obtain ⟨s48, A48, n48, c48, t48, D48, m48, d48, rfl, p48, k48, l48⟩ : IsQ (p + q) 9 vv w47 := hv
  refine EndAll.one rfl fun vv hv => ?_
  obtain rfl : vv = (.agg #[.bool s38, .slice A38 n38 c38]) := hv
  refine EndAll.one rfl fun vv hv => ?_
  obtain rfl : vv = (.agg #[.bool s39, .slice A39 n39 c39]) := hv
  refine EndAll.one rfl fun vv hv => ?_
  obtain ⟨s49, A49, n49, c49, rfl, p49, k49⟩ : IsC (N1 * E1 + M1 * D1) 9 vv w47 := hv
  refine EndAll.one rfl fun vv hv => ?_
  obtain rfl : vv = (.agg #[.bool s40, .slice A40 n40 c40]) := hv
  refine EndAll.one rfl fun vv hv => ?_
  obtain rfl : vv = (.bool true) := hv
  refine EndAll.one rfl fun vv hv => ?_
  obtain rfl : vv = (.bool false) := hv
  refine EndAll.one rfl fun vv hv => ?_
  obtain rfl : vv = (.bool false) := hv
  refine EndAll.one rfl fun vv hv => ?_
  obtain rfl : vv = (.agg #[.bool s, .slice A n c, .bool t, .slice B m d]) := hv
  refine EndAll.one rfl fun vv hv => ?_
  obtain rfl : vv = (.agg #[.bool u, .slice C l e', .bool v, .slice D' f' h']) := hv
  refine EndAll.one rfl fun vv hv => ?_
  obtain ⟨s50, A50, n50, c50, t50, D50, m50, d50, rfl, p50, k50, l50⟩ : IsQ (p - q) 9 vv w47 := hv
  refine EndAll.one rfl fun vv hv => ?_
  obtain rfl : vv = (.agg #[.bool s38, .slice A38 n38 c38]) := hv
  refine EndAll.one rfl fun vv hv => ?_
  obtain rfl : vv = (.agg #[.bool s39, .slice A39 n39 c39]) := hv
  refine EndAll.one rfl fun vv hv => ?_
  obtain ⟨s51, A51, n51, c51, rfl, p51, k51⟩ : IsC (N1 * E1 - M1 * D1) 9 vv w47 := hv
  refine EndAll.one rfl fun vv hv => ?_
  obtain rfl : vv = (.agg #[.bool s40, .slice A40 n40 c40]) := hv
  refine EndAll.one rfl fun vv hv => ?_
  obtain rfl : vv = (.bool true) := hv
  refine EndAll.one rfl fun vv hv => ?_
  obtain rfl : vv = (.bool false) := hv
  refine EndAll.one rfl fun vv hv => ?_
  obtain rfl : vv = (.bool false) := hv
  refine EndAll.one rfl fun vv hv => ?_
  obtain rfl : vv = (.bool false) := hv
  refine EndAll.one rfl fun vv hv => ?_
  obtain rfl : vv = (.agg #[.bool s, .slice A n c, .bool t, .slice B m d]) := hv
  refine EndAll.one rfl fun vv hv => ?_
  obtain rfl : vv = (.agg #[.bool u, .slice C l e', .bool v, .slice D' f' h']) := hv
  refine EndAll.one rfl fun vv hv => ?_
  obtain ⟨s52, A52, n52, c52, t52, D52, m52, d52, rfl, p52, k52, l52⟩ : IsQ (p * q) 8 vv w47 := hv
  refine EndAll.one rfl fun vv hv => ?_
  obtain rfl : vv = (.agg #[.bool s25, .slice A25 n25 c25]) := hv
  refine EndAll.one rfl fun vv hv => ?_
  obtain rfl : vv = (.agg #[.bool s27, .slice A27 n27 c27]) := hv
  refine EndAll.one rfl fun vv hv => ?_
  obtain ⟨s53, A53, n53, c53, rfl, p53, k53⟩ : IsC (N1 * M1) 8 vv w47 := hv
  refine EndAll.one rfl fun vv hv => ?_
  obtain rfl : vv = (.agg #[.bool s40, .slice A40 n40 c40]) := hv
  refine EndAll.one rfl fun vv hv => ?_
  obtain rfl : vv = (.bool true) := hv
  refine EndAll.one rfl fun vv hv => ?_
  obtain rfl : vv = (.bool false) := hv
  refine EndAll.one rfl fun vv hv => ?_
  obtain rfl : vv = (.bool false) := hv
  refine EndAll.one rfl fun vv hv => ?_
  obtain rfl : vv = (.bool false) := hv
  refine EndAll.one rfl fun vv hv => ?_
  obtain rfl : vv = (.agg #[.bool s, .slice A n c, .bool t, .slice B m d]) := hv
  refine EndAll.one rfl fun vv hv => ?_
  obtain ⟨s54, A54, n54, c54, t54, D54, m54, d54, rfl, p54, k54, l54⟩ : IsQ (-p) 4 vv w47 := hv
  refine EndAll.one rfl fun vv hv => ?_
  obtain rfl : vv = (.agg #[.bool s25, .slice A25 n25 c25]) := hv
  refine EndAll.one rfl fun vv hv => ?_
  obtain ⟨s55, A55, n55, c55, rfl, p55, k55⟩ : IsC (-N1) 4 vv w47 := hv
  refine EndAll.one rfl fun vv hv => ?_
  obtain rfl : vv = (.agg #[.bool s26, .slice A26 n26 c26]) := hv
  refine EndAll.one rfl fun vv hv => ?_
  obtain rfl : vv = (.bool true) := hv
  refine EndAll.one rfl fun vv hv => ?_
  obtain rfl : vv = (.bool false) := hv
  refine EndAll.one rfl fun vv hv => ?_
  obtain rfl : vv = (.bool false) := hv
  refine EndAll.nil (l := []) rfl ?_
  simp only [Act.put, List.setIfInBounds_toArray, List.set_cons_zero, List.set_cons_succ]
  replace H_a := Lib.hid (H_a.out.below B47)
  replace H_b := Lib.hid (H_b.out.below B47)
  replace H_na := Lib.hid (H_na.out.below B47)
  replace H_da := Lib.hid (H_da.out.below B47)
  replace H_ma := Lib.hid (H_ma.out.below B47)
  replace H_ea := Lib.hid (H_ea.out.below B47)
  replace H_la := Lib.hid (H_la.out.below B47)
  replace H_ra := Lib.hid (H_ra.out.below B47)
  replace H_al := Lib.hid (H_al.out.below B47)
  replace ha := ha.below B47
  replace hb := hb.below B47
  replace fn := fn.below B47
  replace fd := fd.below B47
  replace fm := fm.below B47
  replace fe := fe.below B47
  replace fl := fl.below B47
  replace fr := fr.below B47
  replace fa := fa.below B47
  replace hW := hW.trans (B47.mono hW.size)
  clear B47
  obtain ⟨a1, a2, a3, a4, a5, a6, a7, a8, a9⟩ := H_a.out
  obtain ⟨b1, b2, b3, b4, b5, b6, b7, b8, b9⟩ := H_b.out
  obtain ⟨na1, na2, na3, na4, na5⟩ := H_na.out
  obtain ⟨da1, da2, da3, da4, da5⟩ := H_da.out
  obtain ⟨ma1, ma2, ma3, ma4, ma5⟩ := H_ma.out
  obtain ⟨ea1, ea2, ea3, ea4, ea5⟩ := H_ea.out
  obtain ⟨la1, la2, la3, la4, la5⟩ := H_la.out
  obtain ⟨ra1, ra2, ra3, ra4, ra5⟩ := H_ra.out
  obtain ⟨al1, al2, al3, al4, al5⟩ := H_al.out
  go_wp2_with fail
  clear a1 a2 a3 a4 a5 a6 a7 a8 a9 b1 b2 b3 b4 b5 b6 b7 b8 b9 na1 na2 na3 na4 na5 da1 da2 da3 da4 da5 ma1 ma2 ma3 ma4 ma5 ea1 ea2 ea3 ea4 ea5 la1 la2 la3 la4 la5 ra1 ra2 ra3 ra4 ra5 al1 al2 al3 al4 al5
  refine (quo_q ha hb 4 (by omega) (by omega) (by omega) (by omega) (by omega) (by omega) HB.out).mono ?_
  rintro e w56 ⟨s56, A56, n56, c56, t56, D56, m56, d56, rfl, pq, k56, l56, B56⟩
  replace H_a := Lib.hid (H_a.out.below B56)
  replace H_b := Lib.hid (H_b.out.below B56)
  replace H_na := Lib.hid (H_na.out.below B56)
  replace H_da := Lib.hid (H_da.out.below B56)
  replace H_ma := Lib.hid (H_ma.out.below B56)
  replace H_ea := Lib.hid (H_ea.out.below B56)
  replace H_la := Lib.hid (H_la.out.below B56)
  replace H_ra := Lib.hid (H_ra.out.below B56)
  replace H_al := Lib.hid (H_al.out.below B56)
  replace ha := ha.below B56
  replace hb := hb.below B56
  replace fn := fn.below B56
  replace fd := fd.below B56
  replace fm := fm.below B56
  replace fe := fe.below B56
  replace fl := fl.below B56
  replace fr := fr.below B56
  replace fa := fa.below B56
  replace hW := hW.trans (B56.mono hW.size)
  clear B56
  have O_a := H_a
  have O_b := H_b
  have O_na := H_na
  have O_da := H_da
  have O_ma := H_ma
  have O_ea := H_ea
  have O_la := H_la
  have O_ra := H_ra
  have O_al := H_al
  obtain ⟨w57, hw57⟩ : ∃ x, x = w56.alloc (.cells #[.bool s56, .slice A56 n56 c56, .bool t56, .slice D56 m56 d56] 28) := ⟨_, rfl⟩
  have z57 : Below w56.heap.size w56 w57 := by rw [hw57]; exact zba _ _
  have HW57 : Hid (w56.alloc (.cells #[.bool s56, .slice A56 n56 c56, .bool t56, .slice D56 m56 d56] 28) = w57) := Lib.hid hw57.symm
  have nn_a_qa : ¬ (w.heap.size = w56.heap.size) := by have := H_a.out.2.2.2.2.2.2.2.2; omega
  have nm_a_qa : ¬ (w56.heap.size = w.heap.size) := by omega
  have nn_b_qa : ¬ ((w.heap.size + 1) = w56.heap.size) := by have := H_b.out.2.2.2.2.2.2.2.2; omega
  have nm_b_qa : ¬ (w56.heap.size = (w.heap.size + 1)) := by omega
  have nn_na_qa : ¬ (g29 = w56.heap.size) := by have := H_na.out.2.2.2.2; omega
  have nm_na_qa : ¬ (w56.heap.size = g29) := by omega
  have nn_da_qa : ¬ (g30 = w56.heap.size) := by have := H_da.out.2.2.2.2; omega
  have nm_da_qa : ¬ (w56.heap.size = g30) := by omega
  have nn_ma_qa : ¬ (g31 = w56.heap.size) := by have := H_ma.out.2.2.2.2; omega
  have nm_ma_qa : ¬ (w56.heap.size = g31) := by omega
  have nn_ea_qa : ¬ (g32 = w56.heap.size) := by have := H_ea.out.2.2.2.2; omega
  have nm_ea_qa : ¬ (w56.heap.size = g32) := by omega
  have nn_la_qa : ¬ (g41 = w56.heap.size) := by have := H_la.out.2.2.2.2; omega
  have nm_la_qa : ¬ (w56.heap.size = g41) := by omega
  have nn_ra_qa : ¬ (g42 = w56.heap.size) := by have := H_ra.out.2.2.2.2; omega
  have nm_ra_qa : ¬ (w56.heap.size = g42) := by omega
  have nn_al_qa : ¬ (g43 = w56.heap.size) := by have := H_al.out.2.2.2.2; omega
  have nm_al_qa : ¬ (w56.heap.size = g43) := by omega
  have lw_qa : w.heap.size ≤ w56.heap.size := by have := hW.size; omega
  replace H_a := Lib.hid (H_a.out.below z57)
  replace H_b := Lib.hid (H_b.out.below z57)
  replace H_na := Lib.hid (H_na.out.below z57)
  replace H_da := Lib.hid (H_da.out.below z57)
  replace H_ma := Lib.hid (H_ma.out.below z57)
  replace H_ea := Lib.hid (H_ea.out.below z57)
  replace H_la := Lib.hid (H_la.out.below z57)
  replace H_ra := Lib.hid (H_ra.out.below z57)
  replace H_al := Lib.hid (H_al.out.below z57)
  replace ha := ha.below z57
  replace hb := hb.below z57
  replace fn := fn.below z57
  replace fd := fd.below z57
  replace fm := fm.below z57
  replace fe := fe.below z57
  replace fl := fl.below z57
  replace fr := fr.below z57
  replace fa := fa.below z57
  replace pq := pq.below z57
  replace hW := hW.trans (z57.mono hW.size)
  have H_qa : Hid (Rb w57 w56.heap.size s56 A56 n56 c56 t56 D56 m56 d56) := Lib.hid (by rw [hw57]; exact Rb.new _ _ _ _ _ _ _ _ _ _)
  clear z57 hw57
  obtain ⟨a1, a2, a3, a4, a5, a6, a7, a8, a9⟩ := O_a.out
  obtain ⟨b1, b2, b3, b4, b5, b6, b7, b8, b9⟩ := O_b.out
  obtain ⟨na1, na2, na3, na4, na5⟩ := O_na.out
  obtain ⟨da1, da2, da3, da4, da5⟩ := O_da.out
  obtain ⟨ma1, ma2, ma3, ma4, ma5⟩ := O_ma.out
  obtain ⟨ea1, ea2, ea3, ea4, ea5⟩ := O_ea.out
  obtain ⟨la1, la2, la3, la4, la5⟩ := O_la.out
  obtain ⟨ra1, ra2, ra3, ra4, ra5⟩ := O_ra.out
  obtain ⟨al1, al2, al3, al4, al5⟩ := O_al.out
  go_wp2_with fail
  rw [HW57.out]
  clear a1 a2 a3 a4 a5 a6 a7 a8 a9 b1 b2 b3 b4 b5 b6 b7 b8 b9 na1 na2 na3 na4 na5 da1 da2 da3 da4 da5 ma1 ma2 ma3 ma4 ma5 ea1 ea2 ea3 ea4 ea5 la1 la2 la3 la4 la5 ra1 ra2 ra3 ra4 ra5 al1 al2 al3 al4 al5 O_a O_b O_na O_da O_ma O_ea O_la O_ra O_al
  refine region7 [] 21 [IsK (.agg #[.bool s, .slice A n c, .bool t, .slice B m d]), IsK (.agg #[.bool u, .slice C l e', .bool v, .slice D' f' h']), IsK (.int .i64 r0), IsK (.agg #[.bool s38, .slice A38 n38 c38]), IsK (.agg #[.bool s39, .slice A39 n39 c39]), IsK (.int .i64 r0), IsK (.bool false), IsK (.bool false), IsK (.agg #[.bool s, .slice A n c, .bool t, .slice B m d]), IsK (.int .i64 r1), IsK (.agg #[.bool s25, .slice A25 n25 c25]), IsK (.int .i64 r1), IsK (.bool false), IsK (.bool false), IsK (.bool false), IsK (.bool false), IsK (.agg #[.bool s27, .slice A27 n27 c27]), IsK (.int .i64 s2), IsK (.bool false), IsK (.bool false), IsK (.bool false)] (fun _ _ d _ _ h => by cases d <;> exact h) (by kernel_rfl) (by kernel_rfl) (by kernel_rfl) ⟨stay_k _, stay_k _, stay_k _, stay_k _, stay_k _, stay_k _, stay_k _, stay_k _, stay_k _, stay_k _, stay_k _, stay_k _, stay_k _, stay_k _, stay_k _, stay_k _, stay_k _, stay_k _, stay_k _, stay_k _, stay_k _, trivial⟩ ?_ ?_
  · refine HopAll.cons rfl ?_ (HopAll.cons rfl ?_ (HopAll.cons rfl ?_ (HopAll.cons rfl ?_ (HopAll.cons rfl ?_ (HopAll.cons rfl ?_ (HopAll.cons rfl ?_ (HopAll.cons rfl ?_ (HopAll.cons rfl ?_ (HopAll.cons rfl ?_ (HopAll.cons rfl ?_ (HopAll.cons rfl ?_ (HopAll.cons rfl ?_ (HopAll.cons rfl ?_ (HopAll.cons rfl ?_ (HopAll.cons rfl ?_ (HopAll.cons rfl ?_ (HopAll.cons rfl ?_ (HopAll.cons rfl ?_ (HopAll.cons rfl ?_ (HopAll.cons rfl ?_ HopAll.nil))))))))))))))))))))
    · intro a w1 hB ho hp K hK
      have e2 : a.eval (.tmp 2) = (.pointer (some ⟨w.heap.size, 0, none⟩)) := ho 2 (by kernel_rfl)
      obtain ⟨u1, u2, u3, u4, u5, u6, u7, u8, u9⟩ := H_a.out.below hB
      exact hop_load (wanted_none rfl) rfl e2 (run_ldq u1 u2 u3 u4) (hK _ _ rfl (Below.refl _ _))
    · intro a w1 hB ho hp K hK
      have e3 : a.eval (.tmp 3) = (.pointer (some ⟨(w.heap.size + 1), 0, none⟩)) := ho 3 (by kernel_rfl)
      obtain ⟨u1, u2, u3, u4, u5, u6, u7, u8, u9⟩ := H_b.out.below hB
      exact hop_load (wanted_none rfl) rfl e3 (run_ldq u1 u2 u3 u4) (hK _ _ rfl (Below.refl _ _))
    · intro a w1 hB ho hp K hK
      have e90 : a.eval (.tmp 90) = (.agg #[.bool s, .slice A n c, .bool t, .slice B m d]) := hp 0 90 (by kernel_rfl)
      have e91 : a.eval (.tmp 91) = (.agg #[.bool u, .slice C l e', .bool v, .slice D' f' h']) := hp 1 91 (by kernel_rfl)
      refine hop_call (wanted_none rfl) rfl (args := #[(.agg #[.bool s, .slice A n c, .bool t, .slice B m d]), (.agg #[.bool u, .slice C l e', .bool v, .slice D' f' h'])]) (by simp only [List.map_toArray, List.map_cons, List.map_nil, eval_const, e90, e91]) (ent7 (by kernel_rfl) _ _) (cmp_q (ha.below hB) (hb.below hB) 4 (by omega) (by omega) (by omega) (by omega) (by omega) (by omega) HC.out) ?_
      rintro e w2 ⟨rfl, B⟩
      exact ⟨_, rfl, hK _ _ rfl B⟩
    · intro a w1 hB ho hp K hK
      have e9 : a.eval (.tmp 9) = (.pointer (some ⟨g41, 0, none⟩)) := ho 9 (by kernel_rfl)
      obtain ⟨u1, u2, u3, u4, u5⟩ := H_la.out.below hB
      exact hop_load (wanted_none rfl) rfl e9 (run_ldz u1 u2) (hK _ _ rfl (Below.refl _ _))
    · intro a w1 hB ho hp K hK
      have e10 : a.eval (.tmp 10) = (.pointer (some ⟨g42, 0, none⟩)) := ho 10 (by kernel_rfl)
      obtain ⟨u1, u2, u3, u4, u5⟩ := H_ra.out.below hB
      exact hop_load (wanted_none rfl) rfl e10 (run_ldz u1 u2) (hK _ _ rfl (Below.refl _ _))
    · intro a w1 hB ho hp K hK
      have e93 : a.eval (.tmp 93) = (.agg #[.bool s38, .slice A38 n38 c38]) := hp 3 93 (by kernel_rfl)
      have e94 : a.eval (.tmp 94) = (.agg #[.bool s39, .slice A39 n39 c39]) := hp 4 94 (by kernel_rfl)
      refine hop_call (wanted_none rfl) rfl (args := #[(.agg #[.bool s38, .slice A38 n38 c38]), (.agg #[.bool s39, .slice A39 n39 c39])]) (by simp only [List.map_toArray, List.map_cons, List.map_nil, eval_const, e93, e94]) (ent7 (by kernel_rfl) _ _) (zcmp_v (fl.below hB).zv (fr.below hB).zv (by omega) (by omega) HC2.out) ?_
      rintro e w2 ⟨rfl, B⟩
      exact ⟨_, rfl, hK _ _ rfl B⟩
    · intro a w1 hB ho hp K hK
      have e92 : a.eval (.tmp 92) = (.int .i64 r0) := hp 2 92 (by kernel_rfl)
      have e95 : a.eval (.tmp 95) = (.int .i64 r0) := hp 5 95 (by kernel_rfl)
      refine hop_val (wanted_none rfl) ?_ (hK (.bool false) _ rfl (Below.refl _ _))
      unfold execOp; simp only [eval_const, e92, e95]; simp [go_sem]
    · intro a w1 hB ho hp K hK
      have e96 : a.eval (.tmp 96) = (.bool false) := hp 6 96 (by kernel_rfl)
      refine hop_val (wanted_none rfl) ?_ (hK (.bool false) _ rfl (Below.refl _ _))
      unfold execOp; simp only [eval_const, e96]; simp [go_sem]
    · intro a w1 hB ho hp K hK
      have e2 : a.eval (.tmp 2) = (.pointer (some ⟨w.heap.size, 0, none⟩)) := ho 2 (by kernel_rfl)
      obtain ⟨u1, u2, u3, u4, u5, u6, u7, u8, u9⟩ := H_a.out.below hB
      exact hop_load (wanted_at rfl (j := 7) (d := 97) (b := false) (by kernel_rfl) (hp 7 97 (by kernel_rfl))) rfl e2 (run_ldq u1 u2 u3 u4) (hK _ _ rfl (Below.refl _ _))
    · intro a w1 hB ho hp K hK
      have e98 : a.eval (.tmp 98) = (.agg #[.bool s, .slice A n c, .bool t, .slice B m d]) := hp 8 98 (by kernel_rfl)
      refine hop_call (wanted_at rfl (j := 7) (d := 97) (b := false) (by kernel_rfl) (hp 7 97 (by kernel_rfl))) rfl (args := #[(.agg #[.bool s, .slice A n c, .bool t, .slice B m d])]) (by simp only [List.map_toArray, List.map_cons, List.map_nil, eval_const, e98]) (ent7 (by kernel_rfl) _ _) (sign_q (ha.below hB) 4 (by omega) (by omega) (by omega) HP.out) ?_
      rintro e w2 ⟨rfl, B⟩
      exact ⟨_, rfl, hK _ _ rfl B⟩
    · intro a w1 hB ho hp K hK
      have e5 : a.eval (.tmp 5) = (.pointer (some ⟨g29, 0, none⟩)) := ho 5 (by kernel_rfl)
      obtain ⟨u1, u2, u3, u4, u5⟩ := H_na.out.below hB
      exact hop_load (wanted_at rfl (j := 7) (d := 97) (b := false) (by kernel_rfl) (hp 7 97 (by kernel_rfl))) rfl e5 (run_ldz u1 u2) (hK _ _ rfl (Below.refl _ _))
    · intro a w1 hB ho hp K hK
      have e100 : a.eval (.tmp 100) = (.agg #[.bool s25, .slice A25 n25 c25]) := hp 10 100 (by kernel_rfl)
      refine hop_call (wanted_at rfl (j := 7) (d := 97) (b := false) (by kernel_rfl) (hp 7 97 (by kernel_rfl))) rfl (args := #[(.agg #[.bool s25, .slice A25 n25 c25])]) (by simp only [List.map_toArray, List.map_cons, List.map_nil, eval_const, e100]) (ent7 (by kernel_rfl) _ _) (zsign_v (fn.below hB) (by omega) HP2.out) ?_
      rintro e w2 ⟨rfl, B⟩
      exact ⟨_, rfl, hK _ _ rfl B⟩
    · intro a w1 hB ho hp K hK
      have e99 : a.eval (.tmp 99) = (.int .i64 r1) := hp 9 99 (by kernel_rfl)
      have e101 : a.eval (.tmp 101) = (.int .i64 r1) := hp 11 101 (by kernel_rfl)
      refine hop_val (wanted_at rfl (j := 7) (d := 97) (b := false) (by kernel_rfl) (hp 7 97 (by kernel_rfl))) ?_ (hK (.bool false) _ rfl (Below.refl _ _))
      unfold execOp; simp only [eval_const, e99, e101]; simp [go_sem]
    · intro a w1 hB ho hp K hK
      have e97 : a.eval (.tmp 97) = (.bool false) := hp 7 97 (by kernel_rfl)
      have e102 : a.eval (.tmp 102) = (.bool false) := hp 12 102 (by kernel_rfl)
      refine hop_val (wanted_none rfl) ?_ (hK (.bool false) _ rfl (Below.refl _ _))
      unfold execOp; simp only [eval_const, e97, e102]; simp [go_sem]
    · intro a w1 hB ho hp K hK
      have e103 : a.eval (.tmp 103) = (.bool false) := hp 13 103 (by kernel_rfl)
      refine hop_val (wanted_none rfl) ?_ (hK (.bool false) _ rfl (Below.refl _ _))
      unfold execOp; simp only [eval_const, e103]; simp [go_sem]
    · intro a w1 hB ho hp K hK
      have e13 : a.eval (.tmp 13) = (.bool false) := ho 13 (by kernel_rfl)
      refine hop_val (wanted_at rfl (j := 14) (d := 104) (b := false) (by kernel_rfl) (hp 14 104 (by kernel_rfl))) ?_ (hK (.bool false) _ rfl (Below.refl _ _))
      unfold execOp; simp only [eval_const, e13]; simp [go_sem]
    · intro a w1 hB ho hp K hK
      have e7 : a.eval (.tmp 7) = (.pointer (some ⟨g31, 0, none⟩)) := ho 7 (by kernel_rfl)
      obtain ⟨u1, u2, u3, u4, u5⟩ := H_ma.out.below hB
      exact hop_load (wanted_at rfl (j := 14) (d := 104) (b := false) (by kernel_rfl) (hp 14 104 (by kernel_rfl))) rfl e7 (run_ldz u1 u2) (hK _ _ rfl (Below.refl _ _))
    · intro a w1 hB ho hp K hK
      have e106 : a.eval (.tmp 106) = (.agg #[.bool s27, .slice A27 n27 c27]) := hp 16 106 (by kernel_rfl)
      refine hop_call (wanted_at rfl (j := 14) (d := 104) (b := false) (by kernel_rfl) (hp 14 104 (by kernel_rfl))) rfl (args := #[(.agg #[.bool s27, .slice A27 n27 c27])]) (by simp only [List.map_toArray, List.map_cons, List.map_nil, eval_const, e106]) (ent7 (by kernel_rfl) _ _) (zsign_v (fm.below hB) (by omega) HQ2.out) ?_
      rintro e w2 ⟨rfl, B⟩
      exact ⟨_, rfl, hK _ _ rfl B⟩
    · intro a w1 hB ho hp K hK
      have e107 : a.eval (.tmp 107) = (.int .i64 s2) := hp 17 107 (by kernel_rfl)
      refine hop_val (wanted_at rfl (j := 14) (d := 104) (b := false) (by kernel_rfl) (hp 14 104 (by kernel_rfl))) ?_ (hK (.bool false) _ rfl (Below.refl _ _))
      unfold execOp; simp only [eval_const, e107]; simp [go_sem, hs2]
    · intro a w1 hB ho hp K hK
      have e105 : a.eval (.tmp 105) = (.bool false) := hp 15 105 (by kernel_rfl)
      have e108 : a.eval (.tmp 108) = (.bool false) := hp 18 108 (by kernel_rfl)
      refine hop_val (wanted_at rfl (j := 14) (d := 104) (b := false) (by kernel_rfl) (hp 14 104 (by kernel_rfl))) ?_ (hK (.bool false) _ rfl (Below.refl _ _))
      unfold execOp; simp only [eval_const, e105, e108]; simp [go_sem]
    · intro a w1 hB ho hp K hK
      have e104 : a.eval (.tmp 104) = (.bool false) := hp 14 104 (by kernel_rfl)
      have e109 : a.eval (.tmp 109) = (.bool false) := hp 19 109 (by kernel_rfl)
      refine hop_val (wanted_none rfl) ?_ (hK (.bool false) _ rfl (Below.refl _ _))
      unfold execOp; simp only [eval_const, e104, e109]; simp [go_sem]
  intro w58 B58
  refine EndAll.one rfl fun vv hv => ?_
  obtain rfl : vv = (.agg #[.bool s, .slice A n c, .bool t, .slice B m d]) := hv
  refine EndAll.one rfl fun vv hv => ?_
  obtain rfl : vv = (.agg #[.bool u, .slice C l e', .bool v, .slice D' f' h']) := hv
  refine EndAll.one rfl fun vv hv => ?_
  obtain rfl : vv = (.int .i64 r0) := hv
  refine EndAll.one rfl fun vv hv => ?_
  obtain rfl : vv = (.agg #[.bool s38, .slice A38 n38 c38]) := hv
  refine EndAll.one rfl fun vv hv => ?_
  obtain rfl : vv = (.agg #[.bool s39, .slice A39 n39 c39]) := hv
  refine EndAll.one rfl fun vv hv => ?_
  obtain rfl : vv = (.int .i64 r0) := hv
  refine EndAll.one rfl fun vv hv => ?_
  obtain rfl : vv = (.bool false) := hv
  refine EndAll.one rfl fun vv hv => ?_
  obtain rfl : vv = (.bool false) := hv
  refine EndAll.one rfl fun vv hv => ?_
  obtain rfl : vv = (.agg #[.bool s, .slice A n c, .bool t, .slice B m d]) := hv
  refine EndAll.one rfl fun vv hv => ?_
  obtain rfl : vv = (.int .i64 r1) := hv
  refine EndAll.one rfl fun vv hv => ?_
  obtain rfl : vv = (.agg #[.bool s25, .slice A25 n25 c25]) := hv
  refine EndAll.one rfl fun vv hv => ?_
  obtain rfl : vv = (.int .i64 r1) := hv
  refine EndAll.one rfl fun vv hv => ?_
  obtain rfl : vv = (.bool false) := hv
  refine EndAll.one rfl fun vv hv => ?_
  obtain rfl : vv = (.bool false) := hv
  refine EndAll.one rfl fun vv hv => ?_
  obtain rfl : vv = (.bool false) := hv
  refine EndAll.one rfl fun vv hv => ?_
  obtain rfl : vv = (.bool false) := hv
  refine EndAll.one rfl fun vv hv => ?_
  obtain rfl : vv = (.agg #[.bool s27, .slice A27 n27 c27]) := hv
  refine EndAll.one rfl fun vv hv => ?_
  obtain rfl : vv = (.int .i64 s2) := hv
  refine EndAll.one rfl fun vv hv => ?_
  obtain rfl : vv = (.bool false) := hv
  refine EndAll.one rfl fun vv hv => ?_
  obtain rfl : vv = (.bool false) := hv
  refine EndAll.one rfl fun vv hv => ?_
  obtain rfl : vv = (.bool false) := hv
  refine EndAll.nil (l := []) rfl ?_
  simp only [Act.put, List.setIfInBounds_toArray, List.set_cons_zero, List.set_cons_succ]
  replace H_a := Lib.hid (H_a.out.below B58)
  replace H_b := Lib.hid (H_b.out.below B58)
  replace H_na := Lib.hid (H_na.out.below B58)
  replace H_da := Lib.hid (H_da.out.below B58)
  replace H_ma := Lib.hid (H_ma.out.below B58)
  replace H_ea := Lib.hid (H_ea.out.below B58)
  replace H_la := Lib.hid (H_la.out.below B58)
  replace H_ra := Lib.hid (H_ra.out.below B58)
  replace H_al := Lib.hid (H_al.out.below B58)
  replace H_qa := Lib.hid (H_qa.out.below B58)
  replace ha := ha.below B58
  replace hb := hb.below B58
  replace fn := fn.below B58
  replace fd := fd.below B58
  replace fm := fm.below B58
  replace fe := fe.below B58
  replace fl := fl.below B58
  replace fr := fr.below B58
  replace fa := fa.below B58
  replace pq := pq.below B58
  replace hW := hW.trans (B58.mono hW.size)
  clear B58
  obtain ⟨a1, a2, a3, a4, a5, a6, a7, a8, a9⟩ := H_a.out
  obtain ⟨b1, b2, b3, b4, b5, b6, b7, b8, b9⟩ := H_b.out
  obtain ⟨na1, na2, na3, na4, na5⟩ := H_na.out
  obtain ⟨da1, da2, da3, da4, da5⟩ := H_da.out
  obtain ⟨ma1, ma2, ma3, ma4, ma5⟩ := H_ma.out
  obtain ⟨ea1, ea2, ea3, ea4, ea5⟩ := H_ea.out
  obtain ⟨la1, la2, la3, la4, la5⟩ := H_la.out
  obtain ⟨ra1, ra2, ra3, ra4, ra5⟩ := H_ra.out
  obtain ⟨al1, al2, al3, al4, al5⟩ := H_al.out
  obtain ⟨qa1, qa2, qa3, qa4, qa5, qa6, qa7, qa8, qa9⟩ := H_qa.out
  go_wp2_with fail
  clear a1 a2 a3 a4 a5 a6 a7 a8 a9 b1 b2 b3 b4 b5 b6 b7 b8 b9 na1 na2 na3 na4 na5 da1 da2 da3 da4 da5 ma1 ma2 ma3 ma4 ma5 ea1 ea2 ea3 ea4 ea5 la1 la2 la3 la4 la5 ra1 ra2 ra3 ra4 ra5 al1 al2 al3 al4 al5 qa1 qa2 qa3 qa4 qa5 qa6 qa7 qa8 qa9
  refine region7 [] 18 [IsK (.bool false), IsK (.bool false), IsK undef, IsK undef, IsK undef, IsK undef, IsK (.bool false), IsK (.bool false), IsK (.bool false), IsK (.bool true), IsK (.bool true), IsK (.agg #[.bool s56, .slice A56 n56 c56, .bool t56, .slice D56 m56 d56]), IsC 0 1, IsC 1 1, IsK (.bool true), IsK (.bool true), IsK (.bool true), IsK (.bool true)] (fun _ _ d _ _ h => by cases d <;> exact h) (by kernel_rfl) (by kernel_rfl) (by kernel_rfl) ⟨stay_k _, stay_k _, stay_k _, stay_k _, stay_k _, stay_k _, stay_k _, stay_k _, stay_k _, stay_k _, stay_k _, stay_k _, stay_c _ _, stay_c _ _, stay_k _, stay_k _, stay_k _, stay_k _, trivial⟩ ?_ ?_
  · refine HopAll.cons rfl ?_ (HopAll.cons rfl ?_ (HopAll.cons rfl ?_ (HopAll.cons rfl ?_ (HopAll.cons rfl ?_ (HopAll.cons rfl ?_ (HopAll.cons rfl ?_ (HopAll.cons rfl ?_ (HopAll.cons rfl ?_ (HopAll.cons rfl ?_ (HopAll.cons rfl ?_ (HopAll.cons rfl ?_ (HopAll.cons rfl ?_ (HopAll.cons rfl ?_ (HopAll.cons rfl ?_ (HopAll.cons rfl ?_ (HopAll.cons rfl ?_ (HopAll.cons rfl ?_ HopAll.nil)))))))))))))))))
    · intro a w1 hB ho hp K hK
      have e13 : a.eval (.tmp 13) = (.bool false) := ho 13 (by kernel_rfl)
      refine hop_val (wanted_none rfl) ?_ (hK (.bool false) _ rfl (Below.refl _ _))
      unfold execOp; simp only [eval_const, e13]; simp [go_sem]
    · intro a w1 hB ho hp K hK
      have e111 : a.eval (.tmp 111) = (.bool false) := hp 0 111 (by kernel_rfl)
      refine hop_val (wanted_none rfl) ?_ (hK (.bool false) _ rfl (Below.refl _ _))
      unfold execOp; simp only [eval_const, e111]; simp [go_sem]
    · intro a w1 hB ho hp K hK
      exact hop_not (unwanted_at rfl (j := 1) (d := 112) (b := true) (by kernel_rfl) (hp 1 112 (by kernel_rfl)) rfl) (hK _ _ rfl (Below.refl _ _))
    · intro a w1 hB ho hp K hK
      exact hop_not (unwanted_at rfl (j := 1) (d := 112) (b := true) (by kernel_rfl) (hp 1 112 (by kernel_rfl)) rfl) (hK _ _ rfl (Below.refl _ _))
    · intro a w1 hB ho hp K hK
      exact hop_not (unwanted_at rfl (j := 1) (d := 112) (b := true) (by kernel_rfl) (hp 1 112 (by kernel_rfl)) rfl) (hK _ _ rfl (Below.refl _ _))
    · intro a w1 hB ho hp K hK
      exact hop_not (unwanted_at rfl (j := 1) (d := 112) (b := true) (by kernel_rfl) (hp 1 112 (by kernel_rfl)) rfl) (hK _ _ rfl (Below.refl _ _))
    · intro a w1 hB ho hp K hK
      have e112 : a.eval (.tmp 112) = (.bool false) := hp 1 112 (by kernel_rfl)
      have e116 : a.eval (.tmp 116) = undef := hp 5 116 (by kernel_rfl)
      refine hop_val (wanted_none rfl) ?_ (hK (.bool false) _ rfl (Below.refl _ _))
      unfold execOp; simp only [eval_const, e112, e116]; simp [go_sem]
    · intro a w1 hB ho hp K hK
      have e117 : a.eval (.tmp 117) = (.bool false) := hp 6 117 (by kernel_rfl)
      refine hop_val (wanted_none rfl) ?_ (hK (.bool false) _ rfl (Below.refl _ _))
      unfold execOp; simp only [eval_const, e117]; simp [go_sem]
    · intro a w1 hB ho hp K hK
      have e13 : a.eval (.tmp 13) = (.bool false) := ho 13 (by kernel_rfl)
      refine hop_val (wanted_at rfl (j := 7) (d := 118) (b := false) (by kernel_rfl) (hp 7 118 (by kernel_rfl))) ?_ (hK (.bool false) _ rfl (Below.refl _ _))
      unfold execOp; simp only [eval_const, e13]; simp [go_sem]
    · intro a w1 hB ho hp K hK
      have e119 : a.eval (.tmp 119) = (.bool false) := hp 8 119 (by kernel_rfl)
      refine hop_val (wanted_at rfl (j := 7) (d := 118) (b := false) (by kernel_rfl) (hp 7 118 (by kernel_rfl))) ?_ (hK (.bool true) _ rfl (Below.refl _ _))
      unfold execOp; simp only [eval_const, e119]; simp [go_sem]
    · intro a w1 hB ho hp K hK
      have e120 : a.eval (.tmp 120) = (.bool true) := hp 9 120 (by kernel_rfl)
      refine hop_val (wanted_at rfl (j := 7) (d := 118) (b := false) (by kernel_rfl) (hp 7 118 (by kernel_rfl))) ?_ (hK (.bool true) _ rfl (Below.refl _ _))
      unfold execOp; simp only [eval_const, e120]; simp [go_sem]
    · intro a w1 hB ho hp K hK
      have e12 : a.eval (.tmp 12) = (.pointer (some ⟨w56.heap.size, 0, none⟩)) := ho 12 (by kernel_rfl)
      obtain ⟨u1, u2, u3, u4, u5, u6, u7, u8, u9⟩ := H_qa.out.below hB
      exact hop_load (wanted_at rfl (j := 10) (d := 121) (b := true) (by kernel_rfl) (hp 10 121 (by kernel_rfl))) rfl e12 (run_ldq u1 u2 u3 u4) (hK _ _ rfl (Below.refl _ _))
    · intro a w1 hB ho hp K hK
      refine hop_call (wanted_at rfl (j := 10) (d := 121) (b := true) (by kernel_rfl) (hp 10 121 (by kernel_rfl))) rfl (args := #[.int .i64 (0)]) (by simp only [List.map_toArray, List.map_cons, List.map_nil, eval_const]) (ent7 (by kernel_rfl) _ _) (zof_v 0 (by omega) (by omega) _) ?_
      rintro e w2 ⟨s, A, n, c, rfl, p, k, B⟩
      exact ⟨_, rfl, hK _ _ ⟨s, A, n, c, rfl, p, by omega⟩ B⟩
    · intro a w1 hB ho hp K hK
      refine hop_call (wanted_at rfl (j := 10) (d := 121) (b := true) (by kernel_rfl) (hp 10 121 (by kernel_rfl))) rfl (args := #[.int .i64 (1)]) (by simp only [List.map_toArray, List.map_cons, List.map_nil, eval_const]) (ent7 (by kernel_rfl) _ _) (zof_v 1 (by omega) (by omega) _) ?_
      rintro e w2 ⟨s, A, n, c, rfl, p, k, B⟩
      exact ⟨_, rfl, hK _ _ ⟨s, A, n, c, rfl, p, by omega⟩ B⟩
    · intro a w1 hB ho hp K hK
      have e122 : a.eval (.tmp 122) = (.agg #[.bool s56, .slice A56 n56 c56, .bool t56, .slice D56 m56 d56]) := hp 11 122 (by kernel_rfl)
      obtain ⟨s123, A123, n123, c123, e123, p123, k123⟩ : IsC 0 1 (a.eval (.tmp 123)) w1 := hp 12 123 (by kernel_rfl)
      obtain ⟨s124, A124, n124, c124, e124, p124, k124⟩ : IsC 1 1 (a.eval (.tmp 124)) w1 := hp 13 124 (by kernel_rfl)
      refine hop_call (wanted_at rfl (j := 10) (d := 121) (b := true) (by kernel_rfl) (hp 10 121 (by kernel_rfl))) rfl (args := #[(.agg #[.bool s56, .slice A56 n56 c56, .bool t56, .slice D56 m56 d56]), (.agg #[.bool s123, .slice A123 n123 c123]), (.agg #[.bool s124, .slice A124 n124 c124])]) (by simp only [List.map_toArray, List.map_cons, List.map_nil, eval_const, e122, e123, e124]) (ent7 (by kernel_rfl) _ _) (isq_yes (pq.below hB) p123.zv p124.zv (by omega) (by omega) (by omega) (by omega) HX.out) ?_
      rintro e w2 ⟨rfl, B⟩
      exact ⟨_, rfl, hK _ _ rfl B⟩
    · intro a w1 hB ho hp K hK
      have e121 : a.eval (.tmp 121) = (.bool true) := hp 10 121 (by kernel_rfl)
      have e125 : a.eval (.tmp 125) = (.bool true) := hp 14 125 (by kernel_rfl)
      refine hop_val (wanted_at rfl (j := 7) (d := 118) (b := false) (by kernel_rfl) (hp 7 118 (by kernel_rfl))) ?_ (hK (.bool true) _ rfl (Below.refl _ _))
      unfold execOp; simp only [eval_const, e121, e125]; simp [go_sem]
    · intro a w1 hB ho hp K hK
      have e118 : a.eval (.tmp 118) = (.bool false) := hp 7 118 (by kernel_rfl)
      have e126 : a.eval (.tmp 126) = (.bool true) := hp 15 126 (by kernel_rfl)
      refine hop_val (wanted_none rfl) ?_ (hK (.bool true) _ rfl (Below.refl _ _))
      unfold execOp; simp only [eval_const, e118, e126]; simp [go_sem]
    · intro a w1 hB ho hp K hK
      have e127 : a.eval (.tmp 127) = (.bool true) := hp 16 127 (by kernel_rfl)
      refine hop_val (wanted_none rfl) ?_ (hK (.bool true) _ rfl (Below.refl _ _))
      unfold execOp; simp only [eval_const, e127]; simp [go_sem]
  intro w59 B59
  refine EndAll.one rfl fun vv hv => ?_
  obtain rfl : vv = (.bool false) := hv
  refine EndAll.one rfl fun vv hv => ?_
  obtain rfl : vv = (.bool false) := hv
  refine EndAll.one rfl fun vv hv => ?_
  obtain rfl : vv = undef := hv
  refine EndAll.one rfl fun vv hv => ?_
  obtain rfl : vv = undef := hv
  refine EndAll.one rfl fun vv hv => ?_
  obtain rfl : vv = undef := hv
  refine EndAll.one rfl fun vv hv => ?_
  obtain rfl : vv = undef := hv
  refine EndAll.one rfl fun vv hv => ?_
  obtain rfl : vv = (.bool false) := hv
  refine EndAll.one rfl fun vv hv => ?_
  obtain rfl : vv = (.bool false) := hv
  refine EndAll.one rfl fun vv hv => ?_
  obtain rfl : vv = (.bool false) := hv
  refine EndAll.one rfl fun vv hv => ?_
  obtain rfl : vv = (.bool true) := hv
  refine EndAll.one rfl fun vv hv => ?_
  obtain rfl : vv = (.bool true) := hv
  refine EndAll.one rfl fun vv hv => ?_
  obtain rfl : vv = (.agg #[.bool s56, .slice A56 n56 c56, .bool t56, .slice D56 m56 d56]) := hv
  refine EndAll.one rfl fun vv hv => ?_
  obtain ⟨s60, A60, n60, c60, rfl, p60, k60⟩ : IsC 0 1 vv w59 := hv
  refine EndAll.one rfl fun vv hv => ?_
  obtain ⟨s61, A61, n61, c61, rfl, p61, k61⟩ : IsC 1 1 vv w59 := hv
  refine EndAll.one rfl fun vv hv => ?_
  obtain rfl : vv = (.bool true) := hv
  refine EndAll.one rfl fun vv hv => ?_
  obtain rfl : vv = (.bool true) := hv
  refine EndAll.one rfl fun vv hv => ?_
  obtain rfl : vv = (.bool true) := hv
  refine EndAll.one rfl fun vv hv => ?_
  obtain rfl : vv = (.bool true) := hv
  refine EndAll.nil (l := []) rfl ?_
  simp only [Act.put, List.setIfInBounds_toArray, List.set_cons_zero, List.set_cons_succ]
  replace H_a := Lib.hid (H_a.out.below B59)
  replace H_b := Lib.hid (H_b.out.below B59)
  replace H_na := Lib.hid (H_na.out.below B59)
  replace H_da := Lib.hid (H_da.out.below B59)
  replace H_ma := Lib.hid (H_ma.out.below B59)
  replace H_ea := Lib.hid (H_ea.out.below B59)
  replace H_la := Lib.hid (H_la.out.below B59)
  replace H_ra := Lib.hid (H_ra.out.below B59)
  replace H_al := Lib.hid (H_al.out.below B59)
  replace H_qa := Lib.hid (H_qa.out.below B59)
  replace ha := ha.below B59
  replace hb := hb.below B59
  replace fn := fn.below B59
  replace fd := fd.below B59
  replace fm := fm.below B59
  replace fe := fe.below B59
  replace fl := fl.below B59
  replace fr := fr.below B59
  replace fa := fa.below B59
  replace pq := pq.below B59
  replace hW := hW.trans (B59.mono hW.size)
  clear B59
  go_wp2_with fail
  go_ret
  exact ⟨rfl, hW⟩
set_option maxRecDepth 100000 in
set_option maxHeartbeats 16000000 in
theorem ratadds_calls (A B C D' : Option Addr) (n c m d l e' f' h' : Nat) (s t u v : Bool) (N D M E : Int) (w : World) (hn : Zv w s A n c N) (hd : Zv w t B m d D) (hm : Zv w u C l e' M) (he : Zv w v D' f' h' E) (n9 : n ≤ 9223372036854775807) (m9 : m ≤ 9223372036854775807) (l9 : l ≤ 9223372036854775807) (f9 : f' ≤ 9223372036854775807) :
    Calls Try.prog 4 #[.agg #[.bool s, .slice A n c, .bool t, .slice B m d], .agg #[.bool u, .slice C l e', .bool v, .slice D' f' h']] w (TruePost w) := by
  by_cases h1 : n ≤ 4 ∧ m ≤ 4
  · by_cases h2 : l ≤ 4 ∧ f' ≤ 4
    · by_cases h0 : Rat.divInt M E = 0
      · exact adds_no hn hd hm he h1.1 h1.2 h2.1 h2.2 h0
      · exact adds_yes hn hd hm he h1.1 h1.2 h2.1 h2.2 h0
    · exact adds_few2 hn hd hm he n9 m9 l9 f9 h1 h2
  · exact adds_few1 hn hd hm he n9 m9 l9 f9 h1
end Go.Proofs.Ytfpncmhaoadfdaa
