/-
  The walk of RatPowers.
-/
import Derived.Test.YtfpncmhaoadfdaaRatW
/-! The walk of RatPowers. -/
namespace Go.Proofs.Ytfpncmhaoadfdaa
open Go.RowKit
set_option linter.unusedVariables false
set_option linter.unusedSimpArgs false

theorem tmod10 (e : Int) : -9 ≤ e.tmod 10 ∧ e.tmod 10 ≤ 9 := by
  have h := Int.natAbs_tmod e 10
  have : (10 : Int).natAbs = 10 := rfl
  rw [this] at h
  omega
theorem rat_one : ((1 : Int) : Rat) = 1 := rfl
theorem two_pow9 {k : Nat} (h : k ≤ 9) : 2 ^ k ≤ 512 := Nat.pow_le_pow_right (by omega) h
theorem inv_zero_pow {v : Nat} (h : 0 < v) : (0 : Rat)⁻¹ ^ v = 0 := by
  rw [Rat.inv_zero]
  obtain ⟨j, rfl⟩ : ∃ j, v = j + 1 := ⟨v - 1, by omega⟩
  rw [Rat.pow_succ, Rat.mul_zero]
theorem one_over (p : Rat) : 1 / p = p⁻¹ := by rw [Rat.div_def, Rat.one_mul]
set_option maxRecDepth 100000 in
set_option maxHeartbeats 16000000 in
theorem ratpowers_few {A B : Option Addr} {n c m d : Nat} {s t : Bool} {p : Rat} {e0 : Int} {w : World} (ha : Qv w s A n c t B m d p) (n9 : n ≤ 9223372036854775807) (m9 : m ≤ 9223372036854775807) (h1 : ¬ (n ≤ 2 ∧ m ≤ 2)) :
    Calls Try.prog 6 #[.agg #[.bool s, .slice A n c, .bool t, .slice B m d], .int .i8 e0] w (TruePost w) := by
  have hW := Below.refl w.heap.size w
  obtain ⟨wp0, hwp0⟩ : ∃ x, x = w.alloc (.cells #[.bool s, .slice A n c, .bool t, .slice B m d] 28) := ⟨_, rfl⟩
  have zp0 : Below w.heap.size w wp0 := by rw [hwp0]; exact zba _ _
  have sp0 : wp0.heap.size = w.heap.size + 1 := by rw [hwp0, World.size_alloc]
  have Ia : Rb wp0 w.heap.size s A n c t B m d := by rw [hwp0]; exact Rb.new _ _ _ _ _ _ _ _ _ _
  replace ha := ha.below zp0
  replace hW := hW.trans (zp0.mono hW.size)
  have H_a := Lib.hid Ia
  clear Ia zp0
  have HW : Hid ((w.alloc (.cells #[.bool s, .slice A n c, .bool t, .slice B m d] 28)) = wp0) := Lib.hid (by rw [hwp0])
  have lw_a : w.heap.size ≤ w.heap.size := by omega
  clear hwp0 sp0
  have HF1 : Hid (decide (n ≤ 2 ∧ m ≤ 2) = false) := Lib.hid (decide_eq_false h1)
  clear h1
  go_enter Try.func6, Try.ntmps6
  obtain ⟨a1, a2, a3, a4, a5, a6, a7, a8, a9⟩ := H_a.out
  go_wp2_with fail
  rw [HW.out]
  clear a1 a2 a3 a4 a5 a6 a7 a8 a9
  refine (qawake_v _).mono ?_
  rintro e w21 ⟨rfl, B21⟩
  replace H_a := Lib.hid (H_a.out.below B21)
  replace ha := ha.below B21
  replace hW := hW.trans (B21.mono hW.size)
  clear B21
  obtain ⟨a1, a2, a3, a4, a5, a6, a7, a8, a9⟩ := H_a.out
  go_wp2_with fail
  clear a1 a2 a3 a4 a5 a6 a7 a8 a9
  refine (few7_v (k := 2) (b := false) (by omega) (by omega) (by omega) HF1.out).mono ?_
  rintro e w22 ⟨rfl, B22⟩
  replace H_a := Lib.hid (H_a.out.below B22)
  replace ha := ha.below B22
  replace hW := hW.trans (B22.mono hW.size)
  clear B22
  obtain ⟨a1, a2, a3, a4, a5, a6, a7, a8, a9⟩ := H_a.out
  go_wp2_with fail
  clear a1 a2 a3 a4 a5 a6 a7 a8 a9
  refine (qawake_v _).mono ?_
  rintro e w23 ⟨rfl, B23⟩
  replace H_a := Lib.hid (H_a.out.below B23)
  replace ha := ha.below B23
  replace hW := hW.trans (B23.mono hW.size)
  clear B23
  go_wp2_with fail
  go_ret
  exact ⟨rfl, hW⟩
set_option maxRecDepth 100000 in
set_option maxHeartbeats 16000000 in
theorem powers_none {A B : Option Addr} {n c m d : Nat} {s t : Bool} {p : Rat} {e0 : Int} {w : World} (ha : Qv w s A n c t B m d p) (h1 : n ≤ 2) (h2 : m ≤ 2) {v : Nat} (hv9 : v ≤ 9) (hv0 : 0 < v) (hN : e0.tmod 10 = -(v : Int)) (hp : p = 0) :
    Calls Try.prog 6 #[.agg #[.bool s, .slice A n c, .bool t, .slice B m d], .int .i8 e0] w (TruePost w) := by
  have hW := Below.refl w.heap.size w
  obtain ⟨wp0, hwp0⟩ : ∃ x, x = w.alloc (.cells #[.bool s, .slice A n c, .bool t, .slice B m d] 28) := ⟨_, rfl⟩
  have zp0 : Below w.heap.size w wp0 := by rw [hwp0]; exact zba _ _
  have sp0 : wp0.heap.size = w.heap.size + 1 := by rw [hwp0, World.size_alloc]
  have Ia : Rb wp0 w.heap.size s A n c t B m d := by rw [hwp0]; exact Rb.new _ _ _ _ _ _ _ _ _ _
  replace ha := ha.below zp0
  replace hW := hW.trans (zp0.mono hW.size)
  have H_a := Lib.hid Ia
  clear Ia zp0
  have HW : Hid ((w.alloc (.cells #[.bool s, .slice A n c, .bool t, .slice B m d] 28)) = wp0) := Lib.hid (by rw [hwp0])
  have lw_a : w.heap.size ≤ w.heap.size := by omega
  clear hwp0 sp0
  have HF1 : Hid (decide (n ≤ 2 ∧ m ≤ 2) = true) := Lib.hid (decide_eq_true ⟨h1, h2⟩)
  subst hp
  have HB : Hid (decide ((0 : Rat) ≠ 0) = false) := Lib.hid (by decide +kernel)
  have HS : Hid (rsg ((0 : Rat)⁻¹ ^ v) = 0) := Lib.hid (by rw [inv_zero_pow hv0]; rfl)
  have hneg : -(v : Int) < 0 := by omega
  go_enter Try.func6, Try.ntmps6
  obtain ⟨a1, a2, a3, a4, a5, a6, a7, a8, a9⟩ := H_a.out
  go_wp2_with fail
  rw [HW.out]
  clear a1 a2 a3 a4 a5 a6 a7 a8 a9
  refine (qawake_v _).mono ?_
  rintro e w21 ⟨rfl, B21⟩
  replace H_a := Lib.hid (H_a.out.below B21)
  replace ha := ha.below B21
  replace hW := hW.trans (B21.mono hW.size)
  clear B21
  obtain ⟨a1, a2, a3, a4, a5, a6, a7, a8, a9⟩ := H_a.out
  go_wp2_with fail
  clear a1 a2 a3 a4 a5 a6 a7 a8 a9
  refine (few7_v (k := 2) (b := true) (by omega) (by omega) (by omega) HF1.out).mono ?_
  rintro e w22 ⟨rfl, B22⟩
  replace H_a := Lib.hid (H_a.out.below B22)
  replace ha := ha.below B22
  replace hW := hW.trans (B22.mono hW.size)
  clear B22
  obtain ⟨a1, a2, a3, a4, a5, a6, a7, a8, a9⟩ := H_a.out
  go_wp2_with fail
  clear a1 a2 a3 a4 a5 a6 a7 a8 a9
  refine (pown_q ha 2 v 19 (by omega) (by omega) (by omega) (by omega) (by omega) (by omega) (by omega) (by omega) hv0 HB.out).mono ?_
  rintro e w23 ⟨s23, A23, n23, c23, t23, D23, m23, d23, rfl, pp, k23, l23, B23⟩
  replace H_a := Lib.hid (H_a.out.below B23)
  replace ha := ha.below B23
  replace hW := hW.trans (B23.mono hW.size)
  clear B23
  have O_a := H_a
  obtain ⟨w24, hw24⟩ : ∃ x, x = w23.alloc (.cells #[.bool s23, .slice A23 n23 c23, .bool t23, .slice D23 m23 d23] 28) := ⟨_, rfl⟩
  have z24 : Below w23.heap.size w23 w24 := by rw [hw24]; exact zba _ _
  have HW24 : Hid (w23.alloc (.cells #[.bool s23, .slice A23 n23 c23, .bool t23, .slice D23 m23 d23] 28) = w24) := Lib.hid hw24.symm
  have nn_a_pa : ¬ (w.heap.size = w23.heap.size) := by have := H_a.out.2.2.2.2.2.2.2.2; omega
  have nm_a_pa : ¬ (w23.heap.size = w.heap.size) := by omega
  have lw_pa : w.heap.size ≤ w23.heap.size := by have := hW.size; omega
  replace H_a := Lib.hid (H_a.out.below z24)
  replace ha := ha.below z24
  replace pp := pp.below z24
  replace hW := hW.trans (z24.mono hW.size)
  have H_pa : Hid (Rb w24 w23.heap.size s23 A23 n23 c23 t23 D23 m23 d23) := Lib.hid (by rw [hw24]; exact Rb.new _ _ _ _ _ _ _ _ _ _)
  clear z24 hw24
  clear hN
  obtain ⟨a1, a2, a3, a4, a5, a6, a7, a8, a9⟩ := O_a.out
  go_wp2_with fail
  rw [HW24.out]
  clear a1 a2 a3 a4 a5 a6 a7 a8 a9 O_a
  refine (zof_v 1 (by omega) (by omega) _).mono ?_
  rintro e w25 ⟨s25, A25, n25, c25, rfl, z1, k25, B25⟩
  replace H_a := Lib.hid (H_a.out.below B25)
  replace H_pa := Lib.hid (H_pa.out.below B25)
  replace ha := ha.below B25
  replace pp := pp.below B25
  replace hW := hW.trans (B25.mono hW.size)
  clear B25
  obtain ⟨a1, a2, a3, a4, a5, a6, a7, a8, a9⟩ := H_a.out
  obtain ⟨pa1, pa2, pa3, pa4, pa5, pa6, pa7, pa8, pa9⟩ := H_pa.out
  go_wp2_with fail
  clear a1 a2 a3 a4 a5 a6 a7 a8 a9 pa1 pa2 pa3 pa4 pa5 pa6 pa7 pa8 pa9
  refine (qof_v (k := 1) z1.zv (by omega) (by omega) (by omega)).mono ?_
  rintro e w26 ⟨s26, A26, n26, c26, t26, D26, m26, d26, rfl, po, k26, l26, B26⟩
  replace H_a := Lib.hid (H_a.out.below B26)
  replace H_pa := Lib.hid (H_pa.out.below B26)
  replace ha := ha.below B26
  replace pp := pp.below B26
  replace z1 := z1.below B26
  replace hW := hW.trans (B26.mono hW.size)
  clear B26
  rw [rat_one] at po
  clear z1
  have O_a := H_a
  have O_pa := H_pa
  obtain ⟨w27, hw27⟩ : ∃ x, x = w26.alloc (.cells #[.bool s26, .slice A26 n26 c26, .bool t26, .slice D26 m26 d26] 28) := ⟨_, rfl⟩
  have z27 : Below w26.heap.size w26 w27 := by rw [hw27]; exact zba _ _
  have HW27 : Hid (w26.alloc (.cells #[.bool s26, .slice A26 n26 c26, .bool t26, .slice D26 m26 d26] 28) = w27) := Lib.hid hw27.symm
  have nn_a_oa : ¬ (w.heap.size = w26.heap.size) := by have := H_a.out.2.2.2.2.2.2.2.2; omega
  have nm_a_oa : ¬ (w26.heap.size = w.heap.size) := by omega
  have nn_pa_oa : ¬ (w23.heap.size = w26.heap.size) := by have := H_pa.out.2.2.2.2.2.2.2.2; omega
  have nm_pa_oa : ¬ (w26.heap.size = w23.heap.size) := by omega
  have lw_oa : w.heap.size ≤ w26.heap.size := by have := hW.size; omega
  replace H_a := Lib.hid (H_a.out.below z27)
  replace H_pa := Lib.hid (H_pa.out.below z27)
  replace ha := ha.below z27
  replace pp := pp.below z27
  replace po := po.below z27
  replace hW := hW.trans (z27.mono hW.size)
  have H_oa : Hid (Rb w27 w26.heap.size s26 A26 n26 c26 t26 D26 m26 d26) := Lib.hid (by rw [hw27]; exact Rb.new _ _ _ _ _ _ _ _ _ _)
  clear z27 hw27
  have ez28 : w27.heap.size = w26.heap.size + 1 := by rw [← HW27.out, World.size_alloc]
  obtain ⟨w28, hw28⟩ : ∃ x, x = w27.alloc (.cells #[.bool s, .slice A n c, .bool t, .slice B m d] 28) := ⟨_, rfl⟩
  have z28 : Below w27.heap.size w27 w28 := by rw [hw28]; exact zba _ _
  have HW28 : Hid (w27.alloc (.cells #[.bool s, .slice A n c, .bool t, .slice B m d] 28) = w28) := Lib.hid hw28.symm
  have nn_a_ba : ¬ (w.heap.size = (w26.heap.size + 1)) := by have := H_a.out.2.2.2.2.2.2.2.2; omega
  have nm_a_ba : ¬ ((w26.heap.size + 1) = w.heap.size) := by omega
  have nn_pa_ba : ¬ (w23.heap.size = (w26.heap.size + 1)) := by have := H_pa.out.2.2.2.2.2.2.2.2; omega
  have nm_pa_ba : ¬ ((w26.heap.size + 1) = w23.heap.size) := by omega
  have nn_oa_ba : ¬ (w26.heap.size = (w26.heap.size + 1)) := by have := H_oa.out.2.2.2.2.2.2.2.2; omega
  have nm_oa_ba : ¬ ((w26.heap.size + 1) = w26.heap.size) := by omega
  have lw_ba : w.heap.size ≤ (w26.heap.size + 1) := by have := hW.size; omega
  replace H_a := Lib.hid (H_a.out.below z28)
  replace H_pa := Lib.hid (H_pa.out.below z28)
  replace H_oa := Lib.hid (H_oa.out.below z28)
  replace ha := ha.below z28
  replace pp := pp.below z28
  replace po := po.below z28
  replace hW := hW.trans (z28.mono hW.size)
  have H_ba : Hid (Rb w28 (w26.heap.size + 1) s A n c t B m d) := Lib.hid (by rw [← ez28, hw28]; exact Rb.new _ _ _ _ _ _ _ _ _ _)
  clear z28 hw28
  obtain ⟨a1, a2, a3, a4, a5, a6, a7, a8, a9⟩ := O_a.out
  obtain ⟨pa1, pa2, pa3, pa4, pa5, pa6, pa7, pa8, pa9⟩ := O_pa.out
  go_wp2_with fail
  rw [HW27.out]
  rw [HW28.out]
  clear a1 a2 a3 a4 a5 a6 a7 a8 a9 pa1 pa2 pa3 pa4 pa5 pa6 pa7 pa8 pa9 O_a O_pa
  refine (quo_q po.qv ha 2 (by omega) (by omega) (by omega) (by omega) (by omega) (by omega) HB.out).mono ?_
  rintro e w29 ⟨s29, A29, n29, c29, t29, D29, m29, d29, rfl, px, k29, l29, B29⟩
  replace H_a := Lib.hid (H_a.out.below B29)
  replace H_pa := Lib.hid (H_pa.out.below B29)
  replace H_oa := Lib.hid (H_oa.out.below B29)
  replace H_ba := Lib.hid (H_ba.out.below B29)
  replace ha := ha.below B29
  replace pp := pp.below B29
  replace po := po.below B29
  replace hW := hW.trans (B29.mono hW.size)
  clear B29
  have O_a := H_a
  have O_pa := H_pa
  have O_oa := H_oa
  have O_ba := H_ba
  obtain ⟨w30, hw30⟩ : ∃ x, x = w29.alloc (.cells #[.bool s29, .slice A29 n29 c29, .bool t29, .slice D29 m29 d29] 28) := ⟨_, rfl⟩
  have z30 : Below w29.heap.size w29 w30 := by rw [hw30]; exact zba _ _
  have HW30 : Hid (w29.alloc (.cells #[.bool s29, .slice A29 n29 c29, .bool t29, .slice D29 m29 d29] 28) = w30) := Lib.hid hw30.symm
  have nn_a_xa : ¬ (w.heap.size = w29.heap.size) := by have := H_a.out.2.2.2.2.2.2.2.2; omega
  have nm_a_xa : ¬ (w29.heap.size = w.heap.size) := by omega
  have nn_pa_xa : ¬ (w23.heap.size = w29.heap.size) := by have := H_pa.out.2.2.2.2.2.2.2.2; omega
  have nm_pa_xa : ¬ (w29.heap.size = w23.heap.size) := by omega
  have nn_oa_xa : ¬ (w26.heap.size = w29.heap.size) := by have := H_oa.out.2.2.2.2.2.2.2.2; omega
  have nm_oa_xa : ¬ (w29.heap.size = w26.heap.size) := by omega
  have nn_ba_xa : ¬ ((w26.heap.size + 1) = w29.heap.size) := by have := H_ba.out.2.2.2.2.2.2.2.2; omega
  have nm_ba_xa : ¬ (w29.heap.size = (w26.heap.size + 1)) := by omega
  have lw_xa : w.heap.size ≤ w29.heap.size := by have := hW.size; omega
  replace H_a := Lib.hid (H_a.out.below z30)
  replace H_pa := Lib.hid (H_pa.out.below z30)
  replace H_oa := Lib.hid (H_oa.out.below z30)
  replace H_ba := Lib.hid (H_ba.out.below z30)
  replace ha := ha.below z30
  replace pp := pp.below z30
  replace po := po.below z30
  replace px := px.below z30
  replace hW := hW.trans (z30.mono hW.size)
  have H_xa : Hid (Rb w30 w29.heap.size s29 A29 n29 c29 t29 D29 m29 d29) := Lib.hid (by rw [hw30]; exact Rb.new _ _ _ _ _ _ _ _ _ _)
  clear z30 hw30
  obtain ⟨a1, a2, a3, a4, a5, a6, a7, a8, a9⟩ := O_a.out
  obtain ⟨pa1, pa2, pa3, pa4, pa5, pa6, pa7, pa8, pa9⟩ := O_pa.out
  obtain ⟨oa1, oa2, oa3, oa4, oa5, oa6, oa7, oa8, oa9⟩ := O_oa.out
  obtain ⟨ba1, ba2, ba3, ba4, ba5, ba6, ba7, ba8, ba9⟩ := O_ba.out
  go_wp2_with fail
  rw [HW30.out]
  clear a1 a2 a3 a4 a5 a6 a7 a8 a9 pa1 pa2 pa3 pa4 pa5 pa6 pa7 pa8 pa9 oa1 oa2 oa3 oa4 oa5 oa6 oa7 oa8 oa9 ba1 ba2 ba3 ba4 ba5 ba6 ba7 ba8 ba9 O_a O_pa O_oa O_ba
  refine (sign_q pp.qv 19 (by omega) (by omega) (by omega) HS.out).mono ?_
  rintro e w31 ⟨rfl, B31⟩
  replace H_a := Lib.hid (H_a.out.below B31)
  replace H_pa := Lib.hid (H_pa.out.below B31)
  replace H_oa := Lib.hid (H_oa.out.below B31)
  replace H_ba := Lib.hid (H_ba.out.below B31)
  replace H_xa := Lib.hid (H_xa.out.below B31)
  replace ha := ha.below B31
  replace pp := pp.below B31
  replace po := po.below B31
  replace px := px.below B31
  replace hW := hW.trans (B31.mono hW.size)
  clear B31
  go_wp2_with fail
  go_ret
  exact ⟨rfl, hW⟩
set_option maxRecDepth 100000 in
set_option maxHeartbeats 16000000 in
theorem powers_pos {A B : Option Addr} {n c m d : Nat} {s t : Bool} {p : Rat} {e0 : Int} {w : World} (ha : Qv w s A n c t B m d p) (h1 : n ≤ 2) (h2 : m ≤ 2) {v : Nat} (hv9 : v ≤ 9) (hN : e0.tmod 10 = (v : Int)) :
    Calls Try.prog 6 #[.agg #[.bool s, .slice A n c, .bool t, .slice B m d], .int .i8 e0] w (TruePost w) := by
  have hW := Below.refl w.heap.size w
  obtain ⟨wp0, hwp0⟩ : ∃ x, x = w.alloc (.cells #[.bool s, .slice A n c, .bool t, .slice B m d] 28) := ⟨_, rfl⟩
  have zp0 : Below w.heap.size w wp0 := by rw [hwp0]; exact zba _ _
  have sp0 : wp0.heap.size = w.heap.size + 1 := by rw [hwp0, World.size_alloc]
  have Ia : Rb wp0 w.heap.size s A n c t B m d := by rw [hwp0]; exact Rb.new _ _ _ _ _ _ _ _ _ _
  replace ha := ha.below zp0
  replace hW := hW.trans (zp0.mono hW.size)
  have H_a := Lib.hid Ia
  clear Ia zp0
  have HW : Hid ((w.alloc (.cells #[.bool s, .slice A n c, .bool t, .slice B m d] 28)) = wp0) := Lib.hid (by rw [hwp0])
  have lw_a : w.heap.size ≤ w.heap.size := by omega
  clear hwp0 sp0
  have HF1 : Hid (decide (n ≤ 2 ∧ m ≤ 2) = true) := Lib.hid (decide_eq_true ⟨h1, h2⟩)
  have hneg : ¬ ((v : Int) < 0) := by omega
  have HC : Hid (rsg (p ^ v - p ^ v) = 0) := Lib.hid (rsg_eq.2 (by grind))
  go_enter Try.func6, Try.ntmps6
  obtain ⟨a1, a2, a3, a4, a5, a6, a7, a8, a9⟩ := H_a.out
  go_wp2_with fail
  rw [HW.out]
  clear a1 a2 a3 a4 a5 a6 a7 a8 a9
  refine (qawake_v _).mono ?_
  rintro e w21 ⟨rfl, B21⟩
  replace H_a := Lib.hid (H_a.out.below B21)
  replace ha := ha.below B21
  replace hW := hW.trans (B21.mono hW.size)
  clear B21
  obtain ⟨a1, a2, a3, a4, a5, a6, a7, a8, a9⟩ := H_a.out
  go_wp2_with fail
  clear a1 a2 a3 a4 a5 a6 a7 a8 a9
  refine (few7_v (k := 2) (b := true) (by omega) (by omega) (by omega) HF1.out).mono ?_
  rintro e w22 ⟨rfl, B22⟩
  replace H_a := Lib.hid (H_a.out.below B22)
  replace ha := ha.below B22
  replace hW := hW.trans (B22.mono hW.size)
  clear B22
  obtain ⟨a1, a2, a3, a4, a5, a6, a7, a8, a9⟩ := H_a.out
  go_wp2_with fail
  clear a1 a2 a3 a4 a5 a6 a7 a8 a9
  refine (pow_q ha 2 v 19 (by omega) (by omega) (by omega) (by omega) (by omega) (by omega) (by omega) (by omega)).mono ?_
  rintro e w23 ⟨s23, A23, n23, c23, t23, D23, m23, d23, rfl, pp, k23, l23, B23⟩
  replace H_a := Lib.hid (H_a.out.below B23)
  replace ha := ha.below B23
  replace hW := hW.trans (B23.mono hW.size)
  clear B23
  have O_a := H_a
  obtain ⟨w24, hw24⟩ : ∃ x, x = w23.alloc (.cells #[.bool s23, .slice A23 n23 c23, .bool t23, .slice D23 m23 d23] 28) := ⟨_, rfl⟩
  have z24 : Below w23.heap.size w23 w24 := by rw [hw24]; exact zba _ _
  have HW24 : Hid (w23.alloc (.cells #[.bool s23, .slice A23 n23 c23, .bool t23, .slice D23 m23 d23] 28) = w24) := Lib.hid hw24.symm
  have nn_a_pa : ¬ (w.heap.size = w23.heap.size) := by have := H_a.out.2.2.2.2.2.2.2.2; omega
  have nm_a_pa : ¬ (w23.heap.size = w.heap.size) := by omega
  have lw_pa : w.heap.size ≤ w23.heap.size := by have := hW.size; omega
  replace H_a := Lib.hid (H_a.out.below z24)
  replace ha := ha.below z24
  replace pp := pp.below z24
  replace hW := hW.trans (z24.mono hW.size)
  have H_pa : Hid (Rb w24 w23.heap.size s23 A23 n23 c23 t23 D23 m23 d23) := Lib.hid (by rw [hw24]; exact Rb.new _ _ _ _ _ _ _ _ _ _)
  clear z24 hw24
  clear hN
  obtain ⟨a1, a2, a3, a4, a5, a6, a7, a8, a9⟩ := O_a.out
  go_wp2_with fail
  rw [HW24.out]
  clear a1 a2 a3 a4 a5 a6 a7 a8 a9 O_a
  refine (zof_v 1 (by omega) (by omega) _).mono ?_
  rintro e w25 ⟨s25, A25, n25, c25, rfl, z1, k25, B25⟩
  replace H_a := Lib.hid (H_a.out.below B25)
  replace H_pa := Lib.hid (H_pa.out.below B25)
  replace ha := ha.below B25
  replace pp := pp.below B25
  replace hW := hW.trans (B25.mono hW.size)
  clear B25
  obtain ⟨a1, a2, a3, a4, a5, a6, a7, a8, a9⟩ := H_a.out
  obtain ⟨pa1, pa2, pa3, pa4, pa5, pa6, pa7, pa8, pa9⟩ := H_pa.out
  go_wp2_with fail
  clear a1 a2 a3 a4 a5 a6 a7 a8 a9 pa1 pa2 pa3 pa4 pa5 pa6 pa7 pa8 pa9
  refine (qof_v (k := 1) z1.zv (by omega) (by omega) (by omega)).mono ?_
  rintro e w26 ⟨s26, A26, n26, c26, t26, D26, m26, d26, rfl, po, k26, l26, B26⟩
  replace H_a := Lib.hid (H_a.out.below B26)
  replace H_pa := Lib.hid (H_pa.out.below B26)
  replace ha := ha.below B26
  replace pp := pp.below B26
  replace z1 := z1.below B26
  replace hW := hW.trans (B26.mono hW.size)
  clear B26
  rw [rat_one] at po
  clear z1
  have O_a := H_a
  have O_pa := H_pa
  obtain ⟨w27, hw27⟩ : ∃ x, x = w26.alloc (.cells #[.bool s26, .slice A26 n26 c26, .bool t26, .slice D26 m26 d26] 28) := ⟨_, rfl⟩
  have z27 : Below w26.heap.size w26 w27 := by rw [hw27]; exact zba _ _
  have HW27 : Hid (w26.alloc (.cells #[.bool s26, .slice A26 n26 c26, .bool t26, .slice D26 m26 d26] 28) = w27) := Lib.hid hw27.symm
  have nn_a_oa : ¬ (w.heap.size = w26.heap.size) := by have := H_a.out.2.2.2.2.2.2.2.2; omega
  have nm_a_oa : ¬ (w26.heap.size = w.heap.size) := by omega
  have nn_pa_oa : ¬ (w23.heap.size = w26.heap.size) := by have := H_pa.out.2.2.2.2.2.2.2.2; omega
  have nm_pa_oa : ¬ (w26.heap.size = w23.heap.size) := by omega
  have lw_oa : w.heap.size ≤ w26.heap.size := by have := hW.size; omega
  replace H_a := Lib.hid (H_a.out.below z27)
  replace H_pa := Lib.hid (H_pa.out.below z27)
  replace ha := ha.below z27
  replace pp := pp.below z27
  replace po := po.below z27
  replace hW := hW.trans (z27.mono hW.size)
  have H_oa : Hid (Rb w27 w26.heap.size s26 A26 n26 c26 t26 D26 m26 d26) := Lib.hid (by rw [hw27]; exact Rb.new _ _ _ _ _ _ _ _ _ _)
  clear z27 hw27
  have ez28 : w27.heap.size = w26.heap.size + 1 := by rw [← HW27.out, World.size_alloc]
  obtain ⟨w28, hw28⟩ : ∃ x, x = w27.alloc (.cells #[.bool s, .slice A n c, .bool t, .slice B m d] 28) := ⟨_, rfl⟩
  have z28 : Below w27.heap.size w27 w28 := by rw [hw28]; exact zba _ _
  have HW28 : Hid (w27.alloc (.cells #[.bool s, .slice A n c, .bool t, .slice B m d] 28) = w28) := Lib.hid hw28.symm
  have nn_a_ba : ¬ (w.heap.size = (w26.heap.size + 1)) := by have := H_a.out.2.2.2.2.2.2.2.2; omega
  have nm_a_ba : ¬ ((w26.heap.size + 1) = w.heap.size) := by omega
  have nn_pa_ba : ¬ (w23.heap.size = (w26.heap.size + 1)) := by have := H_pa.out.2.2.2.2.2.2.2.2; omega
  have nm_pa_ba : ¬ ((w26.heap.size + 1) = w23.heap.size) := by omega
  have nn_oa_ba : ¬ (w26.heap.size = (w26.heap.size + 1)) := by have := H_oa.out.2.2.2.2.2.2.2.2; omega
  have nm_oa_ba : ¬ ((w26.heap.size + 1) = w26.heap.size) := by omega
  have lw_ba : w.heap.size ≤ (w26.heap.size + 1) := by have := hW.size; omega
  replace H_a := Lib.hid (H_a.out.below z28)
  replace H_pa := Lib.hid (H_pa.out.below z28)
  replace H_oa := Lib.hid (H_oa.out.below z28)
  replace ha := ha.below z28
  replace pp := pp.below z28
  replace po := po.below z28
  replace hW := hW.trans (z28.mono hW.size)
  have H_ba : Hid (Rb w28 (w26.heap.size + 1) s A n c t B m d) := Lib.hid (by rw [← ez28, hw28]; exact Rb.new _ _ _ _ _ _ _ _ _ _)
  clear z28 hw28
  have ez29 : w28.heap.size = w26.heap.size + 1 + 1 := by rw [← HW28.out, World.size_alloc, ez28]
  obtain ⟨w29, hw29⟩ : ∃ x, x = w28.alloc (.cells #[.bool s26, .slice A26 n26 c26, .bool t26, .slice D26 m26 d26] 28) := ⟨_, rfl⟩
  have z29 : Below w28.heap.size w28 w29 := by rw [hw29]; exact zba _ _
  have HW29 : Hid (w28.alloc (.cells #[.bool s26, .slice A26 n26 c26, .bool t26, .slice D26 m26 d26] 28) = w29) := Lib.hid hw29.symm
  have nn_a_wa : ¬ (w.heap.size = (w26.heap.size + 1 + 1)) := by have := H_a.out.2.2.2.2.2.2.2.2; omega
  have nm_a_wa : ¬ ((w26.heap.size + 1 + 1) = w.heap.size) := by omega
  have nn_pa_wa : ¬ (w23.heap.size = (w26.heap.size + 1 + 1)) := by have := H_pa.out.2.2.2.2.2.2.2.2; omega
  have nm_pa_wa : ¬ ((w26.heap.size + 1 + 1) = w23.heap.size) := by omega
  have nn_oa_wa : ¬ (w26.heap.size = (w26.heap.size + 1 + 1)) := by have := H_oa.out.2.2.2.2.2.2.2.2; omega
  have nm_oa_wa : ¬ ((w26.heap.size + 1 + 1) = w26.heap.size) := by omega
  have nn_ba_wa : ¬ ((w26.heap.size + 1) = (w26.heap.size + 1 + 1)) := by have := H_ba.out.2.2.2.2.2.2.2.2; omega
  have nm_ba_wa : ¬ ((w26.heap.size + 1 + 1) = (w26.heap.size + 1)) := by omega
  have lw_wa : w.heap.size ≤ (w26.heap.size + 1 + 1) := by have := hW.size; omega
  replace H_a := Lib.hid (H_a.out.below z29)
  replace H_pa := Lib.hid (H_pa.out.below z29)
  replace H_oa := Lib.hid (H_oa.out.below z29)
  replace H_ba := Lib.hid (H_ba.out.below z29)
  replace ha := ha.below z29
  replace pp := pp.below z29
  replace po := po.below z29
  replace hW := hW.trans (z29.mono hW.size)
  have H_wa : Hid (Rb w29 (w26.heap.size + 1 + 1) s26 A26 n26 c26 t26 D26 m26 d26) := Lib.hid (by rw [← ez29, hw29]; exact Rb.new _ _ _ _ _ _ _ _ _ _)
  clear z29 hw29
  obtain ⟨a1, a2, a3, a4, a5, a6, a7, a8, a9⟩ := O_a.out
  obtain ⟨pa1, pa2, pa3, pa4, pa5, pa6, pa7, pa8, pa9⟩ := O_pa.out
  go_wp2_with fail
  rw [HW27.out]
  rw [HW28.out]
  rw [HW29.out]
  clear a1 a2 a3 a4 a5 a6 a7 a8 a9 pa1 pa2 pa3 pa4 pa5 pa6 pa7 pa8 pa9 O_a O_pa
  clear H_oa
  have HM : Hid (∃ s7 A7 n7 c7 t7 B7 m7 d7, Rb w29 (w26.heap.size + 1 + 1) s7 A7 n7 c7 t7 B7 m7 d7 ∧ Qc w29 s7 A7 n7 c7 t7 B7 m7 d7 (p ^ 0) ∧ n7 ≤ 4 * 2 ^ 0 ∧ m7 ≤ 4 * 2 ^ 0 ∧ Rb w29 w.heap.size s A n c t B m d ∧ Rb w29 w23.heap.size s23 A23 n23 c23 t23 D23 m23 d23 ∧ Rb w29 (w26.heap.size + 1) s A n c t B m d ∧ Qv w29 s A n c t B m d p ∧ Qc w29 s23 A23 n23 c23 t23 D23 m23 d23 (p ^ v) ∧ Below w.heap.size w w29) := Lib.hid ⟨_, _, _, _, _, _, _, _, H_wa.out, by rw [Rat.pow_zero]; exact po, by omega, by omega, H_a.out, H_pa.out, H_ba.out, ha, pp, hW⟩
  clear hW H_wa H_a H_pa H_ba ha pp po
  go_loopw [13] (fun i wr => ∃ k : Nat, k ≤ v ∧ i = .int .i64 (k : Int) ∧ Hid (∃ s7 A7 n7 c7 t7 B7 m7 d7, Rb wr (w26.heap.size + 1 + 1) s7 A7 n7 c7 t7 B7 m7 d7 ∧ Qc wr s7 A7 n7 c7 t7 B7 m7 d7 (p ^ k) ∧ n7 ≤ 4 * 2 ^ k ∧ m7 ≤ 4 * 2 ^ k ∧ Rb wr w.heap.size s A n c t B m d ∧ Rb wr w23.heap.size s23 A23 n23 c23 t23 D23 m23 d23 ∧ Rb wr (w26.heap.size + 1) s A n c t B m d ∧ Qv wr s A n c t B m d p ∧ Qc wr s23 A23 n23 c23 t23 D23 m23 d23 (p ^ v) ∧ Below w.heap.size w wr)) (fun i _ => v - (intOf i).toNat)
  case atStart => exact ⟨0, by omega, rfl, HM⟩
  case round =>
    clear HM
    obtain ⟨k, hk, rfl, HA⟩ := hrel
    obtain ⟨s7, A7, n7, c7, t7, B7, m7, d7, I1, pu, ku, lu, I2, I3, I4, ha, pp, hW⟩ := HA.out
    have H_wa := Lib.hid I1
    have H_a := Lib.hid I2
    have H_pa := Lib.hid I3
    have H_ba := Lib.hid I4
    clear I1 I2 I3 I4 HA
    have h2k := two_pow9 (show k ≤ 9 by omega)
    have h2p := Nat.two_pow_pos k
    by_cases hkv : k < v
    · have bk : decide ((k : Int) < (v : Int)) = true := decide_eq_true (by omega)
      obtain ⟨a1, a2, a3, a4, a5, a6, a7, a8, a9⟩ := H_a.out
      obtain ⟨pa1, pa2, pa3, pa4, pa5, pa6, pa7, pa8, pa9⟩ := H_pa.out
      obtain ⟨ba1, ba2, ba3, ba4, ba5, ba6, ba7, ba8, ba9⟩ := H_ba.out
      obtain ⟨wa1, wa2, wa3, wa4, wa5, wa6, wa7, wa8, wa9⟩ := H_wa.out
      go_wp2_with fail
      clear a1 a2 a3 a4 a5 a6 a7 a8 a9 pa1 pa2 pa3 pa4 pa5 pa6 pa7 pa8 pa9 ba1 ba2 ba3 ba4 ba5 ba6 ba7 ba8 ba9 wa1 wa2 wa3 wa4 wa5 wa6 wa7 wa8 wa9
      refine (mul_q pu.qv ha (4 * 2 ^ k) (by omega) (by omega) (by omega) (by omega) (by omega) (by omega)).mono ?_
      rintro e w201 ⟨s201, A201, n201, c201, t201, D201, m201, d201, rfl, pv, k201, l201, B201⟩
      replace H_a := Lib.hid (H_a.out.below B201)
      replace H_pa := Lib.hid (H_pa.out.below B201)
      replace H_ba := Lib.hid (H_ba.out.below B201)
      replace H_wa := Lib.hid (H_wa.out.below B201)
      replace ha := ha.below B201
      replace pp := pp.below B201
      replace pu := pu.below B201
      replace hW := hW.trans (B201.mono hW.size)
      clear B201
      rw [← Rat.pow_succ] at pv
      clear pu
      have O_a := H_a
      have O_pa := H_pa
      have O_ba := H_ba
      have O_wa := H_wa
      obtain ⟨w202, hw202⟩ : ∃ x, x = rput w201 (w26.heap.size + 1 + 1) s201 A201 n201 c201 t201 D201 m201 d201 := ⟨_, rfl⟩
      have HW202 : Hid (((((w201.setCell ⟨(w26.heap.size + 1 + 1), 0, none⟩ (.bool s201)).setCell ⟨(w26.heap.size + 1 + 1), 1, none⟩ (.slice A201 n201 c201)).setCell ⟨(w26.heap.size + 1 + 1), 2, none⟩ (.bool t201)).setCell ⟨(w26.heap.size + 1 + 1), 3, none⟩ (.slice D201 m201 d201)) = w202) := Lib.hid hw202.symm
      have OI := H_wa.out
      replace H_a : Hid (Rb w202 w.heap.size s A n c t B m d) := Lib.hid (by rw [hw202]; exact H_a.out.rput (by omega))
      replace H_pa : Hid (Rb w202 w23.heap.size s23 A23 n23 c23 t23 D23 m23 d23) := Lib.hid (by rw [hw202]; exact H_pa.out.rput (by omega))
      replace H_ba : Hid (Rb w202 (w26.heap.size + 1) s A n c t B m d) := Lib.hid (by rw [hw202]; exact H_ba.out.rput (by omega))
      replace ha := ha.rput (s' := s201) (A' := A201) (n' := n201) (c' := c201) (t' := t201) (B' := D201) (m' := m201) (d' := d201) OI
      replace pp := pp.rput (s' := s201) (A' := A201) (n' := n201) (c' := c201) (t' := t201) (B' := D201) (m' := m201) (d' := d201) OI
      replace pv := pv.rput (s' := s201) (A' := A201) (n' := n201) (c' := c201) (t' := t201) (B' := D201) (m' := m201) (d' := d201) OI
      rw [← hw202] at ha
      rw [← hw202] at pp
      rw [← hw202] at pv
      replace hW : Below w.heap.size w w202 := by rw [hw202]; exact below_rput hW lw_wa
      replace H_wa : Hid (Rb w202 (w26.heap.size + 1 + 1) s201 A201 n201 c201 t201 D201 m201 d201) := Lib.hid (by rw [hw202]; exact OI.own)
      clear hw202 OI
      have P : Hid (∃ s7 A7 n7 c7 t7 B7 m7 d7, Rb w202 (w26.heap.size + 1 + 1) s7 A7 n7 c7 t7 B7 m7 d7 ∧ Qc w202 s7 A7 n7 c7 t7 B7 m7 d7 (p ^ (k + 1)) ∧ n7 ≤ 4 * 2 ^ (k + 1) ∧ m7 ≤ 4 * 2 ^ (k + 1) ∧ Rb w202 w.heap.size s A n c t B m d ∧ Rb w202 w23.heap.size s23 A23 n23 c23 t23 D23 m23 d23 ∧ Rb w202 (w26.heap.size + 1) s A n c t B m d ∧ Qv w202 s A n c t B m d p ∧ Qc w202 s23 A23 n23 c23 t23 D23 m23 d23 (p ^ v) ∧ Below w.heap.size w w202) := Lib.hid ⟨_, _, _, _, _, _, _, _, H_wa.out, pv, by rw [Nat.pow_succ]; omega, by rw [Nat.pow_succ]; omega, H_a.out, H_pa.out, H_ba.out, ha, pp, hW⟩
      obtain ⟨a1, a2, a3, a4, a5, a6, a7, a8, a9⟩ := O_a.out
      obtain ⟨pa1, pa2, pa3, pa4, pa5, pa6, pa7, pa8, pa9⟩ := O_pa.out
      obtain ⟨ba1, ba2, ba3, ba4, ba5, ba6, ba7, ba8, ba9⟩ := O_ba.out
      obtain ⟨wa1, wa2, wa3, wa4, wa5, wa6, wa7, wa8, wa9⟩ := O_wa.out
      clear hW H_wa H_a H_pa H_ba ha pp pv
      go_wp2_with fail
      rw [HW202.out]
      go_roundw
      case rel => exact ⟨k + 1, by omega, by go_num, P⟩
      case measure => simp [intOf]; omega
    · obtain rfl : k = v := by omega
      clear hkv
      obtain ⟨a1, a2, a3, a4, a5, a6, a7, a8, a9⟩ := H_a.out
      obtain ⟨pa1, pa2, pa3, pa4, pa5, pa6, pa7, pa8, pa9⟩ := H_pa.out
      obtain ⟨ba1, ba2, ba3, ba4, ba5, ba6, ba7, ba8, ba9⟩ := H_ba.out
      obtain ⟨wa1, wa2, wa3, wa4, wa5, wa6, wa7, wa8, wa9⟩ := H_wa.out
      go_wp2_with fail
      clear a1 a2 a3 a4 a5 a6 a7 a8 a9 pa1 pa2 pa3 pa4 pa5 pa6 pa7 pa8 pa9 ba1 ba2 ba3 ba4 ba5 ba6 ba7 ba8 ba9 wa1 wa2 wa3 wa4 wa5 wa6 wa7 wa8 wa9
      refine (powm_q ha 2 (by omega) (by omega) (by omega) (by omega)).mono ?_
      rintro e w301 ⟨s301, A301, n301, c301, t301, D301, m301, d301, rfl, pm, k301, l301, B301⟩
      replace H_a := Lib.hid (H_a.out.below B301)
      replace H_pa := Lib.hid (H_pa.out.below B301)
      replace H_ba := Lib.hid (H_ba.out.below B301)
      replace H_wa := Lib.hid (H_wa.out.below B301)
      replace ha := ha.below B301
      replace pp := pp.below B301
      replace pu := pu.below B301
      replace hW := hW.trans (B301.mono hW.size)
      clear B301
      have O_a := H_a
      have O_pa := H_pa
      have O_ba := H_ba
      have O_wa := H_wa
      obtain ⟨w302, hw302⟩ : ∃ x, x = w301.alloc (.cells #[.bool s301, .slice A301 n301 c301, .bool t301, .slice D301 m301 d301] 28) := ⟨_, rfl⟩
      have z302 : Below w301.heap.size w301 w302 := by rw [hw302]; exact zba _ _
      have HW302 : Hid (w301.alloc (.cells #[.bool s301, .slice A301 n301 c301, .bool t301, .slice D301 m301 d301] 28) = w302) := Lib.hid hw302.symm
      have nn_a_ma : ¬ (w.heap.size = w301.heap.size) := by have := H_a.out.2.2.2.2.2.2.2.2; omega
      have nm_a_ma : ¬ (w301.heap.size = w.heap.size) := by omega
      have nn_pa_ma : ¬ (w23.heap.size = w301.heap.size) := by have := H_pa.out.2.2.2.2.2.2.2.2; omega
      have nm_pa_ma : ¬ (w301.heap.size = w23.heap.size) := by omega
      have nn_ba_ma : ¬ ((w26.heap.size + 1) = w301.heap.size) := by have := H_ba.out.2.2.2.2.2.2.2.2; omega
      have nm_ba_ma : ¬ (w301.heap.size = (w26.heap.size + 1)) := by omega
      have nn_wa_ma : ¬ ((w26.heap.size + 1 + 1) = w301.heap.size) := by have := H_wa.out.2.2.2.2.2.2.2.2; omega
      have nm_wa_ma : ¬ (w301.heap.size = (w26.heap.size + 1 + 1)) := by omega
      have lw_ma : w.heap.size ≤ w301.heap.size := by have := hW.size; omega
      replace H_a := Lib.hid (H_a.out.below z302)
      replace H_pa := Lib.hid (H_pa.out.below z302)
      replace H_ba := Lib.hid (H_ba.out.below z302)
      replace H_wa := Lib.hid (H_wa.out.below z302)
      replace ha := ha.below z302
      replace pp := pp.below z302
      replace pu := pu.below z302
      replace pm := pm.below z302
      replace hW := hW.trans (z302.mono hW.size)
      have H_ma : Hid (Rb w302 w301.heap.size s301 A301 n301 c301 t301 D301 m301 d301) := Lib.hid (by rw [hw302]; exact Rb.new _ _ _ _ _ _ _ _ _ _)
      clear z302 hw302
      obtain ⟨a1, a2, a3, a4, a5, a6, a7, a8, a9⟩ := O_a.out
      obtain ⟨pa1, pa2, pa3, pa4, pa5, pa6, pa7, pa8, pa9⟩ := O_pa.out
      obtain ⟨ba1, ba2, ba3, ba4, ba5, ba6, ba7, ba8, ba9⟩ := O_ba.out
      obtain ⟨wa1, wa2, wa3, wa4, wa5, wa6, wa7, wa8, wa9⟩ := O_wa.out
      go_wp2_with fail
      rw [HW302.out]
      clear a1 a2 a3 a4 a5 a6 a7 a8 a9 pa1 pa2 pa3 pa4 pa5 pa6 pa7 pa8 pa9 ba1 ba2 ba3 ba4 ba5 ba6 ba7 ba8 ba9 wa1 wa2 wa3 wa4 wa5 wa6 wa7 wa8 wa9 O_a O_pa O_ba O_wa
      refine (normalr_v pp (by omega) (by omega)).mono ?_
      rintro e w303 ⟨rfl, B303⟩
      replace H_a := Lib.hid (H_a.out.below B303)
      replace H_pa := Lib.hid (H_pa.out.below B303)
      replace H_ba := Lib.hid (H_ba.out.below B303)
      replace H_wa := Lib.hid (H_wa.out.below B303)
      replace H_ma := Lib.hid (H_ma.out.below B303)
      replace ha := ha.below B303
      replace pp := pp.below B303
      replace pu := pu.below B303
      replace pm := pm.below B303
      replace hW := hW.trans (B303.mono hW.size)
      clear B303
      obtain ⟨a1, a2, a3, a4, a5, a6, a7, a8, a9⟩ := H_a.out
      obtain ⟨pa1, pa2, pa3, pa4, pa5, pa6, pa7, pa8, pa9⟩ := H_pa.out
      obtain ⟨ba1, ba2, ba3, ba4, ba5, ba6, ba7, ba8, ba9⟩ := H_ba.out
      obtain ⟨wa1, wa2, wa3, wa4, wa5, wa6, wa7, wa8, wa9⟩ := H_wa.out
      obtain ⟨ma1, ma2, ma3, ma4, ma5, ma6, ma7, ma8, ma9⟩ := H_ma.out
      go_wp2_with fail
      clear a1 a2 a3 a4 a5 a6 a7 a8 a9 pa1 pa2 pa3 pa4 pa5 pa6 pa7 pa8 pa9 ba1 ba2 ba3 ba4 ba5 ba6 ba7 ba8 ba9 wa1 wa2 wa3 wa4 wa5 wa6 wa7 wa8 wa9 ma1 ma2 ma3 ma4 ma5 ma6 ma7 ma8 ma9
      refine (cmp_q pp.qv pu.qv 2048 (by omega) (by omega) (by omega) (by omega) (by omega) (by omega) HC.out).mono ?_
      rintro e w304 ⟨rfl, B304⟩
      replace H_a := Lib.hid (H_a.out.below B304)
      replace H_pa := Lib.hid (H_pa.out.below B304)
      replace H_ba := Lib.hid (H_ba.out.below B304)
      replace H_wa := Lib.hid (H_wa.out.below B304)
      replace H_ma := Lib.hid (H_ma.out.below B304)
      replace ha := ha.below B304
      replace pp := pp.below B304
      replace pu := pu.below B304
      replace pm := pm.below B304
      replace hW := hW.trans (B304.mono hW.size)
      clear B304
      go_wp2_with fail
      go_ret
      exact ⟨rfl, hW⟩
set_option maxRecDepth 100000 in
set_option maxHeartbeats 16000000 in
theorem powers_neg {A B : Option Addr} {n c m d : Nat} {s t : Bool} {p : Rat} {e0 : Int} {w : World} (ha : Qv w s A n c t B m d p) (h1 : n ≤ 2) (h2 : m ≤ 2) {v : Nat} (hv9 : v ≤ 9) (hv0 : 0 < v) (hN : e0.tmod 10 = -(v : Int)) (hp : p ≠ 0) :
    Calls Try.prog 6 #[.agg #[.bool s, .slice A n c, .bool t, .slice B m d], .int .i8 e0] w (TruePost w) := by
  have hW := Below.refl w.heap.size w
  obtain ⟨wp0, hwp0⟩ : ∃ x, x = w.alloc (.cells #[.bool s, .slice A n c, .bool t, .slice B m d] 28) := ⟨_, rfl⟩
  have zp0 : Below w.heap.size w wp0 := by rw [hwp0]; exact zba _ _
  have sp0 : wp0.heap.size = w.heap.size + 1 := by rw [hwp0, World.size_alloc]
  have Ia : Rb wp0 w.heap.size s A n c t B m d := by rw [hwp0]; exact Rb.new _ _ _ _ _ _ _ _ _ _
  replace ha := ha.below zp0
  replace hW := hW.trans (zp0.mono hW.size)
  have H_a := Lib.hid Ia
  clear Ia zp0
  have HW : Hid ((w.alloc (.cells #[.bool s, .slice A n c, .bool t, .slice B m d] 28)) = wp0) := Lib.hid (by rw [hwp0])
  have lw_a : w.heap.size ≤ w.heap.size := by omega
  clear hwp0 sp0
  have HF1 : Hid (decide (n ≤ 2 ∧ m ≤ 2) = true) := Lib.hid (decide_eq_true ⟨h1, h2⟩)
  have HB : Hid (decide (p ≠ 0) = true) := Lib.hid (decide_eq_true hp)
  have hneg : -(v : Int) < 0 := by omega
  have hwr : wrap64 (v : Int) = (v : Int) := by unfold wrap64; omega
  have HC : Hid (rsg (p⁻¹ ^ v - p⁻¹ ^ v) = 0) := Lib.hid (rsg_eq.2 (by grind))
  go_enter Try.func6, Try.ntmps6
  obtain ⟨a1, a2, a3, a4, a5, a6, a7, a8, a9⟩ := H_a.out
  go_wp2_with fail
  rw [HW.out]
  clear a1 a2 a3 a4 a5 a6 a7 a8 a9
  refine (qawake_v _).mono ?_
  rintro e w21 ⟨rfl, B21⟩
  replace H_a := Lib.hid (H_a.out.below B21)
  replace ha := ha.below B21
  replace hW := hW.trans (B21.mono hW.size)
  clear B21
  obtain ⟨a1, a2, a3, a4, a5, a6, a7, a8, a9⟩ := H_a.out
  go_wp2_with fail
  clear a1 a2 a3 a4 a5 a6 a7 a8 a9
  refine (few7_v (k := 2) (b := true) (by omega) (by omega) (by omega) HF1.out).mono ?_
  rintro e w22 ⟨rfl, B22⟩
  replace H_a := Lib.hid (H_a.out.below B22)
  replace ha := ha.below B22
  replace hW := hW.trans (B22.mono hW.size)
  clear B22
  obtain ⟨a1, a2, a3, a4, a5, a6, a7, a8, a9⟩ := H_a.out
  go_wp2_with fail
  clear a1 a2 a3 a4 a5 a6 a7 a8 a9
  refine (pown_q ha 2 v 19 (by omega) (by omega) (by omega) (by omega) (by omega) (by omega) (by omega) (by omega) hv0 HB.out).mono ?_
  rintro e w23 ⟨s23, A23, n23, c23, t23, D23, m23, d23, rfl, pp, k23, l23, B23⟩
  replace H_a := Lib.hid (H_a.out.below B23)
  replace ha := ha.below B23
  replace hW := hW.trans (B23.mono hW.size)
  clear B23
  have O_a := H_a
  obtain ⟨w24, hw24⟩ : ∃ x, x = w23.alloc (.cells #[.bool s23, .slice A23 n23 c23, .bool t23, .slice D23 m23 d23] 28) := ⟨_, rfl⟩
  have z24 : Below w23.heap.size w23 w24 := by rw [hw24]; exact zba _ _
  have HW24 : Hid (w23.alloc (.cells #[.bool s23, .slice A23 n23 c23, .bool t23, .slice D23 m23 d23] 28) = w24) := Lib.hid hw24.symm
  have nn_a_pa : ¬ (w.heap.size = w23.heap.size) := by have := H_a.out.2.2.2.2.2.2.2.2; omega
  have nm_a_pa : ¬ (w23.heap.size = w.heap.size) := by omega
  have lw_pa : w.heap.size ≤ w23.heap.size := by have := hW.size; omega
  replace H_a := Lib.hid (H_a.out.below z24)
  replace ha := ha.below z24
  replace pp := pp.below z24
  replace hW := hW.trans (z24.mono hW.size)
  have H_pa : Hid (Rb w24 w23.heap.size s23 A23 n23 c23 t23 D23 m23 d23) := Lib.hid (by rw [hw24]; exact Rb.new _ _ _ _ _ _ _ _ _ _)
  clear z24 hw24
  clear hN
  obtain ⟨a1, a2, a3, a4, a5, a6, a7, a8, a9⟩ := O_a.out
  go_wp2_with fail
  rw [HW24.out]
  clear a1 a2 a3 a4 a5 a6 a7 a8 a9 O_a
  refine (zof_v 1 (by omega) (by omega) _).mono ?_
  rintro e w25 ⟨s25, A25, n25, c25, rfl, z1, k25, B25⟩
  replace H_a := Lib.hid (H_a.out.below B25)
  replace H_pa := Lib.hid (H_pa.out.below B25)
  replace ha := ha.below B25
  replace pp := pp.below B25
  replace hW := hW.trans (B25.mono hW.size)
  clear B25
  obtain ⟨a1, a2, a3, a4, a5, a6, a7, a8, a9⟩ := H_a.out
  obtain ⟨pa1, pa2, pa3, pa4, pa5, pa6, pa7, pa8, pa9⟩ := H_pa.out
  go_wp2_with fail
  clear a1 a2 a3 a4 a5 a6 a7 a8 a9 pa1 pa2 pa3 pa4 pa5 pa6 pa7 pa8 pa9
  refine (qof_v (k := 1) z1.zv (by omega) (by omega) (by omega)).mono ?_
  rintro e w26 ⟨s26, A26, n26, c26, t26, D26, m26, d26, rfl, po, k26, l26, B26⟩
  replace H_a := Lib.hid (H_a.out.below B26)
  replace H_pa := Lib.hid (H_pa.out.below B26)
  replace ha := ha.below B26
  replace pp := pp.below B26
  replace z1 := z1.below B26
  replace hW := hW.trans (B26.mono hW.size)
  clear B26
  rw [rat_one] at po
  clear z1
  have O_a := H_a
  have O_pa := H_pa
  obtain ⟨w27, hw27⟩ : ∃ x, x = w26.alloc (.cells #[.bool s26, .slice A26 n26 c26, .bool t26, .slice D26 m26 d26] 28) := ⟨_, rfl⟩
  have z27 : Below w26.heap.size w26 w27 := by rw [hw27]; exact zba _ _
  have HW27 : Hid (w26.alloc (.cells #[.bool s26, .slice A26 n26 c26, .bool t26, .slice D26 m26 d26] 28) = w27) := Lib.hid hw27.symm
  have nn_a_oa : ¬ (w.heap.size = w26.heap.size) := by have := H_a.out.2.2.2.2.2.2.2.2; omega
  have nm_a_oa : ¬ (w26.heap.size = w.heap.size) := by omega
  have nn_pa_oa : ¬ (w23.heap.size = w26.heap.size) := by have := H_pa.out.2.2.2.2.2.2.2.2; omega
  have nm_pa_oa : ¬ (w26.heap.size = w23.heap.size) := by omega
  have lw_oa : w.heap.size ≤ w26.heap.size := by have := hW.size; omega
  replace H_a := Lib.hid (H_a.out.below z27)
  replace H_pa := Lib.hid (H_pa.out.below z27)
  replace ha := ha.below z27
  replace pp := pp.below z27
  replace po := po.below z27
  replace hW := hW.trans (z27.mono hW.size)
  have H_oa : Hid (Rb w27 w26.heap.size s26 A26 n26 c26 t26 D26 m26 d26) := Lib.hid (by rw [hw27]; exact Rb.new _ _ _ _ _ _ _ _ _ _)
  clear z27 hw27
  have ez28 : w27.heap.size = w26.heap.size + 1 := by rw [← HW27.out, World.size_alloc]
  obtain ⟨w28, hw28⟩ : ∃ x, x = w27.alloc (.cells #[.bool s, .slice A n c, .bool t, .slice B m d] 28) := ⟨_, rfl⟩
  have z28 : Below w27.heap.size w27 w28 := by rw [hw28]; exact zba _ _
  have HW28 : Hid (w27.alloc (.cells #[.bool s, .slice A n c, .bool t, .slice B m d] 28) = w28) := Lib.hid hw28.symm
  have nn_a_ba : ¬ (w.heap.size = (w26.heap.size + 1)) := by have := H_a.out.2.2.2.2.2.2.2.2; omega
  have nm_a_ba : ¬ ((w26.heap.size + 1) = w.heap.size) := by omega
  have nn_pa_ba : ¬ (w23.heap.size = (w26.heap.size + 1)) := by have := H_pa.out.2.2.2.2.2.2.2.2; omega
  have nm_pa_ba : ¬ ((w26.heap.size + 1) = w23.heap.size) := by omega
  have nn_oa_ba : ¬ (w26.heap.size = (w26.heap.size + 1)) := by have := H_oa.out.2.2.2.2.2.2.2.2; omega
  have nm_oa_ba : ¬ ((w26.heap.size + 1) = w26.heap.size) := by omega
  have lw_ba : w.heap.size ≤ (w26.heap.size + 1) := by have := hW.size; omega
  replace H_a := Lib.hid (H_a.out.below z28)
  replace H_pa := Lib.hid (H_pa.out.below z28)
  replace H_oa := Lib.hid (H_oa.out.below z28)
  replace ha := ha.below z28
  replace pp := pp.below z28
  replace po := po.below z28
  replace hW := hW.trans (z28.mono hW.size)
  have H_ba : Hid (Rb w28 (w26.heap.size + 1) s A n c t B m d) := Lib.hid (by rw [← ez28, hw28]; exact Rb.new _ _ _ _ _ _ _ _ _ _)
  clear z28 hw28
  obtain ⟨a1, a2, a3, a4, a5, a6, a7, a8, a9⟩ := O_a.out
  obtain ⟨pa1, pa2, pa3, pa4, pa5, pa6, pa7, pa8, pa9⟩ := O_pa.out
  go_wp2_with fail
  rw [HW27.out]
  rw [HW28.out]
  clear a1 a2 a3 a4 a5 a6 a7 a8 a9 pa1 pa2 pa3 pa4 pa5 pa6 pa7 pa8 pa9 O_a O_pa
  refine (quo_q po.qv ha 2 (by omega) (by omega) (by omega) (by omega) (by omega) (by omega) HB.out).mono ?_
  rintro e w29 ⟨s29, A29, n29, c29, t29, D29, m29, d29, rfl, px, k29, l29, B29⟩
  replace H_a := Lib.hid (H_a.out.below B29)
  replace H_pa := Lib.hid (H_pa.out.below B29)
  replace H_oa := Lib.hid (H_oa.out.below B29)
  replace H_ba := Lib.hid (H_ba.out.below B29)
  replace ha := ha.below B29
  replace pp := pp.below B29
  replace po := po.below B29
  replace hW := hW.trans (B29.mono hW.size)
  clear B29
  rw [one_over] at px
  have O_a := H_a
  have O_pa := H_pa
  have O_oa := H_oa
  have O_ba := H_ba
  obtain ⟨w30, hw30⟩ : ∃ x, x = w29.alloc (.cells #[.bool s29, .slice A29 n29 c29, .bool t29, .slice D29 m29 d29] 28) := ⟨_, rfl⟩
  have z30 : Below w29.heap.size w29 w30 := by rw [hw30]; exact zba _ _
  have HW30 : Hid (w29.alloc (.cells #[.bool s29, .slice A29 n29 c29, .bool t29, .slice D29 m29 d29] 28) = w30) := Lib.hid hw30.symm
  have nn_a_xa : ¬ (w.heap.size = w29.heap.size) := by have := H_a.out.2.2.2.2.2.2.2.2; omega
  have nm_a_xa : ¬ (w29.heap.size = w.heap.size) := by omega
  have nn_pa_xa : ¬ (w23.heap.size = w29.heap.size) := by have := H_pa.out.2.2.2.2.2.2.2.2; omega
  have nm_pa_xa : ¬ (w29.heap.size = w23.heap.size) := by omega
  have nn_oa_xa : ¬ (w26.heap.size = w29.heap.size) := by have := H_oa.out.2.2.2.2.2.2.2.2; omega
  have nm_oa_xa : ¬ (w29.heap.size = w26.heap.size) := by omega
  have nn_ba_xa : ¬ ((w26.heap.size + 1) = w29.heap.size) := by have := H_ba.out.2.2.2.2.2.2.2.2; omega
  have nm_ba_xa : ¬ (w29.heap.size = (w26.heap.size + 1)) := by omega
  have lw_xa : w.heap.size ≤ w29.heap.size := by have := hW.size; omega
  replace H_a := Lib.hid (H_a.out.below z30)
  replace H_pa := Lib.hid (H_pa.out.below z30)
  replace H_oa := Lib.hid (H_oa.out.below z30)
  replace H_ba := Lib.hid (H_ba.out.below z30)
  replace ha := ha.below z30
  replace pp := pp.below z30
  replace po := po.below z30
  replace px := px.below z30
  replace hW := hW.trans (z30.mono hW.size)
  have H_xa : Hid (Rb w30 w29.heap.size s29 A29 n29 c29 t29 D29 m29 d29) := Lib.hid (by rw [hw30]; exact Rb.new _ _ _ _ _ _ _ _ _ _)
  clear z30 hw30
  obtain ⟨a1, a2, a3, a4, a5, a6, a7, a8, a9⟩ := O_a.out
  obtain ⟨pa1, pa2, pa3, pa4, pa5, pa6, pa7, pa8, pa9⟩ := O_pa.out
  obtain ⟨oa1, oa2, oa3, oa4, oa5, oa6, oa7, oa8, oa9⟩ := O_oa.out
  obtain ⟨ba1, ba2, ba3, ba4, ba5, ba6, ba7, ba8, ba9⟩ := O_ba.out
  go_upto_region 11 with fail
  rw [HW30.out]
  clear a1 a2 a3 a4 a5 a6 a7 a8 a9 pa1 pa2 pa3 pa4 pa5 pa6 pa7 pa8 pa9 oa1 oa2 oa3 oa4 oa5 oa6 oa7 oa8 oa9 ba1 ba2 ba3 ba4 ba5 ba6 ba7 ba8 ba9 O_a O_pa O_oa O_ba
  have O_a := H_a
  have O_pa := H_pa
  have O_oa := H_oa
  have O_ba := H_ba
  have O_xa := H_xa
  obtain ⟨w31, hw31⟩ : ∃ x, x = rput w30 (w26.heap.size + 1) s29 A29 n29 c29 t29 D29 m29 d29 := ⟨_, rfl⟩
  have HW31 : Hid (((((w30.setCell ⟨(w26.heap.size + 1), 0, none⟩ (.bool s29)).setCell ⟨(w26.heap.size + 1), 1, none⟩ (.slice A29 n29 c29)).setCell ⟨(w26.heap.size + 1), 2, none⟩ (.bool t29)).setCell ⟨(w26.heap.size + 1), 3, none⟩ (.slice D29 m29 d29)) = w31) := Lib.hid hw31.symm
  have OI := H_ba.out
  replace H_a : Hid (Rb w31 w.heap.size s A n c t B m d) := Lib.hid (by rw [hw31]; exact H_a.out.rput (by omega))
  replace H_pa : Hid (Rb w31 w23.heap.size s23 A23 n23 c23 t23 D23 m23 d23) := Lib.hid (by rw [hw31]; exact H_pa.out.rput (by omega))
  replace H_oa : Hid (Rb w31 w26.heap.size s26 A26 n26 c26 t26 D26 m26 d26) := Lib.hid (by rw [hw31]; exact H_oa.out.rput (by omega))
  replace H_xa : Hid (Rb w31 w29.heap.size s29 A29 n29 c29 t29 D29 m29 d29) := Lib.hid (by rw [hw31]; exact H_xa.out.rput (by omega))
  replace ha := ha.rput (s' := s29) (A' := A29) (n' := n29) (c' := c29) (t' := t29) (B' := D29) (m' := m29) (d' := d29) OI
  replace pp := pp.rput (s' := s29) (A' := A29) (n' := n29) (c' := c29) (t' := t29) (B' := D29) (m' := m29) (d' := d29) OI
  replace po := po.rput (s' := s29) (A' := A29) (n' := n29) (c' := c29) (t' := t29) (B' := D29) (m' := m29) (d' := d29) OI
  replace px := px.rput (s' := s29) (A' := A29) (n' := n29) (c' := c29) (t' := t29) (B' := D29) (m' := m29) (d' := d29) OI
  rw [← hw31] at ha
  rw [← hw31] at pp
  rw [← hw31] at po
  rw [← hw31] at px
  replace hW : Below w.heap.size w w31 := by rw [hw31]; exact below_rput hW lw_ba
  replace H_ba : Hid (Rb w31 (w26.heap.size + 1) s29 A29 n29 c29 t29 D29 m29 d29) := Lib.hid (by rw [hw31]; exact OI.own)
  clear hw31 OI
  obtain ⟨a1, a2, a3, a4, a5, a6, a7, a8, a9⟩ := O_a.out
  obtain ⟨pa1, pa2, pa3, pa4, pa5, pa6, pa7, pa8, pa9⟩ := O_pa.out
  obtain ⟨oa1, oa2, oa3, oa4, oa5, oa6, oa7, oa8, oa9⟩ := O_oa.out
  obtain ⟨ba1, ba2, ba3, ba4, ba5, ba6, ba7, ba8, ba9⟩ := O_ba.out
  obtain ⟨xa1, xa2, xa3, xa4, xa5, xa6, xa7, xa8, xa9⟩ := O_xa.out
  go_upto_region 13 with fail
  rw [HW31.out]
  clear a1 a2 a3 a4 a5 a6 a7 a8 a9 pa1 pa2 pa3 pa4 pa5 pa6 pa7 pa8 pa9 oa1 oa2 oa3 oa4 oa5 oa6 oa7 oa8 oa9 ba1 ba2 ba3 ba4 ba5 ba6 ba7 ba8 ba9 xa1 xa2 xa3 xa4 xa5 xa6 xa7 xa8 xa9 O_a O_pa O_oa O_ba O_xa
  have O_a := H_a
  have O_pa := H_pa
  have O_oa := H_oa
  have O_ba := H_ba
  have O_xa := H_xa
  obtain ⟨w32, hw32⟩ : ∃ x, x = w31.alloc (.cells #[.bool s26, .slice A26 n26 c26, .bool t26, .slice D26 m26 d26] 28) := ⟨_, rfl⟩
  have z32 : Below w31.heap.size w31 w32 := by rw [hw32]; exact zba _ _
  have HW32 : Hid (w31.alloc (.cells #[.bool s26, .slice A26 n26 c26, .bool t26, .slice D26 m26 d26] 28) = w32) := Lib.hid hw32.symm
  have nn_a_wa : ¬ (w.heap.size = w31.heap.size) := by have := H_a.out.2.2.2.2.2.2.2.2; omega
  have nm_a_wa : ¬ (w31.heap.size = w.heap.size) := by omega
  have nn_pa_wa : ¬ (w23.heap.size = w31.heap.size) := by have := H_pa.out.2.2.2.2.2.2.2.2; omega
  have nm_pa_wa : ¬ (w31.heap.size = w23.heap.size) := by omega
  have nn_oa_wa : ¬ (w26.heap.size = w31.heap.size) := by have := H_oa.out.2.2.2.2.2.2.2.2; omega
  have nm_oa_wa : ¬ (w31.heap.size = w26.heap.size) := by omega
  have nn_ba_wa : ¬ ((w26.heap.size + 1) = w31.heap.size) := by have := H_ba.out.2.2.2.2.2.2.2.2; omega
  have nm_ba_wa : ¬ (w31.heap.size = (w26.heap.size + 1)) := by omega
  have nn_xa_wa : ¬ (w29.heap.size = w31.heap.size) := by have := H_xa.out.2.2.2.2.2.2.2.2; omega
  have nm_xa_wa : ¬ (w31.heap.size = w29.heap.size) := by omega
  have lw_wa : w.heap.size ≤ w31.heap.size := by have := hW.size; omega
  replace H_a := Lib.hid (H_a.out.below z32)
  replace H_pa := Lib.hid (H_pa.out.below z32)
  replace H_oa := Lib.hid (H_oa.out.below z32)
  replace H_ba := Lib.hid (H_ba.out.below z32)
  replace H_xa := Lib.hid (H_xa.out.below z32)
  replace ha := ha.below z32
  replace pp := pp.below z32
  replace po := po.below z32
  replace px := px.below z32
  replace hW := hW.trans (z32.mono hW.size)
  have H_wa : Hid (Rb w32 w31.heap.size s26 A26 n26 c26 t26 D26 m26 d26) := Lib.hid (by rw [hw32]; exact Rb.new _ _ _ _ _ _ _ _ _ _)
  clear z32 hw32
  obtain ⟨a1, a2, a3, a4, a5, a6, a7, a8, a9⟩ := O_a.out
  obtain ⟨pa1, pa2, pa3, pa4, pa5, pa6, pa7, pa8, pa9⟩ := O_pa.out
  obtain ⟨oa1, oa2, oa3, oa4, oa5, oa6, oa7, oa8, oa9⟩ := O_oa.out
  obtain ⟨ba1, ba2, ba3, ba4, ba5, ba6, ba7, ba8, ba9⟩ := O_ba.out
  obtain ⟨xa1, xa2, xa3, xa4, xa5, xa6, xa7, xa8, xa9⟩ := O_xa.out
  go_wp2_with fail
  rw [HW32.out]
  clear a1 a2 a3 a4 a5 a6 a7 a8 a9 pa1 pa2 pa3 pa4 pa5 pa6 pa7 pa8 pa9 oa1 oa2 oa3 oa4 oa5 oa6 oa7 oa8 oa9 ba1 ba2 ba3 ba4 ba5 ba6 ba7 ba8 ba9 xa1 xa2 xa3 xa4 xa5 xa6 xa7 xa8 xa9 O_a O_pa O_oa O_ba O_xa
  clear H_oa H_xa
  have HM : Hid (∃ s7 A7 n7 c7 t7 B7 m7 d7, Rb w32 w31.heap.size s7 A7 n7 c7 t7 B7 m7 d7 ∧ Qc w32 s7 A7 n7 c7 t7 B7 m7 d7 (p⁻¹ ^ 0) ∧ n7 ≤ 4 * 2 ^ 0 ∧ m7 ≤ 4 * 2 ^ 0 ∧ Rb w32 w.heap.size s A n c t B m d ∧ Rb w32 w23.heap.size s23 A23 n23 c23 t23 D23 m23 d23 ∧ Rb w32 (w26.heap.size + 1) s29 A29 n29 c29 t29 D29 m29 d29 ∧ Qv w32 s A n c t B m d p ∧ Qc w32 s23 A23 n23 c23 t23 D23 m23 d23 (p⁻¹ ^ v) ∧ Qc w32 s29 A29 n29 c29 t29 D29 m29 d29 p⁻¹ ∧ Below w.heap.size w w32) := Lib.hid ⟨_, _, _, _, _, _, _, _, H_wa.out, by rw [Rat.pow_zero]; exact po, by omega, by omega, H_a.out, H_pa.out, H_ba.out, ha, pp, px, hW⟩
  clear hW H_wa H_a H_pa H_ba ha pp po px
  go_loopw [13] (fun i wr => ∃ k : Nat, k ≤ v ∧ i = .int .i64 (k : Int) ∧ Hid (∃ s7 A7 n7 c7 t7 B7 m7 d7, Rb wr w31.heap.size s7 A7 n7 c7 t7 B7 m7 d7 ∧ Qc wr s7 A7 n7 c7 t7 B7 m7 d7 (p⁻¹ ^ k) ∧ n7 ≤ 4 * 2 ^ k ∧ m7 ≤ 4 * 2 ^ k ∧ Rb wr w.heap.size s A n c t B m d ∧ Rb wr w23.heap.size s23 A23 n23 c23 t23 D23 m23 d23 ∧ Rb wr (w26.heap.size + 1) s29 A29 n29 c29 t29 D29 m29 d29 ∧ Qv wr s A n c t B m d p ∧ Qc wr s23 A23 n23 c23 t23 D23 m23 d23 (p⁻¹ ^ v) ∧ Qc wr s29 A29 n29 c29 t29 D29 m29 d29 p⁻¹ ∧ Below w.heap.size w wr)) (fun i _ => v - (intOf i).toNat)
  case atStart => exact ⟨0, by omega, rfl, HM⟩
  case round =>
    clear HM
    obtain ⟨k, hk, rfl, HA⟩ := hrel
    obtain ⟨s7, A7, n7, c7, t7, B7, m7, d7, I1, pu, ku, lu, I2, I3, I4, ha, pp, px, hW⟩ := HA.out
    have H_wa := Lib.hid I1
    have H_a := Lib.hid I2
    have H_pa := Lib.hid I3
    have H_ba := Lib.hid I4
    clear I1 I2 I3 I4 HA
    have h2k := two_pow9 (show k ≤ 9 by omega)
    have h2p := Nat.two_pow_pos k
    by_cases hkv : k < v
    · have bk : decide ((k : Int) < (v : Int)) = true := decide_eq_true (by omega)
      obtain ⟨a1, a2, a3, a4, a5, a6, a7, a8, a9⟩ := H_a.out
      obtain ⟨pa1, pa2, pa3, pa4, pa5, pa6, pa7, pa8, pa9⟩ := H_pa.out
      obtain ⟨ba1, ba2, ba3, ba4, ba5, ba6, ba7, ba8, ba9⟩ := H_ba.out
      obtain ⟨wa1, wa2, wa3, wa4, wa5, wa6, wa7, wa8, wa9⟩ := H_wa.out
      go_wp2_with fail
      clear a1 a2 a3 a4 a5 a6 a7 a8 a9 pa1 pa2 pa3 pa4 pa5 pa6 pa7 pa8 pa9 ba1 ba2 ba3 ba4 ba5 ba6 ba7 ba8 ba9 wa1 wa2 wa3 wa4 wa5 wa6 wa7 wa8 wa9
      refine (mul_q pu.qv px.qv (4 * 2 ^ k) (by omega) (by omega) (by omega) (by omega) (by omega) (by omega)).mono ?_
      rintro e w201 ⟨s201, A201, n201, c201, t201, D201, m201, d201, rfl, pv, k201, l201, B201⟩
      replace H_a := Lib.hid (H_a.out.below B201)
      replace H_pa := Lib.hid (H_pa.out.below B201)
      replace H_ba := Lib.hid (H_ba.out.below B201)
      replace H_wa := Lib.hid (H_wa.out.below B201)
      replace ha := ha.below B201
      replace pp := pp.below B201
      replace px := px.below B201
      replace pu := pu.below B201
      replace hW := hW.trans (B201.mono hW.size)
      clear B201
      rw [← Rat.pow_succ] at pv
      clear pu
      have O_a := H_a
      have O_pa := H_pa
      have O_ba := H_ba
      have O_wa := H_wa
      obtain ⟨w202, hw202⟩ : ∃ x, x = rput w201 w31.heap.size s201 A201 n201 c201 t201 D201 m201 d201 := ⟨_, rfl⟩
      have HW202 : Hid (((((w201.setCell ⟨w31.heap.size, 0, none⟩ (.bool s201)).setCell ⟨w31.heap.size, 1, none⟩ (.slice A201 n201 c201)).setCell ⟨w31.heap.size, 2, none⟩ (.bool t201)).setCell ⟨w31.heap.size, 3, none⟩ (.slice D201 m201 d201)) = w202) := Lib.hid hw202.symm
      have OI := H_wa.out
      replace H_a : Hid (Rb w202 w.heap.size s A n c t B m d) := Lib.hid (by rw [hw202]; exact H_a.out.rput (by omega))
      replace H_pa : Hid (Rb w202 w23.heap.size s23 A23 n23 c23 t23 D23 m23 d23) := Lib.hid (by rw [hw202]; exact H_pa.out.rput (by omega))
      replace H_ba : Hid (Rb w202 (w26.heap.size + 1) s29 A29 n29 c29 t29 D29 m29 d29) := Lib.hid (by rw [hw202]; exact H_ba.out.rput (by omega))
      replace ha := ha.rput (s' := s201) (A' := A201) (n' := n201) (c' := c201) (t' := t201) (B' := D201) (m' := m201) (d' := d201) OI
      replace pp := pp.rput (s' := s201) (A' := A201) (n' := n201) (c' := c201) (t' := t201) (B' := D201) (m' := m201) (d' := d201) OI
      replace px := px.rput (s' := s201) (A' := A201) (n' := n201) (c' := c201) (t' := t201) (B' := D201) (m' := m201) (d' := d201) OI
      replace pv := pv.rput (s' := s201) (A' := A201) (n' := n201) (c' := c201) (t' := t201) (B' := D201) (m' := m201) (d' := d201) OI
      rw [← hw202] at ha
      rw [← hw202] at pp
      rw [← hw202] at px
      rw [← hw202] at pv
      replace hW : Below w.heap.size w w202 := by rw [hw202]; exact below_rput hW lw_wa
      replace H_wa : Hid (Rb w202 w31.heap.size s201 A201 n201 c201 t201 D201 m201 d201) := Lib.hid (by rw [hw202]; exact OI.own)
      clear hw202 OI
      have P : Hid (∃ s7 A7 n7 c7 t7 B7 m7 d7, Rb w202 w31.heap.size s7 A7 n7 c7 t7 B7 m7 d7 ∧ Qc w202 s7 A7 n7 c7 t7 B7 m7 d7 (p⁻¹ ^ (k + 1)) ∧ n7 ≤ 4 * 2 ^ (k + 1) ∧ m7 ≤ 4 * 2 ^ (k + 1) ∧ Rb w202 w.heap.size s A n c t B m d ∧ Rb w202 w23.heap.size s23 A23 n23 c23 t23 D23 m23 d23 ∧ Rb w202 (w26.heap.size + 1) s29 A29 n29 c29 t29 D29 m29 d29 ∧ Qv w202 s A n c t B m d p ∧ Qc w202 s23 A23 n23 c23 t23 D23 m23 d23 (p⁻¹ ^ v) ∧ Qc w202 s29 A29 n29 c29 t29 D29 m29 d29 p⁻¹ ∧ Below w.heap.size w w202) := Lib.hid ⟨_, _, _, _, _, _, _, _, H_wa.out, pv, by rw [Nat.pow_succ]; omega, by rw [Nat.pow_succ]; omega, H_a.out, H_pa.out, H_ba.out, ha, pp, px, hW⟩
      obtain ⟨a1, a2, a3, a4, a5, a6, a7, a8, a9⟩ := O_a.out
      obtain ⟨pa1, pa2, pa3, pa4, pa5, pa6, pa7, pa8, pa9⟩ := O_pa.out
      obtain ⟨ba1, ba2, ba3, ba4, ba5, ba6, ba7, ba8, ba9⟩ := O_ba.out
      obtain ⟨wa1, wa2, wa3, wa4, wa5, wa6, wa7, wa8, wa9⟩ := O_wa.out
      clear hW H_wa H_a H_pa H_ba ha pp px pv
      go_wp2_with fail
      rw [HW202.out]
      go_roundw
      case rel => exact ⟨k + 1, by omega, by go_num, P⟩
      case measure => simp [intOf]; omega
    · obtain rfl : k = v := by omega
      clear hkv
      obtain ⟨a1, a2, a3, a4, a5, a6, a7, a8, a9⟩ := H_a.out
      obtain ⟨pa1, pa2, pa3, pa4, pa5, pa6, pa7, pa8, pa9⟩ := H_pa.out
      obtain ⟨ba1, ba2, ba3, ba4, ba5, ba6, ba7, ba8, ba9⟩ := H_ba.out
      obtain ⟨wa1, wa2, wa3, wa4, wa5, wa6, wa7, wa8, wa9⟩ := H_wa.out
      go_wp2_with fail
      clear a1 a2 a3 a4 a5 a6 a7 a8 a9 pa1 pa2 pa3 pa4 pa5 pa6 pa7 pa8 pa9 ba1 ba2 ba3 ba4 ba5 ba6 ba7 ba8 ba9 wa1 wa2 wa3 wa4 wa5 wa6 wa7 wa8 wa9
      refine (powm_q ha 2 (by omega) (by omega) (by omega) (by omega)).mono ?_
      rintro e w301 ⟨s301, A301, n301, c301, t301, D301, m301, d301, rfl, pm, k301, l301, B301⟩
      replace H_a := Lib.hid (H_a.out.below B301)
      replace H_pa := Lib.hid (H_pa.out.below B301)
      replace H_ba := Lib.hid (H_ba.out.below B301)
      replace H_wa := Lib.hid (H_wa.out.below B301)
      replace ha := ha.below B301
      replace pp := pp.below B301
      replace px := px.below B301
      replace pu := pu.below B301
      replace hW := hW.trans (B301.mono hW.size)
      clear B301
      have O_a := H_a
      have O_pa := H_pa
      have O_ba := H_ba
      have O_wa := H_wa
      obtain ⟨w302, hw302⟩ : ∃ x, x = w301.alloc (.cells #[.bool s301, .slice A301 n301 c301, .bool t301, .slice D301 m301 d301] 28) := ⟨_, rfl⟩
      have z302 : Below w301.heap.size w301 w302 := by rw [hw302]; exact zba _ _
      have HW302 : Hid (w301.alloc (.cells #[.bool s301, .slice A301 n301 c301, .bool t301, .slice D301 m301 d301] 28) = w302) := Lib.hid hw302.symm
      have nn_a_ma : ¬ (w.heap.size = w301.heap.size) := by have := H_a.out.2.2.2.2.2.2.2.2; omega
      have nm_a_ma : ¬ (w301.heap.size = w.heap.size) := by omega
      have nn_pa_ma : ¬ (w23.heap.size = w301.heap.size) := by have := H_pa.out.2.2.2.2.2.2.2.2; omega
      have nm_pa_ma : ¬ (w301.heap.size = w23.heap.size) := by omega
      have nn_ba_ma : ¬ ((w26.heap.size + 1) = w301.heap.size) := by have := H_ba.out.2.2.2.2.2.2.2.2; omega
      have nm_ba_ma : ¬ (w301.heap.size = (w26.heap.size + 1)) := by omega
      have nn_wa_ma : ¬ (w31.heap.size = w301.heap.size) := by have := H_wa.out.2.2.2.2.2.2.2.2; omega
      have nm_wa_ma : ¬ (w301.heap.size = w31.heap.size) := by omega
      have lw_ma : w.heap.size ≤ w301.heap.size := by have := hW.size; omega
      replace H_a := Lib.hid (H_a.out.below z302)
      replace H_pa := Lib.hid (H_pa.out.below z302)
      replace H_ba := Lib.hid (H_ba.out.below z302)
      replace H_wa := Lib.hid (H_wa.out.below z302)
      replace ha := ha.below z302
      replace pp := pp.below z302
      replace px := px.below z302
      replace pu := pu.below z302
      replace pm := pm.below z302
      replace hW := hW.trans (z302.mono hW.size)
      have H_ma : Hid (Rb w302 w301.heap.size s301 A301 n301 c301 t301 D301 m301 d301) := Lib.hid (by rw [hw302]; exact Rb.new _ _ _ _ _ _ _ _ _ _)
      clear z302 hw302
      obtain ⟨a1, a2, a3, a4, a5, a6, a7, a8, a9⟩ := O_a.out
      obtain ⟨pa1, pa2, pa3, pa4, pa5, pa6, pa7, pa8, pa9⟩ := O_pa.out
      obtain ⟨ba1, ba2, ba3, ba4, ba5, ba6, ba7, ba8, ba9⟩ := O_ba.out
      obtain ⟨wa1, wa2, wa3, wa4, wa5, wa6, wa7, wa8, wa9⟩ := O_wa.out
      go_wp2_with fail
      rw [HW302.out]
      clear a1 a2 a3 a4 a5 a6 a7 a8 a9 pa1 pa2 pa3 pa4 pa5 pa6 pa7 pa8 pa9 ba1 ba2 ba3 ba4 ba5 ba6 ba7 ba8 ba9 wa1 wa2 wa3 wa4 wa5 wa6 wa7 wa8 wa9 O_a O_pa O_ba O_wa
      refine (normalr_v pp (by omega) (by omega)).mono ?_
      rintro e w303 ⟨rfl, B303⟩
      replace H_a := Lib.hid (H_a.out.below B303)
      replace H_pa := Lib.hid (H_pa.out.below B303)
      replace H_ba := Lib.hid (H_ba.out.below B303)
      replace H_wa := Lib.hid (H_wa.out.below B303)
      replace H_ma := Lib.hid (H_ma.out.below B303)
      replace ha := ha.below B303
      replace pp := pp.below B303
      replace px := px.below B303
      replace pu := pu.below B303
      replace pm := pm.below B303
      replace hW := hW.trans (B303.mono hW.size)
      clear B303
      obtain ⟨a1, a2, a3, a4, a5, a6, a7, a8, a9⟩ := H_a.out
      obtain ⟨pa1, pa2, pa3, pa4, pa5, pa6, pa7, pa8, pa9⟩ := H_pa.out
      obtain ⟨ba1, ba2, ba3, ba4, ba5, ba6, ba7, ba8, ba9⟩ := H_ba.out
      obtain ⟨wa1, wa2, wa3, wa4, wa5, wa6, wa7, wa8, wa9⟩ := H_wa.out
      obtain ⟨ma1, ma2, ma3, ma4, ma5, ma6, ma7, ma8, ma9⟩ := H_ma.out
      go_wp2_with fail
      clear a1 a2 a3 a4 a5 a6 a7 a8 a9 pa1 pa2 pa3 pa4 pa5 pa6 pa7 pa8 pa9 ba1 ba2 ba3 ba4 ba5 ba6 ba7 ba8 ba9 wa1 wa2 wa3 wa4 wa5 wa6 wa7 wa8 wa9 ma1 ma2 ma3 ma4 ma5 ma6 ma7 ma8 ma9
      refine (cmp_q pp.qv pu.qv 2048 (by omega) (by omega) (by omega) (by omega) (by omega) (by omega) HC.out).mono ?_
      rintro e w304 ⟨rfl, B304⟩
      replace H_a := Lib.hid (H_a.out.below B304)
      replace H_pa := Lib.hid (H_pa.out.below B304)
      replace H_ba := Lib.hid (H_ba.out.below B304)
      replace H_wa := Lib.hid (H_wa.out.below B304)
      replace H_ma := Lib.hid (H_ma.out.below B304)
      replace ha := ha.below B304
      replace pp := pp.below B304
      replace px := px.below B304
      replace pu := pu.below B304
      replace pm := pm.below B304
      replace hW := hW.trans (B304.mono hW.size)
      clear B304
      go_wp2_with fail
      go_ret
      exact ⟨rfl, hW⟩
set_option maxRecDepth 100000 in
set_option maxHeartbeats 16000000 in
theorem ratpowers_calls (A B : Option Addr) (n c m d : Nat) (s t : Bool) (p : Rat) (e0 : Int) (w : World) (ha : Qv w s A n c t B m d p) (n9 : n ≤ 9223372036854775807) (m9 : m ≤ 9223372036854775807) :
    Calls Try.prog 6 #[.agg #[.bool s, .slice A n c, .bool t, .slice B m d], .int .i8 e0] w (TruePost w) := by
  obtain ⟨hl, hu⟩ := tmod10 e0
  by_cases h1 : n ≤ 2 ∧ m ≤ 2
  · by_cases hs : e0.tmod 10 < 0
    · by_cases hp : p = 0
      · exact powers_none ha h1.1 h1.2 (v := (e0.tmod 10).natAbs) (by omega) (by omega) (by omega) hp
      · exact powers_neg ha h1.1 h1.2 (v := (e0.tmod 10).natAbs) (by omega) (by omega) (by omega) hp
    · exact powers_pos ha h1.1 h1.2 (v := (e0.tmod 10).natAbs) (by omega) (by omega)
  · exact ratpowers_few ha n9 m9 h1
end Go.Proofs.Ytfpncmhaoadfdaa
