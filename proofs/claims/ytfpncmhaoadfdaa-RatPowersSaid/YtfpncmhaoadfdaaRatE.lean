/-
  Package rat: Pow of the least int.
-/
import Derived.Test.YtfpncmhaoadfdaaRatD
/-! Contracts: rat.Pow of the least int. -/
namespace Go.Proofs.Ytfpncmhaoadfdaa
open Go.RowKit
set_option linter.unusedVariables false
set_option linter.unusedSimpArgs false

set_option maxRecDepth 100000 in
set_option maxHeartbeats 4000000 in
theorem qpow_min {A B : Option Addr} {n c m d k : Nat} {s t : Bool} {N D : Int} {w : World} (hn : Zv w s A n c N) (hd : Zv w t B m d D) (hnk : n ≤ k) (hmk : m ≤ k) (h1 : 1 ≤ k) (hk : k ≤ 1073741824) :
    Calls Try.prog 34 #[.agg #[.bool s, .slice A n c, .bool t, .slice B m d], .int .i64 (-9223372036854775808)] w (QbPost 0 false 1 w) := by
  have hW := Below.refl w.heap.size w
  obtain ⟨wp0, hwp0⟩ : ∃ x, x = w.alloc (.cells #[.bool s, .slice A n c, .bool t, .slice B m d] 28) := ⟨_, rfl⟩
  have zp0 : Below w.heap.size w wp0 := by rw [hwp0]; exact zba _ _
  have sp0 : wp0.heap.size = w.heap.size + 1 := by rw [hwp0, World.size_alloc]
  have Ia : Rb wp0 w.heap.size s A n c t B m d := by rw [hwp0]; exact Rb.new _ _ _ _ _ _ _ _ _ _
  replace hn := hn.below zp0
  replace hd := hd.below zp0
  replace hW := hW.trans (zp0.mono hW.size)
  have H_a := Lib.hid Ia
  clear Ia zp0
  obtain ⟨wp1, hwp1⟩ : ∃ x, x = wp0.alloc (.cells #[.bool false, .slice none 0 0, .bool false, .slice none 0 0] 28) := ⟨_, rfl⟩
  have zp1 : Below wp0.heap.size wp0 wp1 := by rw [hwp1]; exact zba _ _
  have sp1 : wp1.heap.size = w.heap.size + 1 + 1 := by rw [hwp1, World.size_alloc, sp0]
  have Ir : Rb wp1 (w.heap.size + 1) false none 0 0 false none 0 0 := by rw [hwp1, ← sp0]; exact Rb.new _ _ _ _ _ _ _ _ _ _
  replace H_a := Lib.hid (H_a.out.below zp1)
  replace hn := hn.below zp1
  replace hd := hd.below zp1
  replace hW := hW.trans (zp1.mono hW.size)
  have H_r := Lib.hid Ir
  clear Ir zp1
  have HW : Hid (((w.alloc (.cells #[.bool s, .slice A n c, .bool t, .slice B m d] 28)).alloc (.cells #[.bool false, .slice none 0 0, .bool false, .slice none 0 0] 28)) = wp1) := Lib.hid (by rw [hwp1, hwp0])
  have nn_a_r : ¬ (w.heap.size = (w.heap.size + 1)) := by omega
  have nm_a_r : ¬ ((w.heap.size + 1) = w.heap.size) := by omega
  have lw_a : w.heap.size ≤ w.heap.size := by omega
  have lw_r : w.heap.size ≤ (w.heap.size + 1) := by omega
  clear hwp0 hwp1 sp0 sp1
  go_enter Try.func34, Try.ntmps34
  obtain ⟨a1, a2, a3, a4, a5, a6, a7, a8, a9⟩ := H_a.out
  obtain ⟨r1, r2, r3, r4, r5, r6, r7, r8, r9⟩ := H_r.out
  go_wp2_with fail
  rw [HW.out]
  clear a1 a2 a3 a4 a5 a6 a7 a8 a9 r1 r2 r3 r4 r5 r6 r7 r8 r9
  refine (normal_v (k := k) hn hd hnk hmk h1 (by omega)).mono ?_
  rintro e w21 ⟨s21, A21, n21, c21, t21, D21, m21, d21, rfl, pq, k21, l21, B21⟩
  replace H_a := Lib.hid (H_a.out.below B21)
  replace H_r := Lib.hid (H_r.out.below B21)
  replace hn := hn.below B21
  replace hd := hd.below B21
  replace hW := hW.trans (B21.mono hW.size)
  clear B21
  have O_a := H_a
  have O_r := H_r
  obtain ⟨w22, hw22⟩ : ∃ x, x = rput w21 w.heap.size s21 A21 n21 c21 t21 D21 m21 d21 := ⟨_, rfl⟩
  have HW22 : Hid (((((w21.setCell ⟨w.heap.size, 0, none⟩ (.bool s21)).setCell ⟨w.heap.size, 1, none⟩ (.slice A21 n21 c21)).setCell ⟨w.heap.size, 2, none⟩ (.bool t21)).setCell ⟨w.heap.size, 3, none⟩ (.slice D21 m21 d21)) = w22) := Lib.hid hw22.symm
  have OI := H_a.out
  replace H_r : Hid (Rb w22 (w.heap.size + 1) false none 0 0 false none 0 0) := Lib.hid (by rw [hw22]; exact H_r.out.rput (by omega))
  replace hn := hn.rput (s' := s21) (A' := A21) (n' := n21) (c' := c21) (t' := t21) (B' := D21) (m' := m21) (d' := d21) OI
  replace hd := hd.rput (s' := s21) (A' := A21) (n' := n21) (c' := c21) (t' := t21) (B' := D21) (m' := m21) (d' := d21) OI
  replace pq := pq.rput (s' := s21) (A' := A21) (n' := n21) (c' := c21) (t' := t21) (B' := D21) (m' := m21) (d' := d21) OI
  rw [← hw22] at hn
  rw [← hw22] at hd
  rw [← hw22] at pq
  replace hW : Below w.heap.size w w22 := by rw [hw22]; exact below_rput hW lw_a
  replace H_a : Hid (Rb w22 w.heap.size s21 A21 n21 c21 t21 D21 m21 d21) := Lib.hid (by rw [hw22]; exact OI.own)
  clear hw22 OI
  clear hn hd
  obtain ⟨a1, a2, a3, a4, a5, a6, a7, a8, a9⟩ := O_a.out
  obtain ⟨r1, r2, r3, r4, r5, r6, r7, r8, r9⟩ := O_r.out
  go_upto_region 3 with fail
  rw [HW22.out]
  clear a1 a2 a3 a4 a5 a6 a7 a8 a9 r1 r2 r3 r4 r5 r6 r7 r8 r9 O_a O_r
  have O_a := H_a
  have O_r := H_r
  obtain ⟨w23, hw23⟩ : ∃ x, x = rput w22 w.heap.size t21 D21 m21 d21 s21 A21 n21 c21 := ⟨_, rfl⟩
  have HW23 : Hid (((((w22.setCell ⟨w.heap.size, 0, none⟩ (.bool t21)).setCell ⟨w.heap.size, 1, none⟩ (.slice D21 m21 d21)).setCell ⟨w.heap.size, 2, none⟩ (.bool s21)).setCell ⟨w.heap.size, 3, none⟩ (.slice A21 n21 c21)) = w23) := Lib.hid hw23.symm
  have OI := H_a.out
  replace H_r : Hid (Rb w23 (w.heap.size + 1) false none 0 0 false none 0 0) := Lib.hid (by rw [hw23]; exact H_r.out.rput (by omega))
  replace pq := pq.rput (s' := t21) (A' := D21) (n' := m21) (c' := d21) (t' := s21) (B' := A21) (m' := n21) (d' := c21) OI
  rw [← hw23] at pq
  replace hW : Below w.heap.size w w23 := by rw [hw23]; exact below_rput hW lw_a
  replace H_a : Hid (Rb w23 w.heap.size t21 D21 m21 d21 s21 A21 n21 c21) := Lib.hid (by rw [hw23]; exact OI.own)
  clear hw23 OI
  obtain ⟨a1, a2, a3, a4, a5, a6, a7, a8, a9⟩ := O_a.out
  obtain ⟨r1, r2, r3, r4, r5, r6, r7, r8, r9⟩ := O_r.out
  go_wp2_with fail
  rw [HW23.out]
  clear a1 a2 a3 a4 a5 a6 a7 a8 a9 r1 r2 r3 r4 r5 r6 r7 r8 r9 O_a O_r
  rw [show wrap64 9223372036854775808 = -9223372036854775808 from by decide +kernel]
  refine (zpow_min).mono ?_
  rintro e w24 ⟨rfl, B24⟩
  replace H_a := Lib.hid (H_a.out.below B24)
  replace H_r := Lib.hid (H_r.out.below B24)
  replace pq := pq.below B24
  replace hW := hW.trans (B24.mono hW.size)
  clear B24
  have O_a := H_a
  have O_r := H_r
  obtain ⟨w25, hw25⟩ : ∃ x, x = w24.alloc (.cells #[.bool false, .slice none 0 0] 25) := ⟨_, rfl⟩
  have z25 : Below w24.heap.size w24 w25 := by rw [hw25]; exact zba _ _
  have HW25 : Hid (w24.alloc (.cells #[.bool false, .slice none 0 0] 25) = w25) := Lib.hid hw25.symm
  have nn_a_x : ¬ (w.heap.size = w24.heap.size) := by have := H_a.out.2.2.2.2.2.2.2.2; omega
  have nm_a_x : ¬ (w24.heap.size = w.heap.size) := by omega
  have nn_r_x : ¬ ((w.heap.size + 1) = w24.heap.size) := by have := H_r.out.2.2.2.2.2.2.2.2; omega
  have nm_r_x : ¬ (w24.heap.size = (w.heap.size + 1)) := by omega
  have lw_x : w.heap.size ≤ w24.heap.size := hW.size
  replace H_a := Lib.hid (H_a.out.below z25)
  replace H_r := Lib.hid (H_r.out.below z25)
  replace pq := pq.below z25
  replace hW := hW.trans (z25.mono hW.size)
  have H_x : Hid (Ib w25 w24.heap.size false none 0 0) := Lib.hid (by rw [hw25]; exact Ib.new _ _ _ _ _ _)
  clear z25 hw25
  obtain ⟨a1, a2, a3, a4, a5, a6, a7, a8, a9⟩ := O_a.out
  obtain ⟨r1, r2, r3, r4, r5, r6, r7, r8, r9⟩ := O_r.out
  go_wp2_with fail
  rw [HW25.out]
  clear a1 a2 a3 a4 a5 a6 a7 a8 a9 r1 r2 r3 r4 r5 r6 r7 r8 r9 O_a O_r
  refine (zpow_min).mono ?_
  rintro e w26 ⟨rfl, B26⟩
  replace H_a := Lib.hid (H_a.out.below B26)
  replace H_r := Lib.hid (H_r.out.below B26)
  replace H_x := Lib.hid (H_x.out.below B26)
  replace pq := pq.below B26
  replace hW := hW.trans (B26.mono hW.size)
  clear B26
  have O_a := H_a
  have O_r := H_r
  have O_x := H_x
  obtain ⟨w27, hw27⟩ : ∃ x, x = w26.alloc (.cells #[.bool false, .slice none 0 0] 25) := ⟨_, rfl⟩
  have z27 : Below w26.heap.size w26 w27 := by rw [hw27]; exact zba _ _
  have HW27 : Hid (w26.alloc (.cells #[.bool false, .slice none 0 0] 25) = w27) := Lib.hid hw27.symm
  have nn_a_y : ¬ (w.heap.size = w26.heap.size) := by have := H_a.out.2.2.2.2.2.2.2.2; omega
  have nm_a_y : ¬ (w26.heap.size = w.heap.size) := by omega
  have nn_r_y : ¬ ((w.heap.size + 1) = w26.heap.size) := by have := H_r.out.2.2.2.2.2.2.2.2; omega
  have nm_r_y : ¬ (w26.heap.size = (w.heap.size + 1)) := by omega
  have nn_x_y : ¬ (w24.heap.size = w26.heap.size) := by have := H_x.out.2.2.2.2; omega
  have nm_x_y : ¬ (w26.heap.size = w24.heap.size) := by omega
  have lw_y : w.heap.size ≤ w26.heap.size := hW.size
  replace H_a := Lib.hid (H_a.out.below z27)
  replace H_r := Lib.hid (H_r.out.below z27)
  replace H_x := Lib.hid (H_x.out.below z27)
  replace pq := pq.below z27
  replace hW := hW.trans (z27.mono hW.size)
  have H_y : Hid (Ib w27 w26.heap.size false none 0 0) := Lib.hid (by rw [hw27]; exact Ib.new _ _ _ _ _ _)
  clear z27 hw27
  obtain ⟨a1, a2, a3, a4, a5, a6, a7, a8, a9⟩ := O_a.out
  obtain ⟨r1, r2, r3, r4, r5, r6, r7, r8, r9⟩ := O_r.out
  obtain ⟨x1, x2, x3, x4, x5⟩ := O_x.out
  go_wp2_with fail
  rw [HW27.out]
  clear a1 a2 a3 a4 a5 a6 a7 a8 a9 r1 r2 r3 r4 r5 r6 r7 r8 r9 x1 x2 x3 x4 x5 O_a O_r O_x
  refine (qof_v (k := 1) (N := 0) (zc_nought _).zv (by omega) (by omega) (by omega)).mono ?_
  rintro e w28 ⟨s28, A28, n28, c28, t28, D28, m28, d28, rfl, pr, k28, l28, B28⟩
  replace H_a := Lib.hid (H_a.out.below B28)
  replace H_r := Lib.hid (H_r.out.below B28)
  replace H_x := Lib.hid (H_x.out.below B28)
  replace H_y := Lib.hid (H_y.out.below B28)
  replace pq := pq.below B28
  replace hW := hW.trans (B28.mono hW.size)
  clear B28
  rw [show ((0 : Int) : Rat) = 0 from rfl] at pr
  have P := Lib.hid (qbfin (b := false) (q := 0) (w := w) (k := 1) pr H_r.out (by omega) (by omega) lw_r hW)
  unfold rput at P
  obtain ⟨a1, a2, a3, a4, a5, a6, a7, a8, a9⟩ := H_a.out
  obtain ⟨r1, r2, r3, r4, r5, r6, r7, r8, r9⟩ := H_r.out
  obtain ⟨x1, x2, x3, x4, x5⟩ := H_x.out
  obtain ⟨y1, y2, y3, y4, y5⟩ := H_y.out
  go_wp2_with fail
  clear a1 a2 a3 a4 a5 a6 a7 a8 a9 r1 r2 r3 r4 r5 r6 r7 r8 r9 x1 x2 x3 x4 x5 y1 y2 y3 y4 y5
  obtain ⟨r1, r2, r3, r4, r5, r6, r7, r8, r9⟩ := H_r.out
  exact bodyPost_ret (v := (.tuple #[.agg #[.bool s28, .slice A28 n28 c28, .bool t28, .slice D28 m28 d28], .bool false])) (by simp [results, Try.results34, go_sem, r1, r2, r3, r4]) rfl P.out
end Go.Proofs.Ytfpncmhaoadfdaa
