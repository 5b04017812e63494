/-
  The walk of RatMakes.
-/
import Derived.Test.YtfpncmhaoadfdaaRatW
/-! The walk of RatMakes. -/
namespace Go.Proofs.Ytfpncmhaoadfdaa
open Go.RowKit
set_option linter.unusedVariables false
set_option linter.unusedSimpArgs false

set_option maxRecDepth 100000 in
set_option maxHeartbeats 16000000 in
theorem makes_few1 {A B : Option Addr} {n c m d : Nat} {s t : Bool} {N D : Int} {w : World} (hn : Zv w s A n c N) (hd : Zv w t B m d D) (h1 : 5 < n) (hn9 : n ≤ 9223372036854775807) :
    Calls Try.prog 3 #[.agg #[.bool s, .slice A n c], .agg #[.bool t, .slice B m d]] w (TruePost w) := by
  have hW := Below.refl w.heap.size w
  obtain ⟨wp0, hwp0⟩ : ∃ x, x = w.alloc (.cells #[.bool s, .slice A n c] 25) := ⟨_, rfl⟩
  have zp0 : Below w.heap.size w wp0 := by rw [hwp0]; exact zba _ _
  have sp0 : wp0.heap.size = w.heap.size + 1 := by rw [hwp0, World.size_alloc]
  have Ia : Ib wp0 w.heap.size s A n c := by rw [hwp0]; exact Ib.new _ _ _ _ _ _
  replace hn := hn.below zp0
  replace hd := hd.below zp0
  replace hW := hW.trans (zp0.mono hW.size)
  have H_a := Lib.hid Ia
  clear Ia zp0
  obtain ⟨wp1, hwp1⟩ : ∃ x, x = wp0.alloc (.cells #[.bool t, .slice B m d] 25) := ⟨_, rfl⟩
  have zp1 : Below wp0.heap.size wp0 wp1 := by rw [hwp1]; exact zba _ _
  have sp1 : wp1.heap.size = w.heap.size + 1 + 1 := by rw [hwp1, World.size_alloc, sp0]
  have Ib : Ib wp1 (w.heap.size + 1) t B m d := by rw [hwp1, ← sp0]; exact Ib.new _ _ _ _ _ _
  replace H_a := Lib.hid (H_a.out.below zp1)
  replace hn := hn.below zp1
  replace hd := hd.below zp1
  replace hW := hW.trans (zp1.mono hW.size)
  have H_b := Lib.hid Ib
  clear Ib zp1
  have HW : Hid (((w.alloc (.cells #[.bool s, .slice A n c] 25)).alloc (.cells #[.bool t, .slice B m d] 25)) = wp1) := Lib.hid (by rw [hwp1, hwp0])
  have nn_a_b : ¬ (w.heap.size = (w.heap.size + 1)) := by omega
  have nm_a_b : ¬ ((w.heap.size + 1) = w.heap.size) := by omega
  have lw_a : w.heap.size ≤ w.heap.size := by omega
  have lw_b : w.heap.size ≤ (w.heap.size + 1) := by omega
  clear hwp0 hwp1 sp0 sp1
  go_enter Try.func3, Try.ntmps3
  obtain ⟨a1, a2, a3, a4, a5⟩ := H_a.out
  obtain ⟨b1, b2, b3, b4, b5⟩ := H_b.out
  go_wp2_with fail
  rw [HW.out]
  clear a1 a2 a3 a4 a5 b1 b2 b3 b4 b5
  refine (qawake_v _).mono ?_
  rintro e w21 ⟨rfl, B21⟩
  replace H_a := Lib.hid (H_a.out.below B21)
  replace H_b := Lib.hid (H_b.out.below B21)
  replace hn := hn.below B21
  replace hd := hd.below B21
  replace hW := hW.trans (B21.mono hW.size)
  clear B21
  obtain ⟨a1, a2, a3, a4, a5⟩ := H_a.out
  obtain ⟨b1, b2, b3, b4, b5⟩ := H_b.out
  go_wp2_with fail
  clear a1 a2 a3 a4 a5 b1 b2 b3 b4 b5
  refine (qawake_v _).mono ?_
  rintro e w22 ⟨rfl, B22⟩
  replace H_a := Lib.hid (H_a.out.below B22)
  replace H_b := Lib.hid (H_b.out.below B22)
  replace hn := hn.below B22
  replace hd := hd.below B22
  replace hW := hW.trans (B22.mono hW.size)
  clear B22
  go_wp2_with fail
  go_ret
  exact ⟨rfl, hW⟩
set_option maxRecDepth 100000 in
set_option maxHeartbeats 16000000 in
theorem makes_few2 {A B : Option Addr} {n c m d : Nat} {s t : Bool} {N D : Int} {w : World} (hn : Zv w s A n c N) (hd : Zv w t B m d D) (h1 : n ≤ 5) (h2 : 5 < m) (hm9 : m ≤ 9223372036854775807) :
    Calls Try.prog 3 #[.agg #[.bool s, .slice A n c], .agg #[.bool t, .slice B m d]] w (TruePost w) := by
  have hW := Below.refl w.heap.size w
  obtain ⟨wp0, hwp0⟩ : ∃ x, x = w.alloc (.cells #[.bool s, .slice A n c] 25) := ⟨_, rfl⟩
  have zp0 : Below w.heap.size w wp0 := by rw [hwp0]; exact zba _ _
  have sp0 : wp0.heap.size = w.heap.size + 1 := by rw [hwp0, World.size_alloc]
  have Ia : Ib wp0 w.heap.size s A n c := by rw [hwp0]; exact Ib.new _ _ _ _ _ _
  replace hn := hn.below zp0
  replace hd := hd.below zp0
  replace hW := hW.trans (zp0.mono hW.size)
  have H_a := Lib.hid Ia
  clear Ia zp0
  obtain ⟨wp1, hwp1⟩ : ∃ x, x = wp0.alloc (.cells #[.bool t, .slice B m d] 25) := ⟨_, rfl⟩
  have zp1 : Below wp0.heap.size wp0 wp1 := by rw [hwp1]; exact zba _ _
  have sp1 : wp1.heap.size = w.heap.size + 1 + 1 := by rw [hwp1, World.size_alloc, sp0]
  have Ib : Ib wp1 (w.heap.size + 1) t B m d := by rw [hwp1, ← sp0]; exact Ib.new _ _ _ _ _ _
  replace H_a := Lib.hid (H_a.out.below zp1)
  replace hn := hn.below zp1
  replace hd := hd.below zp1
  replace hW := hW.trans (zp1.mono hW.size)
  have H_b := Lib.hid Ib
  clear Ib zp1
  have HW : Hid (((w.alloc (.cells #[.bool s, .slice A n c] 25)).alloc (.cells #[.bool t, .slice B m d] 25)) = wp1) := Lib.hid (by rw [hwp1, hwp0])
  have nn_a_b : ¬ (w.heap.size = (w.heap.size + 1)) := by omega
  have nm_a_b : ¬ ((w.heap.size + 1) = w.heap.size) := by omega
  have lw_a : w.heap.size ≤ w.heap.size := by omega
  have lw_b : w.heap.size ≤ (w.heap.size + 1) := by omega
  clear hwp0 hwp1 sp0 sp1
  go_enter Try.func3, Try.ntmps3
  obtain ⟨a1, a2, a3, a4, a5⟩ := H_a.out
  obtain ⟨b1, b2, b3, b4, b5⟩ := H_b.out
  go_wp2_with fail
  rw [HW.out]
  clear a1 a2 a3 a4 a5 b1 b2 b3 b4 b5
  refine (qawake_v _).mono ?_
  rintro e w21 ⟨rfl, B21⟩
  replace H_a := Lib.hid (H_a.out.below B21)
  replace H_b := Lib.hid (H_b.out.below B21)
  replace hn := hn.below B21
  replace hd := hd.below B21
  replace hW := hW.trans (B21.mono hW.size)
  clear B21
  obtain ⟨a1, a2, a3, a4, a5⟩ := H_a.out
  obtain ⟨b1, b2, b3, b4, b5⟩ := H_b.out
  go_wp2_with fail
  clear a1 a2 a3 a4 a5 b1 b2 b3 b4 b5
  refine (qawake_v _).mono ?_
  rintro e w22 ⟨rfl, B22⟩
  replace H_a := Lib.hid (H_a.out.below B22)
  replace H_b := Lib.hid (H_b.out.below B22)
  replace hn := hn.below B22
  replace hd := hd.below B22
  replace hW := hW.trans (B22.mono hW.size)
  clear B22
  go_wp2_with fail
  go_ret
  exact ⟨rfl, hW⟩
set_option maxRecDepth 100000 in
set_option maxHeartbeats 16000000 in
theorem makes_zero {A B : Option Addr} {n c m d : Nat} {s t : Bool} {N D : Int} {w : World} (hn : Zv w s A n c N) (hd : Zv w t B m d D) (h1 : n ≤ 5) (h2 : m ≤ 5) (h0 : D = 0) :
    Calls Try.prog 3 #[.agg #[.bool s, .slice A n c], .agg #[.bool t, .slice B m d]] w (TruePost w) := by
  have hW := Below.refl w.heap.size w
  obtain ⟨wp0, hwp0⟩ : ∃ x, x = w.alloc (.cells #[.bool s, .slice A n c] 25) := ⟨_, rfl⟩
  have zp0 : Below w.heap.size w wp0 := by rw [hwp0]; exact zba _ _
  have sp0 : wp0.heap.size = w.heap.size + 1 := by rw [hwp0, World.size_alloc]
  have Ia : Ib wp0 w.heap.size s A n c := by rw [hwp0]; exact Ib.new _ _ _ _ _ _
  replace hn := hn.below zp0
  replace hd := hd.below zp0
  replace hW := hW.trans (zp0.mono hW.size)
  have H_a := Lib.hid Ia
  clear Ia zp0
  obtain ⟨wp1, hwp1⟩ : ∃ x, x = wp0.alloc (.cells #[.bool t, .slice B m d] 25) := ⟨_, rfl⟩
  have zp1 : Below wp0.heap.size wp0 wp1 := by rw [hwp1]; exact zba _ _
  have sp1 : wp1.heap.size = w.heap.size + 1 + 1 := by rw [hwp1, World.size_alloc, sp0]
  have Ib : Ib wp1 (w.heap.size + 1) t B m d := by rw [hwp1, ← sp0]; exact Ib.new _ _ _ _ _ _
  replace H_a := Lib.hid (H_a.out.below zp1)
  replace hn := hn.below zp1
  replace hd := hd.below zp1
  replace hW := hW.trans (zp1.mono hW.size)
  have H_b := Lib.hid Ib
  clear Ib zp1
  have HW : Hid (((w.alloc (.cells #[.bool s, .slice A n c] 25)).alloc (.cells #[.bool t, .slice B m d] 25)) = wp1) := Lib.hid (by rw [hwp1, hwp0])
  have nn_a_b : ¬ (w.heap.size = (w.heap.size + 1)) := by omega
  have nm_a_b : ¬ ((w.heap.size + 1) = w.heap.size) := by omega
  have lw_a : w.heap.size ≤ w.heap.size := by omega
  have lw_b : w.heap.size ≤ (w.heap.size + 1) := by omega
  clear hwp0 hwp1 sp0 sp1
  subst h0
  have HO : Hid (((N : Rat)).num * 1 = N * (((N : Rat)).den : Int)) := Lib.hid (by rw [Rat.num_intCast, Rat.den_intCast]; omega)
  have HB : Hid (decide ((0 : Int) ≠ 0) = false) := Lib.hid (by decide)
  have HD1 : Hid ((Rat.divInt N 0).den = 1) := Lib.hid (by rw [Rat.divInt_zero]; rfl)
  have HI : Hid ((Rat.divInt N 0).num * 1 = 0 * ((Rat.divInt N 0).den : Int)) := Lib.hid (by rw [Rat.divInt_zero]; rfl)
  have HSW : Hid ((Rat.divInt N 0).num.sign = 0) := Lib.hid (by rw [Rat.divInt_zero]; rfl)
  have HSD : Hid ((0 : Int).sign = 0) := Lib.hid rfl
  go_enter Try.func3, Try.ntmps3
  obtain ⟨a1, a2, a3, a4, a5⟩ := H_a.out
  obtain ⟨b1, b2, b3, b4, b5⟩ := H_b.out
  go_wp2_with fail
  rw [HW.out]
  clear a1 a2 a3 a4 a5 b1 b2 b3 b4 b5
  refine (qawake_v _).mono ?_
  rintro e w21 ⟨rfl, B21⟩
  replace H_a := Lib.hid (H_a.out.below B21)
  replace H_b := Lib.hid (H_b.out.below B21)
  replace hn := hn.below B21
  replace hd := hd.below B21
  replace hW := hW.trans (B21.mono hW.size)
  clear B21
  obtain ⟨a1, a2, a3, a4, a5⟩ := H_a.out
  obtain ⟨b1, b2, b3, b4, b5⟩ := H_b.out
  go_wp2_with fail
  clear a1 a2 a3 a4 a5 b1 b2 b3 b4 b5
  refine (make_v (k := 5) (b := false) hn hd (by omega) (by omega) (by omega) (by omega) HB.out).mono ?_
  rintro e w22 ⟨s22, A22, n22, c22, t22, D22, m22, d22, rfl, pa, k22, l22, B22⟩
  replace H_a := Lib.hid (H_a.out.below B22)
  replace H_b := Lib.hid (H_b.out.below B22)
  replace hn := hn.below B22
  replace hd := hd.below B22
  replace hW := hW.trans (B22.mono hW.size)
  clear B22
  have O_a := H_a
  have O_b := H_b
  obtain ⟨w23, hw23⟩ : ∃ x, x = w22.alloc (.cells #[.bool s22, .slice A22 n22 c22, .bool t22, .slice D22 m22 d22] 28) := ⟨_, rfl⟩
  have z23 : Below w22.heap.size w22 w23 := by rw [hw23]; exact zba _ _
  have HW23 : Hid (w22.alloc (.cells #[.bool s22, .slice A22 n22 c22, .bool t22, .slice D22 m22 d22] 28) = w23) := Lib.hid hw23.symm
  have nn_a_q : ¬ (w.heap.size = w22.heap.size) := by have := H_a.out.2.2.2.2; omega
  have nm_a_q : ¬ (w22.heap.size = w.heap.size) := by omega
  have nn_b_q : ¬ ((w.heap.size + 1) = w22.heap.size) := by have := H_b.out.2.2.2.2; omega
  have nm_b_q : ¬ (w22.heap.size = (w.heap.size + 1)) := by omega
  have lw_q : w.heap.size ≤ w22.heap.size := by have := hW.size; omega
  replace H_a := Lib.hid (H_a.out.below z23)
  replace H_b := Lib.hid (H_b.out.below z23)
  replace hn := hn.below z23
  replace hd := hd.below z23
  replace pa := pa.below z23
  replace hW := hW.trans (z23.mono hW.size)
  have H_q : Hid (Rb w23 w22.heap.size s22 A22 n22 c22 t22 D22 m22 d22) := Lib.hid (by rw [hw23]; exact Rb.new _ _ _ _ _ _ _ _ _ _)
  clear z23 hw23
  obtain ⟨a1, a2, a3, a4, a5⟩ := O_a.out
  obtain ⟨b1, b2, b3, b4, b5⟩ := O_b.out
  go_wp2_with fail
  rw [HW23.out]
  clear a1 a2 a3 a4 a5 b1 b2 b3 b4 b5 O_a O_b
  refine (whole_yes (k := 5) hn hd (by omega) (by omega) (by omega) (by omega) HD1.out).mono ?_
  rintro e w24 ⟨s24, A24, n24, c24, rfl, pw, k24, B24⟩
  replace H_a := Lib.hid (H_a.out.below B24)
  replace H_b := Lib.hid (H_b.out.below B24)
  replace H_q := Lib.hid (H_q.out.below B24)
  replace hn := hn.below B24
  replace hd := hd.below B24
  replace pa := pa.below B24
  replace hW := hW.trans (B24.mono hW.size)
  clear B24
  have O_a := H_a
  have O_b := H_b
  have O_q := H_q
  obtain ⟨w25, hw25⟩ : ∃ x, x = w24.alloc (.cells #[.bool s24, .slice A24 n24 c24] 25) := ⟨_, rfl⟩
  have z25 : Below w24.heap.size w24 w25 := by rw [hw25]; exact zba _ _
  have HW25 : Hid (w24.alloc (.cells #[.bool s24, .slice A24 n24 c24] 25) = w25) := Lib.hid hw25.symm
  have nn_a_w : ¬ (w.heap.size = w24.heap.size) := by have := H_a.out.2.2.2.2; omega
  have nm_a_w : ¬ (w24.heap.size = w.heap.size) := by omega
  have nn_b_w : ¬ ((w.heap.size + 1) = w24.heap.size) := by have := H_b.out.2.2.2.2; omega
  have nm_b_w : ¬ (w24.heap.size = (w.heap.size + 1)) := by omega
  have nn_q_w : ¬ (w22.heap.size = w24.heap.size) := by have := H_q.out.2.2.2.2.2.2.2.2; omega
  have nm_q_w : ¬ (w24.heap.size = w22.heap.size) := by omega
  have lw_w : w.heap.size ≤ w24.heap.size := by have := hW.size; omega
  replace H_a := Lib.hid (H_a.out.below z25)
  replace H_b := Lib.hid (H_b.out.below z25)
  replace H_q := Lib.hid (H_q.out.below z25)
  replace hn := hn.below z25
  replace hd := hd.below z25
  replace pa := pa.below z25
  replace pw := pw.below z25
  replace hW := hW.trans (z25.mono hW.size)
  have H_w : Hid (Ib w25 w24.heap.size s24 A24 n24 c24) := Lib.hid (by rw [hw25]; exact Ib.new _ _ _ _ _ _)
  clear z25 hw25
  obtain ⟨a1, a2, a3, a4, a5⟩ := O_a.out
  obtain ⟨b1, b2, b3, b4, b5⟩ := O_b.out
  obtain ⟨q1, q2, q3, q4, q5, q6, q7, q8, q9⟩ := O_q.out
  go_wp2_with fail
  rw [HW25.out]
  clear a1 a2 a3 a4 a5 b1 b2 b3 b4 b5 q1 q2 q3 q4 q5 q6 q7 q8 q9 O_a O_b O_q
  refine (qof_v (k := 5) hn (by omega) (by omega) (by omega)).mono ?_
  rintro e w26 ⟨s26, A26, n26, c26, t26, D26, m26, d26, rfl, po, k26, l26, B26⟩
  replace H_a := Lib.hid (H_a.out.below B26)
  replace H_b := Lib.hid (H_b.out.below B26)
  replace H_q := Lib.hid (H_q.out.below B26)
  replace H_w := Lib.hid (H_w.out.below B26)
  replace hn := hn.below B26
  replace hd := hd.below B26
  replace pa := pa.below B26
  replace pw := pw.below B26
  replace hW := hW.trans (B26.mono hW.size)
  clear B26
  have O_a := H_a
  have O_b := H_b
  have O_q := H_q
  have O_w := H_w
  obtain ⟨w27, hw27⟩ : ∃ x, x = w26.alloc (.cells #[.bool s26, .slice A26 n26 c26, .bool t26, .slice D26 m26 d26] 28) := ⟨_, rfl⟩
  have z27 : Below w26.heap.size w26 w27 := by rw [hw27]; exact zba _ _
  have HW27 : Hid (w26.alloc (.cells #[.bool s26, .slice A26 n26 c26, .bool t26, .slice D26 m26 d26] 28) = w27) := Lib.hid hw27.symm
  have nn_a_o : ¬ (w.heap.size = w26.heap.size) := by have := H_a.out.2.2.2.2; omega
  have nm_a_o : ¬ (w26.heap.size = w.heap.size) := by omega
  have nn_b_o : ¬ ((w.heap.size + 1) = w26.heap.size) := by have := H_b.out.2.2.2.2; omega
  have nm_b_o : ¬ (w26.heap.size = (w.heap.size + 1)) := by omega
  have nn_q_o : ¬ (w22.heap.size = w26.heap.size) := by have := H_q.out.2.2.2.2.2.2.2.2; omega
  have nm_q_o : ¬ (w26.heap.size = w22.heap.size) := by omega
  have nn_w_o : ¬ (w24.heap.size = w26.heap.size) := by have := H_w.out.2.2.2.2; omega
  have nm_w_o : ¬ (w26.heap.size = w24.heap.size) := by omega
  have lw_o : w.heap.size ≤ w26.heap.size := by have := hW.size; omega
  replace H_a := Lib.hid (H_a.out.below z27)
  replace H_b := Lib.hid (H_b.out.below z27)
  replace H_q := Lib.hid (H_q.out.below z27)
  replace H_w := Lib.hid (H_w.out.below z27)
  replace hn := hn.below z27
  replace hd := hd.below z27
  replace pa := pa.below z27
  replace pw := pw.below z27
  replace po := po.below z27
  replace hW := hW.trans (z27.mono hW.size)
  have H_o : Hid (Rb w27 w26.heap.size s26 A26 n26 c26 t26 D26 m26 d26) := Lib.hid (by rw [hw27]; exact Rb.new _ _ _ _ _ _ _ _ _ _)
  clear z27 hw27
  obtain ⟨a1, a2, a3, a4, a5⟩ := O_a.out
  obtain ⟨b1, b2, b3, b4, b5⟩ := O_b.out
  obtain ⟨q1, q2, q3, q4, q5, q6, q7, q8, q9⟩ := O_q.out
  obtain ⟨w1, w2, w3, w4, w5⟩ := O_w.out
  go_wp2_with fail
  rw [HW27.out]
  clear a1 a2 a3 a4 a5 b1 b2 b3 b4 b5 q1 q2 q3 q4 q5 q6 q7 q8 q9 w1 w2 w3 w4 w5 O_a O_b O_q O_w
  refine region7 [] 5 [IsK (.agg #[.bool s26, .slice A26 n26 c26, .bool t26, .slice D26 m26 d26]), IsK (.agg #[.bool s, .slice A n c]), IsC 1 1, IsK (.bool true), IsK (.bool false)] (fun _ _ d _ _ h => by cases d <;> exact h) (by kernel_rfl) (by kernel_rfl) (by kernel_rfl) ⟨stay_k _, stay_k _, stay_c _ _, stay_k _, stay_k _, trivial⟩ ?_ ?_
  · refine HopAll.cons rfl ?_ (HopAll.cons rfl ?_ (HopAll.cons rfl ?_ (HopAll.cons rfl ?_ (HopAll.cons rfl ?_ HopAll.nil))))
    · intro a w1 hB ho hp K hK
      have e9 : a.eval (.tmp 9) = (.pointer (some ⟨w26.heap.size, 0, none⟩)) := ho 9 (by kernel_rfl)
      obtain ⟨u1, u2, u3, u4, u5, u6, u7, u8, u9⟩ := H_o.out.below hB
      exact hop_load (wanted_none rfl) rfl e9 (run_ldq u1 u2 u3 u4) (hK _ _ rfl (Below.refl _ _))
    · intro a w1 hB ho hp K hK
      have e2 : a.eval (.tmp 2) = (.pointer (some ⟨w.heap.size, 0, none⟩)) := ho 2 (by kernel_rfl)
      obtain ⟨u1, u2, u3, u4, u5⟩ := H_a.out.below hB
      exact hop_load (wanted_none rfl) rfl e2 (run_ldz u1 u2) (hK _ _ rfl (Below.refl _ _))
    · intro a w1 hB ho hp K hK
      refine hop_call (wanted_none rfl) rfl (args := #[.int .i64 (1)]) (by simp only [List.map_toArray, List.map_cons, List.map_nil, eval_const]) (ent7 (by kernel_rfl) _ _) (zof_v 1 (by omega) (by omega) _) ?_
      rintro e w2 ⟨s, A, n, c, rfl, p, k, B⟩
      exact ⟨_, rfl, hK _ _ ⟨s, A, n, c, rfl, p, by omega⟩ B⟩
    · intro a w1 hB ho hp K hK
      have e43 : a.eval (.tmp 43) = (.agg #[.bool s26, .slice A26 n26 c26, .bool t26, .slice D26 m26 d26]) := hp 0 43 (by kernel_rfl)
      have e44 : a.eval (.tmp 44) = (.agg #[.bool s, .slice A n c]) := hp 1 44 (by kernel_rfl)
      obtain ⟨s45, A45, n45, c45, e45, p45, k45⟩ : IsC 1 1 (a.eval (.tmp 45)) w1 := hp 2 45 (by kernel_rfl)
      refine hop_call (wanted_none rfl) rfl (args := #[(.agg #[.bool s26, .slice A26 n26 c26, .bool t26, .slice D26 m26 d26]), (.agg #[.bool s, .slice A n c]), (.agg #[.bool s45, .slice A45 n45 c45])]) (by simp only [List.map_toArray, List.map_cons, List.map_nil, eval_const, e43, e44, e45]) (ent7 (by kernel_rfl) _ _) (isq_yes (po.below hB) (hn.below hB) p45.zv (by omega) (by omega) (by omega) (by omega) HO.out) ?_
      rintro e w2 ⟨rfl, B⟩
      exact ⟨_, rfl, hK _ _ rfl B⟩
    · intro a w1 hB ho hp K hK
      have e46 : a.eval (.tmp 46) = (.bool true) := hp 3 46 (by kernel_rfl)
      refine hop_val (wanted_none rfl) ?_ (hK (.bool false) _ rfl (Below.refl _ _))
      unfold execOp; simp only [eval_const, e46]; simp [go_sem]
  intro w28 B28
  refine EndAll.one rfl fun vv hv => ?_
  obtain rfl : vv = (.agg #[.bool s26, .slice A26 n26 c26, .bool t26, .slice D26 m26 d26]) := hv
  refine EndAll.one rfl fun vv hv => ?_
  obtain rfl : vv = (.agg #[.bool s, .slice A n c]) := hv
  refine EndAll.one rfl fun vv hv => ?_
  obtain ⟨s29, A29, n29, c29, rfl, p29, k29⟩ : IsC 1 1 vv w28 := hv
  refine EndAll.one rfl fun vv hv => ?_
  obtain rfl : vv = (.bool true) := hv
  refine EndAll.one rfl fun vv hv => ?_
  obtain rfl : vv = (.bool false) := hv
  refine EndAll.nil (l := []) rfl ?_
  simp only [Act.put, List.setIfInBounds_toArray, List.set_cons_zero, List.set_cons_succ]
  replace H_a := Lib.hid (H_a.out.below B28)
  replace H_b := Lib.hid (H_b.out.below B28)
  replace H_q := Lib.hid (H_q.out.below B28)
  replace H_w := Lib.hid (H_w.out.below B28)
  replace H_o := Lib.hid (H_o.out.below B28)
  replace hn := hn.below B28
  replace hd := hd.below B28
  replace pa := pa.below B28
  replace pw := pw.below B28
  replace po := po.below B28
  replace hW := hW.trans (B28.mono hW.size)
  clear B28
  obtain ⟨a1, a2, a3, a4, a5⟩ := H_a.out
  obtain ⟨b1, b2, b3, b4, b5⟩ := H_b.out
  obtain ⟨q1, q2, q3, q4, q5, q6, q7, q8, q9⟩ := H_q.out
  obtain ⟨w1, w2, w3, w4, w5⟩ := H_w.out
  obtain ⟨o1, o2, o3, o4, o5, o6, o7, o8, o9⟩ := H_o.out
  go_wp2_with fail
  clear a1 a2 a3 a4 a5 b1 b2 b3 b4 b5 q1 q2 q3 q4 q5 q6 q7 q8 q9 w1 w2 w3 w4 w5 o1 o2 o3 o4 o5 o6 o7 o8 o9
  refine (zsign_v hd (by omega) HSD.out).mono ?_
  rintro e w30 ⟨rfl, B30⟩
  replace H_a := Lib.hid (H_a.out.below B30)
  replace H_b := Lib.hid (H_b.out.below B30)
  replace H_q := Lib.hid (H_q.out.below B30)
  replace H_w := Lib.hid (H_w.out.below B30)
  replace H_o := Lib.hid (H_o.out.below B30)
  replace hn := hn.below B30
  replace hd := hd.below B30
  replace pa := pa.below B30
  replace pw := pw.below B30
  replace po := po.below B30
  replace hW := hW.trans (B30.mono hW.size)
  clear B30
  obtain ⟨a1, a2, a3, a4, a5⟩ := H_a.out
  obtain ⟨b1, b2, b3, b4, b5⟩ := H_b.out
  obtain ⟨q1, q2, q3, q4, q5, q6, q7, q8, q9⟩ := H_q.out
  obtain ⟨w1, w2, w3, w4, w5⟩ := H_w.out
  obtain ⟨o1, o2, o3, o4, o5, o6, o7, o8, o9⟩ := H_o.out
  go_wp2_with fail
  clear a1 a2 a3 a4 a5 b1 b2 b3 b4 b5 q1 q2 q3 q4 q5 q6 q7 q8 q9 w1 w2 w3 w4 w5 o1 o2 o3 o4 o5 o6 o7 o8 o9
  refine region7 [] 17 [IsK (.bool false), IsK (.bool true), IsK (.bool true), IsK (.agg #[.bool s22, .slice A22 n22 c22, .bool t22, .slice D22 m22 d22]), IsC 0 1, IsC 1 1, IsK (.bool true), IsK (.bool true), IsK (.bool true), IsK (.bool true), IsK (.bool true), IsK (.bool true), IsK (.agg #[.bool s24, .slice A24 n24 c24]), IsK (.int .i64 0), IsK (.bool true), IsK (.bool true), IsK (.bool true)] (fun _ _ d _ _ h => by cases d <;> exact h) (by kernel_rfl) (by kernel_rfl) (by kernel_rfl) ⟨stay_k _, stay_k _, stay_k _, stay_k _, stay_c _ _, stay_c _ _, stay_k _, stay_k _, stay_k _, stay_k _, stay_k _, stay_k _, stay_k _, stay_k _, stay_k _, stay_k _, stay_k _, trivial⟩ ?_ ?_
  · refine HopAll.cons rfl ?_ (HopAll.cons rfl ?_ (HopAll.cons rfl ?_ (HopAll.cons rfl ?_ (HopAll.cons rfl ?_ (HopAll.cons rfl ?_ (HopAll.cons rfl ?_ (HopAll.cons rfl ?_ (HopAll.cons rfl ?_ (HopAll.cons rfl ?_ (HopAll.cons rfl ?_ (HopAll.cons rfl ?_ (HopAll.cons rfl ?_ (HopAll.cons rfl ?_ (HopAll.cons rfl ?_ (HopAll.cons rfl ?_ (HopAll.cons rfl ?_ HopAll.nil))))))))))))))))
    · intro a w1 hB ho hp K hK
      have e6 : a.eval (.tmp 6) = (.bool false) := ho 6 (by kernel_rfl)
      refine hop_val (wanted_none rfl) ?_ (hK (.bool false) _ rfl (Below.refl _ _))
      unfold execOp; simp only [eval_const, e6]; simp [go_sem]
    · intro a w1 hB ho hp K hK
      have e51 : a.eval (.tmp 51) = (.bool false) := hp 0 51 (by kernel_rfl)
      refine hop_val (wanted_none rfl) ?_ (hK (.bool true) _ rfl (Below.refl _ _))
      unfold execOp; simp only [eval_const, e51]; simp [go_sem]
    · intro a w1 hB ho hp K hK
      have e52 : a.eval (.tmp 52) = (.bool true) := hp 1 52 (by kernel_rfl)
      refine hop_val (wanted_none rfl) ?_ (hK (.bool true) _ rfl (Below.refl _ _))
      unfold execOp; simp only [eval_const, e52]; simp [go_sem]
    · intro a w1 hB ho hp K hK
      have e5 : a.eval (.tmp 5) = (.pointer (some ⟨w22.heap.size, 0, none⟩)) := ho 5 (by kernel_rfl)
      obtain ⟨u1, u2, u3, u4, u5, u6, u7, u8, u9⟩ := H_q.out.below hB
      exact hop_load (wanted_at rfl (j := 2) (d := 53) (b := true) (by kernel_rfl) (hp 2 53 (by kernel_rfl))) rfl e5 (run_ldq u1 u2 u3 u4) (hK _ _ rfl (Below.refl _ _))
    · intro a w1 hB ho hp K hK
      refine hop_call (wanted_at rfl (j := 2) (d := 53) (b := true) (by kernel_rfl) (hp 2 53 (by kernel_rfl))) rfl (args := #[.int .i64 (0)]) (by simp only [List.map_toArray, List.map_cons, List.map_nil, eval_const]) (ent7 (by kernel_rfl) _ _) (zof_v 0 (by omega) (by omega) _) ?_
      rintro e w2 ⟨s, A, n, c, rfl, p, k, B⟩
      exact ⟨_, rfl, hK _ _ ⟨s, A, n, c, rfl, p, by omega⟩ B⟩
    · intro a w1 hB ho hp K hK
      refine hop_call (wanted_at rfl (j := 2) (d := 53) (b := true) (by kernel_rfl) (hp 2 53 (by kernel_rfl))) rfl (args := #[.int .i64 (1)]) (by simp only [List.map_toArray, List.map_cons, List.map_nil, eval_const]) (ent7 (by kernel_rfl) _ _) (zof_v 1 (by omega) (by omega) _) ?_
      rintro e w2 ⟨s, A, n, c, rfl, p, k, B⟩
      exact ⟨_, rfl, hK _ _ ⟨s, A, n, c, rfl, p, by omega⟩ B⟩
    · intro a w1 hB ho hp K hK
      have e54 : a.eval (.tmp 54) = (.agg #[.bool s22, .slice A22 n22 c22, .bool t22, .slice D22 m22 d22]) := hp 3 54 (by kernel_rfl)
      obtain ⟨s55, A55, n55, c55, e55, p55, k55⟩ : IsC 0 1 (a.eval (.tmp 55)) w1 := hp 4 55 (by kernel_rfl)
      obtain ⟨s56, A56, n56, c56, e56, p56, k56⟩ : IsC 1 1 (a.eval (.tmp 56)) w1 := hp 5 56 (by kernel_rfl)
      refine hop_call (wanted_at rfl (j := 2) (d := 53) (b := true) (by kernel_rfl) (hp 2 53 (by kernel_rfl))) rfl (args := #[(.agg #[.bool s22, .slice A22 n22 c22, .bool t22, .slice D22 m22 d22]), (.agg #[.bool s55, .slice A55 n55 c55]), (.agg #[.bool s56, .slice A56 n56 c56])]) (by simp only [List.map_toArray, List.map_cons, List.map_nil, eval_const, e54, e55, e56]) (ent7 (by kernel_rfl) _ _) (isq_yes (pa.below hB) p55.zv p56.zv (by omega) (by omega) (by omega) (by omega) HI.out) ?_
      rintro e w2 ⟨rfl, B⟩
      exact ⟨_, rfl, hK _ _ rfl B⟩
    · intro a w1 hB ho hp K hK
      have e53 : a.eval (.tmp 53) = (.bool true) := hp 2 53 (by kernel_rfl)
      have e57 : a.eval (.tmp 57) = (.bool true) := hp 6 57 (by kernel_rfl)
      refine hop_val (wanted_none rfl) ?_ (hK (.bool true) _ rfl (Below.refl _ _))
      unfold execOp; simp only [eval_const, e53, e57]; simp [go_sem]
    · intro a w1 hB ho hp K hK
      have e58 : a.eval (.tmp 58) = (.bool true) := hp 7 58 (by kernel_rfl)
      refine hop_val (wanted_none rfl) ?_ (hK (.bool true) _ rfl (Below.refl _ _))
      unfold execOp; simp only [eval_const, e58]; simp [go_sem]
    · intro a w1 hB ho hp K hK
      have e8 : a.eval (.tmp 8) = (.bool true) := ho 8 (by kernel_rfl)
      refine hop_val (wanted_at rfl (j := 8) (d := 59) (b := true) (by kernel_rfl) (hp 8 59 (by kernel_rfl))) ?_ (hK (.bool true) _ rfl (Below.refl _ _))
      unfold execOp; simp only [eval_const, e8]; simp [go_sem]
    · intro a w1 hB ho hp K hK
      have e59 : a.eval (.tmp 59) = (.bool true) := hp 8 59 (by kernel_rfl)
      have e60 : a.eval (.tmp 60) = (.bool true) := hp 9 60 (by kernel_rfl)
      refine hop_val (wanted_none rfl) ?_ (hK (.bool true) _ rfl (Below.refl _ _))
      unfold execOp; simp only [eval_const, e59, e60]; simp [go_sem]
    · intro a w1 hB ho hp K hK
      have e61 : a.eval (.tmp 61) = (.bool true) := hp 10 61 (by kernel_rfl)
      refine hop_val (wanted_none rfl) ?_ (hK (.bool true) _ rfl (Below.refl _ _))
      unfold execOp; simp only [eval_const, e61]; simp [go_sem]
    · intro a w1 hB ho hp K hK
      have e7 : a.eval (.tmp 7) = (.pointer (some ⟨w24.heap.size, 0, none⟩)) := ho 7 (by kernel_rfl)
      obtain ⟨u1, u2, u3, u4, u5⟩ := H_w.out.below hB
      exact hop_load (wanted_at rfl (j := 11) (d := 62) (b := true) (by kernel_rfl) (hp 11 62 (by kernel_rfl))) rfl e7 (run_ldz u1 u2) (hK _ _ rfl (Below.refl _ _))
    · intro a w1 hB ho hp K hK
      have e63 : a.eval (.tmp 63) = (.agg #[.bool s24, .slice A24 n24 c24]) := hp 12 63 (by kernel_rfl)
      refine hop_call (wanted_at rfl (j := 11) (d := 62) (b := true) (by kernel_rfl) (hp 11 62 (by kernel_rfl))) rfl (args := #[(.agg #[.bool s24, .slice A24 n24 c24])]) (by simp only [List.map_toArray, List.map_cons, List.map_nil, eval_const, e63]) (ent7 (by kernel_rfl) _ _) (zsign_v (pw.below hB).zv (by omega) HSW.out) ?_
      rintro e w2 ⟨rfl, B⟩
      exact ⟨_, rfl, hK _ _ rfl B⟩
    · intro a w1 hB ho hp K hK
      have e64 : a.eval (.tmp 64) = (.int .i64 0) := hp 13 64 (by kernel_rfl)
      refine hop_val (wanted_at rfl (j := 11) (d := 62) (b := true) (by kernel_rfl) (hp 11 62 (by kernel_rfl))) ?_ (hK (.bool true) _ rfl (Below.refl _ _))
      unfold execOp; simp only [eval_const, e64]; simp [go_sem]
    · intro a w1 hB ho hp K hK
      have e62 : a.eval (.tmp 62) = (.bool true) := hp 11 62 (by kernel_rfl)
      have e65 : a.eval (.tmp 65) = (.bool true) := hp 14 65 (by kernel_rfl)
      refine hop_val (wanted_none rfl) ?_ (hK (.bool true) _ rfl (Below.refl _ _))
      unfold execOp; simp only [eval_const, e62, e65]; simp [go_sem]
    · intro a w1 hB ho hp K hK
      have e66 : a.eval (.tmp 66) = (.bool true) := hp 15 66 (by kernel_rfl)
      refine hop_val (wanted_none rfl) ?_ (hK (.bool true) _ rfl (Below.refl _ _))
      unfold execOp; simp only [eval_const, e66]; simp [go_sem]
  intro w31 B31
  refine EndAll.one rfl fun vv hv => ?_
  obtain rfl : vv = (.bool false) := hv
  refine EndAll.one rfl fun vv hv => ?_
  obtain rfl : vv = (.bool true) := hv
  refine EndAll.one rfl fun vv hv => ?_
  obtain rfl : vv = (.bool true) := hv
  refine EndAll.one rfl fun vv hv => ?_
  obtain rfl : vv = (.agg #[.bool s22, .slice A22 n22 c22, .bool t22, .slice D22 m22 d22]) := hv
  refine EndAll.one rfl fun vv hv => ?_
  obtain ⟨s32, A32, n32, c32, rfl, p32, k32⟩ : IsC 0 1 vv w31 := hv
  refine EndAll.one rfl fun vv hv => ?_
  obtain ⟨s33, A33, n33, c33, rfl, p33, k33⟩ : IsC 1 1 vv w31 := hv
  refine EndAll.one rfl fun vv hv => ?_
  obtain rfl : vv = (.bool true) := hv
  refine EndAll.one rfl fun vv hv => ?_
  obtain rfl : vv = (.bool true) := hv
  refine EndAll.one rfl fun vv hv => ?_
  obtain rfl : vv = (.bool true) := hv
  refine EndAll.one rfl fun vv hv => ?_
  obtain rfl : vv = (.bool true) := hv
  refine EndAll.one rfl fun vv hv => ?_
  obtain rfl : vv = (.bool true) := hv
  refine EndAll.one rfl fun vv hv => ?_
  obtain rfl : vv = (.bool true) := hv
  refine EndAll.one rfl fun vv hv => ?_
  obtain rfl : vv = (.agg #[.bool s24, .slice A24 n24 c24]) := hv
  refine EndAll.one rfl fun vv hv => ?_
  obtain rfl : vv = (.int .i64 0) := hv
  refine EndAll.one rfl fun vv hv => ?_
  obtain rfl : vv = (.bool true) := hv
  refine EndAll.one rfl fun vv hv => ?_
  obtain rfl : vv = (.bool true) := hv
  refine EndAll.one rfl fun vv hv => ?_
  obtain rfl : vv = (.bool true) := hv
  refine EndAll.nil (l := []) rfl ?_
  simp only [Act.put, List.setIfInBounds_toArray, List.set_cons_zero, List.set_cons_succ]
  replace H_a := Lib.hid (H_a.out.below B31)
  replace H_b := Lib.hid (H_b.out.below B31)
  replace H_q := Lib.hid (H_q.out.below B31)
  replace H_w := Lib.hid (H_w.out.below B31)
  replace H_o := Lib.hid (H_o.out.below B31)
  replace hn := hn.below B31
  replace hd := hd.below B31
  replace pa := pa.below B31
  replace pw := pw.below B31
  replace po := po.below B31
  replace hW := hW.trans (B31.mono hW.size)
  clear B31
  go_wp2_with fail
  go_ret
  exact ⟨rfl, hW⟩
set_option maxRecDepth 100000 in
set_option maxHeartbeats 16000000 in
theorem makes_whole {A B : Option Addr} {n c m d : Nat} {s t : Bool} {N D : Int} {w : World} (hn : Zv w s A n c N) (hd : Zv w t B m d D) (h1 : n ≤ 5) (h2 : m ≤ 5) (h0 : D ≠ 0) (hq : (Rat.divInt N D).den = 1) :
    Calls Try.prog 3 #[.agg #[.bool s, .slice A n c], .agg #[.bool t, .slice B m d]] w (TruePost w) := by
  have hW := Below.refl w.heap.size w
  obtain ⟨wp0, hwp0⟩ : ∃ x, x = w.alloc (.cells #[.bool s, .slice A n c] 25) := ⟨_, rfl⟩
  have zp0 : Below w.heap.size w wp0 := by rw [hwp0]; exact zba _ _
  have sp0 : wp0.heap.size = w.heap.size + 1 := by rw [hwp0, World.size_alloc]
  have Ia : Ib wp0 w.heap.size s A n c := by rw [hwp0]; exact Ib.new _ _ _ _ _ _
  replace hn := hn.below zp0
  replace hd := hd.below zp0
  replace hW := hW.trans (zp0.mono hW.size)
  have H_a := Lib.hid Ia
  clear Ia zp0
  obtain ⟨wp1, hwp1⟩ : ∃ x, x = wp0.alloc (.cells #[.bool t, .slice B m d] 25) := ⟨_, rfl⟩
  have zp1 : Below wp0.heap.size wp0 wp1 := by rw [hwp1]; exact zba _ _
  have sp1 : wp1.heap.size = w.heap.size + 1 + 1 := by rw [hwp1, World.size_alloc, sp0]
  have Ib : Ib wp1 (w.heap.size + 1) t B m d := by rw [hwp1, ← sp0]; exact Ib.new _ _ _ _ _ _
  replace H_a := Lib.hid (H_a.out.below zp1)
  replace hn := hn.below zp1
  replace hd := hd.below zp1
  replace hW := hW.trans (zp1.mono hW.size)
  have H_b := Lib.hid Ib
  clear Ib zp1
  have HW : Hid (((w.alloc (.cells #[.bool s, .slice A n c] 25)).alloc (.cells #[.bool t, .slice B m d] 25)) = wp1) := Lib.hid (by rw [hwp1, hwp0])
  have nn_a_b : ¬ (w.heap.size = (w.heap.size + 1)) := by omega
  have nm_a_b : ¬ ((w.heap.size + 1) = w.heap.size) := by omega
  have lw_a : w.heap.size ≤ w.heap.size := by omega
  have lw_b : w.heap.size ≤ (w.heap.size + 1) := by omega
  clear hwp0 hwp1 sp0 sp1
  have HO : Hid (((N : Rat)).num * 1 = N * (((N : Rat)).den : Int)) := Lib.hid (by rw [Rat.num_intCast, Rat.den_intCast]; omega)
  have HB : Hid (decide (D ≠ 0) = true) := Lib.hid (decide_eq_true h0)
  have HD1 := Lib.hid hq
  have HI : Hid ((Rat.divInt N D).num * D = N * ((Rat.divInt N D).den : Int)) := Lib.hid ((rq_iff h0).1 rfl)
  obtain ⟨sd, hsd⟩ : ∃ r, D.sign = r := ⟨_, rfl⟩
  have hs1 : (sd == 0) = false := by rw [beq_eq_false_iff_ne, ← hsd]; intro h; exact h0 (Int.sign_eq_zero_iff_zero.1 h)
  have HSD := Lib.hid hsd
  obtain ⟨R, hR⟩ : ∃ R, drv s s N.natAbs D.natAbs = R := ⟨_, rfl⟩
  have hR2 : sg s (N.natAbs % D.natAbs) = R := by rw [← hR, (dqv_b (s := s) (t := t) (u := s) rfl).2]
  have HR := Lib.hid hR
  have HW7 : Hid ((Rat.divInt N D).num * D = N) := Lib.hid (rden_one h0 hq)
  have HSR : Hid (R.sign = 0) := Lib.hid (by
    have : N.natAbs % D.natAbs = 0 := Nat.mod_eq_zero_of_dvd (Int.natAbs_dvd_natAbs.2 ⟨(Rat.divInt N D).num, by rw [Int.mul_comm]; exact (rden_one h0 hq).symm⟩)
    rw [← hR2, this]; cases s <;> rfl)
  clear hsd hR hR2 hq
  go_enter Try.func3, Try.ntmps3
  obtain ⟨a1, a2, a3, a4, a5⟩ := H_a.out
  obtain ⟨b1, b2, b3, b4, b5⟩ := H_b.out
  go_wp2_with fail
  rw [HW.out]
  clear a1 a2 a3 a4 a5 b1 b2 b3 b4 b5
  refine (qawake_v _).mono ?_
  rintro e w21 ⟨rfl, B21⟩
  replace H_a := Lib.hid (H_a.out.below B21)
  replace H_b := Lib.hid (H_b.out.below B21)
  replace hn := hn.below B21
  replace hd := hd.below B21
  replace hW := hW.trans (B21.mono hW.size)
  clear B21
  obtain ⟨a1, a2, a3, a4, a5⟩ := H_a.out
  obtain ⟨b1, b2, b3, b4, b5⟩ := H_b.out
  go_wp2_with fail
  clear a1 a2 a3 a4 a5 b1 b2 b3 b4 b5
  refine (make_v (k := 5) (b := true) hn hd (by omega) (by omega) (by omega) (by omega) HB.out).mono ?_
  rintro e w22 ⟨s22, A22, n22, c22, t22, D22, m22, d22, rfl, pa, k22, l22, B22⟩
  replace H_a := Lib.hid (H_a.out.below B22)
  replace H_b := Lib.hid (H_b.out.below B22)
  replace hn := hn.below B22
  replace hd := hd.below B22
  replace hW := hW.trans (B22.mono hW.size)
  clear B22
  have O_a := H_a
  have O_b := H_b
  obtain ⟨w23, hw23⟩ : ∃ x, x = w22.alloc (.cells #[.bool s22, .slice A22 n22 c22, .bool t22, .slice D22 m22 d22] 28) := ⟨_, rfl⟩
  have z23 : Below w22.heap.size w22 w23 := by rw [hw23]; exact zba _ _
  have HW23 : Hid (w22.alloc (.cells #[.bool s22, .slice A22 n22 c22, .bool t22, .slice D22 m22 d22] 28) = w23) := Lib.hid hw23.symm
  have nn_a_q : ¬ (w.heap.size = w22.heap.size) := by have := H_a.out.2.2.2.2; omega
  have nm_a_q : ¬ (w22.heap.size = w.heap.size) := by omega
  have nn_b_q : ¬ ((w.heap.size + 1) = w22.heap.size) := by have := H_b.out.2.2.2.2; omega
  have nm_b_q : ¬ (w22.heap.size = (w.heap.size + 1)) := by omega
  have lw_q : w.heap.size ≤ w22.heap.size := by have := hW.size; omega
  replace H_a := Lib.hid (H_a.out.below z23)
  replace H_b := Lib.hid (H_b.out.below z23)
  replace hn := hn.below z23
  replace hd := hd.below z23
  replace pa := pa.below z23
  replace hW := hW.trans (z23.mono hW.size)
  have H_q : Hid (Rb w23 w22.heap.size s22 A22 n22 c22 t22 D22 m22 d22) := Lib.hid (by rw [hw23]; exact Rb.new _ _ _ _ _ _ _ _ _ _)
  clear z23 hw23
  obtain ⟨a1, a2, a3, a4, a5⟩ := O_a.out
  obtain ⟨b1, b2, b3, b4, b5⟩ := O_b.out
  go_wp2_with fail
  rw [HW23.out]
  clear a1 a2 a3 a4 a5 b1 b2 b3 b4 b5 O_a O_b
  refine (whole_yes (k := 5) hn hd (by omega) (by omega) (by omega) (by omega) HD1.out).mono ?_
  rintro e w24 ⟨s24, A24, n24, c24, rfl, pw, k24, B24⟩
  replace H_a := Lib.hid (H_a.out.below B24)
  replace H_b := Lib.hid (H_b.out.below B24)
  replace H_q := Lib.hid (H_q.out.below B24)
  replace hn := hn.below B24
  replace hd := hd.below B24
  replace pa := pa.below B24
  replace hW := hW.trans (B24.mono hW.size)
  clear B24
  have O_a := H_a
  have O_b := H_b
  have O_q := H_q
  obtain ⟨w25, hw25⟩ : ∃ x, x = w24.alloc (.cells #[.bool s24, .slice A24 n24 c24] 25) := ⟨_, rfl⟩
  have z25 : Below w24.heap.size w24 w25 := by rw [hw25]; exact zba _ _
  have HW25 : Hid (w24.alloc (.cells #[.bool s24, .slice A24 n24 c24] 25) = w25) := Lib.hid hw25.symm
  have nn_a_w : ¬ (w.heap.size = w24.heap.size) := by have := H_a.out.2.2.2.2; omega
  have nm_a_w : ¬ (w24.heap.size = w.heap.size) := by omega
  have nn_b_w : ¬ ((w.heap.size + 1) = w24.heap.size) := by have := H_b.out.2.2.2.2; omega
  have nm_b_w : ¬ (w24.heap.size = (w.heap.size + 1)) := by omega
  have nn_q_w : ¬ (w22.heap.size = w24.heap.size) := by have := H_q.out.2.2.2.2.2.2.2.2; omega
  have nm_q_w : ¬ (w24.heap.size = w22.heap.size) := by omega
  have lw_w : w.heap.size ≤ w24.heap.size := by have := hW.size; omega
  replace H_a := Lib.hid (H_a.out.below z25)
  replace H_b := Lib.hid (H_b.out.below z25)
  replace H_q := Lib.hid (H_q.out.below z25)
  replace hn := hn.below z25
  replace hd := hd.below z25
  replace pa := pa.below z25
  replace pw := pw.below z25
  replace hW := hW.trans (z25.mono hW.size)
  have H_w : Hid (Ib w25 w24.heap.size s24 A24 n24 c24) := Lib.hid (by rw [hw25]; exact Ib.new _ _ _ _ _ _)
  clear z25 hw25
  obtain ⟨a1, a2, a3, a4, a5⟩ := O_a.out
  obtain ⟨b1, b2, b3, b4, b5⟩ := O_b.out
  obtain ⟨q1, q2, q3, q4, q5, q6, q7, q8, q9⟩ := O_q.out
  go_wp2_with fail
  rw [HW25.out]
  clear a1 a2 a3 a4 a5 b1 b2 b3 b4 b5 q1 q2 q3 q4 q5 q6 q7 q8 q9 O_a O_b O_q
  refine (qof_v (k := 5) hn (by omega) (by omega) (by omega)).mono ?_
  rintro e w26 ⟨s26, A26, n26, c26, t26, D26, m26, d26, rfl, po, k26, l26, B26⟩
  replace H_a := Lib.hid (H_a.out.below B26)
  replace H_b := Lib.hid (H_b.out.below B26)
  replace H_q := Lib.hid (H_q.out.below B26)
  replace H_w := Lib.hid (H_w.out.below B26)
  replace hn := hn.below B26
  replace hd := hd.below B26
  replace pa := pa.below B26
  replace pw := pw.below B26
  replace hW := hW.trans (B26.mono hW.size)
  clear B26
  have O_a := H_a
  have O_b := H_b
  have O_q := H_q
  have O_w := H_w
  obtain ⟨w27, hw27⟩ : ∃ x, x = w26.alloc (.cells #[.bool s26, .slice A26 n26 c26, .bool t26, .slice D26 m26 d26] 28) := ⟨_, rfl⟩
  have z27 : Below w26.heap.size w26 w27 := by rw [hw27]; exact zba _ _
  have HW27 : Hid (w26.alloc (.cells #[.bool s26, .slice A26 n26 c26, .bool t26, .slice D26 m26 d26] 28) = w27) := Lib.hid hw27.symm
  have nn_a_o : ¬ (w.heap.size = w26.heap.size) := by have := H_a.out.2.2.2.2; omega
  have nm_a_o : ¬ (w26.heap.size = w.heap.size) := by omega
  have nn_b_o : ¬ ((w.heap.size + 1) = w26.heap.size) := by have := H_b.out.2.2.2.2; omega
  have nm_b_o : ¬ (w26.heap.size = (w.heap.size + 1)) := by omega
  have nn_q_o : ¬ (w22.heap.size = w26.heap.size) := by have := H_q.out.2.2.2.2.2.2.2.2; omega
  have nm_q_o : ¬ (w26.heap.size = w22.heap.size) := by omega
  have nn_w_o : ¬ (w24.heap.size = w26.heap.size) := by have := H_w.out.2.2.2.2; omega
  have nm_w_o : ¬ (w26.heap.size = w24.heap.size) := by omega
  have lw_o : w.heap.size ≤ w26.heap.size := by have := hW.size; omega
  replace H_a := Lib.hid (H_a.out.below z27)
  replace H_b := Lib.hid (H_b.out.below z27)
  replace H_q := Lib.hid (H_q.out.below z27)
  replace H_w := Lib.hid (H_w.out.below z27)
  replace hn := hn.below z27
  replace hd := hd.below z27
  replace pa := pa.below z27
  replace pw := pw.below z27
  replace po := po.below z27
  replace hW := hW.trans (z27.mono hW.size)
  have H_o : Hid (Rb w27 w26.heap.size s26 A26 n26 c26 t26 D26 m26 d26) := Lib.hid (by rw [hw27]; exact Rb.new _ _ _ _ _ _ _ _ _ _)
  clear z27 hw27
  obtain ⟨a1, a2, a3, a4, a5⟩ := O_a.out
  obtain ⟨b1, b2, b3, b4, b5⟩ := O_b.out
  obtain ⟨q1, q2, q3, q4, q5, q6, q7, q8, q9⟩ := O_q.out
  obtain ⟨w1, w2, w3, w4, w5⟩ := O_w.out
  go_wp2_with fail
  rw [HW27.out]
  clear a1 a2 a3 a4 a5 b1 b2 b3 b4 b5 q1 q2 q3 q4 q5 q6 q7 q8 q9 w1 w2 w3 w4 w5 O_a O_b O_q O_w
  refine region7 [] 5 [IsK (.agg #[.bool s26, .slice A26 n26 c26, .bool t26, .slice D26 m26 d26]), IsK (.agg #[.bool s, .slice A n c]), IsC 1 1, IsK (.bool true), IsK (.bool false)] (fun _ _ d _ _ h => by cases d <;> exact h) (by kernel_rfl) (by kernel_rfl) (by kernel_rfl) ⟨stay_k _, stay_k _, stay_c _ _, stay_k _, stay_k _, trivial⟩ ?_ ?_
  · refine HopAll.cons rfl ?_ (HopAll.cons rfl ?_ (HopAll.cons rfl ?_ (HopAll.cons rfl ?_ (HopAll.cons rfl ?_ HopAll.nil))))
    · intro a w1 hB ho hp K hK
      have e9 : a.eval (.tmp 9) = (.pointer (some ⟨w26.heap.size, 0, none⟩)) := ho 9 (by kernel_rfl)
      obtain ⟨u1, u2, u3, u4, u5, u6, u7, u8, u9⟩ := H_o.out.below hB
      exact hop_load (wanted_none rfl) rfl e9 (run_ldq u1 u2 u3 u4) (hK _ _ rfl (Below.refl _ _))
    · intro a w1 hB ho hp K hK
      have e2 : a.eval (.tmp 2) = (.pointer (some ⟨w.heap.size, 0, none⟩)) := ho 2 (by kernel_rfl)
      obtain ⟨u1, u2, u3, u4, u5⟩ := H_a.out.below hB
      exact hop_load (wanted_none rfl) rfl e2 (run_ldz u1 u2) (hK _ _ rfl (Below.refl _ _))
    · intro a w1 hB ho hp K hK
      refine hop_call (wanted_none rfl) rfl (args := #[.int .i64 (1)]) (by simp only [List.map_toArray, List.map_cons, List.map_nil, eval_const]) (ent7 (by kernel_rfl) _ _) (zof_v 1 (by omega) (by omega) _) ?_
      rintro e w2 ⟨s, A, n, c, rfl, p, k, B⟩
      exact ⟨_, rfl, hK _ _ ⟨s, A, n, c, rfl, p, by omega⟩ B⟩
    · intro a w1 hB ho hp K hK
      have e43 : a.eval (.tmp 43) = (.agg #[.bool s26, .slice A26 n26 c26, .bool t26, .slice D26 m26 d26]) := hp 0 43 (by kernel_rfl)
      have e44 : a.eval (.tmp 44) = (.agg #[.bool s, .slice A n c]) := hp 1 44 (by kernel_rfl)
      obtain ⟨s45, A45, n45, c45, e45, p45, k45⟩ : IsC 1 1 (a.eval (.tmp 45)) w1 := hp 2 45 (by kernel_rfl)
      refine hop_call (wanted_none rfl) rfl (args := #[(.agg #[.bool s26, .slice A26 n26 c26, .bool t26, .slice D26 m26 d26]), (.agg #[.bool s, .slice A n c]), (.agg #[.bool s45, .slice A45 n45 c45])]) (by simp only [List.map_toArray, List.map_cons, List.map_nil, eval_const, e43, e44, e45]) (ent7 (by kernel_rfl) _ _) (isq_yes (po.below hB) (hn.below hB) p45.zv (by omega) (by omega) (by omega) (by omega) HO.out) ?_
      rintro e w2 ⟨rfl, B⟩
      exact ⟨_, rfl, hK _ _ rfl B⟩
    · intro a w1 hB ho hp K hK
      have e46 : a.eval (.tmp 46) = (.bool true) := hp 3 46 (by kernel_rfl)
      refine hop_val (wanted_none rfl) ?_ (hK (.bool false) _ rfl (Below.refl _ _))
      unfold execOp; simp only [eval_const, e46]; simp [go_sem]
  intro w28 B28
  refine EndAll.one rfl fun vv hv => ?_
  obtain rfl : vv = (.agg #[.bool s26, .slice A26 n26 c26, .bool t26, .slice D26 m26 d26]) := hv
  refine EndAll.one rfl fun vv hv => ?_
  obtain rfl : vv = (.agg #[.bool s, .slice A n c]) := hv
  refine EndAll.one rfl fun vv hv => ?_
  obtain ⟨s29, A29, n29, c29, rfl, p29, k29⟩ : IsC 1 1 vv w28 := hv
  refine EndAll.one rfl fun vv hv => ?_
  obtain rfl : vv = (.bool true) := hv
  refine EndAll.one rfl fun vv hv => ?_
  obtain rfl : vv = (.bool false) := hv
  refine EndAll.nil (l := []) rfl ?_
  simp only [Act.put, List.setIfInBounds_toArray, List.set_cons_zero, List.set_cons_succ]
  replace H_a := Lib.hid (H_a.out.below B28)
  replace H_b := Lib.hid (H_b.out.below B28)
  replace H_q := Lib.hid (H_q.out.below B28)
  replace H_w := Lib.hid (H_w.out.below B28)
  replace H_o := Lib.hid (H_o.out.below B28)
  replace hn := hn.below B28
  replace hd := hd.below B28
  replace pa := pa.below B28
  replace pw := pw.below B28
  replace po := po.below B28
  replace hW := hW.trans (B28.mono hW.size)
  clear B28
  obtain ⟨a1, a2, a3, a4, a5⟩ := H_a.out
  obtain ⟨b1, b2, b3, b4, b5⟩ := H_b.out
  obtain ⟨q1, q2, q3, q4, q5, q6, q7, q8, q9⟩ := H_q.out
  obtain ⟨w1, w2, w3, w4, w5⟩ := H_w.out
  obtain ⟨o1, o2, o3, o4, o5, o6, o7, o8, o9⟩ := H_o.out
  go_wp2_with fail
  clear a1 a2 a3 a4 a5 b1 b2 b3 b4 b5 q1 q2 q3 q4 q5 q6 q7 q8 q9 w1 w2 w3 w4 w5 o1 o2 o3 o4 o5 o6 o7 o8 o9
  refine (zsign_v hd (by omega) HSD.out).mono ?_
  rintro e w30 ⟨rfl, B30⟩
  replace H_a := Lib.hid (H_a.out.below B30)
  replace H_b := Lib.hid (H_b.out.below B30)
  replace H_q := Lib.hid (H_q.out.below B30)
  replace H_w := Lib.hid (H_w.out.below B30)
  replace H_o := Lib.hid (H_o.out.below B30)
  replace hn := hn.below B30
  replace hd := hd.below B30
  replace pa := pa.below B30
  replace pw := pw.below B30
  replace po := po.below B30
  replace hW := hW.trans (B30.mono hW.size)
  clear B30
  obtain ⟨a1, a2, a3, a4, a5⟩ := H_a.out
  obtain ⟨b1, b2, b3, b4, b5⟩ := H_b.out
  obtain ⟨q1, q2, q3, q4, q5, q6, q7, q8, q9⟩ := H_q.out
  obtain ⟨w1, w2, w3, w4, w5⟩ := H_w.out
  obtain ⟨o1, o2, o3, o4, o5, o6, o7, o8, o9⟩ := H_o.out
  go_wp2_with fail
  clear a1 a2 a3 a4 a5 b1 b2 b3 b4 b5 q1 q2 q3 q4 q5 q6 q7 q8 q9 w1 w2 w3 w4 w5 o1 o2 o3 o4 o5 o6 o7 o8 o9
  refine (zquo_v hn hd (by omega) (by omega) h0 rfl HR.out).mono ?_
  rintro e w31 ⟨s31, A31, n31, c31, t31, D31, m31, d31, rfl, px, py, k31, l31, B31⟩
  replace H_a := Lib.hid (H_a.out.below B31)
  replace H_b := Lib.hid (H_b.out.below B31)
  replace H_q := Lib.hid (H_q.out.below B31)
  replace H_w := Lib.hid (H_w.out.below B31)
  replace H_o := Lib.hid (H_o.out.below B31)
  replace hn := hn.below B31
  replace hd := hd.below B31
  replace pa := pa.below B31
  replace pw := pw.below B31
  replace po := po.below B31
  replace hW := hW.trans (B31.mono hW.size)
  clear B31
  have O_a := H_a
  have O_b := H_b
  have O_q := H_q
  have O_w := H_w
  have O_o := H_o
  obtain ⟨w32, hw32⟩ : ∃ x, x = w31.alloc (.cells #[.bool s31, .slice A31 n31 c31] 25) := ⟨_, rfl⟩
  have z32 : Below w31.heap.size w31 w32 := by rw [hw32]; exact zba _ _
  have HW32 : Hid (w31.alloc (.cells #[.bool s31, .slice A31 n31 c31] 25) = w32) := Lib.hid hw32.symm
  have nn_a_x : ¬ (w.heap.size = w31.heap.size) := by have := H_a.out.2.2.2.2; omega
  have nm_a_x : ¬ (w31.heap.size = w.heap.size) := by omega
  have nn_b_x : ¬ ((w.heap.size + 1) = w31.heap.size) := by have := H_b.out.2.2.2.2; omega
  have nm_b_x : ¬ (w31.heap.size = (w.heap.size + 1)) := by omega
  have nn_q_x : ¬ (w22.heap.size = w31.heap.size) := by have := H_q.out.2.2.2.2.2.2.2.2; omega
  have nm_q_x : ¬ (w31.heap.size = w22.heap.size) := by omega
  have nn_w_x : ¬ (w24.heap.size = w31.heap.size) := by have := H_w.out.2.2.2.2; omega
  have nm_w_x : ¬ (w31.heap.size = w24.heap.size) := by omega
  have nn_o_x : ¬ (w26.heap.size = w31.heap.size) := by have := H_o.out.2.2.2.2.2.2.2.2; omega
  have nm_o_x : ¬ (w31.heap.size = w26.heap.size) := by omega
  have lw_x : w.heap.size ≤ w31.heap.size := by have := hW.size; omega
  replace H_a := Lib.hid (H_a.out.below z32)
  replace H_b := Lib.hid (H_b.out.below z32)
  replace H_q := Lib.hid (H_q.out.below z32)
  replace H_w := Lib.hid (H_w.out.below z32)
  replace H_o := Lib.hid (H_o.out.below z32)
  replace hn := hn.below z32
  replace hd := hd.below z32
  replace pa := pa.below z32
  replace pw := pw.below z32
  replace po := po.below z32
  replace px := px.below z32
  replace py := py.below z32
  replace hW := hW.trans (z32.mono hW.size)
  have H_x : Hid (Ib w32 w31.heap.size s31 A31 n31 c31) := Lib.hid (by rw [hw32]; exact Ib.new _ _ _ _ _ _)
  clear z32 hw32
  have ez33 : w32.heap.size = w31.heap.size + 1 := by rw [← HW32.out, World.size_alloc]
  obtain ⟨w33, hw33⟩ : ∃ x, x = w32.alloc (.cells #[.bool t31, .slice D31 m31 d31] 25) := ⟨_, rfl⟩
  have z33 : Below w32.heap.size w32 w33 := by rw [hw33]; exact zba _ _
  have HW33 : Hid (w32.alloc (.cells #[.bool t31, .slice D31 m31 d31] 25) = w33) := Lib.hid hw33.symm
  have nn_a_y : ¬ (w.heap.size = (w31.heap.size + 1)) := by have := H_a.out.2.2.2.2; omega
  have nm_a_y : ¬ ((w31.heap.size + 1) = w.heap.size) := by omega
  have nn_b_y : ¬ ((w.heap.size + 1) = (w31.heap.size + 1)) := by have := H_b.out.2.2.2.2; omega
  have nm_b_y : ¬ ((w31.heap.size + 1) = (w.heap.size + 1)) := by omega
  have nn_q_y : ¬ (w22.heap.size = (w31.heap.size + 1)) := by have := H_q.out.2.2.2.2.2.2.2.2; omega
  have nm_q_y : ¬ ((w31.heap.size + 1) = w22.heap.size) := by omega
  have nn_w_y : ¬ (w24.heap.size = (w31.heap.size + 1)) := by have := H_w.out.2.2.2.2; omega
  have nm_w_y : ¬ ((w31.heap.size + 1) = w24.heap.size) := by omega
  have nn_o_y : ¬ (w26.heap.size = (w31.heap.size + 1)) := by have := H_o.out.2.2.2.2.2.2.2.2; omega
  have nm_o_y : ¬ ((w31.heap.size + 1) = w26.heap.size) := by omega
  have nn_x_y : ¬ (w31.heap.size = (w31.heap.size + 1)) := by have := H_x.out.2.2.2.2; omega
  have nm_x_y : ¬ ((w31.heap.size + 1) = w31.heap.size) := by omega
  have lw_y : w.heap.size ≤ (w31.heap.size + 1) := by have := hW.size; omega
  replace H_a := Lib.hid (H_a.out.below z33)
  replace H_b := Lib.hid (H_b.out.below z33)
  replace H_q := Lib.hid (H_q.out.below z33)
  replace H_w := Lib.hid (H_w.out.below z33)
  replace H_o := Lib.hid (H_o.out.below z33)
  replace H_x := Lib.hid (H_x.out.below z33)
  replace hn := hn.below z33
  replace hd := hd.below z33
  replace pa := pa.below z33
  replace pw := pw.below z33
  replace po := po.below z33
  replace px := px.below z33
  replace py := py.below z33
  replace hW := hW.trans (z33.mono hW.size)
  have H_y : Hid (Ib w33 (w31.heap.size + 1) t31 D31 m31 d31) := Lib.hid (by rw [← ez33, hw33]; exact Ib.new _ _ _ _ _ _)
  clear z33 hw33
  obtain ⟨a1, a2, a3, a4, a5⟩ := O_a.out
  obtain ⟨b1, b2, b3, b4, b5⟩ := O_b.out
  obtain ⟨q1, q2, q3, q4, q5, q6, q7, q8, q9⟩ := O_q.out
  obtain ⟨w1, w2, w3, w4, w5⟩ := O_w.out
  obtain ⟨o1, o2, o3, o4, o5, o6, o7, o8, o9⟩ := O_o.out
  go_wp2_with fail
  rw [HW32.out]
  rw [HW33.out]
  clear a1 a2 a3 a4 a5 b1 b2 b3 b4 b5 q1 q2 q3 q4 q5 q6 q7 q8 q9 w1 w2 w3 w4 w5 o1 o2 o3 o4 o5 o6 o7 o8 o9 O_a O_b O_q O_w O_o
  refine region7 [] 34 [IsK (.bool true), IsK (.bool true), IsK (.agg #[.bool s22, .slice A22 n22 c22, .bool t22, .slice D22 m22 d22]), IsK (.agg #[.bool s, .slice A n c]), IsK (.agg #[.bool t, .slice B m d]), IsK (.bool true), IsK (.bool true), IsK (.bool true), IsK (.bool true), IsK (.agg #[.bool t31, .slice D31 m31 d31]), IsK (.int .i64 0), IsK (.bool true), IsK (.bool true), IsK (.bool true), IsK (.bool true), IsK (.bool true), IsK (.bool true), IsK (.agg #[.bool s24, .slice A24 n24 c24]), IsK (.agg #[.bool t, .slice B m d]), IsC ((Rat.divInt N D).num * D) 20, IsK (.agg #[.bool s, .slice A n c]), IsK (.bool true), IsK (.bool true), IsK (.bool true), IsK undef, IsK undef, IsK undef, IsK undef, IsK undef, IsK undef, IsK undef, IsK (.bool true), IsK (.bool true), IsK (.bool true)] (fun _ _ d _ _ h => by cases d <;> exact h) (by kernel_rfl) (by kernel_rfl) (by kernel_rfl) ⟨stay_k _, stay_k _, stay_k _, stay_k _, stay_k _, stay_k _, stay_k _, stay_k _, stay_k _, stay_k _, stay_k _, stay_k _, stay_k _, stay_k _, stay_k _, stay_k _, stay_k _, stay_k _, stay_k _, stay_c _ _, stay_k _, stay_k _, stay_k _, stay_k _, stay_k _, stay_k _, stay_k _, stay_k _, stay_k _, stay_k _, stay_k _, stay_k _, stay_k _, stay_k _, trivial⟩ ?_ ?_
  · refine HopAll.cons rfl ?_ (HopAll.cons rfl ?_ (HopAll.cons rfl ?_ (HopAll.cons rfl ?_ (HopAll.cons rfl ?_ (HopAll.cons rfl ?_ (HopAll.cons rfl ?_ (HopAll.cons rfl ?_ (HopAll.cons rfl ?_ (HopAll.cons rfl ?_ (HopAll.cons rfl ?_ (HopAll.cons rfl ?_ (HopAll.cons rfl ?_ (HopAll.cons rfl ?_ (HopAll.cons rfl ?_ (HopAll.cons rfl ?_ (HopAll.cons rfl ?_ (HopAll.cons rfl ?_ (HopAll.cons rfl ?_ (HopAll.cons rfl ?_ (HopAll.cons rfl ?_ (HopAll.cons rfl ?_ (HopAll.cons rfl ?_ (HopAll.cons rfl ?_ (HopAll.cons rfl ?_ (HopAll.cons rfl ?_ (HopAll.cons rfl ?_ (HopAll.cons rfl ?_ (HopAll.cons rfl ?_ (HopAll.cons rfl ?_ (HopAll.cons rfl ?_ (HopAll.cons rfl ?_ (HopAll.cons rfl ?_ (HopAll.cons rfl ?_ HopAll.nil)))))))))))))))))))))))))))))))))
    · intro a w1 hB ho hp K hK
      have e6 : a.eval (.tmp 6) = (.bool true) := ho 6 (by kernel_rfl)
      refine hop_val (wanted_none rfl) ?_ (hK (.bool true) _ rfl (Below.refl _ _))
      unfold execOp; simp only [eval_const, e6]; simp [go_sem]
    · intro a w1 hB ho hp K hK
      have e74 : a.eval (.tmp 74) = (.bool true) := hp 0 74 (by kernel_rfl)
      refine hop_val (wanted_none rfl) ?_ (hK (.bool true) _ rfl (Below.refl _ _))
      unfold execOp; simp only [eval_const, e74]; simp [go_sem]
    · intro a w1 hB ho hp K hK
      have e5 : a.eval (.tmp 5) = (.pointer (some ⟨w22.heap.size, 0, none⟩)) := ho 5 (by kernel_rfl)
      obtain ⟨u1, u2, u3, u4, u5, u6, u7, u8, u9⟩ := H_q.out.below hB
      exact hop_load (wanted_at rfl (j := 1) (d := 75) (b := true) (by kernel_rfl) (hp 1 75 (by kernel_rfl))) rfl e5 (run_ldq u1 u2 u3 u4) (hK _ _ rfl (Below.refl _ _))
    · intro a w1 hB ho hp K hK
      have e2 : a.eval (.tmp 2) = (.pointer (some ⟨w.heap.size, 0, none⟩)) := ho 2 (by kernel_rfl)
      obtain ⟨u1, u2, u3, u4, u5⟩ := H_a.out.below hB
      exact hop_load (wanted_at rfl (j := 1) (d := 75) (b := true) (by kernel_rfl) (hp 1 75 (by kernel_rfl))) rfl e2 (run_ldz u1 u2) (hK _ _ rfl (Below.refl _ _))
    · intro a w1 hB ho hp K hK
      have e3 : a.eval (.tmp 3) = (.pointer (some ⟨(w.heap.size + 1), 0, none⟩)) := ho 3 (by kernel_rfl)
      obtain ⟨u1, u2, u3, u4, u5⟩ := H_b.out.below hB
      exact hop_load (wanted_at rfl (j := 1) (d := 75) (b := true) (by kernel_rfl) (hp 1 75 (by kernel_rfl))) rfl e3 (run_ldz u1 u2) (hK _ _ rfl (Below.refl _ _))
    · intro a w1 hB ho hp K hK
      have e76 : a.eval (.tmp 76) = (.agg #[.bool s22, .slice A22 n22 c22, .bool t22, .slice D22 m22 d22]) := hp 2 76 (by kernel_rfl)
      have e77 : a.eval (.tmp 77) = (.agg #[.bool s, .slice A n c]) := hp 3 77 (by kernel_rfl)
      have e78 : a.eval (.tmp 78) = (.agg #[.bool t, .slice B m d]) := hp 4 78 (by kernel_rfl)
      refine hop_call (wanted_at rfl (j := 1) (d := 75) (b := true) (by kernel_rfl) (hp 1 75 (by kernel_rfl))) rfl (args := #[(.agg #[.bool s22, .slice A22 n22 c22, .bool t22, .slice D22 m22 d22]), (.agg #[.bool s, .slice A n c]), (.agg #[.bool t, .slice B m d])]) (by simp only [List.map_toArray, List.map_cons, List.map_nil, eval_const, e76, e77, e78]) (ent7 (by kernel_rfl) _ _) (isq_yes (pa.below hB) (hn.below hB) (hd.below hB) (by omega) (by omega) (by omega) (by omega) HI.out) ?_
      rintro e w2 ⟨rfl, B⟩
      exact ⟨_, rfl, hK _ _ rfl B⟩
    · intro a w1 hB ho hp K hK
      have e75 : a.eval (.tmp 75) = (.bool true) := hp 1 75 (by kernel_rfl)
      have e79 : a.eval (.tmp 79) = (.bool true) := hp 5 79 (by kernel_rfl)
      refine hop_val (wanted_none rfl) ?_ (hK (.bool true) _ rfl (Below.refl _ _))
      unfold execOp; simp only [eval_const, e75, e79]; simp [go_sem]
    · intro a w1 hB ho hp K hK
      have e80 : a.eval (.tmp 80) = (.bool true) := hp 6 80 (by kernel_rfl)
      refine hop_val (wanted_none rfl) ?_ (hK (.bool true) _ rfl (Below.refl _ _))
      unfold execOp; simp only [eval_const, e80]; simp [go_sem]
    · intro a w1 hB ho hp K hK
      have e8 : a.eval (.tmp 8) = (.bool true) := ho 8 (by kernel_rfl)
      refine hop_val (wanted_at rfl (j := 7) (d := 81) (b := true) (by kernel_rfl) (hp 7 81 (by kernel_rfl))) ?_ (hK (.bool true) _ rfl (Below.refl _ _))
      unfold execOp; simp only [eval_const, e8]; simp [go_sem]
    · intro a w1 hB ho hp K hK
      have e11 : a.eval (.tmp 11) = (.pointer (some ⟨(w31.heap.size + 1), 0, none⟩)) := ho 11 (by kernel_rfl)
      obtain ⟨u1, u2, u3, u4, u5⟩ := H_y.out.below hB
      exact hop_load (wanted_at rfl (j := 7) (d := 81) (b := true) (by kernel_rfl) (hp 7 81 (by kernel_rfl))) rfl e11 (run_ldz u1 u2) (hK _ _ rfl (Below.refl _ _))
    · intro a w1 hB ho hp K hK
      have e83 : a.eval (.tmp 83) = (.agg #[.bool t31, .slice D31 m31 d31]) := hp 9 83 (by kernel_rfl)
      refine hop_call (wanted_at rfl (j := 7) (d := 81) (b := true) (by kernel_rfl) (hp 7 81 (by kernel_rfl))) rfl (args := #[(.agg #[.bool t31, .slice D31 m31 d31])]) (by simp only [List.map_toArray, List.map_cons, List.map_nil, eval_const, e83]) (ent7 (by kernel_rfl) _ _) (zsign_v (py.below hB).zv (by omega) HSR.out) ?_
      rintro e w2 ⟨rfl, B⟩
      exact ⟨_, rfl, hK _ _ rfl B⟩
    · intro a w1 hB ho hp K hK
      have e84 : a.eval (.tmp 84) = (.int .i64 0) := hp 10 84 (by kernel_rfl)
      refine hop_val (wanted_at rfl (j := 7) (d := 81) (b := true) (by kernel_rfl) (hp 7 81 (by kernel_rfl))) ?_ (hK (.bool true) _ rfl (Below.refl _ _))
      unfold execOp; simp only [eval_const, e84]; simp [go_sem]
    · intro a w1 hB ho hp K hK
      have e82 : a.eval (.tmp 82) = (.bool true) := hp 8 82 (by kernel_rfl)
      have e85 : a.eval (.tmp 85) = (.bool true) := hp 11 85 (by kernel_rfl)
      refine hop_val (wanted_at rfl (j := 7) (d := 81) (b := true) (by kernel_rfl) (hp 7 81 (by kernel_rfl))) ?_ (hK (.bool true) _ rfl (Below.refl _ _))
      unfold execOp; simp only [eval_const, e82, e85]; simp [go_sem]
    · intro a w1 hB ho hp K hK
      have e81 : a.eval (.tmp 81) = (.bool true) := hp 7 81 (by kernel_rfl)
      have e86 : a.eval (.tmp 86) = (.bool true) := hp 12 86 (by kernel_rfl)
      refine hop_val (wanted_none rfl) ?_ (hK (.bool true) _ rfl (Below.refl _ _))
      unfold execOp; simp only [eval_const, e81, e86]; simp [go_sem]
    · intro a w1 hB ho hp K hK
      have e87 : a.eval (.tmp 87) = (.bool true) := hp 13 87 (by kernel_rfl)
      refine hop_val (wanted_none rfl) ?_ (hK (.bool true) _ rfl (Below.refl _ _))
      unfold execOp; simp only [eval_const, e87]; simp [go_sem]
    · intro a w1 hB ho hp K hK
      have e8 : a.eval (.tmp 8) = (.bool true) := ho 8 (by kernel_rfl)
      refine hop_val (wanted_at rfl (j := 14) (d := 88) (b := true) (by kernel_rfl) (hp 14 88 (by kernel_rfl))) ?_ (hK (.bool true) _ rfl (Below.refl _ _))
      unfold execOp; simp only [eval_const, e8]; simp [go_sem]
    · intro a w1 hB ho hp K hK
      have e89 : a.eval (.tmp 89) = (.bool true) := hp 15 89 (by kernel_rfl)
      refine hop_val (wanted_at rfl (j := 14) (d := 88) (b := true) (by kernel_rfl) (hp 14 88 (by kernel_rfl))) ?_ (hK (.bool true) _ rfl (Below.refl _ _))
      unfold execOp; simp only [eval_const, e89]; simp [go_sem]
    · intro a w1 hB ho hp K hK
      have e7 : a.eval (.tmp 7) = (.pointer (some ⟨w24.heap.size, 0, none⟩)) := ho 7 (by kernel_rfl)
      obtain ⟨u1, u2, u3, u4, u5⟩ := H_w.out.below hB
      exact hop_load (wanted_at rfl (j := 16) (d := 90) (b := true) (by kernel_rfl) (hp 16 90 (by kernel_rfl))) rfl e7 (run_ldz u1 u2) (hK _ _ rfl (Below.refl _ _))
    · intro a w1 hB ho hp K hK
      have e3 : a.eval (.tmp 3) = (.pointer (some ⟨(w.heap.size + 1), 0, none⟩)) := ho 3 (by kernel_rfl)
      obtain ⟨u1, u2, u3, u4, u5⟩ := H_b.out.below hB
      exact hop_load (wanted_at rfl (j := 16) (d := 90) (b := true) (by kernel_rfl) (hp 16 90 (by kernel_rfl))) rfl e3 (run_ldz u1 u2) (hK _ _ rfl (Below.refl _ _))
    · intro a w1 hB ho hp K hK
      have e91 : a.eval (.tmp 91) = (.agg #[.bool s24, .slice A24 n24 c24]) := hp 17 91 (by kernel_rfl)
      have e92 : a.eval (.tmp 92) = (.agg #[.bool t, .slice B m d]) := hp 18 92 (by kernel_rfl)
      refine hop_call (wanted_at rfl (j := 16) (d := 90) (b := true) (by kernel_rfl) (hp 16 90 (by kernel_rfl))) rfl (args := #[(.agg #[.bool s24, .slice A24 n24 c24]), (.agg #[.bool t, .slice B m d])]) (by simp only [List.map_toArray, List.map_cons, List.map_nil, eval_const, e91, e92]) (ent7 (by kernel_rfl) _ _) (zmul_v (pw.below hB).zv (hd.below hB) (by omega) (by omega)) ?_
      rintro e w2 ⟨s, A, n, c, rfl, p, k, B⟩
      exact ⟨_, rfl, hK _ _ ⟨s, A, n, c, rfl, p, by omega⟩ B⟩
    · intro a w1 hB ho hp K hK
      have e2 : a.eval (.tmp 2) = (.pointer (some ⟨w.heap.size, 0, none⟩)) := ho 2 (by kernel_rfl)
      obtain ⟨u1, u2, u3, u4, u5⟩ := H_a.out.below hB
      exact hop_load (wanted_at rfl (j := 16) (d := 90) (b := true) (by kernel_rfl) (hp 16 90 (by kernel_rfl))) rfl e2 (run_ldz u1 u2) (hK _ _ rfl (Below.refl _ _))
    · intro a w1 hB ho hp K hK
      obtain ⟨s93, A93, n93, c93, e93, p93, k93⟩ : IsC ((Rat.divInt N D).num * D) 20 (a.eval (.tmp 93)) w1 := hp 19 93 (by kernel_rfl)
      have e94 : a.eval (.tmp 94) = (.agg #[.bool s, .slice A n c]) := hp 20 94 (by kernel_rfl)
      refine hop_call (wanted_at rfl (j := 16) (d := 90) (b := true) (by kernel_rfl) (hp 16 90 (by kernel_rfl))) rfl (args := #[(.agg #[.bool s93, .slice A93 n93 c93]), (.agg #[.bool s, .slice A n c])]) (by simp only [List.map_toArray, List.map_cons, List.map_nil, eval_const, e93, e94]) (ent7 (by kernel_rfl) _ _) (zsame_yes p93.zv (hn.below hB) (by omega) (by omega) HW7.out) ?_
      rintro e w2 ⟨rfl, B⟩
      exact ⟨_, rfl, hK _ _ rfl B⟩
    · intro a w1 hB ho hp K hK
      have e90 : a.eval (.tmp 90) = (.bool true) := hp 16 90 (by kernel_rfl)
      have e95 : a.eval (.tmp 95) = (.bool true) := hp 21 95 (by kernel_rfl)
      refine hop_val (wanted_at rfl (j := 14) (d := 88) (b := true) (by kernel_rfl) (hp 14 88 (by kernel_rfl))) ?_ (hK (.bool true) _ rfl (Below.refl _ _))
      unfold execOp; simp only [eval_const, e90, e95]; simp [go_sem]
    · intro a w1 hB ho hp K hK
      have e96 : a.eval (.tmp 96) = (.bool true) := hp 22 96 (by kernel_rfl)
      refine hop_val (wanted_at rfl (j := 14) (d := 88) (b := true) (by kernel_rfl) (hp 14 88 (by kernel_rfl))) ?_ (hK (.bool true) _ rfl (Below.refl _ _))
      unfold execOp; simp only [eval_const, e96]; simp [go_sem]
    · intro a w1 hB ho hp K hK
      exact hop_not (unwanted_at rfl (j := 23) (d := 97) (b := false) (by kernel_rfl) (hp 23 97 (by kernel_rfl)) rfl) (hK _ _ rfl (Below.refl _ _))
    · intro a w1 hB ho hp K hK
      exact hop_not (unwanted_at rfl (j := 23) (d := 97) (b := false) (by kernel_rfl) (hp 23 97 (by kernel_rfl)) rfl) (hK _ _ rfl (Below.refl _ _))
    · intro a w1 hB ho hp K hK
      exact hop_not (unwanted_at rfl (j := 23) (d := 97) (b := false) (by kernel_rfl) (hp 23 97 (by kernel_rfl)) rfl) (hK _ _ rfl (Below.refl _ _))
    · intro a w1 hB ho hp K hK
      exact hop_not (unwanted_undef rfl (j := 26) (d := 100) (b := true) (by kernel_rfl) (hp 26 100 (by kernel_rfl))) (hK _ _ rfl (Below.refl _ _))
    · intro a w1 hB ho hp K hK
      exact hop_not (unwanted_undef rfl (j := 26) (d := 100) (b := true) (by kernel_rfl) (hp 26 100 (by kernel_rfl))) (hK _ _ rfl (Below.refl _ _))
    · intro a w1 hB ho hp K hK
      exact hop_not (unwanted_undef rfl (j := 26) (d := 100) (b := true) (by kernel_rfl) (hp 26 100 (by kernel_rfl))) (hK _ _ rfl (Below.refl _ _))
    · intro a w1 hB ho hp K hK
      exact hop_not (unwanted_at rfl (j := 23) (d := 97) (b := false) (by kernel_rfl) (hp 23 97 (by kernel_rfl)) rfl) (hK _ _ rfl (Below.refl _ _))
    · intro a w1 hB ho hp K hK
      have e97 : a.eval (.tmp 97) = (.bool true) := hp 23 97 (by kernel_rfl)
      have e104 : a.eval (.tmp 104) = undef := hp 30 104 (by kernel_rfl)
      refine hop_val (wanted_at rfl (j := 14) (d := 88) (b := true) (by kernel_rfl) (hp 14 88 (by kernel_rfl))) ?_ (hK (.bool true) _ rfl (Below.refl _ _))
      unfold execOp; simp only [eval_const, e97, e104]; simp [go_sem]
    · intro a w1 hB ho hp K hK
      have e88 : a.eval (.tmp 88) = (.bool true) := hp 14 88 (by kernel_rfl)
      have e105 : a.eval (.tmp 105) = (.bool true) := hp 31 105 (by kernel_rfl)
      refine hop_val (wanted_none rfl) ?_ (hK (.bool true) _ rfl (Below.refl _ _))
      unfold execOp; simp only [eval_const, e88, e105]; simp [go_sem]
    · intro a w1 hB ho hp K hK
      have e106 : a.eval (.tmp 106) = (.bool true) := hp 32 106 (by kernel_rfl)
      refine hop_val (wanted_none rfl) ?_ (hK (.bool true) _ rfl (Below.refl _ _))
      unfold execOp; simp only [eval_const, e106]; simp [go_sem]
  intro w34 B34
  refine EndAll.one rfl fun vv hv => ?_
  obtain rfl : vv = (.bool true) := hv
  refine EndAll.one rfl fun vv hv => ?_
  obtain rfl : vv = (.bool true) := hv
  refine EndAll.one rfl fun vv hv => ?_
  obtain rfl : vv = (.agg #[.bool s22, .slice A22 n22 c22, .bool t22, .slice D22 m22 d22]) := hv
  refine EndAll.one rfl fun vv hv => ?_
  obtain rfl : vv = (.agg #[.bool s, .slice A n c]) := hv
  refine EndAll.one rfl fun vv hv => ?_
  obtain rfl : vv = (.agg #[.bool t, .slice B m d]) := hv
  refine EndAll.one rfl fun vv hv => ?_
  obtain rfl : vv = (.bool true) := hv
  refine EndAll.one rfl fun vv hv => ?_
  obtain rfl : vv = (.bool true) := hv
  refine EndAll.one rfl fun vv hv => ?_
  obtain rfl : vv = (.bool true) := hv
  refine EndAll.one rfl fun vv hv => ?_
  obtain rfl : vv = (.bool true) := hv
  refine EndAll.one rfl fun vv hv => ?_
  obtain rfl : vv = (.agg #[.bool t31, .slice D31 m31 d31]) := hv
  refine EndAll.one rfl fun vv hv => ?_
  obtain rfl : vv = (.int .i64 0) := hv
  refine EndAll.one rfl fun vv hv => ?_
  obtain rfl : vv = (.bool true) := hv
  refine EndAll.one rfl fun vv hv => ?_
  obtain rfl : vv = (.bool true) := hv
  refine EndAll.one rfl fun vv hv => ?_
  obtain rfl : vv = (.bool true) := hv
  refine EndAll.one rfl fun vv hv => ?_
  obtain rfl : vv = (.bool true) := hv
  refine EndAll.one rfl fun vv hv => ?_
  obtain rfl : vv = (.bool true) := hv
  refine EndAll.one rfl fun vv hv => ?_
  obtain rfl : vv = (.bool true) := hv
  refine EndAll.one rfl fun vv hv => ?_
  obtain rfl : vv = (.agg #[.bool s24, .slice A24 n24 c24]) := hv
  refine EndAll.one rfl fun vv hv => ?_
  obtain rfl : vv = (.agg #[.bool t, .slice B m d]) := hv
  refine EndAll.one rfl fun vv hv => ?_
  obtain ⟨s35, A35, n35, c35, rfl, p35, k35⟩ : IsC ((Rat.divInt N D).num * D) 20 vv w34 := hv
  refine EndAll.one rfl fun vv hv => ?_
  obtain rfl : vv = (.agg #[.bool s, .slice A n c]) := hv
  refine EndAll.one rfl fun vv hv => ?_
  obtain rfl : vv = (.bool true) := hv
  refine EndAll.one rfl fun vv hv => ?_
  obtain rfl : vv = (.bool true) := hv
  refine EndAll.one rfl fun vv hv => ?_
  obtain rfl : vv = (.bool true) := hv
  refine EndAll.one rfl fun vv hv => ?_
  obtain rfl : vv = undef := hv
  refine EndAll.one rfl fun vv hv => ?_
  obtain rfl : vv = undef := hv
  refine EndAll.one rfl fun vv hv => ?_
  obtain rfl : vv = undef := hv
  refine EndAll.one rfl fun vv hv => ?_
  obtain rfl : vv = undef := hv
  refine EndAll.one rfl fun vv hv => ?_
  obtain rfl : vv = undef := hv
  refine EndAll.one rfl fun vv hv => ?_
  obtain rfl : vv = undef := hv
  refine EndAll.one rfl fun vv hv => ?_
  obtain rfl : vv = undef := hv
  refine EndAll.one rfl fun vv hv => ?_
  obtain rfl : vv = (.bool true) := hv
  refine EndAll.one rfl fun vv hv => ?_
  obtain rfl : vv = (.bool true) := hv
  refine EndAll.one rfl fun vv hv => ?_
  obtain rfl : vv = (.bool true) := hv
  refine EndAll.nil (l := []) rfl ?_
  simp only [Act.put, List.setIfInBounds_toArray, List.set_cons_zero, List.set_cons_succ]
  replace H_a := Lib.hid (H_a.out.below B34)
  replace H_b := Lib.hid (H_b.out.below B34)
  replace H_q := Lib.hid (H_q.out.below B34)
  replace H_w := Lib.hid (H_w.out.below B34)
  replace H_o := Lib.hid (H_o.out.below B34)
  replace H_x := Lib.hid (H_x.out.below B34)
  replace H_y := Lib.hid (H_y.out.below B34)
  replace hn := hn.below B34
  replace hd := hd.below B34
  replace pa := pa.below B34
  replace pw := pw.below B34
  replace po := po.below B34
  replace px := px.below B34
  replace py := py.below B34
  replace hW := hW.trans (B34.mono hW.size)
  clear B34
  go_wp2_with fail
  go_ret
  exact ⟨rfl, hW⟩
set_option maxRecDepth 100000 in
set_option maxHeartbeats 16000000 in
theorem makes_part {A B : Option Addr} {n c m d : Nat} {s t : Bool} {N D : Int} {w : World} (hn : Zv w s A n c N) (hd : Zv w t B m d D) (h1 : n ≤ 5) (h2 : m ≤ 5) (h0 : D ≠ 0) (hq : (Rat.divInt N D).den ≠ 1) :
    Calls Try.prog 3 #[.agg #[.bool s, .slice A n c], .agg #[.bool t, .slice B m d]] w (TruePost w) := by
  have hW := Below.refl w.heap.size w
  obtain ⟨wp0, hwp0⟩ : ∃ x, x = w.alloc (.cells #[.bool s, .slice A n c] 25) := ⟨_, rfl⟩
  have zp0 : Below w.heap.size w wp0 := by rw [hwp0]; exact zba _ _
  have sp0 : wp0.heap.size = w.heap.size + 1 := by rw [hwp0, World.size_alloc]
  have Ia : Ib wp0 w.heap.size s A n c := by rw [hwp0]; exact Ib.new _ _ _ _ _ _
  replace hn := hn.below zp0
  replace hd := hd.below zp0
  replace hW := hW.trans (zp0.mono hW.size)
  have H_a := Lib.hid Ia
  clear Ia zp0
  obtain ⟨wp1, hwp1⟩ : ∃ x, x = wp0.alloc (.cells #[.bool t, .slice B m d] 25) := ⟨_, rfl⟩
  have zp1 : Below wp0.heap.size wp0 wp1 := by rw [hwp1]; exact zba _ _
  have sp1 : wp1.heap.size = w.heap.size + 1 + 1 := by rw [hwp1, World.size_alloc, sp0]
  have Ib : Ib wp1 (w.heap.size + 1) t B m d := by rw [hwp1, ← sp0]; exact Ib.new _ _ _ _ _ _
  replace H_a := Lib.hid (H_a.out.below zp1)
  replace hn := hn.below zp1
  replace hd := hd.below zp1
  replace hW := hW.trans (zp1.mono hW.size)
  have H_b := Lib.hid Ib
  clear Ib zp1
  have HW : Hid (((w.alloc (.cells #[.bool s, .slice A n c] 25)).alloc (.cells #[.bool t, .slice B m d] 25)) = wp1) := Lib.hid (by rw [hwp1, hwp0])
  have nn_a_b : ¬ (w.heap.size = (w.heap.size + 1)) := by omega
  have nm_a_b : ¬ ((w.heap.size + 1) = w.heap.size) := by omega
  have lw_a : w.heap.size ≤ w.heap.size := by omega
  have lw_b : w.heap.size ≤ (w.heap.size + 1) := by omega
  clear hwp0 hwp1 sp0 sp1
  have HO : Hid (((N : Rat)).num * 1 = N * (((N : Rat)).den : Int)) := Lib.hid (by rw [Rat.num_intCast, Rat.den_intCast]; omega)
  have HB : Hid (decide (D ≠ 0) = true) := Lib.hid (decide_eq_true h0)
  have HD1 := Lib.hid hq
  have HI : Hid ((Rat.divInt N D).num * D = N * ((Rat.divInt N D).den : Int)) := Lib.hid ((rq_iff h0).1 rfl)
  obtain ⟨sd, hsd⟩ : ∃ r, D.sign = r := ⟨_, rfl⟩
  have hs1 : (sd == 0) = false := by rw [beq_eq_false_iff_ne, ← hsd]; intro h; exact h0 (Int.sign_eq_zero_iff_zero.1 h)
  have HSD := Lib.hid hsd
  obtain ⟨R, hR⟩ : ∃ R, drv s s N.natAbs D.natAbs = R := ⟨_, rfl⟩
  have hR2 : sg s (N.natAbs % D.natAbs) = R := by rw [← hR, (dqv_b (s := s) (t := t) (u := s) rfl).2]
  have HR := Lib.hid hR
  obtain ⟨sr, hsr⟩ : ∃ r, R.sign = r := ⟨_, rfl⟩
  have hs2 : (sr == 0) = false := by
    rw [beq_eq_false_iff_ne, ← hsr]; intro h
    have h3 := Int.sign_eq_zero_iff_zero.1 h
    rw [← hR2] at h3
    have h4 := rden_not h0 hq
    have h5 := sg_abs s (N.natAbs % D.natAbs)
    rw [h3] at h5
    exact h4 h5.symm
  have HSR := Lib.hid hsr
  have HSW : Hid ((0 : Int).sign = 0) := Lib.hid rfl
  clear hsr
  clear hsd hR hR2 hq
  go_enter Try.func3, Try.ntmps3
  obtain ⟨a1, a2, a3, a4, a5⟩ := H_a.out
  obtain ⟨b1, b2, b3, b4, b5⟩ := H_b.out
  go_wp2_with fail
  rw [HW.out]
  clear a1 a2 a3 a4 a5 b1 b2 b3 b4 b5
  refine (qawake_v _).mono ?_
  rintro e w21 ⟨rfl, B21⟩
  replace H_a := Lib.hid (H_a.out.below B21)
  replace H_b := Lib.hid (H_b.out.below B21)
  replace hn := hn.below B21
  replace hd := hd.below B21
  replace hW := hW.trans (B21.mono hW.size)
  clear B21
  obtain ⟨a1, a2, a3, a4, a5⟩ := H_a.out
  obtain ⟨b1, b2, b3, b4, b5⟩ := H_b.out
  go_wp2_with fail
  clear a1 a2 a3 a4 a5 b1 b2 b3 b4 b5
  refine (make_v (k := 5) (b := true) hn hd (by omega) (by omega) (by omega) (by omega) HB.out).mono ?_
  rintro e w22 ⟨s22, A22, n22, c22, t22, D22, m22, d22, rfl, pa, k22, l22, B22⟩
  replace H_a := Lib.hid (H_a.out.below B22)
  replace H_b := Lib.hid (H_b.out.below B22)
  replace hn := hn.below B22
  replace hd := hd.below B22
  replace hW := hW.trans (B22.mono hW.size)
  clear B22
  have O_a := H_a
  have O_b := H_b
  obtain ⟨w23, hw23⟩ : ∃ x, x = w22.alloc (.cells #[.bool s22, .slice A22 n22 c22, .bool t22, .slice D22 m22 d22] 28) := ⟨_, rfl⟩
  have z23 : Below w22.heap.size w22 w23 := by rw [hw23]; exact zba _ _
  have HW23 : Hid (w22.alloc (.cells #[.bool s22, .slice A22 n22 c22, .bool t22, .slice D22 m22 d22] 28) = w23) := Lib.hid hw23.symm
  have nn_a_q : ¬ (w.heap.size = w22.heap.size) := by have := H_a.out.2.2.2.2; omega
  have nm_a_q : ¬ (w22.heap.size = w.heap.size) := by omega
  have nn_b_q : ¬ ((w.heap.size + 1) = w22.heap.size) := by have := H_b.out.2.2.2.2; omega
  have nm_b_q : ¬ (w22.heap.size = (w.heap.size + 1)) := by omega
  have lw_q : w.heap.size ≤ w22.heap.size := by have := hW.size; omega
  replace H_a := Lib.hid (H_a.out.below z23)
  replace H_b := Lib.hid (H_b.out.below z23)
  replace hn := hn.below z23
  replace hd := hd.below z23
  replace pa := pa.below z23
  replace hW := hW.trans (z23.mono hW.size)
  have H_q : Hid (Rb w23 w22.heap.size s22 A22 n22 c22 t22 D22 m22 d22) := Lib.hid (by rw [hw23]; exact Rb.new _ _ _ _ _ _ _ _ _ _)
  clear z23 hw23
  obtain ⟨a1, a2, a3, a4, a5⟩ := O_a.out
  obtain ⟨b1, b2, b3, b4, b5⟩ := O_b.out
  go_wp2_with fail
  rw [HW23.out]
  clear a1 a2 a3 a4 a5 b1 b2 b3 b4 b5 O_a O_b
  refine (whole_no (k := 5) hn hd (by omega) (by omega) (by omega) (by omega) HD1.out).mono ?_
  rintro e w24 ⟨rfl, B24⟩
  replace H_a := Lib.hid (H_a.out.below B24)
  replace H_b := Lib.hid (H_b.out.below B24)
  replace H_q := Lib.hid (H_q.out.below B24)
  replace hn := hn.below B24
  replace hd := hd.below B24
  replace pa := pa.below B24
  replace hW := hW.trans (B24.mono hW.size)
  clear B24
  have pw := zc_nought w24
  have O_a := H_a
  have O_b := H_b
  have O_q := H_q
  obtain ⟨w25, hw25⟩ : ∃ x, x = w24.alloc (.cells #[.bool false, .slice none 0 0] 25) := ⟨_, rfl⟩
  have z25 : Below w24.heap.size w24 w25 := by rw [hw25]; exact zba _ _
  have HW25 : Hid (w24.alloc (.cells #[.bool false, .slice none 0 0] 25) = w25) := Lib.hid hw25.symm
  have nn_a_w : ¬ (w.heap.size = w24.heap.size) := by have := H_a.out.2.2.2.2; omega
  have nm_a_w : ¬ (w24.heap.size = w.heap.size) := by omega
  have nn_b_w : ¬ ((w.heap.size + 1) = w24.heap.size) := by have := H_b.out.2.2.2.2; omega
  have nm_b_w : ¬ (w24.heap.size = (w.heap.size + 1)) := by omega
  have nn_q_w : ¬ (w22.heap.size = w24.heap.size) := by have := H_q.out.2.2.2.2.2.2.2.2; omega
  have nm_q_w : ¬ (w24.heap.size = w22.heap.size) := by omega
  have lw_w : w.heap.size ≤ w24.heap.size := by have := hW.size; omega
  replace H_a := Lib.hid (H_a.out.below z25)
  replace H_b := Lib.hid (H_b.out.below z25)
  replace H_q := Lib.hid (H_q.out.below z25)
  replace hn := hn.below z25
  replace hd := hd.below z25
  replace pa := pa.below z25
  replace pw := pw.below z25
  replace hW := hW.trans (z25.mono hW.size)
  have H_w : Hid (Ib w25 w24.heap.size false none 0 0) := Lib.hid (by rw [hw25]; exact Ib.new _ _ _ _ _ _)
  clear z25 hw25
  obtain ⟨a1, a2, a3, a4, a5⟩ := O_a.out
  obtain ⟨b1, b2, b3, b4, b5⟩ := O_b.out
  obtain ⟨q1, q2, q3, q4, q5, q6, q7, q8, q9⟩ := O_q.out
  go_wp2_with fail
  rw [HW25.out]
  clear a1 a2 a3 a4 a5 b1 b2 b3 b4 b5 q1 q2 q3 q4 q5 q6 q7 q8 q9 O_a O_b O_q
  refine (qof_v (k := 5) hn (by omega) (by omega) (by omega)).mono ?_
  rintro e w26 ⟨s26, A26, n26, c26, t26, D26, m26, d26, rfl, po, k26, l26, B26⟩
  replace H_a := Lib.hid (H_a.out.below B26)
  replace H_b := Lib.hid (H_b.out.below B26)
  replace H_q := Lib.hid (H_q.out.below B26)
  replace H_w := Lib.hid (H_w.out.below B26)
  replace hn := hn.below B26
  replace hd := hd.below B26
  replace pa := pa.below B26
  replace pw := pw.below B26
  replace hW := hW.trans (B26.mono hW.size)
  clear B26
  have O_a := H_a
  have O_b := H_b
  have O_q := H_q
  have O_w := H_w
  obtain ⟨w27, hw27⟩ : ∃ x, x = w26.alloc (.cells #[.bool s26, .slice A26 n26 c26, .bool t26, .slice D26 m26 d26] 28) := ⟨_, rfl⟩
  have z27 : Below w26.heap.size w26 w27 := by rw [hw27]; exact zba _ _
  have HW27 : Hid (w26.alloc (.cells #[.bool s26, .slice A26 n26 c26, .bool t26, .slice D26 m26 d26] 28) = w27) := Lib.hid hw27.symm
  have nn_a_o : ¬ (w.heap.size = w26.heap.size) := by have := H_a.out.2.2.2.2; omega
  have nm_a_o : ¬ (w26.heap.size = w.heap.size) := by omega
  have nn_b_o : ¬ ((w.heap.size + 1) = w26.heap.size) := by have := H_b.out.2.2.2.2; omega
  have nm_b_o : ¬ (w26.heap.size = (w.heap.size + 1)) := by omega
  have nn_q_o : ¬ (w22.heap.size = w26.heap.size) := by have := H_q.out.2.2.2.2.2.2.2.2; omega
  have nm_q_o : ¬ (w26.heap.size = w22.heap.size) := by omega
  have nn_w_o : ¬ (w24.heap.size = w26.heap.size) := by have := H_w.out.2.2.2.2; omega
  have nm_w_o : ¬ (w26.heap.size = w24.heap.size) := by omega
  have lw_o : w.heap.size ≤ w26.heap.size := by have := hW.size; omega
  replace H_a := Lib.hid (H_a.out.below z27)
  replace H_b := Lib.hid (H_b.out.below z27)
  replace H_q := Lib.hid (H_q.out.below z27)
  replace H_w := Lib.hid (H_w.out.below z27)
  replace hn := hn.below z27
  replace hd := hd.below z27
  replace pa := pa.below z27
  replace pw := pw.below z27
  replace po := po.below z27
  replace hW := hW.trans (z27.mono hW.size)
  have H_o : Hid (Rb w27 w26.heap.size s26 A26 n26 c26 t26 D26 m26 d26) := Lib.hid (by rw [hw27]; exact Rb.new _ _ _ _ _ _ _ _ _ _)
  clear z27 hw27
  obtain ⟨a1, a2, a3, a4, a5⟩ := O_a.out
  obtain ⟨b1, b2, b3, b4, b5⟩ := O_b.out
  obtain ⟨q1, q2, q3, q4, q5, q6, q7, q8, q9⟩ := O_q.out
  obtain ⟨w1, w2, w3, w4, w5⟩ := O_w.out
  go_wp2_with fail
  rw [HW27.out]
  clear a1 a2 a3 a4 a5 b1 b2 b3 b4 b5 q1 q2 q3 q4 q5 q6 q7 q8 q9 w1 w2 w3 w4 w5 O_a O_b O_q O_w
  refine region7 [] 5 [IsK (.agg #[.bool s26, .slice A26 n26 c26, .bool t26, .slice D26 m26 d26]), IsK (.agg #[.bool s, .slice A n c]), IsC 1 1, IsK (.bool true), IsK (.bool false)] (fun _ _ d _ _ h => by cases d <;> exact h) (by kernel_rfl) (by kernel_rfl) (by kernel_rfl) ⟨stay_k _, stay_k _, stay_c _ _, stay_k _, stay_k _, trivial⟩ ?_ ?_
  · refine HopAll.cons rfl ?_ (HopAll.cons rfl ?_ (HopAll.cons rfl ?_ (HopAll.cons rfl ?_ (HopAll.cons rfl ?_ HopAll.nil))))
    · intro a w1 hB ho hp K hK
      have e9 : a.eval (.tmp 9) = (.pointer (some ⟨w26.heap.size, 0, none⟩)) := ho 9 (by kernel_rfl)
      obtain ⟨u1, u2, u3, u4, u5, u6, u7, u8, u9⟩ := H_o.out.below hB
      exact hop_load (wanted_none rfl) rfl e9 (run_ldq u1 u2 u3 u4) (hK _ _ rfl (Below.refl _ _))
    · intro a w1 hB ho hp K hK
      have e2 : a.eval (.tmp 2) = (.pointer (some ⟨w.heap.size, 0, none⟩)) := ho 2 (by kernel_rfl)
      obtain ⟨u1, u2, u3, u4, u5⟩ := H_a.out.below hB
      exact hop_load (wanted_none rfl) rfl e2 (run_ldz u1 u2) (hK _ _ rfl (Below.refl _ _))
    · intro a w1 hB ho hp K hK
      refine hop_call (wanted_none rfl) rfl (args := #[.int .i64 (1)]) (by simp only [List.map_toArray, List.map_cons, List.map_nil, eval_const]) (ent7 (by kernel_rfl) _ _) (zof_v 1 (by omega) (by omega) _) ?_
      rintro e w2 ⟨s, A, n, c, rfl, p, k, B⟩
      exact ⟨_, rfl, hK _ _ ⟨s, A, n, c, rfl, p, by omega⟩ B⟩
    · intro a w1 hB ho hp K hK
      have e43 : a.eval (.tmp 43) = (.agg #[.bool s26, .slice A26 n26 c26, .bool t26, .slice D26 m26 d26]) := hp 0 43 (by kernel_rfl)
      have e44 : a.eval (.tmp 44) = (.agg #[.bool s, .slice A n c]) := hp 1 44 (by kernel_rfl)
      obtain ⟨s45, A45, n45, c45, e45, p45, k45⟩ : IsC 1 1 (a.eval (.tmp 45)) w1 := hp 2 45 (by kernel_rfl)
      refine hop_call (wanted_none rfl) rfl (args := #[(.agg #[.bool s26, .slice A26 n26 c26, .bool t26, .slice D26 m26 d26]), (.agg #[.bool s, .slice A n c]), (.agg #[.bool s45, .slice A45 n45 c45])]) (by simp only [List.map_toArray, List.map_cons, List.map_nil, eval_const, e43, e44, e45]) (ent7 (by kernel_rfl) _ _) (isq_yes (po.below hB) (hn.below hB) p45.zv (by omega) (by omega) (by omega) (by omega) HO.out) ?_
      rintro e w2 ⟨rfl, B⟩
      exact ⟨_, rfl, hK _ _ rfl B⟩
    · intro a w1 hB ho hp K hK
      have e46 : a.eval (.tmp 46) = (.bool true) := hp 3 46 (by kernel_rfl)
      refine hop_val (wanted_none rfl) ?_ (hK (.bool false) _ rfl (Below.refl _ _))
      unfold execOp; simp only [eval_const, e46]; simp [go_sem]
  intro w28 B28
  refine EndAll.one rfl fun vv hv => ?_
  obtain rfl : vv = (.agg #[.bool s26, .slice A26 n26 c26, .bool t26, .slice D26 m26 d26]) := hv
  refine EndAll.one rfl fun vv hv => ?_
  obtain rfl : vv = (.agg #[.bool s, .slice A n c]) := hv
  refine EndAll.one rfl fun vv hv => ?_
  obtain ⟨s29, A29, n29, c29, rfl, p29, k29⟩ : IsC 1 1 vv w28 := hv
  refine EndAll.one rfl fun vv hv => ?_
  obtain rfl : vv = (.bool true) := hv
  refine EndAll.one rfl fun vv hv => ?_
  obtain rfl : vv = (.bool false) := hv
  refine EndAll.nil (l := []) rfl ?_
  simp only [Act.put, List.setIfInBounds_toArray, List.set_cons_zero, List.set_cons_succ]
  replace H_a := Lib.hid (H_a.out.below B28)
  replace H_b := Lib.hid (H_b.out.below B28)
  replace H_q := Lib.hid (H_q.out.below B28)
  replace H_w := Lib.hid (H_w.out.below B28)
  replace H_o := Lib.hid (H_o.out.below B28)
  replace hn := hn.below B28
  replace hd := hd.below B28
  replace pa := pa.below B28
  replace pw := pw.below B28
  replace po := po.below B28
  replace hW := hW.trans (B28.mono hW.size)
  clear B28
  obtain ⟨a1, a2, a3, a4, a5⟩ := H_a.out
  obtain ⟨b1, b2, b3, b4, b5⟩ := H_b.out
  obtain ⟨q1, q2, q3, q4, q5, q6, q7, q8, q9⟩ := H_q.out
  obtain ⟨w1, w2, w3, w4, w5⟩ := H_w.out
  obtain ⟨o1, o2, o3, o4, o5, o6, o7, o8, o9⟩ := H_o.out
  go_wp2_with fail
  clear a1 a2 a3 a4 a5 b1 b2 b3 b4 b5 q1 q2 q3 q4 q5 q6 q7 q8 q9 w1 w2 w3 w4 w5 o1 o2 o3 o4 o5 o6 o7 o8 o9
  refine (zsign_v hd (by omega) HSD.out).mono ?_
  rintro e w30 ⟨rfl, B30⟩
  replace H_a := Lib.hid (H_a.out.below B30)
  replace H_b := Lib.hid (H_b.out.below B30)
  replace H_q := Lib.hid (H_q.out.below B30)
  replace H_w := Lib.hid (H_w.out.below B30)
  replace H_o := Lib.hid (H_o.out.below B30)
  replace hn := hn.below B30
  replace hd := hd.below B30
  replace pa := pa.below B30
  replace pw := pw.below B30
  replace po := po.below B30
  replace hW := hW.trans (B30.mono hW.size)
  clear B30
  obtain ⟨a1, a2, a3, a4, a5⟩ := H_a.out
  obtain ⟨b1, b2, b3, b4, b5⟩ := H_b.out
  obtain ⟨q1, q2, q3, q4, q5, q6, q7, q8, q9⟩ := H_q.out
  obtain ⟨w1, w2, w3, w4, w5⟩ := H_w.out
  obtain ⟨o1, o2, o3, o4, o5, o6, o7, o8, o9⟩ := H_o.out
  go_wp2_with fail
  clear a1 a2 a3 a4 a5 b1 b2 b3 b4 b5 q1 q2 q3 q4 q5 q6 q7 q8 q9 w1 w2 w3 w4 w5 o1 o2 o3 o4 o5 o6 o7 o8 o9
  refine (zquo_v hn hd (by omega) (by omega) h0 rfl HR.out).mono ?_
  rintro e w31 ⟨s31, A31, n31, c31, t31, D31, m31, d31, rfl, px, py, k31, l31, B31⟩
  replace H_a := Lib.hid (H_a.out.below B31)
  replace H_b := Lib.hid (H_b.out.below B31)
  replace H_q := Lib.hid (H_q.out.below B31)
  replace H_w := Lib.hid (H_w.out.below B31)
  replace H_o := Lib.hid (H_o.out.below B31)
  replace hn := hn.below B31
  replace hd := hd.below B31
  replace pa := pa.below B31
  replace pw := pw.below B31
  replace po := po.below B31
  replace hW := hW.trans (B31.mono hW.size)
  clear B31
  have O_a := H_a
  have O_b := H_b
  have O_q := H_q
  have O_w := H_w
  have O_o := H_o
  obtain ⟨w32, hw32⟩ : ∃ x, x = w31.alloc (.cells #[.bool s31, .slice A31 n31 c31] 25) := ⟨_, rfl⟩
  have z32 : Below w31.heap.size w31 w32 := by rw [hw32]; exact zba _ _
  have HW32 : Hid (w31.alloc (.cells #[.bool s31, .slice A31 n31 c31] 25) = w32) := Lib.hid hw32.symm
  have nn_a_x : ¬ (w.heap.size = w31.heap.size) := by have := H_a.out.2.2.2.2; omega
  have nm_a_x : ¬ (w31.heap.size = w.heap.size) := by omega
  have nn_b_x : ¬ ((w.heap.size + 1) = w31.heap.size) := by have := H_b.out.2.2.2.2; omega
  have nm_b_x : ¬ (w31.heap.size = (w.heap.size + 1)) := by omega
  have nn_q_x : ¬ (w22.heap.size = w31.heap.size) := by have := H_q.out.2.2.2.2.2.2.2.2; omega
  have nm_q_x : ¬ (w31.heap.size = w22.heap.size) := by omega
  have nn_w_x : ¬ (w24.heap.size = w31.heap.size) := by have := H_w.out.2.2.2.2; omega
  have nm_w_x : ¬ (w31.heap.size = w24.heap.size) := by omega
  have nn_o_x : ¬ (w26.heap.size = w31.heap.size) := by have := H_o.out.2.2.2.2.2.2.2.2; omega
  have nm_o_x : ¬ (w31.heap.size = w26.heap.size) := by omega
  have lw_x : w.heap.size ≤ w31.heap.size := by have := hW.size; omega
  replace H_a := Lib.hid (H_a.out.below z32)
  replace H_b := Lib.hid (H_b.out.below z32)
  replace H_q := Lib.hid (H_q.out.below z32)
  replace H_w := Lib.hid (H_w.out.below z32)
  replace H_o := Lib.hid (H_o.out.below z32)
  replace hn := hn.below z32
  replace hd := hd.below z32
  replace pa := pa.below z32
  replace pw := pw.below z32
  replace po := po.below z32
  replace px := px.below z32
  replace py := py.below z32
  replace hW := hW.trans (z32.mono hW.size)
  have H_x : Hid (Ib w32 w31.heap.size s31 A31 n31 c31) := Lib.hid (by rw [hw32]; exact Ib.new _ _ _ _ _ _)
  clear z32 hw32
  have ez33 : w32.heap.size = w31.heap.size + 1 := by rw [← HW32.out, World.size_alloc]
  obtain ⟨w33, hw33⟩ : ∃ x, x = w32.alloc (.cells #[.bool t31, .slice D31 m31 d31] 25) := ⟨_, rfl⟩
  have z33 : Below w32.heap.size w32 w33 := by rw [hw33]; exact zba _ _
  have HW33 : Hid (w32.alloc (.cells #[.bool t31, .slice D31 m31 d31] 25) = w33) := Lib.hid hw33.symm
  have nn_a_y : ¬ (w.heap.size = (w31.heap.size + 1)) := by have := H_a.out.2.2.2.2; omega
  have nm_a_y : ¬ ((w31.heap.size + 1) = w.heap.size) := by omega
  have nn_b_y : ¬ ((w.heap.size + 1) = (w31.heap.size + 1)) := by have := H_b.out.2.2.2.2; omega
  have nm_b_y : ¬ ((w31.heap.size + 1) = (w.heap.size + 1)) := by omega
  have nn_q_y : ¬ (w22.heap.size = (w31.heap.size + 1)) := by have := H_q.out.2.2.2.2.2.2.2.2; omega
  have nm_q_y : ¬ ((w31.heap.size + 1) = w22.heap.size) := by omega
  have nn_w_y : ¬ (w24.heap.size = (w31.heap.size + 1)) := by have := H_w.out.2.2.2.2; omega
  have nm_w_y : ¬ ((w31.heap.size + 1) = w24.heap.size) := by omega
  have nn_o_y : ¬ (w26.heap.size = (w31.heap.size + 1)) := by have := H_o.out.2.2.2.2.2.2.2.2; omega
  have nm_o_y : ¬ ((w31.heap.size + 1) = w26.heap.size) := by omega
  have nn_x_y : ¬ (w31.heap.size = (w31.heap.size + 1)) := by have := H_x.out.2.2.2.2; omega
  have nm_x_y : ¬ ((w31.heap.size + 1) = w31.heap.size) := by omega
  have lw_y : w.heap.size ≤ (w31.heap.size + 1) := by have := hW.size; omega
  replace H_a := Lib.hid (H_a.out.below z33)
  replace H_b := Lib.hid (H_b.out.below z33)
  replace H_q := Lib.hid (H_q.out.below z33)
  replace H_w := Lib.hid (H_w.out.below z33)
  replace H_o := Lib.hid (H_o.out.below z33)
  replace H_x := Lib.hid (H_x.out.below z33)
  replace hn := hn.below z33
  replace hd := hd.below z33
  replace pa := pa.below z33
  replace pw := pw.below z33
  replace po := po.below z33
  replace px := px.below z33
  replace py := py.below z33
  replace hW := hW.trans (z33.mono hW.size)
  have H_y : Hid (Ib w33 (w31.heap.size + 1) t31 D31 m31 d31) := Lib.hid (by rw [← ez33, hw33]; exact Ib.new _ _ _ _ _ _)
  clear z33 hw33
  obtain ⟨a1, a2, a3, a4, a5⟩ := O_a.out
  obtain ⟨b1, b2, b3, b4, b5⟩ := O_b.out
  obtain ⟨q1, q2, q3, q4, q5, q6, q7, q8, q9⟩ := O_q.out
  obtain ⟨w1, w2, w3, w4, w5⟩ := O_w.out
  obtain ⟨o1, o2, o3, o4, o5, o6, o7, o8, o9⟩ := O_o.out
  go_wp2_with fail
  rw [HW32.out]
  rw [HW33.out]
  clear a1 a2 a3 a4 a5 b1 b2 b3 b4 b5 q1 q2 q3 q4 q5 q6 q7 q8 q9 w1 w2 w3 w4 w5 o1 o2 o3 o4 o5 o6 o7 o8 o9 O_a O_b O_q O_w O_o
  refine region7 [] 34 [IsK (.bool true), IsK (.bool true), IsK (.agg #[.bool s22, .slice A22 n22 c22, .bool t22, .slice D22 m22 d22]), IsK (.agg #[.bool s, .slice A n c]), IsK (.agg #[.bool t, .slice B m d]), IsK (.bool true), IsK (.bool true), IsK (.bool true), IsK (.bool false), IsK (.agg #[.bool t31, .slice D31 m31 d31]), IsK (.int .i64 sr), IsK (.bool false), IsK (.bool true), IsK (.bool true), IsK (.bool true), IsK (.bool false), IsK (.bool false), IsK undef, IsK undef, IsK undef, IsK undef, IsK undef, IsK (.bool false), IsK (.bool false), IsK (.bool false), IsK (.bool true), IsK (.bool true), IsK (.agg #[.bool false, .slice none 0 0]), IsK (.int .i64 0), IsK (.bool true), IsK (.bool true), IsK (.bool true), IsK (.bool true), IsK (.bool true)] (fun _ _ d _ _ h => by cases d <;> exact h) (by kernel_rfl) (by kernel_rfl) (by kernel_rfl) ⟨stay_k _, stay_k _, stay_k _, stay_k _, stay_k _, stay_k _, stay_k _, stay_k _, stay_k _, stay_k _, stay_k _, stay_k _, stay_k _, stay_k _, stay_k _, stay_k _, stay_k _, stay_k _, stay_k _, stay_k _, stay_k _, stay_k _, stay_k _, stay_k _, stay_k _, stay_k _, stay_k _, stay_k _, stay_k _, stay_k _, stay_k _, stay_k _, stay_k _, stay_k _, trivial⟩ ?_ ?_
  · refine HopAll.cons rfl ?_ (HopAll.cons rfl ?_ (HopAll.cons rfl ?_ (HopAll.cons rfl ?_ (HopAll.cons rfl ?_ (HopAll.cons rfl ?_ (HopAll.cons rfl ?_ (HopAll.cons rfl ?_ (HopAll.cons rfl ?_ (HopAll.cons rfl ?_ (HopAll.cons rfl ?_ (HopAll.cons rfl ?_ (HopAll.cons rfl ?_ (HopAll.cons rfl ?_ (HopAll.cons rfl ?_ (HopAll.cons rfl ?_ (HopAll.cons rfl ?_ (HopAll.cons rfl ?_ (HopAll.cons rfl ?_ (HopAll.cons rfl ?_ (HopAll.cons rfl ?_ (HopAll.cons rfl ?_ (HopAll.cons rfl ?_ (HopAll.cons rfl ?_ (HopAll.cons rfl ?_ (HopAll.cons rfl ?_ (HopAll.cons rfl ?_ (HopAll.cons rfl ?_ (HopAll.cons rfl ?_ (HopAll.cons rfl ?_ (HopAll.cons rfl ?_ (HopAll.cons rfl ?_ (HopAll.cons rfl ?_ (HopAll.cons rfl ?_ HopAll.nil)))))))))))))))))))))))))))))))))
    · intro a w1 hB ho hp K hK
      have e6 : a.eval (.tmp 6) = (.bool true) := ho 6 (by kernel_rfl)
      refine hop_val (wanted_none rfl) ?_ (hK (.bool true) _ rfl (Below.refl _ _))
      unfold execOp; simp only [eval_const, e6]; simp [go_sem]
    · intro a w1 hB ho hp K hK
      have e74 : a.eval (.tmp 74) = (.bool true) := hp 0 74 (by kernel_rfl)
      refine hop_val (wanted_none rfl) ?_ (hK (.bool true) _ rfl (Below.refl _ _))
      unfold execOp; simp only [eval_const, e74]; simp [go_sem]
    · intro a w1 hB ho hp K hK
      have e5 : a.eval (.tmp 5) = (.pointer (some ⟨w22.heap.size, 0, none⟩)) := ho 5 (by kernel_rfl)
      obtain ⟨u1, u2, u3, u4, u5, u6, u7, u8, u9⟩ := H_q.out.below hB
      exact hop_load (wanted_at rfl (j := 1) (d := 75) (b := true) (by kernel_rfl) (hp 1 75 (by kernel_rfl))) rfl e5 (run_ldq u1 u2 u3 u4) (hK _ _ rfl (Below.refl _ _))
    · intro a w1 hB ho hp K hK
      have e2 : a.eval (.tmp 2) = (.pointer (some ⟨w.heap.size, 0, none⟩)) := ho 2 (by kernel_rfl)
      obtain ⟨u1, u2, u3, u4, u5⟩ := H_a.out.below hB
      exact hop_load (wanted_at rfl (j := 1) (d := 75) (b := true) (by kernel_rfl) (hp 1 75 (by kernel_rfl))) rfl e2 (run_ldz u1 u2) (hK _ _ rfl (Below.refl _ _))
    · intro a w1 hB ho hp K hK
      have e3 : a.eval (.tmp 3) = (.pointer (some ⟨(w.heap.size + 1), 0, none⟩)) := ho 3 (by kernel_rfl)
      obtain ⟨u1, u2, u3, u4, u5⟩ := H_b.out.below hB
      exact hop_load (wanted_at rfl (j := 1) (d := 75) (b := true) (by kernel_rfl) (hp 1 75 (by kernel_rfl))) rfl e3 (run_ldz u1 u2) (hK _ _ rfl (Below.refl _ _))
    · intro a w1 hB ho hp K hK
      have e76 : a.eval (.tmp 76) = (.agg #[.bool s22, .slice A22 n22 c22, .bool t22, .slice D22 m22 d22]) := hp 2 76 (by kernel_rfl)
      have e77 : a.eval (.tmp 77) = (.agg #[.bool s, .slice A n c]) := hp 3 77 (by kernel_rfl)
      have e78 : a.eval (.tmp 78) = (.agg #[.bool t, .slice B m d]) := hp 4 78 (by kernel_rfl)
      refine hop_call (wanted_at rfl (j := 1) (d := 75) (b := true) (by kernel_rfl) (hp 1 75 (by kernel_rfl))) rfl (args := #[(.agg #[.bool s22, .slice A22 n22 c22, .bool t22, .slice D22 m22 d22]), (.agg #[.bool s, .slice A n c]), (.agg #[.bool t, .slice B m d])]) (by simp only [List.map_toArray, List.map_cons, List.map_nil, eval_const, e76, e77, e78]) (ent7 (by kernel_rfl) _ _) (isq_yes (pa.below hB) (hn.below hB) (hd.below hB) (by omega) (by omega) (by omega) (by omega) HI.out) ?_
      rintro e w2 ⟨rfl, B⟩
      exact ⟨_, rfl, hK _ _ rfl B⟩
    · intro a w1 hB ho hp K hK
      have e75 : a.eval (.tmp 75) = (.bool true) := hp 1 75 (by kernel_rfl)
      have e79 : a.eval (.tmp 79) = (.bool true) := hp 5 79 (by kernel_rfl)
      refine hop_val (wanted_none rfl) ?_ (hK (.bool true) _ rfl (Below.refl _ _))
      unfold execOp; simp only [eval_const, e75, e79]; simp [go_sem]
    · intro a w1 hB ho hp K hK
      have e80 : a.eval (.tmp 80) = (.bool true) := hp 6 80 (by kernel_rfl)
      refine hop_val (wanted_none rfl) ?_ (hK (.bool true) _ rfl (Below.refl _ _))
      unfold execOp; simp only [eval_const, e80]; simp [go_sem]
    · intro a w1 hB ho hp K hK
      have e8 : a.eval (.tmp 8) = (.bool false) := ho 8 (by kernel_rfl)
      refine hop_val (wanted_at rfl (j := 7) (d := 81) (b := true) (by kernel_rfl) (hp 7 81 (by kernel_rfl))) ?_ (hK (.bool false) _ rfl (Below.refl _ _))
      unfold execOp; simp only [eval_const, e8]; simp [go_sem]
    · intro a w1 hB ho hp K hK
      have e11 : a.eval (.tmp 11) = (.pointer (some ⟨(w31.heap.size + 1), 0, none⟩)) := ho 11 (by kernel_rfl)
      obtain ⟨u1, u2, u3, u4, u5⟩ := H_y.out.below hB
      exact hop_load (wanted_at rfl (j := 7) (d := 81) (b := true) (by kernel_rfl) (hp 7 81 (by kernel_rfl))) rfl e11 (run_ldz u1 u2) (hK _ _ rfl (Below.refl _ _))
    · intro a w1 hB ho hp K hK
      have e83 : a.eval (.tmp 83) = (.agg #[.bool t31, .slice D31 m31 d31]) := hp 9 83 (by kernel_rfl)
      refine hop_call (wanted_at rfl (j := 7) (d := 81) (b := true) (by kernel_rfl) (hp 7 81 (by kernel_rfl))) rfl (args := #[(.agg #[.bool t31, .slice D31 m31 d31])]) (by simp only [List.map_toArray, List.map_cons, List.map_nil, eval_const, e83]) (ent7 (by kernel_rfl) _ _) (zsign_v (py.below hB).zv (by omega) HSR.out) ?_
      rintro e w2 ⟨rfl, B⟩
      exact ⟨_, rfl, hK _ _ rfl B⟩
    · intro a w1 hB ho hp K hK
      have e84 : a.eval (.tmp 84) = (.int .i64 sr) := hp 10 84 (by kernel_rfl)
      refine hop_val (wanted_at rfl (j := 7) (d := 81) (b := true) (by kernel_rfl) (hp 7 81 (by kernel_rfl))) ?_ (hK (.bool false) _ rfl (Below.refl _ _))
      unfold execOp; simp only [eval_const, e84]; simp [go_sem, hs2]
    · intro a w1 hB ho hp K hK
      have e82 : a.eval (.tmp 82) = (.bool false) := hp 8 82 (by kernel_rfl)
      have e85 : a.eval (.tmp 85) = (.bool false) := hp 11 85 (by kernel_rfl)
      refine hop_val (wanted_at rfl (j := 7) (d := 81) (b := true) (by kernel_rfl) (hp 7 81 (by kernel_rfl))) ?_ (hK (.bool true) _ rfl (Below.refl _ _))
      unfold execOp; simp only [eval_const, e82, e85]; simp [go_sem]
    · intro a w1 hB ho hp K hK
      have e81 : a.eval (.tmp 81) = (.bool true) := hp 7 81 (by kernel_rfl)
      have e86 : a.eval (.tmp 86) = (.bool true) := hp 12 86 (by kernel_rfl)
      refine hop_val (wanted_none rfl) ?_ (hK (.bool true) _ rfl (Below.refl _ _))
      unfold execOp; simp only [eval_const, e81, e86]; simp [go_sem]
    · intro a w1 hB ho hp K hK
      have e87 : a.eval (.tmp 87) = (.bool true) := hp 13 87 (by kernel_rfl)
      refine hop_val (wanted_none rfl) ?_ (hK (.bool true) _ rfl (Below.refl _ _))
      unfold execOp; simp only [eval_const, e87]; simp [go_sem]
    · intro a w1 hB ho hp K hK
      have e8 : a.eval (.tmp 8) = (.bool false) := ho 8 (by kernel_rfl)
      refine hop_val (wanted_at rfl (j := 14) (d := 88) (b := true) (by kernel_rfl) (hp 14 88 (by kernel_rfl))) ?_ (hK (.bool false) _ rfl (Below.refl _ _))
      unfold execOp; simp only [eval_const, e8]; simp [go_sem]
    · intro a w1 hB ho hp K hK
      have e89 : a.eval (.tmp 89) = (.bool false) := hp 15 89 (by kernel_rfl)
      refine hop_val (wanted_at rfl (j := 14) (d := 88) (b := true) (by kernel_rfl) (hp 14 88 (by kernel_rfl))) ?_ (hK (.bool false) _ rfl (Below.refl _ _))
      unfold execOp; simp only [eval_const, e89]; simp [go_sem]
    · intro a w1 hB ho hp K hK
      exact hop_not (unwanted_at rfl (j := 16) (d := 90) (b := true) (by kernel_rfl) (hp 16 90 (by kernel_rfl)) rfl) (hK _ _ rfl (Below.refl _ _))
    · intro a w1 hB ho hp K hK
      exact hop_not (unwanted_at rfl (j := 16) (d := 90) (b := true) (by kernel_rfl) (hp 16 90 (by kernel_rfl)) rfl) (hK _ _ rfl (Below.refl _ _))
    · intro a w1 hB ho hp K hK
      exact hop_not (unwanted_at rfl (j := 16) (d := 90) (b := true) (by kernel_rfl) (hp 16 90 (by kernel_rfl)) rfl) (hK _ _ rfl (Below.refl _ _))
    · intro a w1 hB ho hp K hK
      exact hop_not (unwanted_at rfl (j := 16) (d := 90) (b := true) (by kernel_rfl) (hp 16 90 (by kernel_rfl)) rfl) (hK _ _ rfl (Below.refl _ _))
    · intro a w1 hB ho hp K hK
      exact hop_not (unwanted_at rfl (j := 16) (d := 90) (b := true) (by kernel_rfl) (hp 16 90 (by kernel_rfl)) rfl) (hK _ _ rfl (Below.refl _ _))
    · intro a w1 hB ho hp K hK
      have e90 : a.eval (.tmp 90) = (.bool false) := hp 16 90 (by kernel_rfl)
      have e95 : a.eval (.tmp 95) = undef := hp 21 95 (by kernel_rfl)
      refine hop_val (wanted_at rfl (j := 14) (d := 88) (b := true) (by kernel_rfl) (hp 14 88 (by kernel_rfl))) ?_ (hK (.bool false) _ rfl (Below.refl _ _))
      unfold execOp; simp only [eval_const, e90, e95]; simp [go_sem]
    · intro a w1 hB ho hp K hK
      have e96 : a.eval (.tmp 96) = (.bool false) := hp 22 96 (by kernel_rfl)
      refine hop_val (wanted_at rfl (j := 14) (d := 88) (b := true) (by kernel_rfl) (hp 14 88 (by kernel_rfl))) ?_ (hK (.bool false) _ rfl (Below.refl _ _))
      unfold execOp; simp only [eval_const, e96]; simp [go_sem]
    · intro a w1 hB ho hp K hK
      have e8 : a.eval (.tmp 8) = (.bool false) := ho 8 (by kernel_rfl)
      refine hop_val (wanted_at rfl (j := 23) (d := 97) (b := false) (by kernel_rfl) (hp 23 97 (by kernel_rfl))) ?_ (hK (.bool false) _ rfl (Below.refl _ _))
      unfold execOp; simp only [eval_const, e8]; simp [go_sem]
    · intro a w1 hB ho hp K hK
      have e98 : a.eval (.tmp 98) = (.bool false) := hp 24 98 (by kernel_rfl)
      refine hop_val (wanted_at rfl (j := 23) (d := 97) (b := false) (by kernel_rfl) (hp 23 97 (by kernel_rfl))) ?_ (hK (.bool true) _ rfl (Below.refl _ _))
      unfold execOp; simp only [eval_const, e98]; simp [go_sem]
    · intro a w1 hB ho hp K hK
      have e99 : a.eval (.tmp 99) = (.bool true) := hp 25 99 (by kernel_rfl)
      refine hop_val (wanted_at rfl (j := 23) (d := 97) (b := false) (by kernel_rfl) (hp 23 97 (by kernel_rfl))) ?_ (hK (.bool true) _ rfl (Below.refl _ _))
      unfold execOp; simp only [eval_const, e99]; simp [go_sem]
    · intro a w1 hB ho hp K hK
      have e7 : a.eval (.tmp 7) = (.pointer (some ⟨w24.heap.size, 0, none⟩)) := ho 7 (by kernel_rfl)
      obtain ⟨u1, u2, u3, u4, u5⟩ := H_w.out.below hB
      exact hop_load (wanted_at rfl (j := 26) (d := 100) (b := true) (by kernel_rfl) (hp 26 100 (by kernel_rfl))) rfl e7 (run_ldz u1 u2) (hK _ _ rfl (Below.refl _ _))
    · intro a w1 hB ho hp K hK
      have e101 : a.eval (.tmp 101) = (.agg #[.bool false, .slice none 0 0]) := hp 27 101 (by kernel_rfl)
      refine hop_call (wanted_at rfl (j := 26) (d := 100) (b := true) (by kernel_rfl) (hp 26 100 (by kernel_rfl))) rfl (args := #[(.agg #[.bool false, .slice none 0 0])]) (by simp only [List.map_toArray, List.map_cons, List.map_nil, eval_const, e101]) (ent7 (by kernel_rfl) _ _) (zsign_v (pw.below hB).zv (by omega) HSW.out) ?_
      rintro e w2 ⟨rfl, B⟩
      exact ⟨_, rfl, hK _ _ rfl B⟩
    · intro a w1 hB ho hp K hK
      have e102 : a.eval (.tmp 102) = (.int .i64 0) := hp 28 102 (by kernel_rfl)
      refine hop_val (wanted_at rfl (j := 26) (d := 100) (b := true) (by kernel_rfl) (hp 26 100 (by kernel_rfl))) ?_ (hK (.bool true) _ rfl (Below.refl _ _))
      unfold execOp; simp only [eval_const, e102]; simp [go_sem]
    · intro a w1 hB ho hp K hK
      have e100 : a.eval (.tmp 100) = (.bool true) := hp 26 100 (by kernel_rfl)
      have e103 : a.eval (.tmp 103) = (.bool true) := hp 29 103 (by kernel_rfl)
      refine hop_val (wanted_at rfl (j := 23) (d := 97) (b := false) (by kernel_rfl) (hp 23 97 (by kernel_rfl))) ?_ (hK (.bool true) _ rfl (Below.refl _ _))
      unfold execOp; simp only [eval_const, e100, e103]; simp [go_sem]
    · intro a w1 hB ho hp K hK
      have e97 : a.eval (.tmp 97) = (.bool false) := hp 23 97 (by kernel_rfl)
      have e104 : a.eval (.tmp 104) = (.bool true) := hp 30 104 (by kernel_rfl)
      refine hop_val (wanted_at rfl (j := 14) (d := 88) (b := true) (by kernel_rfl) (hp 14 88 (by kernel_rfl))) ?_ (hK (.bool true) _ rfl (Below.refl _ _))
      unfold execOp; simp only [eval_const, e97, e104]; simp [go_sem]
    · intro a w1 hB ho hp K hK
      have e88 : a.eval (.tmp 88) = (.bool true) := hp 14 88 (by kernel_rfl)
      have e105 : a.eval (.tmp 105) = (.bool true) := hp 31 105 (by kernel_rfl)
      refine hop_val (wanted_none rfl) ?_ (hK (.bool true) _ rfl (Below.refl _ _))
      unfold execOp; simp only [eval_const, e88, e105]; simp [go_sem]
    · intro a w1 hB ho hp K hK
      have e106 : a.eval (.tmp 106) = (.bool true) := hp 32 106 (by kernel_rfl)
      refine hop_val (wanted_none rfl) ?_ (hK (.bool true) _ rfl (Below.refl _ _))
      unfold execOp; simp only [eval_const, e106]; simp [go_sem]
  intro w34 B34
  refine EndAll.one rfl fun vv hv => ?_
  obtain rfl : vv = (.bool true) := hv
  refine EndAll.one rfl fun vv hv => ?_
  obtain rfl : vv = (.bool true) := hv
  refine EndAll.one rfl fun vv hv => ?_
  obtain rfl : vv = (.agg #[.bool s22, .slice A22 n22 c22, .bool t22, .slice D22 m22 d22]) := hv
  refine EndAll.one rfl fun vv hv => ?_
  obtain rfl : vv = (.agg #[.bool s, .slice A n c]) := hv
  refine EndAll.one rfl fun vv hv => ?_
  obtain rfl : vv = (.agg #[.bool t, .slice B m d]) := hv
  refine EndAll.one rfl fun vv hv => ?_
  obtain rfl : vv = (.bool true) := hv
  refine EndAll.one rfl fun vv hv => ?_
  obtain rfl : vv = (.bool true) := hv
  refine EndAll.one rfl fun vv hv => ?_
  obtain rfl : vv = (.bool true) := hv
  refine EndAll.one rfl fun vv hv => ?_
  obtain rfl : vv = (.bool false) := hv
  refine EndAll.one rfl fun vv hv => ?_
  obtain rfl : vv = (.agg #[.bool t31, .slice D31 m31 d31]) := hv
  refine EndAll.one rfl fun vv hv => ?_
  obtain rfl : vv = (.int .i64 sr) := hv
  refine EndAll.one rfl fun vv hv => ?_
  obtain rfl : vv = (.bool false) := hv
  refine EndAll.one rfl fun vv hv => ?_
  obtain rfl : vv = (.bool true) := hv
  refine EndAll.one rfl fun vv hv => ?_
  obtain rfl : vv = (.bool true) := hv
  refine EndAll.one rfl fun vv hv => ?_
  obtain rfl : vv = (.bool true) := hv
  refine EndAll.one rfl fun vv hv => ?_
  obtain rfl : vv = (.bool false) := hv
  refine EndAll.one rfl fun vv hv => ?_
  obtain rfl : vv = (.bool false) := hv
  refine EndAll.one rfl fun vv hv => ?_
  obtain rfl : vv = undef := hv
  refine EndAll.one rfl fun vv hv => ?_
  obtain rfl : vv = undef := hv
  refine EndAll.one rfl fun vv hv => ?_
  obtain rfl : vv = undef := hv
  refine EndAll.one rfl fun vv hv => ?_
  obtain rfl : vv = undef := hv
  refine EndAll.one rfl fun vv hv => ?_
  obtain rfl : vv = undef := hv
  refine EndAll.one rfl fun vv hv => ?_
  obtain rfl : vv = (.bool false) := hv
  refine EndAll.one rfl fun vv hv => ?_
  obtain rfl : vv = (.bool false) := hv
  refine EndAll.one rfl fun vv hv => ?_
  obtain rfl : vv = (.bool false) := hv
  refine EndAll.one rfl fun vv hv => ?_
  obtain rfl : vv = (.bool true) := hv
  refine EndAll.one rfl fun vv hv => ?_
  obtain rfl : vv = (.bool true) := hv
  refine EndAll.one rfl fun vv hv => ?_
  obtain rfl : vv = (.agg #[.bool false, .slice none 0 0]) := hv
  refine EndAll.one rfl fun vv hv => ?_
  obtain rfl : vv = (.int .i64 0) := hv
  refine EndAll.one rfl fun vv hv => ?_
  obtain rfl : vv = (.bool true) := hv
  refine EndAll.one rfl fun vv hv => ?_
  obtain rfl : vv = (.bool true) := hv
  refine EndAll.one rfl fun vv hv => ?_
  obtain rfl : vv = (.bool true) := hv
  refine EndAll.one rfl fun vv hv => ?_
  obtain rfl : vv = (.bool true) := hv
  refine EndAll.one rfl fun vv hv => ?_
  obtain rfl : vv = (.bool true) := hv
  refine EndAll.nil (l := []) rfl ?_
  simp only [Act.put, List.setIfInBounds_toArray, List.set_cons_zero, List.set_cons_succ]
  replace H_a := Lib.hid (H_a.out.below B34)
  replace H_b := Lib.hid (H_b.out.below B34)
  replace H_q := Lib.hid (H_q.out.below B34)
  replace H_w := Lib.hid (H_w.out.below B34)
  replace H_o := Lib.hid (H_o.out.below B34)
  replace H_x := Lib.hid (H_x.out.below B34)
  replace H_y := Lib.hid (H_y.out.below B34)
  replace hn := hn.below B34
  replace hd := hd.below B34
  replace pa := pa.below B34
  replace pw := pw.below B34
  replace po := po.below B34
  replace px := px.below B34
  replace py := py.below B34
  replace hW := hW.trans (B34.mono hW.size)
  clear B34
  go_wp2_with fail
  go_ret
  exact ⟨rfl, hW⟩
set_option maxRecDepth 100000 in
set_option maxHeartbeats 16000000 in
theorem ratmakes_calls (A B : Option Addr) (n m c d : Nat) (s t : Bool) (N D : Int) (w : World) (hn : Zv w s A n c N) (hd : Zv w t B m d D) (hn9 : n ≤ 9223372036854775807) (hm9 : m ≤ 9223372036854775807) :
    Calls Try.prog 3 #[.agg #[.bool s, .slice A n c], .agg #[.bool t, .slice B m d]] w (TruePost w) := by
  by_cases h1 : 5 < n
  · exact makes_few1 hn hd h1 hn9
  by_cases h2 : 5 < m
  · exact makes_few2 hn hd (by omega) h2 hm9
  by_cases h0 : D = 0
  · exact makes_zero hn hd (by omega) (by omega) h0
  by_cases hq : (Rat.divInt N D).den = 1
  · exact makes_whole hn hd (by omega) (by omega) h0 hq
  · exact makes_part hn hd (by omega) (by omega) h0 hq
end Go.Proofs.Ytfpncmhaoadfdaa
