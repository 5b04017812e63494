/-
  The walk of RatField.
-/
import Derived.Test.YtfpncmhaoadfdaaRatW
/-! The walk of RatField. -/
namespace Go.Proofs.Ytfpncmhaoadfdaa
open Go.RowKit
set_option linter.unusedVariables false
set_option linter.unusedSimpArgs false

set_option maxRecDepth 100000 in
set_option maxHeartbeats 16000000 in
theorem field_few0 {A B C D' F G : Option Addr} {n c m d l e' f' h' i0 i1 j0 j1 : Nat} {s t u v y z : Bool} {p q o : Rat} {w : World} (ha : Qv w s A n c t B m d p) (hb : Qv w u C l e' v D' f' h' q) (hc : Qv w y F i0 i1 z G j0 j1 o) (n9 : n ≤ 9223372036854775807) (m9 : m ≤ 9223372036854775807) (l9 : l ≤ 9223372036854775807) (f9 : f' ≤ 9223372036854775807) (i9 : i0 ≤ 9223372036854775807) (j9 : j0 ≤ 9223372036854775807) (h0 : ¬ (n ≤ 3 ∧ m ≤ 3)) :
    Calls Try.prog 7 #[.agg #[.bool s, .slice A n c, .bool t, .slice B m d], .agg #[.bool u, .slice C l e', .bool v, .slice D' f' h'], .agg #[.bool y, .slice F i0 i1, .bool z, .slice G j0 j1]] w (TruePost w) := by
  have hW := Below.refl w.heap.size w
  obtain ⟨wp0, hwp0⟩ : ∃ x, x = w.alloc (.cells #[.bool s, .slice A n c, .bool t, .slice B m d] 28) := ⟨_, rfl⟩
  have zp0 : Below w.heap.size w wp0 := by rw [hwp0]; exact zba _ _
  have sp0 : wp0.heap.size = w.heap.size + 1 := by rw [hwp0, World.size_alloc]
  have Ia : Rb wp0 w.heap.size s A n c t B m d := by rw [hwp0]; exact Rb.new _ _ _ _ _ _ _ _ _ _
  replace ha := ha.below zp0
  replace hb := hb.below zp0
  replace hc := hc.below zp0
  replace hW := hW.trans (zp0.mono hW.size)
  have H_a := Lib.hid Ia
  clear Ia zp0
  obtain ⟨wp1, hwp1⟩ : ∃ x, x = wp0.alloc (.cells #[.bool u, .slice C l e', .bool v, .slice D' f' h'] 28) := ⟨_, rfl⟩
  have zp1 : Below wp0.heap.size wp0 wp1 := by rw [hwp1]; exact zba _ _
  have sp1 : wp1.heap.size = w.heap.size + 1 + 1 := by rw [hwp1, World.size_alloc, sp0]
  have Ib : Rb wp1 (w.heap.size + 1) u C l e' v D' f' h' := by rw [hwp1, ← sp0]; exact Rb.new _ _ _ _ _ _ _ _ _ _
  replace H_a := Lib.hid (H_a.out.below zp1)
  replace ha := ha.below zp1
  replace hb := hb.below zp1
  replace hc := hc.below zp1
  replace hW := hW.trans (zp1.mono hW.size)
  have H_b := Lib.hid Ib
  clear Ib zp1
  obtain ⟨wp2, hwp2⟩ : ∃ x, x = wp1.alloc (.cells #[.bool y, .slice F i0 i1, .bool z, .slice G j0 j1] 28) := ⟨_, rfl⟩
  have zp2 : Below wp1.heap.size wp1 wp2 := by rw [hwp2]; exact zba _ _
  have sp2 : wp2.heap.size = w.heap.size + 1 + 1 + 1 := by rw [hwp2, World.size_alloc, sp1]
  have Icc : Rb wp2 (w.heap.size + 1 + 1) y F i0 i1 z G j0 j1 := by rw [hwp2, ← sp1]; exact Rb.new _ _ _ _ _ _ _ _ _ _
  replace H_a := Lib.hid (H_a.out.below zp2)
  replace H_b := Lib.hid (H_b.out.below zp2)
  replace ha := ha.below zp2
  replace hb := hb.below zp2
  replace hc := hc.below zp2
  replace hW := hW.trans (zp2.mono hW.size)
  have H_cc := Lib.hid Icc
  clear Icc zp2
  have HW : Hid ((((w.alloc (.cells #[.bool s, .slice A n c, .bool t, .slice B m d] 28)).alloc (.cells #[.bool u, .slice C l e', .bool v, .slice D' f' h'] 28)).alloc (.cells #[.bool y, .slice F i0 i1, .bool z, .slice G j0 j1] 28)) = wp2) := Lib.hid (by rw [hwp2, hwp1, hwp0])
  have nn_a_b : ¬ (w.heap.size = (w.heap.size + 1)) := by omega
  have nm_a_b : ¬ ((w.heap.size + 1) = w.heap.size) := by omega
  have nn_a_cc : ¬ (w.heap.size = (w.heap.size + 1 + 1)) := by omega
  have nm_a_cc : ¬ ((w.heap.size + 1 + 1) = w.heap.size) := by omega
  have nn_b_cc : ¬ ((w.heap.size + 1) = (w.heap.size + 1 + 1)) := by omega
  have nm_b_cc : ¬ ((w.heap.size + 1 + 1) = (w.heap.size + 1)) := by omega
  have lw_a : w.heap.size ≤ w.heap.size := by omega
  have lw_b : w.heap.size ≤ (w.heap.size + 1) := by omega
  have lw_cc : w.heap.size ≤ (w.heap.size + 1 + 1) := by omega
  clear hwp0 hwp1 hwp2 sp0 sp1 sp2
  have HF0 : Hid (decide (n ≤ 3 ∧ m ≤ 3) = false) := Lib.hid (decide_eq_false h0)
  clear h0
  go_enter Try.func7, Try.ntmps7
  obtain ⟨a1, a2, a3, a4, a5, a6, a7, a8, a9⟩ := H_a.out
  obtain ⟨b1, b2, b3, b4, b5, b6, b7, b8, b9⟩ := H_b.out
  obtain ⟨cc1, cc2, cc3, cc4, cc5, cc6, cc7, cc8, cc9⟩ := H_cc.out
  go_wp2_with fail
  rw [HW.out]
  clear a1 a2 a3 a4 a5 a6 a7 a8 a9 b1 b2 b3 b4 b5 b6 b7 b8 b9 cc1 cc2 cc3 cc4 cc5 cc6 cc7 cc8 cc9
  refine (qawake_v _).mono ?_
  rintro e w21 ⟨rfl, B21⟩
  replace H_a := Lib.hid (H_a.out.below B21)
  replace H_b := Lib.hid (H_b.out.below B21)
  replace H_cc := Lib.hid (H_cc.out.below B21)
  replace ha := ha.below B21
  replace hb := hb.below B21
  replace hc := hc.below B21
  replace hW := hW.trans (B21.mono hW.size)
  clear B21
  obtain ⟨a1, a2, a3, a4, a5, a6, a7, a8, a9⟩ := H_a.out
  obtain ⟨b1, b2, b3, b4, b5, b6, b7, b8, b9⟩ := H_b.out
  obtain ⟨cc1, cc2, cc3, cc4, cc5, cc6, cc7, cc8, cc9⟩ := H_cc.out
  go_wp2_with fail
  clear a1 a2 a3 a4 a5 a6 a7 a8 a9 b1 b2 b3 b4 b5 b6 b7 b8 b9 cc1 cc2 cc3 cc4 cc5 cc6 cc7 cc8 cc9
  refine (few7_v (k := 3) (b := false) (by omega) (by omega) (by omega) HF0.out).mono ?_
  rintro e w22 ⟨rfl, B22⟩
  replace H_a := Lib.hid (H_a.out.below B22)
  replace H_b := Lib.hid (H_b.out.below B22)
  replace H_cc := Lib.hid (H_cc.out.below B22)
  replace ha := ha.below B22
  replace hb := hb.below B22
  replace hc := hc.below B22
  replace hW := hW.trans (B22.mono hW.size)
  clear B22
  obtain ⟨a1, a2, a3, a4, a5, a6, a7, a8, a9⟩ := H_a.out
  obtain ⟨b1, b2, b3, b4, b5, b6, b7, b8, b9⟩ := H_b.out
  obtain ⟨cc1, cc2, cc3, cc4, cc5, cc6, cc7, cc8, cc9⟩ := H_cc.out
  go_wp2_with fail
  clear a1 a2 a3 a4 a5 a6 a7 a8 a9 b1 b2 b3 b4 b5 b6 b7 b8 b9 cc1 cc2 cc3 cc4 cc5 cc6 cc7 cc8 cc9
  refine (qawake_v _).mono ?_
  rintro e w23 ⟨rfl, B23⟩
  replace H_a := Lib.hid (H_a.out.below B23)
  replace H_b := Lib.hid (H_b.out.below B23)
  replace H_cc := Lib.hid (H_cc.out.below B23)
  replace ha := ha.below B23
  replace hb := hb.below B23
  replace hc := hc.below B23
  replace hW := hW.trans (B23.mono hW.size)
  clear B23
  go_wp2_with fail
  go_ret
  exact ⟨rfl, hW⟩
set_option maxRecDepth 100000 in
set_option maxHeartbeats 16000000 in
theorem field_few1 {A B C D' F G : Option Addr} {n c m d l e' f' h' i0 i1 j0 j1 : Nat} {s t u v y z : Bool} {p q o : Rat} {w : World} (ha : Qv w s A n c t B m d p) (hb : Qv w u C l e' v D' f' h' q) (hc : Qv w y F i0 i1 z G j0 j1 o) (n9 : n ≤ 9223372036854775807) (m9 : m ≤ 9223372036854775807) (l9 : l ≤ 9223372036854775807) (f9 : f' ≤ 9223372036854775807) (i9 : i0 ≤ 9223372036854775807) (j9 : j0 ≤ 9223372036854775807) (h0 : (n ≤ 3 ∧ m ≤ 3)) (h1 : ¬ (l ≤ 3 ∧ f' ≤ 3)) :
    Calls Try.prog 7 #[.agg #[.bool s, .slice A n c, .bool t, .slice B m d], .agg #[.bool u, .slice C l e', .bool v, .slice D' f' h'], .agg #[.bool y, .slice F i0 i1, .bool z, .slice G j0 j1]] w (TruePost w) := by
  have hW := Below.refl w.heap.size w
  obtain ⟨wp0, hwp0⟩ : ∃ x, x = w.alloc (.cells #[.bool s, .slice A n c, .bool t, .slice B m d] 28) := ⟨_, rfl⟩
  have zp0 : Below w.heap.size w wp0 := by rw [hwp0]; exact zba _ _
  have sp0 : wp0.heap.size = w.heap.size + 1 := by rw [hwp0, World.size_alloc]
  have Ia : Rb wp0 w.heap.size s A n c t B m d := by rw [hwp0]; exact Rb.new _ _ _ _ _ _ _ _ _ _
  replace ha := ha.below zp0
  replace hb := hb.below zp0
  replace hc := hc.below zp0
  replace hW := hW.trans (zp0.mono hW.size)
  have H_a := Lib.hid Ia
  clear Ia zp0
  obtain ⟨wp1, hwp1⟩ : ∃ x, x = wp0.alloc (.cells #[.bool u, .slice C l e', .bool v, .slice D' f' h'] 28) := ⟨_, rfl⟩
  have zp1 : Below wp0.heap.size wp0 wp1 := by rw [hwp1]; exact zba _ _
  have sp1 : wp1.heap.size = w.heap.size + 1 + 1 := by rw [hwp1, World.size_alloc, sp0]
  have Ib : Rb wp1 (w.heap.size + 1) u C l e' v D' f' h' := by rw [hwp1, ← sp0]; exact Rb.new _ _ _ _ _ _ _ _ _ _
  replace H_a := Lib.hid (H_a.out.below zp1)
  replace ha := ha.below zp1
  replace hb := hb.below zp1
  replace hc := hc.below zp1
  replace hW := hW.trans (zp1.mono hW.size)
  have H_b := Lib.hid Ib
  clear Ib zp1
  obtain ⟨wp2, hwp2⟩ : ∃ x, x = wp1.alloc (.cells #[.bool y, .slice F i0 i1, .bool z, .slice G j0 j1] 28) := ⟨_, rfl⟩
  have zp2 : Below wp1.heap.size wp1 wp2 := by rw [hwp2]; exact zba _ _
  have sp2 : wp2.heap.size = w.heap.size + 1 + 1 + 1 := by rw [hwp2, World.size_alloc, sp1]
  have Icc : Rb wp2 (w.heap.size + 1 + 1) y F i0 i1 z G j0 j1 := by rw [hwp2, ← sp1]; exact Rb.new _ _ _ _ _ _ _ _ _ _
  replace H_a := Lib.hid (H_a.out.below zp2)
  replace H_b := Lib.hid (H_b.out.below zp2)
  replace ha := ha.below zp2
  replace hb := hb.below zp2
  replace hc := hc.below zp2
  replace hW := hW.trans (zp2.mono hW.size)
  have H_cc := Lib.hid Icc
  clear Icc zp2
  have HW : Hid ((((w.alloc (.cells #[.bool s, .slice A n c, .bool t, .slice B m d] 28)).alloc (.cells #[.bool u, .slice C l e', .bool v, .slice D' f' h'] 28)).alloc (.cells #[.bool y, .slice F i0 i1, .bool z, .slice G j0 j1] 28)) = wp2) := Lib.hid (by rw [hwp2, hwp1, hwp0])
  have nn_a_b : ¬ (w.heap.size = (w.heap.size + 1)) := by omega
  have nm_a_b : ¬ ((w.heap.size + 1) = w.heap.size) := by omega
  have nn_a_cc : ¬ (w.heap.size = (w.heap.size + 1 + 1)) := by omega
  have nm_a_cc : ¬ ((w.heap.size + 1 + 1) = w.heap.size) := by omega
  have nn_b_cc : ¬ ((w.heap.size + 1) = (w.heap.size + 1 + 1)) := by omega
  have nm_b_cc : ¬ ((w.heap.size + 1 + 1) = (w.heap.size + 1)) := by omega
  have lw_a : w.heap.size ≤ w.heap.size := by omega
  have lw_b : w.heap.size ≤ (w.heap.size + 1) := by omega
  have lw_cc : w.heap.size ≤ (w.heap.size + 1 + 1) := by omega
  clear hwp0 hwp1 hwp2 sp0 sp1 sp2
  have HF0 : Hid (decide (n ≤ 3 ∧ m ≤ 3) = true) := Lib.hid (decide_eq_true h0)
  have HF1 : Hid (decide (l ≤ 3 ∧ f' ≤ 3) = false) := Lib.hid (decide_eq_false h1)
  clear h0 h1
  go_enter Try.func7, Try.ntmps7
  obtain ⟨a1, a2, a3, a4, a5, a6, a7, a8, a9⟩ := H_a.out
  obtain ⟨b1, b2, b3, b4, b5, b6, b7, b8, b9⟩ := H_b.out
  obtain ⟨cc1, cc2, cc3, cc4, cc5, cc6, cc7, cc8, cc9⟩ := H_cc.out
  go_wp2_with fail
  rw [HW.out]
  clear a1 a2 a3 a4 a5 a6 a7 a8 a9 b1 b2 b3 b4 b5 b6 b7 b8 b9 cc1 cc2 cc3 cc4 cc5 cc6 cc7 cc8 cc9
  refine (qawake_v _).mono ?_
  rintro e w21 ⟨rfl, B21⟩
  replace H_a := Lib.hid (H_a.out.below B21)
  replace H_b := Lib.hid (H_b.out.below B21)
  replace H_cc := Lib.hid (H_cc.out.below B21)
  replace ha := ha.below B21
  replace hb := hb.below B21
  replace hc := hc.below B21
  replace hW := hW.trans (B21.mono hW.size)
  clear B21
  obtain ⟨a1, a2, a3, a4, a5, a6, a7, a8, a9⟩ := H_a.out
  obtain ⟨b1, b2, b3, b4, b5, b6, b7, b8, b9⟩ := H_b.out
  obtain ⟨cc1, cc2, cc3, cc4, cc5, cc6, cc7, cc8, cc9⟩ := H_cc.out
  go_wp2_with fail
  clear a1 a2 a3 a4 a5 a6 a7 a8 a9 b1 b2 b3 b4 b5 b6 b7 b8 b9 cc1 cc2 cc3 cc4 cc5 cc6 cc7 cc8 cc9
  refine (few7_v (k := 3) (b := true) (by omega) (by omega) (by omega) HF0.out).mono ?_
  rintro e w22 ⟨rfl, B22⟩
  replace H_a := Lib.hid (H_a.out.below B22)
  replace H_b := Lib.hid (H_b.out.below B22)
  replace H_cc := Lib.hid (H_cc.out.below B22)
  replace ha := ha.below B22
  replace hb := hb.below B22
  replace hc := hc.below B22
  replace hW := hW.trans (B22.mono hW.size)
  clear B22
  obtain ⟨a1, a2, a3, a4, a5, a6, a7, a8, a9⟩ := H_a.out
  obtain ⟨b1, b2, b3, b4, b5, b6, b7, b8, b9⟩ := H_b.out
  obtain ⟨cc1, cc2, cc3, cc4, cc5, cc6, cc7, cc8, cc9⟩ := H_cc.out
  go_wp2_with fail
  clear a1 a2 a3 a4 a5 a6 a7 a8 a9 b1 b2 b3 b4 b5 b6 b7 b8 b9 cc1 cc2 cc3 cc4 cc5 cc6 cc7 cc8 cc9
  refine (few7_v (k := 3) (b := false) (by omega) (by omega) (by omega) HF1.out).mono ?_
  rintro e w23 ⟨rfl, B23⟩
  replace H_a := Lib.hid (H_a.out.below B23)
  replace H_b := Lib.hid (H_b.out.below B23)
  replace H_cc := Lib.hid (H_cc.out.below B23)
  replace ha := ha.below B23
  replace hb := hb.below B23
  replace hc := hc.below B23
  replace hW := hW.trans (B23.mono hW.size)
  clear B23
  obtain ⟨a1, a2, a3, a4, a5, a6, a7, a8, a9⟩ := H_a.out
  obtain ⟨b1, b2, b3, b4, b5, b6, b7, b8, b9⟩ := H_b.out
  obtain ⟨cc1, cc2, cc3, cc4, cc5, cc6, cc7, cc8, cc9⟩ := H_cc.out
  go_wp2_with fail
  clear a1 a2 a3 a4 a5 a6 a7 a8 a9 b1 b2 b3 b4 b5 b6 b7 b8 b9 cc1 cc2 cc3 cc4 cc5 cc6 cc7 cc8 cc9
  refine (qawake_v _).mono ?_
  rintro e w24 ⟨rfl, B24⟩
  replace H_a := Lib.hid (H_a.out.below B24)
  replace H_b := Lib.hid (H_b.out.below B24)
  replace H_cc := Lib.hid (H_cc.out.below B24)
  replace ha := ha.below B24
  replace hb := hb.below B24
  replace hc := hc.below B24
  replace hW := hW.trans (B24.mono hW.size)
  clear B24
  go_wp2_with fail
  go_ret
  exact ⟨rfl, hW⟩
set_option maxRecDepth 100000 in
set_option maxHeartbeats 16000000 in
theorem field_few2 {A B C D' F G : Option Addr} {n c m d l e' f' h' i0 i1 j0 j1 : Nat} {s t u v y z : Bool} {p q o : Rat} {w : World} (ha : Qv w s A n c t B m d p) (hb : Qv w u C l e' v D' f' h' q) (hc : Qv w y F i0 i1 z G j0 j1 o) (n9 : n ≤ 9223372036854775807) (m9 : m ≤ 9223372036854775807) (l9 : l ≤ 9223372036854775807) (f9 : f' ≤ 9223372036854775807) (i9 : i0 ≤ 9223372036854775807) (j9 : j0 ≤ 9223372036854775807) (h0 : (n ≤ 3 ∧ m ≤ 3)) (h1 : (l ≤ 3 ∧ f' ≤ 3)) (h2 : ¬ (i0 ≤ 3 ∧ j0 ≤ 3)) :
    Calls Try.prog 7 #[.agg #[.bool s, .slice A n c, .bool t, .slice B m d], .agg #[.bool u, .slice C l e', .bool v, .slice D' f' h'], .agg #[.bool y, .slice F i0 i1, .bool z, .slice G j0 j1]] w (TruePost w) := by
  have hW := Below.refl w.heap.size w
  obtain ⟨wp0, hwp0⟩ : ∃ x, x = w.alloc (.cells #[.bool s, .slice A n c, .bool t, .slice B m d] 28) := ⟨_, rfl⟩
  have zp0 : Below w.heap.size w wp0 := by rw [hwp0]; exact zba _ _
  have sp0 : wp0.heap.size = w.heap.size + 1 := by rw [hwp0, World.size_alloc]
  have Ia : Rb wp0 w.heap.size s A n c t B m d := by rw [hwp0]; exact Rb.new _ _ _ _ _ _ _ _ _ _
  replace ha := ha.below zp0
  replace hb := hb.below zp0
  replace hc := hc.below zp0
  replace hW := hW.trans (zp0.mono hW.size)
  have H_a := Lib.hid Ia
  clear Ia zp0
  obtain ⟨wp1, hwp1⟩ : ∃ x, x = wp0.alloc (.cells #[.bool u, .slice C l e', .bool v, .slice D' f' h'] 28) := ⟨_, rfl⟩
  have zp1 : Below wp0.heap.size wp0 wp1 := by rw [hwp1]; exact zba _ _
  have sp1 : wp1.heap.size = w.heap.size + 1 + 1 := by rw [hwp1, World.size_alloc, sp0]
  have Ib : Rb wp1 (w.heap.size + 1) u C l e' v D' f' h' := by rw [hwp1, ← sp0]; exact Rb.new _ _ _ _ _ _ _ _ _ _
  replace H_a := Lib.hid (H_a.out.below zp1)
  replace ha := ha.below zp1
  replace hb := hb.below zp1
  replace hc := hc.below zp1
  replace hW := hW.trans (zp1.mono hW.size)
  have H_b := Lib.hid Ib
  clear Ib zp1
  obtain ⟨wp2, hwp2⟩ : ∃ x, x = wp1.alloc (.cells #[.bool y, .slice F i0 i1, .bool z, .slice G j0 j1] 28) := ⟨_, rfl⟩
  have zp2 : Below wp1.heap.size wp1 wp2 := by rw [hwp2]; exact zba _ _
  have sp2 : wp2.heap.size = w.heap.size + 1 + 1 + 1 := by rw [hwp2, World.size_alloc, sp1]
  have Icc : Rb wp2 (w.heap.size + 1 + 1) y F i0 i1 z G j0 j1 := by rw [hwp2, ← sp1]; exact Rb.new _ _ _ _ _ _ _ _ _ _
  replace H_a := Lib.hid (H_a.out.below zp2)
  replace H_b := Lib.hid (H_b.out.below zp2)
  replace ha := ha.below zp2
  replace hb := hb.below zp2
  replace hc := hc.below zp2
  replace hW := hW.trans (zp2.mono hW.size)
  have H_cc := Lib.hid Icc
  clear Icc zp2
  have HW : Hid ((((w.alloc (.cells #[.bool s, .slice A n c, .bool t, .slice B m d] 28)).alloc (.cells #[.bool u, .slice C l e', .bool v, .slice D' f' h'] 28)).alloc (.cells #[.bool y, .slice F i0 i1, .bool z, .slice G j0 j1] 28)) = wp2) := Lib.hid (by rw [hwp2, hwp1, hwp0])
  have nn_a_b : ¬ (w.heap.size = (w.heap.size + 1)) := by omega
  have nm_a_b : ¬ ((w.heap.size + 1) = w.heap.size) := by omega
  have nn_a_cc : ¬ (w.heap.size = (w.heap.size + 1 + 1)) := by omega
  have nm_a_cc : ¬ ((w.heap.size + 1 + 1) = w.heap.size) := by omega
  have nn_b_cc : ¬ ((w.heap.size + 1) = (w.heap.size + 1 + 1)) := by omega
  have nm_b_cc : ¬ ((w.heap.size + 1 + 1) = (w.heap.size + 1)) := by omega
  have lw_a : w.heap.size ≤ w.heap.size := by omega
  have lw_b : w.heap.size ≤ (w.heap.size + 1) := by omega
  have lw_cc : w.heap.size ≤ (w.heap.size + 1 + 1) := by omega
  clear hwp0 hwp1 hwp2 sp0 sp1 sp2
  have HF0 : Hid (decide (n ≤ 3 ∧ m ≤ 3) = true) := Lib.hid (decide_eq_true h0)
  have HF1 : Hid (decide (l ≤ 3 ∧ f' ≤ 3) = true) := Lib.hid (decide_eq_true h1)
  have HF2 : Hid (decide (i0 ≤ 3 ∧ j0 ≤ 3) = false) := Lib.hid (decide_eq_false h2)
  clear h0 h1 h2
  go_enter Try.func7, Try.ntmps7
  obtain ⟨a1, a2, a3, a4, a5, a6, a7, a8, a9⟩ := H_a.out
  obtain ⟨b1, b2, b3, b4, b5, b6, b7, b8, b9⟩ := H_b.out
  obtain ⟨cc1, cc2, cc3, cc4, cc5, cc6, cc7, cc8, cc9⟩ := H_cc.out
  go_wp2_with fail
  rw [HW.out]
  clear a1 a2 a3 a4 a5 a6 a7 a8 a9 b1 b2 b3 b4 b5 b6 b7 b8 b9 cc1 cc2 cc3 cc4 cc5 cc6 cc7 cc8 cc9
  refine (qawake_v _).mono ?_
  rintro e w21 ⟨rfl, B21⟩
  replace H_a := Lib.hid (H_a.out.below B21)
  replace H_b := Lib.hid (H_b.out.below B21)
  replace H_cc := Lib.hid (H_cc.out.below B21)
  replace ha := ha.below B21
  replace hb := hb.below B21
  replace hc := hc.below B21
  replace hW := hW.trans (B21.mono hW.size)
  clear B21
  obtain ⟨a1, a2, a3, a4, a5, a6, a7, a8, a9⟩ := H_a.out
  obtain ⟨b1, b2, b3, b4, b5, b6, b7, b8, b9⟩ := H_b.out
  obtain ⟨cc1, cc2, cc3, cc4, cc5, cc6, cc7, cc8, cc9⟩ := H_cc.out
  go_wp2_with fail
  clear a1 a2 a3 a4 a5 a6 a7 a8 a9 b1 b2 b3 b4 b5 b6 b7 b8 b9 cc1 cc2 cc3 cc4 cc5 cc6 cc7 cc8 cc9
  refine (few7_v (k := 3) (b := true) (by omega) (by omega) (by omega) HF0.out).mono ?_
  rintro e w22 ⟨rfl, B22⟩
  replace H_a := Lib.hid (H_a.out.below B22)
  replace H_b := Lib.hid (H_b.out.below B22)
  replace H_cc := Lib.hid (H_cc.out.below B22)
  replace ha := ha.below B22
  replace hb := hb.below B22
  replace hc := hc.below B22
  replace hW := hW.trans (B22.mono hW.size)
  clear B22
  obtain ⟨a1, a2, a3, a4, a5, a6, a7, a8, a9⟩ := H_a.out
  obtain ⟨b1, b2, b3, b4, b5, b6, b7, b8, b9⟩ := H_b.out
  obtain ⟨cc1, cc2, cc3, cc4, cc5, cc6, cc7, cc8, cc9⟩ := H_cc.out
  go_wp2_with fail
  clear a1 a2 a3 a4 a5 a6 a7 a8 a9 b1 b2 b3 b4 b5 b6 b7 b8 b9 cc1 cc2 cc3 cc4 cc5 cc6 cc7 cc8 cc9
  refine (few7_v (k := 3) (b := true) (by omega) (by omega) (by omega) HF1.out).mono ?_
  rintro e w23 ⟨rfl, B23⟩
  replace H_a := Lib.hid (H_a.out.below B23)
  replace H_b := Lib.hid (H_b.out.below B23)
  replace H_cc := Lib.hid (H_cc.out.below B23)
  replace ha := ha.below B23
  replace hb := hb.below B23
  replace hc := hc.below B23
  replace hW := hW.trans (B23.mono hW.size)
  clear B23
  obtain ⟨a1, a2, a3, a4, a5, a6, a7, a8, a9⟩ := H_a.out
  obtain ⟨b1, b2, b3, b4, b5, b6, b7, b8, b9⟩ := H_b.out
  obtain ⟨cc1, cc2, cc3, cc4, cc5, cc6, cc7, cc8, cc9⟩ := H_cc.out
  go_wp2_with fail
  clear a1 a2 a3 a4 a5 a6 a7 a8 a9 b1 b2 b3 b4 b5 b6 b7 b8 b9 cc1 cc2 cc3 cc4 cc5 cc6 cc7 cc8 cc9
  refine (few7_v (k := 3) (b := false) (by omega) (by omega) (by omega) HF2.out).mono ?_
  rintro e w24 ⟨rfl, B24⟩
  replace H_a := Lib.hid (H_a.out.below B24)
  replace H_b := Lib.hid (H_b.out.below B24)
  replace H_cc := Lib.hid (H_cc.out.below B24)
  replace ha := ha.below B24
  replace hb := hb.below B24
  replace hc := hc.below B24
  replace hW := hW.trans (B24.mono hW.size)
  clear B24
  obtain ⟨a1, a2, a3, a4, a5, a6, a7, a8, a9⟩ := H_a.out
  obtain ⟨b1, b2, b3, b4, b5, b6, b7, b8, b9⟩ := H_b.out
  obtain ⟨cc1, cc2, cc3, cc4, cc5, cc6, cc7, cc8, cc9⟩ := H_cc.out
  go_wp2_with fail
  clear a1 a2 a3 a4 a5 a6 a7 a8 a9 b1 b2 b3 b4 b5 b6 b7 b8 b9 cc1 cc2 cc3 cc4 cc5 cc6 cc7 cc8 cc9
  refine (qawake_v _).mono ?_
  rintro e w25 ⟨rfl, B25⟩
  replace H_a := Lib.hid (H_a.out.below B25)
  replace H_b := Lib.hid (H_b.out.below B25)
  replace H_cc := Lib.hid (H_cc.out.below B25)
  replace ha := ha.below B25
  replace hb := hb.below B25
  replace hc := hc.below B25
  replace hW := hW.trans (B25.mono hW.size)
  clear B25
  go_wp2_with fail
  go_ret
  exact ⟨rfl, hW⟩
set_option maxRecDepth 100000 in
set_option maxHeartbeats 16000000 in
theorem field_yes {A B C D' F G : Option Addr} {n c m d l e' f' h' i0 i1 j0 j1 : Nat} {s t u v y z : Bool} {p q o : Rat} {w : World} (ha : Qv w s A n c t B m d p) (hb : Qv w u C l e' v D' f' h' q) (hc : Qv w y F i0 i1 z G j0 j1 o) (h0 : n ≤ 3 ∧ m ≤ 3) (h1 : l ≤ 3 ∧ f' ≤ 3) (h2 : i0 ≤ 3 ∧ j0 ≤ 3) (hq : q ≠ 0) :
    Calls Try.prog 7 #[.agg #[.bool s, .slice A n c, .bool t, .slice B m d], .agg #[.bool u, .slice C l e', .bool v, .slice D' f' h'], .agg #[.bool y, .slice F i0 i1, .bool z, .slice G j0 j1]] w (TruePost w) := by
  have hW := Below.refl w.heap.size w
  obtain ⟨wp0, hwp0⟩ : ∃ x, x = w.alloc (.cells #[.bool s, .slice A n c, .bool t, .slice B m d] 28) := ⟨_, rfl⟩
  have zp0 : Below w.heap.size w wp0 := by rw [hwp0]; exact zba _ _
  have sp0 : wp0.heap.size = w.heap.size + 1 := by rw [hwp0, World.size_alloc]
  have Ia : Rb wp0 w.heap.size s A n c t B m d := by rw [hwp0]; exact Rb.new _ _ _ _ _ _ _ _ _ _
  replace ha := ha.below zp0
  replace hb := hb.below zp0
  replace hc := hc.below zp0
  replace hW := hW.trans (zp0.mono hW.size)
  have H_a := Lib.hid Ia
  clear Ia zp0
  obtain ⟨wp1, hwp1⟩ : ∃ x, x = wp0.alloc (.cells #[.bool u, .slice C l e', .bool v, .slice D' f' h'] 28) := ⟨_, rfl⟩
  have zp1 : Below wp0.heap.size wp0 wp1 := by rw [hwp1]; exact zba _ _
  have sp1 : wp1.heap.size = w.heap.size + 1 + 1 := by rw [hwp1, World.size_alloc, sp0]
  have Ib : Rb wp1 (w.heap.size + 1) u C l e' v D' f' h' := by rw [hwp1, ← sp0]; exact Rb.new _ _ _ _ _ _ _ _ _ _
  replace H_a := Lib.hid (H_a.out.below zp1)
  replace ha := ha.below zp1
  replace hb := hb.below zp1
  replace hc := hc.below zp1
  replace hW := hW.trans (zp1.mono hW.size)
  have H_b := Lib.hid Ib
  clear Ib zp1
  obtain ⟨wp2, hwp2⟩ : ∃ x, x = wp1.alloc (.cells #[.bool y, .slice F i0 i1, .bool z, .slice G j0 j1] 28) := ⟨_, rfl⟩
  have zp2 : Below wp1.heap.size wp1 wp2 := by rw [hwp2]; exact zba _ _
  have sp2 : wp2.heap.size = w.heap.size + 1 + 1 + 1 := by rw [hwp2, World.size_alloc, sp1]
  have Icc : Rb wp2 (w.heap.size + 1 + 1) y F i0 i1 z G j0 j1 := by rw [hwp2, ← sp1]; exact Rb.new _ _ _ _ _ _ _ _ _ _
  replace H_a := Lib.hid (H_a.out.below zp2)
  replace H_b := Lib.hid (H_b.out.below zp2)
  replace ha := ha.below zp2
  replace hb := hb.below zp2
  replace hc := hc.below zp2
  replace hW := hW.trans (zp2.mono hW.size)
  have H_cc := Lib.hid Icc
  clear Icc zp2
  have HW : Hid ((((w.alloc (.cells #[.bool s, .slice A n c, .bool t, .slice B m d] 28)).alloc (.cells #[.bool u, .slice C l e', .bool v, .slice D' f' h'] 28)).alloc (.cells #[.bool y, .slice F i0 i1, .bool z, .slice G j0 j1] 28)) = wp2) := Lib.hid (by rw [hwp2, hwp1, hwp0])
  have nn_a_b : ¬ (w.heap.size = (w.heap.size + 1)) := by omega
  have nm_a_b : ¬ ((w.heap.size + 1) = w.heap.size) := by omega
  have nn_a_cc : ¬ (w.heap.size = (w.heap.size + 1 + 1)) := by omega
  have nm_a_cc : ¬ ((w.heap.size + 1 + 1) = w.heap.size) := by omega
  have nn_b_cc : ¬ ((w.heap.size + 1) = (w.heap.size + 1 + 1)) := by omega
  have nm_b_cc : ¬ ((w.heap.size + 1 + 1) = (w.heap.size + 1)) := by omega
  have lw_a : w.heap.size ≤ w.heap.size := by omega
  have lw_b : w.heap.size ≤ (w.heap.size + 1) := by omega
  have lw_cc : w.heap.size ≤ (w.heap.size + 1 + 1) := by omega
  clear hwp0 hwp1 hwp2 sp0 sp1 sp2
  have HF0 : Hid (decide (n ≤ 3 ∧ m ≤ 3) = true) := Lib.hid (decide_eq_true h0)
  obtain ⟨g0, g'0⟩ := h0
  have HF1 : Hid (decide (l ≤ 3 ∧ f' ≤ 3) = true) := Lib.hid (decide_eq_true h1)
  obtain ⟨g1, g'1⟩ := h1
  have HF2 : Hid (decide (i0 ≤ 3 ∧ j0 ≤ 3) = true) := Lib.hid (decide_eq_true h2)
  obtain ⟨g2, g'2⟩ := h2
  have HB : Hid (decide (q ≠ 0) = true) := Lib.hid (decide_eq_true hq)
  have H0 : Hid (rsg (p * (q + o) - (p * q + p * o)) = 0) := Lib.hid (rsg_eq.2 (by grind))
  have H1 : Hid (rsg (p - p) = 0) := Lib.hid (rsg_eq.2 (by grind))
  have H3 : Hid (rsg (p + (q + o) - (p + q + o)) = 0) := Lib.hid (rsg_eq.2 (by grind))
  have H2 : Hid (rsg (p / q * q - p) = 0) := Lib.hid (rsg_eq.2 (by rw [Rat.div_mul_cancel hq]; grind))
  go_enter Try.func7, Try.ntmps7
  obtain ⟨a1, a2, a3, a4, a5, a6, a7, a8, a9⟩ := H_a.out
  obtain ⟨b1, b2, b3, b4, b5, b6, b7, b8, b9⟩ := H_b.out
  obtain ⟨cc1, cc2, cc3, cc4, cc5, cc6, cc7, cc8, cc9⟩ := H_cc.out
  go_wp2_with fail
  rw [HW.out]
  clear a1 a2 a3 a4 a5 a6 a7 a8 a9 b1 b2 b3 b4 b5 b6 b7 b8 b9 cc1 cc2 cc3 cc4 cc5 cc6 cc7 cc8 cc9
  refine (qawake_v _).mono ?_
  rintro e w21 ⟨rfl, B21⟩
  replace H_a := Lib.hid (H_a.out.below B21)
  replace H_b := Lib.hid (H_b.out.below B21)
  replace H_cc := Lib.hid (H_cc.out.below B21)
  replace ha := ha.below B21
  replace hb := hb.below B21
  replace hc := hc.below B21
  replace hW := hW.trans (B21.mono hW.size)
  clear B21
  obtain ⟨a1, a2, a3, a4, a5, a6, a7, a8, a9⟩ := H_a.out
  obtain ⟨b1, b2, b3, b4, b5, b6, b7, b8, b9⟩ := H_b.out
  obtain ⟨cc1, cc2, cc3, cc4, cc5, cc6, cc7, cc8, cc9⟩ := H_cc.out
  go_wp2_with fail
  clear a1 a2 a3 a4 a5 a6 a7 a8 a9 b1 b2 b3 b4 b5 b6 b7 b8 b9 cc1 cc2 cc3 cc4 cc5 cc6 cc7 cc8 cc9
  refine (few7_v (k := 3) (b := true) (by omega) (by omega) (by omega) HF0.out).mono ?_
  rintro e w22 ⟨rfl, B22⟩
  replace H_a := Lib.hid (H_a.out.below B22)
  replace H_b := Lib.hid (H_b.out.below B22)
  replace H_cc := Lib.hid (H_cc.out.below B22)
  replace ha := ha.below B22
  replace hb := hb.below B22
  replace hc := hc.below B22
  replace hW := hW.trans (B22.mono hW.size)
  clear B22
  obtain ⟨a1, a2, a3, a4, a5, a6, a7, a8, a9⟩ := H_a.out
  obtain ⟨b1, b2, b3, b4, b5, b6, b7, b8, b9⟩ := H_b.out
  obtain ⟨cc1, cc2, cc3, cc4, cc5, cc6, cc7, cc8, cc9⟩ := H_cc.out
  go_wp2_with fail
  clear a1 a2 a3 a4 a5 a6 a7 a8 a9 b1 b2 b3 b4 b5 b6 b7 b8 b9 cc1 cc2 cc3 cc4 cc5 cc6 cc7 cc8 cc9
  refine (few7_v (k := 3) (b := true) (by omega) (by omega) (by omega) HF1.out).mono ?_
  rintro e w23 ⟨rfl, B23⟩
  replace H_a := Lib.hid (H_a.out.below B23)
  replace H_b := Lib.hid (H_b.out.below B23)
  replace H_cc := Lib.hid (H_cc.out.below B23)
  replace ha := ha.below B23
  replace hb := hb.below B23
  replace hc := hc.below B23
  replace hW := hW.trans (B23.mono hW.size)
  clear B23
  obtain ⟨a1, a2, a3, a4, a5, a6, a7, a8, a9⟩ := H_a.out
  obtain ⟨b1, b2, b3, b4, b5, b6, b7, b8, b9⟩ := H_b.out
  obtain ⟨cc1, cc2, cc3, cc4, cc5, cc6, cc7, cc8, cc9⟩ := H_cc.out
  go_wp2_with fail
  clear a1 a2 a3 a4 a5 a6 a7 a8 a9 b1 b2 b3 b4 b5 b6 b7 b8 b9 cc1 cc2 cc3 cc4 cc5 cc6 cc7 cc8 cc9
  refine (few7_v (k := 3) (b := true) (by omega) (by omega) (by omega) HF2.out).mono ?_
  rintro e w24 ⟨rfl, B24⟩
  replace H_a := Lib.hid (H_a.out.below B24)
  replace H_b := Lib.hid (H_b.out.below B24)
  replace H_cc := Lib.hid (H_cc.out.below B24)
  replace ha := ha.below B24
  replace hb := hb.below B24
  replace hc := hc.below B24
  replace hW := hW.trans (B24.mono hW.size)
  clear B24
  obtain ⟨a1, a2, a3, a4, a5, a6, a7, a8, a9⟩ := H_a.out
  obtain ⟨b1, b2, b3, b4, b5, b6, b7, b8, b9⟩ := H_b.out
  obtain ⟨cc1, cc2, cc3, cc4, cc5, cc6, cc7, cc8, cc9⟩ := H_cc.out
  go_wp2_with fail
  clear a1 a2 a3 a4 a5 a6 a7 a8 a9 b1 b2 b3 b4 b5 b6 b7 b8 b9 cc1 cc2 cc3 cc4 cc5 cc6 cc7 cc8 cc9
  refine region7 [] 6 [IsK (.agg #[.bool s, .slice A n c, .bool t, .slice B m d]), IsK (.agg #[.bool u, .slice C l e', .bool v, .slice D' f' h']), IsK (.agg #[.bool y, .slice F i0 i1, .bool z, .slice G j0 j1]), IsQ (q + o) 7, IsQ (p * (q + o)) 14, IsK undef] (fun _ _ d _ _ h => by cases d <;> exact h) (by kernel_rfl) (by kernel_rfl) (by kernel_rfl) ⟨stay_k _, stay_k _, stay_k _, stay_q _ _, stay_q _ _, stay_k _, trivial⟩ ?_ ?_
  · refine HopAll.cons rfl ?_ (HopAll.cons rfl ?_ (HopAll.cons rfl ?_ (HopAll.cons rfl ?_ (HopAll.cons rfl ?_ (HopAll.al rfl HopAll.nil)))))
    · intro a w1 hB ho hp K hK
      have e3 : a.eval (.tmp 3) = (.pointer (some ⟨w.heap.size, 0, none⟩)) := ho 3 (by kernel_rfl)
      obtain ⟨u1, u2, u3, u4, u5, u6, u7, u8, u9⟩ := H_a.out.below hB
      exact hop_load (wanted_none rfl) rfl e3 (run_ldq u1 u2 u3 u4) (hK _ _ rfl (Below.refl _ _))
    · intro a w1 hB ho hp K hK
      have e4 : a.eval (.tmp 4) = (.pointer (some ⟨(w.heap.size + 1), 0, none⟩)) := ho 4 (by kernel_rfl)
      obtain ⟨u1, u2, u3, u4, u5, u6, u7, u8, u9⟩ := H_b.out.below hB
      exact hop_load (wanted_none rfl) rfl e4 (run_ldq u1 u2 u3 u4) (hK _ _ rfl (Below.refl _ _))
    · intro a w1 hB ho hp K hK
      have e5 : a.eval (.tmp 5) = (.pointer (some ⟨(w.heap.size + 1 + 1), 0, none⟩)) := ho 5 (by kernel_rfl)
      obtain ⟨u1, u2, u3, u4, u5, u6, u7, u8, u9⟩ := H_cc.out.below hB
      exact hop_load (wanted_none rfl) rfl e5 (run_ldq u1 u2 u3 u4) (hK _ _ rfl (Below.refl _ _))
    · intro a w1 hB ho hp K hK
      have e31 : a.eval (.tmp 31) = (.agg #[.bool u, .slice C l e', .bool v, .slice D' f' h']) := hp 1 31 (by kernel_rfl)
      have e32 : a.eval (.tmp 32) = (.agg #[.bool y, .slice F i0 i1, .bool z, .slice G j0 j1]) := hp 2 32 (by kernel_rfl)
      refine hop_call (wanted_none rfl) rfl (args := #[(.agg #[.bool u, .slice C l e', .bool v, .slice D' f' h']), (.agg #[.bool y, .slice F i0 i1, .bool z, .slice G j0 j1])]) (by simp only [List.map_toArray, List.map_cons, List.map_nil, eval_const, e31, e32]) (ent7 (by kernel_rfl) _ _) (add_q (hb.below hB) (hc.below hB) 3 (by omega) (by omega) (by omega) (by omega) (by omega) (by omega)) ?_
      rintro e w2 ⟨s, A, n, c, t, B, m, d, rfl, p, k, l, BB⟩
      exact ⟨_, rfl, hK _ _ ⟨s, A, n, c, t, B, m, d, rfl, p, by omega, by omega⟩ BB⟩
    · intro a w1 hB ho hp K hK
      have e30 : a.eval (.tmp 30) = (.agg #[.bool s, .slice A n c, .bool t, .slice B m d]) := hp 0 30 (by kernel_rfl)
      obtain ⟨s33, A33, n33, c33, t33, D33, m33, d33, e33, p33, k33, l33⟩ : IsQ (q + o) 7 (a.eval (.tmp 33)) w1 := hp 3 33 (by kernel_rfl)
      refine hop_call (wanted_none rfl) rfl (args := #[(.agg #[.bool s, .slice A n c, .bool t, .slice B m d]), (.agg #[.bool s33, .slice A33 n33 c33, .bool t33, .slice D33 m33 d33])]) (by simp only [List.map_toArray, List.map_cons, List.map_nil, eval_const, e30, e33]) (ent7 (by kernel_rfl) _ _) (mul_q (ha.below hB) p33.qv 7 (by omega) (by omega) (by omega) (by omega) (by omega) (by omega)) ?_
      rintro e w2 ⟨s, A, n, c, t, B, m, d, rfl, p, k, l, BB⟩
      exact ⟨_, rfl, hK _ _ ⟨s, A, n, c, t, B, m, d, rfl, p, by omega, by omega⟩ BB⟩
  intro w25 B25
  have lt25_a : w.heap.size < w24.heap.size := H_a.out.2.2.2.2.2.2.2.2
  have lt25_b : (w.heap.size + 1) < w24.heap.size := H_b.out.2.2.2.2.2.2.2.2
  have lt25_cc : (w.heap.size + 1 + 1) < w24.heap.size := H_cc.out.2.2.2.2.2.2.2.2
  have hWs25 := hW.size
  refine EndAll.one rfl fun vv hv => ?_
  obtain rfl : vv = (.agg #[.bool s, .slice A n c, .bool t, .slice B m d]) := hv
  refine EndAll.one rfl fun vv hv => ?_
  obtain rfl : vv = (.agg #[.bool u, .slice C l e', .bool v, .slice D' f' h']) := hv
  refine EndAll.one rfl fun vv hv => ?_
  obtain rfl : vv = (.agg #[.bool y, .slice F i0 i1, .bool z, .slice G j0 j1]) := hv
  refine EndAll.one rfl fun vv hv => ?_
  obtain ⟨s26, A26, n26, c26, t26, D26, m26, d26, rfl, p26, k26, l26⟩ : IsQ (q + o) 7 vv w25 := hv
  refine EndAll.one rfl fun vv hv => ?_
  obtain ⟨s27, A27, n27, c27, t27, D27, m27, d27, rfl, p27, k27, l27⟩ : IsQ (p * (q + o)) 14 vv w25 := hv
  refine EndAll.al rfl fun g28 hg28 hl28 hc28 ha28 => ?_
  refine EndAll.nil (l := [_]) rfl ?_
  simp only [Act.put, List.setIfInBounds_toArray, List.set_cons_zero, List.set_cons_succ]
  replace H_a := Lib.hid (H_a.out.below B25)
  replace H_b := Lib.hid (H_b.out.below B25)
  replace H_cc := Lib.hid (H_cc.out.below B25)
  replace ha := ha.below B25
  replace hb := hb.below B25
  replace hc := hc.below B25
  replace hW := hW.trans (B25.mono hW.size)
  have ps := p27
  have nn_a_sa : ¬ (w.heap.size = g28) := by have := lt25_a; omega
  have nm_a_sa : ¬ (g28 = w.heap.size) := by omega
  have nn_b_sa : ¬ ((w.heap.size + 1) = g28) := by have := lt25_b; omega
  have nm_b_sa : ¬ (g28 = (w.heap.size + 1)) := by omega
  have nn_cc_sa : ¬ ((w.heap.size + 1 + 1) = g28) := by have := lt25_cc; omega
  have nm_cc_sa : ¬ (g28 = (w.heap.size + 1 + 1)) := by omega
  have H_sa : Hid (Rb w25 g28 false none 0 0 false none 0 0) := Lib.hid (Rb.entry (T := 28) hc28)
  have lw_sa : w.heap.size ≤ g28 := by omega
  clear hg28 hl28 hc28
  clear B25
  have O_a := H_a
  have O_b := H_b
  have O_cc := H_cc
  have O_sa := H_sa
  obtain ⟨w29, hw29⟩ : ∃ x, x = rput w25 g28 s27 A27 n27 c27 t27 D27 m27 d27 := ⟨_, rfl⟩
  have HW29 : Hid (((((w25.setCell ⟨g28, 0, none⟩ (.bool s27)).setCell ⟨g28, 1, none⟩ (.slice A27 n27 c27)).setCell ⟨g28, 2, none⟩ (.bool t27)).setCell ⟨g28, 3, none⟩ (.slice D27 m27 d27)) = w29) := Lib.hid hw29.symm
  have OI := H_sa.out
  replace H_a : Hid (Rb w29 w.heap.size s A n c t B m d) := Lib.hid (by rw [hw29]; exact H_a.out.rput (by omega))
  replace H_b : Hid (Rb w29 (w.heap.size + 1) u C l e' v D' f' h') := Lib.hid (by rw [hw29]; exact H_b.out.rput (by omega))
  replace H_cc : Hid (Rb w29 (w.heap.size + 1 + 1) y F i0 i1 z G j0 j1) := Lib.hid (by rw [hw29]; exact H_cc.out.rput (by omega))
  replace ha := ha.rput (s' := s27) (A' := A27) (n' := n27) (c' := c27) (t' := t27) (B' := D27) (m' := m27) (d' := d27) OI
  replace hb := hb.rput (s' := s27) (A' := A27) (n' := n27) (c' := c27) (t' := t27) (B' := D27) (m' := m27) (d' := d27) OI
  replace hc := hc.rput (s' := s27) (A' := A27) (n' := n27) (c' := c27) (t' := t27) (B' := D27) (m' := m27) (d' := d27) OI
  replace ps := ps.rput (s' := s27) (A' := A27) (n' := n27) (c' := c27) (t' := t27) (B' := D27) (m' := m27) (d' := d27) OI
  rw [← hw29] at ha
  rw [← hw29] at hb
  rw [← hw29] at hc
  rw [← hw29] at ps
  replace hW : Below w.heap.size w w29 := by rw [hw29]; exact below_rput hW lw_sa
  replace H_sa : Hid (Rb w29 g28 s27 A27 n27 c27 t27 D27 m27 d27) := Lib.hid (by rw [hw29]; exact OI.own)
  clear hw29 OI
  obtain ⟨a1, a2, a3, a4, a5, a6, a7, a8, a9⟩ := O_a.out
  obtain ⟨b1, b2, b3, b4, b5, b6, b7, b8, b9⟩ := O_b.out
  obtain ⟨cc1, cc2, cc3, cc4, cc5, cc6, cc7, cc8, cc9⟩ := O_cc.out
  obtain ⟨sa1, sa2, sa3, sa4, sa5, sa6, sa7, sa8, sa9⟩ := O_sa.out
  go_wp2_with fail
  rw [HW29.out]
  clear a1 a2 a3 a4 a5 a6 a7 a8 a9 b1 b2 b3 b4 b5 b6 b7 b8 b9 cc1 cc2 cc3 cc4 cc5 cc6 cc7 cc8 cc9 sa1 sa2 sa3 sa4 sa5 sa6 sa7 sa8 sa9 O_a O_b O_cc O_sa
  refine region7 [] 8 [IsK (.agg #[.bool s, .slice A n c, .bool t, .slice B m d]), IsK (.agg #[.bool u, .slice C l e', .bool v, .slice D' f' h']), IsQ (p * q) 6, IsK (.agg #[.bool s, .slice A n c, .bool t, .slice B m d]), IsK (.agg #[.bool y, .slice F i0 i1, .bool z, .slice G j0 j1]), IsQ (p * o) 6, IsQ (p * q + p * o) 13, IsK undef] (fun _ _ d _ _ h => by cases d <;> exact h) (by kernel_rfl) (by kernel_rfl) (by kernel_rfl) ⟨stay_k _, stay_k _, stay_q _ _, stay_k _, stay_k _, stay_q _ _, stay_q _ _, stay_k _, trivial⟩ ?_ ?_
  · refine HopAll.cons rfl ?_ (HopAll.cons rfl ?_ (HopAll.cons rfl ?_ (HopAll.cons rfl ?_ (HopAll.cons rfl ?_ (HopAll.cons rfl ?_ (HopAll.cons rfl ?_ (HopAll.al rfl HopAll.nil)))))))
    · intro a w1 hB ho hp K hK
      have e3 : a.eval (.tmp 3) = (.pointer (some ⟨w.heap.size, 0, none⟩)) := ho 3 (by kernel_rfl)
      obtain ⟨u1, u2, u3, u4, u5, u6, u7, u8, u9⟩ := H_a.out.below hB
      exact hop_load (wanted_none rfl) rfl e3 (run_ldq u1 u2 u3 u4) (hK _ _ rfl (Below.refl _ _))
    · intro a w1 hB ho hp K hK
      have e4 : a.eval (.tmp 4) = (.pointer (some ⟨(w.heap.size + 1), 0, none⟩)) := ho 4 (by kernel_rfl)
      obtain ⟨u1, u2, u3, u4, u5, u6, u7, u8, u9⟩ := H_b.out.below hB
      exact hop_load (wanted_none rfl) rfl e4 (run_ldq u1 u2 u3 u4) (hK _ _ rfl (Below.refl _ _))
    · intro a w1 hB ho hp K hK
      have e35 : a.eval (.tmp 35) = (.agg #[.bool s, .slice A n c, .bool t, .slice B m d]) := hp 0 35 (by kernel_rfl)
      have e36 : a.eval (.tmp 36) = (.agg #[.bool u, .slice C l e', .bool v, .slice D' f' h']) := hp 1 36 (by kernel_rfl)
      refine hop_call (wanted_none rfl) rfl (args := #[(.agg #[.bool s, .slice A n c, .bool t, .slice B m d]), (.agg #[.bool u, .slice C l e', .bool v, .slice D' f' h'])]) (by simp only [List.map_toArray, List.map_cons, List.map_nil, eval_const, e35, e36]) (ent7 (by kernel_rfl) _ _) (mul_q (ha.below hB) (hb.below hB) 3 (by omega) (by omega) (by omega) (by omega) (by omega) (by omega)) ?_
      rintro e w2 ⟨s, A, n, c, t, B, m, d, rfl, p, k, l, BB⟩
      exact ⟨_, rfl, hK _ _ ⟨s, A, n, c, t, B, m, d, rfl, p, by omega, by omega⟩ BB⟩
    · intro a w1 hB ho hp K hK
      have e3 : a.eval (.tmp 3) = (.pointer (some ⟨w.heap.size, 0, none⟩)) := ho 3 (by kernel_rfl)
      obtain ⟨u1, u2, u3, u4, u5, u6, u7, u8, u9⟩ := H_a.out.below hB
      exact hop_load (wanted_none rfl) rfl e3 (run_ldq u1 u2 u3 u4) (hK _ _ rfl (Below.refl _ _))
    · intro a w1 hB ho hp K hK
      have e5 : a.eval (.tmp 5) = (.pointer (some ⟨(w.heap.size + 1 + 1), 0, none⟩)) := ho 5 (by kernel_rfl)
      obtain ⟨u1, u2, u3, u4, u5, u6, u7, u8, u9⟩ := H_cc.out.below hB
      exact hop_load (wanted_none rfl) rfl e5 (run_ldq u1 u2 u3 u4) (hK _ _ rfl (Below.refl _ _))
    · intro a w1 hB ho hp K hK
      have e38 : a.eval (.tmp 38) = (.agg #[.bool s, .slice A n c, .bool t, .slice B m d]) := hp 3 38 (by kernel_rfl)
      have e39 : a.eval (.tmp 39) = (.agg #[.bool y, .slice F i0 i1, .bool z, .slice G j0 j1]) := hp 4 39 (by kernel_rfl)
      refine hop_call (wanted_none rfl) rfl (args := #[(.agg #[.bool s, .slice A n c, .bool t, .slice B m d]), (.agg #[.bool y, .slice F i0 i1, .bool z, .slice G j0 j1])]) (by simp only [List.map_toArray, List.map_cons, List.map_nil, eval_const, e38, e39]) (ent7 (by kernel_rfl) _ _) (mul_q (ha.below hB) (hc.below hB) 3 (by omega) (by omega) (by omega) (by omega) (by omega) (by omega)) ?_
      rintro e w2 ⟨s, A, n, c, t, B, m, d, rfl, p, k, l, BB⟩
      exact ⟨_, rfl, hK _ _ ⟨s, A, n, c, t, B, m, d, rfl, p, by omega, by omega⟩ BB⟩
    · intro a w1 hB ho hp K hK
      obtain ⟨s37, A37, n37, c37, t37, D37, m37, d37, e37, p37, k37, l37⟩ : IsQ (p * q) 6 (a.eval (.tmp 37)) w1 := hp 2 37 (by kernel_rfl)
      obtain ⟨s40, A40, n40, c40, t40, D40, m40, d40, e40, p40, k40, l40⟩ : IsQ (p * o) 6 (a.eval (.tmp 40)) w1 := hp 5 40 (by kernel_rfl)
      refine hop_call (wanted_none rfl) rfl (args := #[(.agg #[.bool s37, .slice A37 n37 c37, .bool t37, .slice D37 m37 d37]), (.agg #[.bool s40, .slice A40 n40 c40, .bool t40, .slice D40 m40 d40])]) (by simp only [List.map_toArray, List.map_cons, List.map_nil, eval_const, e37, e40]) (ent7 (by kernel_rfl) _ _) (add_q p37.qv p40.qv 6 (by omega) (by omega) (by omega) (by omega) (by omega) (by omega)) ?_
      rintro e w2 ⟨s, A, n, c, t, B, m, d, rfl, p, k, l, BB⟩
      exact ⟨_, rfl, hK _ _ ⟨s, A, n, c, t, B, m, d, rfl, p, by omega, by omega⟩ BB⟩
  intro w30 B30
  have lt30_a : w.heap.size < w29.heap.size := H_a.out.2.2.2.2.2.2.2.2
  have lt30_b : (w.heap.size + 1) < w29.heap.size := H_b.out.2.2.2.2.2.2.2.2
  have lt30_cc : (w.heap.size + 1 + 1) < w29.heap.size := H_cc.out.2.2.2.2.2.2.2.2
  have lt30_sa : g28 < w29.heap.size := H_sa.out.2.2.2.2.2.2.2.2
  have hWs30 := hW.size
  refine EndAll.one rfl fun vv hv => ?_
  obtain rfl : vv = (.agg #[.bool s, .slice A n c, .bool t, .slice B m d]) := hv
  refine EndAll.one rfl fun vv hv => ?_
  obtain rfl : vv = (.agg #[.bool u, .slice C l e', .bool v, .slice D' f' h']) := hv
  refine EndAll.one rfl fun vv hv => ?_
  obtain ⟨s31, A31, n31, c31, t31, D31, m31, d31, rfl, p31, k31, l31⟩ : IsQ (p * q) 6 vv w30 := hv
  refine EndAll.one rfl fun vv hv => ?_
  obtain rfl : vv = (.agg #[.bool s, .slice A n c, .bool t, .slice B m d]) := hv
  refine EndAll.one rfl fun vv hv => ?_
  obtain rfl : vv = (.agg #[.bool y, .slice F i0 i1, .bool z, .slice G j0 j1]) := hv
  refine EndAll.one rfl fun vv hv => ?_
  obtain ⟨s32, A32, n32, c32, t32, D32, m32, d32, rfl, p32, k32, l32⟩ : IsQ (p * o) 6 vv w30 := hv
  refine EndAll.one rfl fun vv hv => ?_
  obtain ⟨s33, A33, n33, c33, t33, D33, m33, d33, rfl, p33, k33, l33⟩ : IsQ (p * q + p * o) 13 vv w30 := hv
  refine EndAll.al rfl fun g34 hg34 hl34 hc34 ha34 => ?_
  refine EndAll.nil (l := [_]) rfl ?_
  simp only [Act.put, List.setIfInBounds_toArray, List.set_cons_zero, List.set_cons_succ]
  replace H_a := Lib.hid (H_a.out.below B30)
  replace H_b := Lib.hid (H_b.out.below B30)
  replace H_cc := Lib.hid (H_cc.out.below B30)
  replace H_sa := Lib.hid (H_sa.out.below B30)
  replace ha := ha.below B30
  replace hb := hb.below B30
  replace hc := hc.below B30
  replace ps := ps.below B30
  replace hW := hW.trans (B30.mono hW.size)
  have pt := p33
  have nn_a_ta : ¬ (w.heap.size = g34) := by have := lt30_a; omega
  have nm_a_ta : ¬ (g34 = w.heap.size) := by omega
  have nn_b_ta : ¬ ((w.heap.size + 1) = g34) := by have := lt30_b; omega
  have nm_b_ta : ¬ (g34 = (w.heap.size + 1)) := by omega
  have nn_cc_ta : ¬ ((w.heap.size + 1 + 1) = g34) := by have := lt30_cc; omega
  have nm_cc_ta : ¬ (g34 = (w.heap.size + 1 + 1)) := by omega
  have nn_sa_ta : ¬ (g28 = g34) := by have := lt30_sa; omega
  have nm_sa_ta : ¬ (g34 = g28) := by omega
  have H_ta : Hid (Rb w30 g34 false none 0 0 false none 0 0) := Lib.hid (Rb.entry (T := 28) hc34)
  have lw_ta : w.heap.size ≤ g34 := by omega
  clear hg34 hl34 hc34
  clear B30
  have O_a := H_a
  have O_b := H_b
  have O_cc := H_cc
  have O_sa := H_sa
  have O_ta := H_ta
  obtain ⟨w35, hw35⟩ : ∃ x, x = rput w30 g34 s33 A33 n33 c33 t33 D33 m33 d33 := ⟨_, rfl⟩
  have HW35 : Hid (((((w30.setCell ⟨g34, 0, none⟩ (.bool s33)).setCell ⟨g34, 1, none⟩ (.slice A33 n33 c33)).setCell ⟨g34, 2, none⟩ (.bool t33)).setCell ⟨g34, 3, none⟩ (.slice D33 m33 d33)) = w35) := Lib.hid hw35.symm
  have OI := H_ta.out
  replace H_a : Hid (Rb w35 w.heap.size s A n c t B m d) := Lib.hid (by rw [hw35]; exact H_a.out.rput (by omega))
  replace H_b : Hid (Rb w35 (w.heap.size + 1) u C l e' v D' f' h') := Lib.hid (by rw [hw35]; exact H_b.out.rput (by omega))
  replace H_cc : Hid (Rb w35 (w.heap.size + 1 + 1) y F i0 i1 z G j0 j1) := Lib.hid (by rw [hw35]; exact H_cc.out.rput (by omega))
  replace H_sa : Hid (Rb w35 g28 s27 A27 n27 c27 t27 D27 m27 d27) := Lib.hid (by rw [hw35]; exact H_sa.out.rput (by omega))
  replace ha := ha.rput (s' := s33) (A' := A33) (n' := n33) (c' := c33) (t' := t33) (B' := D33) (m' := m33) (d' := d33) OI
  replace hb := hb.rput (s' := s33) (A' := A33) (n' := n33) (c' := c33) (t' := t33) (B' := D33) (m' := m33) (d' := d33) OI
  replace hc := hc.rput (s' := s33) (A' := A33) (n' := n33) (c' := c33) (t' := t33) (B' := D33) (m' := m33) (d' := d33) OI
  replace ps := ps.rput (s' := s33) (A' := A33) (n' := n33) (c' := c33) (t' := t33) (B' := D33) (m' := m33) (d' := d33) OI
  replace pt := pt.rput (s' := s33) (A' := A33) (n' := n33) (c' := c33) (t' := t33) (B' := D33) (m' := m33) (d' := d33) OI
  rw [← hw35] at ha
  rw [← hw35] at hb
  rw [← hw35] at hc
  rw [← hw35] at ps
  rw [← hw35] at pt
  replace hW : Below w.heap.size w w35 := by rw [hw35]; exact below_rput hW lw_ta
  replace H_ta : Hid (Rb w35 g34 s33 A33 n33 c33 t33 D33 m33 d33) := Lib.hid (by rw [hw35]; exact OI.own)
  clear hw35 OI
  obtain ⟨a1, a2, a3, a4, a5, a6, a7, a8, a9⟩ := O_a.out
  obtain ⟨b1, b2, b3, b4, b5, b6, b7, b8, b9⟩ := O_b.out
  obtain ⟨cc1, cc2, cc3, cc4, cc5, cc6, cc7, cc8, cc9⟩ := O_cc.out
  obtain ⟨sa1, sa2, sa3, sa4, sa5, sa6, sa7, sa8, sa9⟩ := O_sa.out
  obtain ⟨ta1, ta2, ta3, ta4, ta5, ta6, ta7, ta8, ta9⟩ := O_ta.out
  go_wp2_with fail
  rw [HW35.out]
  clear a1 a2 a3 a4 a5 a6 a7 a8 a9 b1 b2 b3 b4 b5 b6 b7 b8 b9 cc1 cc2 cc3 cc4 cc5 cc6 cc7 cc8 cc9 sa1 sa2 sa3 sa4 sa5 sa6 sa7 sa8 sa9 ta1 ta2 ta3 ta4 ta5 ta6 ta7 ta8 ta9 O_a O_b O_cc O_sa O_ta
  refine (quo_q ha hb 3 (by omega) (by omega) (by omega) (by omega) (by omega) (by omega) HB.out).mono ?_
  rintro e w36 ⟨s36, A36, n36, c36, t36, D36, m36, d36, rfl, pq, k36, l36, B36⟩
  replace H_a := Lib.hid (H_a.out.below B36)
  replace H_b := Lib.hid (H_b.out.below B36)
  replace H_cc := Lib.hid (H_cc.out.below B36)
  replace H_sa := Lib.hid (H_sa.out.below B36)
  replace H_ta := Lib.hid (H_ta.out.below B36)
  replace ha := ha.below B36
  replace hb := hb.below B36
  replace hc := hc.below B36
  replace ps := ps.below B36
  replace pt := pt.below B36
  replace hW := hW.trans (B36.mono hW.size)
  clear B36
  have O_a := H_a
  have O_b := H_b
  have O_cc := H_cc
  have O_sa := H_sa
  have O_ta := H_ta
  obtain ⟨w37, hw37⟩ : ∃ x, x = w36.alloc (.cells #[.bool s36, .slice A36 n36 c36, .bool t36, .slice D36 m36 d36] 28) := ⟨_, rfl⟩
  have z37 : Below w36.heap.size w36 w37 := by rw [hw37]; exact zba _ _
  have HW37 : Hid (w36.alloc (.cells #[.bool s36, .slice A36 n36 c36, .bool t36, .slice D36 m36 d36] 28) = w37) := Lib.hid hw37.symm
  have nn_a_qa : ¬ (w.heap.size = w36.heap.size) := by have := H_a.out.2.2.2.2.2.2.2.2; omega
  have nm_a_qa : ¬ (w36.heap.size = w.heap.size) := by omega
  have nn_b_qa : ¬ ((w.heap.size + 1) = w36.heap.size) := by have := H_b.out.2.2.2.2.2.2.2.2; omega
  have nm_b_qa : ¬ (w36.heap.size = (w.heap.size + 1)) := by omega
  have nn_cc_qa : ¬ ((w.heap.size + 1 + 1) = w36.heap.size) := by have := H_cc.out.2.2.2.2.2.2.2.2; omega
  have nm_cc_qa : ¬ (w36.heap.size = (w.heap.size + 1 + 1)) := by omega
  have nn_sa_qa : ¬ (g28 = w36.heap.size) := by have := H_sa.out.2.2.2.2.2.2.2.2; omega
  have nm_sa_qa : ¬ (w36.heap.size = g28) := by omega
  have nn_ta_qa : ¬ (g34 = w36.heap.size) := by have := H_ta.out.2.2.2.2.2.2.2.2; omega
  have nm_ta_qa : ¬ (w36.heap.size = g34) := by omega
  have lw_qa : w.heap.size ≤ w36.heap.size := by have := hW.size; omega
  replace H_a := Lib.hid (H_a.out.below z37)
  replace H_b := Lib.hid (H_b.out.below z37)
  replace H_cc := Lib.hid (H_cc.out.below z37)
  replace H_sa := Lib.hid (H_sa.out.below z37)
  replace H_ta := Lib.hid (H_ta.out.below z37)
  replace ha := ha.below z37
  replace hb := hb.below z37
  replace hc := hc.below z37
  replace ps := ps.below z37
  replace pt := pt.below z37
  replace pq := pq.below z37
  replace hW := hW.trans (z37.mono hW.size)
  have H_qa : Hid (Rb w37 w36.heap.size s36 A36 n36 c36 t36 D36 m36 d36) := Lib.hid (by rw [hw37]; exact Rb.new _ _ _ _ _ _ _ _ _ _)
  clear z37 hw37
  obtain ⟨a1, a2, a3, a4, a5, a6, a7, a8, a9⟩ := O_a.out
  obtain ⟨b1, b2, b3, b4, b5, b6, b7, b8, b9⟩ := O_b.out
  obtain ⟨cc1, cc2, cc3, cc4, cc5, cc6, cc7, cc8, cc9⟩ := O_cc.out
  obtain ⟨sa1, sa2, sa3, sa4, sa5, sa6, sa7, sa8, sa9⟩ := O_sa.out
  obtain ⟨ta1, ta2, ta3, ta4, ta5, ta6, ta7, ta8, ta9⟩ := O_ta.out
  go_wp2_with fail
  rw [HW37.out]
  clear a1 a2 a3 a4 a5 a6 a7 a8 a9 b1 b2 b3 b4 b5 b6 b7 b8 b9 cc1 cc2 cc3 cc4 cc5 cc6 cc7 cc8 cc9 sa1 sa2 sa3 sa4 sa5 sa6 sa7 sa8 sa9 ta1 ta2 ta3 ta4 ta5 ta6 ta7 ta8 ta9 O_a O_b O_cc O_sa O_ta
  refine (mul_q pq.qv hb 6 (by omega) (by omega) (by omega) (by omega) (by omega) (by omega)).mono ?_
  rintro e w38 ⟨s38, A38, n38, c38, t38, D38, m38, d38, rfl, pb, k38, l38, B38⟩
  replace H_a := Lib.hid (H_a.out.below B38)
  replace H_b := Lib.hid (H_b.out.below B38)
  replace H_cc := Lib.hid (H_cc.out.below B38)
  replace H_sa := Lib.hid (H_sa.out.below B38)
  replace H_ta := Lib.hid (H_ta.out.below B38)
  replace H_qa := Lib.hid (H_qa.out.below B38)
  replace ha := ha.below B38
  replace hb := hb.below B38
  replace hc := hc.below B38
  replace ps := ps.below B38
  replace pt := pt.below B38
  replace pq := pq.below B38
  replace hW := hW.trans (B38.mono hW.size)
  clear B38
  have O_a := H_a
  have O_b := H_b
  have O_cc := H_cc
  have O_sa := H_sa
  have O_ta := H_ta
  have O_qa := H_qa
  obtain ⟨w39, hw39⟩ : ∃ x, x = w38.alloc (.cells #[.bool s38, .slice A38 n38 c38, .bool t38, .slice D38 m38 d38] 28) := ⟨_, rfl⟩
  have z39 : Below w38.heap.size w38 w39 := by rw [hw39]; exact zba _ _
  have HW39 : Hid (w38.alloc (.cells #[.bool s38, .slice A38 n38 c38, .bool t38, .slice D38 m38 d38] 28) = w39) := Lib.hid hw39.symm
  have nn_a_ba : ¬ (w.heap.size = w38.heap.size) := by have := H_a.out.2.2.2.2.2.2.2.2; omega
  have nm_a_ba : ¬ (w38.heap.size = w.heap.size) := by omega
  have nn_b_ba : ¬ ((w.heap.size + 1) = w38.heap.size) := by have := H_b.out.2.2.2.2.2.2.2.2; omega
  have nm_b_ba : ¬ (w38.heap.size = (w.heap.size + 1)) := by omega
  have nn_cc_ba : ¬ ((w.heap.size + 1 + 1) = w38.heap.size) := by have := H_cc.out.2.2.2.2.2.2.2.2; omega
  have nm_cc_ba : ¬ (w38.heap.size = (w.heap.size + 1 + 1)) := by omega
  have nn_sa_ba : ¬ (g28 = w38.heap.size) := by have := H_sa.out.2.2.2.2.2.2.2.2; omega
  have nm_sa_ba : ¬ (w38.heap.size = g28) := by omega
  have nn_ta_ba : ¬ (g34 = w38.heap.size) := by have := H_ta.out.2.2.2.2.2.2.2.2; omega
  have nm_ta_ba : ¬ (w38.heap.size = g34) := by omega
  have nn_qa_ba : ¬ (w36.heap.size = w38.heap.size) := by have := H_qa.out.2.2.2.2.2.2.2.2; omega
  have nm_qa_ba : ¬ (w38.heap.size = w36.heap.size) := by omega
  have lw_ba : w.heap.size ≤ w38.heap.size := by have := hW.size; omega
  replace H_a := Lib.hid (H_a.out.below z39)
  replace H_b := Lib.hid (H_b.out.below z39)
  replace H_cc := Lib.hid (H_cc.out.below z39)
  replace H_sa := Lib.hid (H_sa.out.below z39)
  replace H_ta := Lib.hid (H_ta.out.below z39)
  replace H_qa := Lib.hid (H_qa.out.below z39)
  replace ha := ha.below z39
  replace hb := hb.below z39
  replace hc := hc.below z39
  replace ps := ps.below z39
  replace pt := pt.below z39
  replace pq := pq.below z39
  replace pb := pb.below z39
  replace hW := hW.trans (z39.mono hW.size)
  have H_ba : Hid (Rb w39 w38.heap.size s38 A38 n38 c38 t38 D38 m38 d38) := Lib.hid (by rw [hw39]; exact Rb.new _ _ _ _ _ _ _ _ _ _)
  clear z39 hw39
  obtain ⟨a1, a2, a3, a4, a5, a6, a7, a8, a9⟩ := O_a.out
  obtain ⟨b1, b2, b3, b4, b5, b6, b7, b8, b9⟩ := O_b.out
  obtain ⟨cc1, cc2, cc3, cc4, cc5, cc6, cc7, cc8, cc9⟩ := O_cc.out
  obtain ⟨sa1, sa2, sa3, sa4, sa5, sa6, sa7, sa8, sa9⟩ := O_sa.out
  obtain ⟨ta1, ta2, ta3, ta4, ta5, ta6, ta7, ta8, ta9⟩ := O_ta.out
  obtain ⟨qa1, qa2, qa3, qa4, qa5, qa6, qa7, qa8, qa9⟩ := O_qa.out
  go_wp2_with fail
  rw [HW39.out]
  clear a1 a2 a3 a4 a5 a6 a7 a8 a9 b1 b2 b3 b4 b5 b6 b7 b8 b9 cc1 cc2 cc3 cc4 cc5 cc6 cc7 cc8 cc9 sa1 sa2 sa3 sa4 sa5 sa6 sa7 sa8 sa9 ta1 ta2 ta3 ta4 ta5 ta6 ta7 ta8 ta9 qa1 qa2 qa3 qa4 qa5 qa6 qa7 qa8 qa9 O_a O_b O_cc O_sa O_ta O_qa
  refine region7 [] 44 [IsK (.agg #[.bool s27, .slice A27 n27 c27, .bool t27, .slice D27 m27 d27]), IsK (.agg #[.bool s33, .slice A33 n33 c33, .bool t33, .slice D33 m33 d33]), IsK (.int .i64 0), IsK (.bool true), IsK (.bool true), IsK (.agg #[.bool s, .slice A n c, .bool t, .slice B m d]), IsK (.agg #[.bool s, .slice A n c, .bool t, .slice B m d]), IsQ (p - p) 7, IsK (.int .i64 0), IsK (.bool true), IsK (.bool true), IsK (.bool true), IsK (.bool true), IsK (.bool false), IsK (.bool false), IsK undef, IsK undef, IsK undef, IsK (.bool false), IsK (.bool false), IsK (.bool true), IsK (.bool true), IsK (.agg #[.bool s38, .slice A38 n38 c38, .bool t38, .slice D38 m38 d38]), IsK (.agg #[.bool s, .slice A n c, .bool t, .slice B m d]), IsK (.int .i64 0), IsK (.bool true), IsK (.bool true), IsK (.bool true), IsK (.bool true), IsK (.bool true), IsK (.agg #[.bool s, .slice A n c, .bool t, .slice B m d]), IsK (.agg #[.bool u, .slice C l e', .bool v, .slice D' f' h']), IsK (.agg #[.bool y, .slice F i0 i1, .bool z, .slice G j0 j1]), IsQ (q + o) 7, IsQ (p + (q + o)) 15, IsK (.agg #[.bool s, .slice A n c, .bool t, .slice B m d]), IsK (.agg #[.bool u, .slice C l e', .bool v, .slice D' f' h']), IsQ (p + q) 7, IsK (.agg #[.bool y, .slice F i0 i1, .bool z, .slice G j0 j1]), IsQ (p + q + o) 15, IsK (.int .i64 0), IsK (.bool true), IsK (.bool true), IsK (.bool true)] (fun _ _ d _ _ h => by cases d <;> exact h) (by kernel_rfl) (by kernel_rfl) (by kernel_rfl) ⟨stay_k _, stay_k _, stay_k _, stay_k _, stay_k _, stay_k _, stay_k _, stay_q _ _, stay_k _, stay_k _, stay_k _, stay_k _, stay_k _, stay_k _, stay_k _, stay_k _, stay_k _, stay_k _, stay_k _, stay_k _, stay_k _, stay_k _, stay_k _, stay_k _, stay_k _, stay_k _, stay_k _, stay_k _, stay_k _, stay_k _, stay_k _, stay_k _, stay_k _, stay_q _ _, stay_q _ _, stay_k _, stay_k _, stay_q _ _, stay_k _, stay_q _ _, stay_k _, stay_k _, stay_k _, stay_k _, trivial⟩ ?_ ?_
  · refine HopAll.cons rfl ?_ (HopAll.cons rfl ?_ (HopAll.cons rfl ?_ (HopAll.cons rfl ?_ (HopAll.cons rfl ?_ (HopAll.cons rfl ?_ (HopAll.cons rfl ?_ (HopAll.cons rfl ?_ (HopAll.cons rfl ?_ (HopAll.cons rfl ?_ (HopAll.cons rfl ?_ (HopAll.cons rfl ?_ (HopAll.cons rfl ?_ (HopAll.cons rfl ?_ (HopAll.cons rfl ?_ (HopAll.cons rfl ?_ (HopAll.cons rfl ?_ (HopAll.cons rfl ?_ (HopAll.cons rfl ?_ (HopAll.cons rfl ?_ (HopAll.cons rfl ?_ (HopAll.cons rfl ?_ (HopAll.cons rfl ?_ (HopAll.cons rfl ?_ (HopAll.cons rfl ?_ (HopAll.cons rfl ?_ (HopAll.cons rfl ?_ (HopAll.cons rfl ?_ (HopAll.cons rfl ?_ (HopAll.cons rfl ?_ (HopAll.cons rfl ?_ (HopAll.cons rfl ?_ (HopAll.cons rfl ?_ (HopAll.cons rfl ?_ (HopAll.cons rfl ?_ (HopAll.cons rfl ?_ (HopAll.cons rfl ?_ (HopAll.cons rfl ?_ (HopAll.cons rfl ?_ (HopAll.cons rfl ?_ (HopAll.cons rfl ?_ (HopAll.cons rfl ?_ (HopAll.cons rfl ?_ (HopAll.cons rfl ?_ HopAll.nil)))))))))))))))))))))))))))))))))))))))))))
    · intro a w1 hB ho hp K hK
      have e7 : a.eval (.tmp 7) = (.pointer (some ⟨g28, 0, none⟩)) := ho 7 (by kernel_rfl)
      obtain ⟨u1, u2, u3, u4, u5, u6, u7, u8, u9⟩ := H_sa.out.below hB
      exact hop_load (wanted_none rfl) rfl e7 (run_ldq u1 u2 u3 u4) (hK _ _ rfl (Below.refl _ _))
    · intro a w1 hB ho hp K hK
      have e8 : a.eval (.tmp 8) = (.pointer (some ⟨g34, 0, none⟩)) := ho 8 (by kernel_rfl)
      obtain ⟨u1, u2, u3, u4, u5, u6, u7, u8, u9⟩ := H_ta.out.below hB
      exact hop_load (wanted_none rfl) rfl e8 (run_ldq u1 u2 u3 u4) (hK _ _ rfl (Below.refl _ _))
    · intro a w1 hB ho hp K hK
      have e51 : a.eval (.tmp 51) = (.agg #[.bool s27, .slice A27 n27 c27, .bool t27, .slice D27 m27 d27]) := hp 0 51 (by kernel_rfl)
      have e52 : a.eval (.tmp 52) = (.agg #[.bool s33, .slice A33 n33 c33, .bool t33, .slice D33 m33 d33]) := hp 1 52 (by kernel_rfl)
      refine hop_call (wanted_none rfl) rfl (args := #[(.agg #[.bool s27, .slice A27 n27 c27, .bool t27, .slice D27 m27 d27]), (.agg #[.bool s33, .slice A33 n33 c33, .bool t33, .slice D33 m33 d33])]) (by simp only [List.map_toArray, List.map_cons, List.map_nil, eval_const, e51, e52]) (ent7 (by kernel_rfl) _ _) (cmp_q (ps.below hB).qv (pt.below hB).qv 14 (by omega) (by omega) (by omega) (by omega) (by omega) (by omega) H0.out) ?_
      rintro e w2 ⟨rfl, B⟩
      exact ⟨_, rfl, hK _ _ rfl B⟩
    · intro a w1 hB ho hp K hK
      have e53 : a.eval (.tmp 53) = (.int .i64 0) := hp 2 53 (by kernel_rfl)
      refine hop_val (wanted_none rfl) ?_ (hK (.bool true) _ rfl (Below.refl _ _))
      unfold execOp; simp only [eval_const, e53]; simp [go_sem]
    · intro a w1 hB ho hp K hK
      have e54 : a.eval (.tmp 54) = (.bool true) := hp 3 54 (by kernel_rfl)
      refine hop_val (wanted_none rfl) ?_ (hK (.bool true) _ rfl (Below.refl _ _))
      unfold execOp; simp only [eval_const, e54]; simp [go_sem]
    · intro a w1 hB ho hp K hK
      have e3 : a.eval (.tmp 3) = (.pointer (some ⟨w.heap.size, 0, none⟩)) := ho 3 (by kernel_rfl)
      obtain ⟨u1, u2, u3, u4, u5, u6, u7, u8, u9⟩ := H_a.out.below hB
      exact hop_load (wanted_at rfl (j := 4) (d := 55) (b := true) (by kernel_rfl) (hp 4 55 (by kernel_rfl))) rfl e3 (run_ldq u1 u2 u3 u4) (hK _ _ rfl (Below.refl _ _))
    · intro a w1 hB ho hp K hK
      have e3 : a.eval (.tmp 3) = (.pointer (some ⟨w.heap.size, 0, none⟩)) := ho 3 (by kernel_rfl)
      obtain ⟨u1, u2, u3, u4, u5, u6, u7, u8, u9⟩ := H_a.out.below hB
      exact hop_load (wanted_at rfl (j := 4) (d := 55) (b := true) (by kernel_rfl) (hp 4 55 (by kernel_rfl))) rfl e3 (run_ldq u1 u2 u3 u4) (hK _ _ rfl (Below.refl _ _))
    · intro a w1 hB ho hp K hK
      have e56 : a.eval (.tmp 56) = (.agg #[.bool s, .slice A n c, .bool t, .slice B m d]) := hp 5 56 (by kernel_rfl)
      have e57 : a.eval (.tmp 57) = (.agg #[.bool s, .slice A n c, .bool t, .slice B m d]) := hp 6 57 (by kernel_rfl)
      refine hop_call (wanted_at rfl (j := 4) (d := 55) (b := true) (by kernel_rfl) (hp 4 55 (by kernel_rfl))) rfl (args := #[(.agg #[.bool s, .slice A n c, .bool t, .slice B m d]), (.agg #[.bool s, .slice A n c, .bool t, .slice B m d])]) (by simp only [List.map_toArray, List.map_cons, List.map_nil, eval_const, e56, e57]) (ent7 (by kernel_rfl) _ _) (sub_q (ha.below hB) (ha.below hB) 3 (by omega) (by omega) (by omega) (by omega) (by omega) (by omega)) ?_
      rintro e w2 ⟨s, A, n, c, t, B, m, d, rfl, p, k, l, BB⟩
      exact ⟨_, rfl, hK _ _ ⟨s, A, n, c, t, B, m, d, rfl, p, by omega, by omega⟩ BB⟩
    · intro a w1 hB ho hp K hK
      obtain ⟨s58, A58, n58, c58, t58, D58, m58, d58, e58, p58, k58, l58⟩ : IsQ (p - p) 7 (a.eval (.tmp 58)) w1 := hp 7 58 (by kernel_rfl)
      refine hop_call (wanted_at rfl (j := 4) (d := 55) (b := true) (by kernel_rfl) (hp 4 55 (by kernel_rfl))) rfl (args := #[(.agg #[.bool s58, .slice A58 n58 c58, .bool t58, .slice D58 m58 d58])]) (by simp only [List.map_toArray, List.map_cons, List.map_nil, eval_const, e58]) (ent7 (by kernel_rfl) _ _) (sign_q p58.qv 7 (by omega) (by omega) (by omega) H1.out) ?_
      rintro e w2 ⟨rfl, B⟩
      exact ⟨_, rfl, hK _ _ rfl B⟩
    · intro a w1 hB ho hp K hK
      have e59 : a.eval (.tmp 59) = (.int .i64 0) := hp 8 59 (by kernel_rfl)
      refine hop_val (wanted_at rfl (j := 4) (d := 55) (b := true) (by kernel_rfl) (hp 4 55 (by kernel_rfl))) ?_ (hK (.bool true) _ rfl (Below.refl _ _))
      unfold execOp; simp only [eval_const, e59]; simp [go_sem]
    · intro a w1 hB ho hp K hK
      have e55 : a.eval (.tmp 55) = (.bool true) := hp 4 55 (by kernel_rfl)
      have e60 : a.eval (.tmp 60) = (.bool true) := hp 9 60 (by kernel_rfl)
      refine hop_val (wanted_none rfl) ?_ (hK (.bool true) _ rfl (Below.refl _ _))
      unfold execOp; simp only [eval_const, e55, e60]; simp [go_sem]
    · intro a w1 hB ho hp K hK
      have e61 : a.eval (.tmp 61) = (.bool true) := hp 10 61 (by kernel_rfl)
      refine hop_val (wanted_none rfl) ?_ (hK (.bool true) _ rfl (Below.refl _ _))
      unfold execOp; simp only [eval_const, e61]; simp [go_sem]
    · intro a w1 hB ho hp K hK
      have e10 : a.eval (.tmp 10) = (.bool true) := ho 10 (by kernel_rfl)
      refine hop_val (wanted_at rfl (j := 11) (d := 62) (b := true) (by kernel_rfl) (hp 11 62 (by kernel_rfl))) ?_ (hK (.bool true) _ rfl (Below.refl _ _))
      unfold execOp; simp only [eval_const, e10]; simp [go_sem]
    · intro a w1 hB ho hp K hK
      have e63 : a.eval (.tmp 63) = (.bool true) := hp 12 63 (by kernel_rfl)
      refine hop_val (wanted_at rfl (j := 11) (d := 62) (b := true) (by kernel_rfl) (hp 11 62 (by kernel_rfl))) ?_ (hK (.bool false) _ rfl (Below.refl _ _))
      unfold execOp; simp only [eval_const, e63]; simp [go_sem]
    · intro a w1 hB ho hp K hK
      have e64 : a.eval (.tmp 64) = (.bool false) := hp 13 64 (by kernel_rfl)
      refine hop_val (wanted_at rfl (j := 11) (d := 62) (b := true) (by kernel_rfl) (hp 11 62 (by kernel_rfl))) ?_ (hK (.bool false) _ rfl (Below.refl _ _))
      unfold execOp; simp only [eval_const, e64]; simp [go_sem]
    · intro a w1 hB ho hp K hK
      exact hop_not (unwanted_at rfl (j := 14) (d := 65) (b := true) (by kernel_rfl) (hp 14 65 (by kernel_rfl)) rfl) (hK _ _ rfl (Below.refl _ _))
    · intro a w1 hB ho hp K hK
      exact hop_not (unwanted_at rfl (j := 14) (d := 65) (b := true) (by kernel_rfl) (hp 14 65 (by kernel_rfl)) rfl) (hK _ _ rfl (Below.refl _ _))
    · intro a w1 hB ho hp K hK
      exact hop_not (unwanted_at rfl (j := 14) (d := 65) (b := true) (by kernel_rfl) (hp 14 65 (by kernel_rfl)) rfl) (hK _ _ rfl (Below.refl _ _))
    · intro a w1 hB ho hp K hK
      have e65 : a.eval (.tmp 65) = (.bool false) := hp 14 65 (by kernel_rfl)
      have e68 : a.eval (.tmp 68) = undef := hp 17 68 (by kernel_rfl)
      refine hop_val (wanted_at rfl (j := 11) (d := 62) (b := true) (by kernel_rfl) (hp 11 62 (by kernel_rfl))) ?_ (hK (.bool false) _ rfl (Below.refl _ _))
      unfold execOp; simp only [eval_const, e65, e68]; simp [go_sem]
    · intro a w1 hB ho hp K hK
      have e69 : a.eval (.tmp 69) = (.bool false) := hp 18 69 (by kernel_rfl)
      refine hop_val (wanted_at rfl (j := 11) (d := 62) (b := true) (by kernel_rfl) (hp 11 62 (by kernel_rfl))) ?_ (hK (.bool false) _ rfl (Below.refl _ _))
      unfold execOp; simp only [eval_const, e69]; simp [go_sem]
    · intro a w1 hB ho hp K hK
      have e10 : a.eval (.tmp 10) = (.bool true) := ho 10 (by kernel_rfl)
      refine hop_val (wanted_at rfl (j := 19) (d := 70) (b := false) (by kernel_rfl) (hp 19 70 (by kernel_rfl))) ?_ (hK (.bool true) _ rfl (Below.refl _ _))
      unfold execOp; simp only [eval_const, e10]; simp [go_sem]
    · intro a w1 hB ho hp K hK
      have e71 : a.eval (.tmp 71) = (.bool true) := hp 20 71 (by kernel_rfl)
      refine hop_val (wanted_at rfl (j := 19) (d := 70) (b := false) (by kernel_rfl) (hp 19 70 (by kernel_rfl))) ?_ (hK (.bool true) _ rfl (Below.refl _ _))
      unfold execOp; simp only [eval_const, e71]; simp [go_sem]
    · intro a w1 hB ho hp K hK
      have e11 : a.eval (.tmp 11) = (.pointer (some ⟨w38.heap.size, 0, none⟩)) := ho 11 (by kernel_rfl)
      obtain ⟨u1, u2, u3, u4, u5, u6, u7, u8, u9⟩ := H_ba.out.below hB
      exact hop_load (wanted_at rfl (j := 21) (d := 72) (b := true) (by kernel_rfl) (hp 21 72 (by kernel_rfl))) rfl e11 (run_ldq u1 u2 u3 u4) (hK _ _ rfl (Below.refl _ _))
    · intro a w1 hB ho hp K hK
      have e3 : a.eval (.tmp 3) = (.pointer (some ⟨w.heap.size, 0, none⟩)) := ho 3 (by kernel_rfl)
      obtain ⟨u1, u2, u3, u4, u5, u6, u7, u8, u9⟩ := H_a.out.below hB
      exact hop_load (wanted_at rfl (j := 21) (d := 72) (b := true) (by kernel_rfl) (hp 21 72 (by kernel_rfl))) rfl e3 (run_ldq u1 u2 u3 u4) (hK _ _ rfl (Below.refl _ _))
    · intro a w1 hB ho hp K hK
      have e73 : a.eval (.tmp 73) = (.agg #[.bool s38, .slice A38 n38 c38, .bool t38, .slice D38 m38 d38]) := hp 22 73 (by kernel_rfl)
      have e74 : a.eval (.tmp 74) = (.agg #[.bool s, .slice A n c, .bool t, .slice B m d]) := hp 23 74 (by kernel_rfl)
      refine hop_call (wanted_at rfl (j := 21) (d := 72) (b := true) (by kernel_rfl) (hp 21 72 (by kernel_rfl))) rfl (args := #[(.agg #[.bool s38, .slice A38 n38 c38, .bool t38, .slice D38 m38 d38]), (.agg #[.bool s, .slice A n c, .bool t, .slice B m d])]) (by simp only [List.map_toArray, List.map_cons, List.map_nil, eval_const, e73, e74]) (ent7 (by kernel_rfl) _ _) (cmp_q (pb.below hB).qv (ha.below hB) 12 (by omega) (by omega) (by omega) (by omega) (by omega) (by omega) H2.out) ?_
      rintro e w2 ⟨rfl, B⟩
      exact ⟨_, rfl, hK _ _ rfl B⟩
    · intro a w1 hB ho hp K hK
      have e75 : a.eval (.tmp 75) = (.int .i64 0) := hp 24 75 (by kernel_rfl)
      refine hop_val (wanted_at rfl (j := 21) (d := 72) (b := true) (by kernel_rfl) (hp 21 72 (by kernel_rfl))) ?_ (hK (.bool true) _ rfl (Below.refl _ _))
      unfold execOp; simp only [eval_const, e75]; simp [go_sem]
    · intro a w1 hB ho hp K hK
      have e72 : a.eval (.tmp 72) = (.bool true) := hp 21 72 (by kernel_rfl)
      have e76 : a.eval (.tmp 76) = (.bool true) := hp 25 76 (by kernel_rfl)
      refine hop_val (wanted_at rfl (j := 19) (d := 70) (b := false) (by kernel_rfl) (hp 19 70 (by kernel_rfl))) ?_ (hK (.bool true) _ rfl (Below.refl _ _))
      unfold execOp; simp only [eval_const, e72, e76]; simp [go_sem]
    · intro a w1 hB ho hp K hK
      have e70 : a.eval (.tmp 70) = (.bool false) := hp 19 70 (by kernel_rfl)
      have e77 : a.eval (.tmp 77) = (.bool true) := hp 26 77 (by kernel_rfl)
      refine hop_val (wanted_at rfl (j := 11) (d := 62) (b := true) (by kernel_rfl) (hp 11 62 (by kernel_rfl))) ?_ (hK (.bool true) _ rfl (Below.refl _ _))
      unfold execOp; simp only [eval_const, e70, e77]; simp [go_sem]
    · intro a w1 hB ho hp K hK
      have e62 : a.eval (.tmp 62) = (.bool true) := hp 11 62 (by kernel_rfl)
      have e78 : a.eval (.tmp 78) = (.bool true) := hp 27 78 (by kernel_rfl)
      refine hop_val (wanted_none rfl) ?_ (hK (.bool true) _ rfl (Below.refl _ _))
      unfold execOp; simp only [eval_const, e62, e78]; simp [go_sem]
    · intro a w1 hB ho hp K hK
      have e79 : a.eval (.tmp 79) = (.bool true) := hp 28 79 (by kernel_rfl)
      refine hop_val (wanted_none rfl) ?_ (hK (.bool true) _ rfl (Below.refl _ _))
      unfold execOp; simp only [eval_const, e79]; simp [go_sem]
    · intro a w1 hB ho hp K hK
      have e3 : a.eval (.tmp 3) = (.pointer (some ⟨w.heap.size, 0, none⟩)) := ho 3 (by kernel_rfl)
      obtain ⟨u1, u2, u3, u4, u5, u6, u7, u8, u9⟩ := H_a.out.below hB
      exact hop_load (wanted_at rfl (j := 29) (d := 80) (b := true) (by kernel_rfl) (hp 29 80 (by kernel_rfl))) rfl e3 (run_ldq u1 u2 u3 u4) (hK _ _ rfl (Below.refl _ _))
    · intro a w1 hB ho hp K hK
      have e4 : a.eval (.tmp 4) = (.pointer (some ⟨(w.heap.size + 1), 0, none⟩)) := ho 4 (by kernel_rfl)
      obtain ⟨u1, u2, u3, u4, u5, u6, u7, u8, u9⟩ := H_b.out.below hB
      exact hop_load (wanted_at rfl (j := 29) (d := 80) (b := true) (by kernel_rfl) (hp 29 80 (by kernel_rfl))) rfl e4 (run_ldq u1 u2 u3 u4) (hK _ _ rfl (Below.refl _ _))
    · intro a w1 hB ho hp K hK
      have e5 : a.eval (.tmp 5) = (.pointer (some ⟨(w.heap.size + 1 + 1), 0, none⟩)) := ho 5 (by kernel_rfl)
      obtain ⟨u1, u2, u3, u4, u5, u6, u7, u8, u9⟩ := H_cc.out.below hB
      exact hop_load (wanted_at rfl (j := 29) (d := 80) (b := true) (by kernel_rfl) (hp 29 80 (by kernel_rfl))) rfl e5 (run_ldq u1 u2 u3 u4) (hK _ _ rfl (Below.refl _ _))
    · intro a w1 hB ho hp K hK
      have e82 : a.eval (.tmp 82) = (.agg #[.bool u, .slice C l e', .bool v, .slice D' f' h']) := hp 31 82 (by kernel_rfl)
      have e83 : a.eval (.tmp 83) = (.agg #[.bool y, .slice F i0 i1, .bool z, .slice G j0 j1]) := hp 32 83 (by kernel_rfl)
      refine hop_call (wanted_at rfl (j := 29) (d := 80) (b := true) (by kernel_rfl) (hp 29 80 (by kernel_rfl))) rfl (args := #[(.agg #[.bool u, .slice C l e', .bool v, .slice D' f' h']), (.agg #[.bool y, .slice F i0 i1, .bool z, .slice G j0 j1])]) (by simp only [List.map_toArray, List.map_cons, List.map_nil, eval_const, e82, e83]) (ent7 (by kernel_rfl) _ _) (add_q (hb.below hB) (hc.below hB) 3 (by omega) (by omega) (by omega) (by omega) (by omega) (by omega)) ?_
      rintro e w2 ⟨s, A, n, c, t, B, m, d, rfl, p, k, l, BB⟩
      exact ⟨_, rfl, hK _ _ ⟨s, A, n, c, t, B, m, d, rfl, p, by omega, by omega⟩ BB⟩
    · intro a w1 hB ho hp K hK
      have e81 : a.eval (.tmp 81) = (.agg #[.bool s, .slice A n c, .bool t, .slice B m d]) := hp 30 81 (by kernel_rfl)
      obtain ⟨s84, A84, n84, c84, t84, D84, m84, d84, e84, p84, k84, l84⟩ : IsQ (q + o) 7 (a.eval (.tmp 84)) w1 := hp 33 84 (by kernel_rfl)
      refine hop_call (wanted_at rfl (j := 29) (d := 80) (b := true) (by kernel_rfl) (hp 29 80 (by kernel_rfl))) rfl (args := #[(.agg #[.bool s, .slice A n c, .bool t, .slice B m d]), (.agg #[.bool s84, .slice A84 n84 c84, .bool t84, .slice D84 m84 d84])]) (by simp only [List.map_toArray, List.map_cons, List.map_nil, eval_const, e81, e84]) (ent7 (by kernel_rfl) _ _) (add_q (ha.below hB) p84.qv 7 (by omega) (by omega) (by omega) (by omega) (by omega) (by omega)) ?_
      rintro e w2 ⟨s, A, n, c, t, B, m, d, rfl, p, k, l, BB⟩
      exact ⟨_, rfl, hK _ _ ⟨s, A, n, c, t, B, m, d, rfl, p, by omega, by omega⟩ BB⟩
    · intro a w1 hB ho hp K hK
      have e3 : a.eval (.tmp 3) = (.pointer (some ⟨w.heap.size, 0, none⟩)) := ho 3 (by kernel_rfl)
      obtain ⟨u1, u2, u3, u4, u5, u6, u7, u8, u9⟩ := H_a.out.below hB
      exact hop_load (wanted_at rfl (j := 29) (d := 80) (b := true) (by kernel_rfl) (hp 29 80 (by kernel_rfl))) rfl e3 (run_ldq u1 u2 u3 u4) (hK _ _ rfl (Below.refl _ _))
    · intro a w1 hB ho hp K hK
      have e4 : a.eval (.tmp 4) = (.pointer (some ⟨(w.heap.size + 1), 0, none⟩)) := ho 4 (by kernel_rfl)
      obtain ⟨u1, u2, u3, u4, u5, u6, u7, u8, u9⟩ := H_b.out.below hB
      exact hop_load (wanted_at rfl (j := 29) (d := 80) (b := true) (by kernel_rfl) (hp 29 80 (by kernel_rfl))) rfl e4 (run_ldq u1 u2 u3 u4) (hK _ _ rfl (Below.refl _ _))
    · intro a w1 hB ho hp K hK
      have e86 : a.eval (.tmp 86) = (.agg #[.bool s, .slice A n c, .bool t, .slice B m d]) := hp 35 86 (by kernel_rfl)
      have e87 : a.eval (.tmp 87) = (.agg #[.bool u, .slice C l e', .bool v, .slice D' f' h']) := hp 36 87 (by kernel_rfl)
      refine hop_call (wanted_at rfl (j := 29) (d := 80) (b := true) (by kernel_rfl) (hp 29 80 (by kernel_rfl))) rfl (args := #[(.agg #[.bool s, .slice A n c, .bool t, .slice B m d]), (.agg #[.bool u, .slice C l e', .bool v, .slice D' f' h'])]) (by simp only [List.map_toArray, List.map_cons, List.map_nil, eval_const, e86, e87]) (ent7 (by kernel_rfl) _ _) (add_q (ha.below hB) (hb.below hB) 3 (by omega) (by omega) (by omega) (by omega) (by omega) (by omega)) ?_
      rintro e w2 ⟨s, A, n, c, t, B, m, d, rfl, p, k, l, BB⟩
      exact ⟨_, rfl, hK _ _ ⟨s, A, n, c, t, B, m, d, rfl, p, by omega, by omega⟩ BB⟩
    · intro a w1 hB ho hp K hK
      have e5 : a.eval (.tmp 5) = (.pointer (some ⟨(w.heap.size + 1 + 1), 0, none⟩)) := ho 5 (by kernel_rfl)
      obtain ⟨u1, u2, u3, u4, u5, u6, u7, u8, u9⟩ := H_cc.out.below hB
      exact hop_load (wanted_at rfl (j := 29) (d := 80) (b := true) (by kernel_rfl) (hp 29 80 (by kernel_rfl))) rfl e5 (run_ldq u1 u2 u3 u4) (hK _ _ rfl (Below.refl _ _))
    · intro a w1 hB ho hp K hK
      obtain ⟨s88, A88, n88, c88, t88, D88, m88, d88, e88, p88, k88, l88⟩ : IsQ (p + q) 7 (a.eval (.tmp 88)) w1 := hp 37 88 (by kernel_rfl)
      have e89 : a.eval (.tmp 89) = (.agg #[.bool y, .slice F i0 i1, .bool z, .slice G j0 j1]) := hp 38 89 (by kernel_rfl)
      refine hop_call (wanted_at rfl (j := 29) (d := 80) (b := true) (by kernel_rfl) (hp 29 80 (by kernel_rfl))) rfl (args := #[(.agg #[.bool s88, .slice A88 n88 c88, .bool t88, .slice D88 m88 d88]), (.agg #[.bool y, .slice F i0 i1, .bool z, .slice G j0 j1])]) (by simp only [List.map_toArray, List.map_cons, List.map_nil, eval_const, e88, e89]) (ent7 (by kernel_rfl) _ _) (add_q p88.qv (hc.below hB) 7 (by omega) (by omega) (by omega) (by omega) (by omega) (by omega)) ?_
      rintro e w2 ⟨s, A, n, c, t, B, m, d, rfl, p, k, l, BB⟩
      exact ⟨_, rfl, hK _ _ ⟨s, A, n, c, t, B, m, d, rfl, p, by omega, by omega⟩ BB⟩
    · intro a w1 hB ho hp K hK
      obtain ⟨s85, A85, n85, c85, t85, D85, m85, d85, e85, p85, k85, l85⟩ : IsQ (p + (q + o)) 15 (a.eval (.tmp 85)) w1 := hp 34 85 (by kernel_rfl)
      obtain ⟨s90, A90, n90, c90, t90, D90, m90, d90, e90, p90, k90, l90⟩ : IsQ (p + q + o) 15 (a.eval (.tmp 90)) w1 := hp 39 90 (by kernel_rfl)
      refine hop_call (wanted_at rfl (j := 29) (d := 80) (b := true) (by kernel_rfl) (hp 29 80 (by kernel_rfl))) rfl (args := #[(.agg #[.bool s85, .slice A85 n85 c85, .bool t85, .slice D85 m85 d85]), (.agg #[.bool s90, .slice A90 n90 c90, .bool t90, .slice D90 m90 d90])]) (by simp only [List.map_toArray, List.map_cons, List.map_nil, eval_const, e85, e90]) (ent7 (by kernel_rfl) _ _) (cmp_q p85.qv p90.qv 15 (by omega) (by omega) (by omega) (by omega) (by omega) (by omega) H3.out) ?_
      rintro e w2 ⟨rfl, B⟩
      exact ⟨_, rfl, hK _ _ rfl B⟩
    · intro a w1 hB ho hp K hK
      have e91 : a.eval (.tmp 91) = (.int .i64 0) := hp 40 91 (by kernel_rfl)
      refine hop_val (wanted_at rfl (j := 29) (d := 80) (b := true) (by kernel_rfl) (hp 29 80 (by kernel_rfl))) ?_ (hK (.bool true) _ rfl (Below.refl _ _))
      unfold execOp; simp only [eval_const, e91]; simp [go_sem]
    · intro a w1 hB ho hp K hK
      have e80 : a.eval (.tmp 80) = (.bool true) := hp 29 80 (by kernel_rfl)
      have e92 : a.eval (.tmp 92) = (.bool true) := hp 41 92 (by kernel_rfl)
      refine hop_val (wanted_none rfl) ?_ (hK (.bool true) _ rfl (Below.refl _ _))
      unfold execOp; simp only [eval_const, e80, e92]; simp [go_sem]
    · intro a w1 hB ho hp K hK
      have e93 : a.eval (.tmp 93) = (.bool true) := hp 42 93 (by kernel_rfl)
      refine hop_val (wanted_none rfl) ?_ (hK (.bool true) _ rfl (Below.refl _ _))
      unfold execOp; simp only [eval_const, e93]; simp [go_sem]
  intro w40 B40
  refine EndAll.one rfl fun vv hv => ?_
  obtain rfl : vv = (.agg #[.bool s27, .slice A27 n27 c27, .bool t27, .slice D27 m27 d27]) := hv
  refine EndAll.one rfl fun vv hv => ?_
  obtain rfl : vv = (.agg #[.bool s33, .slice A33 n33 c33, .bool t33, .slice D33 m33 d33]) := hv
  refine EndAll.one rfl fun vv hv => ?_
  obtain rfl : vv = (.int .i64 0) := hv
  refine EndAll.one rfl fun vv hv => ?_
  obtain rfl : vv = (.bool true) := hv
  refine EndAll.one rfl fun vv hv => ?_
  obtain rfl : vv = (.bool true) := hv
  refine EndAll.one rfl fun vv hv => ?_
  obtain rfl : vv = (.agg #[.bool s, .slice A n c, .bool t, .slice B m d]) := hv
  refine EndAll.one rfl fun vv hv => ?_
  obtain rfl : vv = (.agg #[.bool s, .slice A n c, .bool t, .slice B m d]) := hv
  refine EndAll.one rfl fun vv hv => ?_
  obtain ⟨s41, A41, n41, c41, t41, D41, m41, d41, rfl, p41, k41, l41⟩ : IsQ (p - p) 7 vv w40 := hv
  refine EndAll.one rfl fun vv hv => ?_
  obtain rfl : vv = (.int .i64 0) := hv
  refine EndAll.one rfl fun vv hv => ?_
  obtain rfl : vv = (.bool true) := hv
  refine EndAll.one rfl fun vv hv => ?_
  obtain rfl : vv = (.bool true) := hv
  refine EndAll.one rfl fun vv hv => ?_
  obtain rfl : vv = (.bool true) := hv
  refine EndAll.one rfl fun vv hv => ?_
  obtain rfl : vv = (.bool true) := hv
  refine EndAll.one rfl fun vv hv => ?_
  obtain rfl : vv = (.bool false) := hv
  refine EndAll.one rfl fun vv hv => ?_
  obtain rfl : vv = (.bool false) := hv
  refine EndAll.one rfl fun vv hv => ?_
  obtain rfl : vv = undef := hv
  refine EndAll.one rfl fun vv hv => ?_
  obtain rfl : vv = undef := hv
  refine EndAll.one rfl fun vv hv => ?_
  obtain rfl : vv = undef := hv
  refine EndAll.one rfl fun vv hv => ?_
  obtain rfl : vv = (.bool false) := hv
  refine EndAll.one rfl fun vv hv => ?_
  obtain rfl : vv = (.bool false) := hv
  refine EndAll.one rfl fun vv hv => ?_
  obtain rfl : vv = (.bool true) := hv
  refine EndAll.one rfl fun vv hv => ?_
  obtain rfl : vv = (.bool true) := hv
  refine EndAll.one rfl fun vv hv => ?_
  obtain rfl : vv = (.agg #[.bool s38, .slice A38 n38 c38, .bool t38, .slice D38 m38 d38]) := hv
  refine EndAll.one rfl fun vv hv => ?_
  obtain rfl : vv = (.agg #[.bool s, .slice A n c, .bool t, .slice B m d]) := hv
  refine EndAll.one rfl fun vv hv => ?_
  obtain rfl : vv = (.int .i64 0) := hv
  refine EndAll.one rfl fun vv hv => ?_
  obtain rfl : vv = (.bool true) := hv
  refine EndAll.one rfl fun vv hv => ?_
  obtain rfl : vv = (.bool true) := hv
  refine EndAll.one rfl fun vv hv => ?_
  obtain rfl : vv = (.bool true) := hv
  refine EndAll.one rfl fun vv hv => ?_
  obtain rfl : vv = (.bool true) := hv
  refine EndAll.one rfl fun vv hv => ?_
  obtain rfl : vv = (.bool true) := hv
  refine EndAll.one rfl fun vv hv => ?_
  obtain rfl : vv = (.agg #[.bool s, .slice A n c, .bool t, .slice B m d]) := hv
  refine EndAll.one rfl fun vv hv => ?_
  obtain rfl : vv = (.agg #[.bool u, .slice C l e', .bool v, .slice D' f' h']) := hv
  refine EndAll.one rfl fun vv hv => ?_
  obtain rfl : vv = (.agg #[.bool y, .slice F i0 i1, .bool z, .slice G j0 j1]) := hv
  refine EndAll.one rfl fun vv hv => ?_
  obtain ⟨s42, A42, n42, c42, t42, D42, m42, d42, rfl, p42, k42, l42⟩ : IsQ (q + o) 7 vv w40 := hv
  refine EndAll.one rfl fun vv hv => ?_
  obtain ⟨s43, A43, n43, c43, t43, D43, m43, d43, rfl, p43, k43, l43⟩ : IsQ (p + (q + o)) 15 vv w40 := hv
  refine EndAll.one rfl fun vv hv => ?_
  obtain rfl : vv = (.agg #[.bool s, .slice A n c, .bool t, .slice B m d]) := hv
  refine EndAll.one rfl fun vv hv => ?_
  obtain rfl : vv = (.agg #[.bool u, .slice C l e', .bool v, .slice D' f' h']) := hv
  refine EndAll.one rfl fun vv hv => ?_
  obtain ⟨s44, A44, n44, c44, t44, D44, m44, d44, rfl, p44, k44, l44⟩ : IsQ (p + q) 7 vv w40 := hv
  refine EndAll.one rfl fun vv hv => ?_
  obtain rfl : vv = (.agg #[.bool y, .slice F i0 i1, .bool z, .slice G j0 j1]) := hv
  refine EndAll.one rfl fun vv hv => ?_
  obtain ⟨s45, A45, n45, c45, t45, D45, m45, d45, rfl, p45, k45, l45⟩ : IsQ (p + q + o) 15 vv w40 := hv
  refine EndAll.one rfl fun vv hv => ?_
  obtain rfl : vv = (.int .i64 0) := hv
  refine EndAll.one rfl fun vv hv => ?_
  obtain rfl : vv = (.bool true) := hv
  refine EndAll.one rfl fun vv hv => ?_
  obtain rfl : vv = (.bool true) := hv
  refine EndAll.one rfl fun vv hv => ?_
  obtain rfl : vv = (.bool true) := hv
  refine EndAll.nil (l := []) rfl ?_
  simp only [Act.put, List.setIfInBounds_toArray, List.set_cons_zero, List.set_cons_succ]
  replace H_a := Lib.hid (H_a.out.below B40)
  replace H_b := Lib.hid (H_b.out.below B40)
  replace H_cc := Lib.hid (H_cc.out.below B40)
  replace H_sa := Lib.hid (H_sa.out.below B40)
  replace H_ta := Lib.hid (H_ta.out.below B40)
  replace H_qa := Lib.hid (H_qa.out.below B40)
  replace H_ba := Lib.hid (H_ba.out.below B40)
  replace ha := ha.below B40
  replace hb := hb.below B40
  replace hc := hc.below B40
  replace ps := ps.below B40
  replace pt := pt.below B40
  replace pq := pq.below B40
  replace pb := pb.below B40
  replace hW := hW.trans (B40.mono hW.size)
  clear B40
  go_wp2_with fail
  go_ret
  exact ⟨rfl, hW⟩
set_option maxRecDepth 100000 in
set_option maxHeartbeats 16000000 in
theorem field_no {A B C D' F G : Option Addr} {n c m d l e' f' h' i0 i1 j0 j1 : Nat} {s t u v y z : Bool} {p q o : Rat} {w : World} (ha : Qv w s A n c t B m d p) (hb : Qv w u C l e' v D' f' h' q) (hc : Qv w y F i0 i1 z G j0 j1 o) (h0 : n ≤ 3 ∧ m ≤ 3) (h1 : l ≤ 3 ∧ f' ≤ 3) (h2 : i0 ≤ 3 ∧ j0 ≤ 3) (hq : q = 0) :
    Calls Try.prog 7 #[.agg #[.bool s, .slice A n c, .bool t, .slice B m d], .agg #[.bool u, .slice C l e', .bool v, .slice D' f' h'], .agg #[.bool y, .slice F i0 i1, .bool z, .slice G j0 j1]] w (TruePost w) := by
  have hW := Below.refl w.heap.size w
  obtain ⟨wp0, hwp0⟩ : ∃ x, x = w.alloc (.cells #[.bool s, .slice A n c, .bool t, .slice B m d] 28) := ⟨_, rfl⟩
  have zp0 : Below w.heap.size w wp0 := by rw [hwp0]; exact zba _ _
  have sp0 : wp0.heap.size = w.heap.size + 1 := by rw [hwp0, World.size_alloc]
  have Ia : Rb wp0 w.heap.size s A n c t B m d := by rw [hwp0]; exact Rb.new _ _ _ _ _ _ _ _ _ _
  replace ha := ha.below zp0
  replace hb := hb.below zp0
  replace hc := hc.below zp0
  replace hW := hW.trans (zp0.mono hW.size)
  have H_a := Lib.hid Ia
  clear Ia zp0
  obtain ⟨wp1, hwp1⟩ : ∃ x, x = wp0.alloc (.cells #[.bool u, .slice C l e', .bool v, .slice D' f' h'] 28) := ⟨_, rfl⟩
  have zp1 : Below wp0.heap.size wp0 wp1 := by rw [hwp1]; exact zba _ _
  have sp1 : wp1.heap.size = w.heap.size + 1 + 1 := by rw [hwp1, World.size_alloc, sp0]
  have Ib : Rb wp1 (w.heap.size + 1) u C l e' v D' f' h' := by rw [hwp1, ← sp0]; exact Rb.new _ _ _ _ _ _ _ _ _ _
  replace H_a := Lib.hid (H_a.out.below zp1)
  replace ha := ha.below zp1
  replace hb := hb.below zp1
  replace hc := hc.below zp1
  replace hW := hW.trans (zp1.mono hW.size)
  have H_b := Lib.hid Ib
  clear Ib zp1
  obtain ⟨wp2, hwp2⟩ : ∃ x, x = wp1.alloc (.cells #[.bool y, .slice F i0 i1, .bool z, .slice G j0 j1] 28) := ⟨_, rfl⟩
  have zp2 : Below wp1.heap.size wp1 wp2 := by rw [hwp2]; exact zba _ _
  have sp2 : wp2.heap.size = w.heap.size + 1 + 1 + 1 := by rw [hwp2, World.size_alloc, sp1]
  have Icc : Rb wp2 (w.heap.size + 1 + 1) y F i0 i1 z G j0 j1 := by rw [hwp2, ← sp1]; exact Rb.new _ _ _ _ _ _ _ _ _ _
  replace H_a := Lib.hid (H_a.out.below zp2)
  replace H_b := Lib.hid (H_b.out.below zp2)
  replace ha := ha.below zp2
  replace hb := hb.below zp2
  replace hc := hc.below zp2
  replace hW := hW.trans (zp2.mono hW.size)
  have H_cc := Lib.hid Icc
  clear Icc zp2
  have HW : Hid ((((w.alloc (.cells #[.bool s, .slice A n c, .bool t, .slice B m d] 28)).alloc (.cells #[.bool u, .slice C l e', .bool v, .slice D' f' h'] 28)).alloc (.cells #[.bool y, .slice F i0 i1, .bool z, .slice G j0 j1] 28)) = wp2) := Lib.hid (by rw [hwp2, hwp1, hwp0])
  have nn_a_b : ¬ (w.heap.size = (w.heap.size + 1)) := by omega
  have nm_a_b : ¬ ((w.heap.size + 1) = w.heap.size) := by omega
  have nn_a_cc : ¬ (w.heap.size = (w.heap.size + 1 + 1)) := by omega
  have nm_a_cc : ¬ ((w.heap.size + 1 + 1) = w.heap.size) := by omega
  have nn_b_cc : ¬ ((w.heap.size + 1) = (w.heap.size + 1 + 1)) := by omega
  have nm_b_cc : ¬ ((w.heap.size + 1 + 1) = (w.heap.size + 1)) := by omega
  have lw_a : w.heap.size ≤ w.heap.size := by omega
  have lw_b : w.heap.size ≤ (w.heap.size + 1) := by omega
  have lw_cc : w.heap.size ≤ (w.heap.size + 1 + 1) := by omega
  clear hwp0 hwp1 hwp2 sp0 sp1 sp2
  have HF0 : Hid (decide (n ≤ 3 ∧ m ≤ 3) = true) := Lib.hid (decide_eq_true h0)
  obtain ⟨g0, g'0⟩ := h0
  have HF1 : Hid (decide (l ≤ 3 ∧ f' ≤ 3) = true) := Lib.hid (decide_eq_true h1)
  obtain ⟨g1, g'1⟩ := h1
  have HF2 : Hid (decide (i0 ≤ 3 ∧ j0 ≤ 3) = true) := Lib.hid (decide_eq_true h2)
  obtain ⟨g2, g'2⟩ := h2
  have HB : Hid (decide (q ≠ 0) = false) := Lib.hid (decide_eq_false (fun k => k hq))
  have H0 : Hid (rsg (p * (q + o) - (p * q + p * o)) = 0) := Lib.hid (rsg_eq.2 (by grind))
  have H1 : Hid (rsg (p - p) = 0) := Lib.hid (rsg_eq.2 (by grind))
  have H3 : Hid (rsg (p + (q + o) - (p + q + o)) = 0) := Lib.hid (rsg_eq.2 (by grind))
  have H2 : Hid (rsg q = 0) := Lib.hid (rsg_eq.2 hq)
  go_enter Try.func7, Try.ntmps7
  obtain ⟨a1, a2, a3, a4, a5, a6, a7, a8, a9⟩ := H_a.out
  obtain ⟨b1, b2, b3, b4, b5, b6, b7, b8, b9⟩ := H_b.out
  obtain ⟨cc1, cc2, cc3, cc4, cc5, cc6, cc7, cc8, cc9⟩ := H_cc.out
  go_wp2_with fail
  rw [HW.out]
  clear a1 a2 a3 a4 a5 a6 a7 a8 a9 b1 b2 b3 b4 b5 b6 b7 b8 b9 cc1 cc2 cc3 cc4 cc5 cc6 cc7 cc8 cc9
  refine (qawake_v _).mono ?_
  rintro e w21 ⟨rfl, B21⟩
  replace H_a := Lib.hid (H_a.out.below B21)
  replace H_b := Lib.hid (H_b.out.below B21)
  replace H_cc := Lib.hid (H_cc.out.below B21)
  replace ha := ha.below B21
  replace hb := hb.below B21
  replace hc := hc.below B21
  replace hW := hW.trans (B21.mono hW.size)
  clear B21
  obtain ⟨a1, a2, a3, a4, a5, a6, a7, a8, a9⟩ := H_a.out
  obtain ⟨b1, b2, b3, b4, b5, b6, b7, b8, b9⟩ := H_b.out
  obtain ⟨cc1, cc2, cc3, cc4, cc5, cc6, cc7, cc8, cc9⟩ := H_cc.out
  go_wp2_with fail
  clear a1 a2 a3 a4 a5 a6 a7 a8 a9 b1 b2 b3 b4 b5 b6 b7 b8 b9 cc1 cc2 cc3 cc4 cc5 cc6 cc7 cc8 cc9
  refine (few7_v (k := 3) (b := true) (by omega) (by omega) (by omega) HF0.out).mono ?_
  rintro e w22 ⟨rfl, B22⟩
  replace H_a := Lib.hid (H_a.out.below B22)
  replace H_b := Lib.hid (H_b.out.below B22)
  replace H_cc := Lib.hid (H_cc.out.below B22)
  replace ha := ha.below B22
  replace hb := hb.below B22
  replace hc := hc.below B22
  replace hW := hW.trans (B22.mono hW.size)
  clear B22
  obtain ⟨a1, a2, a3, a4, a5, a6, a7, a8, a9⟩ := H_a.out
  obtain ⟨b1, b2, b3, b4, b5, b6, b7, b8, b9⟩ := H_b.out
  obtain ⟨cc1, cc2, cc3, cc4, cc5, cc6, cc7, cc8, cc9⟩ := H_cc.out
  go_wp2_with fail
  clear a1 a2 a3 a4 a5 a6 a7 a8 a9 b1 b2 b3 b4 b5 b6 b7 b8 b9 cc1 cc2 cc3 cc4 cc5 cc6 cc7 cc8 cc9
  refine (few7_v (k := 3) (b := true) (by omega) (by omega) (by omega) HF1.out).mono ?_
  rintro e w23 ⟨rfl, B23⟩
  replace H_a := Lib.hid (H_a.out.below B23)
  replace H_b := Lib.hid (H_b.out.below B23)
  replace H_cc := Lib.hid (H_cc.out.below B23)
  replace ha := ha.below B23
  replace hb := hb.below B23
  replace hc := hc.below B23
  replace hW := hW.trans (B23.mono hW.size)
  clear B23
  obtain ⟨a1, a2, a3, a4, a5, a6, a7, a8, a9⟩ := H_a.out
  obtain ⟨b1, b2, b3, b4, b5, b6, b7, b8, b9⟩ := H_b.out
  obtain ⟨cc1, cc2, cc3, cc4, cc5, cc6, cc7, cc8, cc9⟩ := H_cc.out
  go_wp2_with fail
  clear a1 a2 a3 a4 a5 a6 a7 a8 a9 b1 b2 b3 b4 b5 b6 b7 b8 b9 cc1 cc2 cc3 cc4 cc5 cc6 cc7 cc8 cc9
  refine (few7_v (k := 3) (b := true) (by omega) (by omega) (by omega) HF2.out).mono ?_
  rintro e w24 ⟨rfl, B24⟩
  replace H_a := Lib.hid (H_a.out.below B24)
  replace H_b := Lib.hid (H_b.out.below B24)
  replace H_cc := Lib.hid (H_cc.out.below B24)
  replace ha := ha.below B24
  replace hb := hb.below B24
  replace hc := hc.below B24
  replace hW := hW.trans (B24.mono hW.size)
  clear B24
  obtain ⟨a1, a2, a3, a4, a5, a6, a7, a8, a9⟩ := H_a.out
  obtain ⟨b1, b2, b3, b4, b5, b6, b7, b8, b9⟩ := H_b.out
  obtain ⟨cc1, cc2, cc3, cc4, cc5, cc6, cc7, cc8, cc9⟩ := H_cc.out
  go_wp2_with fail
  clear a1 a2 a3 a4 a5 a6 a7 a8 a9 b1 b2 b3 b4 b5 b6 b7 b8 b9 cc1 cc2 cc3 cc4 cc5 cc6 cc7 cc8 cc9
  refine region7 [] 6 [IsK (.agg #[.bool s, .slice A n c, .bool t, .slice B m d]), IsK (.agg #[.bool u, .slice C l e', .bool v, .slice D' f' h']), IsK (.agg #[.bool y, .slice F i0 i1, .bool z, .slice G j0 j1]), IsQ (q + o) 7, IsQ (p * (q + o)) 14, IsK undef] (fun _ _ d _ _ h => by cases d <;> exact h) (by kernel_rfl) (by kernel_rfl) (by kernel_rfl) ⟨stay_k _, stay_k _, stay_k _, stay_q _ _, stay_q _ _, stay_k _, trivial⟩ ?_ ?_
  · refine HopAll.cons rfl ?_ (HopAll.cons rfl ?_ (HopAll.cons rfl ?_ (HopAll.cons rfl ?_ (HopAll.cons rfl ?_ (HopAll.al rfl HopAll.nil)))))
    · intro a w1 hB ho hp K hK
      have e3 : a.eval (.tmp 3) = (.pointer (some ⟨w.heap.size, 0, none⟩)) := ho 3 (by kernel_rfl)
      obtain ⟨u1, u2, u3, u4, u5, u6, u7, u8, u9⟩ := H_a.out.below hB
      exact hop_load (wanted_none rfl) rfl e3 (run_ldq u1 u2 u3 u4) (hK _ _ rfl (Below.refl _ _))
    · intro a w1 hB ho hp K hK
      have e4 : a.eval (.tmp 4) = (.pointer (some ⟨(w.heap.size + 1), 0, none⟩)) := ho 4 (by kernel_rfl)
      obtain ⟨u1, u2, u3, u4, u5, u6, u7, u8, u9⟩ := H_b.out.below hB
      exact hop_load (wanted_none rfl) rfl e4 (run_ldq u1 u2 u3 u4) (hK _ _ rfl (Below.refl _ _))
    · intro a w1 hB ho hp K hK
      have e5 : a.eval (.tmp 5) = (.pointer (some ⟨(w.heap.size + 1 + 1), 0, none⟩)) := ho 5 (by kernel_rfl)
      obtain ⟨u1, u2, u3, u4, u5, u6, u7, u8, u9⟩ := H_cc.out.below hB
      exact hop_load (wanted_none rfl) rfl e5 (run_ldq u1 u2 u3 u4) (hK _ _ rfl (Below.refl _ _))
    · intro a w1 hB ho hp K hK
      have e31 : a.eval (.tmp 31) = (.agg #[.bool u, .slice C l e', .bool v, .slice D' f' h']) := hp 1 31 (by kernel_rfl)
      have e32 : a.eval (.tmp 32) = (.agg #[.bool y, .slice F i0 i1, .bool z, .slice G j0 j1]) := hp 2 32 (by kernel_rfl)
      refine hop_call (wanted_none rfl) rfl (args := #[(.agg #[.bool u, .slice C l e', .bool v, .slice D' f' h']), (.agg #[.bool y, .slice F i0 i1, .bool z, .slice G j0 j1])]) (by simp only [List.map_toArray, List.map_cons, List.map_nil, eval_const, e31, e32]) (ent7 (by kernel_rfl) _ _) (add_q (hb.below hB) (hc.below hB) 3 (by omega) (by omega) (by omega) (by omega) (by omega) (by omega)) ?_
      rintro e w2 ⟨s, A, n, c, t, B, m, d, rfl, p, k, l, BB⟩
      exact ⟨_, rfl, hK _ _ ⟨s, A, n, c, t, B, m, d, rfl, p, by omega, by omega⟩ BB⟩
    · intro a w1 hB ho hp K hK
      have e30 : a.eval (.tmp 30) = (.agg #[.bool s, .slice A n c, .bool t, .slice B m d]) := hp 0 30 (by kernel_rfl)
      obtain ⟨s33, A33, n33, c33, t33, D33, m33, d33, e33, p33, k33, l33⟩ : IsQ (q + o) 7 (a.eval (.tmp 33)) w1 := hp 3 33 (by kernel_rfl)
      refine hop_call (wanted_none rfl) rfl (args := #[(.agg #[.bool s, .slice A n c, .bool t, .slice B m d]), (.agg #[.bool s33, .slice A33 n33 c33, .bool t33, .slice D33 m33 d33])]) (by simp only [List.map_toArray, List.map_cons, List.map_nil, eval_const, e30, e33]) (ent7 (by kernel_rfl) _ _) (mul_q (ha.below hB) p33.qv 7 (by omega) (by omega) (by omega) (by omega) (by omega) (by omega)) ?_
      rintro e w2 ⟨s, A, n, c, t, B, m, d, rfl, p, k, l, BB⟩
      exact ⟨_, rfl, hK _ _ ⟨s, A, n, c, t, B, m, d, rfl, p, by omega, by omega⟩ BB⟩
  intro w25 B25
  have lt25_a : w.heap.size < w24.heap.size := H_a.out.2.2.2.2.2.2.2.2
  have lt25_b : (w.heap.size + 1) < w24.heap.size := H_b.out.2.2.2.2.2.2.2.2
  have lt25_cc : (w.heap.size + 1 + 1) < w24.heap.size := H_cc.out.2.2.2.2.2.2.2.2
  have hWs25 := hW.size
  refine EndAll.one rfl fun vv hv => ?_
  obtain rfl : vv = (.agg #[.bool s, .slice A n c, .bool t, .slice B m d]) := hv
  refine EndAll.one rfl fun vv hv => ?_
  obtain rfl : vv = (.agg #[.bool u, .slice C l e', .bool v, .slice D' f' h']) := hv
  refine EndAll.one rfl fun vv hv => ?_
  obtain rfl : vv = (.agg #[.bool y, .slice F i0 i1, .bool z, .slice G j0 j1]) := hv
  refine EndAll.one rfl fun vv hv => ?_
  obtain ⟨s26, A26, n26, c26, t26, D26, m26, d26, rfl, p26, k26, l26⟩ : IsQ (q + o) 7 vv w25 := hv
  refine EndAll.one rfl fun vv hv => ?_
  obtain ⟨s27, A27, n27, c27, t27, D27, m27, d27, rfl, p27, k27, l27⟩ : IsQ (p * (q + o)) 14 vv w25 := hv
  refine EndAll.al rfl fun g28 hg28 hl28 hc28 ha28 => ?_
  refine EndAll.nil (l := [_]) rfl ?_
  simp only [Act.put, List.setIfInBounds_toArray, List.set_cons_zero, List.set_cons_succ]
  replace H_a := Lib.hid (H_a.out.below B25)
  replace H_b := Lib.hid (H_b.out.below B25)
  replace H_cc := Lib.hid (H_cc.out.below B25)
  replace ha := ha.below B25
  replace hb := hb.below B25
  replace hc := hc.below B25
  replace hW := hW.trans (B25.mono hW.size)
  have ps := p27
  have nn_a_sa : ¬ (w.heap.size = g28) := by have := lt25_a; omega
  have nm_a_sa : ¬ (g28 = w.heap.size) := by omega
  have nn_b_sa : ¬ ((w.heap.size + 1) = g28) := by have := lt25_b; omega
  have nm_b_sa : ¬ (g28 = (w.heap.size + 1)) := by omega
  have nn_cc_sa : ¬ ((w.heap.size + 1 + 1) = g28) := by have := lt25_cc; omega
  have nm_cc_sa : ¬ (g28 = (w.heap.size + 1 + 1)) := by omega
  have H_sa : Hid (Rb w25 g28 false none 0 0 false none 0 0) := Lib.hid (Rb.entry (T := 28) hc28)
  have lw_sa : w.heap.size ≤ g28 := by omega
  clear hg28 hl28 hc28
  clear B25
  have O_a := H_a
  have O_b := H_b
  have O_cc := H_cc
  have O_sa := H_sa
  obtain ⟨w29, hw29⟩ : ∃ x, x = rput w25 g28 s27 A27 n27 c27 t27 D27 m27 d27 := ⟨_, rfl⟩
  have HW29 : Hid (((((w25.setCell ⟨g28, 0, none⟩ (.bool s27)).setCell ⟨g28, 1, none⟩ (.slice A27 n27 c27)).setCell ⟨g28, 2, none⟩ (.bool t27)).setCell ⟨g28, 3, none⟩ (.slice D27 m27 d27)) = w29) := Lib.hid hw29.symm
  have OI := H_sa.out
  replace H_a : Hid (Rb w29 w.heap.size s A n c t B m d) := Lib.hid (by rw [hw29]; exact H_a.out.rput (by omega))
  replace H_b : Hid (Rb w29 (w.heap.size + 1) u C l e' v D' f' h') := Lib.hid (by rw [hw29]; exact H_b.out.rput (by omega))
  replace H_cc : Hid (Rb w29 (w.heap.size + 1 + 1) y F i0 i1 z G j0 j1) := Lib.hid (by rw [hw29]; exact H_cc.out.rput (by omega))
  replace ha := ha.rput (s' := s27) (A' := A27) (n' := n27) (c' := c27) (t' := t27) (B' := D27) (m' := m27) (d' := d27) OI
  replace hb := hb.rput (s' := s27) (A' := A27) (n' := n27) (c' := c27) (t' := t27) (B' := D27) (m' := m27) (d' := d27) OI
  replace hc := hc.rput (s' := s27) (A' := A27) (n' := n27) (c' := c27) (t' := t27) (B' := D27) (m' := m27) (d' := d27) OI
  replace ps := ps.rput (s' := s27) (A' := A27) (n' := n27) (c' := c27) (t' := t27) (B' := D27) (m' := m27) (d' := d27) OI
  rw [← hw29] at ha
  rw [← hw29] at hb
  rw [← hw29] at hc
  rw [← hw29] at ps
  replace hW : Below w.heap.size w w29 := by rw [hw29]; exact below_rput hW lw_sa
  replace H_sa : Hid (Rb w29 g28 s27 A27 n27 c27 t27 D27 m27 d27) := Lib.hid (by rw [hw29]; exact OI.own)
  clear hw29 OI
  obtain ⟨a1, a2, a3, a4, a5, a6, a7, a8, a9⟩ := O_a.out
  obtain ⟨b1, b2, b3, b4, b5, b6, b7, b8, b9⟩ := O_b.out
  obtain ⟨cc1, cc2, cc3, cc4, cc5, cc6, cc7, cc8, cc9⟩ := O_cc.out
  obtain ⟨sa1, sa2, sa3, sa4, sa5, sa6, sa7, sa8, sa9⟩ := O_sa.out
  go_wp2_with fail
  rw [HW29.out]
  clear a1 a2 a3 a4 a5 a6 a7 a8 a9 b1 b2 b3 b4 b5 b6 b7 b8 b9 cc1 cc2 cc3 cc4 cc5 cc6 cc7 cc8 cc9 sa1 sa2 sa3 sa4 sa5 sa6 sa7 sa8 sa9 O_a O_b O_cc O_sa
  refine region7 [] 8 [IsK (.agg #[.bool s, .slice A n c, .bool t, .slice B m d]), IsK (.agg #[.bool u, .slice C l e', .bool v, .slice D' f' h']), IsQ (p * q) 6, IsK (.agg #[.bool s, .slice A n c, .bool t, .slice B m d]), IsK (.agg #[.bool y, .slice F i0 i1, .bool z, .slice G j0 j1]), IsQ (p * o) 6, IsQ (p * q + p * o) 13, IsK undef] (fun _ _ d _ _ h => by cases d <;> exact h) (by kernel_rfl) (by kernel_rfl) (by kernel_rfl) ⟨stay_k _, stay_k _, stay_q _ _, stay_k _, stay_k _, stay_q _ _, stay_q _ _, stay_k _, trivial⟩ ?_ ?_
  · refine HopAll.cons rfl ?_ (HopAll.cons rfl ?_ (HopAll.cons rfl ?_ (HopAll.cons rfl ?_ (HopAll.cons rfl ?_ (HopAll.cons rfl ?_ (HopAll.cons rfl ?_ (HopAll.al rfl HopAll.nil)))))))
    · intro a w1 hB ho hp K hK
      have e3 : a.eval (.tmp 3) = (.pointer (some ⟨w.heap.size, 0, none⟩)) := ho 3 (by kernel_rfl)
      obtain ⟨u1, u2, u3, u4, u5, u6, u7, u8, u9⟩ := H_a.out.below hB
      exact hop_load (wanted_none rfl) rfl e3 (run_ldq u1 u2 u3 u4) (hK _ _ rfl (Below.refl _ _))
    · intro a w1 hB ho hp K hK
      have e4 : a.eval (.tmp 4) = (.pointer (some ⟨(w.heap.size + 1), 0, none⟩)) := ho 4 (by kernel_rfl)
      obtain ⟨u1, u2, u3, u4, u5, u6, u7, u8, u9⟩ := H_b.out.below hB
      exact hop_load (wanted_none rfl) rfl e4 (run_ldq u1 u2 u3 u4) (hK _ _ rfl (Below.refl _ _))
    · intro a w1 hB ho hp K hK
      have e35 : a.eval (.tmp 35) = (.agg #[.bool s, .slice A n c, .bool t, .slice B m d]) := hp 0 35 (by kernel_rfl)
      have e36 : a.eval (.tmp 36) = (.agg #[.bool u, .slice C l e', .bool v, .slice D' f' h']) := hp 1 36 (by kernel_rfl)
      refine hop_call (wanted_none rfl) rfl (args := #[(.agg #[.bool s, .slice A n c, .bool t, .slice B m d]), (.agg #[.bool u, .slice C l e', .bool v, .slice D' f' h'])]) (by simp only [List.map_toArray, List.map_cons, List.map_nil, eval_const, e35, e36]) (ent7 (by kernel_rfl) _ _) (mul_q (ha.below hB) (hb.below hB) 3 (by omega) (by omega) (by omega) (by omega) (by omega) (by omega)) ?_
      rintro e w2 ⟨s, A, n, c, t, B, m, d, rfl, p, k, l, BB⟩
      exact ⟨_, rfl, hK _ _ ⟨s, A, n, c, t, B, m, d, rfl, p, by omega, by omega⟩ BB⟩
    · intro a w1 hB ho hp K hK
      have e3 : a.eval (.tmp 3) = (.pointer (some ⟨w.heap.size, 0, none⟩)) := ho 3 (by kernel_rfl)
      obtain ⟨u1, u2, u3, u4, u5, u6, u7, u8, u9⟩ := H_a.out.below hB
      exact hop_load (wanted_none rfl) rfl e3 (run_ldq u1 u2 u3 u4) (hK _ _ rfl (Below.refl _ _))
    · intro a w1 hB ho hp K hK
      have e5 : a.eval (.tmp 5) = (.pointer (some ⟨(w.heap.size + 1 + 1), 0, none⟩)) := ho 5 (by kernel_rfl)
      obtain ⟨u1, u2, u3, u4, u5, u6, u7, u8, u9⟩ := H_cc.out.below hB
      exact hop_load (wanted_none rfl) rfl e5 (run_ldq u1 u2 u3 u4) (hK _ _ rfl (Below.refl _ _))
    · intro a w1 hB ho hp K hK
      have e38 : a.eval (.tmp 38) = (.agg #[.bool s, .slice A n c, .bool t, .slice B m d]) := hp 3 38 (by kernel_rfl)
      have e39 : a.eval (.tmp 39) = (.agg #[.bool y, .slice F i0 i1, .bool z, .slice G j0 j1]) := hp 4 39 (by kernel_rfl)
      refine hop_call (wanted_none rfl) rfl (args := #[(.agg #[.bool s, .slice A n c, .bool t, .slice B m d]), (.agg #[.bool y, .slice F i0 i1, .bool z, .slice G j0 j1])]) (by simp only [List.map_toArray, List.map_cons, List.map_nil, eval_const, e38, e39]) (ent7 (by kernel_rfl) _ _) (mul_q (ha.below hB) (hc.below hB) 3 (by omega) (by omega) (by omega) (by omega) (by omega) (by omega)) ?_
      rintro e w2 ⟨s, A, n, c, t, B, m, d, rfl, p, k, l, BB⟩
      exact ⟨_, rfl, hK _ _ ⟨s, A, n, c, t, B, m, d, rfl, p, by omega, by omega⟩ BB⟩
    · intro a w1 hB ho hp K hK
      obtain ⟨s37, A37, n37, c37, t37, D37, m37, d37, e37, p37, k37, l37⟩ : IsQ (p * q) 6 (a.eval (.tmp 37)) w1 := hp 2 37 (by kernel_rfl)
      obtain ⟨s40, A40, n40, c40, t40, D40, m40, d40, e40, p40, k40, l40⟩ : IsQ (p * o) 6 (a.eval (.tmp 40)) w1 := hp 5 40 (by kernel_rfl)
      refine hop_call (wanted_none rfl) rfl (args := #[(.agg #[.bool s37, .slice A37 n37 c37, .bool t37, .slice D37 m37 d37]), (.agg #[.bool s40, .slice A40 n40 c40, .bool t40, .slice D40 m40 d40])]) (by simp only [List.map_toArray, List.map_cons, List.map_nil, eval_const, e37, e40]) (ent7 (by kernel_rfl) _ _) (add_q p37.qv p40.qv 6 (by omega) (by omega) (by omega) (by omega) (by omega) (by omega)) ?_
      rintro e w2 ⟨s, A, n, c, t, B, m, d, rfl, p, k, l, BB⟩
      exact ⟨_, rfl, hK _ _ ⟨s, A, n, c, t, B, m, d, rfl, p, by omega, by omega⟩ BB⟩
  intro w30 B30
  have lt30_a : w.heap.size < w29.heap.size := H_a.out.2.2.2.2.2.2.2.2
  have lt30_b : (w.heap.size + 1) < w29.heap.size := H_b.out.2.2.2.2.2.2.2.2
  have lt30_cc : (w.heap.size + 1 + 1) < w29.heap.size := H_cc.out.2.2.2.2.2.2.2.2
  have lt30_sa : g28 < w29.heap.size := H_sa.out.2.2.2.2.2.2.2.2
  have hWs30 := hW.size
  refine EndAll.one rfl fun vv hv => ?_
  obtain rfl : vv = (.agg #[.bool s, .slice A n c, .bool t, .slice B m d]) := hv
  refine EndAll.one rfl fun vv hv => ?_
  obtain rfl : vv = (.agg #[.bool u, .slice C l e', .bool v, .slice D' f' h']) := hv
  refine EndAll.one rfl fun vv hv => ?_
  obtain ⟨s31, A31, n31, c31, t31, D31, m31, d31, rfl, p31, k31, l31⟩ : IsQ (p * q) 6 vv w30 := hv
  refine EndAll.one rfl fun vv hv => ?_
  obtain rfl : vv = (.agg #[.bool s, .slice A n c, .bool t, .slice B m d]) := hv
  refine EndAll.one rfl fun vv hv => ?_
  obtain rfl : vv = (.agg #[.bool y, .slice F i0 i1, .bool z, .slice G j0 j1]) := hv
  refine EndAll.one rfl fun vv hv => ?_
  obtain ⟨s32, A32, n32, c32, t32, D32, m32, d32, rfl, p32, k32, l32⟩ : IsQ (p * o) 6 vv w30 := hv
  refine EndAll.one rfl fun vv hv => ?_
  obtain ⟨s33, A33, n33, c33, t33, D33, m33, d33, rfl, p33, k33, l33⟩ : IsQ (p * q + p * o) 13 vv w30 := hv
  refine EndAll.al rfl fun g34 hg34 hl34 hc34 ha34 => ?_
  refine EndAll.nil (l := [_]) rfl ?_
  simp only [Act.put, List.setIfInBounds_toArray, List.set_cons_zero, List.set_cons_succ]
  replace H_a := Lib.hid (H_a.out.below B30)
  replace H_b := Lib.hid (H_b.out.below B30)
  replace H_cc := Lib.hid (H_cc.out.below B30)
  replace H_sa := Lib.hid (H_sa.out.below B30)
  replace ha := ha.below B30
  replace hb := hb.below B30
  replace hc := hc.below B30
  replace ps := ps.below B30
  replace hW := hW.trans (B30.mono hW.size)
  have pt := p33
  have nn_a_ta : ¬ (w.heap.size = g34) := by have := lt30_a; omega
  have nm_a_ta : ¬ (g34 = w.heap.size) := by omega
  have nn_b_ta : ¬ ((w.heap.size + 1) = g34) := by have := lt30_b; omega
  have nm_b_ta : ¬ (g34 = (w.heap.size + 1)) := by omega
  have nn_cc_ta : ¬ ((w.heap.size + 1 + 1) = g34) := by have := lt30_cc; omega
  have nm_cc_ta : ¬ (g34 = (w.heap.size + 1 + 1)) := by omega
  have nn_sa_ta : ¬ (g28 = g34) := by have := lt30_sa; omega
  have nm_sa_ta : ¬ (g34 = g28) := by omega
  have H_ta : Hid (Rb w30 g34 false none 0 0 false none 0 0) := Lib.hid (Rb.entry (T := 28) hc34)
  have lw_ta : w.heap.size ≤ g34 := by omega
  clear hg34 hl34 hc34
  clear B30
  have O_a := H_a
  have O_b := H_b
  have O_cc := H_cc
  have O_sa := H_sa
  have O_ta := H_ta
  obtain ⟨w35, hw35⟩ : ∃ x, x = rput w30 g34 s33 A33 n33 c33 t33 D33 m33 d33 := ⟨_, rfl⟩
  have HW35 : Hid (((((w30.setCell ⟨g34, 0, none⟩ (.bool s33)).setCell ⟨g34, 1, none⟩ (.slice A33 n33 c33)).setCell ⟨g34, 2, none⟩ (.bool t33)).setCell ⟨g34, 3, none⟩ (.slice D33 m33 d33)) = w35) := Lib.hid hw35.symm
  have OI := H_ta.out
  replace H_a : Hid (Rb w35 w.heap.size s A n c t B m d) := Lib.hid (by rw [hw35]; exact H_a.out.rput (by omega))
  replace H_b : Hid (Rb w35 (w.heap.size + 1) u C l e' v D' f' h') := Lib.hid (by rw [hw35]; exact H_b.out.rput (by omega))
  replace H_cc : Hid (Rb w35 (w.heap.size + 1 + 1) y F i0 i1 z G j0 j1) := Lib.hid (by rw [hw35]; exact H_cc.out.rput (by omega))
  replace H_sa : Hid (Rb w35 g28 s27 A27 n27 c27 t27 D27 m27 d27) := Lib.hid (by rw [hw35]; exact H_sa.out.rput (by omega))
  replace ha := ha.rput (s' := s33) (A' := A33) (n' := n33) (c' := c33) (t' := t33) (B' := D33) (m' := m33) (d' := d33) OI
  replace hb := hb.rput (s' := s33) (A' := A33) (n' := n33) (c' := c33) (t' := t33) (B' := D33) (m' := m33) (d' := d33) OI
  replace hc := hc.rput (s' := s33) (A' := A33) (n' := n33) (c' := c33) (t' := t33) (B' := D33) (m' := m33) (d' := d33) OI
  replace ps := ps.rput (s' := s33) (A' := A33) (n' := n33) (c' := c33) (t' := t33) (B' := D33) (m' := m33) (d' := d33) OI
  replace pt := pt.rput (s' := s33) (A' := A33) (n' := n33) (c' := c33) (t' := t33) (B' := D33) (m' := m33) (d' := d33) OI
  rw [← hw35] at ha
  rw [← hw35] at hb
  rw [← hw35] at hc
  rw [← hw35] at ps
  rw [← hw35] at pt
  replace hW : Below w.heap.size w w35 := by rw [hw35]; exact below_rput hW lw_ta
  replace H_ta : Hid (Rb w35 g34 s33 A33 n33 c33 t33 D33 m33 d33) := Lib.hid (by rw [hw35]; exact OI.own)
  clear hw35 OI
  obtain ⟨a1, a2, a3, a4, a5, a6, a7, a8, a9⟩ := O_a.out
  obtain ⟨b1, b2, b3, b4, b5, b6, b7, b8, b9⟩ := O_b.out
  obtain ⟨cc1, cc2, cc3, cc4, cc5, cc6, cc7, cc8, cc9⟩ := O_cc.out
  obtain ⟨sa1, sa2, sa3, sa4, sa5, sa6, sa7, sa8, sa9⟩ := O_sa.out
  obtain ⟨ta1, ta2, ta3, ta4, ta5, ta6, ta7, ta8, ta9⟩ := O_ta.out
  go_wp2_with fail
  rw [HW35.out]
  clear a1 a2 a3 a4 a5 a6 a7 a8 a9 b1 b2 b3 b4 b5 b6 b7 b8 b9 cc1 cc2 cc3 cc4 cc5 cc6 cc7 cc8 cc9 sa1 sa2 sa3 sa4 sa5 sa6 sa7 sa8 sa9 ta1 ta2 ta3 ta4 ta5 ta6 ta7 ta8 ta9 O_a O_b O_cc O_sa O_ta
  refine (quo_q ha hb 3 (by omega) (by omega) (by omega) (by omega) (by omega) (by omega) HB.out).mono ?_
  rintro e w36 ⟨s36, A36, n36, c36, t36, D36, m36, d36, rfl, pq, k36, l36, B36⟩
  replace H_a := Lib.hid (H_a.out.below B36)
  replace H_b := Lib.hid (H_b.out.below B36)
  replace H_cc := Lib.hid (H_cc.out.below B36)
  replace H_sa := Lib.hid (H_sa.out.below B36)
  replace H_ta := Lib.hid (H_ta.out.below B36)
  replace ha := ha.below B36
  replace hb := hb.below B36
  replace hc := hc.below B36
  replace ps := ps.below B36
  replace pt := pt.below B36
  replace hW := hW.trans (B36.mono hW.size)
  clear B36
  have O_a := H_a
  have O_b := H_b
  have O_cc := H_cc
  have O_sa := H_sa
  have O_ta := H_ta
  obtain ⟨w37, hw37⟩ : ∃ x, x = w36.alloc (.cells #[.bool s36, .slice A36 n36 c36, .bool t36, .slice D36 m36 d36] 28) := ⟨_, rfl⟩
  have z37 : Below w36.heap.size w36 w37 := by rw [hw37]; exact zba _ _
  have HW37 : Hid (w36.alloc (.cells #[.bool s36, .slice A36 n36 c36, .bool t36, .slice D36 m36 d36] 28) = w37) := Lib.hid hw37.symm
  have nn_a_qa : ¬ (w.heap.size = w36.heap.size) := by have := H_a.out.2.2.2.2.2.2.2.2; omega
  have nm_a_qa : ¬ (w36.heap.size = w.heap.size) := by omega
  have nn_b_qa : ¬ ((w.heap.size + 1) = w36.heap.size) := by have := H_b.out.2.2.2.2.2.2.2.2; omega
  have nm_b_qa : ¬ (w36.heap.size = (w.heap.size + 1)) := by omega
  have nn_cc_qa : ¬ ((w.heap.size + 1 + 1) = w36.heap.size) := by have := H_cc.out.2.2.2.2.2.2.2.2; omega
  have nm_cc_qa : ¬ (w36.heap.size = (w.heap.size + 1 + 1)) := by omega
  have nn_sa_qa : ¬ (g28 = w36.heap.size) := by have := H_sa.out.2.2.2.2.2.2.2.2; omega
  have nm_sa_qa : ¬ (w36.heap.size = g28) := by omega
  have nn_ta_qa : ¬ (g34 = w36.heap.size) := by have := H_ta.out.2.2.2.2.2.2.2.2; omega
  have nm_ta_qa : ¬ (w36.heap.size = g34) := by omega
  have lw_qa : w.heap.size ≤ w36.heap.size := by have := hW.size; omega
  replace H_a := Lib.hid (H_a.out.below z37)
  replace H_b := Lib.hid (H_b.out.below z37)
  replace H_cc := Lib.hid (H_cc.out.below z37)
  replace H_sa := Lib.hid (H_sa.out.below z37)
  replace H_ta := Lib.hid (H_ta.out.below z37)
  replace ha := ha.below z37
  replace hb := hb.below z37
  replace hc := hc.below z37
  replace ps := ps.below z37
  replace pt := pt.below z37
  replace pq := pq.below z37
  replace hW := hW.trans (z37.mono hW.size)
  have H_qa : Hid (Rb w37 w36.heap.size s36 A36 n36 c36 t36 D36 m36 d36) := Lib.hid (by rw [hw37]; exact Rb.new _ _ _ _ _ _ _ _ _ _)
  clear z37 hw37
  obtain ⟨a1, a2, a3, a4, a5, a6, a7, a8, a9⟩ := O_a.out
  obtain ⟨b1, b2, b3, b4, b5, b6, b7, b8, b9⟩ := O_b.out
  obtain ⟨cc1, cc2, cc3, cc4, cc5, cc6, cc7, cc8, cc9⟩ := O_cc.out
  obtain ⟨sa1, sa2, sa3, sa4, sa5, sa6, sa7, sa8, sa9⟩ := O_sa.out
  obtain ⟨ta1, ta2, ta3, ta4, ta5, ta6, ta7, ta8, ta9⟩ := O_ta.out
  go_wp2_with fail
  rw [HW37.out]
  clear a1 a2 a3 a4 a5 a6 a7 a8 a9 b1 b2 b3 b4 b5 b6 b7 b8 b9 cc1 cc2 cc3 cc4 cc5 cc6 cc7 cc8 cc9 sa1 sa2 sa3 sa4 sa5 sa6 sa7 sa8 sa9 ta1 ta2 ta3 ta4 ta5 ta6 ta7 ta8 ta9 O_a O_b O_cc O_sa O_ta
  refine (mul_q pq.qv hb 6 (by omega) (by omega) (by omega) (by omega) (by omega) (by omega)).mono ?_
  rintro e w38 ⟨s38, A38, n38, c38, t38, D38, m38, d38, rfl, pb, k38, l38, B38⟩
  replace H_a := Lib.hid (H_a.out.below B38)
  replace H_b := Lib.hid (H_b.out.below B38)
  replace H_cc := Lib.hid (H_cc.out.below B38)
  replace H_sa := Lib.hid (H_sa.out.below B38)
  replace H_ta := Lib.hid (H_ta.out.below B38)
  replace H_qa := Lib.hid (H_qa.out.below B38)
  replace ha := ha.below B38
  replace hb := hb.below B38
  replace hc := hc.below B38
  replace ps := ps.below B38
  replace pt := pt.below B38
  replace pq := pq.below B38
  replace hW := hW.trans (B38.mono hW.size)
  clear B38
  have O_a := H_a
  have O_b := H_b
  have O_cc := H_cc
  have O_sa := H_sa
  have O_ta := H_ta
  have O_qa := H_qa
  obtain ⟨w39, hw39⟩ : ∃ x, x = w38.alloc (.cells #[.bool s38, .slice A38 n38 c38, .bool t38, .slice D38 m38 d38] 28) := ⟨_, rfl⟩
  have z39 : Below w38.heap.size w38 w39 := by rw [hw39]; exact zba _ _
  have HW39 : Hid (w38.alloc (.cells #[.bool s38, .slice A38 n38 c38, .bool t38, .slice D38 m38 d38] 28) = w39) := Lib.hid hw39.symm
  have nn_a_ba : ¬ (w.heap.size = w38.heap.size) := by have := H_a.out.2.2.2.2.2.2.2.2; omega
  have nm_a_ba : ¬ (w38.heap.size = w.heap.size) := by omega
  have nn_b_ba : ¬ ((w.heap.size + 1) = w38.heap.size) := by have := H_b.out.2.2.2.2.2.2.2.2; omega
  have nm_b_ba : ¬ (w38.heap.size = (w.heap.size + 1)) := by omega
  have nn_cc_ba : ¬ ((w.heap.size + 1 + 1) = w38.heap.size) := by have := H_cc.out.2.2.2.2.2.2.2.2; omega
  have nm_cc_ba : ¬ (w38.heap.size = (w.heap.size + 1 + 1)) := by omega
  have nn_sa_ba : ¬ (g28 = w38.heap.size) := by have := H_sa.out.2.2.2.2.2.2.2.2; omega
  have nm_sa_ba : ¬ (w38.heap.size = g28) := by omega
  have nn_ta_ba : ¬ (g34 = w38.heap.size) := by have := H_ta.out.2.2.2.2.2.2.2.2; omega
  have nm_ta_ba : ¬ (w38.heap.size = g34) := by omega
  have nn_qa_ba : ¬ (w36.heap.size = w38.heap.size) := by have := H_qa.out.2.2.2.2.2.2.2.2; omega
  have nm_qa_ba : ¬ (w38.heap.size = w36.heap.size) := by omega
  have lw_ba : w.heap.size ≤ w38.heap.size := by have := hW.size; omega
  replace H_a := Lib.hid (H_a.out.below z39)
  replace H_b := Lib.hid (H_b.out.below z39)
  replace H_cc := Lib.hid (H_cc.out.below z39)
  replace H_sa := Lib.hid (H_sa.out.below z39)
  replace H_ta := Lib.hid (H_ta.out.below z39)
  replace H_qa := Lib.hid (H_qa.out.below z39)
  replace ha := ha.below z39
  replace hb := hb.below z39
  replace hc := hc.below z39
  replace ps := ps.below z39
  replace pt := pt.below z39
  replace pq := pq.below z39
  replace pb := pb.below z39
  replace hW := hW.trans (z39.mono hW.size)
  have H_ba : Hid (Rb w39 w38.heap.size s38 A38 n38 c38 t38 D38 m38 d38) := Lib.hid (by rw [hw39]; exact Rb.new _ _ _ _ _ _ _ _ _ _)
  clear z39 hw39
  obtain ⟨a1, a2, a3, a4, a5, a6, a7, a8, a9⟩ := O_a.out
  obtain ⟨b1, b2, b3, b4, b5, b6, b7, b8, b9⟩ := O_b.out
  obtain ⟨cc1, cc2, cc3, cc4, cc5, cc6, cc7, cc8, cc9⟩ := O_cc.out
  obtain ⟨sa1, sa2, sa3, sa4, sa5, sa6, sa7, sa8, sa9⟩ := O_sa.out
  obtain ⟨ta1, ta2, ta3, ta4, ta5, ta6, ta7, ta8, ta9⟩ := O_ta.out
  obtain ⟨qa1, qa2, qa3, qa4, qa5, qa6, qa7, qa8, qa9⟩ := O_qa.out
  go_wp2_with fail
  rw [HW39.out]
  clear a1 a2 a3 a4 a5 a6 a7 a8 a9 b1 b2 b3 b4 b5 b6 b7 b8 b9 cc1 cc2 cc3 cc4 cc5 cc6 cc7 cc8 cc9 sa1 sa2 sa3 sa4 sa5 sa6 sa7 sa8 sa9 ta1 ta2 ta3 ta4 ta5 ta6 ta7 ta8 ta9 qa1 qa2 qa3 qa4 qa5 qa6 qa7 qa8 qa9 O_a O_b O_cc O_sa O_ta O_qa
  refine region7 [] 44 [IsK (.agg #[.bool s27, .slice A27 n27 c27, .bool t27, .slice D27 m27 d27]), IsK (.agg #[.bool s33, .slice A33 n33 c33, .bool t33, .slice D33 m33 d33]), IsK (.int .i64 0), IsK (.bool true), IsK (.bool true), IsK (.agg #[.bool s, .slice A n c, .bool t, .slice B m d]), IsK (.agg #[.bool s, .slice A n c, .bool t, .slice B m d]), IsQ (p - p) 7, IsK (.int .i64 0), IsK (.bool true), IsK (.bool true), IsK (.bool true), IsK (.bool false), IsK (.bool true), IsK (.bool true), IsK (.agg #[.bool u, .slice C l e', .bool v, .slice D' f' h']), IsK (.int .i64 0), IsK (.bool true), IsK (.bool true), IsK (.bool true), IsK undef, IsK undef, IsK undef, IsK undef, IsK undef, IsK undef, IsK undef, IsK (.bool true), IsK (.bool true), IsK (.bool true), IsK (.agg #[.bool s, .slice A n c, .bool t, .slice B m d]), IsK (.agg #[.bool u, .slice C l e', .bool v, .slice D' f' h']), IsK (.agg #[.bool y, .slice F i0 i1, .bool z, .slice G j0 j1]), IsQ (q + o) 7, IsQ (p + (q + o)) 15, IsK (.agg #[.bool s, .slice A n c, .bool t, .slice B m d]), IsK (.agg #[.bool u, .slice C l e', .bool v, .slice D' f' h']), IsQ (p + q) 7, IsK (.agg #[.bool y, .slice F i0 i1, .bool z, .slice G j0 j1]), IsQ (p + q + o) 15, IsK (.int .i64 0), IsK (.bool true), IsK (.bool true), IsK (.bool true)] (fun _ _ d _ _ h => by cases d <;> exact h) (by kernel_rfl) (by kernel_rfl) (by kernel_rfl) ⟨stay_k _, stay_k _, stay_k _, stay_k _, stay_k _, stay_k _, stay_k _, stay_q _ _, stay_k _, stay_k _, stay_k _, stay_k _, stay_k _, stay_k _, stay_k _, stay_k _, stay_k _, stay_k _, stay_k _, stay_k _, stay_k _, stay_k _, stay_k _, stay_k _, stay_k _, stay_k _, stay_k _, stay_k _, stay_k _, stay_k _, stay_k _, stay_k _, stay_k _, stay_q _ _, stay_q _ _, stay_k _, stay_k _, stay_q _ _, stay_k _, stay_q _ _, stay_k _, stay_k _, stay_k _, stay_k _, trivial⟩ ?_ ?_
  · refine HopAll.cons rfl ?_ (HopAll.cons rfl ?_ (HopAll.cons rfl ?_ (HopAll.cons rfl ?_ (HopAll.cons rfl ?_ (HopAll.cons rfl ?_ (HopAll.cons rfl ?_ (HopAll.cons rfl ?_ (HopAll.cons rfl ?_ (HopAll.cons rfl ?_ (HopAll.cons rfl ?_ (HopAll.cons rfl ?_ (HopAll.cons rfl ?_ (HopAll.cons rfl ?_ (HopAll.cons rfl ?_ (HopAll.cons rfl ?_ (HopAll.cons rfl ?_ (HopAll.cons rfl ?_ (HopAll.cons rfl ?_ (HopAll.cons rfl ?_ (HopAll.cons rfl ?_ (HopAll.cons rfl ?_ (HopAll.cons rfl ?_ (HopAll.cons rfl ?_ (HopAll.cons rfl ?_ (HopAll.cons rfl ?_ (HopAll.cons rfl ?_ (HopAll.cons rfl ?_ (HopAll.cons rfl ?_ (HopAll.cons rfl ?_ (HopAll.cons rfl ?_ (HopAll.cons rfl ?_ (HopAll.cons rfl ?_ (HopAll.cons rfl ?_ (HopAll.cons rfl ?_ (HopAll.cons rfl ?_ (HopAll.cons rfl ?_ (HopAll.cons rfl ?_ (HopAll.cons rfl ?_ (HopAll.cons rfl ?_ (HopAll.cons rfl ?_ (HopAll.cons rfl ?_ (HopAll.cons rfl ?_ (HopAll.cons rfl ?_ HopAll.nil)))))))))))))))))))))))))))))))))))))))))))
    · intro a w1 hB ho hp K hK
      have e7 : a.eval (.tmp 7) = (.pointer (some ⟨g28, 0, none⟩)) := ho 7 (by kernel_rfl)
      obtain ⟨u1, u2, u3, u4, u5, u6, u7, u8, u9⟩ := H_sa.out.below hB
      exact hop_load (wanted_none rfl) rfl e7 (run_ldq u1 u2 u3 u4) (hK _ _ rfl (Below.refl _ _))
    · intro a w1 hB ho hp K hK
      have e8 : a.eval (.tmp 8) = (.pointer (some ⟨g34, 0, none⟩)) := ho 8 (by kernel_rfl)
      obtain ⟨u1, u2, u3, u4, u5, u6, u7, u8, u9⟩ := H_ta.out.below hB
      exact hop_load (wanted_none rfl) rfl e8 (run_ldq u1 u2 u3 u4) (hK _ _ rfl (Below.refl _ _))
    · intro a w1 hB ho hp K hK
      have e51 : a.eval (.tmp 51) = (.agg #[.bool s27, .slice A27 n27 c27, .bool t27, .slice D27 m27 d27]) := hp 0 51 (by kernel_rfl)
      have e52 : a.eval (.tmp 52) = (.agg #[.bool s33, .slice A33 n33 c33, .bool t33, .slice D33 m33 d33]) := hp 1 52 (by kernel_rfl)
      refine hop_call (wanted_none rfl) rfl (args := #[(.agg #[.bool s27, .slice A27 n27 c27, .bool t27, .slice D27 m27 d27]), (.agg #[.bool s33, .slice A33 n33 c33, .bool t33, .slice D33 m33 d33])]) (by simp only [List.map_toArray, List.map_cons, List.map_nil, eval_const, e51, e52]) (ent7 (by kernel_rfl) _ _) (cmp_q (ps.below hB).qv (pt.below hB).qv 14 (by omega) (by omega) (by omega) (by omega) (by omega) (by omega) H0.out) ?_
      rintro e w2 ⟨rfl, B⟩
      exact ⟨_, rfl, hK _ _ rfl B⟩
    · intro a w1 hB ho hp K hK
      have e53 : a.eval (.tmp 53) = (.int .i64 0) := hp 2 53 (by kernel_rfl)
      refine hop_val (wanted_none rfl) ?_ (hK (.bool true) _ rfl (Below.refl _ _))
      unfold execOp; simp only [eval_const, e53]; simp [go_sem]
    · intro a w1 hB ho hp K hK
      have e54 : a.eval (.tmp 54) = (.bool true) := hp 3 54 (by kernel_rfl)
      refine hop_val (wanted_none rfl) ?_ (hK (.bool true) _ rfl (Below.refl _ _))
      unfold execOp; simp only [eval_const, e54]; simp [go_sem]
    · intro a w1 hB ho hp K hK
      have e3 : a.eval (.tmp 3) = (.pointer (some ⟨w.heap.size, 0, none⟩)) := ho 3 (by kernel_rfl)
      obtain ⟨u1, u2, u3, u4, u5, u6, u7, u8, u9⟩ := H_a.out.below hB
      exact hop_load (wanted_at rfl (j := 4) (d := 55) (b := true) (by kernel_rfl) (hp 4 55 (by kernel_rfl))) rfl e3 (run_ldq u1 u2 u3 u4) (hK _ _ rfl (Below.refl _ _))
    · intro a w1 hB ho hp K hK
      have e3 : a.eval (.tmp 3) = (.pointer (some ⟨w.heap.size, 0, none⟩)) := ho 3 (by kernel_rfl)
      obtain ⟨u1, u2, u3, u4, u5, u6, u7, u8, u9⟩ := H_a.out.below hB
      exact hop_load (wanted_at rfl (j := 4) (d := 55) (b := true) (by kernel_rfl) (hp 4 55 (by kernel_rfl))) rfl e3 (run_ldq u1 u2 u3 u4) (hK _ _ rfl (Below.refl _ _))
    · intro a w1 hB ho hp K hK
      have e56 : a.eval (.tmp 56) = (.agg #[.bool s, .slice A n c, .bool t, .slice B m d]) := hp 5 56 (by kernel_rfl)
      have e57 : a.eval (.tmp 57) = (.agg #[.bool s, .slice A n c, .bool t, .slice B m d]) := hp 6 57 (by kernel_rfl)
      refine hop_call (wanted_at rfl (j := 4) (d := 55) (b := true) (by kernel_rfl) (hp 4 55 (by kernel_rfl))) rfl (args := #[(.agg #[.bool s, .slice A n c, .bool t, .slice B m d]), (.agg #[.bool s, .slice A n c, .bool t, .slice B m d])]) (by simp only [List.map_toArray, List.map_cons, List.map_nil, eval_const, e56, e57]) (ent7 (by kernel_rfl) _ _) (sub_q (ha.below hB) (ha.below hB) 3 (by omega) (by omega) (by omega) (by omega) (by omega) (by omega)) ?_
      rintro e w2 ⟨s, A, n, c, t, B, m, d, rfl, p, k, l, BB⟩
      exact ⟨_, rfl, hK _ _ ⟨s, A, n, c, t, B, m, d, rfl, p, by omega, by omega⟩ BB⟩
    · intro a w1 hB ho hp K hK
      obtain ⟨s58, A58, n58, c58, t58, D58, m58, d58, e58, p58, k58, l58⟩ : IsQ (p - p) 7 (a.eval (.tmp 58)) w1 := hp 7 58 (by kernel_rfl)
      refine hop_call (wanted_at rfl (j := 4) (d := 55) (b := true) (by kernel_rfl) (hp 4 55 (by kernel_rfl))) rfl (args := #[(.agg #[.bool s58, .slice A58 n58 c58, .bool t58, .slice D58 m58 d58])]) (by simp only [List.map_toArray, List.map_cons, List.map_nil, eval_const, e58]) (ent7 (by kernel_rfl) _ _) (sign_q p58.qv 7 (by omega) (by omega) (by omega) H1.out) ?_
      rintro e w2 ⟨rfl, B⟩
      exact ⟨_, rfl, hK _ _ rfl B⟩
    · intro a w1 hB ho hp K hK
      have e59 : a.eval (.tmp 59) = (.int .i64 0) := hp 8 59 (by kernel_rfl)
      refine hop_val (wanted_at rfl (j := 4) (d := 55) (b := true) (by kernel_rfl) (hp 4 55 (by kernel_rfl))) ?_ (hK (.bool true) _ rfl (Below.refl _ _))
      unfold execOp; simp only [eval_const, e59]; simp [go_sem]
    · intro a w1 hB ho hp K hK
      have e55 : a.eval (.tmp 55) = (.bool true) := hp 4 55 (by kernel_rfl)
      have e60 : a.eval (.tmp 60) = (.bool true) := hp 9 60 (by kernel_rfl)
      refine hop_val (wanted_none rfl) ?_ (hK (.bool true) _ rfl (Below.refl _ _))
      unfold execOp; simp only [eval_const, e55, e60]; simp [go_sem]
    · intro a w1 hB ho hp K hK
      have e61 : a.eval (.tmp 61) = (.bool true) := hp 10 61 (by kernel_rfl)
      refine hop_val (wanted_none rfl) ?_ (hK (.bool true) _ rfl (Below.refl _ _))
      unfold execOp; simp only [eval_const, e61]; simp [go_sem]
    · intro a w1 hB ho hp K hK
      have e10 : a.eval (.tmp 10) = (.bool false) := ho 10 (by kernel_rfl)
      refine hop_val (wanted_at rfl (j := 11) (d := 62) (b := true) (by kernel_rfl) (hp 11 62 (by kernel_rfl))) ?_ (hK (.bool false) _ rfl (Below.refl _ _))
      unfold execOp; simp only [eval_const, e10]; simp [go_sem]
    · intro a w1 hB ho hp K hK
      have e63 : a.eval (.tmp 63) = (.bool false) := hp 12 63 (by kernel_rfl)
      refine hop_val (wanted_at rfl (j := 11) (d := 62) (b := true) (by kernel_rfl) (hp 11 62 (by kernel_rfl))) ?_ (hK (.bool true) _ rfl (Below.refl _ _))
      unfold execOp; simp only [eval_const, e63]; simp [go_sem]
    · intro a w1 hB ho hp K hK
      have e64 : a.eval (.tmp 64) = (.bool true) := hp 13 64 (by kernel_rfl)
      refine hop_val (wanted_at rfl (j := 11) (d := 62) (b := true) (by kernel_rfl) (hp 11 62 (by kernel_rfl))) ?_ (hK (.bool true) _ rfl (Below.refl _ _))
      unfold execOp; simp only [eval_const, e64]; simp [go_sem]
    · intro a w1 hB ho hp K hK
      have e4 : a.eval (.tmp 4) = (.pointer (some ⟨(w.heap.size + 1), 0, none⟩)) := ho 4 (by kernel_rfl)
      obtain ⟨u1, u2, u3, u4, u5, u6, u7, u8, u9⟩ := H_b.out.below hB
      exact hop_load (wanted_at rfl (j := 14) (d := 65) (b := true) (by kernel_rfl) (hp 14 65 (by kernel_rfl))) rfl e4 (run_ldq u1 u2 u3 u4) (hK _ _ rfl (Below.refl _ _))
    · intro a w1 hB ho hp K hK
      have e66 : a.eval (.tmp 66) = (.agg #[.bool u, .slice C l e', .bool v, .slice D' f' h']) := hp 15 66 (by kernel_rfl)
      refine hop_call (wanted_at rfl (j := 14) (d := 65) (b := true) (by kernel_rfl) (hp 14 65 (by kernel_rfl))) rfl (args := #[(.agg #[.bool u, .slice C l e', .bool v, .slice D' f' h'])]) (by simp only [List.map_toArray, List.map_cons, List.map_nil, eval_const, e66]) (ent7 (by kernel_rfl) _ _) (sign_q (hb.below hB) 3 (by omega) (by omega) (by omega) H2.out) ?_
      rintro e w2 ⟨rfl, B⟩
      exact ⟨_, rfl, hK _ _ rfl B⟩
    · intro a w1 hB ho hp K hK
      have e67 : a.eval (.tmp 67) = (.int .i64 0) := hp 16 67 (by kernel_rfl)
      refine hop_val (wanted_at rfl (j := 14) (d := 65) (b := true) (by kernel_rfl) (hp 14 65 (by kernel_rfl))) ?_ (hK (.bool true) _ rfl (Below.refl _ _))
      unfold execOp; simp only [eval_const, e67]; simp [go_sem]
    · intro a w1 hB ho hp K hK
      have e65 : a.eval (.tmp 65) = (.bool true) := hp 14 65 (by kernel_rfl)
      have e68 : a.eval (.tmp 68) = (.bool true) := hp 17 68 (by kernel_rfl)
      refine hop_val (wanted_at rfl (j := 11) (d := 62) (b := true) (by kernel_rfl) (hp 11 62 (by kernel_rfl))) ?_ (hK (.bool true) _ rfl (Below.refl _ _))
      unfold execOp; simp only [eval_const, e65, e68]; simp [go_sem]
    · intro a w1 hB ho hp K hK
      have e69 : a.eval (.tmp 69) = (.bool true) := hp 18 69 (by kernel_rfl)
      refine hop_val (wanted_at rfl (j := 11) (d := 62) (b := true) (by kernel_rfl) (hp 11 62 (by kernel_rfl))) ?_ (hK (.bool true) _ rfl (Below.refl _ _))
      unfold execOp; simp only [eval_const, e69]; simp [go_sem]
    · intro a w1 hB ho hp K hK
      exact hop_not (unwanted_at rfl (j := 19) (d := 70) (b := false) (by kernel_rfl) (hp 19 70 (by kernel_rfl)) rfl) (hK _ _ rfl (Below.refl _ _))
    · intro a w1 hB ho hp K hK
      exact hop_not (unwanted_at rfl (j := 19) (d := 70) (b := false) (by kernel_rfl) (hp 19 70 (by kernel_rfl)) rfl) (hK _ _ rfl (Below.refl _ _))
    · intro a w1 hB ho hp K hK
      exact hop_not (unwanted_undef rfl (j := 21) (d := 72) (b := true) (by kernel_rfl) (hp 21 72 (by kernel_rfl))) (hK _ _ rfl (Below.refl _ _))
    · intro a w1 hB ho hp K hK
      exact hop_not (unwanted_undef rfl (j := 21) (d := 72) (b := true) (by kernel_rfl) (hp 21 72 (by kernel_rfl))) (hK _ _ rfl (Below.refl _ _))
    · intro a w1 hB ho hp K hK
      exact hop_not (unwanted_undef rfl (j := 21) (d := 72) (b := true) (by kernel_rfl) (hp 21 72 (by kernel_rfl))) (hK _ _ rfl (Below.refl _ _))
    · intro a w1 hB ho hp K hK
      exact hop_not (unwanted_undef rfl (j := 21) (d := 72) (b := true) (by kernel_rfl) (hp 21 72 (by kernel_rfl))) (hK _ _ rfl (Below.refl _ _))
    · intro a w1 hB ho hp K hK
      exact hop_not (unwanted_at rfl (j := 19) (d := 70) (b := false) (by kernel_rfl) (hp 19 70 (by kernel_rfl)) rfl) (hK _ _ rfl (Below.refl _ _))
    · intro a w1 hB ho hp K hK
      have e70 : a.eval (.tmp 70) = (.bool true) := hp 19 70 (by kernel_rfl)
      have e77 : a.eval (.tmp 77) = undef := hp 26 77 (by kernel_rfl)
      refine hop_val (wanted_at rfl (j := 11) (d := 62) (b := true) (by kernel_rfl) (hp 11 62 (by kernel_rfl))) ?_ (hK (.bool true) _ rfl (Below.refl _ _))
      unfold execOp; simp only [eval_const, e70, e77]; simp [go_sem]
    · intro a w1 hB ho hp K hK
      have e62 : a.eval (.tmp 62) = (.bool true) := hp 11 62 (by kernel_rfl)
      have e78 : a.eval (.tmp 78) = (.bool true) := hp 27 78 (by kernel_rfl)
      refine hop_val (wanted_none rfl) ?_ (hK (.bool true) _ rfl (Below.refl _ _))
      unfold execOp; simp only [eval_const, e62, e78]; simp [go_sem]
    · intro a w1 hB ho hp K hK
      have e79 : a.eval (.tmp 79) = (.bool true) := hp 28 79 (by kernel_rfl)
      refine hop_val (wanted_none rfl) ?_ (hK (.bool true) _ rfl (Below.refl _ _))
      unfold execOp; simp only [eval_const, e79]; simp [go_sem]
    · intro a w1 hB ho hp K hK
      have e3 : a.eval (.tmp 3) = (.pointer (some ⟨w.heap.size, 0, none⟩)) := ho 3 (by kernel_rfl)
      obtain ⟨u1, u2, u3, u4, u5, u6, u7, u8, u9⟩ := H_a.out.below hB
      exact hop_load (wanted_at rfl (j := 29) (d := 80) (b := true) (by kernel_rfl) (hp 29 80 (by kernel_rfl))) rfl e3 (run_ldq u1 u2 u3 u4) (hK _ _ rfl (Below.refl _ _))
    · intro a w1 hB ho hp K hK
      have e4 : a.eval (.tmp 4) = (.pointer (some ⟨(w.heap.size + 1), 0, none⟩)) := ho 4 (by kernel_rfl)
      obtain ⟨u1, u2, u3, u4, u5, u6, u7, u8, u9⟩ := H_b.out.below hB
      exact hop_load (wanted_at rfl (j := 29) (d := 80) (b := true) (by kernel_rfl) (hp 29 80 (by kernel_rfl))) rfl e4 (run_ldq u1 u2 u3 u4) (hK _ _ rfl (Below.refl _ _))
    · intro a w1 hB ho hp K hK
      have e5 : a.eval (.tmp 5) = (.pointer (some ⟨(w.heap.size + 1 + 1), 0, none⟩)) := ho 5 (by kernel_rfl)
      obtain ⟨u1, u2, u3, u4, u5, u6, u7, u8, u9⟩ := H_cc.out.below hB
      exact hop_load (wanted_at rfl (j := 29) (d := 80) (b := true) (by kernel_rfl) (hp 29 80 (by kernel_rfl))) rfl e5 (run_ldq u1 u2 u3 u4) (hK _ _ rfl (Below.refl _ _))
    · intro a w1 hB ho hp K hK
      have e82 : a.eval (.tmp 82) = (.agg #[.bool u, .slice C l e', .bool v, .slice D' f' h']) := hp 31 82 (by kernel_rfl)
      have e83 : a.eval (.tmp 83) = (.agg #[.bool y, .slice F i0 i1, .bool z, .slice G j0 j1]) := hp 32 83 (by kernel_rfl)
      refine hop_call (wanted_at rfl (j := 29) (d := 80) (b := true) (by kernel_rfl) (hp 29 80 (by kernel_rfl))) rfl (args := #[(.agg #[.bool u, .slice C l e', .bool v, .slice D' f' h']), (.agg #[.bool y, .slice F i0 i1, .bool z, .slice G j0 j1])]) (by simp only [List.map_toArray, List.map_cons, List.map_nil, eval_const, e82, e83]) (ent7 (by kernel_rfl) _ _) (add_q (hb.below hB) (hc.below hB) 3 (by omega) (by omega) (by omega) (by omega) (by omega) (by omega)) ?_
      rintro e w2 ⟨s, A, n, c, t, B, m, d, rfl, p, k, l, BB⟩
      exact ⟨_, rfl, hK _ _ ⟨s, A, n, c, t, B, m, d, rfl, p, by omega, by omega⟩ BB⟩
    · intro a w1 hB ho hp K hK
      have e81 : a.eval (.tmp 81) = (.agg #[.bool s, .slice A n c, .bool t, .slice B m d]) := hp 30 81 (by kernel_rfl)
      obtain ⟨s84, A84, n84, c84, t84, D84, m84, d84, e84, p84, k84, l84⟩ : IsQ (q + o) 7 (a.eval (.tmp 84)) w1 := hp 33 84 (by kernel_rfl)
      refine hop_call (wanted_at rfl (j := 29) (d := 80) (b := true) (by kernel_rfl) (hp 29 80 (by kernel_rfl))) rfl (args := #[(.agg #[.bool s, .slice A n c, .bool t, .slice B m d]), (.agg #[.bool s84, .slice A84 n84 c84, .bool t84, .slice D84 m84 d84])]) (by simp only [List.map_toArray, List.map_cons, List.map_nil, eval_const, e81, e84]) (ent7 (by kernel_rfl) _ _) (add_q (ha.below hB) p84.qv 7 (by omega) (by omega) (by omega) (by omega) (by omega) (by omega)) ?_
      rintro e w2 ⟨s, A, n, c, t, B, m, d, rfl, p, k, l, BB⟩
      exact ⟨_, rfl, hK _ _ ⟨s, A, n, c, t, B, m, d, rfl, p, by omega, by omega⟩ BB⟩
    · intro a w1 hB ho hp K hK
      have e3 : a.eval (.tmp 3) = (.pointer (some ⟨w.heap.size, 0, none⟩)) := ho 3 (by kernel_rfl)
      obtain ⟨u1, u2, u3, u4, u5, u6, u7, u8, u9⟩ := H_a.out.below hB
      exact hop_load (wanted_at rfl (j := 29) (d := 80) (b := true) (by kernel_rfl) (hp 29 80 (by kernel_rfl))) rfl e3 (run_ldq u1 u2 u3 u4) (hK _ _ rfl (Below.refl _ _))
    · intro a w1 hB ho hp K hK
      have e4 : a.eval (.tmp 4) = (.pointer (some ⟨(w.heap.size + 1), 0, none⟩)) := ho 4 (by kernel_rfl)
      obtain ⟨u1, u2, u3, u4, u5, u6, u7, u8, u9⟩ := H_b.out.below hB
      exact hop_load (wanted_at rfl (j := 29) (d := 80) (b := true) (by kernel_rfl) (hp 29 80 (by kernel_rfl))) rfl e4 (run_ldq u1 u2 u3 u4) (hK _ _ rfl (Below.refl _ _))
    · intro a w1 hB ho hp K hK
      have e86 : a.eval (.tmp 86) = (.agg #[.bool s, .slice A n c, .bool t, .slice B m d]) := hp 35 86 (by kernel_rfl)
      have e87 : a.eval (.tmp 87) = (.agg #[.bool u, .slice C l e', .bool v, .slice D' f' h']) := hp 36 87 (by kernel_rfl)
      refine hop_call (wanted_at rfl (j := 29) (d := 80) (b := true) (by kernel_rfl) (hp 29 80 (by kernel_rfl))) rfl (args := #[(.agg #[.bool s, .slice A n c, .bool t, .slice B m d]), (.agg #[.bool u, .slice C l e', .bool v, .slice D' f' h'])]) (by simp only [List.map_toArray, List.map_cons, List.map_nil, eval_const, e86, e87]) (ent7 (by kernel_rfl) _ _) (add_q (ha.below hB) (hb.below hB) 3 (by omega) (by omega) (by omega) (by omega) (by omega) (by omega)) ?_
      rintro e w2 ⟨s, A, n, c, t, B, m, d, rfl, p, k, l, BB⟩
      exact ⟨_, rfl, hK _ _ ⟨s, A, n, c, t, B, m, d, rfl, p, by omega, by omega⟩ BB⟩
    · intro a w1 hB ho hp K hK
      have e5 : a.eval (.tmp 5) = (.pointer (some ⟨(w.heap.size + 1 + 1), 0, none⟩)) := ho 5 (by kernel_rfl)
      obtain ⟨u1, u2, u3, u4, u5, u6, u7, u8, u9⟩ := H_cc.out.below hB
      exact hop_load (wanted_at rfl (j := 29) (d := 80) (b := true) (by kernel_rfl) (hp 29 80 (by kernel_rfl))) rfl e5 (run_ldq u1 u2 u3 u4) (hK _ _ rfl (Below.refl _ _))
    · intro a w1 hB ho hp K hK
      obtain ⟨s88, A88, n88, c88, t88, D88, m88, d88, e88, p88, k88, l88⟩ : IsQ (p + q) 7 (a.eval (.tmp 88)) w1 := hp 37 88 (by kernel_rfl)
      have e89 : a.eval (.tmp 89) = (.agg #[.bool y, .slice F i0 i1, .bool z, .slice G j0 j1]) := hp 38 89 (by kernel_rfl)
      refine hop_call (wanted_at rfl (j := 29) (d := 80) (b := true) (by kernel_rfl) (hp 29 80 (by kernel_rfl))) rfl (args := #[(.agg #[.bool s88, .slice A88 n88 c88, .bool t88, .slice D88 m88 d88]), (.agg #[.bool y, .slice F i0 i1, .bool z, .slice G j0 j1])]) (by simp only [List.map_toArray, List.map_cons, List.map_nil, eval_const, e88, e89]) (ent7 (by kernel_rfl) _ _) (add_q p88.qv (hc.below hB) 7 (by omega) (by omega) (by omega) (by omega) (by omega) (by omega)) ?_
      rintro e w2 ⟨s, A, n, c, t, B, m, d, rfl, p, k, l, BB⟩
      exact ⟨_, rfl, hK _ _ ⟨s, A, n, c, t, B, m, d, rfl, p, by omega, by omega⟩ BB⟩
    · intro a w1 hB ho hp K hK
      obtain ⟨s85, A85, n85, c85, t85, D85, m85, d85, e85, p85, k85, l85⟩ : IsQ (p + (q + o)) 15 (a.eval (.tmp 85)) w1 := hp 34 85 (by kernel_rfl)
      obtain ⟨s90, A90, n90, c90, t90, D90, m90, d90, e90, p90, k90, l90⟩ : IsQ (p + q + o) 15 (a.eval (.tmp 90)) w1 := hp 39 90 (by kernel_rfl)
      refine hop_call (wanted_at rfl (j := 29) (d := 80) (b := true) (by kernel_rfl) (hp 29 80 (by kernel_rfl))) rfl (args := #[(.agg #[.bool s85, .slice A85 n85 c85, .bool t85, .slice D85 m85 d85]), (.agg #[.bool s90, .slice A90 n90 c90, .bool t90, .slice D90 m90 d90])]) (by simp only [List.map_toArray, List.map_cons, List.map_nil, eval_const, e85, e90]) (ent7 (by kernel_rfl) _ _) (cmp_q p85.qv p90.qv 15 (by omega) (by omega) (by omega) (by omega) (by omega) (by omega) H3.out) ?_
      rintro e w2 ⟨rfl, B⟩
      exact ⟨_, rfl, hK _ _ rfl B⟩
    · intro a w1 hB ho hp K hK
      have e91 : a.eval (.tmp 91) = (.int .i64 0) := hp 40 91 (by kernel_rfl)
      refine hop_val (wanted_at rfl (j := 29) (d := 80) (b := true) (by kernel_rfl) (hp 29 80 (by kernel_rfl))) ?_ (hK (.bool true) _ rfl (Below.refl _ _))
      unfold execOp; simp only [eval_const, e91]; simp [go_sem]
    · intro a w1 hB ho hp K hK
      have e80 : a.eval (.tmp 80) = (.bool true) := hp 29 80 (by kernel_rfl)
      have e92 : a.eval (.tmp 92) = (.bool true) := hp 41 92 (by kernel_rfl)
      refine hop_val (wanted_none rfl) ?_ (hK (.bool true) _ rfl (Below.refl _ _))
      unfold execOp; simp only [eval_const, e80, e92]; simp [go_sem]
    · intro a w1 hB ho hp K hK
      have e93 : a.eval (.tmp 93) = (.bool true) := hp 42 93 (by kernel_rfl)
      refine hop_val (wanted_none rfl) ?_ (hK (.bool true) _ rfl (Below.refl _ _))
      unfold execOp; simp only [eval_const, e93]; simp [go_sem]
  intro w40 B40
  refine EndAll.one rfl fun vv hv => ?_
  obtain rfl : vv = (.agg #[.bool s27, .slice A27 n27 c27, .bool t27, .slice D27 m27 d27]) := hv
  refine EndAll.one rfl fun vv hv => ?_
  obtain rfl : vv = (.agg #[.bool s33, .slice A33 n33 c33, .bool t33, .slice D33 m33 d33]) := hv
  refine EndAll.one rfl fun vv hv => ?_
  obtain rfl : vv = (.int .i64 0) := hv
  refine EndAll.one rfl fun vv hv => ?_
  obtain rfl : vv = (.bool true) := hv
  refine EndAll.one rfl fun vv hv => ?_
  obtain rfl : vv = (.bool true) := hv
  refine EndAll.one rfl fun vv hv => ?_
  obtain rfl : vv = (.agg #[.bool s, .slice A n c, .bool t, .slice B m d]) := hv
  refine EndAll.one rfl fun vv hv => ?_
  obtain rfl : vv = (.agg #[.bool s, .slice A n c, .bool t, .slice B m d]) := hv
  refine EndAll.one rfl fun vv hv => ?_
  obtain ⟨s41, A41, n41, c41, t41, D41, m41, d41, rfl, p41, k41, l41⟩ : IsQ (p - p) 7 vv w40 := hv
  refine EndAll.one rfl fun vv hv => ?_
  obtain rfl : vv = (.int .i64 0) := hv
  refine EndAll.one rfl fun vv hv => ?_
  obtain rfl : vv = (.bool true) := hv
  refine EndAll.one rfl fun vv hv => ?_
  obtain rfl : vv = (.bool true) := hv
  refine EndAll.one rfl fun vv hv => ?_
  obtain rfl : vv = (.bool true) := hv
  refine EndAll.one rfl fun vv hv => ?_
  obtain rfl : vv = (.bool false) := hv
  refine EndAll.one rfl fun vv hv => ?_
  obtain rfl : vv = (.bool true) := hv
  refine EndAll.one rfl fun vv hv => ?_
  obtain rfl : vv = (.bool true) := hv
  refine EndAll.one rfl fun vv hv => ?_
  obtain rfl : vv = (.agg #[.bool u, .slice C l e', .bool v, .slice D' f' h']) := hv
  refine EndAll.one rfl fun vv hv => ?_
  obtain rfl : vv = (.int .i64 0) := hv
  refine EndAll.one rfl fun vv hv => ?_
  obtain rfl : vv = (.bool true) := hv
  refine EndAll.one rfl fun vv hv => ?_
  obtain rfl : vv = (.bool true) := hv
  refine EndAll.one rfl fun vv hv => ?_
  obtain rfl : vv = (.bool true) := hv
  refine EndAll.one rfl fun vv hv => ?_
  obtain rfl : vv = undef := hv
  refine EndAll.one rfl fun vv hv => ?_
  obtain rfl : vv = undef := hv
  refine EndAll.one rfl fun vv hv => ?_
  obtain rfl : vv = undef := hv
  refine EndAll.one rfl fun vv hv => ?_
  obtain rfl : vv = undef := hv
  refine EndAll.one rfl fun vv hv => ?_
  obtain rfl : vv = undef := hv
  refine EndAll.one rfl fun vv hv => ?_
  obtain rfl : vv = undef := hv
  refine EndAll.one rfl fun vv hv => ?_
  obtain rfl : vv = undef := hv
  refine EndAll.one rfl fun vv hv => ?_
  obtain rfl : vv = (.bool true) := hv
  refine EndAll.one rfl fun vv hv => ?_
  obtain rfl : vv = (.bool true) := hv
  refine EndAll.one rfl fun vv hv => ?_
  obtain rfl : vv = (.bool true) := hv
  refine EndAll.one rfl fun vv hv => ?_
  obtain rfl : vv = (.agg #[.bool s, .slice A n c, .bool t, .slice B m d]) := hv
  refine EndAll.one rfl fun vv hv => ?_
  obtain rfl : vv = (.agg #[.bool u, .slice C l e', .bool v, .slice D' f' h']) := hv
  refine EndAll.one rfl fun vv hv => ?_
  obtain rfl : vv = (.agg #[.bool y, .slice F i0 i1, .bool z, .slice G j0 j1]) := hv
  refine EndAll.one rfl fun vv hv => ?_
  obtain ⟨s42, A42, n42, c42, t42, D42, m42, d42, rfl, p42, k42, l42⟩ : IsQ (q + o) 7 vv w40 := hv
  refine EndAll.one rfl fun vv hv => ?_
  obtain ⟨s43, A43, n43, c43, t43, D43, m43, d43, rfl, p43, k43, l43⟩ : IsQ (p + (q + o)) 15 vv w40 := hv
  refine EndAll.one rfl fun vv hv => ?_
  obtain rfl : vv = (.agg #[.bool s, .slice A n c, .bool t, .slice B m d]) := hv
  refine EndAll.one rfl fun vv hv => ?_
  obtain rfl : vv = (.agg #[.bool u, .slice C l e', .bool v, .slice D' f' h']) := hv
  refine EndAll.one rfl fun vv hv => ?_
  obtain ⟨s44, A44, n44, c44, t44, D44, m44, d44, rfl, p44, k44, l44⟩ : IsQ (p + q) 7 vv w40 := hv
  refine EndAll.one rfl fun vv hv => ?_
  obtain rfl : vv = (.agg #[.bool y, .slice F i0 i1, .bool z, .slice G j0 j1]) := hv
  refine EndAll.one rfl fun vv hv => ?_
  obtain ⟨s45, A45, n45, c45, t45, D45, m45, d45, rfl, p45, k45, l45⟩ : IsQ (p + q + o) 15 vv w40 := hv
  refine EndAll.one rfl fun vv hv => ?_
  obtain rfl : vv = (.int .i64 0) := hv
  refine EndAll.one rfl fun vv hv => ?_
  obtain rfl : vv = (.bool true) := hv
  refine EndAll.one rfl fun vv hv => ?_
  obtain rfl : vv = (.bool true) := hv
  refine EndAll.one rfl fun vv hv => ?_
  obtain rfl : vv = (.bool true) := hv
  refine EndAll.nil (l := []) rfl ?_
  simp only [Act.put, List.setIfInBounds_toArray, List.set_cons_zero, List.set_cons_succ]
  replace H_a := Lib.hid (H_a.out.below B40)
  replace H_b := Lib.hid (H_b.out.below B40)
  replace H_cc := Lib.hid (H_cc.out.below B40)
  replace H_sa := Lib.hid (H_sa.out.below B40)
  replace H_ta := Lib.hid (H_ta.out.below B40)
  replace H_qa := Lib.hid (H_qa.out.below B40)
  replace H_ba := Lib.hid (H_ba.out.below B40)
  replace ha := ha.below B40
  replace hb := hb.below B40
  replace hc := hc.below B40
  replace ps := ps.below B40
  replace pt := pt.below B40
  replace pq := pq.below B40
  replace pb := pb.below B40
  replace hW := hW.trans (B40.mono hW.size)
  clear B40
  go_wp2_with fail
  go_ret
  exact ⟨rfl, hW⟩
set_option maxRecDepth 100000 in
set_option maxHeartbeats 16000000 in
theorem ratfield_calls (A B C D' F G : Option Addr) (n c m d l e' f' h' i0 i1 j0 j1 : Nat) (s t u v y z : Bool) (p q o : Rat) (w : World) (ha : Qv w s A n c t B m d p) (hb : Qv w u C l e' v D' f' h' q) (hc : Qv w y F i0 i1 z G j0 j1 o) (n9 : n ≤ 9223372036854775807) (m9 : m ≤ 9223372036854775807) (l9 : l ≤ 9223372036854775807) (f9 : f' ≤ 9223372036854775807) (i9 : i0 ≤ 9223372036854775807) (j9 : j0 ≤ 9223372036854775807) :
    Calls Try.prog 7 #[.agg #[.bool s, .slice A n c, .bool t, .slice B m d], .agg #[.bool u, .slice C l e', .bool v, .slice D' f' h'], .agg #[.bool y, .slice F i0 i1, .bool z, .slice G j0 j1]] w (TruePost w) := by
  by_cases h0 : n ≤ 3 ∧ m ≤ 3
  · by_cases h1 : l ≤ 3 ∧ f' ≤ 3
    · by_cases h2 : i0 ≤ 3 ∧ j0 ≤ 3
      · by_cases hq : q = 0
        · exact field_no ha hb hc h0 h1 h2 hq
        · exact field_yes ha hb hc h0 h1 h2 hq
      · exact field_few2 ha hb hc n9 m9 l9 f9 i9 j9 h0 h1 h2
    · exact field_few1 ha hb hc n9 m9 l9 f9 i9 j9 h0 h1
  · exact field_few0 ha hb hc n9 m9 l9 f9 i9 j9 h0
end Go.Proofs.Ytfpncmhaoadfdaa
