/-
  The walk of ModRests.
-/
import Derived.Test.YtofdbihohljmpaaG1z
import Derived.Deep.RegionWith
/-! The walk of ModRests. -/
namespace Go.Proofs.Ytofdbihohljmpaa
open Go.RowKit
set_option linter.unusedVariables false
set_option linter.unusedSimpArgs false

set_option maxRecDepth 100000 in
set_option maxHeartbeats 4000000 in
theorem mr_few {A B : Option Addr} {n m c d : Nat} {s t : Bool} {x y : Int} {w : World} (hx : Zv w s A n c x) (hy : Zv w t B m d y) (hn : n ≤ 9223372036854775807) (hm : m ≤ 9223372036854775807) (hf : ¬ (n ≤ 4 ∧ m ≤ 4)) :
    Calls Try.prog 3 #[.agg #[.bool s, .slice A n c], .agg #[.bool t, .slice B m d]] w (TruePost w) := by
  obtain ⟨w3, hw3, IA, IB, z0⟩ := open2 w s t A B n c m d
  have HW := Lib.hid hw3.symm
  replace hx := hx.below z0
  replace hy := hy.below z0
  have hW := z0
  have H_a := Lib.hid IA
  have H_b := Lib.hid IB
  clear hw3 IA IB z0
  have HF : Hid (decide (n ≤ 4 ∧ m ≤ 4 ∧ m ≤ 4) = false) := Lib.hid (decide_eq_false fun k => hf ⟨k.1, k.2.1⟩)
  clear hf
  go_enter Try.func3, Try.ntmps3
  obtain ⟨a1, a2, a3, a4, a5⟩ := H_a.out
  obtain ⟨b1, b2, b3, b4, b5⟩ := H_b.out
  go_wp2_with fail
  rw [HW.out]
  clear a1 a2 a3 a4 a5 b1 b2 b3 b4 b5
  refine (mawake_calls _).mono ?_
  rintro e w21 ⟨rfl, B21⟩
  replace H_a := Lib.hid (H_a.out.below B21)
  replace H_b := Lib.hid (H_b.out.below B21)
  replace hx := hx.below B21
  replace hy := hy.below B21
  replace hW := hW.trans (B21.mono hW.size)
  clear B21
  obtain ⟨a1, a2, a3, a4, a5⟩ := H_a.out
  obtain ⟨b1, b2, b3, b4, b5⟩ := H_b.out
  go_wp2_with fail
  clear a1 a2 a3 a4 a5 b1 b2 b3 b4 b5
  refine (mfew_v (k := 4) (b := false) hn hm hm (by omega) HF.out).mono ?_
  rintro e w22 ⟨rfl, B22⟩
  replace H_a := Lib.hid (H_a.out.below B22)
  replace H_b := Lib.hid (H_b.out.below B22)
  replace hx := hx.below B22
  replace hy := hy.below B22
  replace hW := hW.trans (B22.mono hW.size)
  clear B22
  obtain ⟨a1, a2, a3, a4, a5⟩ := H_a.out
  obtain ⟨b1, b2, b3, b4, b5⟩ := H_b.out
  go_wp2_with fail
  clear a1 a2 a3 a4 a5 b1 b2 b3 b4 b5
  refine (mawake_calls _).mono ?_
  rintro e w23 ⟨rfl, B23⟩
  replace H_a := Lib.hid (H_a.out.below B23)
  replace H_b := Lib.hid (H_b.out.below B23)
  replace hx := hx.below B23
  replace hy := hy.below B23
  replace hW := hW.trans (B23.mono hW.size)
  clear B23
  go_wp2_with fail
  go_ret
  exact ⟨rfl, hW⟩
set_option maxRecDepth 100000 in
set_option maxHeartbeats 4000000 in
theorem mr_bad {A B : Option Addr} {n m c d : Nat} {s t : Bool} {x y : Int} {w : World} (hx : Zv w s A n c x) (hy : Zv w t B m d y) (h1 : n ≤ 4) (h2 : m ≤ 4) (h0 : y ≤ 0) :
    Calls Try.prog 3 #[.agg #[.bool s, .slice A n c], .agg #[.bool t, .slice B m d]] w (TruePost w) := by
  obtain ⟨w3, hw3, IA, IB, z0⟩ := open2 w s t A B n c m d
  have HW := Lib.hid hw3.symm
  replace hx := hx.below z0
  replace hy := hy.below z0
  have hW := z0
  have H_a := Lib.hid IA
  have H_b := Lib.hid IB
  clear hw3 IA IB z0
  obtain ⟨sy, hsy⟩ : ∃ r, y.sign = r := ⟨_, rfl⟩
  have hs0 : sy ≤ 0 := by
    rcases Int.lt_or_eq_of_le h0 with h | h
    · rw [← hsy, Int.sign_eq_neg_one_of_neg h]; omega
    · rw [← hsy, h]; decide
  have HSY := Lib.hid hsy
  clear hsy
  go_enter Try.func3, Try.ntmps3
  obtain ⟨a1, a2, a3, a4, a5⟩ := H_a.out
  obtain ⟨b1, b2, b3, b4, b5⟩ := H_b.out
  go_wp2_with fail
  rw [HW.out]
  clear a1 a2 a3 a4 a5 b1 b2 b3 b4 b5
  refine (mawake_calls _).mono ?_
  rintro e w21 ⟨rfl, B21⟩
  replace H_a := Lib.hid (H_a.out.below B21)
  replace H_b := Lib.hid (H_b.out.below B21)
  replace hx := hx.below B21
  replace hy := hy.below B21
  replace hW := hW.trans (B21.mono hW.size)
  clear B21
  obtain ⟨a1, a2, a3, a4, a5⟩ := H_a.out
  obtain ⟨b1, b2, b3, b4, b5⟩ := H_b.out
  go_wp2_with fail
  clear a1 a2 a3 a4 a5 b1 b2 b3 b4 b5
  refine (mfew_v (k := 4) (b := true) (by omega) (by omega) (by omega) (by omega) (by rw [decide_eq_true_iff]; omega)).mono ?_
  rintro e w22 ⟨rfl, B22⟩
  replace H_a := Lib.hid (H_a.out.below B22)
  replace H_b := Lib.hid (H_b.out.below B22)
  replace hx := hx.below B22
  replace hy := hy.below B22
  replace hW := hW.trans (B22.mono hW.size)
  clear B22
  obtain ⟨a1, a2, a3, a4, a5⟩ := H_a.out
  obtain ⟨b1, b2, b3, b4, b5⟩ := H_b.out
  go_wp2_with fail
  clear a1 a2 a3 a4 a5 b1 b2 b3 b4 b5
  refine (mod_no hx hy (by omega) (by omega) h0).mono ?_
  rintro e w23 ⟨rfl, B23⟩
  replace H_a := Lib.hid (H_a.out.below B23)
  replace H_b := Lib.hid (H_b.out.below B23)
  replace hx := hx.below B23
  replace hy := hy.below B23
  replace hW := hW.trans (B23.mono hW.size)
  clear B23
  have z24 := zba w23 (.cells #[.bool false, .slice none 0 0] 25)
  obtain ⟨w24, hw24⟩ : ∃ w', w' = w23.alloc (.cells #[.bool false, .slice none 0 0] 25) := ⟨_, rfl⟩
  have I24 : Ib w24 w23.heap.size false none 0 0 := by rw [hw24]; exact Ib.new _ _ _ _ _ _
  rw [← hw24] at z24
  have HW24 := Lib.hid hw24.symm
  have O_a := H_a
  have O_b := H_b
  replace H_a := Lib.hid (H_a.out.below z24)
  replace H_b := Lib.hid (H_b.out.below z24)
  replace hx := hx.below z24
  replace hy := hy.below z24
  replace hW := hW.trans (z24.mono hW.size)
  have H_p := Lib.hid I24
  clear z24 hw24 I24
  obtain ⟨a1, a2, a3, a4, a5⟩ := O_a.out
  obtain ⟨b1, b2, b3, b4, b5⟩ := O_b.out
  go_wp2_with fail
  rw [HW24.out]
  clear a1 a2 a3 a4 a5 b1 b2 b3 b4 b5 O_a O_b
  refine (inv_bad hx hy (by omega) (by omega) h0).mono ?_
  rintro e w25 ⟨rfl, B25⟩
  replace H_a := Lib.hid (H_a.out.below B25)
  replace H_b := Lib.hid (H_b.out.below B25)
  replace H_p := Lib.hid (H_p.out.below B25)
  replace hx := hx.below B25
  replace hy := hy.below B25
  replace hW := hW.trans (B25.mono hW.size)
  clear B25
  have z26 := zba w25 (.cells #[.bool false, .slice none 0 0] 25)
  obtain ⟨w26, hw26⟩ : ∃ w', w' = w25.alloc (.cells #[.bool false, .slice none 0 0] 25) := ⟨_, rfl⟩
  have I26 : Ib w26 w25.heap.size false none 0 0 := by rw [hw26]; exact Ib.new _ _ _ _ _ _
  rw [← hw26] at z26
  have HW26 := Lib.hid hw26.symm
  have O_a := H_a
  have O_b := H_b
  have O_p := H_p
  replace H_a := Lib.hid (H_a.out.below z26)
  replace H_b := Lib.hid (H_b.out.below z26)
  replace H_p := Lib.hid (H_p.out.below z26)
  replace hx := hx.below z26
  replace hy := hy.below z26
  replace hW := hW.trans (z26.mono hW.size)
  have H_q := Lib.hid I26
  clear z26 hw26 I26
  obtain ⟨a1, a2, a3, a4, a5⟩ := O_a.out
  obtain ⟨b1, b2, b3, b4, b5⟩ := O_b.out
  obtain ⟨p1, p2, p3, p4, p5⟩ := O_p.out
  go_wp2_with fail
  rw [HW26.out]
  clear a1 a2 a3 a4 a5 b1 b2 b3 b4 b5 p1 p2 p3 p4 p5 O_a O_b O_p
  refine (zsign_v hy (by omega) HSY.out).mono ?_
  rintro e w27 ⟨rfl, B27⟩
  replace H_a := Lib.hid (H_a.out.below B27)
  replace H_b := Lib.hid (H_b.out.below B27)
  replace H_p := Lib.hid (H_p.out.below B27)
  replace H_q := Lib.hid (H_q.out.below B27)
  replace hx := hx.below B27
  replace hy := hy.below B27
  replace hW := hW.trans (B27.mono hW.size)
  clear B27
  obtain ⟨a1, a2, a3, a4, a5⟩ := H_a.out
  obtain ⟨b1, b2, b3, b4, b5⟩ := H_b.out
  obtain ⟨p1, p2, p3, p4, p5⟩ := H_p.out
  obtain ⟨q1, q2, q3, q4, q5⟩ := H_q.out
  go_wp2_with fail
  clear a1 a2 a3 a4 a5 b1 b2 b3 b4 b5 p1 p2 p3 p4 p5 q1 q2 q3 q4 q5
  refine (zsign_v (Zc.none0 _).zv (by omega) (show (0 : Int).sign = 0 from rfl)).mono ?_
  rintro e w28 ⟨rfl, B28⟩
  replace H_a := Lib.hid (H_a.out.below B28)
  replace H_b := Lib.hid (H_b.out.below B28)
  replace H_p := Lib.hid (H_p.out.below B28)
  replace H_q := Lib.hid (H_q.out.below B28)
  replace hx := hx.below B28
  replace hy := hy.below B28
  replace hW := hW.trans (B28.mono hW.size)
  clear B28
  obtain ⟨a1, a2, a3, a4, a5⟩ := H_a.out
  obtain ⟨b1, b2, b3, b4, b5⟩ := H_b.out
  obtain ⟨p1, p2, p3, p4, p5⟩ := H_p.out
  obtain ⟨q1, q2, q3, q4, q5⟩ := H_q.out
  go_wp2_with fail
  clear a1 a2 a3 a4 a5 b1 b2 b3 b4 b5 p1 p2 p3 p4 p5 q1 q2 q3 q4 q5
  refine (zsign_v (Zc.none0 _).zv (by omega) (show (0 : Int).sign = 0 from rfl)).mono ?_
  rintro e w29 ⟨rfl, B29⟩
  replace H_a := Lib.hid (H_a.out.below B29)
  replace H_b := Lib.hid (H_b.out.below B29)
  replace H_p := Lib.hid (H_p.out.below B29)
  replace H_q := Lib.hid (H_q.out.below B29)
  replace hx := hx.below B29
  replace hy := hy.below B29
  replace hW := hW.trans (B29.mono hW.size)
  clear B29
  go_wp2_with fail
  go_ret
  exact ⟨rfl, hW⟩
attribute [local go_sem] undef
set_option maxRecDepth 100000 in
set_option maxHeartbeats 4000000 in
theorem mr_none {A B : Option Addr} {n m c d : Nat} {s t : Bool} {x y : Int} {w : World} (hx : Zv w s A n c x) (hy : Zv w t B m d y) (h1 : n ≤ 4) (h2 : m ≤ 4) (h0 : 0 < y) (hg : Nat.gcd x.natAbs y.natAbs ≠ 1) :
    Calls Try.prog 3 #[.agg #[.bool s, .slice A n c], .agg #[.bool t, .slice B m d]] w (TruePost w) := by
  obtain ⟨w3, hw3, IA, IB, z0⟩ := open2 w s t A B n c m d
  have HW := Lib.hid hw3.symm
  replace hx := hx.below z0
  replace hy := hy.below z0
  have hW := z0
  have H_a := Lib.hid IA
  have H_b := Lib.hid IB
  clear hw3 IA IB z0
  have HG := Lib.hid hg
  have HSY : Hid (y.sign = 1) := Lib.hid (Int.sign_eq_one_of_pos h0)
  obtain ⟨rr, hrr⟩ : ∃ r, x % y = r := ⟨_, rfl⟩
  have hr0 : 0 ≤ rr := by rw [← hrr]; exact Int.emod_nonneg _ (by omega)
  have hr1 : rr < y := by rw [← hrr]; exact Int.emod_lt_of_pos _ h0
  have HRC : Hid (decide (y ∣ x - rr) = true) := Lib.hid (by rw [← hrr]; exact rest_cong x y)
  have HRR := Lib.hid hrr
  clear hrr hg
  go_enter Try.func3, Try.ntmps3
  obtain ⟨a1, a2, a3, a4, a5⟩ := H_a.out
  obtain ⟨b1, b2, b3, b4, b5⟩ := H_b.out
  go_wp2_with fail
  rw [HW.out]
  clear a1 a2 a3 a4 a5 b1 b2 b3 b4 b5
  refine (mawake_calls _).mono ?_
  rintro e w21 ⟨rfl, B21⟩
  replace H_a := Lib.hid (H_a.out.below B21)
  replace H_b := Lib.hid (H_b.out.below B21)
  replace hx := hx.below B21
  replace hy := hy.below B21
  replace hW := hW.trans (B21.mono hW.size)
  clear B21
  obtain ⟨a1, a2, a3, a4, a5⟩ := H_a.out
  obtain ⟨b1, b2, b3, b4, b5⟩ := H_b.out
  go_wp2_with fail
  clear a1 a2 a3 a4 a5 b1 b2 b3 b4 b5
  refine (mfew_v (k := 4) (b := true) (by omega) (by omega) (by omega) (by omega) (by rw [decide_eq_true_iff]; omega)).mono ?_
  rintro e w22 ⟨rfl, B22⟩
  replace H_a := Lib.hid (H_a.out.below B22)
  replace H_b := Lib.hid (H_b.out.below B22)
  replace hx := hx.below B22
  replace hy := hy.below B22
  replace hW := hW.trans (B22.mono hW.size)
  clear B22
  obtain ⟨a1, a2, a3, a4, a5⟩ := H_a.out
  obtain ⟨b1, b2, b3, b4, b5⟩ := H_b.out
  go_wp2_with fail
  clear a1 a2 a3 a4 a5 b1 b2 b3 b4 b5
  refine (mod_yes hx hy (by omega) (by omega) h0).mono ?_
  rintro e w23 ⟨s23, A23, n23, c23, rfl, pr, k23, B23⟩
  replace H_a := Lib.hid (H_a.out.below B23)
  replace H_b := Lib.hid (H_b.out.below B23)
  replace hx := hx.below B23
  replace hy := hy.below B23
  replace hW := hW.trans (B23.mono hW.size)
  clear B23
  rw [HRR.out] at pr
  have z24 := zba w23 (.cells #[.bool s23, .slice A23 n23 c23] 25)
  obtain ⟨w24, hw24⟩ : ∃ w', w' = w23.alloc (.cells #[.bool s23, .slice A23 n23 c23] 25) := ⟨_, rfl⟩
  have I24 : Ib w24 w23.heap.size s23 A23 n23 c23 := by rw [hw24]; exact Ib.new _ _ _ _ _ _
  rw [← hw24] at z24
  have HW24 := Lib.hid hw24.symm
  have O_a := H_a
  have lt_a_p : w.heap.size < w23.heap.size := H_a.out.2.2.2.2
  have O_b := H_b
  have lt_b_p : (w.heap.size + 1) < w23.heap.size := H_b.out.2.2.2.2
  have lw_p : w.heap.size ≤ w23.heap.size := hW.size
  replace H_a := Lib.hid (H_a.out.below z24)
  replace H_b := Lib.hid (H_b.out.below z24)
  replace hx := hx.below z24
  replace hy := hy.below z24
  replace pr := pr.below z24
  replace hW := hW.trans (z24.mono hW.size)
  have H_p := Lib.hid I24
  clear z24 hw24 I24
  obtain ⟨a1, a2, a3, a4, a5⟩ := O_a.out
  obtain ⟨b1, b2, b3, b4, b5⟩ := O_b.out
  go_wp2_with fail
  rw [HW24.out]
  clear a1 a2 a3 a4 a5 b1 b2 b3 b4 b5 O_a O_b
  refine (inv_no hx hy (by omega) (by omega) h0 HG.out).mono ?_
  rintro e w25 ⟨rfl, B25⟩
  replace H_a := Lib.hid (H_a.out.below B25)
  replace H_b := Lib.hid (H_b.out.below B25)
  replace H_p := Lib.hid (H_p.out.below B25)
  replace hx := hx.below B25
  replace hy := hy.below B25
  replace pr := pr.below B25
  replace hW := hW.trans (B25.mono hW.size)
  clear B25
  have z26 := zba w25 (.cells #[.bool false, .slice none 0 0] 25)
  obtain ⟨w26, hw26⟩ : ∃ w', w' = w25.alloc (.cells #[.bool false, .slice none 0 0] 25) := ⟨_, rfl⟩
  have I26 : Ib w26 w25.heap.size false none 0 0 := by rw [hw26]; exact Ib.new _ _ _ _ _ _
  rw [← hw26] at z26
  have HW26 := Lib.hid hw26.symm
  have O_a := H_a
  have O_b := H_b
  have O_p := H_p
  replace H_a := Lib.hid (H_a.out.below z26)
  replace H_b := Lib.hid (H_b.out.below z26)
  replace H_p := Lib.hid (H_p.out.below z26)
  replace hx := hx.below z26
  replace hy := hy.below z26
  replace pr := pr.below z26
  replace hW := hW.trans (z26.mono hW.size)
  have H_q := Lib.hid I26
  clear z26 hw26 I26
  obtain ⟨a1, a2, a3, a4, a5⟩ := O_a.out
  obtain ⟨b1, b2, b3, b4, b5⟩ := O_b.out
  obtain ⟨p1, p2, p3, p4, p5⟩ := O_p.out
  go_wp2_with fail
  rw [HW26.out]
  clear a1 a2 a3 a4 a5 b1 b2 b3 b4 b5 p1 p2 p3 p4 p5 O_a O_b O_p
  refine (zsign_v hy (by omega) HSY.out).mono ?_
  rintro e w27 ⟨rfl, B27⟩
  replace H_a := Lib.hid (H_a.out.below B27)
  replace H_b := Lib.hid (H_b.out.below B27)
  replace H_p := Lib.hid (H_p.out.below B27)
  replace H_q := Lib.hid (H_q.out.below B27)
  replace hx := hx.below B27
  replace hy := hy.below B27
  replace pr := pr.below B27
  replace hW := hW.trans (B27.mono hW.size)
  clear B27
  obtain ⟨a1, a2, a3, a4, a5⟩ := H_a.out
  obtain ⟨b1, b2, b3, b4, b5⟩ := H_b.out
  obtain ⟨p1, p2, p3, p4, p5⟩ := H_p.out
  obtain ⟨q1, q2, q3, q4, q5⟩ := H_q.out
  go_wp2_with fail
  clear a1 a2 a3 a4 a5 b1 b2 b3 b4 b5 p1 p2 p3 p4 p5 q1 q2 q3 q4 q5
  refine (rwithin_v pr.zv hy (by omega) (by omega) hr0 hr1).mono ?_
  rintro e w28 ⟨rfl, B28⟩
  replace H_a := Lib.hid (H_a.out.below B28)
  replace H_b := Lib.hid (H_b.out.below B28)
  replace H_p := Lib.hid (H_p.out.below B28)
  replace H_q := Lib.hid (H_q.out.below B28)
  replace hx := hx.below B28
  replace hy := hy.below B28
  replace pr := pr.below B28
  replace hW := hW.trans (B28.mono hW.size)
  clear B28
  obtain ⟨a1, a2, a3, a4, a5⟩ := H_a.out
  obtain ⟨b1, b2, b3, b4, b5⟩ := H_b.out
  obtain ⟨p1, p2, p3, p4, p5⟩ := H_p.out
  obtain ⟨q1, q2, q3, q4, q5⟩ := H_q.out
  go_wp2_with fail
  clear a1 a2 a3 a4 a5 b1 b2 b3 b4 b5 p1 p2 p3 p4 p5 q1 q2 q3 q4 q5
  refine (rcong_v (b := true) hx pr.zv hy (by omega) (by omega) (by omega) (by omega) HRC.out).mono ?_
  rintro e w29 ⟨rfl, B29⟩
  replace H_a := Lib.hid (H_a.out.below B29)
  replace H_b := Lib.hid (H_b.out.below B29)
  replace H_p := Lib.hid (H_p.out.below B29)
  replace H_q := Lib.hid (H_q.out.below B29)
  replace hx := hx.below B29
  replace hy := hy.below B29
  replace pr := pr.below B29
  replace hW := hW.trans (B29.mono hW.size)
  clear B29
  obtain ⟨a1, a2, a3, a4, a5⟩ := H_a.out
  obtain ⟨b1, b2, b3, b4, b5⟩ := H_b.out
  obtain ⟨p1, p2, p3, p4, p5⟩ := H_p.out
  obtain ⟨q1, q2, q3, q4, q5⟩ := H_q.out
  go_wp2_with fail
  clear a1 a2 a3 a4 a5 b1 b2 b3 b4 b5 p1 p2 p3 p4 p5 q1 q2 q3 q4 q5
  refine (rcommon_v (b := true) hx hy h1 h2 ⟨fun k => absurd k HG.out, fun k => Bool.noConfusion k⟩).mono ?_
  rintro e w30 ⟨rfl, B30⟩
  replace H_a := Lib.hid (H_a.out.below B30)
  replace H_b := Lib.hid (H_b.out.below B30)
  replace H_p := Lib.hid (H_p.out.below B30)
  replace H_q := Lib.hid (H_q.out.below B30)
  replace hx := hx.below B30
  replace hy := hy.below B30
  replace pr := pr.below B30
  replace hW := hW.trans (B30.mono hW.size)
  clear B30
  clear H_p
  obtain ⟨a1, a2, a3, a4, a5⟩ := H_a.out
  obtain ⟨b1, b2, b3, b4, b5⟩ := H_b.out
  obtain ⟨q1, q2, q3, q4, q5⟩ := H_q.out
  go_wp2_with fail
  clear a1 a2 a3 a4 a5 b1 b2 b3 b4 b5 q1 q2 q3 q4 q5
  obtain ⟨a1, a2, a3, a4, a5⟩ := H_a.out
  clear a3 a4 a5
  obtain ⟨b1, b2, b3, b4, b5⟩ := H_b.out
  clear b3 b4 b5
  obtain ⟨q1, q2, q3, q4, q5⟩ := H_q.out
  clear q3 q4 q5
  first
    | (go_region_with (first
        | (go_at_call 9; (with_reducible refine (zsign_v (Zc.none0 _).zv (by omega) (show (0 : Int).sign = 0 from rfl)).mono ?_); rintro e w31 ⟨rfl, B31⟩; have Q31 := zup (below_drew _) B31; obtain ⟨ax31, ay31, _⟩ := H_a.out.below Q31; obtain ⟨bx31, by31, _⟩ := H_b.out.below Q31; obtain ⟨qx31, qy31, _⟩ := H_q.out.below Q31)
        | fail))
    | fail
  all_goals
    have P := Lib.hid (hW.trans (Q31.mono hW.size))
    go_wp2_with fail
    go_ret
    exact ⟨rfl, P.out⟩
end Go.Proofs.Ytofdbihohljmpaa
