/-
  Packages grid, zmat: IsSide, Formed, sameSides, pair.isFormed.
-/
import Derived.Test.YtcdkdanfiimlkaaMtA
/-! Contracts: shapes. -/
namespace Go.Proofs.Ytcdkdanfiimlkaa
open Go.RowKit
set_option linter.unusedVariables false
set_option linter.unusedSimpArgs false

/-- It may be a side. -/
def sd (x : Int) : Bool := decide (0 ≤ x ∧ x ≤ 64)
/-- Sides and numbers go together. -/
def fmd (r c : Int) (n : Nat) : Bool := sd r && sd c && decide ((n : Int) = r * c)
theorem ret_k {v : Value} {w w' : World} {e : Ending} (h : e = .returned v) (hb : Below w.heap.size w w') : RetK (.k v) w e w' := ⟨v, h, rfl, hb⟩
/-- isSide. -/
theorem side_q (x : Int) {b : Bool} (hb : sd x = b) (w : World) : Calls Try.prog 73 #[.int .i64 x] w (RetK (.k (.bool b)) w) := by
  have HB := Lib.hid hb
  by_cases h0 : 0 ≤ x
  · obtain ⟨t, ht⟩ : ∃ t, decide (x ≤ 64) = t := ⟨_, rfl⟩
    have hbt : b = t := by rw [← hb, ← ht]; unfold sd; simp [h0]
    have HT := Lib.hid hbt
    clear hb hbt HB
    go_enter Try.func73, Try.ntmps73
    go_wp2_with fail
    exact bodyPost_ret (v := .bool t) (by simp [results, Try.results73, go_sem, ht]) rfl (ret_k (by rw [HT.out]) (Below.refl _ _))
  · have hbt : b = false := by rw [← hb]; unfold sd; simp [h0]
    subst hbt
    clear hb HB
    go_enter Try.func73, Try.ntmps73
    go_wp2_with fail
    exact bodyPost_ret (v := .bool false) (by simp [results, Try.results73, go_sem]) rfl (ret_k rfl (Below.refl _ _))
theorem sd_of {x : Int} (h : sd x = true) : 0 ≤ x ∧ x ≤ 64 := by unfold sd at h; exact of_decide_eq_true h
theorem sd_mul {r c : Int} (hr : sd r = true) (hc : sd c = true) : -9223372036854775808 ≤ r * c ∧ r * c ≤ 9223372036854775807 := by
  obtain ⟨a, b⟩ := sd_of hr
  obtain ⟨e, f⟩ := sd_of hc
  have h1 : 0 ≤ r * c := Int.mul_nonneg a e
  have h2 : r * c ≤ 64 * c := Int.mul_le_mul_of_nonneg_right b e
  omega
set_option maxRecDepth 100000 in
/-- grid.Formed. -/
theorem gformed_q {r c : Int} {n : Nat} {b : Bool} (hb : fmd r c n = b) (w : World) : Calls Try.prog 99 #[.int .i64 r, .int .i64 c, .int .i64 (n : Int)] w (RetK (.k (.bool b)) w) := by
  obtain ⟨t1, h1⟩ : ∃ t, sd r = t := ⟨_, rfl⟩
  obtain ⟨t2, h2⟩ : ∃ t, sd c = t := ⟨_, rfl⟩
  obtain ⟨t3, h3⟩ : ∃ t, decide ((n : Int) = r * c) = t := ⟨_, rfl⟩
  have hb' : b = (t1 && t2 && t3) := by rw [← hb, fmd, h1, h2, h3]
  have hbb := Lib.hid hb'
  have h4 : t1 = true → t2 = true → -9223372036854775808 ≤ r * c ∧ r * c ≤ 9223372036854775807 := fun e1 e2 => by
    rw [e1] at h1; rw [e2] at h2
    exact sd_mul h1 h2
  have h1_ := Lib.hid h1
  have h2_ := Lib.hid h2
  have h3_ := Lib.hid h3
  have h4_ := Lib.hid h4
  clear h1 h2 h3 h4 hb hb'
  go_enter Try.func99, Try.ntmps99
  go_upto_region 1 with fail
  cases t1
  · refine Run.start 14 ?_
    refine .mv .o ?_
    refine .c1 (.i 0) (x := .k (.bool false)) (by rintro u w2 hB rfl; exact side_q _ h1_.out w2) ?_
    refine .mv (.i 1) ?_
    refine .no ?_
    refine .no ?_
    refine .pk (.i 2) .o false ?_
    refine .mv (.i 5) ?_
    refine .no ?_
    refine .no ?_
    refine .no ?_
    refine .no ?_
    refine .no ?_
    refine .pk (.i 6) .o false ?_
    refine .mv (.i 12) ?_
    refine .donep [some 7, some 8, some 9, some 10, some 11, some 12, some 13, some 14, some 15, some 16, some 17, some 18, some 19, some 6] ?_
    intro w2 B2
    change Shut (wpList _ _ _ [] _ _)
    refine ⟨?_⟩
    simp only [Act.put, List.setIfInBounds_toArray, List.set_cons_zero, List.set_cons_succ]
    cases hbb.out
    go_wp2_with fail
    exact bodyPost_ret (v := .bool false) (by simp [results, Try.results99, go_sem]) rfl (ret_k rfl B2)
  cases t2
  · refine Run.start 14 ?_
    refine .mv .o ?_
    refine .c1 (.i 0) (x := .k (.bool true)) (by rintro u w2 hB rfl; exact side_q _ h1_.out w2) ?_
    refine .mv (.i 1) ?_
    refine .mv .o ?_
    refine .c1 (.i 3) (x := .k (.bool false)) (by rintro u w2 hB rfl; exact side_q _ h2_.out w2) ?_
    refine .pk (.i 2) (.i 4) true ?_
    refine .mv (.i 5) ?_
    refine .no ?_
    refine .no ?_
    refine .no ?_
    refine .no ?_
    refine .no ?_
    refine .pk (.i 6) .o false ?_
    refine .mv (.i 12) ?_
    refine .donep [some 7, some 8, some 9, some 10, some 11, some 12, some 13, some 14, some 15, some 16, some 17, some 18, some 19, some 6] ?_
    intro w2 B2
    change Shut (wpList _ _ _ [] _ _)
    refine ⟨?_⟩
    simp only [Act.put, List.setIfInBounds_toArray, List.set_cons_zero, List.set_cons_succ]
    cases hbb.out
    go_wp2_with fail
    exact bodyPost_ret (v := .bool false) (by simp [results, Try.results99, go_sem]) rfl (ret_k rfl B2)
  · refine Run.start 14 ?_
    refine .mv .o ?_
    refine .c1 (.i 0) (x := .k (.bool true)) (by rintro u w2 hB rfl; exact side_q _ h1_.out w2) ?_
    refine .mv (.i 1) ?_
    refine .mv .o ?_
    refine .c1 (.i 3) (x := .k (.bool true)) (by rintro u w2 hB rfl; exact side_q _ h2_.out w2) ?_
    refine .pk (.i 2) (.i 4) true ?_
    refine .mv (.i 5) ?_
    refine .mv .o ?_
    refine .mv .o ?_
    refine .mv .o ?_
    refine .two (.i 8) (.i 9) (opMul rfl (h4_.out rfl rfl).1 (h4_.out rfl rfl).2) ?_
    refine .two (.i 7) (.i 10) (opEq h3_.out) ?_
    refine .pk (.i 6) (.i 11) true ?_
    refine .mv (.i 12) ?_
    refine .donep [some 7, some 8, some 9, some 10, some 11, some 12, some 13, some 14, some 15, some 16, some 17, some 18, some 19, some 6] ?_
    intro w2 B2
    change Shut (wpList _ _ _ [] _ _)
    refine ⟨?_⟩
    simp only [Act.put, List.setIfInBounds_toArray, List.set_cons_zero, List.set_cons_succ]
    cases hbb.out
    go_wp2_with fail
    exact bodyPost_ret (v := .bool t3) (by simp [results, Try.results99, go_sem]) rfl (ret_k rfl B2)
set_option maxRecDepth 100000 in
/-- Formed. -/
theorem formed_q {r c : Int} {A : Option Addr} {n d : Nat} {b : Bool} (hb : fmd r c n = b) (w : World) : Calls Try.prog 58 #[.agg #[.int .i64 r, .int .i64 c, .slice A n d]] w (RetK (.k (.bool b)) w) := by
  obtain ⟨w1, hw1, b1, z1, s1⟩ := boxes1 w 24 [.int .i64 r, .int .i64 c, .slice A n d]
  have HW := Lib.hid hw1
  have HZ := Lib.hid z1
  have hb_ := Lib.hid hb
  clear hw1 z1 hb s1
  go_enter Try.func58, Try.ntmps58
  go_upto_region 1 with fail
  rw [HW.out]
  refine Run.start 9 ?_
  refine .fa .o (fM0 0) ?_
  refine .ld (.i 0) (ldInt b1 0) ?_
  refine .fa .o (fM1 1) ?_
  refine .ld (.i 2) (ldInt b1 1) ?_
  refine .fa .o (fM2 2) ?_
  refine .ld (.i 4) (ldSl b1 2) ?_
  refine .len (.i 5) Try.underlying22 ?_
  refine .c3 (.i 1) (.i 3) (.i 6) (x := .k (.bool b)) (by rintro u v x w2 hB rfl rfl rfl; exact gformed_q hb_.out w2) ?_
  refine .mv (.i 7) ?_
  refine .donep [some 3, some 4, some 5, some 6, some 7, some 8, some 9, some 10, some 2] ?_
  intro w2 B2
  change Shut (wpList _ _ _ [] _ _)
  refine ⟨?_⟩
  simp only [Act.put, List.setIfInBounds_toArray, List.set_cons_zero, List.set_cons_succ]
  go_wp2_with fail
  exact bodyPost_ret (v := .bool b) (by simp [results, Try.results58, go_sem]) rfl (ret_k rfl (zup HZ.out B2))
set_option maxRecDepth 100000 in
/-- grid.Has. -/
theorem has_q {r c i k : Int} {b : Bool} (hb : (decide (0 ≤ i) && decide (i < r) && decide (0 ≤ k) && decide (k < c)) = b) (w : World) : Calls Try.prog 80 #[.int .i64 r, .int .i64 c, .int .i64 i, .int .i64 k] w (RetK (.k (.bool b)) w) := by
  obtain ⟨t1, h1⟩ : ∃ t, decide (0 ≤ i) = t := ⟨_, rfl⟩
  obtain ⟨t2, h2⟩ : ∃ t, decide (i < r) = t := ⟨_, rfl⟩
  obtain ⟨t3, h3⟩ : ∃ t, decide (0 ≤ k) = t := ⟨_, rfl⟩
  obtain ⟨t4, h4⟩ : ∃ t, decide (k < c) = t := ⟨_, rfl⟩
  have hb' : b = (t1 && t2 && t3 && t4) := by rw [← hb, h1, h2, h3, h4]
  have hbb := Lib.hid hb'
  have h1_ := Lib.hid h1
  have h2_ := Lib.hid h2
  have h3_ := Lib.hid h3
  have h4_ := Lib.hid h4
  clear h1 h2 h3 h4 hb hb'
  go_enter Try.func80, Try.ntmps80
  go_upto_region 1 with fail
  cases t1
  · refine Run.start 17 ?_
    refine .mv .o ?_
    refine .two .o (.i 0) (opLe h1_.out) ?_
    refine .mv (.i 1) ?_
    refine .no ?_
    refine .no ?_
    refine .no ?_
    refine .pk (.i 2) .o false ?_
    refine .mv (.i 6) ?_
    refine .no ?_
    refine .no ?_
    refine .pk (.i 7) .o false ?_
    refine .mv (.i 10) ?_
    refine .no ?_
    refine .no ?_
    refine .no ?_
    refine .pk (.i 11) .o false ?_
    refine .mv (.i 15) ?_
    refine .donep [some 9, some 10, some 11, some 12, some 13, some 14, some 15, some 16, some 17, some 18, some 19, some 20, some 21, some 22, some 23, some 24, some 8] ?_
    intro w2 B2
    change Shut (wpList _ _ _ [] _ _)
    refine ⟨?_⟩
    simp only [Act.put, List.setIfInBounds_toArray, List.set_cons_zero, List.set_cons_succ]
    cases hbb.out
    go_wp2_with fail
    exact bodyPost_ret (v := .bool false) (by simp [results, Try.results80, go_sem]) rfl (ret_k rfl B2)
  cases t2
  · refine Run.start 17 ?_
    refine .mv .o ?_
    refine .two .o (.i 0) (opLe h1_.out) ?_
    refine .mv (.i 1) ?_
    refine .mv .o ?_
    refine .mv .o ?_
    refine .two (.i 3) (.i 4) (opLt h2_.out) ?_
    refine .pk (.i 2) (.i 5) true ?_
    refine .mv (.i 6) ?_
    refine .no ?_
    refine .no ?_
    refine .pk (.i 7) .o false ?_
    refine .mv (.i 10) ?_
    refine .no ?_
    refine .no ?_
    refine .no ?_
    refine .pk (.i 11) .o false ?_
    refine .mv (.i 15) ?_
    refine .donep [some 9, some 10, some 11, some 12, some 13, some 14, some 15, some 16, some 17, some 18, some 19, some 20, some 21, some 22, some 23, some 24, some 8] ?_
    intro w2 B2
    change Shut (wpList _ _ _ [] _ _)
    refine ⟨?_⟩
    simp only [Act.put, List.setIfInBounds_toArray, List.set_cons_zero, List.set_cons_succ]
    cases hbb.out
    go_wp2_with fail
    exact bodyPost_ret (v := .bool false) (by simp [results, Try.results80, go_sem]) rfl (ret_k rfl B2)
  cases t3
  · refine Run.start 17 ?_
    refine .mv .o ?_
    refine .two .o (.i 0) (opLe h1_.out) ?_
    refine .mv (.i 1) ?_
    refine .mv .o ?_
    refine .mv .o ?_
    refine .two (.i 3) (.i 4) (opLt h2_.out) ?_
    refine .pk (.i 2) (.i 5) true ?_
    refine .mv (.i 6) ?_
    refine .mv .o ?_
    refine .two .o (.i 8) (opLe h3_.out) ?_
    refine .pk (.i 7) (.i 9) true ?_
    refine .mv (.i 10) ?_
    refine .no ?_
    refine .no ?_
    refine .no ?_
    refine .pk (.i 11) .o false ?_
    refine .mv (.i 15) ?_
    refine .donep [some 9, some 10, some 11, some 12, some 13, some 14, some 15, some 16, some 17, some 18, some 19, some 20, some 21, some 22, some 23, some 24, some 8] ?_
    intro w2 B2
    change Shut (wpList _ _ _ [] _ _)
    refine ⟨?_⟩
    simp only [Act.put, List.setIfInBounds_toArray, List.set_cons_zero, List.set_cons_succ]
    cases hbb.out
    go_wp2_with fail
    exact bodyPost_ret (v := .bool false) (by simp [results, Try.results80, go_sem]) rfl (ret_k rfl B2)
  · refine Run.start 17 ?_
    refine .mv .o ?_
    refine .two .o (.i 0) (opLe h1_.out) ?_
    refine .mv (.i 1) ?_
    refine .mv .o ?_
    refine .mv .o ?_
    refine .two (.i 3) (.i 4) (opLt h2_.out) ?_
    refine .pk (.i 2) (.i 5) true ?_
    refine .mv (.i 6) ?_
    refine .mv .o ?_
    refine .two .o (.i 8) (opLe h3_.out) ?_
    refine .pk (.i 7) (.i 9) true ?_
    refine .mv (.i 10) ?_
    refine .mv .o ?_
    refine .mv .o ?_
    refine .two (.i 12) (.i 13) (opLt h4_.out) ?_
    refine .pk (.i 11) (.i 14) true ?_
    refine .mv (.i 15) ?_
    refine .donep [some 9, some 10, some 11, some 12, some 13, some 14, some 15, some 16, some 17, some 18, some 19, some 20, some 21, some 22, some 23, some 24, some 8] ?_
    intro w2 B2
    change Shut (wpList _ _ _ [] _ _)
    refine ⟨?_⟩
    simp only [Act.put, List.setIfInBounds_toArray, List.set_cons_zero, List.set_cons_succ]
    cases hbb.out
    go_wp2_with fail
    exact bodyPost_ret (v := .bool t4) (by simp [results, Try.results80, go_sem]) rfl (ret_k rfl B2)
set_option maxRecDepth 100000 in
/-- sameSides. -/
theorem sides_q {r c r' c' : Int} {A A' : Option Addr} {n d n' d' : Nat} {b : Bool} (hb : (decide (r = r') && decide (c = c')) = b) (w : World) : Calls Try.prog 82 #[.agg #[.int .i64 r, .int .i64 c, .slice A n d], .agg #[.int .i64 r', .int .i64 c', .slice A' n' d']] w (RetK (.k (.bool b)) w) := by
  obtain ⟨t1, h1⟩ : ∃ t, decide (r = r') = t := ⟨_, rfl⟩
  obtain ⟨t2, h2⟩ : ∃ t, decide (c = c') = t := ⟨_, rfl⟩
  have hb' : b = (t1 && t2) := by rw [← hb, h1, h2]
  have hbb := Lib.hid hb'
  obtain ⟨w1, hw1, b2, b3, z1, s1⟩ := boxes2 w 24 24 [.int .i64 r, .int .i64 c, .slice A n d] [.int .i64 r', .int .i64 c', .slice A' n' d']
  have HW := Lib.hid hw1
  have HZ := Lib.hid z1
  have h1_ := Lib.hid h1
  have h2_ := Lib.hid h2
  clear hw1 z1 h1 h2 hb hb' s1
  go_enter Try.func82, Try.ntmps82
  go_upto_region 1 with fail
  rw [HW.out]
  cases t1
  · refine Run.start 13 ?_
    refine .fa .o (fM0 0) ?_
    refine .ld (.i 0) (ldInt b2 0) ?_
    refine .fa .o (fM0 0) ?_
    refine .ld (.i 2) (ldInt b3 0) ?_
    refine .two (.i 1) (.i 3) (opEq h1_.out) ?_
    refine .mv (.i 4) ?_
    refine .no ?_
    refine .no ?_
    refine .no ?_
    refine .no ?_
    refine .no ?_
    refine .pk (.i 5) .o false ?_
    refine .mv (.i 11) ?_
    refine .donep [some 5, some 6, some 7, some 8, some 9, some 10, some 11, some 12, some 13, some 14, some 15, some 16, some 4] ?_
    intro w2 B2
    change Shut (wpList _ _ _ [] _ _)
    refine ⟨?_⟩
    simp only [Act.put, List.setIfInBounds_toArray, List.set_cons_zero, List.set_cons_succ]
    cases hbb.out
    go_wp2_with fail
    exact bodyPost_ret (v := .bool false) (by simp [results, Try.results82, go_sem]) rfl (ret_k rfl (zup HZ.out B2))
  · refine Run.start 13 ?_
    refine .fa .o (fM0 0) ?_
    refine .ld (.i 0) (ldInt b2 0) ?_
    refine .fa .o (fM0 0) ?_
    refine .ld (.i 2) (ldInt b3 0) ?_
    refine .two (.i 1) (.i 3) (opEq h1_.out) ?_
    refine .mv (.i 4) ?_
    refine .fa .o (fM1 1) ?_
    refine .ld (.i 6) (ldInt b2 1) ?_
    refine .fa .o (fM1 1) ?_
    refine .ld (.i 8) (ldInt b3 1) ?_
    refine .two (.i 7) (.i 9) (opEq h2_.out) ?_
    refine .pk (.i 5) (.i 10) true ?_
    refine .mv (.i 11) ?_
    refine .donep [some 5, some 6, some 7, some 8, some 9, some 10, some 11, some 12, some 13, some 14, some 15, some 16, some 4] ?_
    intro w2 B2
    change Shut (wpList _ _ _ [] _ _)
    refine ⟨?_⟩
    simp only [Act.put, List.setIfInBounds_toArray, List.set_cons_zero, List.set_cons_succ]
    cases hbb.out
    go_wp2_with fail
    exact bodyPost_ret (v := .bool t2) (by simp [results, Try.results82, go_sem]) rfl (ret_k rfl (zup HZ.out B2))
set_option maxRecDepth 100000 in
/-- pair.isFormed. -/
theorem pformed_q {r c r' c' : Int} {A A' : Option Addr} {n d n' d' : Nat} {b : Bool} (hb : (fmd r c n && fmd r' c' n') = b) (w : World) : Calls Try.prog 66 #[.agg #[.int .i64 r, .int .i64 c, .slice A n d, .int .i64 r', .int .i64 c', .slice A' n' d']] w (RetK (.k (.bool b)) w) := by
  obtain ⟨t1, h1⟩ : ∃ t, fmd r c n = t := ⟨_, rfl⟩
  obtain ⟨t2, h2⟩ : ∃ t, fmd r' c' n' = t := ⟨_, rfl⟩
  have hb' : b = (t1 && t2) := by rw [← hb, h1, h2]
  have hbb := Lib.hid hb'
  obtain ⟨w1, hw1, b1, z1, s1⟩ := boxes1 w 72 [.int .i64 r, .int .i64 c, .slice A n d, .int .i64 r', .int .i64 c', .slice A' n' d']
  have HW := Lib.hid hw1
  have HZ := Lib.hid z1
  have h1_ := Lib.hid h1
  have h2_ := Lib.hid h2
  clear hw1 z1 h1 h2 hb hb' s1
  go_enter Try.func66, Try.ntmps66
  go_upto_region 1 with fail
  rw [HW.out]
  cases t1
  · refine Run.start 9 ?_
    refine .fa .o (fP0 0) ?_
    refine .ld (.i 0) (ldM b1 0) ?_
    refine .c1 (.i 1) (x := .k (.bool false)) (by rintro u w2 hB rfl; exact formed_q h1_.out w2) ?_
    refine .mv (.i 2) ?_
    refine .no ?_
    refine .no ?_
    refine .no ?_
    refine .pk (.i 3) .o false ?_
    refine .mv (.i 7) ?_
    refine .donep [some 3, some 4, some 5, some 6, some 7, some 8, some 9, some 10, some 2] ?_
    intro w2 B2
    change Shut (wpList _ _ _ [] _ _)
    refine ⟨?_⟩
    simp only [Act.put, List.setIfInBounds_toArray, List.set_cons_zero, List.set_cons_succ]
    cases hbb.out
    go_wp2_with fail
    exact bodyPost_ret (v := .bool false) (by simp [results, Try.results66, go_sem]) rfl (ret_k rfl (zup HZ.out B2))
  · refine Run.start 9 ?_
    refine .fa .o (fP0 0) ?_
    refine .ld (.i 0) (ldM b1 0) ?_
    refine .c1 (.i 1) (x := .k (.bool true)) (by rintro u w2 hB rfl; exact formed_q h1_.out w2) ?_
    refine .mv (.i 2) ?_
    refine .fa .o (fP1 3) ?_
    refine .ld (.i 4) (ldM b1 3) ?_
    refine .c1 (.i 5) (x := .k (.bool t2)) (by rintro u w2 hB rfl; exact formed_q h2_.out w2) ?_
    refine .pk (.i 3) (.i 6) true ?_
    refine .mv (.i 7) ?_
    refine .donep [some 3, some 4, some 5, some 6, some 7, some 8, some 9, some 10, some 2] ?_
    intro w2 B2
    change Shut (wpList _ _ _ [] _ _)
    refine ⟨?_⟩
    simp only [Act.put, List.setIfInBounds_toArray, List.set_cons_zero, List.set_cons_succ]
    cases hbb.out
    go_wp2_with fail
    exact bodyPost_ret (v := .bool t2) (by simp [results, Try.results66, go_sem]) rfl (ret_k rfl (zup HZ.out B2))
end Go.Proofs.Ytcdkdanfiimlkaa
