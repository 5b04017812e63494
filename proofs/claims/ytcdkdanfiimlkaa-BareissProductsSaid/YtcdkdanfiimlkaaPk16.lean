/-
  MtL MtM MtN MtO MtP
-/
import Derived.Test.YtcdkdanfiimlkaaPk15
import Derived.Test.YtcdkdanfiimlkaaPk08
import Derived.Test.YtcdkdanfiimlkaaPk09

section
/-! Contracts of the reference. -/
namespace Go.Proofs.Ytcdkdanfiimlkaa
open Go.RowKit
set_option linter.unusedVariables false
set_option linter.unusedSimpArgs false

set_option maxRecDepth 100000 in
/-- Formed. -/
theorem rformed_q {r c : Int} {A : Option Addr} {n d : Nat} {b : Bool} (hb : fmd r c n = b) (w : World) : Calls Try.prog 18 #[.agg #[.int .i64 r, .int .i64 c, .slice A n d]] w (RetK (.k (.bool b)) w) := by
  obtain ⟨w1, hw1, b1, z1, s1⟩ := boxes1 w 24 [.int .i64 r, .int .i64 c, .slice A n d]
  have HW := Lib.hid hw1
  have HZ := Lib.hid z1
  have hb_ := Lib.hid hb
  clear hw1 z1 hb s1
  go_enter Try.func18, Try.ntmps18
  go_upto_region 1 with fail
  rw [HW.out]
  by_cases g5 : 0 ≤ r
  rotate_left
  · refine Run.start 30 ?_
    refine .fa .o (fM0 0) ?_
    refine .ld (.i 0) (ldInt b1 0) ?_
    refine .two (.i 1) .o (opGe (decide_eq_false g5)) ?_
    refine .mv (.i 2) ?_
    refine .no ?_
    refine .no ?_
    refine .no ?_
    refine .pk (.i 3) .o false ?_
    refine .mv (.i 7) ?_
    refine .no ?_
    refine .no ?_
    refine .no ?_
    refine .pk (.i 8) .o false ?_
    refine .mv (.i 12) ?_
    refine .no ?_
    refine .no ?_
    refine .no ?_
    refine .pk (.i 13) .o false ?_
    refine .mv (.i 17) ?_
    refine .no ?_
    refine .no ?_
    refine .no ?_
    refine .no ?_
    refine .no ?_
    refine .no ?_
    refine .no ?_
    refine .no ?_
    refine .no ?_
    refine .pk (.i 18) .o false ?_
    refine .mv (.i 28) ?_
    refine .donep [some 3, some 4, some 5, some 6, some 7, some 8, some 9, some 10, some 11, some 12, some 13, some 14, some 15, some 16, some 17, some 18, some 19, some 20, some 21, some 22, some 23, some 24, some 25, some 26, some 27, some 28, some 29, some 30, some 31, some 2] ?_
    intro w2 B2
    change Shut (wpList _ _ _ [] _ _)
    refine ⟨?_⟩
    simp only [Act.put, List.setIfInBounds_toArray, List.set_cons_zero, List.set_cons_succ]
    have e : b = false := by rw [← hb_.out]; unfold fmd sd; simp; omega
    subst e
    go_wp2_with fail
    exact bodyPost_ret (v := .bool false) (by simp [results, Try.results18, go_sem]) rfl (ret_k rfl (zup HZ.out B2))
  · skip
    by_cases g9 : r ≤ 64
    rotate_left
    · refine Run.start 30 ?_
      refine .fa .o (fM0 0) ?_
      refine .ld (.i 0) (ldInt b1 0) ?_
      refine .two (.i 1) .o (opGe (decide_eq_true g5)) ?_
      refine .mv (.i 2) ?_
      refine .fa .o (fM0 0) ?_
      refine .ld (.i 4) (ldInt b1 0) ?_
      refine .two (.i 5) .o (opLe (decide_eq_false g9)) ?_
      refine .pk (.i 3) (.i 6) true ?_
      refine .mv (.i 7) ?_
      refine .no ?_
      refine .no ?_
      refine .no ?_
      refine .pk (.i 8) .o false ?_
      refine .mv (.i 12) ?_
      refine .no ?_
      refine .no ?_
      refine .no ?_
      refine .pk (.i 13) .o false ?_
      refine .mv (.i 17) ?_
      refine .no ?_
      refine .no ?_
      refine .no ?_
      refine .no ?_
      refine .no ?_
      refine .no ?_
      refine .no ?_
      refine .no ?_
      refine .no ?_
      refine .pk (.i 18) .o false ?_
      refine .mv (.i 28) ?_
      refine .donep [some 3, some 4, some 5, some 6, some 7, some 8, some 9, some 10, some 11, some 12, some 13, some 14, some 15, some 16, some 17, some 18, some 19, some 20, some 21, some 22, some 23, some 24, some 25, some 26, some 27, some 28, some 29, some 30, some 31, some 2] ?_
      intro w2 B2
      change Shut (wpList _ _ _ [] _ _)
      refine ⟨?_⟩
      simp only [Act.put, List.setIfInBounds_toArray, List.set_cons_zero, List.set_cons_succ]
      have e : b = false := by rw [← hb_.out]; unfold fmd sd; simp; omega
      subst e
      go_wp2_with fail
      exact bodyPost_ret (v := .bool false) (by simp [results, Try.results18, go_sem]) rfl (ret_k rfl (zup HZ.out B2))
    · skip
      by_cases g14 : 0 ≤ c
      rotate_left
      · refine Run.start 30 ?_
        refine .fa .o (fM0 0) ?_
        refine .ld (.i 0) (ldInt b1 0) ?_
        refine .two (.i 1) .o (opGe (decide_eq_true g5)) ?_
        refine .mv (.i 2) ?_
        refine .fa .o (fM0 0) ?_
        refine .ld (.i 4) (ldInt b1 0) ?_
        refine .two (.i 5) .o (opLe (decide_eq_true g9)) ?_
        refine .pk (.i 3) (.i 6) true ?_
        refine .mv (.i 7) ?_
        refine .fa .o (fM1 1) ?_
        refine .ld (.i 9) (ldInt b1 1) ?_
        refine .two (.i 10) .o (opGe (decide_eq_false g14)) ?_
        refine .pk (.i 8) (.i 11) true ?_
        refine .mv (.i 12) ?_
        refine .no ?_
        refine .no ?_
        refine .no ?_
        refine .pk (.i 13) .o false ?_
        refine .mv (.i 17) ?_
        refine .no ?_
        refine .no ?_
        refine .no ?_
        refine .no ?_
        refine .no ?_
        refine .no ?_
        refine .no ?_
        refine .no ?_
        refine .no ?_
        refine .pk (.i 18) .o false ?_
        refine .mv (.i 28) ?_
        refine .donep [some 3, some 4, some 5, some 6, some 7, some 8, some 9, some 10, some 11, some 12, some 13, some 14, some 15, some 16, some 17, some 18, some 19, some 20, some 21, some 22, some 23, some 24, some 25, some 26, some 27, some 28, some 29, some 30, some 31, some 2] ?_
        intro w2 B2
        change Shut (wpList _ _ _ [] _ _)
        refine ⟨?_⟩
        simp only [Act.put, List.setIfInBounds_toArray, List.set_cons_zero, List.set_cons_succ]
        have e : b = false := by rw [← hb_.out]; unfold fmd sd; simp; omega
        subst e
        go_wp2_with fail
        exact bodyPost_ret (v := .bool false) (by simp [results, Try.results18, go_sem]) rfl (ret_k rfl (zup HZ.out B2))
      · skip
        by_cases g19 : c ≤ 64
        rotate_left
        · refine Run.start 30 ?_
          refine .fa .o (fM0 0) ?_
          refine .ld (.i 0) (ldInt b1 0) ?_
          refine .two (.i 1) .o (opGe (decide_eq_true g5)) ?_
          refine .mv (.i 2) ?_
          refine .fa .o (fM0 0) ?_
          refine .ld (.i 4) (ldInt b1 0) ?_
          refine .two (.i 5) .o (opLe (decide_eq_true g9)) ?_
          refine .pk (.i 3) (.i 6) true ?_
          refine .mv (.i 7) ?_
          refine .fa .o (fM1 1) ?_
          refine .ld (.i 9) (ldInt b1 1) ?_
          refine .two (.i 10) .o (opGe (decide_eq_true g14)) ?_
          refine .pk (.i 8) (.i 11) true ?_
          refine .mv (.i 12) ?_
          refine .fa .o (fM1 1) ?_
          refine .ld (.i 14) (ldInt b1 1) ?_
          refine .two (.i 15) .o (opLe (decide_eq_false g19)) ?_
          refine .pk (.i 13) (.i 16) true ?_
          refine .mv (.i 17) ?_
          refine .no ?_
          refine .no ?_
          refine .no ?_
          refine .no ?_
          refine .no ?_
          refine .no ?_
          refine .no ?_
          refine .no ?_
          refine .no ?_
          refine .pk (.i 18) .o false ?_
          refine .mv (.i 28) ?_
          refine .donep [some 3, some 4, some 5, some 6, some 7, some 8, some 9, some 10, some 11, some 12, some 13, some 14, some 15, some 16, some 17, some 18, some 19, some 20, some 21, some 22, some 23, some 24, some 25, some 26, some 27, some 28, some 29, some 30, some 31, some 2] ?_
          intro w2 B2
          change Shut (wpList _ _ _ [] _ _)
          refine ⟨?_⟩
          simp only [Act.put, List.setIfInBounds_toArray, List.set_cons_zero, List.set_cons_succ]
          have e : b = false := by rw [← hb_.out]; unfold fmd sd; simp; omega
          subst e
          go_wp2_with fail
          exact bodyPost_ret (v := .bool false) (by simp [results, Try.results18, go_sem]) rfl (ret_k rfl (zup HZ.out B2))
        · skip
          refine Run.start 30 ?_
          refine .fa .o (fM0 0) ?_
          refine .ld (.i 0) (ldInt b1 0) ?_
          refine .two (.i 1) .o (opGe (decide_eq_true g5)) ?_
          refine .mv (.i 2) ?_
          refine .fa .o (fM0 0) ?_
          refine .ld (.i 4) (ldInt b1 0) ?_
          refine .two (.i 5) .o (opLe (decide_eq_true g9)) ?_
          refine .pk (.i 3) (.i 6) true ?_
          refine .mv (.i 7) ?_
          refine .fa .o (fM1 1) ?_
          refine .ld (.i 9) (ldInt b1 1) ?_
          refine .two (.i 10) .o (opGe (decide_eq_true g14)) ?_
          refine .pk (.i 8) (.i 11) true ?_
          refine .mv (.i 12) ?_
          refine .fa .o (fM1 1) ?_
          refine .ld (.i 14) (ldInt b1 1) ?_
          refine .two (.i 15) .o (opLe (decide_eq_true g19)) ?_
          refine .pk (.i 13) (.i 16) true ?_
          refine .mv (.i 17) ?_
          refine .fa .o (fM2 2) ?_
          refine .ld (.i 19) (ldSl b1 2) ?_
          refine .len (.i 20) Try.underlying22 ?_
          refine .fa .o (fM0 0) ?_
          refine .ld (.i 22) (ldInt b1 0) ?_
          refine .fa .o (fM1 1) ?_
          refine .ld (.i 24) (ldInt b1 1) ?_
          refine .two (.i 23) (.i 25) (opMul rfl (sd_mul (by unfold sd; exact decide_eq_true ⟨g5, g9⟩) (by unfold sd; exact decide_eq_true ⟨g14, g19⟩)).1 (sd_mul (by unfold sd; exact decide_eq_true ⟨g5, g9⟩) (by unfold sd; exact decide_eq_true ⟨g14, g19⟩)).2) ?_
          refine .two (.i 21) (.i 26) (opEq rfl) ?_
          refine .pk (.i 18) (.i 27) true ?_
          refine .mv (.i 28) ?_
          refine .donep [some 3, some 4, some 5, some 6, some 7, some 8, some 9, some 10, some 11, some 12, some 13, some 14, some 15, some 16, some 17, some 18, some 19, some 20, some 21, some 22, some 23, some 24, some 25, some 26, some 27, some 28, some 29, some 30, some 31, some 2] ?_
          intro w2 B2
          change Shut (wpList _ _ _ [] _ _)
          refine ⟨?_⟩
          simp only [Act.put, List.setIfInBounds_toArray, List.set_cons_zero, List.set_cons_succ]
          have e : decide ((n : Int) = r * c) = b := by rw [← hb_.out]; unfold fmd sd; simp [g5, g9, g14, g19]
          rw [e]
          clear e
          go_wp2_with fail
          exact bodyPost_ret (v := .bool b) (by simp [results, Try.results18, go_sem]) rfl (ret_k rfl (zup HZ.out B2))
set_option maxRecDepth 100000 in
/-- None, of no matrix. -/
theorem rnone_q (w : World) : Calls Try.prog 19 #[.agg #[.int .i64 0, .int .i64 0, .slice none 0 0]] w (RetK (.k (.bool true)) w) := by
  obtain ⟨w1, hw1, b1, z1, s1⟩ := boxes1 w 24 [.int .i64 0, .int .i64 0, .slice none 0 0]
  have HW := Lib.hid hw1
  have HZ := Lib.hid z1
  clear hw1 z1 s1
  go_enter Try.func19, Try.ntmps19
  go_upto_region 1 with fail
  rw [HW.out]
  refine Run.start 15 ?_
  refine .fa .o (fM0 0) ?_
  refine .ld (.i 0) (ldInt b1 0) ?_
  refine .two (.i 1) .o (opEq (by decide : decide ((0 : Int) = 0) = true)) ?_
  refine .mv (.i 2) ?_
  refine .fa .o (fM1 1) ?_
  refine .ld (.i 4) (ldInt b1 1) ?_
  refine .two (.i 5) .o (opEq (by decide : decide ((0 : Int) = 0) = true)) ?_
  refine .pk (.i 3) (.i 6) true ?_
  refine .mv (.i 7) ?_
  refine .fa .o (fM2 2) ?_
  refine .ld (.i 9) (ldSl b1 2) ?_
  refine .len (.i 10) Try.underlying22 ?_
  refine .two (.i 11) .o (opEq (by decide : decide (((0 : Nat) : Int) = 0) = true)) ?_
  refine .pk (.i 8) (.i 12) true ?_
  refine .mv (.i 13) ?_
  refine .donep [some 3, some 4, some 5, some 6, some 7, some 8, some 9, some 10, some 11, some 12, some 13, some 14, some 15, some 16, some 2] ?_
  intro w2 B2
  change Shut (wpList _ _ _ [] _ _)
  refine ⟨?_⟩
  simp only [Act.put, List.setIfInBounds_toArray, List.set_cons_zero, List.set_cons_succ]
  go_wp2_with fail
  exact bodyPost_ret (v := .bool true) (by simp [results, Try.results19, go_sem]) rfl (ret_k rfl (zup HZ.out B2))
set_option maxRecDepth 100000 in
/-- At. -/
theorem rat_q {q : Bool} {r c n d k i j : Nat} {A : Option Addr} {F : Nat → Nat → Int} {w : World} (h : Mt q w r c A n d k F) (hi : i < r) (hj : j < c) : Calls Try.prog 28 #[.agg #[.int .i64 (r : Int), .int .i64 (c : Int), .slice A n d], .int .i64 (i : Int), .int .i64 (j : Int)] w (RetK (kV (F i j) k) w) := by
  have h1 := h.hr
  have h2 := h.hc
  have h5 : i * c ≤ 64 * 64 := Nat.mul_le_mul (by omega) h2
  obtain ⟨w1, hw1, b3, b6, z1, s1⟩ := boxes2 w 24 28 [.int .i64 (r : Int), .int .i64 (c : Int), .slice A n d] [.bool false, .slice none 0 0]
  have HW := Lib.hid hw1
  have HZ := Lib.hid z1
  obtain ⟨ad, rfl, hab, hlt, s_, A_, n_, c_, c0, c1, ze, hk⟩ := (h.below z1).elem hi hj
  have hz := ze.1
  clear ze h
  clear hw1 z1 s1
  go_enter Try.func28, Try.ntmps28
  go_upto_region 1 with fail
  rw [HW.out]
  refine Run.start 10 ?_
  refine .fa .o (fM2 2) ?_
  refine .ld (.i 0) (ldSl b3 2) ?_
  refine .mv .o ?_
  refine .fa .o (fM1 1) ?_
  refine .ld (.i 3) (ldInt b3 1) ?_
  refine .two (.i 2) (.i 4) (opMulN i c (by omega)) ?_
  refine .mv .o ?_
  refine .two (.i 5) (.i 6) (opAddN (i * c) j (by omega)) ?_
  refine .two (.i 1) (.i 7) (opIx hlt) ?_
  refine .ld (.i 8) (ldE (by rw [add_block]; exact hab) c0 c1) ?_
  refine .donep [some 7, some 8, some 9, some 10, some 11, some 12, some 13, some 14, some 15, some 16] ?_
  intro w2 B2
  change Shut (wpList _ _ _ [_] _ _)
  refine ⟨?_⟩
  simp only [Act.put, List.setIfInBounds_toArray, List.set_cons_zero, List.set_cons_succ]
  replace hz := hz.below B2
  clear c0 c1
  have I := Ib.entry (b6.below B2)
  have P := Lib.hid (retV hz I (k := k) (by omega) (by omega) (zup HZ.out B2))
  obtain ⟨i1, i2, i3, i4, i5⟩ := I
  clear hz
  go_wp2_with fail
  exact bodyPost_ret (v := .agg #[.bool s_, .slice A_ n_ c_]) (by simp [results, Try.results28, go_sem, i1, i2]) rfl P.out
/-- A matrix of a size that is looked at. -/
def fewb (r c : Int) (R : List Zr) (N W : Nat) : Bool := decide (r ≤ N) && decide (c ≤ N) && fwb R 100 W
set_option maxRecDepth 100000 in
/-- Few. -/
theorem rfew_q {r c : Int} {A : Option Addr} {n d N W : Nat} {R : List Zr} {b : Bool} {w : World} (hx : RL w A n d R) (hb : fewb r c R N W = b) (hW' : W ≤ 1000) : Calls Try.prog 43 #[.agg #[.int .i64 r, .int .i64 c, .slice A n d], .int .i64 (N : Int), .int .i64 (W : Int)] w (RetK (.k (.bool b)) w) := by
  obtain ⟨t, ht⟩ : ∃ t, fwb R 100 W = t := ⟨_, rfl⟩
  obtain ⟨w1, hw1, b3, z1, s1⟩ := boxes1 w 24 [.int .i64 r, .int .i64 c, .slice A n d]
  have HW := Lib.hid hw1
  have HZ := Lib.hid z1
  have hb_ := Lib.hid hb
  have ht_ := Lib.hid ht
  clear hw1 z1 hb ht s1
  go_enter Try.func43, Try.ntmps43
  go_upto_region 1 with fail
  rw [HW.out]
  by_cases g10 : r ≤ (N : Int)
  rotate_left
  · refine Run.start 17 ?_
    refine .fa .o (fM0 0) ?_
    refine .ld (.i 0) (ldInt b3 0) ?_
    refine .mv .o ?_
    refine .two (.i 1) (.i 2) (opLe (decide_eq_false g10)) ?_
    refine .mv (.i 3) ?_
    refine .no ?_
    refine .no ?_
    refine .no ?_
    refine .no ?_
    refine .pk (.i 4) .o false ?_
    refine .mv (.i 9) ?_
    refine .no ?_
    refine .no ?_
    refine .no ?_
    refine .no ?_
    refine .pk (.i 10) .o false ?_
    refine .mv (.i 15) ?_
    refine .donep [some 7, some 8, some 9, some 10, some 11, some 12, some 13, some 14, some 15, some 16, some 17, some 18, some 19, some 20, some 21, some 22, some 6] ?_
    intro w2 B2
    change Shut (wpList _ _ _ [] _ _)
    refine ⟨?_⟩
    simp only [Act.put, List.setIfInBounds_toArray, List.set_cons_zero, List.set_cons_succ]
    have e : b = false := by rw [← hb_.out]; unfold fewb; simp [g10]
    subst e
    go_wp2_with fail
    exact bodyPost_ret (v := .bool false) (by simp [results, Try.results43, go_sem]) rfl (ret_k rfl (zup HZ.out B2))
  · skip
    by_cases g15 : c ≤ (N : Int)
    rotate_left
    · refine Run.start 17 ?_
      refine .fa .o (fM0 0) ?_
      refine .ld (.i 0) (ldInt b3 0) ?_
      refine .mv .o ?_
      refine .two (.i 1) (.i 2) (opLe (decide_eq_true g10)) ?_
      refine .mv (.i 3) ?_
      refine .fa .o (fM1 1) ?_
      refine .ld (.i 5) (ldInt b3 1) ?_
      refine .mv .o ?_
      refine .two (.i 6) (.i 7) (opLe (decide_eq_false g15)) ?_
      refine .pk (.i 4) (.i 8) true ?_
      refine .mv (.i 9) ?_
      refine .no ?_
      refine .no ?_
      refine .no ?_
      refine .no ?_
      refine .pk (.i 10) .o false ?_
      refine .mv (.i 15) ?_
      refine .donep [some 7, some 8, some 9, some 10, some 11, some 12, some 13, some 14, some 15, some 16, some 17, some 18, some 19, some 20, some 21, some 22, some 6] ?_
      intro w2 B2
      change Shut (wpList _ _ _ [] _ _)
      refine ⟨?_⟩
      simp only [Act.put, List.setIfInBounds_toArray, List.set_cons_zero, List.set_cons_succ]
      have e : b = false := by rw [← hb_.out]; unfold fewb; simp [g15]
      subst e
      go_wp2_with fail
      exact bodyPost_ret (v := .bool false) (by simp [results, Try.results43, go_sem]) rfl (ret_k rfl (zup HZ.out B2))
    · skip
      refine Run.start 17 ?_
      refine .fa .o (fM0 0) ?_
      refine .ld (.i 0) (ldInt b3 0) ?_
      refine .mv .o ?_
      refine .two (.i 1) (.i 2) (opLe (decide_eq_true g10)) ?_
      refine .mv (.i 3) ?_
      refine .fa .o (fM1 1) ?_
      refine .ld (.i 5) (ldInt b3 1) ?_
      refine .mv .o ?_
      refine .two (.i 6) (.i 7) (opLe (decide_eq_true g15)) ?_
      refine .pk (.i 4) (.i 8) true ?_
      refine .mv (.i 9) ?_
      refine .fa .o (fM2 2) ?_
      refine .ld (.i 11) (ldSl b3 2) ?_
      refine .mv .o ?_
      refine .c3 (.i 12) .o (.i 13) (x := .k (.bool t)) (by rintro u v x w2 hB rfl rfl rfl; exact (rfew10_v (hx.below (zup HZ.out hB)) (by omega) hW' ht_.out).mono fun e w' h => ⟨_, h.1, rfl, h.2⟩) ?_
      refine .pk (.i 10) (.i 14) true ?_
      refine .mv (.i 15) ?_
      refine .donep [some 7, some 8, some 9, some 10, some 11, some 12, some 13, some 14, some 15, some 16, some 17, some 18, some 19, some 20, some 21, some 22, some 6] ?_
      intro w2 B2
      change Shut (wpList _ _ _ [] _ _)
      refine ⟨?_⟩
      simp only [Act.put, List.setIfInBounds_toArray, List.set_cons_zero, List.set_cons_succ]
      have e : b = t := by rw [← hb_.out, ← ht_.out]; unfold fewb; simp [g10, g15]
      subst e
      go_wp2_with fail
      exact bodyPost_ret (v := .bool b) (by simp [results, Try.results43, go_sem]) rfl (ret_k rfl (zup HZ.out B2))
end Go.Proofs.Ytcdkdanfiimlkaa
end

section
/-! Contracts of the reference: normal matrices; what is as it should be. -/
namespace Go.Proofs.Ytcdkdanfiimlkaa
open Go.RowKit
set_option linter.unusedVariables false
set_option linter.unusedSimpArgs false

section
variable {w : World}
end
end Go.Proofs.Ytcdkdanfiimlkaa
end

section
/-! Contracts of the reference: products, identities, number by number. -/
namespace Go.Proofs.Ytcdkdanfiimlkaa
open Go.RowKit
set_option linter.unusedVariables false
set_option linter.unusedSimpArgs false

theorem OwnZ.fresh {w0 w : World} {k g : Nat} {v : Value} {zs : List Int} (h : OwnZ w0 w k v zs) (hg : w.heap.size ≤ g) : v.ownBlock ≠ some g := fun e => by
  obtain ⟨⟨vs, ⟨h1, _⟩, _⟩, _⟩ := h
  have := (h1.lt g e).2
  omega
theorem OwnZ.zp {w0 w : World} {k g m d n c : Nat} {v : Value} {zs : List Int} {s t : Bool} {A B : Option Addr} (h : OwnZ w0 w k v zs) (b : Bx w g 28 [.bool t, .slice B m d]) (hg : w0.heap.size ≤ g) (hne : v.ownBlock ≠ some g) : OwnZ w0 (Go.Proofs.Ytcdkdanfiimlkaa.zput w g s A n c) k v zs := by
  obtain ⟨⟨vs, ⟨h1, h2⟩, h3⟩, h4⟩ := h
  have hgr : w.grownBy (Go.Proofs.Ytcdkdanfiimlkaa.zput w g s A n c) (some g) := gro_set (q := ⟨g, 1, none⟩) (gro_set (q := ⟨g, 0, none⟩) (gro_refl w (some g)) rfl _) rfl _
  refine ⟨⟨vs, ⟨h1.kept hgr (.inr hne), fun g' cs hg' hc => h2 g' cs hg' ?_⟩, fun j hj => ?_⟩, below_put h4 hg⟩
  · rw [← hgr.block g' (h1.lt g' hg').2 (by rw [← hg']; exact hne)]; exact hc
  · obtain ⟨s', A', n', c', c1, c2, c3, c4⟩ := h3 j hj
    exact ⟨s', A', n', c', c1, c2, Zc.zp c3 b, c4⟩
theorem OwnZ.mono {w0 w : World} {k k' : Nat} {v : Value} {zs : List Int} (h : OwnZ w0 w k v zs) (hk : k ≤ k') : OwnZ w0 w k' v zs := by
  obtain ⟨⟨vs, h1, h3⟩, h4⟩ := h
  exact ⟨⟨vs, h1, fun j hj => by obtain ⟨s', A', n', c', c1, c2, c3, c4⟩ := h3 j hj; exact ⟨s', A', n', c', c1, c2, c3, by omega⟩⟩, h4⟩
end Go.Proofs.Ytcdkdanfiimlkaa
end

section
/-! Ways that meet; the law's awake. -/
namespace Go.Proofs.Ytcdkdanfiimlkaa
open Go.RowKit
set_option linter.unusedVariables false
set_option linter.unusedSimpArgs false

section
variable {ops : Array Oper} {Q : Exit → Act → World → Prop} {m : Nat} {a0 a : Act} {w0 w : World} {b : Bool} {id : Nat}
end
section
variable {w : World} {g h : Nat} {T : TypeId} {cs : List Value} {s t : Bool} {A B : Option Addr} {n c m d e : Nat} {r c' x y z : Int}
theorem Bx.mo {c : Int} {n d : Nat} (b : Bx w h T cs) (hn : h ≠ g) : Bx (mput w g r c A n d) h T cs := ((b.off hn _ _).off hn _ _).off hn _ _
theorem Bx.mp {c : Int} {n d : Nat} (b : Bx w g 24 [.int .i64 x, .int .i64 y, .slice B m e]) : Bx (mput w g r c A n d) g 24 [.int .i64 r, .int .i64 c, .slice A n d] := ((b.set 0 _).set 1 _).set 2 _
theorem zeroM (h : w.heap[g]? = some (zeroObj 24)) : Bx w g 24 [.int .i64 0, .int .i64 0, .slice none 0 0] := h.trans (congrArg some (by kernel_rfl))
theorem Zv.mp {c : Int} {n d n' c₁ : Nat} {A' : Option Addr} {z : Int} (h : Zv w s A' n' c₁ z) (b : Bx w g 24 [.int .i64 x, .int .i64 y, .slice B m e]) : Zv (mput w g r c A n d) s A' n' c₁ z := h.gro (b.now (by simp)) (mput_gro _ _ _ _ _ _ _)
end
/-- A list of numbers of 64 bits, in new memory. -/
def IsIJ (xs : List Int) : FVal := fun v w => ∃ g, v = .slice (some ⟨g, 0, none⟩) xs.length xs.length ∧ Il w (some ⟨g, 0, none⟩) xs.length xs.length xs
def kIJ (xs : List Int) : FK := .f (IsIJ xs) (fun v w w' ⟨g, e, h⟩ hb => ⟨g, e, h.below hb⟩)
def okBsJ (ops : Array Oper) (m i : Nat) (ss : List Src) : Bool := okH ops m i && (match (opAt ops i).op with | .buildSlice T n xs => T == 51 && n == ss.length && xs.toList.map (·.1) == List.range ss.length && okSrcs ops m i (xs.toList.map (·.2)) ss | _ => false)
theorem run_bsJ4 {w : World} {x y z u : Int} : (Instr.buildSlice 51 4 #[(0, .int .i64 x), (1, .int .i64 y), (2, .int .i64 z), (3, .int .i64 u)]).run Try.prog w = .ok (.slice (some ⟨w.heap.size, 0, none⟩) 4 4) (w.alloc (.cells #[.int .i64 x, .int .i64 y, .int .i64 z, .int .i64 u] 2)) := by kernel_rfl
theorem Run.bsJ4 {ops : Array Oper} {Q : Exit → Act → World → Prop} {m i : Nat} {a0 : Act} {w0 : World} {l : List FK} {b : Bool} {id : Nat} (s t p q : Src) {x y z u : Int} (hb : ∀ v, v ∈ [x, y, z, u] → -9223372036854775808 ≤ v ∧ v ≤ 9223372036854775807) (rest : R ops Q m a0 w0 b id (kIJ [x, y, z, u] :: l) (i + 1)) (hx : srcsK l i a0 (bsL (opAt ops i).op) [s, t, p, q] [.int .i64 x, .int .i64 y, .int .i64 z, .int .i64 u] := by exact ⟨rfl, rfl, rfl, rfl, trivial⟩) (hc : okBsJ ops m i [s, t, p, q] = true := by kernel_rfl) (hg : Gd l i (opAt ops i) := by first | exact trivial | exact rfl) : R ops Q m a0 w0 b id l i := by
  unfold okBsJ at hc
  rw [Bool.and_eq_true] at hc
  obtain ⟨h1, h2⟩ := hc
  refine Run.mem (x := kIJ [x, y, z, u]) (fun a w h => ?_) rest (FK.fne _) h1 hg
  split at h2
  · rename_i T n xs e
    rw [e] at hx
    simp only [Bool.and_eq_true, beq_iff_eq] at h2
    obtain ⟨⟨⟨rfl, rfl⟩, h3⟩, h4⟩ := h2
    have hv := h.srcs h4 hx
    have hp : (xs.map fun (i, y) => (i, a.eval y)) = #[(0, .int .i64 x), (1, .int .i64 y), (2, .int .i64 z), (3, .int .i64 u)] := by
      obtain ⟨ys⟩ := xs
      match ys, h3, hv with
      | [(k0, x0), (k1, x1), (k2, x2), (k3, x3)], h3, hv =>
        have h3' : [k0, k1, k2, k3] = [0, 1, 2, 3] := h3
        have hv' : [a.eval x0, a.eval x1, a.eval x2, a.eval x3] = [.int .i64 x, .int .i64 y, .int .i64 z, .int .i64 u] := hv
        simp only [List.cons.injEq, and_true] at h3' hv'
        simp [h3'.1, h3'.2.1, h3'.2.2.1, h3'.2.2.2, hv'.1, hv'.2.1, hv'.2.2.1, hv'.2.2.2]
    have B := zba w (.cells #[.int .i64 x, .int .i64 y, .int .i64 z, .int .i64 u] 2)
    have b4 := Bx.new w 2 [.int .i64 x, .int .i64 y, .int .i64 z, .int .i64 u]
    refine ⟨_, _, ?_, ⟨w.heap.size, rfl, rfl, Nat.le_refl _, by show 4 ≤ 9223372036854775807; decide, fun _ => ⟨_, rfl, b4.lt, fun j hj => ?_⟩, fun j hj => ?_⟩, B⟩
    · unfold execOp
      rw [e]
      simp only [hp]
      simp [run_bsJ4]
    · rw [add_lit0]
      refine (b4.cell j).trans ?_
      match j, hj with
      | 0, _ => rfl
      | 1, _ => rfl
      | 2, _ => rfl
      | 3, _ => rfl
    · match j, hj with
      | 0, _ => exact hb x (by simp)
      | 1, _ => exact hb y (by simp)
      | 2, _ => exact hb z (by simp)
      | 3, _ => exact hb u (by simp)
  · cases h2
end Go.Proofs.Ytcdkdanfiimlkaa
end

section
/-! What the laws of layer 11 share. -/
namespace Go.Proofs.Ytcdkdanfiimlkaa
open Go.RowKit
set_option linter.unusedVariables false
set_option linter.unusedSimpArgs false

/-- The numbers of a list that came in, as a matrix of c columns. -/
def mf (R : List Zr) (c : Nat) : Nat → Nat → Int := fun i j => ith (nums R) (i * c + j)
theorem mk_mf {R : List Zr} {r c n : Nat} (hl : R.length = n) (hn : n = r * c) : mk r c (mf R c) = nums R := mk_of (by unfold nums; rw [List.length_map, hl, hn])
theorem fewb_side {r c : Int} {R : List Zr} {N W : Nat} (h : fewb r c R N W = true) : r ≤ N ∧ c ≤ N ∧ Fw R 100 W := by
  unfold fewb at h
  simp only [Bool.and_eq_true, decide_eq_true_eq] at h
  exact ⟨h.1.1, h.1.2, of_fwb h.2⟩
theorem RL.few {w : World} {A : Option Addr} {n d : Nat} {R : List Zr} {r c : Int} {N W : Nat} (h : RL w A n d R) (hw : fewb r c R N W = true) : ZL false w A n d W (nums R) :=
  h.zl fun j hj => fw_all (fewb_side hw).2.2 (by omega) j (by rw [h.len]; exact hj)
/-- A list that came in with sides that go with it is a matrix. -/
theorem RL.mt {w : World} {A : Option Addr} {n d : Nat} {R : List Zr} {r c : Int} {N W : Nat} (h : RL w A n d R) (hf : fmd r c n = true) (hw : fewb r c R N W = true) : ∃ r' c' : Nat, r = r' ∧ c = c' ∧ r' ≤ N ∧ c' ≤ N ∧ n = r' * c' ∧ Mt false w r' c' A n d W (mf R c') := by
  unfold fmd at hf
  simp only [Bool.and_eq_true, decide_eq_true_eq] at hf
  obtain ⟨⟨h1, h2⟩, h3⟩ := hf
  obtain ⟨a1, a2⟩ := sd_of h1
  obtain ⟨b1, b2⟩ := sd_of h2
  obtain ⟨e1, e2, _⟩ := fewb_side hw
  obtain ⟨r', rfl⟩ := Int.eq_ofNat_of_zero_le a1
  obtain ⟨c', rfl⟩ := Int.eq_ofNat_of_zero_le b1
  have hn : n = r' * c' := by
    have : (n : Int) = ((r' * c' : Nat) : Int) := by rw [h3]; simp
    omega
  refine ⟨r', c', rfl, rfl, by omega, by omega, hn, ?_, by omega, by omega⟩
  rw [mk_mf h.len hn]
  exact h.few hw
theorem Dj.nil (v : Value) : Dj (.slice none 0 0) v := .inl rfl
end Go.Proofs.Ytcdkdanfiimlkaa
end
