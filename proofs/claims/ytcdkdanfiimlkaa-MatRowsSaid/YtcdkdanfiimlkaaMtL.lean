/-
  The reference of layer 11: Formed, None, At, Normal, Is, Few; the law's few.
-/
import Derived.Test.YtcdkdanfiimlkaaMtK
import Derived.Test.YtcdkdanfiimlkaaRls
/-! Contracts of the reference. -/
namespace Go.Proofs.Ytcdkdanfiimlkaa
open Go.RowKit
set_option linter.unusedVariables false
set_option linter.unusedSimpArgs false

set_option maxRecDepth 100000 in
/-- Formed. -/
theorem rformed_q {r c : Int} {A : Option Addr} {n d : Nat} {b : Bool} (hb : fmd r c n = b) (w : World) : Calls Try.prog 18 #[.agg #[.int .i64 r, .int .i64 c, .slice A n d]] w (RetK (.k (.bool b)) w) := by
  obtain ⟨w1, hw1, b1, z1, s1⟩ := boxes1 w 24 [.int .i64 r, .int .i64 c, .slice A n d]
  have HW := Lib.hid hw1
  have HZ := Lib.hid z1
  have hb_ := Lib.hid hb
  clear hw1 z1 hb s1
  go_enter Try.func18, Try.ntmps18
  go_upto_region 1 with fail
  rw [HW.out]
  by_cases g5 : 0 ≤ r
  rotate_left
  · refine Run.start 30 ?_
    refine .fa .o (fM0 0) ?_
    refine .ld (.i 0) (ldInt b1 0) ?_
    refine .two (.i 1) .o (opGe (decide_eq_false g5)) ?_
    refine .mv (.i 2) ?_
    refine .no ?_
    refine .no ?_
    refine .no ?_
    refine .pk (.i 3) .o false ?_
    refine .mv (.i 7) ?_
    refine .no ?_
    refine .no ?_
    refine .no ?_
    refine .pk (.i 8) .o false ?_
    refine .mv (.i 12) ?_
    refine .no ?_
    refine .no ?_
    refine .no ?_
    refine .pk (.i 13) .o false ?_
    refine .mv (.i 17) ?_
    refine .no ?_
    refine .no ?_
    refine .no ?_
    refine .no ?_
    refine .no ?_
    refine .no ?_
    refine .no ?_
    refine .no ?_
    refine .no ?_
    refine .pk (.i 18) .o false ?_
    refine .mv (.i 28) ?_
    refine .donep [some 3, some 4, some 5, some 6, some 7, some 8, some 9, some 10, some 11, some 12, some 13, some 14, some 15, some 16, some 17, some 18, some 19, some 20, some 21, some 22, some 23, some 24, some 25, some 26, some 27, some 28, some 29, some 30, some 31, some 2] ?_
    intro w2 B2
    change Shut (wpList _ _ _ [] _ _)
    refine ⟨?_⟩
    simp only [Act.put, List.setIfInBounds_toArray, List.set_cons_zero, List.set_cons_succ]
    have e : b = false := by rw [← hb_.out]; unfold fmd sd; simp; omega
    subst e
    go_wp2_with fail
    exact bodyPost_ret (v := .bool false) (by simp [results, Try.results18, go_sem]) rfl (ret_k rfl (zup HZ.out B2))
  · skip
    by_cases g9 : r ≤ 64
    rotate_left
    · refine Run.start 30 ?_
      refine .fa .o (fM0 0) ?_
      refine .ld (.i 0) (ldInt b1 0) ?_
      refine .two (.i 1) .o (opGe (decide_eq_true g5)) ?_
      refine .mv (.i 2) ?_
      refine .fa .o (fM0 0) ?_
      refine .ld (.i 4) (ldInt b1 0) ?_
      refine .two (.i 5) .o (opLe (decide_eq_false g9)) ?_
      refine .pk (.i 3) (.i 6) true ?_
      refine .mv (.i 7) ?_
      refine .no ?_
      refine .no ?_
      refine .no ?_
      refine .pk (.i 8) .o false ?_
      refine .mv (.i 12) ?_
      refine .no ?_
      refine .no ?_
      refine .no ?_
      refine .pk (.i 13) .o false ?_
      refine .mv (.i 17) ?_
      refine .no ?_
      refine .no ?_
      refine .no ?_
      refine .no ?_
      refine .no ?_
      refine .no ?_
      refine .no ?_
      refine .no ?_
      refine .no ?_
      refine .pk (.i 18) .o false ?_
      refine .mv (.i 28) ?_
      refine .donep [some 3, some 4, some 5, some 6, some 7, some 8, some 9, some 10, some 11, some 12, some 13, some 14, some 15, some 16, some 17, some 18, some 19, some 20, some 21, some 22, some 23, some 24, some 25, some 26, some 27, some 28, some 29, some 30, some 31, some 2] ?_
      intro w2 B2
      change Shut (wpList _ _ _ [] _ _)
      refine ⟨?_⟩
      simp only [Act.put, List.setIfInBounds_toArray, List.set_cons_zero, List.set_cons_succ]
      have e : b = false := by rw [← hb_.out]; unfold fmd sd; simp; omega
      subst e
      go_wp2_with fail
      exact bodyPost_ret (v := .bool false) (by simp [results, Try.results18, go_sem]) rfl (ret_k rfl (zup HZ.out B2))
    · skip
      by_cases g14 : 0 ≤ c
      rotate_left
      · refine Run.start 30 ?_
        refine .fa .o (fM0 0) ?_
        refine .ld (.i 0) (ldInt b1 0) ?_
        refine .two (.i 1) .o (opGe (decide_eq_true g5)) ?_
        refine .mv (.i 2) ?_
        refine .fa .o (fM0 0) ?_
        refine .ld (.i 4) (ldInt b1 0) ?_
        refine .two (.i 5) .o (opLe (decide_eq_true g9)) ?_
        refine .pk (.i 3) (.i 6) true ?_
        refine .mv (.i 7) ?_
        refine .fa .o (fM1 1) ?_
        refine .ld (.i 9) (ldInt b1 1) ?_
        refine .two (.i 10) .o (opGe (decide_eq_false g14)) ?_
        refine .pk (.i 8) (.i 11) true ?_
        refine .mv (.i 12) ?_
        refine .no ?_
        refine .no ?_
        refine .no ?_
        refine .pk (.i 13) .o false ?_
        refine .mv (.i 17) ?_
        refine .no ?_
        refine .no ?_
        refine .no ?_
        refine .no ?_
        refine .no ?_
        refine .no ?_
        refine .no ?_
        refine .no ?_
        refine .no ?_
        refine .pk (.i 18) .o false ?_
        refine .mv (.i 28) ?_
        refine .donep [some 3, some 4, some 5, some 6, some 7, some 8, some 9, some 10, some 11, some 12, some 13, some 14, some 15, some 16, some 17, some 18, some 19, some 20, some 21, some 22, some 23, some 24, some 25, some 26, some 27, some 28, some 29, some 30, some 31, some 2] ?_
        intro w2 B2
        change Shut (wpList _ _ _ [] _ _)
        refine ⟨?_⟩
        simp only [Act.put, List.setIfInBounds_toArray, List.set_cons_zero, List.set_cons_succ]
        have e : b = false := by rw [← hb_.out]; unfold fmd sd; simp; omega
        subst e
        go_wp2_with fail
        exact bodyPost_ret (v := .bool false) (by simp [results, Try.results18, go_sem]) rfl (ret_k rfl (zup HZ.out B2))
      · skip
        by_cases g19 : c ≤ 64
        rotate_left
        · refine Run.start 30 ?_
          refine .fa .o (fM0 0) ?_
          refine .ld (.i 0) (ldInt b1 0) ?_
          refine .two (.i 1) .o (opGe (decide_eq_true g5)) ?_
          refine .mv (.i 2) ?_
          refine .fa .o (fM0 0) ?_
          refine .ld (.i 4) (ldInt b1 0) ?_
          refine .two (.i 5) .o (opLe (decide_eq_true g9)) ?_
          refine .pk (.i 3) (.i 6) true ?_
          refine .mv (.i 7) ?_
          refine .fa .o (fM1 1) ?_
          refine .ld (.i 9) (ldInt b1 1) ?_
          refine .two (.i 10) .o (opGe (decide_eq_true g14)) ?_
          refine .pk (.i 8) (.i 11) true ?_
          refine .mv (.i 12) ?_
          refine .fa .o (fM1 1) ?_
          refine .ld (.i 14) (ldInt b1 1) ?_
          refine .two (.i 15) .o (opLe (decide_eq_false g19)) ?_
          refine .pk (.i 13) (.i 16) true ?_
          refine .mv (.i 17) ?_
          refine .no ?_
          refine .no ?_
          refine .no ?_
          refine .no ?_
          refine .no ?_
          refine .no ?_
          refine .no ?_
          refine .no ?_
          refine .no ?_
          refine .pk (.i 18) .o false ?_
          refine .mv (.i 28) ?_
          refine .donep [some 3, some 4, some 5, some 6, some 7, some 8, some 9, some 10, some 11, some 12, some 13, some 14, some 15, some 16, some 17, some 18, some 19, some 20, some 21, some 22, some 23, some 24, some 25, some 26, some 27, some 28, some 29, some 30, some 31, some 2] ?_
          intro w2 B2
          change Shut (wpList _ _ _ [] _ _)
          refine ⟨?_⟩
          simp only [Act.put, List.setIfInBounds_toArray, List.set_cons_zero, List.set_cons_succ]
          have e : b = false := by rw [← hb_.out]; unfold fmd sd; simp; omega
          subst e
          go_wp2_with fail
          exact bodyPost_ret (v := .bool false) (by simp [results, Try.results18, go_sem]) rfl (ret_k rfl (zup HZ.out B2))
        · skip
          refine Run.start 30 ?_
          refine .fa .o (fM0 0) ?_
          refine .ld (.i 0) (ldInt b1 0) ?_
          refine .two (.i 1) .o (opGe (decide_eq_true g5)) ?_
          refine .mv (.i 2) ?_
          refine .fa .o (fM0 0) ?_
          refine .ld (.i 4) (ldInt b1 0) ?_
          refine .two (.i 5) .o (opLe (decide_eq_true g9)) ?_
          refine .pk (.i 3) (.i 6) true ?_
          refine .mv (.i 7) ?_
          refine .fa .o (fM1 1) ?_
          refine .ld (.i 9) (ldInt b1 1) ?_
          refine .two (.i 10) .o (opGe (decide_eq_true g14)) ?_
          refine .pk (.i 8) (.i 11) true ?_
          refine .mv (.i 12) ?_
          refine .fa .o (fM1 1) ?_
          refine .ld (.i 14) (ldInt b1 1) ?_
          refine .two (.i 15) .o (opLe (decide_eq_true g19)) ?_
          refine .pk (.i 13) (.i 16) true ?_
          refine .mv (.i 17) ?_
          refine .fa .o (fM2 2) ?_
          refine .ld (.i 19) (ldSl b1 2) ?_
          refine .len (.i 20) Try.underlying22 ?_
          refine .fa .o (fM0 0) ?_
          refine .ld (.i 22) (ldInt b1 0) ?_
          refine .fa .o (fM1 1) ?_
          refine .ld (.i 24) (ldInt b1 1) ?_
          refine .two (.i 23) (.i 25) (opMul rfl (sd_mul (by unfold sd; exact decide_eq_true ⟨g5, g9⟩) (by unfold sd; exact decide_eq_true ⟨g14, g19⟩)).1 (sd_mul (by unfold sd; exact decide_eq_true ⟨g5, g9⟩) (by unfold sd; exact decide_eq_true ⟨g14, g19⟩)).2) ?_
          refine .two (.i 21) (.i 26) (opEq rfl) ?_
          refine .pk (.i 18) (.i 27) true ?_
          refine .mv (.i 28) ?_
          refine .donep [some 3, some 4, some 5, some 6, some 7, some 8, some 9, some 10, some 11, some 12, some 13, some 14, some 15, some 16, some 17, some 18, some 19, some 20, some 21, some 22, some 23, some 24, some 25, some 26, some 27, some 28, some 29, some 30, some 31, some 2] ?_
          intro w2 B2
          change Shut (wpList _ _ _ [] _ _)
          refine ⟨?_⟩
          simp only [Act.put, List.setIfInBounds_toArray, List.set_cons_zero, List.set_cons_succ]
          have e : decide ((n : Int) = r * c) = b := by rw [← hb_.out]; unfold fmd sd; simp [g5, g9, g14, g19]
          rw [e]
          clear e
          go_wp2_with fail
          exact bodyPost_ret (v := .bool b) (by simp [results, Try.results18, go_sem]) rfl (ret_k rfl (zup HZ.out B2))
set_option maxRecDepth 100000 in
/-- None, of no matrix. -/
theorem rnone_q (w : World) : Calls Try.prog 19 #[.agg #[.int .i64 0, .int .i64 0, .slice none 0 0]] w (RetK (.k (.bool true)) w) := by
  obtain ⟨w1, hw1, b1, z1, s1⟩ := boxes1 w 24 [.int .i64 0, .int .i64 0, .slice none 0 0]
  have HW := Lib.hid hw1
  have HZ := Lib.hid z1
  clear hw1 z1 s1
  go_enter Try.func19, Try.ntmps19
  go_upto_region 1 with fail
  rw [HW.out]
  refine Run.start 15 ?_
  refine .fa .o (fM0 0) ?_
  refine .ld (.i 0) (ldInt b1 0) ?_
  refine .two (.i 1) .o (opEq (by decide : decide ((0 : Int) = 0) = true)) ?_
  refine .mv (.i 2) ?_
  refine .fa .o (fM1 1) ?_
  refine .ld (.i 4) (ldInt b1 1) ?_
  refine .two (.i 5) .o (opEq (by decide : decide ((0 : Int) = 0) = true)) ?_
  refine .pk (.i 3) (.i 6) true ?_
  refine .mv (.i 7) ?_
  refine .fa .o (fM2 2) ?_
  refine .ld (.i 9) (ldSl b1 2) ?_
  refine .len (.i 10) Try.underlying22 ?_
  refine .two (.i 11) .o (opEq (by decide : decide (((0 : Nat) : Int) = 0) = true)) ?_
  refine .pk (.i 8) (.i 12) true ?_
  refine .mv (.i 13) ?_
  refine .donep [some 3, some 4, some 5, some 6, some 7, some 8, some 9, some 10, some 11, some 12, some 13, some 14, some 15, some 16, some 2] ?_
  intro w2 B2
  change Shut (wpList _ _ _ [] _ _)
  refine ⟨?_⟩
  simp only [Act.put, List.setIfInBounds_toArray, List.set_cons_zero, List.set_cons_succ]
  go_wp2_with fail
  exact bodyPost_ret (v := .bool true) (by simp [results, Try.results19, go_sem]) rfl (ret_k rfl (zup HZ.out B2))
set_option maxRecDepth 100000 in
/-- At. -/
theorem rat_q {q : Bool} {r c n d k i j : Nat} {A : Option Addr} {F : Nat → Nat → Int} {w : World} (h : Mt q w r c A n d k F) (hi : i < r) (hj : j < c) : Calls Try.prog 28 #[.agg #[.int .i64 (r : Int), .int .i64 (c : Int), .slice A n d], .int .i64 (i : Int), .int .i64 (j : Int)] w (RetK (kV (F i j) k) w) := by
  have h1 := h.hr
  have h2 := h.hc
  have h5 : i * c ≤ 64 * 64 := Nat.mul_le_mul (by omega) h2
  obtain ⟨w1, hw1, b3, b6, z1, s1⟩ := boxes2 w 24 28 [.int .i64 (r : Int), .int .i64 (c : Int), .slice A n d] [.bool false, .slice none 0 0]
  have HW := Lib.hid hw1
  have HZ := Lib.hid z1
  obtain ⟨ad, rfl, hab, hlt, s_, A_, n_, c_, c0, c1, ze, hk⟩ := (h.below z1).elem hi hj
  have hz := ze.1
  clear ze h
  clear hw1 z1 s1
  go_enter Try.func28, Try.ntmps28
  go_upto_region 1 with fail
  rw [HW.out]
  refine Run.start 10 ?_
  refine .fa .o (fM2 2) ?_
  refine .ld (.i 0) (ldSl b3 2) ?_
  refine .mv .o ?_
  refine .fa .o (fM1 1) ?_
  refine .ld (.i 3) (ldInt b3 1) ?_
  refine .two (.i 2) (.i 4) (opMulN i c (by omega)) ?_
  refine .mv .o ?_
  refine .two (.i 5) (.i 6) (opAddN (i * c) j (by omega)) ?_
  refine .two (.i 1) (.i 7) (opIx hlt) ?_
  refine .ld (.i 8) (ldE (by rw [add_block]; exact hab) c0 c1) ?_
  refine .donep [some 7, some 8, some 9, some 10, some 11, some 12, some 13, some 14, some 15, some 16] ?_
  intro w2 B2
  change Shut (wpList _ _ _ [_] _ _)
  refine ⟨?_⟩
  simp only [Act.put, List.setIfInBounds_toArray, List.set_cons_zero, List.set_cons_succ]
  replace hz := hz.below B2
  clear c0 c1
  have I := Ib.entry (b6.below B2)
  have P := Lib.hid (retV hz I (k := k) (by omega) (by omega) (zup HZ.out B2))
  obtain ⟨i1, i2, i3, i4, i5⟩ := I
  clear hz
  go_wp2_with fail
  exact bodyPost_ret (v := .agg #[.bool s_, .slice A_ n_ c_]) (by simp [results, Try.results28, go_sem, i1, i2]) rfl P.out
/-- A matrix of a size that is looked at. -/
def fewb (r c : Int) (R : List Zr) (N W : Nat) : Bool := decide (r ≤ N) && decide (c ≤ N) && fwb R 100 W
set_option maxRecDepth 100000 in
/-- Few. -/
theorem rfew_q {r c : Int} {A : Option Addr} {n d N W : Nat} {R : List Zr} {b : Bool} {w : World} (hx : RL w A n d R) (hb : fewb r c R N W = b) (hW' : W ≤ 1000) : Calls Try.prog 43 #[.agg #[.int .i64 r, .int .i64 c, .slice A n d], .int .i64 (N : Int), .int .i64 (W : Int)] w (RetK (.k (.bool b)) w) := by
  obtain ⟨t, ht⟩ : ∃ t, fwb R 100 W = t := ⟨_, rfl⟩
  obtain ⟨w1, hw1, b3, z1, s1⟩ := boxes1 w 24 [.int .i64 r, .int .i64 c, .slice A n d]
  have HW := Lib.hid hw1
  have HZ := Lib.hid z1
  have hb_ := Lib.hid hb
  have ht_ := Lib.hid ht
  clear hw1 z1 hb ht s1
  go_enter Try.func43, Try.ntmps43
  go_upto_region 1 with fail
  rw [HW.out]
  by_cases g10 : r ≤ (N : Int)
  rotate_left
  · refine Run.start 17 ?_
    refine .fa .o (fM0 0) ?_
    refine .ld (.i 0) (ldInt b3 0) ?_
    refine .mv .o ?_
    refine .two (.i 1) (.i 2) (opLe (decide_eq_false g10)) ?_
    refine .mv (.i 3) ?_
    refine .no ?_
    refine .no ?_
    refine .no ?_
    refine .no ?_
    refine .pk (.i 4) .o false ?_
    refine .mv (.i 9) ?_
    refine .no ?_
    refine .no ?_
    refine .no ?_
    refine .no ?_
    refine .pk (.i 10) .o false ?_
    refine .mv (.i 15) ?_
    refine .donep [some 7, some 8, some 9, some 10, some 11, some 12, some 13, some 14, some 15, some 16, some 17, some 18, some 19, some 20, some 21, some 22, some 6] ?_
    intro w2 B2
    change Shut (wpList _ _ _ [] _ _)
    refine ⟨?_⟩
    simp only [Act.put, List.setIfInBounds_toArray, List.set_cons_zero, List.set_cons_succ]
    have e : b = false := by rw [← hb_.out]; unfold fewb; simp [g10]
    subst e
    go_wp2_with fail
    exact bodyPost_ret (v := .bool false) (by simp [results, Try.results43, go_sem]) rfl (ret_k rfl (zup HZ.out B2))
  · skip
    by_cases g15 : c ≤ (N : Int)
    rotate_left
    · refine Run.start 17 ?_
      refine .fa .o (fM0 0) ?_
      refine .ld (.i 0) (ldInt b3 0) ?_
      refine .mv .o ?_
      refine .two (.i 1) (.i 2) (opLe (decide_eq_true g10)) ?_
      refine .mv (.i 3) ?_
      refine .fa .o (fM1 1) ?_
      refine .ld (.i 5) (ldInt b3 1) ?_
      refine .mv .o ?_
      refine .two (.i 6) (.i 7) (opLe (decide_eq_false g15)) ?_
      refine .pk (.i 4) (.i 8) true ?_
      refine .mv (.i 9) ?_
      refine .no ?_
      refine .no ?_
      refine .no ?_
      refine .no ?_
      refine .pk (.i 10) .o false ?_
      refine .mv (.i 15) ?_
      refine .donep [some 7, some 8, some 9, some 10, some 11, some 12, some 13, some 14, some 15, some 16, some 17, some 18, some 19, some 20, some 21, some 22, some 6] ?_
      intro w2 B2
      change Shut (wpList _ _ _ [] _ _)
      refine ⟨?_⟩
      simp only [Act.put, List.setIfInBounds_toArray, List.set_cons_zero, List.set_cons_succ]
      have e : b = false := by rw [← hb_.out]; unfold fewb; simp [g15]
      subst e
      go_wp2_with fail
      exact bodyPost_ret (v := .bool false) (by simp [results, Try.results43, go_sem]) rfl (ret_k rfl (zup HZ.out B2))
    · skip
      refine Run.start 17 ?_
      refine .fa .o (fM0 0) ?_
      refine .ld (.i 0) (ldInt b3 0) ?_
      refine .mv .o ?_
      refine .two (.i 1) (.i 2) (opLe (decide_eq_true g10)) ?_
      refine .mv (.i 3) ?_
      refine .fa .o (fM1 1) ?_
      refine .ld (.i 5) (ldInt b3 1) ?_
      refine .mv .o ?_
      refine .two (.i 6) (.i 7) (opLe (decide_eq_true g15)) ?_
      refine .pk (.i 4) (.i 8) true ?_
      refine .mv (.i 9) ?_
      refine .fa .o (fM2 2) ?_
      refine .ld (.i 11) (ldSl b3 2) ?_
      refine .mv .o ?_
      refine .c3 (.i 12) .o (.i 13) (x := .k (.bool t)) (by rintro u v x w2 hB rfl rfl rfl; exact (rfew10_v (hx.below (zup HZ.out hB)) (by omega) hW' ht_.out).mono fun e w' h => ⟨_, h.1, rfl, h.2⟩) ?_
      refine .pk (.i 10) (.i 14) true ?_
      refine .mv (.i 15) ?_
      refine .donep [some 7, some 8, some 9, some 10, some 11, some 12, some 13, some 14, some 15, some 16, some 17, some 18, some 19, some 20, some 21, some 22, some 6] ?_
      intro w2 B2
      change Shut (wpList _ _ _ [] _ _)
      refine ⟨?_⟩
      simp only [Act.put, List.setIfInBounds_toArray, List.set_cons_zero, List.set_cons_succ]
      have e : b = t := by rw [← hb_.out, ← ht_.out]; unfold fewb; simp [g10, g15]
      subst e
      go_wp2_with fail
      exact bodyPost_ret (v := .bool b) (by simp [results, Try.results43, go_sem]) rfl (ret_k rfl (zup HZ.out B2))
set_option maxRecDepth 100000 in
/-- The law's few. -/
theorem lfew_q {r c r' c' : Int} {A A' : Option Addr} {n d n' d' : Nat} {R R' : List Zr} {b : Bool} {w : World} (hx : RL w A n d R) (hy : RL w A' n' d' R') (hb : (fewb r c R 6 3 && fewb r' c' R' 6 3) = b) : Calls Try.prog 14 #[.agg #[.int .i64 r, .int .i64 c, .slice A n d], .agg #[.int .i64 r', .int .i64 c', .slice A' n' d']] w (RetK (.k (.bool b)) w) := by
  obtain ⟨t, ht⟩ : ∃ t, fewb r c R 6 3 = t := ⟨_, rfl⟩
  obtain ⟨s, hs⟩ : ∃ t, fewb r' c' R' 6 3 = t := ⟨_, rfl⟩
  rw [ht, hs] at hb
  obtain ⟨w1, hw1, b2, b3, z1, s1⟩ := boxes2 w 24 24 [.int .i64 r, .int .i64 c, .slice A n d] [.int .i64 r', .int .i64 c', .slice A' n' d']
  have HW := Lib.hid hw1
  have HZ := Lib.hid z1
  have hb_ := Lib.hid hb
  have ht_ := Lib.hid ht
  have hs_ := Lib.hid hs
  clear hw1 z1 hb ht hs s1
  go_enter Try.func14, Try.ntmps14
  go_upto_region 1 with fail
  rw [HW.out]
  cases t
  · refine Run.start 7 ?_
    refine .ld .o (ldM b2 0) ?_
    refine .c3 (.i 0) .o .o (x := .k (.bool false)) (by rintro u v x w2 hB rfl rfl rfl; exact rfew_q (N := 6) (W := 3) (hx.below (zup HZ.out hB)) ht_.out (by omega)) ?_
    refine .mv (.i 1) ?_
    refine .no ?_
    refine .no ?_
    refine .pk (.i 2) .o false ?_
    refine .mv (.i 5) ?_
    refine .donep [some 5, some 6, some 7, some 8, some 9, some 10, some 4] ?_
    intro w2 B2
    change Shut (wpList _ _ _ [] _ _)
    refine ⟨?_⟩
    simp only [Act.put, List.setIfInBounds_toArray, List.set_cons_zero, List.set_cons_succ]
    cases hb_.out
    go_wp2_with fail
    exact bodyPost_ret (v := .bool false) (by simp [results, Try.results14, go_sem]) rfl (ret_k rfl (zup HZ.out B2))
  · refine Run.start 7 ?_
    refine .ld .o (ldM b2 0) ?_
    refine .c3 (.i 0) .o .o (x := .k (.bool true)) (by rintro u v x w2 hB rfl rfl rfl; exact rfew_q (N := 6) (W := 3) (hx.below (zup HZ.out hB)) ht_.out (by omega)) ?_
    refine .mv (.i 1) ?_
    refine .ld .o (ldM b3 0) ?_
    refine .c3 (.i 3) .o .o (x := .k (.bool s)) (by rintro u v x w2 hB rfl rfl rfl; exact rfew_q (N := 6) (W := 3) (hy.below (zup HZ.out hB)) hs_.out (by omega)) ?_
    refine .pk (.i 2) (.i 4) true ?_
    refine .mv (.i 5) ?_
    refine .donep [some 5, some 6, some 7, some 8, some 9, some 10, some 4] ?_
    intro w2 B2
    change Shut (wpList _ _ _ [] _ _)
    refine ⟨?_⟩
    simp only [Act.put, List.setIfInBounds_toArray, List.set_cons_zero, List.set_cons_succ]
    cases hb_.out
    go_wp2_with fail
    exact bodyPost_ret (v := .bool s) (by simp [results, Try.results14, go_sem]) rfl (ret_k rfl (zup HZ.out B2))
end Go.Proofs.Ytcdkdanfiimlkaa
