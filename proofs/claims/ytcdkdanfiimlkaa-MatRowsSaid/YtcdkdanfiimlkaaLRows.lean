/-
  The law MatRows.
-/
import Derived.Test.YtcdkdanfiimlkaaMtT
/-! The law's walk: a step on rows is a product. -/
namespace Go.Proofs.Ytcdkdanfiimlkaa
open Go.RowKit
set_option linter.unusedVariables false
set_option linter.unusedSimpArgs false

set_option maxRecDepth 100000 in
/-- MatRows, of what isn't looked at. -/
theorem rows11_off {r₀ c₀ : Int} {u x y : Int} {A D : Option Addr} {n d m e : Nat} {s : Bool} {z : Int} {Ra : List Zr} {w : World} (ha : RL w A n d Ra) (hz : Zv w s D m e z) (h0 : 0 ≤ u) (h : ¬ ((fewb r₀ c₀ Ra 6 3 && fewb r₀ c₀ Ra 6 3) = true ∧ m ≤ 3)) : Calls Try.prog 5 #[.agg #[.int .i64 r₀, .int .i64 c₀, .slice A n d], .agg #[.int .u8 u, .int .i64 x, .int .i64 y, .bool s, .slice D m e]] w (RetK (.k (.bool true)) w) := by
  obtain ⟨t, ht⟩ : ∃ t, (fewb r₀ c₀ Ra 6 3 && fewb r₀ c₀ Ra 6 3) = t := ⟨_, rfl⟩
  rw [ht] at h
  obtain ⟨w1, hw1, b2, b3, z1, s1⟩ := boxes2 w 24 44 [.int .i64 r₀, .int .i64 c₀, .slice A n d] [.int .u8 u, .int .i64 x, .int .i64 y, .bool s, .slice D m e]
  have HW := Lib.hid hw1
  have HZ := Lib.hid z1
  have ht_ := Lib.hid ht
  clear hw1 z1 ht s1
  go_enter Try.func5, Try.ntmps5
  go_upto_region 1 with fail
  rw [HW.out]
  cases t
  · refine Run.start 15 ?_
    refine .c0 (x := .k (.bool true)) (fun w2 hB => awake11_q w2) ?_
    refine .nt (.i 0) ?_
    refine .mv (.i 1) ?_
    refine .ld .o (ldM b2 0) ?_
    refine .ld .o (ldM b2 0) ?_
    refine .c2 (.i 3) (.i 4) (x := .k (.bool false)) (by rintro u v w2 hB rfl rfl; exact lfew_q (ha.below (zup HZ.out hB)) (ha.below (zup HZ.out hB)) ht_.out) ?_
    refine .nf (.i 5) ?_
    refine .pk (.i 2) (.i 6) false ?_
    refine .mv (.i 7) ?_
    refine .no ?_
    refine .no ?_
    refine .no ?_
    refine .no ?_
    refine .no ?_
    refine .pk (.i 8) .o true ?_
    refine .donep [some 12, some 13, some 14, some 15, some 16, some 17, some 18, some 19, some 20, some 21, some 22, some 23, some 24, some 25, some 26] ?_
    intro w2 B2
    change Shut (wpList _ _ _ [] _ _)
    refine ⟨?_⟩
    simp only [Act.put, List.setIfInBounds_toArray, List.set_cons_zero, List.set_cons_succ]
    have B0 := zup HZ.out B2
    clear b2 b3 B2
    go_upto_region 2 with fail
    refine Run.start 2 ?_
    refine .c0 (x := .k (.bool true)) (fun w2 hB => awake11_q w2) ?_
    refine .mv (.i 0) ?_
    refine .donep [some 27, some 4] ?_
    intro w3 B3
    change Shut (wpList _ _ _ [] _ _)
    refine ⟨?_⟩
    simp only [Act.put, List.setIfInBounds_toArray, List.set_cons_zero, List.set_cons_succ]
    go_wp2_with fail
    exact bodyPost_ret (v := .bool true) (by simp [results, Try.results5, go_sem]) rfl (ret_k rfl (zup B0 B3))
  · have g30 : 3 < m := by simp at h; omega
    refine Run.start 15 ?_
    refine .c0 (x := .k (.bool true)) (fun w2 hB => awake11_q w2) ?_
    refine .nt (.i 0) ?_
    refine .mv (.i 1) ?_
    refine .ld .o (ldM b2 0) ?_
    refine .ld .o (ldM b2 0) ?_
    refine .c2 (.i 3) (.i 4) (x := .k (.bool true)) (by rintro u v w2 hB rfl rfl; exact lfew_q (ha.below (zup HZ.out hB)) (ha.below (zup HZ.out hB)) ht_.out) ?_
    refine .nt (.i 5) ?_
    refine .pk (.i 2) (.i 6) false ?_
    refine .mv (.i 7) ?_
    refine .fa .o (fS3 3) ?_
    refine .fa (.i 9) (fZ1 4) ?_
    refine .ld (.i 10) (ldNat b3 4) ?_
    refine .len (.i 11) Try.underlying26 ?_
    refine .two (.i 12) .o (opGt (decide_eq_true (by omega : (3 : Int) < (m : Int)))) ?_
    refine .pk (.i 8) (.i 13) false ?_
    refine .donep [some 12, some 13, some 14, some 15, some 16, some 17, some 18, some 19, some 20, some 21, some 22, some 23, some 24, some 25, some 26] ?_
    intro w2 B2
    change Shut (wpList _ _ _ [] _ _)
    refine ⟨?_⟩
    simp only [Act.put, List.setIfInBounds_toArray, List.set_cons_zero, List.set_cons_succ]
    have B0 := zup HZ.out B2
    clear b2 b3 B2
    go_upto_region 2 with fail
    refine Run.start 2 ?_
    refine .c0 (x := .k (.bool true)) (fun w2 hB => awake11_q w2) ?_
    refine .mv (.i 0) ?_
    refine .donep [some 27, some 4] ?_
    intro w3 B3
    change Shut (wpList _ _ _ [] _ _)
    refine ⟨?_⟩
    simp only [Act.put, List.setIfInBounds_toArray, List.set_cons_zero, List.set_cons_succ]
    go_wp2_with fail
    exact bodyPost_ret (v := .bool true) (by simp [results, Try.results5, go_sem]) rfl (ret_k rfl (zup B0 B3))
set_option maxRecDepth 100000 in
set_option maxHeartbeats 1000000 in
/-- MatRows, of a matrix that isn't formed. -/
theorem rows11_no {r₀ c₀ : Int} {u x y : Int} {A D : Option Addr} {n d m e : Nat} {s : Bool} {z : Int} {Ra : List Zr} {w : World} (ha : RL w A n d Ra) (hz : Zv w s D m e z) (h0 : 0 ≤ u) (ht : (fewb r₀ c₀ Ra 6 3 && fewb r₀ c₀ Ra 6 3) = true) (hm : m ≤ 3) (hf : fmd r₀ c₀ n = false) : Calls Try.prog 5 #[.agg #[.int .i64 r₀, .int .i64 c₀, .slice A n d], .agg #[.int .u8 u, .int .i64 x, .int .i64 y, .bool s, .slice D m e]] w (RetK (.k (.bool true)) w) := by
  obtain ⟨w1, hw1, b2, b3, z1, s1⟩ := boxes2 w 24 44 [.int .i64 r₀, .int .i64 c₀, .slice A n d] [.int .u8 u, .int .i64 x, .int .i64 y, .bool s, .slice D m e]
  have HW := Lib.hid hw1
  have HZ := Lib.hid z1
  have ht_ := Lib.hid ht
  have hf_ := Lib.hid hf
  clear hw1 z1 ht hf s1
  go_enter Try.func5, Try.ntmps5
  go_upto_region 1 with fail
  rw [HW.out]
  refine Run.start 15 ?_
  refine .c0 (x := .k (.bool true)) (fun w2 hB => awake11_q w2) ?_
  refine .nt (.i 0) ?_
  refine .mv (.i 1) ?_
  refine .ld .o (ldM b2 0) ?_
  refine .ld .o (ldM b2 0) ?_
  refine .c2 (.i 3) (.i 4) (x := .k (.bool true)) (by rintro u v w2 hB rfl rfl; exact lfew_q (ha.below (zup HZ.out hB)) (ha.below (zup HZ.out hB)) ht_.out) ?_
  refine .nt (.i 5) ?_
  refine .pk (.i 2) (.i 6) false ?_
  refine .mv (.i 7) ?_
  refine .fa .o (fS3 3) ?_
  refine .fa (.i 9) (fZ1 4) ?_
  refine .ld (.i 10) (ldNat b3 4) ?_
  refine .len (.i 11) Try.underlying26 ?_
  refine .two (.i 12) .o (opGt (decide_eq_false (by omega : ¬ (3 : Int) < (m : Int)))) ?_
  refine .pk (.i 8) (.i 13) false ?_
  refine .donep [some 12, some 13, some 14, some 15, some 16, some 17, some 18, some 19, some 20, some 21, some 22, some 23, some 24, some 25, some 26] ?_
  intro w2 B2
  change Shut (wpList _ _ _ [] _ _)
  refine ⟨?_⟩
  simp only [Act.put, List.setIfInBounds_toArray, List.set_cons_zero, List.set_cons_succ]
  have B0 := zup HZ.out B2
  replace b2 := b2.below B2
  replace b3 := b3.below B2
  clear B2 HZ
  go_upto_region 3 with fail
  refine Run.start 7 ?_
  refine .ld .o (ldM b2 0) ?_
  refine .ld .o (ldS b3 0) ?_
  refine .c2 (.i 0) (.i 1) (x := noM 2) (by rintro u_ v_ w2 hB rfl rfl; exact do_unformed h0 rfl hf_.out) ?_
  refine .mv (.i 2) ?_
  refine .ex (.i 3) 0 exM0 ?_
  refine .ex (.i 3) 1 exM1 ?_
  refine .al ?_
  refine .donep [some 29, some 30, some 31, some 28, some 32, some 33, some 5] ?_
  intro w3 B3
  rintro g5 hg5 hl5 hc5 -
  change Shut (wpList _ _ _ [_, _] _ _)
  refine ⟨?_⟩
  simp only [Act.put, List.setIfInBounds_toArray, List.set_cons_zero, List.set_cons_succ]
  have b5 := zeroM hc5
  have hs5 := B0.size
  have hl_b2 := b2.lt
  have hl_b3 := b3.lt
  replace B0 := zup B0 B3
  replace b2 := b2.below B3
  replace b3 := b3.below B3
  clear B3 hc5
  obtain ⟨w4, hw4⟩ : ∃ x, mput w3 g5 0 0 none 0 0 = x := ⟨_, rfl⟩
  obtain ⟨f0_, f1_, f2_, f3_, f4_, f5_, f6_⟩ := b5.m3
  replace b2 := b2.mo (g := g5) (r := 0) (c := 0) (A := none) (n := 0) (d := 0) (by omega)
  rw [hw4] at b2
  replace b3 := b3.mo (g := g5) (r := 0) (c := 0) (A := none) (n := 0) (d := 0) (by omega)
  rw [hw4] at b3
  replace B0 := below_mput (g := g5) (r := 0) (c := 0) (A := none) (n := 0) (d := 0) B0 (by omega)
  rw [hw4] at B0
  replace b5 := b5.mp (g := g5) (r := 0) (c := 0) (A := none) (n := 0) (d := 0)
  rw [hw4] at b5
  have Hw4 := Lib.hid hw4
  unfold mput at Hw4
  clear hw4
  go_upto_region 4 with fail
  rw [Hw4.out]
  clear f0_ f1_ f2_ f3_ f4_ f5_ f6_ Hw4
  clear hs5 hl_b2 hl_b3
  refine Run.start 3 ?_
  refine .ld .o (ldM b2 0) ?_
  refine .c1 (.i 0) (x := .k (.bool false)) (by rintro u_ w2 hB rfl; exact rformed_q hf_.out w2) ?_
  refine .nf (.i 1) ?_
  refine .donep [some 34, some 35, some 36] ?_
  intro w5 B5
  change Shut (wpList _ _ _ [] _ _)
  refine ⟨?_⟩
  simp only [Act.put, List.setIfInBounds_toArray, List.set_cons_zero, List.set_cons_succ]
  replace B0 := zup B0 B5
  replace b5 := b5.below B5
  clear B5
  go_upto_region 5 with fail
  refine Run.start 7 ?_
  refine .mv .o ?_
  refine .two (.i 0) .o (opEq (by decide : decide ((2 : Int) = 2) = true)) ?_
  refine .mv (.i 1) ?_
  refine .ld .o (ldM b5 0) ?_
  refine .c1 (.i 3) (x := .k (.bool true)) (by rintro u w2 hB rfl; exact rnone_q w2) ?_
  refine .pk (.i 2) (.i 4) true ?_
  refine .mv (.i 5) ?_
  refine .donep [some 37, some 38, some 39, some 40, some 41, some 42, some 4] ?_
  intro w6 B6
  change Shut (wpList _ _ _ [] _ _)
  refine ⟨?_⟩
  simp only [Act.put, List.setIfInBounds_toArray, List.set_cons_zero, List.set_cons_succ]
  go_wp2_with fail
  exact bodyPost_ret (v := .bool true) (by simp [results, Try.results5, go_sem]) rfl (ret_k rfl (zup B0 B6))
set_option maxRecDepth 100000 in
set_option maxHeartbeats 2000000 in
/-- MatRows, of rows that aren't there. -/
theorem rows11_away {r c : Nat} {j : Int} {F : Nat → Nat → Int} {u x y : Int} {A D : Option Addr} {n d m e : Nat} {s : Bool} {z : Int} {Ra : List Zr} {w : World} (ha : RL w A n d Ra) (hz : Zv w s D m e z) (h0 : 0 ≤ u) (ht : (fewb r c Ra 6 3 && fewb r c Ra 6 3) = true) (hm : m ≤ 3) (hA : Mt false w r c A n d 3 F) (hju : u % 3 = j) (hst : ¬ thr j (r : Int) x y) : Calls Try.prog 5 #[.agg #[.int .i64 (r : Int), .int .i64 (c : Int), .slice A n d], .agg #[.int .u8 u, .int .i64 x, .int .i64 y, .bool s, .slice D m e]] w (RetK (.k (.bool true)) w) := by
  have hfa := hA.fmd
  have hr64 := hA.hr
  have hj3 : j = 0 ∨ j = 1 ∨ j = 2 := by omega
  obtain ⟨w1, hw1, b2, b3, z1, s1⟩ := boxes2 w 24 44 [.int .i64 (r : Int), .int .i64 (c : Int), .slice A n d] [.int .u8 u, .int .i64 x, .int .i64 y, .bool s, .slice D m e]
  have HW := Lib.hid hw1
  have HZ := Lib.hid z1
  have ht_ := Lib.hid ht
  have hfa_ := Lib.hid hfa
  have hju_ := Lib.hid hju
  have hst_ := Lib.hid hst
  have hj3_ := Lib.hid hj3
  clear hw1 z1 ht hfa hju hst hj3 s1
  go_enter Try.func5, Try.ntmps5
  go_upto_region 1 with fail
  rw [HW.out]
  refine Run.start 15 ?_
  refine .c0 (x := .k (.bool true)) (fun w2 hB => awake11_q w2) ?_
  refine .nt (.i 0) ?_
  refine .mv (.i 1) ?_
  refine .ld .o (ldM b2 0) ?_
  refine .ld .o (ldM b2 0) ?_
  refine .c2 (.i 3) (.i 4) (x := .k (.bool true)) (by rintro u v w2 hB rfl rfl; exact lfew_q (ha.below (zup HZ.out hB)) (ha.below (zup HZ.out hB)) ht_.out) ?_
  refine .nt (.i 5) ?_
  refine .pk (.i 2) (.i 6) false ?_
  refine .mv (.i 7) ?_
  refine .fa .o (fS3 3) ?_
  refine .fa (.i 9) (fZ1 4) ?_
  refine .ld (.i 10) (ldNat b3 4) ?_
  refine .len (.i 11) Try.underlying26 ?_
  refine .two (.i 12) .o (opGt (decide_eq_false (by omega : ¬ (3 : Int) < (m : Int)))) ?_
  refine .pk (.i 8) (.i 13) false ?_
  refine .donep [some 12, some 13, some 14, some 15, some 16, some 17, some 18, some 19, some 20, some 21, some 22, some 23, some 24, some 25, some 26] ?_
  intro w2 B2
  change Shut (wpList _ _ _ [] _ _)
  refine ⟨?_⟩
  simp only [Act.put, List.setIfInBounds_toArray, List.set_cons_zero, List.set_cons_succ]
  have B0 := zup HZ.out B2
  replace b2 := b2.below B2
  replace b3 := b3.below B2
  clear B2 HZ
  go_upto_region 3 with fail
  refine Run.start 7 ?_
  refine .ld .o (ldM b2 0) ?_
  refine .ld .o (ldS b3 0) ?_
  refine .c2 (.i 0) (.i 1) (x := noM 1) (by rintro u_ v_ w2 hB rfl rfl; exact do_away h0 hju_.out hfa_.out hst_.out) ?_
  refine .mv (.i 2) ?_
  refine .ex (.i 3) 0 exM0 ?_
  refine .ex (.i 3) 1 exM1 ?_
  refine .al ?_
  refine .donep [some 29, some 30, some 31, some 28, some 32, some 33, some 5] ?_
  intro w3 B3
  rintro g5 hg5 hl5 hc5 -
  change Shut (wpList _ _ _ [_, _] _ _)
  refine ⟨?_⟩
  simp only [Act.put, List.setIfInBounds_toArray, List.set_cons_zero, List.set_cons_succ]
  have b5 := zeroM hc5
  have hs5 := B0.size
  have hl_b2 := b2.lt
  have hl_b3 := b3.lt
  replace B0 := zup B0 B3
  replace b2 := b2.below B3
  replace b3 := b3.below B3
  clear B3 hc5
  obtain ⟨w4, hw4⟩ : ∃ x, mput w3 g5 0 0 none 0 0 = x := ⟨_, rfl⟩
  obtain ⟨f0_, f1_, f2_, f3_, f4_, f5_, f6_⟩ := b5.m3
  replace b2 := b2.mo (g := g5) (r := 0) (c := 0) (A := none) (n := 0) (d := 0) (by omega)
  rw [hw4] at b2
  replace b3 := b3.mo (g := g5) (r := 0) (c := 0) (A := none) (n := 0) (d := 0) (by omega)
  rw [hw4] at b3
  replace B0 := below_mput (g := g5) (r := 0) (c := 0) (A := none) (n := 0) (d := 0) B0 (by omega)
  rw [hw4] at B0
  replace b5 := b5.mp (g := g5) (r := 0) (c := 0) (A := none) (n := 0) (d := 0)
  rw [hw4] at b5
  have Hw4 := Lib.hid hw4
  unfold mput at Hw4
  clear hw4
  go_upto_region 4 with fail
  rw [Hw4.out]
  clear f0_ f1_ f2_ f3_ f4_ f5_ f6_ Hw4
  clear hs5 hl_b2 hl_b3
  refine Run.start 3 ?_
  refine .ld .o (ldM b2 0) ?_
  refine .c1 (.i 0) (x := .k (.bool true)) (by rintro u_ w2 hB rfl; exact rformed_q hfa_.out w2) ?_
  refine .nt (.i 1) ?_
  refine .donep [some 34, some 35, some 36] ?_
  intro w5 B5
  change Shut (wpList _ _ _ [] _ _)
  refine ⟨?_⟩
  simp only [Act.put, List.setIfInBounds_toArray, List.set_cons_zero, List.set_cons_succ]
  replace B0 := zup B0 B5
  replace b2 := b2.below B5
  replace b3 := b3.below B5
  replace b5 := b5.below B5
  clear B5
  go_upto_region 6 with fail
  refine Run.merge 42 [kAny, kAny, kAny, kAny, kAny, kAny, kAny, kAny, kAny, kAny, kAny, kAny, kAny, kAny, kAny, kAny, kAny, kAny, kAny, kAny, kAny, kAny, kAny, kAny, kAny, kAny, kAny, kAny, kAny, kAny, kAny, kAny, kAny, kAny, kAny, kAny, kAny, kAny, kAny, kAny, kAny, .k (.bool false)] [some 43, some 44, some 45, some 46, some 47, some 48, some 49, some 50, some 51, some 52, some 53, some 54, some 55, some 56, some 57, some 58, some 59, some 60, some 61, some 62, some 63, some 64, some 65, some 66, some 67, some 68, some 69, some 70, some 71, some 72, some 73, some 74, some 75, some 76, some 77, some 78, some 79, some 80, some 81, some 82, some 83, some 7] (fun HR => ?_) ?_
  · have hs := hst_.out
    unfold thr at hs
    by_cases g1 : 0 ≤ x
    · by_cases g2 : x < (r : Int)
      · rcases hj3_.out with rfl | rfl | rfl
        · by_cases g5 : 0 ≤ y
          · by_cases g6 : y < (r : Int)
            · exact absurd ⟨g1, g2, .inr ⟨g5, g6⟩, .inl (by decide)⟩ hs
            · refine .fa .o (fS1 1) ?_
              refine .ld (.i 0) (ldInt b3 1) ?_
              refine .two (.i 1) .o (opGe (decide_eq_true g1)) ?_
              refine .mv (.i 2) ?_
              refine .fa .o (fS1 1) ?_
              refine .ld (.i 4) (ldInt b3 1) ?_
              refine .fa .o (fM0 0) ?_
              refine .ld (.i 6) (ldInt b2 0) ?_
              refine .two (.i 5) (.i 7) (opLt (decide_eq_true g2)) ?_
              refine .pk (.i 3) (.i 8) true ?_
              refine .mv (.i 9) ?_
              refine .fa .o (fS0 0) ?_
              refine .ld (.i 11) (ldU8 b3 0) ?_
              refine .two (.i 12) .o (opRem8 hju_.out h0) ?_
              refine .two (.i 13) .o (opEq8 (by decide : decide ((0 : Int) = 2) = false)) ?_
              refine .mv (.i 14) ?_
              refine .fa .o (fS2 2) ?_
              refine .ld (.i 16) (ldInt b3 2) ?_
              refine .two (.i 17) .o (opGe (decide_eq_true g5)) ?_
              refine .mv (.i 18) ?_
              refine .fa .o (fS2 2) ?_
              refine .ld (.i 20) (ldInt b3 2) ?_
              refine .fa .o (fM0 0) ?_
              refine .ld (.i 22) (ldInt b2 0) ?_
              refine .two (.i 21) (.i 23) (opLt (decide_eq_false g6)) ?_
              refine .pk (.i 19) (.i 24) true ?_
              refine .pk (.i 15) (.i 25) false ?_
              refine .pk (.i 10) (.i 26) true ?_
              refine .mv (.i 27) ?_
              refine .no ?_
              refine .no ?_
              refine .no ?_
              refine .no ?_
              refine .no ?_
              refine .no ?_
              refine .no ?_
              refine .no ?_
              refine .no ?_
              refine .no ?_
              refine .no ?_
              refine .pk (.i 28) .o false ?_
              refine .mv (.i 40) ?_
              refine .donep [some 43, some 44, some 45, some 46, some 47, some 48, some 49, some 50, some 51, some 52, some 53, some 54, some 55, some 56, some 57, some 58, some 59, some 60, some 61, some 62, some 63, some 64, some 65, some 66, some 67, some 68, some 69, some 70, some 71, some 72, some 73, some 74, some 75, some 76, some 77, some 78, some 79, some 80, some 81, some 82, some 83, some 7] ?_
              intro w6 B6
              exact (HR w6 B6).weaker ⟨fun _ => trivial, fun _ => trivial, fun _ => trivial, fun _ => trivial, fun _ => trivial, fun _ => trivial, fun _ => trivial, fun _ => trivial, fun _ => trivial, fun _ => trivial, fun _ => trivial, fun _ => trivial, fun _ => trivial, fun _ => trivial, fun _ => trivial, fun _ => trivial, fun _ => trivial, fun _ => trivial, fun _ => trivial, fun _ => trivial, fun _ => trivial, fun _ => trivial, fun _ => trivial, fun _ => trivial, fun _ => trivial, fun _ => trivial, fun _ => trivial, fun _ => trivial, fun _ => trivial, fun _ => trivial, fun _ => trivial, fun _ => trivial, fun _ => trivial, fun _ => trivial, fun _ => trivial, fun _ => trivial, fun _ => trivial, fun _ => trivial, fun _ => trivial, fun _ => trivial, fun _ => trivial, rfl, trivial⟩
          · refine .fa .o (fS1 1) ?_
            refine .ld (.i 0) (ldInt b3 1) ?_
            refine .two (.i 1) .o (opGe (decide_eq_true g1)) ?_
            refine .mv (.i 2) ?_
            refine .fa .o (fS1 1) ?_
            refine .ld (.i 4) (ldInt b3 1) ?_
            refine .fa .o (fM0 0) ?_
            refine .ld (.i 6) (ldInt b2 0) ?_
            refine .two (.i 5) (.i 7) (opLt (decide_eq_true g2)) ?_
            refine .pk (.i 3) (.i 8) true ?_
            refine .mv (.i 9) ?_
            refine .fa .o (fS0 0) ?_
            refine .ld (.i 11) (ldU8 b3 0) ?_
            refine .two (.i 12) .o (opRem8 hju_.out h0) ?_
            refine .two (.i 13) .o (opEq8 (by decide : decide ((0 : Int) = 2) = false)) ?_
            refine .mv (.i 14) ?_
            refine .fa .o (fS2 2) ?_
            refine .ld (.i 16) (ldInt b3 2) ?_
            refine .two (.i 17) .o (opGe (decide_eq_false g5)) ?_
            refine .mv (.i 18) ?_
            refine .no ?_
            refine .no ?_
            refine .no ?_
            refine .no ?_
            refine .no ?_
            refine .pk (.i 19) .o false ?_
            refine .pk (.i 15) (.i 25) false ?_
            refine .pk (.i 10) (.i 26) true ?_
            refine .mv (.i 27) ?_
            refine .no ?_
            refine .no ?_
            refine .no ?_
            refine .no ?_
            refine .no ?_
            refine .no ?_
            refine .no ?_
            refine .no ?_
            refine .no ?_
            refine .no ?_
            refine .no ?_
            refine .pk (.i 28) .o false ?_
            refine .mv (.i 40) ?_
            refine .donep [some 43, some 44, some 45, some 46, some 47, some 48, some 49, some 50, some 51, some 52, some 53, some 54, some 55, some 56, some 57, some 58, some 59, some 60, some 61, some 62, some 63, some 64, some 65, some 66, some 67, some 68, some 69, some 70, some 71, some 72, some 73, some 74, some 75, some 76, some 77, some 78, some 79, some 80, some 81, some 82, some 83, some 7] ?_
            intro w6 B6
            exact (HR w6 B6).weaker ⟨fun _ => trivial, fun _ => trivial, fun _ => trivial, fun _ => trivial, fun _ => trivial, fun _ => trivial, fun _ => trivial, fun _ => trivial, fun _ => trivial, fun _ => trivial, fun _ => trivial, fun _ => trivial, fun _ => trivial, fun _ => trivial, fun _ => trivial, fun _ => trivial, fun _ => trivial, fun _ => trivial, fun _ => trivial, fun _ => trivial, fun _ => trivial, fun _ => trivial, fun _ => trivial, fun _ => trivial, fun _ => trivial, fun _ => trivial, fun _ => trivial, fun _ => trivial, fun _ => trivial, fun _ => trivial, fun _ => trivial, fun _ => trivial, fun _ => trivial, fun _ => trivial, fun _ => trivial, fun _ => trivial, fun _ => trivial, fun _ => trivial, fun _ => trivial, fun _ => trivial, fun _ => trivial, rfl, trivial⟩
        · by_cases g5 : 0 ≤ y
          · by_cases g6 : y < (r : Int)
            · have g7 : ¬ x ≠ y := fun h => hs ⟨g1, g2, .inr ⟨g5, g6⟩, .inr h⟩
              refine .fa .o (fS1 1) ?_
              refine .ld (.i 0) (ldInt b3 1) ?_
              refine .two (.i 1) .o (opGe (decide_eq_true g1)) ?_
              refine .mv (.i 2) ?_
              refine .fa .o (fS1 1) ?_
              refine .ld (.i 4) (ldInt b3 1) ?_
              refine .fa .o (fM0 0) ?_
              refine .ld (.i 6) (ldInt b2 0) ?_
              refine .two (.i 5) (.i 7) (opLt (decide_eq_true g2)) ?_
              refine .pk (.i 3) (.i 8) true ?_
              refine .mv (.i 9) ?_
              refine .fa .o (fS0 0) ?_
              refine .ld (.i 11) (ldU8 b3 0) ?_
              refine .two (.i 12) .o (opRem8 hju_.out h0) ?_
              refine .two (.i 13) .o (opEq8 (by decide : decide ((1 : Int) = 2) = false)) ?_
              refine .mv (.i 14) ?_
              refine .fa .o (fS2 2) ?_
              refine .ld (.i 16) (ldInt b3 2) ?_
              refine .two (.i 17) .o (opGe (decide_eq_true g5)) ?_
              refine .mv (.i 18) ?_
              refine .fa .o (fS2 2) ?_
              refine .ld (.i 20) (ldInt b3 2) ?_
              refine .fa .o (fM0 0) ?_
              refine .ld (.i 22) (ldInt b2 0) ?_
              refine .two (.i 21) (.i 23) (opLt (decide_eq_true g6)) ?_
              refine .pk (.i 19) (.i 24) true ?_
              refine .pk (.i 15) (.i 25) false ?_
              refine .pk (.i 10) (.i 26) true ?_
              refine .mv (.i 27) ?_
              refine .fa .o (fS0 0) ?_
              refine .ld (.i 29) (ldU8 b3 0) ?_
              refine .two (.i 30) .o (opRem8 hju_.out h0) ?_
              refine .two (.i 31) .o (opNe8 (by decide : decide ((1 : Int) ≠ 1) = false)) ?_
              refine .mv (.i 32) ?_
              refine .fa .o (fS1 1) ?_
              refine .ld (.i 34) (ldInt b3 1) ?_
              refine .fa .o (fS2 2) ?_
              refine .ld (.i 36) (ldInt b3 2) ?_
              refine .two (.i 35) (.i 37) (opNe (decide_eq_false g7)) ?_
              refine .pk (.i 33) (.i 38) false ?_
              refine .pk (.i 28) (.i 39) true ?_
              refine .mv (.i 40) ?_
              refine .donep [some 43, some 44, some 45, some 46, some 47, some 48, some 49, some 50, some 51, some 52, some 53, some 54, some 55, some 56, some 57, some 58, some 59, some 60, some 61, some 62, some 63, some 64, some 65, some 66, some 67, some 68, some 69, some 70, some 71, some 72, some 73, some 74, some 75, some 76, some 77, some 78, some 79, some 80, some 81, some 82, some 83, some 7] ?_
              intro w6 B6
              exact (HR w6 B6).weaker ⟨fun _ => trivial, fun _ => trivial, fun _ => trivial, fun _ => trivial, fun _ => trivial, fun _ => trivial, fun _ => trivial, fun _ => trivial, fun _ => trivial, fun _ => trivial, fun _ => trivial, fun _ => trivial, fun _ => trivial, fun _ => trivial, fun _ => trivial, fun _ => trivial, fun _ => trivial, fun _ => trivial, fun _ => trivial, fun _ => trivial, fun _ => trivial, fun _ => trivial, fun _ => trivial, fun _ => trivial, fun _ => trivial, fun _ => trivial, fun _ => trivial, fun _ => trivial, fun _ => trivial, fun _ => trivial, fun _ => trivial, fun _ => trivial, fun _ => trivial, fun _ => trivial, fun _ => trivial, fun _ => trivial, fun _ => trivial, fun _ => trivial, fun _ => trivial, fun _ => trivial, fun _ => trivial, rfl, trivial⟩
            · refine .fa .o (fS1 1) ?_
              refine .ld (.i 0) (ldInt b3 1) ?_
              refine .two (.i 1) .o (opGe (decide_eq_true g1)) ?_
              refine .mv (.i 2) ?_
              refine .fa .o (fS1 1) ?_
              refine .ld (.i 4) (ldInt b3 1) ?_
              refine .fa .o (fM0 0) ?_
              refine .ld (.i 6) (ldInt b2 0) ?_
              refine .two (.i 5) (.i 7) (opLt (decide_eq_true g2)) ?_
              refine .pk (.i 3) (.i 8) true ?_
              refine .mv (.i 9) ?_
              refine .fa .o (fS0 0) ?_
              refine .ld (.i 11) (ldU8 b3 0) ?_
              refine .two (.i 12) .o (opRem8 hju_.out h0) ?_
              refine .two (.i 13) .o (opEq8 (by decide : decide ((1 : Int) = 2) = false)) ?_
              refine .mv (.i 14) ?_
              refine .fa .o (fS2 2) ?_
              refine .ld (.i 16) (ldInt b3 2) ?_
              refine .two (.i 17) .o (opGe (decide_eq_true g5)) ?_
              refine .mv (.i 18) ?_
              refine .fa .o (fS2 2) ?_
              refine .ld (.i 20) (ldInt b3 2) ?_
              refine .fa .o (fM0 0) ?_
              refine .ld (.i 22) (ldInt b2 0) ?_
              refine .two (.i 21) (.i 23) (opLt (decide_eq_false g6)) ?_
              refine .pk (.i 19) (.i 24) true ?_
              refine .pk (.i 15) (.i 25) false ?_
              refine .pk (.i 10) (.i 26) true ?_
              refine .mv (.i 27) ?_
              refine .no ?_
              refine .no ?_
              refine .no ?_
              refine .no ?_
              refine .no ?_
              refine .no ?_
              refine .no ?_
              refine .no ?_
              refine .no ?_
              refine .no ?_
              refine .no ?_
              refine .pk (.i 28) .o false ?_
              refine .mv (.i 40) ?_
              refine .donep [some 43, some 44, some 45, some 46, some 47, some 48, some 49, some 50, some 51, some 52, some 53, some 54, some 55, some 56, some 57, some 58, some 59, some 60, some 61, some 62, some 63, some 64, some 65, some 66, some 67, some 68, some 69, some 70, some 71, some 72, some 73, some 74, some 75, some 76, some 77, some 78, some 79, some 80, some 81, some 82, some 83, some 7] ?_
              intro w6 B6
              exact (HR w6 B6).weaker ⟨fun _ => trivial, fun _ => trivial, fun _ => trivial, fun _ => trivial, fun _ => trivial, fun _ => trivial, fun _ => trivial, fun _ => trivial, fun _ => trivial, fun _ => trivial, fun _ => trivial, fun _ => trivial, fun _ => trivial, fun _ => trivial, fun _ => trivial, fun _ => trivial, fun _ => trivial, fun _ => trivial, fun _ => trivial, fun _ => trivial, fun _ => trivial, fun _ => trivial, fun _ => trivial, fun _ => trivial, fun _ => trivial, fun _ => trivial, fun _ => trivial, fun _ => trivial, fun _ => trivial, fun _ => trivial, fun _ => trivial, fun _ => trivial, fun _ => trivial, fun _ => trivial, fun _ => trivial, fun _ => trivial, fun _ => trivial, fun _ => trivial, fun _ => trivial, fun _ => trivial, fun _ => trivial, rfl, trivial⟩
          · refine .fa .o (fS1 1) ?_
            refine .ld (.i 0) (ldInt b3 1) ?_
            refine .two (.i 1) .o (opGe (decide_eq_true g1)) ?_
            refine .mv (.i 2) ?_
            refine .fa .o (fS1 1) ?_
            refine .ld (.i 4) (ldInt b3 1) ?_
            refine .fa .o (fM0 0) ?_
            refine .ld (.i 6) (ldInt b2 0) ?_
            refine .two (.i 5) (.i 7) (opLt (decide_eq_true g2)) ?_
            refine .pk (.i 3) (.i 8) true ?_
            refine .mv (.i 9) ?_
            refine .fa .o (fS0 0) ?_
            refine .ld (.i 11) (ldU8 b3 0) ?_
            refine .two (.i 12) .o (opRem8 hju_.out h0) ?_
            refine .two (.i 13) .o (opEq8 (by decide : decide ((1 : Int) = 2) = false)) ?_
            refine .mv (.i 14) ?_
            refine .fa .o (fS2 2) ?_
            refine .ld (.i 16) (ldInt b3 2) ?_
            refine .two (.i 17) .o (opGe (decide_eq_false g5)) ?_
            refine .mv (.i 18) ?_
            refine .no ?_
            refine .no ?_
            refine .no ?_
            refine .no ?_
            refine .no ?_
            refine .pk (.i 19) .o false ?_
            refine .pk (.i 15) (.i 25) false ?_
            refine .pk (.i 10) (.i 26) true ?_
            refine .mv (.i 27) ?_
            refine .no ?_
            refine .no ?_
            refine .no ?_
            refine .no ?_
            refine .no ?_
            refine .no ?_
            refine .no ?_
            refine .no ?_
            refine .no ?_
            refine .no ?_
            refine .no ?_
            refine .pk (.i 28) .o false ?_
            refine .mv (.i 40) ?_
            refine .donep [some 43, some 44, some 45, some 46, some 47, some 48, some 49, some 50, some 51, some 52, some 53, some 54, some 55, some 56, some 57, some 58, some 59, some 60, some 61, some 62, some 63, some 64, some 65, some 66, some 67, some 68, some 69, some 70, some 71, some 72, some 73, some 74, some 75, some 76, some 77, some 78, some 79, some 80, some 81, some 82, some 83, some 7] ?_
            intro w6 B6
            exact (HR w6 B6).weaker ⟨fun _ => trivial, fun _ => trivial, fun _ => trivial, fun _ => trivial, fun _ => trivial, fun _ => trivial, fun _ => trivial, fun _ => trivial, fun _ => trivial, fun _ => trivial, fun _ => trivial, fun _ => trivial, fun _ => trivial, fun _ => trivial, fun _ => trivial, fun _ => trivial, fun _ => trivial, fun _ => trivial, fun _ => trivial, fun _ => trivial, fun _ => trivial, fun _ => trivial, fun _ => trivial, fun _ => trivial, fun _ => trivial, fun _ => trivial, fun _ => trivial, fun _ => trivial, fun _ => trivial, fun _ => trivial, fun _ => trivial, fun _ => trivial, fun _ => trivial, fun _ => trivial, fun _ => trivial, fun _ => trivial, fun _ => trivial, fun _ => trivial, fun _ => trivial, fun _ => trivial, fun _ => trivial, rfl, trivial⟩
        · exact absurd ⟨g1, g2, .inl rfl, .inl (by decide)⟩ hs
      · refine .fa .o (fS1 1) ?_
        refine .ld (.i 0) (ldInt b3 1) ?_
        refine .two (.i 1) .o (opGe (decide_eq_true g1)) ?_
        refine .mv (.i 2) ?_
        refine .fa .o (fS1 1) ?_
        refine .ld (.i 4) (ldInt b3 1) ?_
        refine .fa .o (fM0 0) ?_
        refine .ld (.i 6) (ldInt b2 0) ?_
        refine .two (.i 5) (.i 7) (opLt (decide_eq_false g2)) ?_
        refine .pk (.i 3) (.i 8) true ?_
        refine .mv (.i 9) ?_
        refine .no ?_
        refine .no ?_
        refine .no ?_
        refine .no ?_
        refine .no ?_
        refine .no ?_
        refine .no ?_
        refine .no ?_
        refine .no ?_
        refine .no ?_
        refine .no ?_
        refine .no ?_
        refine .no ?_
        refine .no ?_
        refine .no ?_
        refine .no ?_
        refine .pk (.i 10) .o false ?_
        refine .mv (.i 27) ?_
        refine .no ?_
        refine .no ?_
        refine .no ?_
        refine .no ?_
        refine .no ?_
        refine .no ?_
        refine .no ?_
        refine .no ?_
        refine .no ?_
        refine .no ?_
        refine .no ?_
        refine .pk (.i 28) .o false ?_
        refine .mv (.i 40) ?_
        refine .donep [some 43, some 44, some 45, some 46, some 47, some 48, some 49, some 50, some 51, some 52, some 53, some 54, some 55, some 56, some 57, some 58, some 59, some 60, some 61, some 62, some 63, some 64, some 65, some 66, some 67, some 68, some 69, some 70, some 71, some 72, some 73, some 74, some 75, some 76, some 77, some 78, some 79, some 80, some 81, some 82, some 83, some 7] ?_
        intro w6 B6
        exact (HR w6 B6).weaker ⟨fun _ => trivial, fun _ => trivial, fun _ => trivial, fun _ => trivial, fun _ => trivial, fun _ => trivial, fun _ => trivial, fun _ => trivial, fun _ => trivial, fun _ => trivial, fun _ => trivial, fun _ => trivial, fun _ => trivial, fun _ => trivial, fun _ => trivial, fun _ => trivial, fun _ => trivial, fun _ => trivial, fun _ => trivial, fun _ => trivial, fun _ => trivial, fun _ => trivial, fun _ => trivial, fun _ => trivial, fun _ => trivial, fun _ => trivial, fun _ => trivial, fun _ => trivial, fun _ => trivial, fun _ => trivial, fun _ => trivial, fun _ => trivial, fun _ => trivial, fun _ => trivial, fun _ => trivial, fun _ => trivial, fun _ => trivial, fun _ => trivial, fun _ => trivial, fun _ => trivial, fun _ => trivial, rfl, trivial⟩
    · refine .fa .o (fS1 1) ?_
      refine .ld (.i 0) (ldInt b3 1) ?_
      refine .two (.i 1) .o (opGe (decide_eq_false g1)) ?_
      refine .mv (.i 2) ?_
      refine .no ?_
      refine .no ?_
      refine .no ?_
      refine .no ?_
      refine .no ?_
      refine .pk (.i 3) .o false ?_
      refine .mv (.i 9) ?_
      refine .no ?_
      refine .no ?_
      refine .no ?_
      refine .no ?_
      refine .no ?_
      refine .no ?_
      refine .no ?_
      refine .no ?_
      refine .no ?_
      refine .no ?_
      refine .no ?_
      refine .no ?_
      refine .no ?_
      refine .no ?_
      refine .no ?_
      refine .no ?_
      refine .pk (.i 10) .o false ?_
      refine .mv (.i 27) ?_
      refine .no ?_
      refine .no ?_
      refine .no ?_
      refine .no ?_
      refine .no ?_
      refine .no ?_
      refine .no ?_
      refine .no ?_
      refine .no ?_
      refine .no ?_
      refine .no ?_
      refine .pk (.i 28) .o false ?_
      refine .mv (.i 40) ?_
      refine .donep [some 43, some 44, some 45, some 46, some 47, some 48, some 49, some 50, some 51, some 52, some 53, some 54, some 55, some 56, some 57, some 58, some 59, some 60, some 61, some 62, some 63, some 64, some 65, some 66, some 67, some 68, some 69, some 70, some 71, some 72, some 73, some 74, some 75, some 76, some 77, some 78, some 79, some 80, some 81, some 82, some 83, some 7] ?_
      intro w6 B6
      exact (HR w6 B6).weaker ⟨fun _ => trivial, fun _ => trivial, fun _ => trivial, fun _ => trivial, fun _ => trivial, fun _ => trivial, fun _ => trivial, fun _ => trivial, fun _ => trivial, fun _ => trivial, fun _ => trivial, fun _ => trivial, fun _ => trivial, fun _ => trivial, fun _ => trivial, fun _ => trivial, fun _ => trivial, fun _ => trivial, fun _ => trivial, fun _ => trivial, fun _ => trivial, fun _ => trivial, fun _ => trivial, fun _ => trivial, fun _ => trivial, fun _ => trivial, fun _ => trivial, fun _ => trivial, fun _ => trivial, fun _ => trivial, fun _ => trivial, fun _ => trivial, fun _ => trivial, fun _ => trivial, fun _ => trivial, fun _ => trivial, fun _ => trivial, fun _ => trivial, fun _ => trivial, fun _ => trivial, fun _ => trivial, rfl, trivial⟩
  · intro w6 B6
    rintro y0 -
    rintro y1 -
    rintro y2 -
    rintro y3 -
    rintro y4 -
    rintro y5 -
    rintro y6 -
    rintro y7 -
    rintro y8 -
    rintro y9 -
    rintro y10 -
    rintro y11 -
    rintro y12 -
    rintro y13 -
    rintro y14 -
    rintro y15 -
    rintro y16 -
    rintro y17 -
    rintro y18 -
    rintro y19 -
    rintro y20 -
    rintro y21 -
    rintro y22 -
    rintro y23 -
    rintro y24 -
    rintro y25 -
    rintro y26 -
    rintro y27 -
    rintro y28 -
    rintro y29 -
    rintro y30 -
    rintro y31 -
    rintro y32 -
    rintro y33 -
    rintro y34 -
    rintro y35 -
    rintro y36 -
    rintro y37 -
    rintro y38 -
    rintro y39 -
    rintro y40 -
    change Shut (wpList _ _ _ [] _ _)
    refine ⟨?_⟩
    simp only [Act.put, List.setIfInBounds_toArray, List.set_cons_zero, List.set_cons_succ]
    replace B0 := zup B0 B6
    replace b2 := b2.below B6
    replace b3 := b3.below B6
    replace b5 := b5.below B6
    clear B6
    go_upto_region 7 with fail
    refine Run.start 2 ?_
    refine .mv .o ?_
    refine .nf (.i 0) ?_
    refine .donep [some 84, some 85] ?_
    intro w7 B7
    change Shut (wpList _ _ _ [] _ _)
    refine ⟨?_⟩
    simp only [Act.put, List.setIfInBounds_toArray, List.set_cons_zero, List.set_cons_succ]
    replace B0 := zup B0 B7
    replace b2 := b2.below B7
    replace b3 := b3.below B7
    replace b5 := b5.below B7
    clear B7
    go_upto_region 8 with fail
    refine Run.start 7 ?_
    refine .mv .o ?_
    refine .two (.i 0) .o (opEq (by decide : decide ((1 : Int) = 1) = true)) ?_
    refine .mv (.i 1) ?_
    refine .ld .o (ldM b5 0) ?_
    refine .c1 (.i 3) (x := .k (.bool true)) (by rintro u w2 hB rfl; exact rnone_q w2) ?_
    refine .pk (.i 2) (.i 4) true ?_
    refine .mv (.i 5) ?_
    refine .donep [some 86, some 87, some 88, some 89, some 90, some 91, some 4] ?_
    intro w8 B8
    change Shut (wpList _ _ _ [] _ _)
    refine ⟨?_⟩
    simp only [Act.put, List.setIfInBounds_toArray, List.set_cons_zero, List.set_cons_succ]
    go_wp2_with fail
    exact bodyPost_ret (v := .bool true) (by simp [results, Try.results5, go_sem]) rfl (ret_k rfl (zup B0 B8))
set_option maxRecDepth 100000 in
set_option maxHeartbeats 2000000 in
/-- MatRows, of rows that are there. -/
theorem rows11_there {r c : Nat} {j : Int} {F : Nat → Nat → Int} {u x y : Int} {A D : Option Addr} {n d m e : Nat} {s : Bool} {z : Int} {Ra : List Zr} {w : World} (ha : RL w A n d Ra) (hz : Zv w s D m e z) (h0 : 0 ≤ u) (ht : (fewb r c Ra 6 3 && fewb r c Ra 6 3) = true) (hm : m ≤ 3) (hA : Mt false w r c A n d 3 F) (hju : u % 3 = j) (hst : thr j (r : Int) x y) : Calls Try.prog 5 #[.agg #[.int .i64 (r : Int), .int .i64 (c : Int), .slice A n d], .agg #[.int .u8 u, .int .i64 x, .int .i64 y, .bool s, .slice D m e]] w (RetK (.k (.bool true)) w) := by
  have hfa := hA.fmd
  have hr64 := hA.hr
  have hj3 : j = 0 ∨ j = 1 ∨ j = 2 := by omega
  obtain ⟨w1, hw1, b2, b3, z1, s1⟩ := boxes2 w 24 44 [.int .i64 (r : Int), .int .i64 (c : Int), .slice A n d] [.int .u8 u, .int .i64 x, .int .i64 y, .bool s, .slice D m e]
  have HW := Lib.hid hw1
  have HZ := Lib.hid z1
  have ht_ := Lib.hid ht
  have hfa_ := Lib.hid hfa
  have hju_ := Lib.hid hju
  have hst_ := Lib.hid hst
  have hj3_ := Lib.hid hj3
  clear hw1 z1 ht hfa hju hst hj3 s1
  go_enter Try.func5, Try.ntmps5
  go_upto_region 1 with fail
  rw [HW.out]
  refine Run.start 15 ?_
  refine .c0 (x := .k (.bool true)) (fun w2 hB => awake11_q w2) ?_
  refine .nt (.i 0) ?_
  refine .mv (.i 1) ?_
  refine .ld .o (ldM b2 0) ?_
  refine .ld .o (ldM b2 0) ?_
  refine .c2 (.i 3) (.i 4) (x := .k (.bool true)) (by rintro u v w2 hB rfl rfl; exact lfew_q (ha.below (zup HZ.out hB)) (ha.below (zup HZ.out hB)) ht_.out) ?_
  refine .nt (.i 5) ?_
  refine .pk (.i 2) (.i 6) false ?_
  refine .mv (.i 7) ?_
  refine .fa .o (fS3 3) ?_
  refine .fa (.i 9) (fZ1 4) ?_
  refine .ld (.i 10) (ldNat b3 4) ?_
  refine .len (.i 11) Try.underlying26 ?_
  refine .two (.i 12) .o (opGt (decide_eq_false (by omega : ¬ (3 : Int) < (m : Int)))) ?_
  refine .pk (.i 8) (.i 13) false ?_
  refine .donep [some 12, some 13, some 14, some 15, some 16, some 17, some 18, some 19, some 20, some 21, some 22, some 23, some 24, some 25, some 26] ?_
  intro w2 B2
  change Shut (wpList _ _ _ [] _ _)
  refine ⟨?_⟩
  simp only [Act.put, List.setIfInBounds_toArray, List.set_cons_zero, List.set_cons_succ]
  have B0 := zup HZ.out B2
  replace b2 := b2.below B2
  replace b3 := b3.below B2
  clear B2 HZ
  go_upto_region 3 with fail
  refine Run.start 7 ?_
  refine .ld .o (ldM b2 0) ?_
  refine .ld .o (ldS b3 0) ?_
  refine .c2 (.i 0) (.i 1) (x := kT (kM true r c (m + 3 + 1) (stF j x.toNat y.toNat z F)) (.k (.int .i64 0))) (by rintro u_ v_ w2 hB rfl rfl; exact do_there h0 hju_.out (hA.below (zup B0 hB)) (hz.below (zup B0 hB)) hst_.out (by omega)) ?_
  refine .mf (.i 2) ?_
  refine .ex (.i 3) 0 kT_0 ?_
  refine .ex (.i 3) 1 kT_1 ?_
  refine .al ?_
  refine .donep [some 29, some 30, some 31, some 28, some 32, some 33, some 5] ?_
  intro w3 B3
  rintro v1 -
  rintro v2 -
  rintro v3 ⟨A5, n5, d5, rfl, m5⟩
  rintro g5 hg5 hl5 hc5 -
  change Shut (wpList _ _ _ [_, _] _ _)
  refine ⟨?_⟩
  simp only [Act.put, List.setIfInBounds_toArray, List.set_cons_zero, List.set_cons_succ]
  have b5 := zeroM hc5
  have hs5 := B0.size
  have hl_b2 := b2.lt
  have hl_b3 := b3.lt
  replace B0 := zup B0 B3
  replace b2 := b2.below B3
  replace b3 := b3.below B3
  clear B3 hc5
  obtain ⟨w4, hw4⟩ : ∃ x, mput w3 g5 (r : Int) (c : Int) A5 n5 d5 = x := ⟨_, rfl⟩
  obtain ⟨f0_, f1_, f2_, f3_, f4_, f5_, f6_⟩ := b5.m3
  replace b2 := b2.mo (g := g5) (r := (r : Int)) (c := (c : Int)) (A := A5) (n := n5) (d := d5) (by omega)
  rw [hw4] at b2
  replace b3 := b3.mo (g := g5) (r := (r : Int)) (c := (c : Int)) (A := A5) (n := n5) (d := d5) (by omega)
  rw [hw4] at b3
  replace m5 := m5.put (r' := (r : Int)) (c' := (c : Int)) (C := A5) (n' := n5) (d' := d5) b5
  rw [hw4] at m5
  replace B0 := below_mput (g := g5) (r := (r : Int)) (c := (c : Int)) (A := A5) (n := n5) (d := d5) B0 (by omega)
  rw [hw4] at B0
  replace b5 := b5.mp (g := g5) (r := (r : Int)) (c := (c : Int)) (A := A5) (n := n5) (d := d5)
  rw [hw4] at b5
  have Hw4 := Lib.hid hw4
  unfold mput at Hw4
  clear hw4
  go_upto_region 4 with fail
  rw [Hw4.out]
  clear f0_ f1_ f2_ f3_ f4_ f5_ f6_ Hw4
  clear hs5 hl_b2 hl_b3
  refine Run.start 3 ?_
  refine .ld .o (ldM b2 0) ?_
  refine .c1 (.i 0) (x := .k (.bool true)) (by rintro u_ w2 hB rfl; exact rformed_q hfa_.out w2) ?_
  refine .nt (.i 1) ?_
  refine .donep [some 34, some 35, some 36] ?_
  intro w5 B5
  change Shut (wpList _ _ _ [] _ _)
  refine ⟨?_⟩
  simp only [Act.put, List.setIfInBounds_toArray, List.set_cons_zero, List.set_cons_succ]
  replace B0 := zup B0 B5
  replace b2 := b2.below B5
  replace b3 := b3.below B5
  replace b5 := b5.below B5
  replace m5 := m5.below B5
  clear B5
  go_upto_region 6 with fail
  refine Run.merge 42 [kAny, kAny, kAny, kAny, kAny, kAny, kAny, kAny, kAny, kAny, kAny, kAny, kAny, kAny, kAny, kAny, kAny, kAny, kAny, kAny, kAny, kAny, kAny, kAny, kAny, kAny, kAny, kAny, kAny, kAny, kAny, kAny, kAny, kAny, kAny, kAny, kAny, kAny, kAny, kAny, kAny, .k (.bool true)] [some 43, some 44, some 45, some 46, some 47, some 48, some 49, some 50, some 51, some 52, some 53, some 54, some 55, some 56, some 57, some 58, some 59, some 60, some 61, some 62, some 63, some 64, some 65, some 66, some 67, some 68, some 69, some 70, some 71, some 72, some 73, some 74, some 75, some 76, some 77, some 78, some 79, some 80, some 81, some 82, some 83, some 7] (fun HR => ?_) ?_
  · have hs := hst_.out
    unfold thr at hs
    obtain ⟨g1, g2, g3, g4⟩ := hs
    rcases hj3_.out with rfl | rfl | rfl
    · have g5 : 0 ≤ y := by omega
      have g6 : y < (r : Int) := by omega
      refine .fa .o (fS1 1) ?_
      refine .ld (.i 0) (ldInt b3 1) ?_
      refine .two (.i 1) .o (opGe (decide_eq_true g1)) ?_
      refine .mv (.i 2) ?_
      refine .fa .o (fS1 1) ?_
      refine .ld (.i 4) (ldInt b3 1) ?_
      refine .fa .o (fM0 0) ?_
      refine .ld (.i 6) (ldInt b2 0) ?_
      refine .two (.i 5) (.i 7) (opLt (decide_eq_true g2)) ?_
      refine .pk (.i 3) (.i 8) true ?_
      refine .mv (.i 9) ?_
      refine .fa .o (fS0 0) ?_
      refine .ld (.i 11) (ldU8 b3 0) ?_
      refine .two (.i 12) .o (opRem8 hju_.out h0) ?_
      refine .two (.i 13) .o (opEq8 (by decide : decide ((0 : Int) = 2) = false)) ?_
      refine .mv (.i 14) ?_
      refine .fa .o (fS2 2) ?_
      refine .ld (.i 16) (ldInt b3 2) ?_
      refine .two (.i 17) .o (opGe (decide_eq_true g5)) ?_
      refine .mv (.i 18) ?_
      refine .fa .o (fS2 2) ?_
      refine .ld (.i 20) (ldInt b3 2) ?_
      refine .fa .o (fM0 0) ?_
      refine .ld (.i 22) (ldInt b2 0) ?_
      refine .two (.i 21) (.i 23) (opLt (decide_eq_true g6)) ?_
      refine .pk (.i 19) (.i 24) true ?_
      refine .pk (.i 15) (.i 25) false ?_
      refine .pk (.i 10) (.i 26) true ?_
      refine .mv (.i 27) ?_
      refine .fa .o (fS0 0) ?_
      refine .ld (.i 29) (ldU8 b3 0) ?_
      refine .two (.i 30) .o (opRem8 hju_.out h0) ?_
      refine .two (.i 31) .o (opNe8 (by decide : decide ((0 : Int) ≠ 1) = true)) ?_
      refine .mv (.i 32) ?_
      refine .no ?_
      refine .no ?_
      refine .no ?_
      refine .no ?_
      refine .no ?_
      refine .pk (.i 33) .o true ?_
      refine .pk (.i 28) (.i 39) true ?_
      refine .mv (.i 40) ?_
      refine .donep [some 43, some 44, some 45, some 46, some 47, some 48, some 49, some 50, some 51, some 52, some 53, some 54, some 55, some 56, some 57, some 58, some 59, some 60, some 61, some 62, some 63, some 64, some 65, some 66, some 67, some 68, some 69, some 70, some 71, some 72, some 73, some 74, some 75, some 76, some 77, some 78, some 79, some 80, some 81, some 82, some 83, some 7] ?_
      intro w6 B6
      exact (HR w6 B6).weaker ⟨fun _ => trivial, fun _ => trivial, fun _ => trivial, fun _ => trivial, fun _ => trivial, fun _ => trivial, fun _ => trivial, fun _ => trivial, fun _ => trivial, fun _ => trivial, fun _ => trivial, fun _ => trivial, fun _ => trivial, fun _ => trivial, fun _ => trivial, fun _ => trivial, fun _ => trivial, fun _ => trivial, fun _ => trivial, fun _ => trivial, fun _ => trivial, fun _ => trivial, fun _ => trivial, fun _ => trivial, fun _ => trivial, fun _ => trivial, fun _ => trivial, fun _ => trivial, fun _ => trivial, fun _ => trivial, fun _ => trivial, fun _ => trivial, fun _ => trivial, fun _ => trivial, fun _ => trivial, fun _ => trivial, fun _ => trivial, fun _ => trivial, fun _ => trivial, fun _ => trivial, fun _ => trivial, rfl, trivial⟩
    · have g5 : 0 ≤ y := by omega
      have g6 : y < (r : Int) := by omega
      have g7 : x ≠ y := by omega
      refine .fa .o (fS1 1) ?_
      refine .ld (.i 0) (ldInt b3 1) ?_
      refine .two (.i 1) .o (opGe (decide_eq_true g1)) ?_
      refine .mv (.i 2) ?_
      refine .fa .o (fS1 1) ?_
      refine .ld (.i 4) (ldInt b3 1) ?_
      refine .fa .o (fM0 0) ?_
      refine .ld (.i 6) (ldInt b2 0) ?_
      refine .two (.i 5) (.i 7) (opLt (decide_eq_true g2)) ?_
      refine .pk (.i 3) (.i 8) true ?_
      refine .mv (.i 9) ?_
      refine .fa .o (fS0 0) ?_
      refine .ld (.i 11) (ldU8 b3 0) ?_
      refine .two (.i 12) .o (opRem8 hju_.out h0) ?_
      refine .two (.i 13) .o (opEq8 (by decide : decide ((1 : Int) = 2) = false)) ?_
      refine .mv (.i 14) ?_
      refine .fa .o (fS2 2) ?_
      refine .ld (.i 16) (ldInt b3 2) ?_
      refine .two (.i 17) .o (opGe (decide_eq_true g5)) ?_
      refine .mv (.i 18) ?_
      refine .fa .o (fS2 2) ?_
      refine .ld (.i 20) (ldInt b3 2) ?_
      refine .fa .o (fM0 0) ?_
      refine .ld (.i 22) (ldInt b2 0) ?_
      refine .two (.i 21) (.i 23) (opLt (decide_eq_true g6)) ?_
      refine .pk (.i 19) (.i 24) true ?_
      refine .pk (.i 15) (.i 25) false ?_
      refine .pk (.i 10) (.i 26) true ?_
      refine .mv (.i 27) ?_
      refine .fa .o (fS0 0) ?_
      refine .ld (.i 29) (ldU8 b3 0) ?_
      refine .two (.i 30) .o (opRem8 hju_.out h0) ?_
      refine .two (.i 31) .o (opNe8 (by decide : decide ((1 : Int) ≠ 1) = false)) ?_
      refine .mv (.i 32) ?_
      refine .fa .o (fS1 1) ?_
      refine .ld (.i 34) (ldInt b3 1) ?_
      refine .fa .o (fS2 2) ?_
      refine .ld (.i 36) (ldInt b3 2) ?_
      refine .two (.i 35) (.i 37) (opNe (decide_eq_true g7)) ?_
      refine .pk (.i 33) (.i 38) false ?_
      refine .pk (.i 28) (.i 39) true ?_
      refine .mv (.i 40) ?_
      refine .donep [some 43, some 44, some 45, some 46, some 47, some 48, some 49, some 50, some 51, some 52, some 53, some 54, some 55, some 56, some 57, some 58, some 59, some 60, some 61, some 62, some 63, some 64, some 65, some 66, some 67, some 68, some 69, some 70, some 71, some 72, some 73, some 74, some 75, some 76, some 77, some 78, some 79, some 80, some 81, some 82, some 83, some 7] ?_
      intro w6 B6
      exact (HR w6 B6).weaker ⟨fun _ => trivial, fun _ => trivial, fun _ => trivial, fun _ => trivial, fun _ => trivial, fun _ => trivial, fun _ => trivial, fun _ => trivial, fun _ => trivial, fun _ => trivial, fun _ => trivial, fun _ => trivial, fun _ => trivial, fun _ => trivial, fun _ => trivial, fun _ => trivial, fun _ => trivial, fun _ => trivial, fun _ => trivial, fun _ => trivial, fun _ => trivial, fun _ => trivial, fun _ => trivial, fun _ => trivial, fun _ => trivial, fun _ => trivial, fun _ => trivial, fun _ => trivial, fun _ => trivial, fun _ => trivial, fun _ => trivial, fun _ => trivial, fun _ => trivial, fun _ => trivial, fun _ => trivial, fun _ => trivial, fun _ => trivial, fun _ => trivial, fun _ => trivial, fun _ => trivial, fun _ => trivial, rfl, trivial⟩
    · refine .fa .o (fS1 1) ?_
      refine .ld (.i 0) (ldInt b3 1) ?_
      refine .two (.i 1) .o (opGe (decide_eq_true g1)) ?_
      refine .mv (.i 2) ?_
      refine .fa .o (fS1 1) ?_
      refine .ld (.i 4) (ldInt b3 1) ?_
      refine .fa .o (fM0 0) ?_
      refine .ld (.i 6) (ldInt b2 0) ?_
      refine .two (.i 5) (.i 7) (opLt (decide_eq_true g2)) ?_
      refine .pk (.i 3) (.i 8) true ?_
      refine .mv (.i 9) ?_
      refine .fa .o (fS0 0) ?_
      refine .ld (.i 11) (ldU8 b3 0) ?_
      refine .two (.i 12) .o (opRem8 hju_.out h0) ?_
      refine .two (.i 13) .o (opEq8 (by decide : decide ((2 : Int) = 2) = true)) ?_
      refine .mv (.i 14) ?_
      refine .no ?_
      refine .no ?_
      refine .no ?_
      refine .no ?_
      refine .no ?_
      refine .no ?_
      refine .no ?_
      refine .no ?_
      refine .no ?_
      refine .no ?_
      refine .pk (.i 15) .o true ?_
      refine .pk (.i 10) (.i 26) true ?_
      refine .mv (.i 27) ?_
      refine .fa .o (fS0 0) ?_
      refine .ld (.i 29) (ldU8 b3 0) ?_
      refine .two (.i 30) .o (opRem8 hju_.out h0) ?_
      refine .two (.i 31) .o (opNe8 (by decide : decide ((2 : Int) ≠ 1) = true)) ?_
      refine .mv (.i 32) ?_
      refine .no ?_
      refine .no ?_
      refine .no ?_
      refine .no ?_
      refine .no ?_
      refine .pk (.i 33) .o true ?_
      refine .pk (.i 28) (.i 39) true ?_
      refine .mv (.i 40) ?_
      refine .donep [some 43, some 44, some 45, some 46, some 47, some 48, some 49, some 50, some 51, some 52, some 53, some 54, some 55, some 56, some 57, some 58, some 59, some 60, some 61, some 62, some 63, some 64, some 65, some 66, some 67, some 68, some 69, some 70, some 71, some 72, some 73, some 74, some 75, some 76, some 77, some 78, some 79, some 80, some 81, some 82, some 83, some 7] ?_
      intro w6 B6
      exact (HR w6 B6).weaker ⟨fun _ => trivial, fun _ => trivial, fun _ => trivial, fun _ => trivial, fun _ => trivial, fun _ => trivial, fun _ => trivial, fun _ => trivial, fun _ => trivial, fun _ => trivial, fun _ => trivial, fun _ => trivial, fun _ => trivial, fun _ => trivial, fun _ => trivial, fun _ => trivial, fun _ => trivial, fun _ => trivial, fun _ => trivial, fun _ => trivial, fun _ => trivial, fun _ => trivial, fun _ => trivial, fun _ => trivial, fun _ => trivial, fun _ => trivial, fun _ => trivial, fun _ => trivial, fun _ => trivial, fun _ => trivial, fun _ => trivial, fun _ => trivial, fun _ => trivial, fun _ => trivial, fun _ => trivial, fun _ => trivial, fun _ => trivial, fun _ => trivial, fun _ => trivial, fun _ => trivial, fun _ => trivial, rfl, trivial⟩
  · intro w6 B6
    rintro y0 -
    rintro y1 -
    rintro y2 -
    rintro y3 -
    rintro y4 -
    rintro y5 -
    rintro y6 -
    rintro y7 -
    rintro y8 -
    rintro y9 -
    rintro y10 -
    rintro y11 -
    rintro y12 -
    rintro y13 -
    rintro y14 -
    rintro y15 -
    rintro y16 -
    rintro y17 -
    rintro y18 -
    rintro y19 -
    rintro y20 -
    rintro y21 -
    rintro y22 -
    rintro y23 -
    rintro y24 -
    rintro y25 -
    rintro y26 -
    rintro y27 -
    rintro y28 -
    rintro y29 -
    rintro y30 -
    rintro y31 -
    rintro y32 -
    rintro y33 -
    rintro y34 -
    rintro y35 -
    rintro y36 -
    rintro y37 -
    rintro y38 -
    rintro y39 -
    rintro y40 -
    change Shut (wpList _ _ _ [] _ _)
    refine ⟨?_⟩
    simp only [Act.put, List.setIfInBounds_toArray, List.set_cons_zero, List.set_cons_succ]
    replace B0 := zup B0 B6
    replace b2 := b2.below B6
    replace b3 := b3.below B6
    replace b5 := b5.below B6
    replace m5 := m5.below B6
    clear B6
    go_upto_region 7 with fail
    refine Run.start 2 ?_
    refine .mv .o ?_
    refine .nt (.i 0) ?_
    refine .donep [some 84, some 85] ?_
    intro w7 B7
    change Shut (wpList _ _ _ [] _ _)
    refine ⟨?_⟩
    simp only [Act.put, List.setIfInBounds_toArray, List.set_cons_zero, List.set_cons_succ]
    replace B0 := zup B0 B7
    replace b2 := b2.below B7
    replace b3 := b3.below B7
    replace b5 := b5.below B7
    replace m5 := m5.below B7
    clear B7
    go_upto_region 9 with fail
    refine Run.start 7 ?_
    refine .fa .o (fM0 0) ?_
    refine .ld (.i 0) (ldInt b2 0) ?_
    refine .c1 (.i 1) (x := kT (kM true r r (1) (unitF)) (.k (.int .i64 0))) (by rintro u_ w2 hB rfl; exact mid_yes hr64) ?_
    refine .mf (.i 2) ?_
    refine .ex (.i 3) 0 kT_0 ?_
    refine .ex (.i 3) 1 kT_1 ?_
    refine .al ?_
    refine .donep [some 93, some 94, some 95, some 92, some 96, some 97, some 8] ?_
    intro w8 B8
    rintro v1 -
    rintro v2 -
    rintro v3 ⟨A8, n8, d8, rfl, m8⟩
    rintro g8 hg8 hl8 hc8 -
    change Shut (wpList _ _ _ [_, _] _ _)
    refine ⟨?_⟩
    simp only [Act.put, List.setIfInBounds_toArray, List.set_cons_zero, List.set_cons_succ]
    have b8 := zeroM hc8
    have hs8 := B0.size
    have hl_b2 := b2.lt
    have hl_b3 := b3.lt
    have hl_b5 := b5.lt
    replace B0 := zup B0 B8
    replace b2 := b2.below B8
    replace b3 := b3.below B8
    replace b5 := b5.below B8
    replace m5 := m5.below B8
    clear B8 hc8
    obtain ⟨w9, hw9⟩ : ∃ x, mput w8 g8 (r : Int) (r : Int) A8 n8 d8 = x := ⟨_, rfl⟩
    obtain ⟨f0_, f1_, f2_, f3_, f4_, f5_, f6_⟩ := b8.m3
    replace b2 := b2.mo (g := g8) (r := (r : Int)) (c := (r : Int)) (A := A8) (n := n8) (d := d8) (by omega)
    rw [hw9] at b2
    replace b3 := b3.mo (g := g8) (r := (r : Int)) (c := (r : Int)) (A := A8) (n := n8) (d := d8) (by omega)
    rw [hw9] at b3
    replace b5 := b5.mo (g := g8) (r := (r : Int)) (c := (r : Int)) (A := A8) (n := n8) (d := d8) (by omega)
    rw [hw9] at b5
    replace m5 := m5.put (r' := (r : Int)) (c' := (r : Int)) (C := A8) (n' := n8) (d' := d8) b8
    rw [hw9] at m5
    replace m8 := m8.put (r' := (r : Int)) (c' := (r : Int)) (C := A8) (n' := n8) (d' := d8) b8
    rw [hw9] at m8
    replace B0 := below_mput (g := g8) (r := (r : Int)) (c := (r : Int)) (A := A8) (n := n8) (d := d8) B0 (by omega)
    rw [hw9] at B0
    replace b8 := b8.mp (g := g8) (r := (r : Int)) (c := (r : Int)) (A := A8) (n := n8) (d := d8)
    rw [hw9] at b8
    have Hw9 := Lib.hid hw9
    unfold mput at Hw9
    clear hw9
    go_upto_region 10 with fail
    rw [Hw9.out]
    clear f0_ f1_ f2_ f3_ f4_ f5_ f6_ Hw9
    clear hs8 hl_b2 hl_b3 hl_b5
    refine Run.start 7 ?_
    refine .ld .o (ldM b8 0) ?_
    refine .ld .o (ldS b3 0) ?_
    refine .c2 (.i 0) (.i 1) (x := kT (kM true r r (m + 1 + 1) (stF j x.toNat y.toNat z unitF)) (.k (.int .i64 0))) (by rintro u_ v_ w2 hB rfl rfl; exact do_there h0 hju_.out (m8.below hB) (hz.below (zup B0 hB)) hst_.out (by omega)) ?_
    refine .mf (.i 2) ?_
    refine .ex (.i 3) 0 kT_0 ?_
    refine .ex (.i 3) 1 kT_1 ?_
    refine .al ?_
    refine .donep [some 99, some 100, some 101, some 98, some 102, some 103, some 10] ?_
    intro w10 B10
    rintro v1 -
    rintro v2 -
    rintro v3 ⟨A10, n10, d10, rfl, m10⟩
    rintro g10 hg10 hl10 hc10 -
    change Shut (wpList _ _ _ [_, _] _ _)
    refine ⟨?_⟩
    simp only [Act.put, List.setIfInBounds_toArray, List.set_cons_zero, List.set_cons_succ]
    have b10 := zeroM hc10
    have hs10 := B0.size
    have hl_b2 := b2.lt
    have hl_b3 := b3.lt
    have hl_b5 := b5.lt
    have hl_b8 := b8.lt
    replace B0 := zup B0 B10
    replace b2 := b2.below B10
    replace b3 := b3.below B10
    replace b5 := b5.below B10
    replace b8 := b8.below B10
    replace m5 := m5.below B10
    replace m8 := m8.below B10
    clear B10 hc10
    obtain ⟨w11, hw11⟩ : ∃ x, mput w10 g10 (r : Int) (r : Int) A10 n10 d10 = x := ⟨_, rfl⟩
    obtain ⟨f0_, f1_, f2_, f3_, f4_, f5_, f6_⟩ := b10.m3
    replace b2 := b2.mo (g := g10) (r := (r : Int)) (c := (r : Int)) (A := A10) (n := n10) (d := d10) (by omega)
    rw [hw11] at b2
    replace b3 := b3.mo (g := g10) (r := (r : Int)) (c := (r : Int)) (A := A10) (n := n10) (d := d10) (by omega)
    rw [hw11] at b3
    replace b5 := b5.mo (g := g10) (r := (r : Int)) (c := (r : Int)) (A := A10) (n := n10) (d := d10) (by omega)
    rw [hw11] at b5
    replace b8 := b8.mo (g := g10) (r := (r : Int)) (c := (r : Int)) (A := A10) (n := n10) (d := d10) (by omega)
    rw [hw11] at b8
    replace m5 := m5.put (r' := (r : Int)) (c' := (r : Int)) (C := A10) (n' := n10) (d' := d10) b10
    rw [hw11] at m5
    replace m8 := m8.put (r' := (r : Int)) (c' := (r : Int)) (C := A10) (n' := n10) (d' := d10) b10
    rw [hw11] at m8
    replace m10 := m10.put (r' := (r : Int)) (c' := (r : Int)) (C := A10) (n' := n10) (d' := d10) b10
    rw [hw11] at m10
    replace B0 := below_mput (g := g10) (r := (r : Int)) (c := (r : Int)) (A := A10) (n := n10) (d := d10) B0 (by omega)
    rw [hw11] at B0
    replace b10 := b10.mp (g := g10) (r := (r : Int)) (c := (r : Int)) (A := A10) (n := n10) (d := d10)
    rw [hw11] at b10
    have Hw11 := Lib.hid hw11
    unfold mput at Hw11
    clear hw11
    go_upto_region 11 with fail
    rw [Hw11.out]
    clear f0_ f1_ f2_ f3_ f4_ f5_ f6_ Hw11
    clear hs10 hl_b2 hl_b3 hl_b5 hl_b8
    have HD : Hid (mk r c (stF j x.toNat y.toNat z F) = mk r c (fun a b => dot (stF j x.toNat y.toNat z unitF) F a b r)) := Lib.hid (mk_congr fun a b ha hb => by
      have hs := hst_.out
      unfold thr at hs
      exact (st_dot hj3_.out (by omega) (by omega) ha).symm)
    refine Run.start 33 ?_
    refine .mv .o ?_
    refine .two (.i 0) .o (opEq (by decide : decide ((0 : Int) = 0) = true)) ?_
    refine .mv (.i 1) ?_
    refine .mv .o ?_
    refine .two (.i 3) .o (opEq (by decide : decide ((0 : Int) = 0) = true)) ?_
    refine .pk (.i 2) (.i 4) true ?_
    refine .mv (.i 5) ?_
    refine .mv .o ?_
    refine .two (.i 7) .o (opEq (by decide : decide ((0 : Int) = 0) = true)) ?_
    refine .pk (.i 6) (.i 8) true ?_
    refine .mv (.i 9) ?_
    refine .ld .o (ldM b8 0) ?_
    refine .fa .o (fM0 0) ?_
    refine .ld (.i 12) (ldInt b2 0) ?_
    refine .fa .o (fM0 0) ?_
    refine .ld (.i 14) (ldInt b2 0) ?_
    refine .fa .o (fM0 0) ?_
    refine .ld (.i 16) (ldInt b2 0) ?_
    refine .c1 (.i 17) (x := kZs 1 (mk r r unitF)) (by rintro u_ w2 hB rfl; exact rone_q hr64) ?_
    refine .c4 (.i 11) (.i 13) (.i 15) (.i 18) (x := .k (.bool true)) (by rintro u_ v_ x_ y_ w2 hB rfl rfl rfl ⟨A12, n12, d12, rfl, hz12⟩; exact ris_q (m8.below hB) hz12 (by omega) (by omega)) ?_
    refine .pk (.i 10) (.i 19) true ?_
    refine .mv (.i 20) ?_
    refine .ld .o (ldM b5 0) ?_
    refine .fa .o (fM0 0) ?_
    refine .ld (.i 23) (ldInt b2 0) ?_
    refine .fa .o (fM1 1) ?_
    refine .ld (.i 25) (ldInt b2 1) ?_
    refine .ld .o (ldM b10 0) ?_
    refine .ld .o (ldM b2 0) ?_
    refine .c2 (.i 27) (.i 28) (x := kZs (m + 1 + 1 + 3 + r) (mk r c (fun a b => dot (stF j x.toNat y.toNat z unitF) F a b r))) (by rintro u_ v_ w2 hB rfl rfl; exact rmul_q (m10.below hB) (hA.below (zup B0 hB)) rfl (by omega)) ?_
    refine .c4 (.i 22) (.i 24) (.i 26) (.i 29) (x := .k (.bool true)) (by rintro u_ v_ x_ y_ w2 hB rfl rfl rfl ⟨A12, n12, d12, rfl, hz12⟩; exact ris_q (m5.below hB) (hz12.to HD.out) (by omega) (by omega)) ?_
    refine .pk (.i 21) (.i 30) true ?_
    refine .mv (.i 31) ?_
    refine .done [some 104, some 105, some 106, some 107, some 108, some 109, some 110, some 111, some 112, some 113, some 114, some 115, some 116, some 117, some 118, some 119, some 120, some 121, some 122, some 123, some 124, some 125, some 126, some 127, some 128, some 129, some 130, some 131, some 132, some 133, some 134, some 135, some 4] ?_
    intro w12 B12
    rintro v0 -
    rintro v1 -
    change Shut (wpList _ _ _ [] _ _)
    refine ⟨?_⟩
    simp only [Act.put, List.setIfInBounds_toArray, List.set_cons_zero, List.set_cons_succ]
    go_wp2_with fail
    exact bodyPost_ret (v := .bool true) (by simp [results, Try.results5, go_sem]) rfl (ret_k rfl (zup B0 B12))
/-- MatRows. -/
theorem rows11_law {r₀ c₀ : Int} {u x y : Int} {A D : Option Addr} {n d m e : Nat} {s : Bool} {z : Int} {Ra : List Zr} {w : World} (ha : RL w A n d Ra) (hz : Zv w s D m e z) (h0 : 0 ≤ u) : Calls Try.prog 5 #[.agg #[.int .i64 r₀, .int .i64 c₀, .slice A n d], .agg #[.int .u8 u, .int .i64 x, .int .i64 y, .bool s, .slice D m e]] w (RetK (.k (.bool true)) w) := by
  by_cases h : (fewb r₀ c₀ Ra 6 3 && fewb r₀ c₀ Ra 6 3) = true ∧ m ≤ 3
  · obtain ⟨ht, hm⟩ := h
    have h1 := ht
    rw [Bool.and_eq_true] at h1
    cases hf : fmd r₀ c₀ n with
    | false => exact rows11_no ha hz h0 ht hm hf
    | true =>
      obtain ⟨r, c, rfl, rfl, _, _, _, hA⟩ := ha.mt hf h1.1
      by_cases hs : thr (u % 3) (r : Int) x y
      · exact rows11_there ha hz h0 ht hm hA rfl hs
      · exact rows11_away ha hz h0 ht hm hA rfl hs
  · exact rows11_off ha hz h0 h
end Go.Proofs.Ytcdkdanfiimlkaa
