/-
  The law MatAdds.
-/
import Derived.Test.YtcdkdanfiimlkaaMtP
/-! The law's walk: sums, differences, multiples. -/
namespace Go.Proofs.Ytcdkdanfiimlkaa
open Go.RowKit
set_option linter.unusedVariables false
set_option linter.unusedSimpArgs false

set_option maxRecDepth 100000 in
/-- MatAdds, of what isn't looked at. -/
theorem adds11_off {r c r' c' : Int} {A A' D : Option Addr} {n d n' d' m e : Nat} {s : Bool} {z : Int} {Ra Rb : List Zr} {w : World} (ha : RL w A n d Ra) (hb : RL w A' n' d' Rb) (hz : Zv w s D m e z) (h : ¬ ((fewb r c Ra 6 3 && fewb r' c' Rb 6 3) = true ∧ m ≤ 3)) : Calls Try.prog 3 #[.agg #[.int .i64 r, .int .i64 c, .slice A n d], .agg #[.int .i64 r', .int .i64 c', .slice A' n' d'], .agg #[.bool s, .slice D m e]] w (RetK (.k (.bool true)) w) := by
  obtain ⟨t, ht⟩ : ∃ t, (fewb r c Ra 6 3 && fewb r' c' Rb 6 3) = t := ⟨_, rfl⟩
  rw [ht] at h
  obtain ⟨w1, hw1, b3, b4, b5, z1, s1⟩ := boxes3 w 24 24 28 [.int .i64 r, .int .i64 c, .slice A n d] [.int .i64 r', .int .i64 c', .slice A' n' d'] [.bool s, .slice D m e]
  have HW := Lib.hid hw1
  have HZ := Lib.hid z1
  have ht_ := Lib.hid ht
  clear hw1 z1 ht s1
  go_enter Try.func3, Try.ntmps3
  go_upto_region 1 with fail
  rw [HW.out]
  cases t
  · refine Run.start 14 ?_
    refine .c0 (x := .k (.bool true)) (fun w2 hB => awake11_q w2) ?_
    refine .nt (.i 0) ?_
    refine .mv (.i 1) ?_
    refine .ld .o (ldM b3 0) ?_
    refine .ld .o (ldM b4 0) ?_
    refine .c2 (.i 3) (.i 4) (x := .k (.bool false)) (by rintro u v w2 hB rfl rfl; exact lfew_q (ha.below (zup HZ.out hB)) (hb.below (zup HZ.out hB)) ht_.out) ?_
    refine .nf (.i 5) ?_
    refine .pk (.i 2) (.i 6) false ?_
    refine .mv (.i 7) ?_
    refine .no ?_
    refine .no ?_
    refine .no ?_
    refine .no ?_
    refine .pk (.i 8) .o true ?_
    refine .donep [some 18, some 19, some 20, some 21, some 22, some 23, some 24, some 25, some 26, some 27, some 28, some 29, some 30, some 31] ?_
    intro w2 B2
    change Shut (wpList _ _ _ [] _ _)
    refine ⟨?_⟩
    simp only [Act.put, List.setIfInBounds_toArray, List.set_cons_zero, List.set_cons_succ]
    have B0 := zup HZ.out B2
    clear b3 b4 b5 B2
    go_upto_region 2 with fail
    refine Run.start 2 ?_
    refine .c0 (x := .k (.bool true)) (fun w2 hB => awake11_q w2) ?_
    refine .mv (.i 0) ?_
    refine .donep [some 32, some 6] ?_
    intro w3 B3
    change Shut (wpList _ _ _ [] _ _)
    refine ⟨?_⟩
    simp only [Act.put, List.setIfInBounds_toArray, List.set_cons_zero, List.set_cons_succ]
    go_wp2_with fail
    exact bodyPost_ret (v := .bool true) (by simp [results, Try.results3, go_sem]) rfl (ret_k rfl (zup B0 B3))
  · have g30 : 3 < m := by simp at h; omega
    refine Run.start 14 ?_
    refine .c0 (x := .k (.bool true)) (fun w2 hB => awake11_q w2) ?_
    refine .nt (.i 0) ?_
    refine .mv (.i 1) ?_
    refine .ld .o (ldM b3 0) ?_
    refine .ld .o (ldM b4 0) ?_
    refine .c2 (.i 3) (.i 4) (x := .k (.bool true)) (by rintro u v w2 hB rfl rfl; exact lfew_q (ha.below (zup HZ.out hB)) (hb.below (zup HZ.out hB)) ht_.out) ?_
    refine .nt (.i 5) ?_
    refine .pk (.i 2) (.i 6) false ?_
    refine .mv (.i 7) ?_
    refine .fa .o (fZ1 1) ?_
    refine .ld (.i 9) (ldNat b5 1) ?_
    refine .len (.i 10) Try.underlying26 ?_
    refine .two (.i 11) .o (opGt (decide_eq_true (by omega : (3 : Int) < (m : Int)))) ?_
    refine .pk (.i 8) (.i 12) false ?_
    refine .donep [some 18, some 19, some 20, some 21, some 22, some 23, some 24, some 25, some 26, some 27, some 28, some 29, some 30, some 31] ?_
    intro w2 B2
    change Shut (wpList _ _ _ [] _ _)
    refine ⟨?_⟩
    simp only [Act.put, List.setIfInBounds_toArray, List.set_cons_zero, List.set_cons_succ]
    have B0 := zup HZ.out B2
    clear b3 b4 b5 B2
    go_upto_region 2 with fail
    refine Run.start 2 ?_
    refine .c0 (x := .k (.bool true)) (fun w2 hB => awake11_q w2) ?_
    refine .mv (.i 0) ?_
    refine .donep [some 32, some 6] ?_
    intro w3 B3
    change Shut (wpList _ _ _ [] _ _)
    refine ⟨?_⟩
    simp only [Act.put, List.setIfInBounds_toArray, List.set_cons_zero, List.set_cons_succ]
    go_wp2_with fail
    exact bodyPost_ret (v := .bool true) (by simp [results, Try.results3, go_sem]) rfl (ret_k rfl (zup B0 B3))
set_option maxRecDepth 100000 in
set_option maxHeartbeats 1000000 in
/-- MatAdds, of a matrix that isn't formed. -/
theorem adds11_no {r c r' c' : Int} {A A' D : Option Addr} {n d n' d' m e : Nat} {s : Bool} {z : Int} {Ra Rb : List Zr} {w : World} (ha : RL w A n d Ra) (hb : RL w A' n' d' Rb) (hz : Zv w s D m e z) (ht : (fewb r c Ra 6 3 && fewb r' c' Rb 6 3) = true) (hm : m ≤ 3) (hf : fmd r c n = false) : Calls Try.prog 3 #[.agg #[.int .i64 r, .int .i64 c, .slice A n d], .agg #[.int .i64 r', .int .i64 c', .slice A' n' d'], .agg #[.bool s, .slice D m e]] w (RetK (.k (.bool true)) w) := by
  obtain ⟨w1, hw1, b3, b4, b5, z1, s1⟩ := boxes3 w 24 24 28 [.int .i64 r, .int .i64 c, .slice A n d] [.int .i64 r', .int .i64 c', .slice A' n' d'] [.bool s, .slice D m e]
  have HW := Lib.hid hw1
  have HZ := Lib.hid z1
  have ht_ := Lib.hid ht
  have hf_ := Lib.hid hf
  clear hw1 z1 ht hf s1
  go_enter Try.func3, Try.ntmps3
  go_upto_region 1 with fail
  rw [HW.out]
  refine Run.start 14 ?_
  refine .c0 (x := .k (.bool true)) (fun w2 hB => awake11_q w2) ?_
  refine .nt (.i 0) ?_
  refine .mv (.i 1) ?_
  refine .ld .o (ldM b3 0) ?_
  refine .ld .o (ldM b4 0) ?_
  refine .c2 (.i 3) (.i 4) (x := .k (.bool true)) (by rintro u v w2 hB rfl rfl; exact lfew_q (ha.below (zup HZ.out hB)) (hb.below (zup HZ.out hB)) ht_.out) ?_
  refine .nt (.i 5) ?_
  refine .pk (.i 2) (.i 6) false ?_
  refine .mv (.i 7) ?_
  refine .fa .o (fZ1 1) ?_
  refine .ld (.i 9) (ldNat b5 1) ?_
  refine .len (.i 10) Try.underlying26 ?_
  refine .two (.i 11) .o (opGt (decide_eq_false (by omega : ¬ (3 : Int) < (m : Int)))) ?_
  refine .pk (.i 8) (.i 12) false ?_
  refine .donep [some 18, some 19, some 20, some 21, some 22, some 23, some 24, some 25, some 26, some 27, some 28, some 29, some 30, some 31] ?_
  intro w2 B2
  change Shut (wpList _ _ _ [] _ _)
  refine ⟨?_⟩
  simp only [Act.put, List.setIfInBounds_toArray, List.set_cons_zero, List.set_cons_succ]
  have B0 := zup HZ.out B2
  replace b3 := b3.below B2
  replace b4 := b4.below B2
  replace b5 := b5.below B2
  clear B2 HZ
  go_upto_region 3 with fail
  refine Run.start 7 ?_
  refine .ld .o (ldM b3 0) ?_
  refine .ld .o (ldM b4 0) ?_
  refine .c2 (.i 0) (.i 1) (x := noM 2) (by rintro u v w2 hB rfl rfl; exact madd_no (by rw [hf_.out]; rfl)) ?_
  refine .mv (.i 2) ?_
  refine .ex (.i 3) 0 exM0 ?_
  refine .ex (.i 3) 1 exM1 ?_
  refine .al ?_
  refine .donep [some 34, some 35, some 36, some 33, some 37, some 38, some 7] ?_
  intro w3 B3
  rintro g7 hg7 hl7 hc7 -
  change Shut (wpList _ _ _ [_, _] _ _)
  refine ⟨?_⟩
  simp only [Act.put, List.setIfInBounds_toArray, List.set_cons_zero, List.set_cons_succ]
  have b7 := zeroM hc7
  have hs7 := B0.size
  have hl_b3 := b3.lt
  have hl_b4 := b4.lt
  have hl_b5 := b5.lt
  replace B0 := zup B0 B3
  replace b3 := b3.below B3
  replace b4 := b4.below B3
  replace b5 := b5.below B3
  clear B3 hc7
  obtain ⟨w4, hw4⟩ : ∃ x, mput w3 g7 0 0 none 0 0 = x := ⟨_, rfl⟩
  obtain ⟨f0_, f1_, f2_, f3_, f4_, f5_, f6_⟩ := b7.m3
  replace b3 := b3.mo (g := g7) (r := 0) (c := 0) (A := none) (n := 0) (d := 0) (by omega)
  rw [hw4] at b3
  replace b4 := b4.mo (g := g7) (r := 0) (c := 0) (A := none) (n := 0) (d := 0) (by omega)
  rw [hw4] at b4
  replace b5 := b5.mo (g := g7) (r := 0) (c := 0) (A := none) (n := 0) (d := 0) (by omega)
  rw [hw4] at b5
  replace B0 := below_mput (g := g7) (r := 0) (c := 0) (A := none) (n := 0) (d := 0) B0 (by omega)
  rw [hw4] at B0
  replace b7 := b7.mp (g := g7) (r := 0) (c := 0) (A := none) (n := 0) (d := 0)
  rw [hw4] at b7
  have Hw4 := Lib.hid hw4
  unfold mput at Hw4
  clear hw4
  go_upto_region 4 with fail
  rw [Hw4.out]
  clear f0_ f1_ f2_ f3_ f4_ f5_ f6_ Hw4
  clear hs7 hl_b3 hl_b4 hl_b5
  refine Run.start 7 ?_
  refine .ld .o (ldM b3 0) ?_
  refine .ld .o (ldM b4 0) ?_
  refine .c2 (.i 0) (.i 1) (x := noM 2) (by rintro u v w2 hB rfl rfl; exact msub_no (by rw [hf_.out]; rfl)) ?_
  refine .mv (.i 2) ?_
  refine .ex (.i 3) 0 exM0 ?_
  refine .ex (.i 3) 1 exM1 ?_
  refine .al ?_
  refine .donep [some 40, some 41, some 42, some 39, some 43, some 44, some 9] ?_
  intro w5 B5
  rintro g9 hg9 hl9 hc9 -
  change Shut (wpList _ _ _ [_, _] _ _)
  refine ⟨?_⟩
  simp only [Act.put, List.setIfInBounds_toArray, List.set_cons_zero, List.set_cons_succ]
  have b9 := zeroM hc9
  have hs9 := B0.size
  have hl_b3 := b3.lt
  have hl_b4 := b4.lt
  have hl_b5 := b5.lt
  have hl_b7 := b7.lt
  replace B0 := zup B0 B5
  replace b3 := b3.below B5
  replace b4 := b4.below B5
  replace b5 := b5.below B5
  replace b7 := b7.below B5
  clear B5 hc9
  obtain ⟨w6, hw6⟩ : ∃ x, mput w5 g9 0 0 none 0 0 = x := ⟨_, rfl⟩
  obtain ⟨f0_, f1_, f2_, f3_, f4_, f5_, f6_⟩ := b9.m3
  replace b3 := b3.mo (g := g9) (r := 0) (c := 0) (A := none) (n := 0) (d := 0) (by omega)
  rw [hw6] at b3
  replace b4 := b4.mo (g := g9) (r := 0) (c := 0) (A := none) (n := 0) (d := 0) (by omega)
  rw [hw6] at b4
  replace b5 := b5.mo (g := g9) (r := 0) (c := 0) (A := none) (n := 0) (d := 0) (by omega)
  rw [hw6] at b5
  replace b7 := b7.mo (g := g9) (r := 0) (c := 0) (A := none) (n := 0) (d := 0) (by omega)
  rw [hw6] at b7
  replace B0 := below_mput (g := g9) (r := 0) (c := 0) (A := none) (n := 0) (d := 0) B0 (by omega)
  rw [hw6] at B0
  replace b9 := b9.mp (g := g9) (r := 0) (c := 0) (A := none) (n := 0) (d := 0)
  rw [hw6] at b9
  have Hw6 := Lib.hid hw6
  unfold mput at Hw6
  clear hw6
  go_upto_region 5 with fail
  rw [Hw6.out]
  clear f0_ f1_ f2_ f3_ f4_ f5_ f6_ Hw6
  clear hs9 hl_b3 hl_b4 hl_b5 hl_b7
  refine Run.start 7 ?_
  refine .ld .o (ldM b3 0) ?_
  refine .ld .o (ldZ b5 0) ?_
  refine .c2 (.i 0) (.i 1) (x := noM 2) (by rintro u v w2 hB rfl rfl; exact mscale_no hf_.out) ?_
  refine .mv (.i 2) ?_
  refine .ex (.i 3) 0 exM0 ?_
  refine .ex (.i 3) 1 exM1 ?_
  refine .al ?_
  refine .donep [some 46, some 47, some 48, some 45, some 49, some 50, some 11] ?_
  intro w7 B7
  rintro g11 hg11 hl11 hc11 -
  change Shut (wpList _ _ _ [_, _] _ _)
  refine ⟨?_⟩
  simp only [Act.put, List.setIfInBounds_toArray, List.set_cons_zero, List.set_cons_succ]
  have b11 := zeroM hc11
  have hs11 := B0.size
  have hl_b3 := b3.lt
  have hl_b4 := b4.lt
  have hl_b5 := b5.lt
  have hl_b7 := b7.lt
  have hl_b9 := b9.lt
  replace B0 := zup B0 B7
  replace b3 := b3.below B7
  replace b4 := b4.below B7
  replace b5 := b5.below B7
  replace b7 := b7.below B7
  replace b9 := b9.below B7
  clear B7 hc11
  obtain ⟨w8, hw8⟩ : ∃ x, mput w7 g11 0 0 none 0 0 = x := ⟨_, rfl⟩
  obtain ⟨f0_, f1_, f2_, f3_, f4_, f5_, f6_⟩ := b11.m3
  replace b3 := b3.mo (g := g11) (r := 0) (c := 0) (A := none) (n := 0) (d := 0) (by omega)
  rw [hw8] at b3
  replace b4 := b4.mo (g := g11) (r := 0) (c := 0) (A := none) (n := 0) (d := 0) (by omega)
  rw [hw8] at b4
  replace b5 := b5.mo (g := g11) (r := 0) (c := 0) (A := none) (n := 0) (d := 0) (by omega)
  rw [hw8] at b5
  replace b7 := b7.mo (g := g11) (r := 0) (c := 0) (A := none) (n := 0) (d := 0) (by omega)
  rw [hw8] at b7
  replace b9 := b9.mo (g := g11) (r := 0) (c := 0) (A := none) (n := 0) (d := 0) (by omega)
  rw [hw8] at b9
  replace B0 := below_mput (g := g11) (r := 0) (c := 0) (A := none) (n := 0) (d := 0) B0 (by omega)
  rw [hw8] at B0
  replace b11 := b11.mp (g := g11) (r := 0) (c := 0) (A := none) (n := 0) (d := 0)
  rw [hw8] at b11
  have Hw8 := Lib.hid hw8
  unfold mput at Hw8
  clear hw8
  go_upto_region 6 with fail
  rw [Hw8.out]
  clear f0_ f1_ f2_ f3_ f4_ f5_ f6_ Hw8
  clear hs11 hl_b3 hl_b4 hl_b5 hl_b7 hl_b9
  refine Run.start 3 ?_
  refine .ld .o (ldM b3 0) ?_
  refine .c1 (.i 0) (x := .k (.bool false)) (by rintro u w2 hB rfl; exact rformed_q hf_.out w2) ?_
  refine .nf (.i 1) ?_
  refine .donep [some 51, some 52, some 53] ?_
  intro w9 B9
  change Shut (wpList _ _ _ [] _ _)
  refine ⟨?_⟩
  simp only [Act.put, List.setIfInBounds_toArray, List.set_cons_zero, List.set_cons_succ]
  replace B0 := zup B0 B9
  replace b7 := b7.below B9
  replace b9 := b9.below B9
  replace b11 := b11.below B9
  clear B9
  go_upto_region 7 with fail
  refine Run.start 23 ?_
  refine .mv .o ?_
  refine .two (.i 0) .o (opEq (by decide : decide ((2 : Int) = 2) = true)) ?_
  refine .mv (.i 1) ?_
  refine .mv .o ?_
  refine .two (.i 3) .o (opEq (by decide : decide ((2 : Int) = 2) = true)) ?_
  refine .pk (.i 2) (.i 4) true ?_
  refine .mv (.i 5) ?_
  refine .mv .o ?_
  refine .two (.i 7) .o (opEq (by decide : decide ((2 : Int) = 2) = true)) ?_
  refine .pk (.i 6) (.i 8) true ?_
  refine .mv (.i 9) ?_
  refine .ld .o (ldM b7 0) ?_
  refine .c1 (.i 11) (x := .k (.bool true)) (by rintro u w2 hB rfl; exact rnone_q w2) ?_
  refine .pk (.i 10) (.i 12) true ?_
  refine .mv (.i 13) ?_
  refine .ld .o (ldM b9 0) ?_
  refine .c1 (.i 15) (x := .k (.bool true)) (by rintro u w2 hB rfl; exact rnone_q w2) ?_
  refine .pk (.i 14) (.i 16) true ?_
  refine .mv (.i 17) ?_
  refine .ld .o (ldM b11 0) ?_
  refine .c1 (.i 19) (x := .k (.bool true)) (by rintro u w2 hB rfl; exact rnone_q w2) ?_
  refine .pk (.i 18) (.i 20) true ?_
  refine .mv (.i 21) ?_
  refine .donep [some 54, some 55, some 56, some 57, some 58, some 59, some 60, some 61, some 62, some 63, some 64, some 65, some 66, some 67, some 68, some 69, some 70, some 71, some 72, some 73, some 74, some 75, some 6] ?_
  intro w10 B10
  change Shut (wpList _ _ _ [] _ _)
  refine ⟨?_⟩
  simp only [Act.put, List.setIfInBounds_toArray, List.set_cons_zero, List.set_cons_succ]
  go_wp2_with fail
  exact bodyPost_ret (v := .bool true) (by simp [results, Try.results3, go_sem]) rfl (ret_k rfl (zup B0 B10))
set_option maxRecDepth 100000 in
set_option maxHeartbeats 2000000 in
/-- MatAdds, of two matrices that don't go together. -/
theorem adds11_other {r c : Nat} {r' c' : Int} {A A' D : Option Addr} {n d n' d' m e : Nat} {s : Bool} {z : Int} {Ra Rb : List Zr} {w : World} (ha : RL w A n d Ra) (hb : RL w A' n' d' Rb) (hz : Zv w s D m e z) (ht : (fewb r c Ra 6 3 && fewb r' c' Rb 6 3) = true) (hm : m ≤ 3) (hA : Mt false w r c A n d 3 (mf Ra c)) (hr6 : r ≤ 6) (hc6 : c ≤ 6) (hs : (fmd r' c' n' && (decide ((r : Int) = r') && decide ((c : Int) = c'))) = false) : Calls Try.prog 3 #[.agg #[.int .i64 (r : Int), .int .i64 (c : Int), .slice A n d], .agg #[.int .i64 r', .int .i64 c', .slice A' n' d'], .agg #[.bool s, .slice D m e]] w (RetK (.k (.bool true)) w) := by
  have hn := hA.len
  have hlenA := ha.len
  have hbig : r * c ≤ 6 * 6 := Nat.mul_le_mul hr6 hc6
  have hn36 : n ≤ 36 := by omega
  have hfa := hA.fmd
  obtain ⟨w1, hw1, b3, b4, b5, z1, s1⟩ := boxes3 w 24 24 28 [.int .i64 (r : Int), .int .i64 (c : Int), .slice A n d] [.int .i64 r', .int .i64 c', .slice A' n' d'] [.bool s, .slice D m e]
  have HW := Lib.hid hw1
  have HZ := Lib.hid z1
  have ht_ := Lib.hid ht
  have hn_ := Lib.hid hn
  have hfa_ := Lib.hid hfa
  have hlenA_ := Lib.hid hlenA
  have hs_ := Lib.hid hs
  clear hw1 z1 ht hn hfa hlenA hs s1
  go_enter Try.func3, Try.ntmps3
  go_upto_region 1 with fail
  rw [HW.out]
  refine Run.start 14 ?_
  refine .c0 (x := .k (.bool true)) (fun w2 hB => awake11_q w2) ?_
  refine .nt (.i 0) ?_
  refine .mv (.i 1) ?_
  refine .ld .o (ldM b3 0) ?_
  refine .ld .o (ldM b4 0) ?_
  refine .c2 (.i 3) (.i 4) (x := .k (.bool true)) (by rintro u v w2 hB rfl rfl; exact lfew_q (ha.below (zup HZ.out hB)) (hb.below (zup HZ.out hB)) ht_.out) ?_
  refine .nt (.i 5) ?_
  refine .pk (.i 2) (.i 6) false ?_
  refine .mv (.i 7) ?_
  refine .fa .o (fZ1 1) ?_
  refine .ld (.i 9) (ldNat b5 1) ?_
  refine .len (.i 10) Try.underlying26 ?_
  refine .two (.i 11) .o (opGt (decide_eq_false (by omega : ¬ (3 : Int) < (m : Int)))) ?_
  refine .pk (.i 8) (.i 12) false ?_
  refine .donep [some 18, some 19, some 20, some 21, some 22, some 23, some 24, some 25, some 26, some 27, some 28, some 29, some 30, some 31] ?_
  intro w2 B2
  change Shut (wpList _ _ _ [] _ _)
  refine ⟨?_⟩
  simp only [Act.put, List.setIfInBounds_toArray, List.set_cons_zero, List.set_cons_succ]
  have B0 := zup HZ.out B2
  replace b3 := b3.below B2
  replace b4 := b4.below B2
  replace b5 := b5.below B2
  clear B2 HZ
  go_upto_region 3 with fail
  refine Run.start 7 ?_
  refine .ld .o (ldM b3 0) ?_
  refine .ld .o (ldM b4 0) ?_
  refine .c2 (.i 0) (.i 1) (x := noM 2) (by rintro u v w2 hB rfl rfl; exact madd_no (by rw [hfa_.out, Bool.true_and]; exact hs_.out)) ?_
  refine .mv (.i 2) ?_
  refine .ex (.i 3) 0 exM0 ?_
  refine .ex (.i 3) 1 exM1 ?_
  refine .al ?_
  refine .donep [some 34, some 35, some 36, some 33, some 37, some 38, some 7] ?_
  intro w3 B3
  rintro g7 hg7 hl7 hc7 -
  change Shut (wpList _ _ _ [_, _] _ _)
  refine ⟨?_⟩
  simp only [Act.put, List.setIfInBounds_toArray, List.set_cons_zero, List.set_cons_succ]
  have b7 := zeroM hc7
  have hs7 := B0.size
  have hl_b3 := b3.lt
  have hl_b4 := b4.lt
  have hl_b5 := b5.lt
  replace B0 := zup B0 B3
  replace b3 := b3.below B3
  replace b4 := b4.below B3
  replace b5 := b5.below B3
  clear B3 hc7
  obtain ⟨w4, hw4⟩ : ∃ x, mput w3 g7 0 0 none 0 0 = x := ⟨_, rfl⟩
  obtain ⟨f0_, f1_, f2_, f3_, f4_, f5_, f6_⟩ := b7.m3
  replace b3 := b3.mo (g := g7) (r := 0) (c := 0) (A := none) (n := 0) (d := 0) (by omega)
  rw [hw4] at b3
  replace b4 := b4.mo (g := g7) (r := 0) (c := 0) (A := none) (n := 0) (d := 0) (by omega)
  rw [hw4] at b4
  replace b5 := b5.mo (g := g7) (r := 0) (c := 0) (A := none) (n := 0) (d := 0) (by omega)
  rw [hw4] at b5
  replace B0 := below_mput (g := g7) (r := 0) (c := 0) (A := none) (n := 0) (d := 0) B0 (by omega)
  rw [hw4] at B0
  replace b7 := b7.mp (g := g7) (r := 0) (c := 0) (A := none) (n := 0) (d := 0)
  rw [hw4] at b7
  have Hw4 := Lib.hid hw4
  unfold mput at Hw4
  clear hw4
  go_upto_region 4 with fail
  rw [Hw4.out]
  clear f0_ f1_ f2_ f3_ f4_ f5_ f6_ Hw4
  clear hs7 hl_b3 hl_b4 hl_b5
  refine Run.start 7 ?_
  refine .ld .o (ldM b3 0) ?_
  refine .ld .o (ldM b4 0) ?_
  refine .c2 (.i 0) (.i 1) (x := noM 2) (by rintro u v w2 hB rfl rfl; exact msub_no (by rw [hfa_.out, Bool.true_and]; exact hs_.out)) ?_
  refine .mv (.i 2) ?_
  refine .ex (.i 3) 0 exM0 ?_
  refine .ex (.i 3) 1 exM1 ?_
  refine .al ?_
  refine .donep [some 40, some 41, some 42, some 39, some 43, some 44, some 9] ?_
  intro w5 B5
  rintro g9 hg9 hl9 hc9 -
  change Shut (wpList _ _ _ [_, _] _ _)
  refine ⟨?_⟩
  simp only [Act.put, List.setIfInBounds_toArray, List.set_cons_zero, List.set_cons_succ]
  have b9 := zeroM hc9
  have hs9 := B0.size
  have hl_b3 := b3.lt
  have hl_b4 := b4.lt
  have hl_b5 := b5.lt
  have hl_b7 := b7.lt
  replace B0 := zup B0 B5
  replace b3 := b3.below B5
  replace b4 := b4.below B5
  replace b5 := b5.below B5
  replace b7 := b7.below B5
  clear B5 hc9
  obtain ⟨w6, hw6⟩ : ∃ x, mput w5 g9 0 0 none 0 0 = x := ⟨_, rfl⟩
  obtain ⟨f0_, f1_, f2_, f3_, f4_, f5_, f6_⟩ := b9.m3
  replace b3 := b3.mo (g := g9) (r := 0) (c := 0) (A := none) (n := 0) (d := 0) (by omega)
  rw [hw6] at b3
  replace b4 := b4.mo (g := g9) (r := 0) (c := 0) (A := none) (n := 0) (d := 0) (by omega)
  rw [hw6] at b4
  replace b5 := b5.mo (g := g9) (r := 0) (c := 0) (A := none) (n := 0) (d := 0) (by omega)
  rw [hw6] at b5
  replace b7 := b7.mo (g := g9) (r := 0) (c := 0) (A := none) (n := 0) (d := 0) (by omega)
  rw [hw6] at b7
  replace B0 := below_mput (g := g9) (r := 0) (c := 0) (A := none) (n := 0) (d := 0) B0 (by omega)
  rw [hw6] at B0
  replace b9 := b9.mp (g := g9) (r := 0) (c := 0) (A := none) (n := 0) (d := 0)
  rw [hw6] at b9
  have Hw6 := Lib.hid hw6
  unfold mput at Hw6
  clear hw6
  go_upto_region 5 with fail
  rw [Hw6.out]
  clear f0_ f1_ f2_ f3_ f4_ f5_ f6_ Hw6
  clear hs9 hl_b3 hl_b4 hl_b5 hl_b7
  refine Run.start 7 ?_
  refine .ld .o (ldM b3 0) ?_
  refine .ld .o (ldZ b5 0) ?_
  refine .c2 (.i 0) (.i 1) (x := kT (kM true r c (m + 3) (fun i j => z * mf Ra c i j)) (.k (.int .i64 0))) (by rintro u v w2 hB rfl rfl; exact mscale_yes (hA.below (zup B0 hB)) (hz.below (zup B0 hB)) (by decide) (by omega)) ?_
  refine .mf (.i 2) ?_
  refine .ex (.i 3) 0 kT_0 ?_
  refine .ex (.i 3) 1 kT_1 ?_
  refine .al ?_
  refine .donep [some 46, some 47, some 48, some 45, some 49, some 50, some 11] ?_
  intro w7 B7
  rintro v1 -
  rintro v2 -
  rintro v3 ⟨A11, n11, d11, rfl, m11⟩
  rintro g11 hg11 hl11 hc11 -
  change Shut (wpList _ _ _ [_, _] _ _)
  refine ⟨?_⟩
  simp only [Act.put, List.setIfInBounds_toArray, List.set_cons_zero, List.set_cons_succ]
  have b11 := zeroM hc11
  have hs11 := B0.size
  have hl_b3 := b3.lt
  have hl_b4 := b4.lt
  have hl_b5 := b5.lt
  have hl_b7 := b7.lt
  have hl_b9 := b9.lt
  replace B0 := zup B0 B7
  replace b3 := b3.below B7
  replace b4 := b4.below B7
  replace b5 := b5.below B7
  replace b7 := b7.below B7
  replace b9 := b9.below B7
  clear B7 hc11
  obtain ⟨w8, hw8⟩ : ∃ x, mput w7 g11 (r : Int) (c : Int) A11 n11 d11 = x := ⟨_, rfl⟩
  obtain ⟨f0_, f1_, f2_, f3_, f4_, f5_, f6_⟩ := b11.m3
  replace b3 := b3.mo (g := g11) (r := (r : Int)) (c := (c : Int)) (A := A11) (n := n11) (d := d11) (by omega)
  rw [hw8] at b3
  replace b4 := b4.mo (g := g11) (r := (r : Int)) (c := (c : Int)) (A := A11) (n := n11) (d := d11) (by omega)
  rw [hw8] at b4
  replace b5 := b5.mo (g := g11) (r := (r : Int)) (c := (c : Int)) (A := A11) (n := n11) (d := d11) (by omega)
  rw [hw8] at b5
  replace b7 := b7.mo (g := g11) (r := (r : Int)) (c := (c : Int)) (A := A11) (n := n11) (d := d11) (by omega)
  rw [hw8] at b7
  replace b9 := b9.mo (g := g11) (r := (r : Int)) (c := (c : Int)) (A := A11) (n := n11) (d := d11) (by omega)
  rw [hw8] at b9
  replace m11 := m11.put (r' := (r : Int)) (c' := (c : Int)) (C := A11) (n' := n11) (d' := d11) b11
  rw [hw8] at m11
  replace B0 := below_mput (g := g11) (r := (r : Int)) (c := (c : Int)) (A := A11) (n := n11) (d := d11) B0 (by omega)
  rw [hw8] at B0
  replace b11 := b11.mp (g := g11) (r := (r : Int)) (c := (c : Int)) (A := A11) (n := n11) (d := d11)
  rw [hw8] at b11
  have Hw8 := Lib.hid hw8
  unfold mput at Hw8
  clear hw8
  go_upto_region 6 with fail
  rw [Hw8.out]
  clear f0_ f1_ f2_ f3_ f4_ f5_ f6_ Hw8
  clear hs11 hl_b3 hl_b4 hl_b5 hl_b7 hl_b9
  refine Run.start 3 ?_
  refine .ld .o (ldM b3 0) ?_
  refine .c1 (.i 0) (x := .k (.bool true)) (by rintro u w2 hB rfl; exact rformed_q hfa_.out w2) ?_
  refine .nt (.i 1) ?_
  refine .donep [some 51, some 52, some 53] ?_
  intro w9 B9
  change Shut (wpList _ _ _ [] _ _)
  refine ⟨?_⟩
  simp only [Act.put, List.setIfInBounds_toArray, List.set_cons_zero, List.set_cons_succ]
  replace B0 := zup B0 B9
  replace b3 := b3.below B9
  replace b4 := b4.below B9
  replace b5 := b5.below B9
  replace b7 := b7.below B9
  replace b9 := b9.below B9
  replace b11 := b11.below B9
  replace m11 := m11.below B9
  clear B9
  go_upto_region 9 with fail
  obtain ⟨f1, hf1⟩ : ∃ t, fmd r' c' n' = t := ⟨_, rfl⟩
  obtain ⟨f2, hf2⟩ : ∃ t, decide ((r : Int) = r') = t := ⟨_, rfl⟩
  obtain ⟨f3, hf3⟩ : ∃ t, decide ((c : Int) = c') = t := ⟨_, rfl⟩
  have hs2 := hs_.out
  rw [hf1, hf2, hf3] at hs2
  have Hf1 := Lib.hid hf1
  have Hf2 := Lib.hid hf2
  have Hf3 := Lib.hid hf3
  have Hs2 := Lib.hid hs2
  clear hf1 hf2 hf3 hs2
  refine Run.merge 17 [kAny, kAny, kAny, kAny, kAny, kAny, kAny, kAny, kAny, kAny, kAny, kAny, kAny, kAny, kAny, .k (.bool false), .k (.bool false)] [some 76, some 77, some 78, some 79, some 80, some 81, some 82, some 83, some 84, some 85, some 86, some 87, some 88, some 89, some 90, some 91, some 16] (fun HR => ?_) ?_
  · cases f1
    · refine .ld .o (ldM b4 0) ?_
      refine .c1 (.i 0) (x := .k (.bool false)) (by rintro u w2 hB rfl; exact rformed_q Hf1.out w2) ?_
      refine .mv (.i 1) ?_
      refine .no ?_
      refine .no ?_
      refine .no ?_
      refine .no ?_
      refine .no ?_
      refine .pk (.i 2) .o false ?_
      refine .mv (.i 8) ?_
      refine .no ?_
      refine .no ?_
      refine .no ?_
      refine .no ?_
      refine .no ?_
      refine .pk (.i 9) .o false ?_
      refine .mv (.i 15) ?_
      refine .donep [some 76, some 77, some 78, some 79, some 80, some 81, some 82, some 83, some 84, some 85, some 86, some 87, some 88, some 89, some 90, some 91, some 16] ?_
      intro w10 B10
      exact (HR w10 B10).weaker ⟨fun _ => trivial, fun _ => trivial, fun _ => trivial, fun _ => trivial, fun _ => trivial, fun _ => trivial, fun _ => trivial, fun _ => trivial, fun _ => trivial, fun _ => trivial, fun _ => trivial, fun _ => trivial, fun _ => trivial, fun _ => trivial, fun _ => trivial, rfl, rfl, trivial⟩
    · cases f2
      · refine .ld .o (ldM b4 0) ?_
        refine .c1 (.i 0) (x := .k (.bool true)) (by rintro u w2 hB rfl; exact rformed_q Hf1.out w2) ?_
        refine .mv (.i 1) ?_
        refine .fa .o (fM0 0) ?_
        refine .ld (.i 3) (ldInt b3 0) ?_
        refine .fa .o (fM0 0) ?_
        refine .ld (.i 5) (ldInt b4 0) ?_
        refine .two (.i 4) (.i 6) (opEq Hf2.out) ?_
        refine .pk (.i 2) (.i 7) true ?_
        refine .mv (.i 8) ?_
        refine .no ?_
        refine .no ?_
        refine .no ?_
        refine .no ?_
        refine .no ?_
        refine .pk (.i 9) .o false ?_
        refine .mv (.i 15) ?_
        refine .donep [some 76, some 77, some 78, some 79, some 80, some 81, some 82, some 83, some 84, some 85, some 86, some 87, some 88, some 89, some 90, some 91, some 16] ?_
        intro w10 B10
        exact (HR w10 B10).weaker ⟨fun _ => trivial, fun _ => trivial, fun _ => trivial, fun _ => trivial, fun _ => trivial, fun _ => trivial, fun _ => trivial, fun _ => trivial, fun _ => trivial, fun _ => trivial, fun _ => trivial, fun _ => trivial, fun _ => trivial, fun _ => trivial, fun _ => trivial, rfl, rfl, trivial⟩
      · cases f3
        · refine .ld .o (ldM b4 0) ?_
          refine .c1 (.i 0) (x := .k (.bool true)) (by rintro u w2 hB rfl; exact rformed_q Hf1.out w2) ?_
          refine .mv (.i 1) ?_
          refine .fa .o (fM0 0) ?_
          refine .ld (.i 3) (ldInt b3 0) ?_
          refine .fa .o (fM0 0) ?_
          refine .ld (.i 5) (ldInt b4 0) ?_
          refine .two (.i 4) (.i 6) (opEq Hf2.out) ?_
          refine .pk (.i 2) (.i 7) true ?_
          refine .mv (.i 8) ?_
          refine .fa .o (fM1 1) ?_
          refine .ld (.i 10) (ldInt b3 1) ?_
          refine .fa .o (fM1 1) ?_
          refine .ld (.i 12) (ldInt b4 1) ?_
          refine .two (.i 11) (.i 13) (opEq Hf3.out) ?_
          refine .pk (.i 9) (.i 14) true ?_
          refine .mv (.i 15) ?_
          refine .donep [some 76, some 77, some 78, some 79, some 80, some 81, some 82, some 83, some 84, some 85, some 86, some 87, some 88, some 89, some 90, some 91, some 16] ?_
          intro w10 B10
          exact (HR w10 B10).weaker ⟨fun _ => trivial, fun _ => trivial, fun _ => trivial, fun _ => trivial, fun _ => trivial, fun _ => trivial, fun _ => trivial, fun _ => trivial, fun _ => trivial, fun _ => trivial, fun _ => trivial, fun _ => trivial, fun _ => trivial, fun _ => trivial, fun _ => trivial, rfl, rfl, trivial⟩
        · exact absurd Hs2.out (by simp)
  intro w10 B10
  rintro y0 -
  rintro y1 -
  rintro y2 -
  rintro y3 -
  rintro y4 -
  rintro y5 -
  rintro y6 -
  rintro y7 -
  rintro y8 -
  rintro y9 -
  rintro y10 -
  rintro y11 -
  rintro y12 -
  rintro y13 -
  rintro y14 -
  change Shut (wpList _ _ _ [] _ _)
  refine ⟨?_⟩
  simp only [Act.put, List.setIfInBounds_toArray, List.set_cons_zero, List.set_cons_succ]
  replace B0 := zup B0 B10
  replace b3 := b3.below B10
  replace b4 := b4.below B10
  replace b5 := b5.below B10
  replace b7 := b7.below B10
  replace b9 := b9.below B10
  replace b11 := b11.below B10
  replace m11 := m11.below B10
  clear B10
  obtain ⟨LZ, hLZ⟩ : ∃ L, mk r c (fun i j => z * mf Ra c i j) = L := ⟨_, rfl⟩
  have lenZ : LZ.length = n := by rw [← hLZ, mk_len, hn_.out]
  have atZ : ∀ j, j < n → ith LZ j = ith (nums Ra) j * z := fun j hj => by
    rw [hn_.out] at hj
    rw [← hLZ, mk_ith hj, mf_at hj, Int.mul_comm]
  have LenZ := Lib.hid lenZ
  have AtZ := Lib.hid atZ
  have EZ := Lib.hid hLZ
  clear lenZ atZ hLZ
  have HXA := Lib.hid (show ZL false w A n d 3 (nums Ra) by have := hA.zl; rwa [mk_mf hlenA_.out hn_.out] at this)
  have HO : Hid (OwnZ w10 w10 (m + 3) (.slice none 0 0) (LZ.take 0)) := Lib.hid (OwnZ.nil _ _)
  have hcl := b3.cell 2
  simp only [List.getElem?_cons_succ, List.getElem?_cons_zero] at hcl
  clear hcl
  go_upto_region 10 with fail
  go_wp2_with fail
  go_loopw [17, 15] (fun s17 s15 wr => ∃ j : Nat, s17 = .int .i64 (j : Int) ∧ j ≤ n ∧ Hid (OwnZ w10 wr (m + 3) s15 (LZ.take j))) (fun s17 _ _ => n - (intOf s17).toNat)
  case atStart => exact ⟨0, rfl, Nat.zero_le _, HO⟩
  case round =>
    clear HO
    obtain ⟨j, rfl, hj, HO⟩ := hrel
    have Bq := HO.out.old
    have k3 := b3.below Bq
    have i2 := k3.cell 2
    simp only [List.getElem?_cons_succ, List.getElem?_cons_zero] at i2
    by_cases hlt : j < n
    · have u1 : (j : Int) < (n : Int) := by omega
      go_upto_region 13 with fail
      clear i2
      have hoz := HO.out
      clear HO
      obtain ⟨ad, rfl, hab, hE⟩ := (HXA.out.below (zup B0 Bq)).at hlt
      obtain ⟨s1, A1, n1, c1, e1, e2, ze, hk1⟩ := hE
      have hz1 := ze.1
      clear ze
      have k5 := b5.below Bq
      have hzz := hz.below (zup B0 Bq)
      refine Run.start 9 ?_
      refine .mv .o ?_
      refine .fa .o (fM2 2) ?_
      refine .ld (.i 1) (ldSl k3 2) ?_
      refine .mv .o ?_
      refine .two (.i 2) (.i 3) (opIx hlt) ?_
      refine .ld (.i 4) (ldE (by rw [add_block]; exact hab) e1 e2) ?_
      refine .ld .o (ldZ k5 0) ?_
      refine .c2 (.i 5) (.i 6) (x := kC (ith LZ j) (m + 3)) (by rintro u v w2 hB rfl rfl; rw [AtZ.out j hlt]; exact zmul_q ⟨_, _, _, _, rfl, hz1.below hB, hk1⟩ ⟨_, _, _, _, rfl, hzz.below hB, Nat.le_refl _⟩ (by omega) (by omega) (by omega)) ?_
      refine .bs (.i 7) (Nat.le_refl _) ?_
      refine .done [some 99, some 100, some 101, some 102, some 103, some 104, some 105, some 106, some 107] ?_
      intro w11 B11
      rintro v0 -
      rintro v1 ⟨g7, s7, A7', n7', c7, rfl, bone, hge, hz7, hk7⟩
      change Shut (wpList _ _ _ [_, _] _ _)
      refine ⟨?_⟩
      simp only [Act.put, List.setIfInBounds_toArray, List.set_cons_zero, List.set_cons_succ]
      clear e1 e2 hz1 hzz
      replace hoz := hoz.below B11
      have c0_ := bone.cell 0
      have c1_ := bone.cell 1
      simp only [List.getElem?_cons_succ, List.getElem?_cons_zero] at c0_ c1_
      have HT : Hid (LZ.take j ++ [ith LZ j] = LZ.take (j + 1)) := Lib.hid (take_one (by rw [LenZ.out]; exact hlt))
      have H3 : Hid ((LZ.take j).length ≤ 1099511627776) := Lib.hid (by rw [List.length_take, LenZ.out]; omega)
      go_wp2_with (at_builtin; refine wpList_appg w10 _ rfl _ _ 22 rfl Try.underlying22 info_zint (m + 3) _ _ (by rfl) hoz c0_ c1_ hz7 hk7 (by rfl) H3.out ?_)
      intro vz w1_ ho1 hG1
      rw [HT.out] at ho1
      clear c0_ c1_ HT H3 bone hz7
      have HN := Lib.hid ho1
      clear ho1 hG1 hoz k3 k5 Bq
      go_wp2_with fail
      go_roundw
      case rel => exact ⟨j + 1, by go_num, by omega, HN⟩
      case measure => first | (simp [intOf]; done) | (simp [intOf]; omega)
    · obtain rfl : j = n := by omega
      have u1 : ¬ (j : Int) < (j : Int) := by omega
      have oz := HO.out
      clear HO
      replace b3 := b3.below Bq
      replace b5 := b5.below Bq
      replace b7 := b7.below Bq
      replace b9 := b9.below Bq
      replace b11 := b11.below Bq
      replace m11 := m11.below Bq
      replace B0 := zup B0 Bq
      clear Bq k3 b4
      rw [List.take_of_length_le (by rw [LenZ.out]; exact Nat.le_refl _)] at oz
      obtain ⟨Az, cAz, eAz, zAz⟩ := oz.form
      subst eAz
      have fAz := (zAz true).to EZ.out
      clear oz zAz
      go_upto_region 17 with fail
      clear i2
      refine Run.start 12 ?_
      refine .mv .o ?_
      refine .two (.i 0) .o (opNe (by decide : decide ((0 : Int) ≠ 0) = false)) ?_
      refine .mv (.i 1) ?_
      refine .ld .o (ldM b11 0) ?_
      refine .fa .o (fM0 0) ?_
      refine .ld (.i 4) (ldInt b3 0) ?_
      refine .fa .o (fM1 1) ?_
      refine .ld (.i 6) (ldInt b3 1) ?_
      refine .mv .o ?_
      refine .c4 (.i 3) (.i 5) (.i 7) (.i 8) (x := .k (.bool true)) (by rintro u v x y w2 hB rfl rfl rfl rfl; exact ris_q (m11.below hB) (fAz.below hB) (by omega) (by omega)) ?_
      refine .nt (.i 9) ?_
      refine .pk (.i 2) (.i 10) false ?_
      refine .donep [some 138, some 139, some 140, some 141, some 142, some 143, some 144, some 145, some 146, some 147, some 148, some 149] ?_
      intro w14 B14
      change Shut (wpList _ _ _ [] _ _)
      refine ⟨?_⟩
      simp only [Act.put, List.setIfInBounds_toArray, List.set_cons_zero, List.set_cons_succ]
      replace b3 := b3.below B14
      replace b7 := b7.below B14
      replace b9 := b9.below B14
      replace B0 := zup B0 B14
      clear B14 fAz m11 b11 b5
      go_upto_region 20 with fail
      refine Run.start 15 ?_
      refine .mv .o ?_
      refine .two (.i 0) .o (opEq (by decide : decide ((2 : Int) = 2) = true)) ?_
      refine .mv (.i 1) ?_
      refine .mv .o ?_
      refine .two (.i 3) .o (opEq (by decide : decide ((2 : Int) = 2) = true)) ?_
      refine .pk (.i 2) (.i 4) true ?_
      refine .mv (.i 5) ?_
      refine .ld .o (ldM b7 0) ?_
      refine .c1 (.i 7) (x := .k (.bool true)) (by rintro u w2 hB rfl; exact rnone_q w2) ?_
      refine .pk (.i 6) (.i 8) true ?_
      refine .mv (.i 9) ?_
      refine .ld .o (ldM b9 0) ?_
      refine .c1 (.i 11) (x := .k (.bool true)) (by rintro u w2 hB rfl; exact rnone_q w2) ?_
      refine .pk (.i 10) (.i 12) true ?_
      refine .mv (.i 13) ?_
      refine .donep [some 152, some 153, some 154, some 155, some 156, some 157, some 158, some 159, some 160, some 161, some 162, some 163, some 164, some 165, some 6] ?_
      intro w15 B15
      change Shut (wpList _ _ _ [] _ _)
      refine ⟨?_⟩
      simp only [Act.put, List.setIfInBounds_toArray, List.set_cons_zero, List.set_cons_succ]
      go_wp2_with fail
      exact bodyPost_ret (v := .bool true) (by simp [results, Try.results3, go_sem]) rfl (ret_k rfl (zup B0 B15))
set_option maxRecDepth 100000 in
set_option maxHeartbeats 2000000 in
/-- MatAdds, of two matrices of the same sides. -/
theorem adds11_same {r c : Nat} {A A' D : Option Addr} {n d n' d' m e : Nat} {s : Bool} {z : Int} {Ra Rb : List Zr} {w : World} (ha : RL w A n d Ra) (hb : RL w A' n' d' Rb) (hz : Zv w s D m e z) (ht : (fewb r c Ra 6 3 && fewb r c Rb 6 3) = true) (hm : m ≤ 3) (hA : Mt false w r c A n d 3 (mf Ra c)) (hG : Mt false w r c A' n' d' 3 (mf Rb c)) (hr6 : r ≤ 6) (hc6 : c ≤ 6) : Calls Try.prog 3 #[.agg #[.int .i64 (r : Int), .int .i64 (c : Int), .slice A n d], .agg #[.int .i64 (r : Int), .int .i64 (c : Int), .slice A' n' d'], .agg #[.bool s, .slice D m e]] w (RetK (.k (.bool true)) w) := by
  have hn := hA.len
  have hlenA := ha.len
  have hbig : r * c ≤ 6 * 6 := Nat.mul_le_mul hr6 hc6
  have hn36 : n ≤ 36 := by omega
  have hfa := hA.fmd
  have hfb := hG.fmd
  have hn' := hG.len
  have hnn : n' = n := by omega
  have hlenB := hb.len
  obtain ⟨w1, hw1, b3, b4, b5, z1, s1⟩ := boxes3 w 24 24 28 [.int .i64 (r : Int), .int .i64 (c : Int), .slice A n d] [.int .i64 (r : Int), .int .i64 (c : Int), .slice A' n' d'] [.bool s, .slice D m e]
  have HW := Lib.hid hw1
  have HZ := Lib.hid z1
  have ht_ := Lib.hid ht
  have hn_ := Lib.hid hn
  have hfa_ := Lib.hid hfa
  have hlenA_ := Lib.hid hlenA
  have hfb_ := Lib.hid hfb
  have hn'_ := Lib.hid hn'
  have hnn_ := Lib.hid hnn
  have hlenB_ := Lib.hid hlenB
  clear hw1 z1 ht hn hfa hlenA hfb hn' hnn hlenB s1
  go_enter Try.func3, Try.ntmps3
  go_upto_region 1 with fail
  rw [HW.out]
  refine Run.start 14 ?_
  refine .c0 (x := .k (.bool true)) (fun w2 hB => awake11_q w2) ?_
  refine .nt (.i 0) ?_
  refine .mv (.i 1) ?_
  refine .ld .o (ldM b3 0) ?_
  refine .ld .o (ldM b4 0) ?_
  refine .c2 (.i 3) (.i 4) (x := .k (.bool true)) (by rintro u v w2 hB rfl rfl; exact lfew_q (ha.below (zup HZ.out hB)) (hb.below (zup HZ.out hB)) ht_.out) ?_
  refine .nt (.i 5) ?_
  refine .pk (.i 2) (.i 6) false ?_
  refine .mv (.i 7) ?_
  refine .fa .o (fZ1 1) ?_
  refine .ld (.i 9) (ldNat b5 1) ?_
  refine .len (.i 10) Try.underlying26 ?_
  refine .two (.i 11) .o (opGt (decide_eq_false (by omega : ¬ (3 : Int) < (m : Int)))) ?_
  refine .pk (.i 8) (.i 12) false ?_
  refine .donep [some 18, some 19, some 20, some 21, some 22, some 23, some 24, some 25, some 26, some 27, some 28, some 29, some 30, some 31] ?_
  intro w2 B2
  change Shut (wpList _ _ _ [] _ _)
  refine ⟨?_⟩
  simp only [Act.put, List.setIfInBounds_toArray, List.set_cons_zero, List.set_cons_succ]
  have B0 := zup HZ.out B2
  replace b3 := b3.below B2
  replace b4 := b4.below B2
  replace b5 := b5.below B2
  clear B2 HZ
  go_upto_region 3 with fail
  refine Run.start 7 ?_
  refine .ld .o (ldM b3 0) ?_
  refine .ld .o (ldM b4 0) ?_
  refine .c2 (.i 0) (.i 1) (x := kT (kM true r c (max 3 3 + 1) (fun i j => mf Ra c i j + mf Rb c i j)) (.k (.int .i64 0))) (by rintro u v w2 hB rfl rfl; exact madd_yes (hA.below (zup B0 hB)) (hG.below (zup B0 hB)) (by decide) (by decide)) ?_
  refine .mf (.i 2) ?_
  refine .ex (.i 3) 0 kT_0 ?_
  refine .ex (.i 3) 1 kT_1 ?_
  refine .al ?_
  refine .donep [some 34, some 35, some 36, some 33, some 37, some 38, some 7] ?_
  intro w3 B3
  rintro v1 -
  rintro v2 -
  rintro v3 ⟨A7, n7, d7, rfl, m7⟩
  rintro g7 hg7 hl7 hc7 -
  change Shut (wpList _ _ _ [_, _] _ _)
  refine ⟨?_⟩
  simp only [Act.put, List.setIfInBounds_toArray, List.set_cons_zero, List.set_cons_succ]
  have b7 := zeroM hc7
  have hs7 := B0.size
  have hl_b3 := b3.lt
  have hl_b4 := b4.lt
  have hl_b5 := b5.lt
  replace B0 := zup B0 B3
  replace b3 := b3.below B3
  replace b4 := b4.below B3
  replace b5 := b5.below B3
  clear B3 hc7
  obtain ⟨w4, hw4⟩ : ∃ x, mput w3 g7 (r : Int) (c : Int) A7 n7 d7 = x := ⟨_, rfl⟩
  obtain ⟨f0_, f1_, f2_, f3_, f4_, f5_, f6_⟩ := b7.m3
  replace b3 := b3.mo (g := g7) (r := (r : Int)) (c := (c : Int)) (A := A7) (n := n7) (d := d7) (by omega)
  rw [hw4] at b3
  replace b4 := b4.mo (g := g7) (r := (r : Int)) (c := (c : Int)) (A := A7) (n := n7) (d := d7) (by omega)
  rw [hw4] at b4
  replace b5 := b5.mo (g := g7) (r := (r : Int)) (c := (c : Int)) (A := A7) (n := n7) (d := d7) (by omega)
  rw [hw4] at b5
  replace m7 := m7.put (r' := (r : Int)) (c' := (c : Int)) (C := A7) (n' := n7) (d' := d7) b7
  rw [hw4] at m7
  replace B0 := below_mput (g := g7) (r := (r : Int)) (c := (c : Int)) (A := A7) (n := n7) (d := d7) B0 (by omega)
  rw [hw4] at B0
  replace b7 := b7.mp (g := g7) (r := (r : Int)) (c := (c : Int)) (A := A7) (n := n7) (d := d7)
  rw [hw4] at b7
  have Hw4 := Lib.hid hw4
  unfold mput at Hw4
  clear hw4
  go_upto_region 4 with fail
  rw [Hw4.out]
  clear f0_ f1_ f2_ f3_ f4_ f5_ f6_ Hw4
  clear hs7 hl_b3 hl_b4 hl_b5
  refine Run.start 7 ?_
  refine .ld .o (ldM b3 0) ?_
  refine .ld .o (ldM b4 0) ?_
  refine .c2 (.i 0) (.i 1) (x := kT (kM true r c (max 3 3 + 1) (fun i j => mf Ra c i j - mf Rb c i j)) (.k (.int .i64 0))) (by rintro u v w2 hB rfl rfl; exact msub_yes (hA.below (zup B0 hB)) (hG.below (zup B0 hB)) (by decide) (by decide)) ?_
  refine .mf (.i 2) ?_
  refine .ex (.i 3) 0 kT_0 ?_
  refine .ex (.i 3) 1 kT_1 ?_
  refine .al ?_
  refine .donep [some 40, some 41, some 42, some 39, some 43, some 44, some 9] ?_
  intro w5 B5
  rintro v1 -
  rintro v2 -
  rintro v3 ⟨A9, n9, d9, rfl, m9⟩
  rintro g9 hg9 hl9 hc9 -
  change Shut (wpList _ _ _ [_, _] _ _)
  refine ⟨?_⟩
  simp only [Act.put, List.setIfInBounds_toArray, List.set_cons_zero, List.set_cons_succ]
  have b9 := zeroM hc9
  have hs9 := B0.size
  have hl_b3 := b3.lt
  have hl_b4 := b4.lt
  have hl_b5 := b5.lt
  have hl_b7 := b7.lt
  replace B0 := zup B0 B5
  replace b3 := b3.below B5
  replace b4 := b4.below B5
  replace b5 := b5.below B5
  replace b7 := b7.below B5
  replace m7 := m7.below B5
  clear B5 hc9
  obtain ⟨w6, hw6⟩ : ∃ x, mput w5 g9 (r : Int) (c : Int) A9 n9 d9 = x := ⟨_, rfl⟩
  obtain ⟨f0_, f1_, f2_, f3_, f4_, f5_, f6_⟩ := b9.m3
  replace b3 := b3.mo (g := g9) (r := (r : Int)) (c := (c : Int)) (A := A9) (n := n9) (d := d9) (by omega)
  rw [hw6] at b3
  replace b4 := b4.mo (g := g9) (r := (r : Int)) (c := (c : Int)) (A := A9) (n := n9) (d := d9) (by omega)
  rw [hw6] at b4
  replace b5 := b5.mo (g := g9) (r := (r : Int)) (c := (c : Int)) (A := A9) (n := n9) (d := d9) (by omega)
  rw [hw6] at b5
  replace b7 := b7.mo (g := g9) (r := (r : Int)) (c := (c : Int)) (A := A9) (n := n9) (d := d9) (by omega)
  rw [hw6] at b7
  replace m7 := m7.put (r' := (r : Int)) (c' := (c : Int)) (C := A9) (n' := n9) (d' := d9) b9
  rw [hw6] at m7
  replace m9 := m9.put (r' := (r : Int)) (c' := (c : Int)) (C := A9) (n' := n9) (d' := d9) b9
  rw [hw6] at m9
  replace B0 := below_mput (g := g9) (r := (r : Int)) (c := (c : Int)) (A := A9) (n := n9) (d := d9) B0 (by omega)
  rw [hw6] at B0
  replace b9 := b9.mp (g := g9) (r := (r : Int)) (c := (c : Int)) (A := A9) (n := n9) (d := d9)
  rw [hw6] at b9
  have Hw6 := Lib.hid hw6
  unfold mput at Hw6
  clear hw6
  go_upto_region 5 with fail
  rw [Hw6.out]
  clear f0_ f1_ f2_ f3_ f4_ f5_ f6_ Hw6
  clear hs9 hl_b3 hl_b4 hl_b5 hl_b7
  refine Run.start 7 ?_
  refine .ld .o (ldM b3 0) ?_
  refine .ld .o (ldZ b5 0) ?_
  refine .c2 (.i 0) (.i 1) (x := kT (kM true r c (m + 3) (fun i j => z * mf Ra c i j)) (.k (.int .i64 0))) (by rintro u v w2 hB rfl rfl; exact mscale_yes (hA.below (zup B0 hB)) (hz.below (zup B0 hB)) (by decide) (by omega)) ?_
  refine .mf (.i 2) ?_
  refine .ex (.i 3) 0 kT_0 ?_
  refine .ex (.i 3) 1 kT_1 ?_
  refine .al ?_
  refine .donep [some 46, some 47, some 48, some 45, some 49, some 50, some 11] ?_
  intro w7 B7
  rintro v1 -
  rintro v2 -
  rintro v3 ⟨A11, n11, d11, rfl, m11⟩
  rintro g11 hg11 hl11 hc11 -
  change Shut (wpList _ _ _ [_, _] _ _)
  refine ⟨?_⟩
  simp only [Act.put, List.setIfInBounds_toArray, List.set_cons_zero, List.set_cons_succ]
  have b11 := zeroM hc11
  have hs11 := B0.size
  have hl_b3 := b3.lt
  have hl_b4 := b4.lt
  have hl_b5 := b5.lt
  have hl_b7 := b7.lt
  have hl_b9 := b9.lt
  replace B0 := zup B0 B7
  replace b3 := b3.below B7
  replace b4 := b4.below B7
  replace b5 := b5.below B7
  replace b7 := b7.below B7
  replace b9 := b9.below B7
  replace m7 := m7.below B7
  replace m9 := m9.below B7
  clear B7 hc11
  obtain ⟨w8, hw8⟩ : ∃ x, mput w7 g11 (r : Int) (c : Int) A11 n11 d11 = x := ⟨_, rfl⟩
  obtain ⟨f0_, f1_, f2_, f3_, f4_, f5_, f6_⟩ := b11.m3
  replace b3 := b3.mo (g := g11) (r := (r : Int)) (c := (c : Int)) (A := A11) (n := n11) (d := d11) (by omega)
  rw [hw8] at b3
  replace b4 := b4.mo (g := g11) (r := (r : Int)) (c := (c : Int)) (A := A11) (n := n11) (d := d11) (by omega)
  rw [hw8] at b4
  replace b5 := b5.mo (g := g11) (r := (r : Int)) (c := (c : Int)) (A := A11) (n := n11) (d := d11) (by omega)
  rw [hw8] at b5
  replace b7 := b7.mo (g := g11) (r := (r : Int)) (c := (c : Int)) (A := A11) (n := n11) (d := d11) (by omega)
  rw [hw8] at b7
  replace b9 := b9.mo (g := g11) (r := (r : Int)) (c := (c : Int)) (A := A11) (n := n11) (d := d11) (by omega)
  rw [hw8] at b9
  replace m7 := m7.put (r' := (r : Int)) (c' := (c : Int)) (C := A11) (n' := n11) (d' := d11) b11
  rw [hw8] at m7
  replace m9 := m9.put (r' := (r : Int)) (c' := (c : Int)) (C := A11) (n' := n11) (d' := d11) b11
  rw [hw8] at m9
  replace m11 := m11.put (r' := (r : Int)) (c' := (c : Int)) (C := A11) (n' := n11) (d' := d11) b11
  rw [hw8] at m11
  replace B0 := below_mput (g := g11) (r := (r : Int)) (c := (c : Int)) (A := A11) (n := n11) (d := d11) B0 (by omega)
  rw [hw8] at B0
  replace b11 := b11.mp (g := g11) (r := (r : Int)) (c := (c : Int)) (A := A11) (n := n11) (d := d11)
  rw [hw8] at b11
  have Hw8 := Lib.hid hw8
  unfold mput at Hw8
  clear hw8
  go_upto_region 6 with fail
  rw [Hw8.out]
  clear f0_ f1_ f2_ f3_ f4_ f5_ f6_ Hw8
  clear hs11 hl_b3 hl_b4 hl_b5 hl_b7 hl_b9
  refine Run.start 3 ?_
  refine .ld .o (ldM b3 0) ?_
  refine .c1 (.i 0) (x := .k (.bool true)) (by rintro u w2 hB rfl; exact rformed_q hfa_.out w2) ?_
  refine .nt (.i 1) ?_
  refine .donep [some 51, some 52, some 53] ?_
  intro w9 B9
  change Shut (wpList _ _ _ [] _ _)
  refine ⟨?_⟩
  simp only [Act.put, List.setIfInBounds_toArray, List.set_cons_zero, List.set_cons_succ]
  replace B0 := zup B0 B9
  replace b3 := b3.below B9
  replace b4 := b4.below B9
  replace b5 := b5.below B9
  replace b7 := b7.below B9
  replace b9 := b9.below B9
  replace b11 := b11.below B9
  replace m7 := m7.below B9
  replace m9 := m9.below B9
  replace m11 := m11.below B9
  clear B9
  go_upto_region 9 with fail
  refine Run.start 17 ?_
  refine .ld .o (ldM b4 0) ?_
  refine .c1 (.i 0) (x := .k (.bool true)) (by rintro u w2 hB rfl; exact rformed_q hfb_.out w2) ?_
  refine .mv (.i 1) ?_
  refine .fa .o (fM0 0) ?_
  refine .ld (.i 3) (ldInt b3 0) ?_
  refine .fa .o (fM0 0) ?_
  refine .ld (.i 5) (ldInt b4 0) ?_
  refine .two (.i 4) (.i 6) (opEq (decide_eq_true rfl)) ?_
  refine .pk (.i 2) (.i 7) true ?_
  refine .mv (.i 8) ?_
  refine .fa .o (fM1 1) ?_
  refine .ld (.i 10) (ldInt b3 1) ?_
  refine .fa .o (fM1 1) ?_
  refine .ld (.i 12) (ldInt b4 1) ?_
  refine .two (.i 11) (.i 13) (opEq (decide_eq_true rfl)) ?_
  refine .pk (.i 9) (.i 14) true ?_
  refine .mv (.i 15) ?_
  refine .donep [some 76, some 77, some 78, some 79, some 80, some 81, some 82, some 83, some 84, some 85, some 86, some 87, some 88, some 89, some 90, some 91, some 16] ?_
  intro w10 B10
  change Shut (wpList _ _ _ [] _ _)
  refine ⟨?_⟩
  simp only [Act.put, List.setIfInBounds_toArray, List.set_cons_zero, List.set_cons_succ]
  replace B0 := zup B0 B10
  replace b3 := b3.below B10
  replace b4 := b4.below B10
  replace b5 := b5.below B10
  replace b7 := b7.below B10
  replace b9 := b9.below B10
  replace b11 := b11.below B10
  replace m7 := m7.below B10
  replace m9 := m9.below B10
  replace m11 := m11.below B10
  clear B10
  obtain ⟨LZ, hLZ⟩ : ∃ L, mk r c (fun i j => z * mf Ra c i j) = L := ⟨_, rfl⟩
  have lenZ : LZ.length = n := by rw [← hLZ, mk_len, hn_.out]
  have atZ : ∀ j, j < n → ith LZ j = ith (nums Ra) j * z := fun j hj => by
    rw [hn_.out] at hj
    rw [← hLZ, mk_ith hj, mf_at hj, Int.mul_comm]
  have LenZ := Lib.hid lenZ
  have AtZ := Lib.hid atZ
  have EZ := Lib.hid hLZ
  clear lenZ atZ hLZ
  obtain ⟨LX, hLX⟩ : ∃ L, mk r c (fun i j => mf Ra c i j + mf Rb c i j) = L := ⟨_, rfl⟩
  have lenX : LX.length = n := by rw [← hLX, mk_len, hn_.out]
  have atX : ∀ j, j < n → ith LX j = ith (nums Ra) j + ith (nums Rb) j := fun j hj => by
    rw [hn_.out] at hj
    rw [← hLX, mk_ith hj, mf_at hj, mf_at hj]
  have LenX := Lib.hid lenX
  have AtX := Lib.hid atX
  have EX := Lib.hid hLX
  clear lenX atX hLX
  obtain ⟨LY, hLY⟩ : ∃ L, mk r c (fun i j => mf Ra c i j - mf Rb c i j) = L := ⟨_, rfl⟩
  have lenY : LY.length = n := by rw [← hLY, mk_len, hn_.out]
  have atY : ∀ j, j < n → ith LY j = ith (nums Ra) j - ith (nums Rb) j := fun j hj => by
    rw [hn_.out] at hj
    rw [← hLY, mk_ith hj, mf_at hj, mf_at hj]
  have LenY := Lib.hid lenY
  have AtY := Lib.hid atY
  have EY := Lib.hid hLY
  clear lenY atY hLY
  have HXA := Lib.hid (show ZL false w A n d 3 (nums Ra) by have := hA.zl; rwa [mk_mf hlenA_.out hn_.out] at this)
  have HXB := Lib.hid (show ZL false w A' n' d' 3 (nums Rb) by have := hG.zl; rwa [mk_mf hlenB_.out hn'_.out] at this)
  have HO : Hid (OwnZ w10 w10 (m + 3) (.slice none 0 0) (LZ.take 0) ∧ OwnZ w10 w10 4 (.slice none 0 0) (LX.take 0) ∧ OwnZ w10 w10 4 (.slice none 0 0) (LY.take 0) ∧ Dj (.slice none 0 0) (.slice none 0 0) ∧ Dj (.slice none 0 0) (.slice none 0 0) ∧ Dj (.slice none 0 0) (.slice none 0 0)) := Lib.hid ⟨OwnZ.nil _ _, OwnZ.nil _ _, OwnZ.nil _ _, Dj.nil _, Dj.nil _, Dj.nil _⟩
  have hcl := b3.cell 2
  simp only [List.getElem?_cons_succ, List.getElem?_cons_zero] at hcl
  clear hcl
  go_upto_region 10 with fail
  go_wp2_with fail
  go_loopw [17, 13, 14, 15] (fun s17 s13 s14 s15 wr => ∃ j : Nat, s17 = .int .i64 (j : Int) ∧ j ≤ n ∧ Hid (OwnZ w10 wr (m + 3) s15 (LZ.take j) ∧ OwnZ w10 wr 4 s13 (LX.take j) ∧ OwnZ w10 wr 4 s14 (LY.take j) ∧ Dj s13 s15 ∧ Dj s14 s15 ∧ Dj s13 s14)) (fun s17 _ _ _ _ => n - (intOf s17).toNat)
  case atStart => exact ⟨0, rfl, Nat.zero_le _, HO⟩
  case round =>
    clear HO
    obtain ⟨j, rfl, hj, HO⟩ := hrel
    have Bq := HO.out.1.old
    have k3 := b3.below Bq
    have i2 := k3.cell 2
    simp only [List.getElem?_cons_succ, List.getElem?_cons_zero] at i2
    by_cases hlt : j < n
    · have u1 : (j : Int) < (n : Int) := by omega
      go_upto_region 13 with fail
      clear i2
      obtain ⟨hoz, hox, hoy, dxz, dyz, dxy⟩ := HO.out
      clear HO
      obtain ⟨ad, rfl, hab, hE⟩ := (HXA.out.below (zup B0 Bq)).at hlt
      obtain ⟨s1, A1, n1, c1, e1, e2, ze, hk1⟩ := hE
      have hz1 := ze.1
      clear ze
      have k5 := b5.below Bq
      have hzz := hz.below (zup B0 Bq)
      have hlt' : j < n' := by have := hnn_.out; omega
      have k4 := b4.below Bq
      obtain ⟨ad', rfl, hab', hE'⟩ := (HXB.out.below (zup B0 Bq)).at hlt'
      obtain ⟨s2, A2, n2, c2, e3, e4, ze', hk2⟩ := hE'
      have hz2 := ze'.1
      clear ze'
      refine Run.start 9 ?_
      refine .mv .o ?_
      refine .fa .o (fM2 2) ?_
      refine .ld (.i 1) (ldSl k3 2) ?_
      refine .mv .o ?_
      refine .two (.i 2) (.i 3) (opIx hlt) ?_
      refine .ld (.i 4) (ldE (by rw [add_block]; exact hab) e1 e2) ?_
      refine .ld .o (ldZ k5 0) ?_
      refine .c2 (.i 5) (.i 6) (x := kC (ith LZ j) (m + 3)) (by rintro u v w2 hB rfl rfl; rw [AtZ.out j hlt]; exact zmul_q ⟨_, _, _, _, rfl, hz1.below hB, hk1⟩ ⟨_, _, _, _, rfl, hzz.below hB, Nat.le_refl _⟩ (by omega) (by omega) (by omega)) ?_
      refine .bs (.i 7) (Nat.le_refl _) ?_
      refine .done [some 99, some 100, some 101, some 102, some 103, some 104, some 105, some 106, some 107] ?_
      intro w11 B11
      rintro v0 -
      rintro v1 ⟨g7, s7, A7', n7', c7, rfl, bone, hge, hz7, hk7⟩
      change Shut (wpList _ _ _ [_, _] _ _)
      refine ⟨?_⟩
      simp only [Act.put, List.setIfInBounds_toArray, List.set_cons_zero, List.set_cons_succ]
      have hl2 := Nat.lt_of_lt_of_le hab B11.size
      have hl3 := Nat.lt_of_lt_of_le hab' B11.size
      replace e1 := (B11.cell (p := ad.add (j * 2)) (by rw [add_block]; exact hab)).trans e1
      replace e2 := (B11.cell (p := ⟨(ad.add (j * 2)).block, (ad.add (j * 2)).off + 1, none⟩) (by show (ad.add (j * 2)).block < _; rw [add_block]; exact hab)).trans e2
      replace e3 := (B11.cell (p := ad'.add (j * 2)) (by rw [add_block]; exact hab')).trans e3
      replace e4 := (B11.cell (p := ⟨(ad'.add (j * 2)).block, (ad'.add (j * 2)).off + 1, none⟩) (by show (ad'.add (j * 2)).block < _; rw [add_block]; exact hab')).trans e4
      clear e1 e2 e3 e4 hz1 hz2 hzz hl2 hl3
      replace hoz := hoz.below B11
      replace hox := hox.below B11
      replace hoy := hoy.below B11
      have c0_ := bone.cell 0
      have c1_ := bone.cell 1
      simp only [List.getElem?_cons_succ, List.getElem?_cons_zero] at c0_ c1_
      have HT : Hid (LZ.take j ++ [ith LZ j] = LZ.take (j + 1)) := Lib.hid (take_one (by rw [LenZ.out]; exact hlt))
      have H3 : Hid ((LZ.take j).length ≤ 1099511627776) := Lib.hid (by rw [List.length_take, LenZ.out]; omega)
      go_wp2_with (at_builtin; refine wpList_appg w10 _ rfl _ _ 22 rfl Try.underlying22 info_zint (m + 3) _ _ (by rfl) hoz c0_ c1_ hz7 hk7 (by rfl) H3.out ?_)
      intro vz w1_ ho1 hG1
      rw [HT.out] at ho1
      clear c0_ c1_ HT H3 bone hz7
      obtain ⟨ox1, dx1⟩ := hox.other hG1 dxz ho1.old
      obtain ⟨oy1, dy1⟩ := hoy.other hG1 dyz ho1.old
      clear hox hoy dxz dyz hG1 hoz k3 k4 k5 Bq
      have Bq := ho1.old
      have k3 := b3.below Bq
      have k4 := b4.below Bq
      obtain ⟨ad_, ea_, hab, hE⟩ := (HXA.out.below (zup B0 Bq)).at hlt
      cases ea_
      obtain ⟨s1, A1, n1, c1, e1, e2, ze, hk1⟩ := hE
      obtain ⟨ad2_, ea_, hab', hE'⟩ := (HXB.out.below (zup B0 Bq)).at hlt'
      cases ea_
      obtain ⟨s2, A2, n2, c2, e3, e4, ze', hk2⟩ := hE'
      have hz1 := ze.1
      have hz2 := ze'.1
      clear ze ze'
      go_upto_region 15 with fail
      refine Run.start 13 ?_
      refine .mv .o ?_
      refine .fa .o (fM2 2) ?_
      refine .ld (.i 1) (ldSl k3 2) ?_
      refine .mv .o ?_
      refine .two (.i 2) (.i 3) (opIx hlt) ?_
      refine .ld (.i 4) (ldE (by rw [add_block]; exact hab) e1 e2) ?_
      refine .fa .o (fM2 2) ?_
      refine .ld (.i 6) (ldSl k4 2) ?_
      refine .mv .o ?_
      refine .two (.i 7) (.i 8) (opIx hlt') ?_
      refine .ld (.i 9) (ldE (by rw [add_block]; exact hab') e3 e4) ?_
      refine .c2 (.i 5) (.i 10) (x := kC (ith LX j) 4) (by rintro u v w2 hB rfl rfl; rw [AtX.out j hlt]; exact zadd_q ⟨_, _, _, _, rfl, hz1.below hB, hk1⟩ ⟨_, _, _, _, rfl, hz2.below hB, hk2⟩ (by omega) (by omega) (by omega)) ?_
      refine .bs (.i 11) (Nat.le_refl _) ?_
      refine .done [some 110, some 111, some 112, some 113, some 114, some 115, some 116, some 117, some 118, some 119, some 120, some 121, some 122] ?_
      intro w12 B12
      rintro v0 -
      rintro v1 ⟨g7, s7, A7', n7', c7, rfl, bone, hge, hz7, hk7⟩
      change Shut (wpList _ _ _ [_, _] _ _)
      refine ⟨?_⟩
      simp only [Act.put, List.setIfInBounds_toArray, List.set_cons_zero, List.set_cons_succ]
      clear e1 e2 e3 e4 hz1 hz2 k3 k4 Bq hab hab'
      have oz2 := ho1.below B12
      have ox2 := ox1.below B12
      have oy2 := oy1.below B12
      clear ho1 ox1 oy1
      have c0_ := bone.cell 0
      have c1_ := bone.cell 1
      simp only [List.getElem?_cons_succ, List.getElem?_cons_zero] at c0_ c1_
      have HT : Hid (LX.take j ++ [ith LX j] = LX.take (j + 1)) := Lib.hid (take_one (by rw [LenX.out]; exact hlt))
      have H3 : Hid ((LX.take j).length ≤ 1099511627776) := Lib.hid (by rw [List.length_take, LenX.out]; omega)
      go_wp2_with (at_builtin; refine wpList_appg w10 _ rfl _ _ 22 rfl Try.underlying22 info_zint 4 _ _ (by rfl) ox2 c0_ c1_ hz7 hk7 (by rfl) H3.out ?_)
      intro vx w1_ ho1 hG1
      rw [HT.out] at ho1
      clear c0_ c1_ HT H3 bone hz7
      obtain ⟨oz3, dz3⟩ := oz2.other hG1 dx1.symm ho1.old
      obtain ⟨oy3, dy3⟩ := oy2.other hG1 dxy.symm ho1.old
      clear oz2 oy2 ox2 hG1 dx1 dxy
      have ox3 := ho1
      have Bq := ho1.old
      have k3 := b3.below Bq
      have k4 := b4.below Bq
      obtain ⟨ad_, ea_, hab, hE⟩ := (HXA.out.below (zup B0 Bq)).at hlt
      cases ea_
      obtain ⟨s1, A1, n1, c1, e1, e2, ze, hk1⟩ := hE
      obtain ⟨ad2_, ea_, hab', hE'⟩ := (HXB.out.below (zup B0 Bq)).at hlt'
      cases ea_
      obtain ⟨s2, A2, n2, c2, e3, e4, ze', hk2⟩ := hE'
      have hz1 := ze.1
      have hz2 := ze'.1
      clear ze ze'
      go_upto_region 16 with fail
      refine Run.start 13 ?_
      refine .mv .o ?_
      refine .fa .o (fM2 2) ?_
      refine .ld (.i 1) (ldSl k3 2) ?_
      refine .mv .o ?_
      refine .two (.i 2) (.i 3) (opIx hlt) ?_
      refine .ld (.i 4) (ldE (by rw [add_block]; exact hab) e1 e2) ?_
      refine .fa .o (fM2 2) ?_
      refine .ld (.i 6) (ldSl k4 2) ?_
      refine .mv .o ?_
      refine .two (.i 7) (.i 8) (opIx hlt') ?_
      refine .ld (.i 9) (ldE (by rw [add_block]; exact hab') e3 e4) ?_
      refine .c2 (.i 5) (.i 10) (x := kC (ith LY j) 4) (by rintro u v w2 hB rfl rfl; rw [AtY.out j hlt]; exact zsub_q ⟨_, _, _, _, rfl, hz1.below hB, hk1⟩ ⟨_, _, _, _, rfl, hz2.below hB, hk2⟩ (by omega) (by omega) (by omega)) ?_
      refine .bs (.i 11) (Nat.le_refl _) ?_
      refine .done [some 124, some 125, some 126, some 127, some 128, some 129, some 130, some 131, some 132, some 133, some 134, some 135, some 136] ?_
      intro w13 B13
      rintro v0 -
      rintro v1 ⟨g7, s7, A7', n7', c7, rfl, bone, hge, hz7, hk7⟩
      change Shut (wpList _ _ _ [_, _] _ _)
      refine ⟨?_⟩
      simp only [Act.put, List.setIfInBounds_toArray, List.set_cons_zero, List.set_cons_succ]
      clear e1 e2 e3 e4 hz1 hz2 k3 k4 Bq hab hab'
      have oz4 := oz3.below B13
      have ox4 := ox3.below B13
      have oy4 := oy3.below B13
      clear ho1 ox3 oy3 oz3
      have c0_ := bone.cell 0
      have c1_ := bone.cell 1
      simp only [List.getElem?_cons_succ, List.getElem?_cons_zero] at c0_ c1_
      have HT : Hid (LY.take j ++ [ith LY j] = LY.take (j + 1)) := Lib.hid (take_one (by rw [LenY.out]; exact hlt))
      have H3 : Hid ((LY.take j).length ≤ 1099511627776) := Lib.hid (by rw [List.length_take, LenY.out]; omega)
      go_wp2_with (at_builtin; refine wpList_appg w10 _ rfl _ _ 22 rfl Try.underlying22 info_zint 4 _ _ (by rfl) oy4 c0_ c1_ hz7 hk7 (by rfl) H3.out ?_)
      intro vy w1_ ho1 hG1
      rw [HT.out] at ho1
      clear c0_ c1_ HT H3 bone hz7
      obtain ⟨oz5, dz5⟩ := oz4.other hG1 dy1.symm ho1.old
      obtain ⟨ox5, dx5⟩ := ox4.other hG1 dy3.symm ho1.old
      have HN : Hid (OwnZ w10 w1_ (m + 3) vz (LZ.take (j + 1)) ∧ OwnZ w10 w1_ 4 vx (LX.take (j + 1)) ∧ OwnZ w10 w1_ 4 vy (LY.take (j + 1)) ∧ Dj vx vz ∧ Dj vy vz ∧ Dj vx vy) := Lib.hid ⟨oz5, ox5, ho1, dz3.symm, dz5.symm, dx5⟩
      clear oz5 ox5 ho1 dz3 dz5 dx5 oz4 ox4 oy4 hG1 dy1 dy3
      go_wp2_with fail
      go_roundw
      case rel => exact ⟨j + 1, by go_num, by omega, HN⟩
      case measure => first | (simp [intOf]; done) | (simp [intOf]; omega)
    · obtain rfl : j = n := by omega
      have u1 : ¬ (j : Int) < (j : Int) := by omega
      obtain ⟨oz, ox, oy, -, -, -⟩ := HO.out
      clear HO
      replace b3 := b3.below Bq
      replace b5 := b5.below Bq
      replace b7 := b7.below Bq
      replace b9 := b9.below Bq
      replace b11 := b11.below Bq
      replace m7 := m7.below Bq
      replace m9 := m9.below Bq
      replace m11 := m11.below Bq
      replace B0 := zup B0 Bq
      clear Bq k3 b4
      rw [List.take_of_length_le (by rw [LenZ.out]; exact Nat.le_refl _)] at oz
      obtain ⟨Az, cAz, eAz, zAz⟩ := oz.form
      subst eAz
      have fAz := (zAz true).to EZ.out
      clear oz zAz
      rw [List.take_of_length_le (by rw [LenX.out]; exact Nat.le_refl _)] at ox
      obtain ⟨Ax, cAx, eAx, zAx⟩ := ox.form
      subst eAx
      have fAx := (zAx true).to EX.out
      clear ox zAx
      rw [List.take_of_length_le (by rw [LenY.out]; exact Nat.le_refl _)] at oy
      obtain ⟨Ay, cAy, eAy, zAy⟩ := oy.form
      subst eAy
      have fAy := (zAy true).to EY.out
      clear oy zAy
      go_upto_region 17 with fail
      clear i2
      refine Run.start 12 ?_
      refine .mv .o ?_
      refine .two (.i 0) .o (opNe (by decide : decide ((0 : Int) ≠ 0) = false)) ?_
      refine .mv (.i 1) ?_
      refine .ld .o (ldM b11 0) ?_
      refine .fa .o (fM0 0) ?_
      refine .ld (.i 4) (ldInt b3 0) ?_
      refine .fa .o (fM1 1) ?_
      refine .ld (.i 6) (ldInt b3 1) ?_
      refine .mv .o ?_
      refine .c4 (.i 3) (.i 5) (.i 7) (.i 8) (x := .k (.bool true)) (by rintro u v x y w2 hB rfl rfl rfl rfl; exact ris_q (m11.below hB) (fAz.below hB) (by omega) (by omega)) ?_
      refine .nt (.i 9) ?_
      refine .pk (.i 2) (.i 10) false ?_
      refine .donep [some 138, some 139, some 140, some 141, some 142, some 143, some 144, some 145, some 146, some 147, some 148, some 149] ?_
      intro w14 B14
      change Shut (wpList _ _ _ [] _ _)
      refine ⟨?_⟩
      simp only [Act.put, List.setIfInBounds_toArray, List.set_cons_zero, List.set_cons_succ]
      replace b3 := b3.below B14
      replace b7 := b7.below B14
      replace b9 := b9.below B14
      replace m7 := m7.below B14
      replace m9 := m9.below B14
      replace fAx := fAx.below B14
      replace fAy := fAy.below B14
      replace B0 := zup B0 B14
      clear B14 fAz m11 b11 b5
      go_upto_region 21 with fail
      refine Run.start 25 ?_
      refine .mv .o ?_
      refine .two (.i 0) .o (opEq (by decide : decide ((0 : Int) = 0) = true)) ?_
      refine .mv (.i 1) ?_
      refine .mv .o ?_
      refine .two (.i 3) .o (opEq (by decide : decide ((0 : Int) = 0) = true)) ?_
      refine .pk (.i 2) (.i 4) true ?_
      refine .mv (.i 5) ?_
      refine .ld .o (ldM b7 0) ?_
      refine .fa .o (fM0 0) ?_
      refine .ld (.i 8) (ldInt b3 0) ?_
      refine .fa .o (fM1 1) ?_
      refine .ld (.i 10) (ldInt b3 1) ?_
      refine .mv .o ?_
      refine .c4 (.i 7) (.i 9) (.i 11) (.i 12) (x := .k (.bool true)) (by rintro u v x y w2 hB rfl rfl rfl rfl; exact ris_q (m7.below hB) (fAx.below hB) (by omega) (by omega)) ?_
      refine .pk (.i 6) (.i 13) true ?_
      refine .mv (.i 14) ?_
      refine .ld .o (ldM b9 0) ?_
      refine .fa .o (fM0 0) ?_
      refine .ld (.i 17) (ldInt b3 0) ?_
      refine .fa .o (fM1 1) ?_
      refine .ld (.i 19) (ldInt b3 1) ?_
      refine .mv .o ?_
      refine .c4 (.i 16) (.i 18) (.i 20) (.i 21) (x := .k (.bool true)) (by rintro u v x y w2 hB rfl rfl rfl rfl; exact ris_q (m9.below hB) (fAy.below hB) (by omega) (by omega)) ?_
      refine .pk (.i 15) (.i 22) true ?_
      refine .mv (.i 23) ?_
      refine .donep [some 166, some 167, some 168, some 169, some 170, some 171, some 172, some 173, some 174, some 175, some 176, some 177, some 178, some 179, some 180, some 181, some 182, some 183, some 184, some 185, some 186, some 187, some 188, some 189, some 6] ?_
      intro w15 B15
      change Shut (wpList _ _ _ [] _ _)
      refine ⟨?_⟩
      simp only [Act.put, List.setIfInBounds_toArray, List.set_cons_zero, List.set_cons_succ]
      go_wp2_with fail
      exact bodyPost_ret (v := .bool true) (by simp [results, Try.results3, go_sem]) rfl (ret_k rfl (zup B0 B15))
/-- MatAdds. -/
theorem adds11_law {r c r' c' : Int} {A A' D : Option Addr} {n d n' d' m e : Nat} {s : Bool} {z : Int} {Ra Rb : List Zr} {w : World} (ha : RL w A n d Ra) (hb : RL w A' n' d' Rb) (hz : Zv w s D m e z) : Calls Try.prog 3 #[.agg #[.int .i64 r, .int .i64 c, .slice A n d], .agg #[.int .i64 r', .int .i64 c', .slice A' n' d'], .agg #[.bool s, .slice D m e]] w (RetK (.k (.bool true)) w) := by
  by_cases h : (fewb r c Ra 6 3 && fewb r' c' Rb 6 3) = true ∧ m ≤ 3
  · obtain ⟨ht, hm⟩ := h
    have h1 := ht
    rw [Bool.and_eq_true] at h1
    cases hf : fmd r c n with
    | false => exact adds11_no ha hb hz ht hm hf
    | true =>
      obtain ⟨r0, c0, rfl, rfl, h6, h7, hn, hA⟩ := ha.mt hf h1.1
      cases hs : (fmd r' c' n' && (decide ((r0 : Int) = r') && decide ((c0 : Int) = c'))) with
      | false => exact adds11_other ha hb hz ht hm hA h6 h7 hs
      | true =>
        simp only [Bool.and_eq_true, decide_eq_true_eq] at hs
        obtain ⟨h2, rfl, rfl⟩ := hs
        obtain ⟨r1, c1, e1, e2, h8, h9, hn2, hG⟩ := hb.mt h2 h1.2
        have e3 : r1 = r0 := by omega
        have e4 : c1 = c0 := by omega
        subst e3 e4
        exact adds11_same ha hb hz ht hm hA hG h6 h7
  · exact adds11_off ha hb hz h
end Go.Proofs.Ytcdkdanfiimlkaa
