/-
  The law MatMuls.
-/
import Derived.Test.YtcdkdanfiimlkaaMtQ
/-! The law's walk: products, transposes. -/
namespace Go.Proofs.Ytcdkdanfiimlkaa
open Go.RowKit
set_option linter.unusedVariables false
set_option linter.unusedSimpArgs false

set_option maxRecDepth 100000 in
/-- MatMuls, of what isn't looked at. -/
theorem muls11_off {r c r' c' : Int} {A A' : Option Addr} {n d n' d' : Nat} {Ra Rb : List Zr} {w : World} (ha : RL w A n d Ra) (hb : RL w A' n' d' Rb) (ht : (fewb r c Ra 6 3 && fewb r' c' Rb 6 3) = false) : Calls Try.prog 4 #[.agg #[.int .i64 r, .int .i64 c, .slice A n d], .agg #[.int .i64 r', .int .i64 c', .slice A' n' d']] w (RetK (.k (.bool true)) w) := by
  obtain ⟨w1, hw1, b2, b3, z1, s1⟩ := boxes2 w 24 24 [.int .i64 r, .int .i64 c, .slice A n d] [.int .i64 r', .int .i64 c', .slice A' n' d']
  have HW := Lib.hid hw1
  have HZ := Lib.hid z1
  have ht_ := Lib.hid ht
  clear hw1 z1 ht s1
  go_enter Try.func4, Try.ntmps4
  go_upto_region 1 with fail
  rw [HW.out]
  refine Run.start 8 ?_
  refine .c0 (x := .k (.bool true)) (fun w2 hB => awake11_q w2) ?_
  refine .nt (.i 0) ?_
  refine .mv (.i 1) ?_
  refine .ld .o (ldM b2 0) ?_
  refine .ld .o (ldM b3 0) ?_
  refine .c2 (.i 3) (.i 4) (x := .k (.bool false)) (by rintro u v w2 hB rfl rfl; exact lfew_q (ha.below (zup HZ.out hB)) (hb.below (zup HZ.out hB)) ht_.out) ?_
  refine .nf (.i 5) ?_
  refine .pk (.i 2) (.i 6) false ?_
  refine .donep [some 11, some 12, some 13, some 14, some 15, some 16, some 17, some 18] ?_
  intro w2 B2
  change Shut (wpList _ _ _ [] _ _)
  refine ⟨?_⟩
  simp only [Act.put, List.setIfInBounds_toArray, List.set_cons_zero, List.set_cons_succ]
  have B0 := zup HZ.out B2
  clear b2 b3 B2
  go_upto_region 2 with fail
  refine Run.start 2 ?_
  refine .c0 (x := .k (.bool true)) (fun w2 hB => awake11_q w2) ?_
  refine .mv (.i 0) ?_
  refine .donep [some 19, some 4] ?_
  intro w3 B3
  change Shut (wpList _ _ _ [] _ _)
  refine ⟨?_⟩
  simp only [Act.put, List.setIfInBounds_toArray, List.set_cons_zero, List.set_cons_succ]
  go_wp2_with fail
  exact bodyPost_ret (v := .bool true) (by simp [results, Try.results4, go_sem]) rfl (ret_k rfl (zup B0 B3))
set_option maxRecDepth 100000 in
set_option maxHeartbeats 1000000 in
/-- MatMuls, of a matrix that isn't formed. -/
theorem muls11_no {r c r' c' : Int} {A A' : Option Addr} {n d n' d' : Nat} {Ra Rb : List Zr} {w : World} (ha : RL w A n d Ra) (hb : RL w A' n' d' Rb) (ht : (fewb r c Ra 6 3 && fewb r' c' Rb 6 3) = true) (hf : fmd r c n = false) : Calls Try.prog 4 #[.agg #[.int .i64 r, .int .i64 c, .slice A n d], .agg #[.int .i64 r', .int .i64 c', .slice A' n' d']] w (RetK (.k (.bool true)) w) := by
  obtain ⟨w1, hw1, b2, b3, z1, s1⟩ := boxes2 w 24 24 [.int .i64 r, .int .i64 c, .slice A n d] [.int .i64 r', .int .i64 c', .slice A' n' d']
  have HW := Lib.hid hw1
  have HZ := Lib.hid z1
  have ht_ := Lib.hid ht
  have hf_ := Lib.hid hf
  clear hw1 z1 ht hf s1
  go_enter Try.func4, Try.ntmps4
  go_upto_region 1 with fail
  rw [HW.out]
  refine Run.start 8 ?_
  refine .c0 (x := .k (.bool true)) (fun w2 hB => awake11_q w2) ?_
  refine .nt (.i 0) ?_
  refine .mv (.i 1) ?_
  refine .ld .o (ldM b2 0) ?_
  refine .ld .o (ldM b3 0) ?_
  refine .c2 (.i 3) (.i 4) (x := .k (.bool true)) (by rintro u v w2 hB rfl rfl; exact lfew_q (ha.below (zup HZ.out hB)) (hb.below (zup HZ.out hB)) ht_.out) ?_
  refine .nt (.i 5) ?_
  refine .pk (.i 2) (.i 6) false ?_
  refine .donep [some 11, some 12, some 13, some 14, some 15, some 16, some 17, some 18] ?_
  intro w2 B2
  change Shut (wpList _ _ _ [] _ _)
  refine ⟨?_⟩
  simp only [Act.put, List.setIfInBounds_toArray, List.set_cons_zero, List.set_cons_succ]
  have B0 := zup HZ.out B2
  replace b2 := b2.below B2
  replace b3 := b3.below B2
  clear B2 HZ
  go_upto_region 3 with fail
  refine Run.start 7 ?_
  refine .ld .o (ldM b2 0) ?_
  refine .ld .o (ldM b3 0) ?_
  refine .c2 (.i 0) (.i 1) (x := noM 2) (by rintro u v w2 hB rfl rfl; exact mmul_no (by rw [hf_.out]; rfl)) ?_
  refine .mv (.i 2) ?_
  refine .ex (.i 3) 0 exM0 ?_
  refine .ex (.i 3) 1 exM1 ?_
  refine .al ?_
  refine .donep [some 21, some 22, some 23, some 20, some 24, some 25, some 5] ?_
  intro w3 B3
  rintro g5 hg5 hl5 hc5 -
  change Shut (wpList _ _ _ [_, _] _ _)
  refine ⟨?_⟩
  simp only [Act.put, List.setIfInBounds_toArray, List.set_cons_zero, List.set_cons_succ]
  have b5 := zeroM hc5
  have hs5 := B0.size
  have hl_b2 := b2.lt
  have hl_b3 := b3.lt
  replace B0 := zup B0 B3
  replace b2 := b2.below B3
  replace b3 := b3.below B3
  clear B3 hc5
  obtain ⟨w4, hw4⟩ : ∃ x, mput w3 g5 0 0 none 0 0 = x := ⟨_, rfl⟩
  obtain ⟨f0_, f1_, f2_, f3_, f4_, f5_, f6_⟩ := b5.m3
  replace b2 := b2.mo (g := g5) (r := 0) (c := 0) (A := none) (n := 0) (d := 0) (by omega)
  rw [hw4] at b2
  replace b3 := b3.mo (g := g5) (r := 0) (c := 0) (A := none) (n := 0) (d := 0) (by omega)
  rw [hw4] at b3
  replace B0 := below_mput (g := g5) (r := 0) (c := 0) (A := none) (n := 0) (d := 0) B0 (by omega)
  rw [hw4] at B0
  replace b5 := b5.mp (g := g5) (r := 0) (c := 0) (A := none) (n := 0) (d := 0)
  rw [hw4] at b5
  have Hw4 := Lib.hid hw4
  unfold mput at Hw4
  clear hw4
  go_upto_region 4 with fail
  rw [Hw4.out]
  clear f0_ f1_ f2_ f3_ f4_ f5_ f6_ Hw4
  clear hs5 hl_b2 hl_b3
  refine Run.start 6 ?_
  refine .ld .o (ldM b2 0) ?_
  refine .c1 (.i 0) (x := noM 2) (by rintro u w2 hB rfl; exact mtrans_no hf_.out) ?_
  refine .mv (.i 1) ?_
  refine .ex (.i 2) 0 exM0 ?_
  refine .ex (.i 2) 1 exM1 ?_
  refine .al ?_
  refine .donep [some 27, some 28, some 26, some 29, some 30, some 7] ?_
  intro w5 B5
  rintro g7 hg7 hl7 hc7 -
  change Shut (wpList _ _ _ [_, _] _ _)
  refine ⟨?_⟩
  simp only [Act.put, List.setIfInBounds_toArray, List.set_cons_zero, List.set_cons_succ]
  have b7 := zeroM hc7
  have hs7 := B0.size
  have hl_b2 := b2.lt
  have hl_b3 := b3.lt
  have hl_b5 := b5.lt
  replace B0 := zup B0 B5
  replace b2 := b2.below B5
  replace b3 := b3.below B5
  replace b5 := b5.below B5
  clear B5 hc7
  obtain ⟨w6, hw6⟩ : ∃ x, mput w5 g7 0 0 none 0 0 = x := ⟨_, rfl⟩
  obtain ⟨f0_, f1_, f2_, f3_, f4_, f5_, f6_⟩ := b7.m3
  replace b2 := b2.mo (g := g7) (r := 0) (c := 0) (A := none) (n := 0) (d := 0) (by omega)
  rw [hw6] at b2
  replace b3 := b3.mo (g := g7) (r := 0) (c := 0) (A := none) (n := 0) (d := 0) (by omega)
  rw [hw6] at b3
  replace b5 := b5.mo (g := g7) (r := 0) (c := 0) (A := none) (n := 0) (d := 0) (by omega)
  rw [hw6] at b5
  replace B0 := below_mput (g := g7) (r := 0) (c := 0) (A := none) (n := 0) (d := 0) B0 (by omega)
  rw [hw6] at B0
  replace b7 := b7.mp (g := g7) (r := 0) (c := 0) (A := none) (n := 0) (d := 0)
  rw [hw6] at b7
  have Hw6 := Lib.hid hw6
  unfold mput at Hw6
  clear hw6
  go_upto_region 5 with fail
  rw [Hw6.out]
  clear f0_ f1_ f2_ f3_ f4_ f5_ f6_ Hw6
  clear hs7 hl_b2 hl_b3 hl_b5
  refine Run.start 3 ?_
  refine .ld .o (ldM b2 0) ?_
  refine .c1 (.i 0) (x := .k (.bool false)) (by rintro u w2 hB rfl; exact rformed_q hf_.out w2) ?_
  refine .nf (.i 1) ?_
  refine .donep [some 31, some 32, some 33] ?_
  intro w7 B7
  change Shut (wpList _ _ _ [] _ _)
  refine ⟨?_⟩
  simp only [Act.put, List.setIfInBounds_toArray, List.set_cons_zero, List.set_cons_succ]
  replace B0 := zup B0 B7
  replace b5 := b5.below B7
  replace b7 := b7.below B7
  clear B7
  go_upto_region 6 with fail
  refine Run.start 15 ?_
  refine .mv .o ?_
  refine .two (.i 0) .o (opEq (by decide : decide ((2 : Int) = 2) = true)) ?_
  refine .mv (.i 1) ?_
  refine .mv .o ?_
  refine .two (.i 3) .o (opEq (by decide : decide ((2 : Int) = 2) = true)) ?_
  refine .pk (.i 2) (.i 4) true ?_
  refine .mv (.i 5) ?_
  refine .ld .o (ldM b5 0) ?_
  refine .c1 (.i 7) (x := .k (.bool true)) (by rintro u w2 hB rfl; exact rnone_q w2) ?_
  refine .pk (.i 6) (.i 8) true ?_
  refine .mv (.i 9) ?_
  refine .ld .o (ldM b7 0) ?_
  refine .c1 (.i 11) (x := .k (.bool true)) (by rintro u w2 hB rfl; exact rnone_q w2) ?_
  refine .pk (.i 10) (.i 12) true ?_
  refine .mv (.i 13) ?_
  refine .donep [some 34, some 35, some 36, some 37, some 38, some 39, some 40, some 41, some 42, some 43, some 44, some 45, some 46, some 47, some 4] ?_
  intro w8 B8
  change Shut (wpList _ _ _ [] _ _)
  refine ⟨?_⟩
  simp only [Act.put, List.setIfInBounds_toArray, List.set_cons_zero, List.set_cons_succ]
  go_wp2_with fail
  exact bodyPost_ret (v := .bool true) (by simp [results, Try.results4, go_sem]) rfl (ret_k rfl (zup B0 B8))
set_option maxRecDepth 100000 in
set_option maxHeartbeats 2000000 in
/-- MatMuls, of a matrix. -/
theorem muls11_yes {r c : Nat} {r' c' : Int} {F : Nat → Nat → Int} {x : Option PM} {A A' : Option Addr} {n d n' d' : Nat} {Ra Rb : List Zr} {w : World} (ha : RL w A n d Ra) (hb : RL w A' n' d' Rb) (ht : (fewb r c Ra 6 3 && fewb r' c' Rb 6 3) = true) (hA : Mt false w r c A n d 3 F) (hG : Raw w r' c' A' n' d' 3 x) (hr6 : r ≤ 6) (hc6 : c ≤ 6) : Calls Try.prog 4 #[.agg #[.int .i64 (r : Int), .int .i64 (c : Int), .slice A n d], .agg #[.int .i64 r', .int .i64 c', .slice A' n' d']] w (RetK (.k (.bool true)) w) := by
  have hfa := hA.fmd
  obtain ⟨y, hy⟩ : ∃ y, oMul (some ⟨r, c, F⟩) x = y := ⟨_, rfl⟩
  obtain ⟨p1, hp1⟩ : ∃ p, vP y = p := ⟨_, rfl⟩
  obtain ⟨e1, he1⟩ : ∃ e, vE y = e := ⟨_, rfl⟩
  have hA0 : Raw w (r : Int) (c : Int) A n d 3 (some ⟨r, c, F⟩) := ⟨rfl, rfl, hA⟩
  have hp : vP (oMul (some ⟨r, c, F⟩) x) = p1 := by rw [hy]; exact hp1
  have he : vE (oMul (some ⟨r, c, F⟩) x) = e1 := by rw [hy]; exact he1
  obtain ⟨w1, hw1, b2, b3, z1, s1⟩ := boxes2 w 24 24 [.int .i64 (r : Int), .int .i64 (c : Int), .slice A n d] [.int .i64 r', .int .i64 c', .slice A' n' d']
  have HW := Lib.hid hw1
  have HZ := Lib.hid z1
  have ht_ := Lib.hid ht
  have hfa_ := Lib.hid hfa
  have hy_ := Lib.hid hy
  have hp1_ := Lib.hid hp1
  have he1_ := Lib.hid he1
  have hp_ := Lib.hid hp
  have he_ := Lib.hid he
  clear hw1 z1 ht hfa hy hp1 he1 hp he s1
  go_enter Try.func4, Try.ntmps4
  go_upto_region 1 with fail
  rw [HW.out]
  refine Run.start 8 ?_
  refine .c0 (x := .k (.bool true)) (fun w2 hB => awake11_q w2) ?_
  refine .nt (.i 0) ?_
  refine .mv (.i 1) ?_
  refine .ld .o (ldM b2 0) ?_
  refine .ld .o (ldM b3 0) ?_
  refine .c2 (.i 3) (.i 4) (x := .k (.bool true)) (by rintro u v w2 hB rfl rfl; exact lfew_q (ha.below (zup HZ.out hB)) (hb.below (zup HZ.out hB)) ht_.out) ?_
  refine .nt (.i 5) ?_
  refine .pk (.i 2) (.i 6) false ?_
  refine .donep [some 11, some 12, some 13, some 14, some 15, some 16, some 17, some 18] ?_
  intro w2 B2
  change Shut (wpList _ _ _ [] _ _)
  refine ⟨?_⟩
  simp only [Act.put, List.setIfInBounds_toArray, List.set_cons_zero, List.set_cons_succ]
  have B0 := zup HZ.out B2
  replace b2 := b2.below B2
  replace b3 := b3.below B2
  clear B2 HZ
  go_upto_region 3 with fail
  refine Run.start 7 ?_
  refine .ld .o (ldM b2 0) ?_
  refine .ld .o (ldM b3 0) ?_
  refine .c2 (.i 0) (.i 1) (x := kT (kM true p1.r p1.c (70) (p1.F)) (.k (.int .i64 e1))) (by rintro u v w2 hB rfl rfl; exact mmul_tot (hA0.below (zup B0 hB)) (hG.below (zup B0 hB)) hp_.out he_.out (by omega) (by omega)) ?_
  refine .mf (.i 2) ?_
  refine .ex (.i 3) 0 kT_0 ?_
  refine .ex (.i 3) 1 kT_1 ?_
  refine .al ?_
  refine .donep [some 21, some 22, some 23, some 20, some 24, some 25, some 5] ?_
  intro w3 B3
  rintro v1 -
  rintro v2 -
  rintro v3 ⟨A5, n5, d5, rfl, m5⟩
  rintro g5 hg5 hl5 hc5 -
  change Shut (wpList _ _ _ [_, _] _ _)
  refine ⟨?_⟩
  simp only [Act.put, List.setIfInBounds_toArray, List.set_cons_zero, List.set_cons_succ]
  have b5 := zeroM hc5
  have hs5 := B0.size
  have hl_b2 := b2.lt
  have hl_b3 := b3.lt
  replace B0 := zup B0 B3
  replace b2 := b2.below B3
  replace b3 := b3.below B3
  clear B3 hc5
  obtain ⟨w4, hw4⟩ : ∃ x, mput w3 g5 (p1.r : Int) (p1.c : Int) A5 n5 d5 = x := ⟨_, rfl⟩
  obtain ⟨f0_, f1_, f2_, f3_, f4_, f5_, f6_⟩ := b5.m3
  replace b2 := b2.mo (g := g5) (r := (p1.r : Int)) (c := (p1.c : Int)) (A := A5) (n := n5) (d := d5) (by omega)
  rw [hw4] at b2
  replace b3 := b3.mo (g := g5) (r := (p1.r : Int)) (c := (p1.c : Int)) (A := A5) (n := n5) (d := d5) (by omega)
  rw [hw4] at b3
  replace m5 := m5.put (r' := (p1.r : Int)) (c' := (p1.c : Int)) (C := A5) (n' := n5) (d' := d5) b5
  rw [hw4] at m5
  replace B0 := below_mput (g := g5) (r := (p1.r : Int)) (c := (p1.c : Int)) (A := A5) (n := n5) (d := d5) B0 (by omega)
  rw [hw4] at B0
  replace b5 := b5.mp (g := g5) (r := (p1.r : Int)) (c := (p1.c : Int)) (A := A5) (n := n5) (d := d5)
  rw [hw4] at b5
  have Hw4 := Lib.hid hw4
  unfold mput at Hw4
  clear hw4
  go_upto_region 4 with fail
  rw [Hw4.out]
  clear f0_ f1_ f2_ f3_ f4_ f5_ f6_ Hw4
  clear hs5 hl_b2 hl_b3
  refine Run.start 6 ?_
  refine .ld .o (ldM b2 0) ?_
  refine .c1 (.i 0) (x := kT (kM true c r (3) (fun i j => F j i)) (.k (.int .i64 0))) (by rintro u w2 hB rfl; exact mtrans_yes (hA.below (zup B0 hB)) (by decide)) ?_
  refine .mf (.i 1) ?_
  refine .ex (.i 2) 0 kT_0 ?_
  refine .ex (.i 2) 1 kT_1 ?_
  refine .al ?_
  refine .donep [some 27, some 28, some 26, some 29, some 30, some 7] ?_
  intro w5 B5
  rintro v1 -
  rintro v2 -
  rintro v3 ⟨A7, n7, d7, rfl, m7⟩
  rintro g7 hg7 hl7 hc7 -
  change Shut (wpList _ _ _ [_, _] _ _)
  refine ⟨?_⟩
  simp only [Act.put, List.setIfInBounds_toArray, List.set_cons_zero, List.set_cons_succ]
  have b7 := zeroM hc7
  have hs7 := B0.size
  have hl_b2 := b2.lt
  have hl_b3 := b3.lt
  have hl_b5 := b5.lt
  replace B0 := zup B0 B5
  replace b2 := b2.below B5
  replace b3 := b3.below B5
  replace b5 := b5.below B5
  replace m5 := m5.below B5
  clear B5 hc7
  obtain ⟨w6, hw6⟩ : ∃ x, mput w5 g7 (c : Int) (r : Int) A7 n7 d7 = x := ⟨_, rfl⟩
  obtain ⟨f0_, f1_, f2_, f3_, f4_, f5_, f6_⟩ := b7.m3
  replace b2 := b2.mo (g := g7) (r := (c : Int)) (c := (r : Int)) (A := A7) (n := n7) (d := d7) (by omega)
  rw [hw6] at b2
  replace b3 := b3.mo (g := g7) (r := (c : Int)) (c := (r : Int)) (A := A7) (n := n7) (d := d7) (by omega)
  rw [hw6] at b3
  replace b5 := b5.mo (g := g7) (r := (c : Int)) (c := (r : Int)) (A := A7) (n := n7) (d := d7) (by omega)
  rw [hw6] at b5
  replace m5 := m5.put (r' := (c : Int)) (c' := (r : Int)) (C := A7) (n' := n7) (d' := d7) b7
  rw [hw6] at m5
  replace m7 := m7.put (r' := (c : Int)) (c' := (r : Int)) (C := A7) (n' := n7) (d' := d7) b7
  rw [hw6] at m7
  replace B0 := below_mput (g := g7) (r := (c : Int)) (c := (r : Int)) (A := A7) (n := n7) (d := d7) B0 (by omega)
  rw [hw6] at B0
  replace b7 := b7.mp (g := g7) (r := (c : Int)) (c := (r : Int)) (A := A7) (n := n7) (d := d7)
  rw [hw6] at b7
  have Hw6 := Lib.hid hw6
  unfold mput at Hw6
  clear hw6
  go_upto_region 5 with fail
  rw [Hw6.out]
  clear f0_ f1_ f2_ f3_ f4_ f5_ f6_ Hw6
  clear hs7 hl_b2 hl_b3 hl_b5
  refine Run.start 3 ?_
  refine .ld .o (ldM b2 0) ?_
  refine .c1 (.i 0) (x := .k (.bool true)) (by rintro u w2 hB rfl; exact rformed_q hfa_.out w2) ?_
  refine .nt (.i 1) ?_
  refine .donep [some 31, some 32, some 33] ?_
  intro w7 B7
  change Shut (wpList _ _ _ [] _ _)
  refine ⟨?_⟩
  simp only [Act.put, List.setIfInBounds_toArray, List.set_cons_zero, List.set_cons_succ]
  replace B0 := zup B0 B7
  replace b2 := b2.below B7
  replace b3 := b3.below B7
  replace b5 := b5.below B7
  replace b7 := b7.below B7
  replace m5 := m5.below B7
  replace m7 := m7.below B7
  clear B7
  go_upto_region 7 with fail
  refine Run.start 21 ?_
  refine .mv .o ?_
  refine .two (.i 0) .o (opNe (by decide : decide ((0 : Int) ≠ 0) = false)) ?_
  refine .mv (.i 1) ?_
  refine .ld .o (ldM b7 0) ?_
  refine .c1 (.i 3) (x := .k (.bool true)) (by rintro u w2 hB rfl; exact rnormal_q (m7.below hB) (by decide)) ?_
  refine .nt (.i 4) ?_
  refine .pk (.i 2) (.i 5) false ?_
  refine .mv (.i 6) ?_
  refine .fa .o (fM0 0) ?_
  refine .ld (.i 8) (ldInt b7 0) ?_
  refine .fa .o (fM1 1) ?_
  refine .ld (.i 10) (ldInt b2 1) ?_
  refine .two (.i 9) (.i 11) (opNe (decide_eq_false (fun h => h rfl) : decide ((c : Int) ≠ (c : Int)) = false)) ?_
  refine .pk (.i 7) (.i 12) false ?_
  refine .mv (.i 13) ?_
  refine .fa .o (fM1 1) ?_
  refine .ld (.i 15) (ldInt b7 1) ?_
  refine .fa .o (fM0 0) ?_
  refine .ld (.i 17) (ldInt b2 0) ?_
  refine .two (.i 16) (.i 18) (opNe (decide_eq_false (fun h => h rfl) : decide ((r : Int) ≠ (r : Int)) = false)) ?_
  refine .pk (.i 14) (.i 19) false ?_
  refine .donep [some 48, some 49, some 50, some 51, some 52, some 53, some 54, some 55, some 56, some 57, some 58, some 59, some 60, some 61, some 62, some 63, some 64, some 65, some 66, some 67, some 68] ?_
  intro w8 B8
  change Shut (wpList _ _ _ [] _ _)
  refine ⟨?_⟩
  simp only [Act.put, List.setIfInBounds_toArray, List.set_cons_zero, List.set_cons_succ]
  replace B0 := zup B0 B8
  replace b2 := b2.below B8
  replace b3 := b3.below B8
  replace b5 := b5.below B8
  replace b7 := b7.below B8
  replace m5 := m5.below B8
  replace m7 := m7.below B8
  clear B8
  have HO : Hid (Below w8.heap.size w8 w8) := Lib.hid (Below.refl _ _)
  go_wp2_with fail
  go_loopw [9] (fun s9 wr => ∃ i : Nat, s9 = .int .i64 (i : Int) ∧ i ≤ r ∧ Hid (Below w8.heap.size w8 wr)) (fun s9 _ => r - (intOf s9).toNat)
  case atStart => exact ⟨0, rfl, Nat.zero_le _, HO⟩
  case round =>
    clear HO
    obtain ⟨i, rfl, hi, HO⟩ := hrel
    obtain ⟨i0, i1, i2, i3, i4, i5, i6⟩ := (b2.below HO.out).m3
    by_cases hlt : i < r
    · have u1 : (i : Int) < (r : Int) := by omega
      go_wp2_with fail
      clear i0 i1 i2 i3 i4 i5 i6
      go_loopw [10] (fun s10 wr => ∃ j : Nat, s10 = .int .i64 (j : Int) ∧ j ≤ c ∧ Hid (Below w8.heap.size w8 wr)) (fun s10 _ => c - (intOf s10).toNat)
      case atStart => exact ⟨0, rfl, Nat.zero_le _, HO⟩
      case round =>
        clear HO
        obtain ⟨j, rfl, hj, HO⟩ := hrel
        obtain ⟨i0, i1, i2, i3, i4, i5, i6⟩ := (b2.below HO.out).m3
        by_cases hjl : j < c
        · have u2 : (j : Int) < (c : Int) := by omega
          go_upto_region 15 with fail
          clear i0 i1 i2 i3 i4 i5 i6
          have Bq := HO.out
          clear HO
          have k2 := b2.below Bq
          have k7 := b7.below Bq
          refine Run.start 10 ?_
          refine .ld .o (ldM k7 0) ?_
          refine .mv .o ?_
          refine .mv .o ?_
          refine .c3 (.i 0) (.i 1) (.i 2) (x := kV (F i j) 3) (by rintro u v x_ w2 hB rfl rfl rfl; exact rat_q (F := fun a b => F b a) (i := j) (j := i) (m7.below (zup Bq hB)) hjl hlt) ?_
          refine .ld .o (ldM k2 0) ?_
          refine .mv .o ?_
          refine .mv .o ?_
          refine .c3 (.i 4) (.i 5) (.i 6) (x := kV (F i j) 3) (by rintro u v x_ w2 hB rfl rfl rfl; exact rat_q (F := F) (i := i) (j := j) (hA.below (zup B0 (zup Bq hB))) hlt hjl) ?_
          refine .c2 (.i 3) (.i 7) (x := .k (.bool true)) (by intro u v w2 hB h1 h2; exact zsame_q h1 h2 (by omega) (by omega) (decide_eq_true rfl)) ?_
          refine .nt (.i 8) ?_
          refine .done [some 81, some 82, some 83, some 84, some 85, some 86, some 87, some 88, some 89, some 90] ?_
          intro w9 B9
          rintro v0 -
          rintro v1 -
          change Shut (wpList _ _ _ [] _ _)
          refine ⟨?_⟩
          simp only [Act.put, List.setIfInBounds_toArray, List.set_cons_zero, List.set_cons_succ]
          have HN := Lib.hid (zup Bq B9)
          clear Bq k2 k7 B9
          go_wp2_with fail
          go_roundw
          case rel => exact ⟨j + 1, by go_num, by omega, HN⟩
          case measure => first | (simp [intOf]; done) | (simp [intOf]; omega)
        · obtain rfl : j = c := by omega
          have u2 : ¬ (j : Int) < (j : Int) := by omega
          go_wp2_with fail
          go_roundw
          case rel => exact ⟨i + 1, by go_num, by omega, HO⟩
          case measure => first | (simp [intOf]; done) | (simp [intOf]; omega)
    · obtain rfl : i = r := by omega
      have u1 : ¬ (i : Int) < (i : Int) := by omega
      have Bq := HO.out
      clear HO
      replace b2 := b2.below Bq
      replace b3 := b3.below Bq
      replace b5 := b5.below Bq
      replace m5 := m5.below Bq
      replace B0 := zup B0 Bq
      clear Bq b7 m7
      go_upto_region 17 with fail
      clear i0 i1 i2 i3 i4 i5 i6
      cases x with
      | none =>
        have hy2 := hy_.out
        have hp2 := hp1_.out
        have he2 := he1_.out
        clear hy_ hp1_ he1_ hp_ he_
        have hfb := hG.fmd
        cases hy2
        cases hp2
        cases he2
        refine Run.start 10 ?_
        refine .ld .o (ldM b3 0) ?_
        refine .c1 (.i 0) (x := .k (.bool false)) (by rintro u w2 hB rfl; exact rformed_q hfb w2) ?_
        refine .nf (.i 1) ?_
        refine .mv (.i 2) ?_
        refine .no ?_
        refine .no ?_
        refine .no ?_
        refine .no ?_
        refine .no ?_
        refine .pk (.i 3) .o true ?_
        refine .donep [some 91, some 92, some 93, some 94, some 95, some 96, some 97, some 98, some 99, some 100] ?_
        intro w10 B10
        change Shut (wpList _ _ _ [] _ _)
        refine ⟨?_⟩
        simp only [Act.put, List.setIfInBounds_toArray, List.set_cons_zero, List.set_cons_succ]
        replace B0 := zup B0 B10
        replace b2 := b2.below B10
        replace b3 := b3.below B10
        replace b5 := b5.below B10
        replace m5 := m5.below B10
        clear B10
        obtain rfl : n5 = 0 := m5.len
        go_upto_region 18 with fail
        refine Run.start 7 ?_
        refine .mv .o ?_
        refine .two (.i 0) .o (opEq (by decide : decide ((2 : Int) = 2) = true)) ?_
        refine .mv (.i 1) ?_
        refine .ld .o (ldM b5 0) ?_
        refine .c1 (.i 3) (x := .k (.bool true)) (by rintro u w2 hB rfl; exact rnone_g w2) ?_
        refine .pk (.i 2) (.i 4) true ?_
        refine .mv (.i 5) ?_
        refine .donep [some 101, some 102, some 103, some 104, some 105, some 106, some 4] ?_
        intro w11 B11
        change Shut (wpList _ _ _ [] _ _)
        refine ⟨?_⟩
        simp only [Act.put, List.setIfInBounds_toArray, List.set_cons_zero, List.set_cons_succ]
        go_wp2_with fail
        exact bodyPost_ret (v := .bool true) (by simp [results, Try.results4, go_sem]) rfl (ret_k rfl (zup B0 B11))
      | some b =>
        obtain ⟨rfl, rfl, hB2⟩ := hG
        have hfb := hB2.fmd
        by_cases hcr : c = b.r
        · have hy2 := hy_.out
          have hp2 := hp1_.out
          have he2 := he1_.out
          clear hy_ hp1_ he1_ hp_ he_
          have ho : oMul (some ⟨i, c, F⟩) (some b) = some ⟨i, b.c, fun i j => dot F b.F i j c⟩ := if_pos hcr
          rw [ho] at hy2
          cases hy2
          cases hp2
          cases he2
          refine Run.start 10 ?_
          refine .ld .o (ldM b3 0) ?_
          refine .c1 (.i 0) (x := .k (.bool true)) (by rintro u w2 hB rfl; exact rformed_q hfb w2) ?_
          refine .nt (.i 1) ?_
          refine .mv (.i 2) ?_
          refine .fa .o (fM1 1) ?_
          refine .ld (.i 4) (ldInt b2 1) ?_
          refine .fa .o (fM0 0) ?_
          refine .ld (.i 6) (ldInt b3 0) ?_
          refine .two (.i 5) (.i 7) (opNe (decide_eq_false (fun h => h (by rw [hcr])) : decide ((c : Int) ≠ (b.r : Int)) = false)) ?_
          refine .pk (.i 3) (.i 8) false ?_
          refine .donep [some 91, some 92, some 93, some 94, some 95, some 96, some 97, some 98, some 99, some 100] ?_
          intro w10 B10
          change Shut (wpList _ _ _ [] _ _)
          refine ⟨?_⟩
          simp only [Act.put, List.setIfInBounds_toArray, List.set_cons_zero, List.set_cons_succ]
          replace B0 := zup B0 B10
          replace b2 := b2.below B10
          replace b3 := b3.below B10
          replace b5 := b5.below B10
          replace m5 := m5.below B10
          clear B10
          go_upto_region 19 with fail
          refine Run.start 14 ?_
          refine .mv .o ?_
          refine .two (.i 0) .o (opEq (by decide : decide ((0 : Int) = 0) = true)) ?_
          refine .mv (.i 1) ?_
          refine .ld .o (ldM b5 0) ?_
          refine .fa .o (fM0 0) ?_
          refine .ld (.i 4) (ldInt b2 0) ?_
          refine .fa .o (fM1 1) ?_
          refine .ld (.i 6) (ldInt b3 1) ?_
          refine .ld .o (ldM b2 0) ?_
          refine .ld .o (ldM b3 0) ?_
          refine .c2 (.i 8) (.i 9) (x := kZs (3 + 3 + c) (mk i b.c (fun i j => dot F b.F i j c))) (by rintro u v w2 hB rfl rfl; exact rmul_q (hA.below (zup B0 hB)) (hB2.below (zup B0 hB)) hcr (by omega)) ?_
          refine .c4 (.i 3) (.i 5) (.i 7) (.i 10) (x := .k (.bool true)) (by rintro u v x_ y_ w2 hB rfl rfl rfl ⟨A8, n8, d8, rfl, hz8⟩; exact ris_q (m5.below hB) hz8 (by omega) (by omega)) ?_
          refine .pk (.i 2) (.i 11) true ?_
          refine .mv (.i 12) ?_
          refine .done [some 107, some 108, some 109, some 110, some 111, some 112, some 113, some 114, some 115, some 116, some 117, some 118, some 119, some 4] ?_
          intro w11 B11
          rintro v0 -
          change Shut (wpList _ _ _ [] _ _)
          refine ⟨?_⟩
          simp only [Act.put, List.setIfInBounds_toArray, List.set_cons_zero, List.set_cons_succ]
          go_wp2_with fail
          exact bodyPost_ret (v := .bool true) (by simp [results, Try.results4, go_sem]) rfl (ret_k rfl (zup B0 B11))
        · have hy2 := hy_.out
          have hp2 := hp1_.out
          have he2 := he1_.out
          clear hy_ hp1_ he1_ hp_ he_
          have ho : oMul (some ⟨i, c, F⟩) (some b) = none := if_neg hcr
          rw [ho] at hy2
          cases hy2
          cases hp2
          cases he2
          refine Run.start 10 ?_
          refine .ld .o (ldM b3 0) ?_
          refine .c1 (.i 0) (x := .k (.bool true)) (by rintro u w2 hB rfl; exact rformed_q hfb w2) ?_
          refine .nt (.i 1) ?_
          refine .mv (.i 2) ?_
          refine .fa .o (fM1 1) ?_
          refine .ld (.i 4) (ldInt b2 1) ?_
          refine .fa .o (fM0 0) ?_
          refine .ld (.i 6) (ldInt b3 0) ?_
          refine .two (.i 5) (.i 7) (opNe (decide_eq_true (fun h => hcr (by omega)) : decide ((c : Int) ≠ (b.r : Int)) = true)) ?_
          refine .pk (.i 3) (.i 8) false ?_
          refine .donep [some 91, some 92, some 93, some 94, some 95, some 96, some 97, some 98, some 99, some 100] ?_
          intro w10 B10
          change Shut (wpList _ _ _ [] _ _)
          refine ⟨?_⟩
          simp only [Act.put, List.setIfInBounds_toArray, List.set_cons_zero, List.set_cons_succ]
          replace B0 := zup B0 B10
          replace b2 := b2.below B10
          replace b3 := b3.below B10
          replace b5 := b5.below B10
          replace m5 := m5.below B10
          clear B10
          obtain rfl : n5 = 0 := m5.len
          go_upto_region 18 with fail
          refine Run.start 7 ?_
          refine .mv .o ?_
          refine .two (.i 0) .o (opEq (by decide : decide ((2 : Int) = 2) = true)) ?_
          refine .mv (.i 1) ?_
          refine .ld .o (ldM b5 0) ?_
          refine .c1 (.i 3) (x := .k (.bool true)) (by rintro u w2 hB rfl; exact rnone_g w2) ?_
          refine .pk (.i 2) (.i 4) true ?_
          refine .mv (.i 5) ?_
          refine .donep [some 101, some 102, some 103, some 104, some 105, some 106, some 4] ?_
          intro w11 B11
          change Shut (wpList _ _ _ [] _ _)
          refine ⟨?_⟩
          simp only [Act.put, List.setIfInBounds_toArray, List.set_cons_zero, List.set_cons_succ]
          go_wp2_with fail
          exact bodyPost_ret (v := .bool true) (by simp [results, Try.results4, go_sem]) rfl (ret_k rfl (zup B0 B11))
/-- MatMuls. -/
theorem muls11_law {r c r' c' : Int} {A A' : Option Addr} {n d n' d' : Nat} {Ra Rb : List Zr} {w : World} (ha : RL w A n d Ra) (hb : RL w A' n' d' Rb) : Calls Try.prog 4 #[.agg #[.int .i64 r, .int .i64 c, .slice A n d], .agg #[.int .i64 r', .int .i64 c', .slice A' n' d']] w (RetK (.k (.bool true)) w) := by
  cases ht : (fewb r c Ra 6 3 && fewb r' c' Rb 6 3) with
  | false => exact muls11_off ha hb ht
  | true =>
    have h1 := ht
    rw [Bool.and_eq_true] at h1
    cases hf : fmd r c n with
    | false => exact muls11_no ha hb ht hf
    | true =>
      obtain ⟨r0, c0, rfl, rfl, h6, h7, hn, hA⟩ := ha.mt hf h1.1
      obtain ⟨x, hx⟩ := hb.raw h1.2
      exact muls11_yes ha hb ht hA hx h6 h7
end Go.Proofs.Ytcdkdanfiimlkaa
