/-
  The law BareissRanks.
-/
import Derived.Test.YtcdkdanfiimlkaaPk35
import Derived.Test.YtcdkdanfiimlkaaPk40

/-! The law's walk: ranks, pivots. -/
namespace Go.Proofs.Ytcdkdanfiimlkaa
open Go.RowKit
set_option linter.unusedVariables false
set_option linter.unusedSimpArgs false

theorem Iz.bx {w w' : World} {A : Option Addr} {n c g : Nat} {ps : List Nat} {T : TypeId} {cs : List Value} (h : Iz w A n c ps) (b : Bx w g T cs) (ht : T ≠ 3) (hg : w.grownBy w' (some g)) : Iz w' A n c ps := h.block fun x xs fr e => hg.block x (Array.getElem?_eq_some_iff.1 e).1 fun e2 => by
  have e3 : x = g := Option.some.inj e2
  subst e3
  have e4 : w.heap[x]? = _ := b
  rw [e] at e4
  injection e4 with e4
  injection e4 with _ e5
  exact ht e5.symm
set_option maxRecDepth 100000 in
theorem rks_off {r c : Int} {A : Option Addr} {n d : Nat} {R : List Zr} {w : World} (ha : RL w A n d R) (h : fewb r c R 4 2 = false) : Calls Try.prog 10 #[.agg #[.int .i64 r, .int .i64 c, .slice A n d]] w (RetK (.k (.bool true)) w) := by
  obtain ⟨w1, hw1, b1, z1, s1⟩ := boxes1 w 24 [.int .i64 r, .int .i64 c, .slice A n d]
  have HW := Lib.hid hw1
  have HZ := Lib.hid z1
  have h_ := Lib.hid h
  clear hw1 z1 h s1
  go_enter Try.func10, Try.ntmps10
  go_upto_region 1 with fail
  rw [HW.out]
  refine Run.start 7 ?_
  refine .c0 (x := .k (.bool true)) (fun w2 hB => awake12_q w2) ?_
  refine .nt (.i 0) ?_
  refine .mv (.i 1) ?_
  refine .ld .o (ldM b1 0) ?_
  refine .c3 (.i 3) .o .o (x := .k (.bool false)) (by rintro u v x w2 hB rfl rfl rfl; exact rfew_q (N := 4) (W := 2) (ha.below (zup HZ.out hB)) h_.out (by decide)) ?_
  refine .nf (.i 4) ?_
  refine .pk (.i 2) (.i 5) false ?_
  refine .donep [some 9, some 10, some 11, some 12, some 13, some 14, some 15] ?_
  intro w2 B2
  change Shut (wpList _ _ _ [] _ _)
  refine ⟨?_⟩
  simp only [Act.put, List.setIfInBounds_toArray, List.set_cons_zero, List.set_cons_succ]
  have B0 := zup HZ.out B2
  clear b1 B2
  go_upto_region 2 with fail
  refine Run.start 2 ?_
  refine .c0 (x := .k (.bool true)) (fun w2 hB => awake12_q w2) ?_
  refine .mv (.i 0) ?_
  refine .donep [some 16, some 2] ?_
  intro w3 B3
  change Shut (wpList _ _ _ [] _ _)
  refine ⟨?_⟩
  simp only [Act.put, List.setIfInBounds_toArray, List.set_cons_zero, List.set_cons_succ]
  go_wp2_with fail
  exact bodyPost_ret (v := .bool true) (by simp [results, Try.results10, go_sem]) rfl (ret_k rfl (zup B0 B3))
set_option maxRecDepth 100000 in
set_option maxHeartbeats 1000000 in
theorem rks_no {r c : Int} {A : Option Addr} {n d : Nat} {R : List Zr} {w : World} (ha : RL w A n d R) (h : fewb r c R 4 2 = true) (hf : fmd r c n = false) : Calls Try.prog 10 #[.agg #[.int .i64 r, .int .i64 c, .slice A n d]] w (RetK (.k (.bool true)) w) := by
  obtain ⟨w1, hw1, b1, z1, s1⟩ := boxes1 w 24 [.int .i64 r, .int .i64 c, .slice A n d]
  have HW := Lib.hid hw1
  have HZ := Lib.hid z1
  have h_ := Lib.hid h
  have hf_ := Lib.hid hf
  clear hw1 z1 h hf s1
  go_enter Try.func10, Try.ntmps10
  go_upto_region 1 with fail
  rw [HW.out]
  refine Run.start 7 ?_
  refine .c0 (x := .k (.bool true)) (fun w2 hB => awake12_q w2) ?_
  refine .nt (.i 0) ?_
  refine .mv (.i 1) ?_
  refine .ld .o (ldM b1 0) ?_
  refine .c3 (.i 3) .o .o (x := .k (.bool true)) (by rintro u v x w2 hB rfl rfl rfl; exact rfew_q (N := 4) (W := 2) (ha.below (zup HZ.out hB)) h_.out (by decide)) ?_
  refine .nt (.i 4) ?_
  refine .pk (.i 2) (.i 5) false ?_
  refine .donep [some 9, some 10, some 11, some 12, some 13, some 14, some 15] ?_
  intro w2 B2
  change Shut (wpList _ _ _ [] _ _)
  refine ⟨?_⟩
  simp only [Act.put, List.setIfInBounds_toArray, List.set_cons_zero, List.set_cons_succ]
  have B0 := zup HZ.out B2
  replace b1 := b1.below B2
  clear B2 HZ
  go_upto_region 3 with fail
  refine Run.start 7 ?_
  refine .ld .o (ldM b1 0) ?_
  refine .c1 (.i 0) (x := .k (.tuple #[.int .i64 0, .int .i64 2])) (by rintro u w2 hB rfl; exact rank_no hf_.out) ?_
  refine .mv (.i 1) ?_
  refine .ex (x := .k (.int .i64 0)) (.i 2) 0 (exK rfl) ?_
  refine .ex (x := .k (.int .i64 2)) (.i 2) 1 (exK rfl) ?_
  refine .mv (.i 3) ?_
  refine .mv (.i 4) ?_
  refine .donep [some 18, some 19, some 17, some 20, some 21, some 3, some 4] ?_
  intro w3 B3
  change Shut (wpList _ _ _ [] _ _)
  refine ⟨?_⟩
  simp only [Act.put, List.setIfInBounds_toArray, List.set_cons_zero, List.set_cons_succ]
  replace B0 := zup B0 B3
  replace b1 := b1.below B3
  clear B3
  go_upto_region 4 with fail
  refine Run.start 7 ?_
  refine .ld .o (ldM b1 0) ?_
  refine .c1 (.i 0) (x := .k (.tuple #[.agg #[.int .i64 0, .int .i64 0, .slice none 0 0], .slice none 0 0, .int .i64 2])) (by rintro u w2 hB rfl; exact ech_no hf_.out) ?_
  refine .mv (.i 1) ?_
  refine .ex (x := .k (.agg #[.int .i64 0, .int .i64 0, .slice none 0 0])) (.i 2) 0 (exK rfl) ?_
  refine .ex (x := .k (.slice none 0 0)) (.i 2) 1 (exK rfl) ?_
  refine .ex (x := .k (.int .i64 2)) (.i 2) 2 (exK rfl) ?_
  refine .al ?_
  refine .donep [some 23, some 24, some 22, some 25, some 26, some 27, some 5] ?_
  intro w4 B4
  rintro g5 hg5 hl5 hc5 -
  change Shut (wpList _ _ _ [_, _, _] _ _)
  refine ⟨?_⟩
  simp only [Act.put, List.setIfInBounds_toArray, List.set_cons_zero, List.set_cons_succ]
  have b5 := zeroM hc5
  have hs5 := B0.size
  have hl1 := b1.lt
  replace B0 := zup B0 B4
  replace b1 := b1.below B4
  clear B4 hc5
  obtain ⟨w5, hw5⟩ : ∃ x, mput w4 g5 0 0 none 0 0 = x := ⟨_, rfl⟩
  obtain ⟨f0_, f1_, f2_, f3_, f4_, f5_, f6_⟩ := b5.m3
  replace b1 := b1.mo (g := g5) (r := 0) (c := 0) (A := none) (n := 0) (d := 0) (by omega)
  rw [hw5] at b1
  replace B0 := below_mput (g := g5) (r := 0) (c := 0) (A := none) (n := 0) (d := 0) B0 (by omega)
  rw [hw5] at B0
  replace b5 := b5.mp (g := g5) (r := 0) (c := 0) (A := none) (n := 0) (d := 0)
  rw [hw5] at b5
  have Hw5 := Lib.hid hw5
  unfold mput at Hw5
  clear hw5
  go_upto_region 5 with fail
  rw [Hw5.out]
  clear f0_ f1_ f2_ f3_ f4_ f5_ f6_ Hw5
  refine Run.start 3 ?_
  refine .ld .o (ldM b1 0) ?_
  refine .c1 (.i 0) (x := .k (.bool false)) (by rintro u w2 hB rfl; exact rformed_q hf_.out w2) ?_
  refine .nf (.i 1) ?_
  refine .donep [some 28, some 29, some 30] ?_
  intro w6 B6
  change Shut (wpList _ _ _ [] _ _)
  refine ⟨?_⟩
  simp only [Act.put, List.setIfInBounds_toArray, List.set_cons_zero, List.set_cons_succ]
  replace B0 := zup B0 B6
  replace b5 := b5.below B6
  clear B6 b1
  go_upto_region 6 with fail
  refine Run.start 20 ?_
  refine .mv .o ?_
  refine .two (.i 0) .o (opEq (by decide : decide ((2 : Int) = 2) = true)) ?_
  refine .mv (.i 1) ?_
  refine .mv .o ?_
  refine .two (.i 3) .o (opEq (by decide : decide ((2 : Int) = 2) = true)) ?_
  refine .pk (.i 2) (.i 4) true ?_
  refine .mv (.i 5) ?_
  refine .mv .o ?_
  refine .two (.i 7) .o (opEq (by decide : decide ((0 : Int) = 0) = true)) ?_
  refine .pk (.i 6) (.i 8) true ?_
  refine .mv (.i 9) ?_
  refine .ld .o (ldM b5 0) ?_
  refine .c1 (.i 11) (x := .k (.bool true)) (by rintro u w2 hB rfl; exact rnone_q w2) ?_
  refine .pk (.i 10) (.i 12) true ?_
  refine .mv (.i 13) ?_
  refine .mv .o ?_
  refine .len (.i 15) Try.underlying64 ?_
  refine .two (.i 16) .o (opEq (by decide : decide (((0 : Nat) : Int) = 0) = true)) ?_
  refine .pk (.i 14) (.i 17) true ?_
  refine .mv (.i 18) ?_
  refine .donep [some 31, some 32, some 33, some 34, some 35, some 36, some 37, some 38, some 39, some 40, some 41, some 42, some 43, some 44, some 45, some 46, some 47, some 48, some 49, some 2] ?_
  intro w7 B7
  change Shut (wpList _ _ _ [] _ _)
  refine ⟨?_⟩
  simp only [Act.put, List.setIfInBounds_toArray, List.set_cons_zero, List.set_cons_succ]
  go_wp2_with fail
  exact bodyPost_ret (v := .bool true) (by simp [results, Try.results10, go_sem]) rfl (ret_k rfl (zup B0 B7))
set_option maxRecDepth 100000 in
set_option maxHeartbeats 1000000 in
theorem rks_yes {r c : Nat} {A : Option Addr} {n d : Nat} {R : List Zr} {w : World} (ha : RL w A n d R) (h : fewb (r : Int) (c : Int) R 4 2 = true) (hM : Mt false w r c A n d 2 (mf R c)) (hr : r ≤ 4) : Calls Try.prog 10 #[.agg #[.int .i64 (r : Int), .int .i64 (c : Int), .slice A n d]] w (RetK (.k (.bool true)) w) := by
  have hf := hM.fmd
  have hk := kb_le (K := 2) hr
  have hk5 : kb 2 4 = 47 := by decide
  obtain ⟨L, hL⟩ : ∃ L, DT.piv r (mf R c) c = L := ⟨_, rfl⟩
  obtain ⟨k2, hk2⟩ : ∃ k, kb 2 r = k := ⟨_, rfl⟩
  rw [hk2] at hk
  obtain ⟨w1, hw1, b1, z1, s1⟩ := boxes1 w 24 [.int .i64 (r : Int), .int .i64 (c : Int), .slice A n d]
  have HW := Lib.hid hw1
  have HZ := Lib.hid z1
  have h_ := Lib.hid h
  have hf_ := Lib.hid hf
  have hL_ := Lib.hid hL
  have hk2_ := Lib.hid hk2
  clear hw1 z1 h hf hL hk2 s1
  go_enter Try.func10, Try.ntmps10
  go_upto_region 1 with fail
  rw [HW.out]
  refine Run.start 7 ?_
  refine .c0 (x := .k (.bool true)) (fun w2 hB => awake12_q w2) ?_
  refine .nt (.i 0) ?_
  refine .mv (.i 1) ?_
  refine .ld .o (ldM b1 0) ?_
  refine .c3 (.i 3) .o .o (x := .k (.bool true)) (by rintro u v x w2 hB rfl rfl rfl; exact rfew_q (N := 4) (W := 2) (ha.below (zup HZ.out hB)) h_.out (by decide)) ?_
  refine .nt (.i 4) ?_
  refine .pk (.i 2) (.i 5) false ?_
  refine .donep [some 9, some 10, some 11, some 12, some 13, some 14, some 15] ?_
  intro w2 B2
  change Shut (wpList _ _ _ [] _ _)
  refine ⟨?_⟩
  simp only [Act.put, List.setIfInBounds_toArray, List.set_cons_zero, List.set_cons_succ]
  have B0 := zup HZ.out B2
  replace b1 := b1.below B2
  clear B2 HZ
  go_upto_region 3 with fail
  refine Run.start 7 ?_
  refine .ld .o (ldM b1 0) ?_
  refine .c1 (.i 0) (x := .k (.tuple #[.int .i64 (L.length : Int), .int .i64 0])) (by rintro u w2 hB rfl; rw [← hL_.out]; exact rank_yes (hM.below (zup B0 hB)) (by decide) (by rw [hk2_.out]; omega)) ?_
  refine .mv (.i 1) ?_
  refine .ex (x := .k (.int .i64 (L.length : Int))) (.i 2) 0 (exK rfl) ?_
  refine .ex (x := .k (.int .i64 0)) (.i 2) 1 (exK rfl) ?_
  refine .mv (.i 3) ?_
  refine .mv (.i 4) ?_
  refine .donep [some 18, some 19, some 17, some 20, some 21, some 3, some 4] ?_
  intro w3 B3
  change Shut (wpList _ _ _ [] _ _)
  refine ⟨?_⟩
  simp only [Act.put, List.setIfInBounds_toArray, List.set_cons_zero, List.set_cons_succ]
  replace B0 := zup B0 B3
  replace b1 := b1.below B3
  clear B3
  go_upto_region 4 with fail
  refine Run.start 7 ?_
  refine .ld .o (ldM b1 0) ?_
  refine .c1 (.i 0) (x := kT3 (kEch r c k2 (mf R c)) (kIz L) (.k (.int .i64 0))) (by rintro u w2 hB rfl; rw [← hL_.out, ← hk2_.out]; exact ech_yes (hM.below (zup B0 hB)) (by decide) (by rw [hk2_.out]; omega)) ?_
  refine .mf (.i 1) ?_
  refine .ex (.i 2) 0 kT3_0 ?_
  refine .ex (.i 2) 1 kT3_1 ?_
  refine .ex (.i 2) 2 kT3_2 ?_
  refine .al ?_
  refine .donep [some 23, some 24, some 22, some 25, some 26, some 27, some 5] ?_
  intro w4 B4
  rintro v24 -
  rintro v22 -
  rintro v25 h25
  rintro v26 ⟨A26, c26, rfl, hz⟩
  rintro g5 hg5 hl5 hc5 -
  change Shut (wpList _ _ _ [_, _, _] _ _)
  refine ⟨?_⟩
  simp only [Act.put, List.setIfInBounds_toArray, List.set_cons_zero, List.set_cons_succ]
  obtain ⟨A5, n5, d5, M5, rfl, m5⟩ := h25.mt
  have b5 := zeroM hc5
  have hs5 := B0.size
  have hl1 := b1.lt
  replace B0 := zup B0 B4
  replace b1 := b1.below B4
  clear B4 hc5 h25 m5
  have hz' := hz.bx b5 (by decide) (mput_gro w4 g5 (r : Int) (c : Int) A5 n5 d5)
  obtain ⟨w5, hw5⟩ : ∃ x, mput w4 g5 (r : Int) (c : Int) A5 n5 d5 = x := ⟨_, rfl⟩
  obtain ⟨f0_, f1_, f2_, f3_, f4_, f5_, f6_⟩ := b5.m3
  replace b1 := b1.mo (g := g5) (r := (r : Int)) (c := (c : Int)) (A := A5) (n := n5) (d := d5) (by omega)
  rw [hw5] at b1
  replace B0 := below_mput (g := g5) (r := (r : Int)) (c := (c : Int)) (A := A5) (n := n5) (d := d5) B0 (by omega)
  rw [hw5] at B0
  replace b5 := b5.mp (g := g5) (r := (r : Int)) (c := (c : Int)) (A := A5) (n := n5) (d := d5)
  rw [hw5] at b5
  have Hw5 := Lib.hid hw5
  unfold mput at Hw5
  clear hw5
  have e_ := Hw5.out
  change mput _ _ _ _ _ _ _ = _ at e_
  rw [e_] at hz'
  clear e_ hz
  go_upto_region 5 with fail
  rw [Hw5.out]
  clear f0_ f1_ f2_ f3_ f4_ f5_ f6_ Hw5 b5
  refine Run.start 3 ?_
  refine .ld .o (ldM b1 0) ?_
  refine .c1 (.i 0) (x := .k (.bool true)) (by rintro u w2 hB rfl; exact rformed_q hf_.out w2) ?_
  refine .nt (.i 1) ?_
  refine .donep [some 28, some 29, some 30] ?_
  intro w6 B6
  change Shut (wpList _ _ _ [] _ _)
  refine ⟨?_⟩
  simp only [Act.put, List.setIfInBounds_toArray, List.set_cons_zero, List.set_cons_succ]
  replace B0 := zup B0 B6
  replace b1 := b1.below B6
  replace hz' := hz'.below B6
  clear B6
  go_upto_region 7 with fail
  refine Run.start 3 ?_
  refine .ld .o (ldM b1 0) ?_
  refine .c1 (.i 0) (x := kIz L) (by rintro u w2 hB rfl; rw [← hL_.out]; exact rpiv_q (hM.below (zup B0 hB)) (by omega) (by decide)) ?_
  refine .mf (.i 1) ?_
  refine .donep [some 50, some 51, some 8] ?_
  intro w7 B7
  rintro v51 -
  rintro v8 ⟨A8, c8, rfl, hz8⟩
  change Shut (wpList _ _ _ [] _ _)
  refine ⟨?_⟩
  simp only [Act.put, List.setIfInBounds_toArray, List.set_cons_zero, List.set_cons_succ]
  replace B0 := zup B0 B7
  replace hz' := hz'.below B7
  clear B7 b1
  go_upto_region 8 with fail
  refine Run.start 18 ?_
  refine .mv .o ?_
  refine .two (.i 0) .o (opEq (by decide : decide ((0 : Int) = 0) = true)) ?_
  refine .mv (.i 1) ?_
  refine .mv .o ?_
  refine .two (.i 3) .o (opEq (by decide : decide ((0 : Int) = 0) = true)) ?_
  refine .pk (.i 2) (.i 4) true ?_
  refine .mv (.i 5) ?_
  refine .mv .o ?_
  refine .mv .o ?_
  refine .len (.i 8) Try.underlying64 ?_
  refine .two (.i 7) (.i 9) (opEq (decide_eq_true rfl)) ?_
  refine .pk (.i 6) (.i 10) true ?_
  refine .mv (.i 11) ?_
  refine .mv .o ?_
  refine .mv .o ?_
  refine .c2 (.i 13) (.i 14) (x := .k (.bool true)) (by rintro u v w2 hB rfl rfl; exact ints_q (hz'.below hB) (hz8.below hB) (decide_eq_true rfl)) ?_
  refine .pk (.i 12) (.i 15) true ?_
  refine .mv (.i 16) ?_
  refine .donep [some 52, some 53, some 54, some 55, some 56, some 57, some 58, some 59, some 60, some 61, some 62, some 63, some 64, some 65, some 66, some 67, some 68, some 2] ?_
  intro w8 B8
  change Shut (wpList _ _ _ [] _ _)
  refine ⟨?_⟩
  simp only [Act.put, List.setIfInBounds_toArray, List.set_cons_zero, List.set_cons_succ]
  go_wp2_with fail
  exact bodyPost_ret (v := .bool true) (by simp [results, Try.results10, go_sem]) rfl (ret_k rfl (zup B0 B8))
/-- BareissRanks. -/
theorem ranks12_law {r c : Int} {A : Option Addr} {n d : Nat} {R : List Zr} {w : World} (ha : RL w A n d R) : Calls Try.prog 10 #[.agg #[.int .i64 r, .int .i64 c, .slice A n d]] w (RetK (.k (.bool true)) w) := by
  cases h : fewb r c R 4 2 with
  | false => exact rks_off ha h
  | true =>
    cases hf : fmd r c n with
    | false => exact rks_no ha h hf
    | true =>
      obtain ⟨r', c', rfl, rfl, hr, hc, hn, hM⟩ := ha.mt hf h
      exact rks_yes ha h hM hr
end Go.Proofs.Ytcdkdanfiimlkaa
