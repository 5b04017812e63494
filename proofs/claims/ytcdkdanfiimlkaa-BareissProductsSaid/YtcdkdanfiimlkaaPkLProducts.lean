/-
  The law BareissProducts.
-/
import Derived.Test.YtcdkdanfiimlkaaPk35

/-! The law's walk: determinants of products, of transposes. -/
namespace Go.Proofs.Ytcdkdanfiimlkaa
open Go.RowKit
set_option linter.unusedVariables false
set_option linter.unusedSimpArgs false

theorem dot_sum (F G : Nat → Nat → Int) (i j : Nat) : ∀ n, dot F G i j n = DT.sumN n fun k => F i k * G k j
  | 0 => rfl
  | n + 1 => by show dot F G i j n + F i n * G n j = DT.sumN n (fun k => F i k * G k j) + F i n * G n j; rw [dot_sum F G i j n]
theorem det_dot (F G : Nat → Nat → Int) (n : Nat) : DT.det n (fun i j => dot F G i j n) = DT.det n F * DT.det n G := by
  rw [← DT.det_mul]
  exact DT.det_ext fun i j _ _ => dot_sum F G i j n
set_option maxRecDepth 100000 in
set_option maxHeartbeats 1000000 in
theorem prods_off {r c r' c' : Int} {A A' : Option Addr} {n d n' d' : Nat} {Ra Rb : List Zr} {w : World} (ha : RL w A n d Ra) (hb : RL w A' n' d' Rb) (h : (fewb r c Ra 4 2 && (fewb r' c' Rb 4 2 && ((fmd r c n && decide (r = c)) && ((fmd r' c' n' && decide (r' = c')) && decide (r = r'))))) = false) : Calls Try.prog 11 #[.agg #[.int .i64 r, .int .i64 c, .slice A n d], .agg #[.int .i64 r', .int .i64 c', .slice A' n' d']] w (RetK (.k (.bool true)) w) := by
  obtain ⟨t1, h1⟩ : ∃ t, fewb r c Ra 4 2 = t := ⟨_, rfl⟩
  obtain ⟨t2, h2⟩ : ∃ t, fewb r' c' Rb 4 2 = t := ⟨_, rfl⟩
  obtain ⟨t3, h3⟩ : ∃ t, (fmd r c n && decide (r = c)) = t := ⟨_, rfl⟩
  obtain ⟨t4, h4⟩ : ∃ t, (fmd r' c' n' && decide (r' = c')) = t := ⟨_, rfl⟩
  obtain ⟨t5, h5⟩ : ∃ t, decide (r ≠ r') = t := ⟨_, rfl⟩
  have h6 : (t1 && (t2 && (t3 && (t4 && !t5)))) = false := by rw [← h1, ← h2, ← h3, ← h4, ← h5]; simpa using h
  obtain ⟨w1, hw1, b2, b3, z1, s1⟩ := boxes2 w 24 24 [.int .i64 r, .int .i64 c, .slice A n d] [.int .i64 r', .int .i64 c', .slice A' n' d']
  have HW := Lib.hid hw1
  have HZ := Lib.hid z1
  have h1_ := Lib.hid h1
  have h2_ := Lib.hid h2
  have h3_ := Lib.hid h3
  have h4_ := Lib.hid h4
  have h5_ := Lib.hid h5
  have h6_ := Lib.hid h6
  clear hw1 z1 h1 h2 h3 h4 h5 h6 s1 h
  go_enter Try.func11, Try.ntmps11
  go_upto_region 1 with fail
  rw [HW.out]
  cases t1
  · refine Run.start 29 ?_
    refine .c0 (x := .k (.bool true)) (fun w2 hB => awake12_q w2) ?_
    refine .nt (.i 0) ?_
    refine .mv (.i 1) ?_
    refine .ld .o (ldM b2 0) ?_
    refine .c3 (.i 3) .o .o (x := .k (.bool false)) (by rintro u v x w2 hB rfl rfl rfl; exact rfew_q (N := 4) (W := 2) (ha.below (zup HZ.out hB)) h1_.out (by decide)) ?_
    refine .nf (.i 4) ?_
    refine .pk (.i 2) (.i 5) false ?_
    refine .mv (.i 6) ?_
    refine .no ?_
    refine .no ?_
    refine .no ?_
    refine .pk (.i 7) .o true ?_
    refine .mv (.i 11) ?_
    refine .no ?_
    refine .no ?_
    refine .no ?_
    refine .pk (.i 12) .o true ?_
    refine .mv (.i 16) ?_
    refine .no ?_
    refine .no ?_
    refine .no ?_
    refine .pk (.i 17) .o true ?_
    refine .mv (.i 21) ?_
    refine .no ?_
    refine .no ?_
    refine .no ?_
    refine .no ?_
    refine .no ?_
    refine .pk (.i 22) .o true ?_
    refine .donep [some 17, some 18, some 19, some 20, some 21, some 22, some 23, some 24, some 25, some 26, some 27, some 28, some 29, some 30, some 31, some 32, some 33, some 34, some 35, some 36, some 37, some 38, some 39, some 40, some 41, some 42, some 43, some 44, some 45] ?_
    intro w2 B2
    change Shut (wpList _ _ _ [] _ _)
    refine ⟨?_⟩
    simp only [Act.put, List.setIfInBounds_toArray, List.set_cons_zero, List.set_cons_succ]
    have B0 := zup HZ.out B2
    clear b2 b3 B2
    go_upto_region 2 with fail
    refine Run.start 2 ?_
    refine .c0 (x := .k (.bool true)) (fun w2 hB => awake12_q w2) ?_
    refine .mv (.i 0) ?_
    refine .donep [some 46, some 4] ?_
    intro w3 B3
    change Shut (wpList _ _ _ [] _ _)
    refine ⟨?_⟩
    simp only [Act.put, List.setIfInBounds_toArray, List.set_cons_zero, List.set_cons_succ]
    go_wp2_with fail
    exact bodyPost_ret (v := .bool true) (by simp [results, Try.results11, go_sem]) rfl (ret_k rfl (zup B0 B3))
  · skip
    cases t2
    · refine Run.start 29 ?_
      refine .c0 (x := .k (.bool true)) (fun w2 hB => awake12_q w2) ?_
      refine .nt (.i 0) ?_
      refine .mv (.i 1) ?_
      refine .ld .o (ldM b2 0) ?_
      refine .c3 (.i 3) .o .o (x := .k (.bool true)) (by rintro u v x w2 hB rfl rfl rfl; exact rfew_q (N := 4) (W := 2) (ha.below (zup HZ.out hB)) h1_.out (by decide)) ?_
      refine .nt (.i 4) ?_
      refine .pk (.i 2) (.i 5) false ?_
      refine .mv (.i 6) ?_
      refine .ld .o (ldM b3 0) ?_
      refine .c3 (.i 8) .o .o (x := .k (.bool false)) (by rintro u v x w2 hB rfl rfl rfl; exact rfew_q (N := 4) (W := 2) (hb.below (zup HZ.out hB)) h2_.out (by decide)) ?_
      refine .nf (.i 9) ?_
      refine .pk (.i 7) (.i 10) false ?_
      refine .mv (.i 11) ?_
      refine .no ?_
      refine .no ?_
      refine .no ?_
      refine .pk (.i 12) .o true ?_
      refine .mv (.i 16) ?_
      refine .no ?_
      refine .no ?_
      refine .no ?_
      refine .pk (.i 17) .o true ?_
      refine .mv (.i 21) ?_
      refine .no ?_
      refine .no ?_
      refine .no ?_
      refine .no ?_
      refine .no ?_
      refine .pk (.i 22) .o true ?_
      refine .donep [some 17, some 18, some 19, some 20, some 21, some 22, some 23, some 24, some 25, some 26, some 27, some 28, some 29, some 30, some 31, some 32, some 33, some 34, some 35, some 36, some 37, some 38, some 39, some 40, some 41, some 42, some 43, some 44, some 45] ?_
      intro w2 B2
      change Shut (wpList _ _ _ [] _ _)
      refine ⟨?_⟩
      simp only [Act.put, List.setIfInBounds_toArray, List.set_cons_zero, List.set_cons_succ]
      have B0 := zup HZ.out B2
      clear b2 b3 B2
      go_upto_region 2 with fail
      refine Run.start 2 ?_
      refine .c0 (x := .k (.bool true)) (fun w2 hB => awake12_q w2) ?_
      refine .mv (.i 0) ?_
      refine .donep [some 46, some 4] ?_
      intro w3 B3
      change Shut (wpList _ _ _ [] _ _)
      refine ⟨?_⟩
      simp only [Act.put, List.setIfInBounds_toArray, List.set_cons_zero, List.set_cons_succ]
      go_wp2_with fail
      exact bodyPost_ret (v := .bool true) (by simp [results, Try.results11, go_sem]) rfl (ret_k rfl (zup B0 B3))
    · skip
      cases t3
      · refine Run.start 29 ?_
        refine .c0 (x := .k (.bool true)) (fun w2 hB => awake12_q w2) ?_
        refine .nt (.i 0) ?_
        refine .mv (.i 1) ?_
        refine .ld .o (ldM b2 0) ?_
        refine .c3 (.i 3) .o .o (x := .k (.bool true)) (by rintro u v x w2 hB rfl rfl rfl; exact rfew_q (N := 4) (W := 2) (ha.below (zup HZ.out hB)) h1_.out (by decide)) ?_
        refine .nt (.i 4) ?_
        refine .pk (.i 2) (.i 5) false ?_
        refine .mv (.i 6) ?_
        refine .ld .o (ldM b3 0) ?_
        refine .c3 (.i 8) .o .o (x := .k (.bool true)) (by rintro u v x w2 hB rfl rfl rfl; exact rfew_q (N := 4) (W := 2) (hb.below (zup HZ.out hB)) h2_.out (by decide)) ?_
        refine .nt (.i 9) ?_
        refine .pk (.i 7) (.i 10) false ?_
        refine .mv (.i 11) ?_
        refine .ld .o (ldM b2 0) ?_
        refine .c1 (.i 13) (x := .k (.bool false)) (by rintro u w2 hB rfl; exact lsq_q h3_.out w2) ?_
        refine .nf (.i 14) ?_
        refine .pk (.i 12) (.i 15) false ?_
        refine .mv (.i 16) ?_
        refine .no ?_
        refine .no ?_
        refine .no ?_
        refine .pk (.i 17) .o true ?_
        refine .mv (.i 21) ?_
        refine .no ?_
        refine .no ?_
        refine .no ?_
        refine .no ?_
        refine .no ?_
        refine .pk (.i 22) .o true ?_
        refine .donep [some 17, some 18, some 19, some 20, some 21, some 22, some 23, some 24, some 25, some 26, some 27, some 28, some 29, some 30, some 31, some 32, some 33, some 34, some 35, some 36, some 37, some 38, some 39, some 40, some 41, some 42, some 43, some 44, some 45] ?_
        intro w2 B2
        change Shut (wpList _ _ _ [] _ _)
        refine ⟨?_⟩
        simp only [Act.put, List.setIfInBounds_toArray, List.set_cons_zero, List.set_cons_succ]
        have B0 := zup HZ.out B2
        clear b2 b3 B2
        go_upto_region 2 with fail
        refine Run.start 2 ?_
        refine .c0 (x := .k (.bool true)) (fun w2 hB => awake12_q w2) ?_
        refine .mv (.i 0) ?_
        refine .donep [some 46, some 4] ?_
        intro w3 B3
        change Shut (wpList _ _ _ [] _ _)
        refine ⟨?_⟩
        simp only [Act.put, List.setIfInBounds_toArray, List.set_cons_zero, List.set_cons_succ]
        go_wp2_with fail
        exact bodyPost_ret (v := .bool true) (by simp [results, Try.results11, go_sem]) rfl (ret_k rfl (zup B0 B3))
      · skip
        cases t4
        · refine Run.start 29 ?_
          refine .c0 (x := .k (.bool true)) (fun w2 hB => awake12_q w2) ?_
          refine .nt (.i 0) ?_
          refine .mv (.i 1) ?_
          refine .ld .o (ldM b2 0) ?_
          refine .c3 (.i 3) .o .o (x := .k (.bool true)) (by rintro u v x w2 hB rfl rfl rfl; exact rfew_q (N := 4) (W := 2) (ha.below (zup HZ.out hB)) h1_.out (by decide)) ?_
          refine .nt (.i 4) ?_
          refine .pk (.i 2) (.i 5) false ?_
          refine .mv (.i 6) ?_
          refine .ld .o (ldM b3 0) ?_
          refine .c3 (.i 8) .o .o (x := .k (.bool true)) (by rintro u v x w2 hB rfl rfl rfl; exact rfew_q (N := 4) (W := 2) (hb.below (zup HZ.out hB)) h2_.out (by decide)) ?_
          refine .nt (.i 9) ?_
          refine .pk (.i 7) (.i 10) false ?_
          refine .mv (.i 11) ?_
          refine .ld .o (ldM b2 0) ?_
          refine .c1 (.i 13) (x := .k (.bool true)) (by rintro u w2 hB rfl; exact lsq_q h3_.out w2) ?_
          refine .nt (.i 14) ?_
          refine .pk (.i 12) (.i 15) false ?_
          refine .mv (.i 16) ?_
          refine .ld .o (ldM b3 0) ?_
          refine .c1 (.i 18) (x := .k (.bool false)) (by rintro u w2 hB rfl; exact lsq_q h4_.out w2) ?_
          refine .nf (.i 19) ?_
          refine .pk (.i 17) (.i 20) false ?_
          refine .mv (.i 21) ?_
          refine .no ?_
          refine .no ?_
          refine .no ?_
          refine .no ?_
          refine .no ?_
          refine .pk (.i 22) .o true ?_
          refine .donep [some 17, some 18, some 19, some 20, some 21, some 22, some 23, some 24, some 25, some 26, some 27, some 28, some 29, some 30, some 31, some 32, some 33, some 34, some 35, some 36, some 37, some 38, some 39, some 40, some 41, some 42, some 43, some 44, some 45] ?_
          intro w2 B2
          change Shut (wpList _ _ _ [] _ _)
          refine ⟨?_⟩
          simp only [Act.put, List.setIfInBounds_toArray, List.set_cons_zero, List.set_cons_succ]
          have B0 := zup HZ.out B2
          clear b2 b3 B2
          go_upto_region 2 with fail
          refine Run.start 2 ?_
          refine .c0 (x := .k (.bool true)) (fun w2 hB => awake12_q w2) ?_
          refine .mv (.i 0) ?_
          refine .donep [some 46, some 4] ?_
          intro w3 B3
          change Shut (wpList _ _ _ [] _ _)
          refine ⟨?_⟩
          simp only [Act.put, List.setIfInBounds_toArray, List.set_cons_zero, List.set_cons_succ]
          go_wp2_with fail
          exact bodyPost_ret (v := .bool true) (by simp [results, Try.results11, go_sem]) rfl (ret_k rfl (zup B0 B3))
        · skip
          cases t5
          · exact absurd h6_.out (by simp)
          · refine Run.start 29 ?_
            refine .c0 (x := .k (.bool true)) (fun w2 hB => awake12_q w2) ?_
            refine .nt (.i 0) ?_
            refine .mv (.i 1) ?_
            refine .ld .o (ldM b2 0) ?_
            refine .c3 (.i 3) .o .o (x := .k (.bool true)) (by rintro u v x w2 hB rfl rfl rfl; exact rfew_q (N := 4) (W := 2) (ha.below (zup HZ.out hB)) h1_.out (by decide)) ?_
            refine .nt (.i 4) ?_
            refine .pk (.i 2) (.i 5) false ?_
            refine .mv (.i 6) ?_
            refine .ld .o (ldM b3 0) ?_
            refine .c3 (.i 8) .o .o (x := .k (.bool true)) (by rintro u v x w2 hB rfl rfl rfl; exact rfew_q (N := 4) (W := 2) (hb.below (zup HZ.out hB)) h2_.out (by decide)) ?_
            refine .nt (.i 9) ?_
            refine .pk (.i 7) (.i 10) false ?_
            refine .mv (.i 11) ?_
            refine .ld .o (ldM b2 0) ?_
            refine .c1 (.i 13) (x := .k (.bool true)) (by rintro u w2 hB rfl; exact lsq_q h3_.out w2) ?_
            refine .nt (.i 14) ?_
            refine .pk (.i 12) (.i 15) false ?_
            refine .mv (.i 16) ?_
            refine .ld .o (ldM b3 0) ?_
            refine .c1 (.i 18) (x := .k (.bool true)) (by rintro u w2 hB rfl; exact lsq_q h4_.out w2) ?_
            refine .nt (.i 19) ?_
            refine .pk (.i 17) (.i 20) false ?_
            refine .mv (.i 21) ?_
            refine .fa .o (fM0 0) ?_
            refine .ld (.i 23) (ldInt b2 0) ?_
            refine .fa .o (fM0 0) ?_
            refine .ld (.i 25) (ldInt b3 0) ?_
            refine .two (.i 24) (.i 26) (opNe h5_.out) ?_
            refine .pk (.i 22) (.i 27) false ?_
            refine .donep [some 17, some 18, some 19, some 20, some 21, some 22, some 23, some 24, some 25, some 26, some 27, some 28, some 29, some 30, some 31, some 32, some 33, some 34, some 35, some 36, some 37, some 38, some 39, some 40, some 41, some 42, some 43, some 44, some 45] ?_
            intro w2 B2
            change Shut (wpList _ _ _ [] _ _)
            refine ⟨?_⟩
            simp only [Act.put, List.setIfInBounds_toArray, List.set_cons_zero, List.set_cons_succ]
            have B0 := zup HZ.out B2
            clear b2 b3 B2
            go_upto_region 2 with fail
            refine Run.start 2 ?_
            refine .c0 (x := .k (.bool true)) (fun w2 hB => awake12_q w2) ?_
            refine .mv (.i 0) ?_
            refine .donep [some 46, some 4] ?_
            intro w3 B3
            change Shut (wpList _ _ _ [] _ _)
            refine ⟨?_⟩
            simp only [Act.put, List.setIfInBounds_toArray, List.set_cons_zero, List.set_cons_succ]
            go_wp2_with fail
            exact bodyPost_ret (v := .bool true) (by simp [results, Try.results11, go_sem]) rfl (ret_k rfl (zup B0 B3))
set_option maxRecDepth 100000 in
set_option maxHeartbeats 2000000 in
theorem prods_yes {r : Nat} {A A' : Option Addr} {n d n' d' : Nat} {Ra Rb : List Zr} {w : World} (ha : RL w A n d Ra) (hb : RL w A' n' d' Rb) (h1 : fewb (r : Int) (r : Int) Ra 4 2 = true) (h2 : fewb (r : Int) (r : Int) Rb 4 2 = true) (hM : Mt false w r r A n d 2 (mf Ra r)) (hG : Mt false w r r A' n' d' 2 (mf Rb r)) (hr : r ≤ 4) : Calls Try.prog 11 #[.agg #[.int .i64 (r : Int), .int .i64 (r : Int), .slice A n d], .agg #[.int .i64 (r : Int), .int .i64 (r : Int), .slice A' n' d']] w (RetK (.k (.bool true)) w) := by
  have h3 : (fmd (r : Int) (r : Int) n && decide ((r : Int) = (r : Int))) = true := by rw [hM.fmd]; simp
  have h4 : (fmd (r : Int) (r : Int) n' && decide ((r : Int) = (r : Int))) = true := by rw [hG.fmd]; simp
  have hk := kb_le (K := 2) hr
  have hk5 : kb 2 4 = 47 := by decide
  have hkz := kb_le (K := 2 + 2 + r) hr
  have hkz5 : kb (2 + 2 + r) 4 ≤ 1000 := by unfold kb; omega
  obtain ⟨K, hKe⟩ : ∃ K, 2 + 2 + r = K := ⟨_, rfl⟩
  obtain ⟨kz, hkze⟩ : ∃ k, kb K r = k := ⟨_, rfl⟩
  rw [hKe] at hkz hkz5
  have hK1 : 1 ≤ K := by omega
  rw [hkze] at hkz
  obtain ⟨k2, hk2e⟩ : ∃ k, kb 2 r = k := ⟨_, rfl⟩
  rw [hk2e] at hk
  obtain ⟨w1, hw1, b2, b3, z1, s1⟩ := boxes2 w 24 24 [.int .i64 (r : Int), .int .i64 (r : Int), .slice A n d] [.int .i64 (r : Int), .int .i64 (r : Int), .slice A' n' d']
  have HW := Lib.hid hw1
  have HZ := Lib.hid z1
  have h1_ := Lib.hid h1
  have h2_ := Lib.hid h2
  have h3_ := Lib.hid h3
  have h4_ := Lib.hid h4
  have hKe_ := Lib.hid hKe
  have hkze_ := Lib.hid hkze
  have hk2e_ := Lib.hid hk2e
  clear hw1 z1 h1 h2 h3 h4 hKe hkze hk2e s1
  go_enter Try.func11, Try.ntmps11
  go_upto_region 1 with fail
  rw [HW.out]
  refine Run.start 29 ?_
  refine .c0 (x := .k (.bool true)) (fun w2 hB => awake12_q w2) ?_
  refine .nt (.i 0) ?_
  refine .mv (.i 1) ?_
  refine .ld .o (ldM b2 0) ?_
  refine .c3 (.i 3) .o .o (x := .k (.bool true)) (by rintro u v x w2 hB rfl rfl rfl; exact rfew_q (N := 4) (W := 2) (ha.below (zup HZ.out hB)) h1_.out (by decide)) ?_
  refine .nt (.i 4) ?_
  refine .pk (.i 2) (.i 5) false ?_
  refine .mv (.i 6) ?_
  refine .ld .o (ldM b3 0) ?_
  refine .c3 (.i 8) .o .o (x := .k (.bool true)) (by rintro u v x w2 hB rfl rfl rfl; exact rfew_q (N := 4) (W := 2) (hb.below (zup HZ.out hB)) h2_.out (by decide)) ?_
  refine .nt (.i 9) ?_
  refine .pk (.i 7) (.i 10) false ?_
  refine .mv (.i 11) ?_
  refine .ld .o (ldM b2 0) ?_
  refine .c1 (.i 13) (x := .k (.bool true)) (by rintro u w2 hB rfl; exact lsq_q h3_.out w2) ?_
  refine .nt (.i 14) ?_
  refine .pk (.i 12) (.i 15) false ?_
  refine .mv (.i 16) ?_
  refine .ld .o (ldM b3 0) ?_
  refine .c1 (.i 18) (x := .k (.bool true)) (by rintro u w2 hB rfl; exact lsq_q h4_.out w2) ?_
  refine .nt (.i 19) ?_
  refine .pk (.i 17) (.i 20) false ?_
  refine .mv (.i 21) ?_
  refine .fa .o (fM0 0) ?_
  refine .ld (.i 23) (ldInt b2 0) ?_
  refine .fa .o (fM0 0) ?_
  refine .ld (.i 25) (ldInt b3 0) ?_
  refine .two (.i 24) (.i 26) (opNe (by simp : decide ((r : Int) ≠ (r : Int)) = false)) ?_
  refine .pk (.i 22) (.i 27) false ?_
  refine .donep [some 17, some 18, some 19, some 20, some 21, some 22, some 23, some 24, some 25, some 26, some 27, some 28, some 29, some 30, some 31, some 32, some 33, some 34, some 35, some 36, some 37, some 38, some 39, some 40, some 41, some 42, some 43, some 44, some 45] ?_
  intro w2 B2
  change Shut (wpList _ _ _ [] _ _)
  refine ⟨?_⟩
  simp only [Act.put, List.setIfInBounds_toArray, List.set_cons_zero, List.set_cons_succ]
  have B0 := zup HZ.out B2
  replace b2 := b2.below B2
  replace b3 := b3.below B2
  clear B2 HZ
  go_upto_region 3 with fail
  refine Run.start 7 ?_
  refine .ld .o (ldM b2 0) ?_
  refine .ld .o (ldM b3 0) ?_
  refine .c2 (.i 0) (.i 1) (x := kT (kM true r r K (fun i j => dot (mf Ra r) (mf Rb r) i j r)) (.k (.int .i64 0))) (by rintro u v w2 hB rfl rfl; rw [← hKe_.out]; exact mmul_yes (hM.below (zup B0 hB)) (hG.below (zup B0 hB)) rfl (by decide)) ?_
  refine .mf (.i 2) ?_
  refine .ex (.i 3) 0 kT_0 ?_
  refine .ex (.i 3) 1 kT_1 ?_
  refine .al ?_
  refine .donep [some 48, some 49, some 50, some 47, some 51, some 52, some 5] ?_
  intro w3 B3
  rintro v1 -
  rintro v2 -
  rintro v3 ⟨A5, n5, d5, rfl, m5⟩
  rintro g5 hg5 hl5 hc5 -
  change Shut (wpList _ _ _ [_, _] _ _)
  refine ⟨?_⟩
  simp only [Act.put, List.setIfInBounds_toArray, List.set_cons_zero, List.set_cons_succ]
  have b5 := zeroM hc5
  have hs5 := B0.size
  have hl_b2 := b2.lt
  have hl_b3 := b3.lt
  replace B0 := zup B0 B3
  replace b2 := b2.below B3
  replace b3 := b3.below B3
  clear B3 hc5
  obtain ⟨w4, hw4⟩ : ∃ x, mput w3 g5 (r : Int) (r : Int) A5 n5 d5 = x := ⟨_, rfl⟩
  obtain ⟨f0_, f1_, f2_, f3_, f4_, f5_, f6_⟩ := b5.m3
  replace b2 := b2.mo (g := g5) (r := (r : Int)) (c := (r : Int)) (A := A5) (n := n5) (d := d5) (by omega)
  rw [hw4] at b2
  replace b3 := b3.mo (g := g5) (r := (r : Int)) (c := (r : Int)) (A := A5) (n := n5) (d := d5) (by omega)
  rw [hw4] at b3
  replace m5 := m5.put (r' := (r : Int)) (c' := (r : Int)) (C := A5) (n' := n5) (d' := d5) b5
  rw [hw4] at m5
  replace B0 := below_mput (g := g5) (r := (r : Int)) (c := (r : Int)) (A := A5) (n := n5) (d := d5) B0 (by omega)
  rw [hw4] at B0
  replace b5 := b5.mp (g := g5) (r := (r : Int)) (c := (r : Int)) (A := A5) (n := n5) (d := d5)
  rw [hw4] at b5
  have Hw4 := Lib.hid hw4
  unfold mput at Hw4
  clear hw4
  go_upto_region 4 with fail
  rw [Hw4.out]
  clear f0_ f1_ f2_ f3_ f4_ f5_ f6_ Hw4
  clear hs5 hl_b2 hl_b3
  refine Run.start 6 ?_
  refine .ld .o (ldM b2 0) ?_
  refine .c1 (.i 0) (x := kT (kM true r r 2 (fun i j => mf Ra r j i)) (.k (.int .i64 0))) (by rintro u w2 hB rfl; exact mtrans_yes (F := mf Ra r) (hM.below (zup B0 hB)) (by decide)) ?_
  refine .mf (.i 1) ?_
  refine .ex (.i 2) 0 kT_0 ?_
  refine .ex (.i 2) 1 kT_1 ?_
  refine .al ?_
  refine .donep [some 54, some 55, some 53, some 56, some 57, some 7] ?_
  intro w5 B5
  rintro v1 -
  rintro v2 -
  rintro v3 ⟨A7, n7, d7, rfl, m7⟩
  rintro g7 hg7 hl7 hc7 -
  change Shut (wpList _ _ _ [_, _] _ _)
  refine ⟨?_⟩
  simp only [Act.put, List.setIfInBounds_toArray, List.set_cons_zero, List.set_cons_succ]
  have b7 := zeroM hc7
  have hs7 := B0.size
  have hl_b2 := b2.lt
  have hl_b3 := b3.lt
  have hl_b5 := b5.lt
  replace B0 := zup B0 B5
  replace b2 := b2.below B5
  replace b3 := b3.below B5
  replace b5 := b5.below B5
  replace m5 := m5.below B5
  clear B5 hc7
  obtain ⟨w6, hw6⟩ : ∃ x, mput w5 g7 (r : Int) (r : Int) A7 n7 d7 = x := ⟨_, rfl⟩
  obtain ⟨f0_, f1_, f2_, f3_, f4_, f5_, f6_⟩ := b7.m3
  replace b2 := b2.mo (g := g7) (r := (r : Int)) (c := (r : Int)) (A := A7) (n := n7) (d := d7) (by omega)
  rw [hw6] at b2
  replace b3 := b3.mo (g := g7) (r := (r : Int)) (c := (r : Int)) (A := A7) (n := n7) (d := d7) (by omega)
  rw [hw6] at b3
  replace b5 := b5.mo (g := g7) (r := (r : Int)) (c := (r : Int)) (A := A7) (n := n7) (d := d7) (by omega)
  rw [hw6] at b5
  replace m5 := m5.put (r' := (r : Int)) (c' := (r : Int)) (C := A7) (n' := n7) (d' := d7) b7
  rw [hw6] at m5
  replace m7 := m7.put (r' := (r : Int)) (c' := (r : Int)) (C := A7) (n' := n7) (d' := d7) b7
  rw [hw6] at m7
  replace B0 := below_mput (g := g7) (r := (r : Int)) (c := (r : Int)) (A := A7) (n := n7) (d := d7) B0 (by omega)
  rw [hw6] at B0
  replace b7 := b7.mp (g := g7) (r := (r : Int)) (c := (r : Int)) (A := A7) (n := n7) (d := d7)
  rw [hw6] at b7
  have Hw6 := Lib.hid hw6
  unfold mput at Hw6
  clear hw6
  go_upto_region 5 with fail
  rw [Hw6.out]
  clear f0_ f1_ f2_ f3_ f4_ f5_ f6_ Hw6
  clear hs7 hl_b2 hl_b3 hl_b5
  refine Run.start 6 ?_
  refine .ld .o (ldM b2 0) ?_
  refine .c1 (.i 0) (x := kT (kC (DT.det r (mf Ra r)) k2) (.k (.int .i64 0))) (by rintro u w2 hB rfl; rw [← hk2e_.out]; exact det_yes (hM.below (zup B0 hB)) (by omega) (by rw [hk2e_.out]; omega)) ?_
  refine .mf (.i 1) ?_
  refine .ex (.i 2) 0 kT_0 ?_
  refine .ex (.i 2) 1 kT_1 ?_
  refine .al ?_
  refine .donep [some 59, some 60, some 58, some 61, some 62, some 9] ?_
  intro w7 B7
  rintro v1 -
  rintro v2 -
  rintro v3 ⟨s9, A9, n9, c9, rfl, z9, k9⟩
  rintro g9 hg9 hl9 hc9 -
  change Shut (wpList _ _ _ [_, _] _ _)
  refine ⟨?_⟩
  simp only [Act.put, List.setIfInBounds_toArray, List.set_cons_zero, List.set_cons_succ]
  have b9 := zeroZ (T := 0) hc9
  have hs9 := B0.size
  have hl_b2 := b2.lt
  have hl_b3 := b3.lt
  have hl_b5 := b5.lt
  have hl_b7 := b7.lt
  replace B0 := zup B0 B7
  replace b2 := b2.below B7
  replace b3 := b3.below B7
  replace b5 := b5.below B7
  replace b7 := b7.below B7
  replace m5 := m5.fput B7 hg9 b9 (s' := s9) (A' := A9) (n' := n9) (c' := c9)
  replace m7 := m7.fput B7 hg9 b9 (s' := s9) (A' := A9) (n' := n9) (c' := c9)
  clear B7 hc9
  obtain ⟨w8, hw8⟩ : ∃ x, zput w7 g9 s9 A9 n9 c9 = x := ⟨_, rfl⟩
  obtain ⟨f1_, f2_, f3_, f4_, f5_⟩ := Ib.entry b9
  replace b2 := b2.zo (g := g9) (s := s9) (A := A9) (n := n9) (c := c9) (by omega)
  rw [hw8] at b2
  replace b3 := b3.zo (g := g9) (s := s9) (A := A9) (n := n9) (c := c9) (by omega)
  rw [hw8] at b3
  replace b5 := b5.zo (g := g9) (s := s9) (A := A9) (n := n9) (c := c9) (by omega)
  rw [hw8] at b5
  replace b7 := b7.zo (g := g9) (s := s9) (A := A9) (n := n9) (c := c9) (by omega)
  rw [hw8] at b7
  replace z9 := z9.zp (s' := s9) (A' := A9) (n' := n9) (c' := c9) b9
  rw [hw8] at z9
  rw [hw8] at m5
  rw [hw8] at m7
  replace B0 := below_put (g := g9) (s := s9) (A := A9) (n := n9) (c := c9) B0 (by omega)
  rw [hw8] at B0
  replace b9 := b9.zp (s := s9) (A := A9) (n := n9) (c := c9)
  rw [hw8] at b9
  have Hw8 := Lib.hid hw8
  unfold zput at Hw8
  clear hw8
  go_upto_region 6 with fail
  rw [Hw8.out]
  clear f1_ f2_ f3_ f4_ f5_ Hw8 hs9 hl_b2 hl_b3 hl_b5 hl_b7
  refine Run.start 6 ?_
  refine .ld .o (ldM b3 0) ?_
  refine .c1 (.i 0) (x := kT (kC (DT.det r (mf Rb r)) k2) (.k (.int .i64 0))) (by rintro u w2 hB rfl; rw [← hk2e_.out]; exact det_yes (hG.below (zup B0 hB)) (by omega) (by rw [hk2e_.out]; omega)) ?_
  refine .mf (.i 1) ?_
  refine .ex (.i 2) 0 kT_0 ?_
  refine .ex (.i 2) 1 kT_1 ?_
  refine .al ?_
  refine .donep [some 64, some 65, some 63, some 66, some 67, some 11] ?_
  intro w9 B9
  rintro v1 -
  rintro v2 -
  rintro v3 ⟨s11, A11, n11, c11, rfl, z11, k11⟩
  rintro g11 hg11 hl11 hc11 -
  change Shut (wpList _ _ _ [_, _] _ _)
  refine ⟨?_⟩
  simp only [Act.put, List.setIfInBounds_toArray, List.set_cons_zero, List.set_cons_succ]
  have b11 := zeroZ (T := 0) hc11
  have hs11 := B0.size
  have hl_b2 := b2.lt
  have hl_b3 := b3.lt
  have hl_b5 := b5.lt
  have hl_b7 := b7.lt
  have hl_b9 := b9.lt
  replace B0 := zup B0 B9
  replace b2 := b2.below B9
  replace b3 := b3.below B9
  replace b5 := b5.below B9
  replace b7 := b7.below B9
  replace b9 := b9.below B9
  replace z9 := z9.below B9
  replace m5 := m5.fput B9 hg11 b11 (s' := s11) (A' := A11) (n' := n11) (c' := c11)
  replace m7 := m7.fput B9 hg11 b11 (s' := s11) (A' := A11) (n' := n11) (c' := c11)
  clear B9 hc11
  obtain ⟨w10, hw10⟩ : ∃ x, zput w9 g11 s11 A11 n11 c11 = x := ⟨_, rfl⟩
  obtain ⟨f1_, f2_, f3_, f4_, f5_⟩ := Ib.entry b11
  replace b2 := b2.zo (g := g11) (s := s11) (A := A11) (n := n11) (c := c11) (by omega)
  rw [hw10] at b2
  replace b3 := b3.zo (g := g11) (s := s11) (A := A11) (n := n11) (c := c11) (by omega)
  rw [hw10] at b3
  replace b5 := b5.zo (g := g11) (s := s11) (A := A11) (n := n11) (c := c11) (by omega)
  rw [hw10] at b5
  replace b7 := b7.zo (g := g11) (s := s11) (A := A11) (n := n11) (c := c11) (by omega)
  rw [hw10] at b7
  replace b9 := b9.zo (g := g11) (s := s11) (A := A11) (n := n11) (c := c11) (by omega)
  rw [hw10] at b9
  replace z9 := z9.zp (s' := s11) (A' := A11) (n' := n11) (c' := c11) b11
  rw [hw10] at z9
  replace z11 := z11.zp (s' := s11) (A' := A11) (n' := n11) (c' := c11) b11
  rw [hw10] at z11
  rw [hw10] at m5
  rw [hw10] at m7
  replace B0 := below_put (g := g11) (s := s11) (A := A11) (n := n11) (c := c11) B0 (by omega)
  rw [hw10] at B0
  replace b11 := b11.zp (s := s11) (A := A11) (n := n11) (c := c11)
  rw [hw10] at b11
  have Hw10 := Lib.hid hw10
  unfold zput at Hw10
  clear hw10
  go_upto_region 7 with fail
  rw [Hw10.out]
  clear f1_ f2_ f3_ f4_ f5_ Hw10 hs11 hl_b2 hl_b3 hl_b5 hl_b7 hl_b9
  refine Run.start 6 ?_
  refine .ld .o (ldM b5 0) ?_
  refine .c1 (.i 0) (x := kT (kC (DT.det r (fun i j => dot (mf Ra r) (mf Rb r) i j r)) kz) (.k (.int .i64 0))) (by rintro u w2 hB rfl; rw [← hkze_.out]; exact det_yes (m5.below hB) (by omega) (by rw [hkze_.out]; omega)) ?_
  refine .mf (.i 1) ?_
  refine .ex (.i 2) 0 kT_0 ?_
  refine .ex (.i 2) 1 kT_1 ?_
  refine .al ?_
  refine .donep [some 69, some 70, some 68, some 71, some 72, some 13] ?_
  intro w11 B11
  rintro v1 -
  rintro v2 -
  rintro v3 ⟨s13, A13, n13, c13, rfl, z13, k13⟩
  rintro g13 hg13 hl13 hc13 -
  change Shut (wpList _ _ _ [_, _] _ _)
  refine ⟨?_⟩
  simp only [Act.put, List.setIfInBounds_toArray, List.set_cons_zero, List.set_cons_succ]
  have b13 := zeroZ (T := 0) hc13
  have hs13 := B0.size
  have hl_b2 := b2.lt
  have hl_b3 := b3.lt
  have hl_b5 := b5.lt
  have hl_b7 := b7.lt
  have hl_b9 := b9.lt
  have hl_b11 := b11.lt
  replace B0 := zup B0 B11
  replace b2 := b2.below B11
  replace b3 := b3.below B11
  replace b5 := b5.below B11
  replace b7 := b7.below B11
  replace b9 := b9.below B11
  replace b11 := b11.below B11
  replace z9 := z9.below B11
  replace z11 := z11.below B11
  replace m5 := m5.fput B11 hg13 b13 (s' := s13) (A' := A13) (n' := n13) (c' := c13)
  replace m7 := m7.fput B11 hg13 b13 (s' := s13) (A' := A13) (n' := n13) (c' := c13)
  clear B11 hc13
  obtain ⟨w12, hw12⟩ : ∃ x, zput w11 g13 s13 A13 n13 c13 = x := ⟨_, rfl⟩
  obtain ⟨f1_, f2_, f3_, f4_, f5_⟩ := Ib.entry b13
  replace b2 := b2.zo (g := g13) (s := s13) (A := A13) (n := n13) (c := c13) (by omega)
  rw [hw12] at b2
  replace b3 := b3.zo (g := g13) (s := s13) (A := A13) (n := n13) (c := c13) (by omega)
  rw [hw12] at b3
  replace b5 := b5.zo (g := g13) (s := s13) (A := A13) (n := n13) (c := c13) (by omega)
  rw [hw12] at b5
  replace b7 := b7.zo (g := g13) (s := s13) (A := A13) (n := n13) (c := c13) (by omega)
  rw [hw12] at b7
  replace b9 := b9.zo (g := g13) (s := s13) (A := A13) (n := n13) (c := c13) (by omega)
  rw [hw12] at b9
  replace b11 := b11.zo (g := g13) (s := s13) (A := A13) (n := n13) (c := c13) (by omega)
  rw [hw12] at b11
  replace z9 := z9.zp (s' := s13) (A' := A13) (n' := n13) (c' := c13) b13
  rw [hw12] at z9
  replace z11 := z11.zp (s' := s13) (A' := A13) (n' := n13) (c' := c13) b13
  rw [hw12] at z11
  replace z13 := z13.zp (s' := s13) (A' := A13) (n' := n13) (c' := c13) b13
  rw [hw12] at z13
  rw [hw12] at m5
  rw [hw12] at m7
  replace B0 := below_put (g := g13) (s := s13) (A := A13) (n := n13) (c := c13) B0 (by omega)
  rw [hw12] at B0
  replace b13 := b13.zp (s := s13) (A := A13) (n := n13) (c := c13)
  rw [hw12] at b13
  have Hw12 := Lib.hid hw12
  unfold zput at Hw12
  clear hw12
  go_upto_region 8 with fail
  rw [Hw12.out]
  clear f1_ f2_ f3_ f4_ f5_ Hw12 hs13 hl_b2 hl_b3 hl_b5 hl_b7 hl_b9 hl_b11
  refine Run.start 6 ?_
  refine .ld .o (ldM b7 0) ?_
  refine .c1 (.i 0) (x := kT (kC (DT.det r (fun i j => mf Ra r j i)) k2) (.k (.int .i64 0))) (by rintro u w2 hB rfl; rw [← hk2e_.out]; exact det_yes (m7.below hB) (by omega) (by rw [hk2e_.out]; omega)) ?_
  refine .mf (.i 1) ?_
  refine .ex (.i 2) 0 kT_0 ?_
  refine .ex (.i 2) 1 kT_1 ?_
  refine .al ?_
  refine .donep [some 74, some 75, some 73, some 76, some 77, some 15] ?_
  intro w13 B13
  rintro v1 -
  rintro v2 -
  rintro v3 ⟨s15, A15, n15, c15, rfl, z15, k15⟩
  rintro g15 hg15 hl15 hc15 -
  change Shut (wpList _ _ _ [_, _] _ _)
  refine ⟨?_⟩
  simp only [Act.put, List.setIfInBounds_toArray, List.set_cons_zero, List.set_cons_succ]
  have b15 := zeroZ (T := 0) hc15
  have hs15 := B0.size
  have hl_b2 := b2.lt
  have hl_b3 := b3.lt
  have hl_b5 := b5.lt
  have hl_b7 := b7.lt
  have hl_b9 := b9.lt
  have hl_b11 := b11.lt
  have hl_b13 := b13.lt
  replace B0 := zup B0 B13
  replace b2 := b2.below B13
  replace b3 := b3.below B13
  replace b5 := b5.below B13
  replace b7 := b7.below B13
  replace b9 := b9.below B13
  replace b11 := b11.below B13
  replace b13 := b13.below B13
  replace z9 := z9.below B13
  replace z11 := z11.below B13
  replace z13 := z13.below B13
  replace m5 := m5.fput B13 hg15 b15 (s' := s15) (A' := A15) (n' := n15) (c' := c15)
  replace m7 := m7.fput B13 hg15 b15 (s' := s15) (A' := A15) (n' := n15) (c' := c15)
  clear B13 hc15
  obtain ⟨w14, hw14⟩ : ∃ x, zput w13 g15 s15 A15 n15 c15 = x := ⟨_, rfl⟩
  obtain ⟨f1_, f2_, f3_, f4_, f5_⟩ := Ib.entry b15
  replace b2 := b2.zo (g := g15) (s := s15) (A := A15) (n := n15) (c := c15) (by omega)
  rw [hw14] at b2
  replace b3 := b3.zo (g := g15) (s := s15) (A := A15) (n := n15) (c := c15) (by omega)
  rw [hw14] at b3
  replace b5 := b5.zo (g := g15) (s := s15) (A := A15) (n := n15) (c := c15) (by omega)
  rw [hw14] at b5
  replace b7 := b7.zo (g := g15) (s := s15) (A := A15) (n := n15) (c := c15) (by omega)
  rw [hw14] at b7
  replace b9 := b9.zo (g := g15) (s := s15) (A := A15) (n := n15) (c := c15) (by omega)
  rw [hw14] at b9
  replace b11 := b11.zo (g := g15) (s := s15) (A := A15) (n := n15) (c := c15) (by omega)
  rw [hw14] at b11
  replace b13 := b13.zo (g := g15) (s := s15) (A := A15) (n := n15) (c := c15) (by omega)
  rw [hw14] at b13
  replace z9 := z9.zp (s' := s15) (A' := A15) (n' := n15) (c' := c15) b15
  rw [hw14] at z9
  replace z11 := z11.zp (s' := s15) (A' := A15) (n' := n15) (c' := c15) b15
  rw [hw14] at z11
  replace z13 := z13.zp (s' := s15) (A' := A15) (n' := n15) (c' := c15) b15
  rw [hw14] at z13
  replace z15 := z15.zp (s' := s15) (A' := A15) (n' := n15) (c' := c15) b15
  rw [hw14] at z15
  rw [hw14] at m5
  rw [hw14] at m7
  replace B0 := below_put (g := g15) (s := s15) (A := A15) (n := n15) (c := c15) B0 (by omega)
  rw [hw14] at B0
  replace b15 := b15.zp (s := s15) (A := A15) (n := n15) (c := c15)
  rw [hw14] at b15
  have Hw14 := Lib.hid hw14
  unfold zput at Hw14
  clear hw14
  go_upto_region 9 with fail
  rw [Hw14.out]
  clear f1_ f2_ f3_ f4_ f5_ Hw14 hs15 hl_b2 hl_b3 hl_b5 hl_b7 hl_b9 hl_b11 hl_b13
  refine Run.start 27 ?_
  refine .mv .o ?_
  refine .two (.i 0) .o (opEq (by decide : decide ((0 : Int) = 0) = true)) ?_
  refine .mv (.i 1) ?_
  refine .mv .o ?_
  refine .two (.i 3) .o (opEq (by decide : decide ((0 : Int) = 0) = true)) ?_
  refine .pk (.i 2) (.i 4) true ?_
  refine .mv (.i 5) ?_
  refine .mv .o ?_
  refine .two (.i 7) .o (opEq (by decide : decide ((0 : Int) = 0) = true)) ?_
  refine .pk (.i 6) (.i 8) true ?_
  refine .mv (.i 9) ?_
  refine .mv .o ?_
  refine .two (.i 11) .o (opEq (by decide : decide ((0 : Int) = 0) = true)) ?_
  refine .pk (.i 10) (.i 12) true ?_
  refine .mv (.i 13) ?_
  refine .ld .o (ldZ b9 0) ?_
  refine .ld .o (ldZ b11 0) ?_
  refine .c2 (.i 15) (.i 16) (x := kC (DT.det r (mf Ra r) * DT.det r (mf Rb r)) (k2 + k2)) (by rintro u v w2 hB rfl rfl; exact zmul_q ⟨_, _, _, _, rfl, (z9.below hB).zv, k9⟩ ⟨_, _, _, _, rfl, (z11.below hB).zv, k11⟩ (by omega) (by omega) (Nat.le_refl _)) ?_
  refine .ld .o (ldZ b13 0) ?_
  refine .c2 (.i 17) (.i 18) (x := .k (.bool true)) (by rintro u v w2 hB hu rfl; exact zsame_q hu.v ⟨_, _, _, _, rfl, (z13.below hB).zv, k13⟩ (by omega) (by omega) (decide_eq_true (det_dot _ _ _).symm)) ?_
  refine .pk (.i 14) (.i 19) true ?_
  refine .mv (.i 20) ?_
  refine .ld .o (ldZ b9 0) ?_
  refine .ld .o (ldZ b15 0) ?_
  refine .c2 (.i 22) (.i 23) (x := .k (.bool true)) (by rintro u v w2 hB rfl rfl; exact zsame_q ⟨_, _, _, _, rfl, (z9.below hB).zv, k9⟩ ⟨_, _, _, _, rfl, (z15.below hB).zv, k15⟩ (by omega) (by omega) (decide_eq_true (DT.det_T r (mf Ra r)).symm)) ?_
  refine .pk (.i 21) (.i 24) true ?_
  refine .mv (.i 25) ?_
  refine .done [some 78, some 79, some 80, some 81, some 82, some 83, some 84, some 85, some 86, some 87, some 88, some 89, some 90, some 91, some 92, some 93, some 94, some 95, some 96, some 97, some 98, some 99, some 100, some 101, some 102, some 103, some 4] ?_
  intro w15 B15
  rintro v4 -
  change Shut (wpList _ _ _ [] _ _)
  refine ⟨?_⟩
  simp only [Act.put, List.setIfInBounds_toArray, List.set_cons_zero, List.set_cons_succ]
  go_wp2_with fail
  exact bodyPost_ret (v := .bool true) (by simp [results, Try.results11, go_sem]) rfl (ret_k rfl (zup B0 B15))
/-- BareissProducts. -/
theorem prods12_law {r c r' c' : Int} {A A' : Option Addr} {n d n' d' : Nat} {Ra Rb : List Zr} {w : World} (ha : RL w A n d Ra) (hb : RL w A' n' d' Rb) : Calls Try.prog 11 #[.agg #[.int .i64 r, .int .i64 c, .slice A n d], .agg #[.int .i64 r', .int .i64 c', .slice A' n' d']] w (RetK (.k (.bool true)) w) := by
  cases h : (fewb r c Ra 4 2 && (fewb r' c' Rb 4 2 && ((fmd r c n && decide (r = c)) && ((fmd r' c' n' && decide (r' = c')) && decide (r = r'))))) with
  | false => exact prods_off ha hb h
  | true =>
    simp only [Bool.and_eq_true, decide_eq_true_eq] at h
    obtain ⟨h1, h2, ⟨h3, e1⟩, ⟨h4, e2⟩, e3⟩ := h
    obtain ⟨x, y, rfl, rfl, hr, hc, hn, hM⟩ := ha.mt h3 h1
    obtain ⟨x', y', rfl, rfl, hr', hc', hn', hG⟩ := hb.mt h4 h2
    obtain rfl : x = y := by omega
    obtain rfl : x = x' := by omega
    obtain rfl : x = y' := by omega
    exact prods_yes ha hb h1 h2 hM hG hr
end Go.Proofs.Ytcdkdanfiimlkaa
