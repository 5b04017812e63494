/-
  Package zmat: the numbers that form asks for.
-/
import Derived.Test.YtcdkdanfiimlkaaMtE
/-! Contracts: numbers that are asked for. -/
namespace Go.Proofs.Ytcdkdanfiimlkaa
open Go.RowKit
set_option linter.unusedVariables false
set_option linter.unusedSimpArgs false

set_option maxRecDepth 100000 in
/-- pair.sum. -/
theorem psum_q {q q' : Bool} {r c n d k r' c' n' d' k' i j : Nat} {A A' : Option Addr} {F G : Nat → Nat → Int} {w : World} (ha : Mt q w r c A n d k F) (hb : Mt q' w r' c' A' n' d' k' G) (hi : i < r) (hj : j < c) (hi' : i < r') (hj' : j < c') (hk : k ≤ 1099511627776) (hk' : k' ≤ 1099511627776) : Calls Try.prog 56 #[.agg #[.int .i64 (r : Int), .int .i64 (c : Int), .slice A n d, .int .i64 (r' : Int), .int .i64 (c' : Int), .slice A' n' d'], .int .i64 (i : Int), .int .i64 (j : Int)] w (RetK (kC (F i j + G i j) (max k k' + 1)) w) := by
  obtain ⟨w1, hw1, b3, b6, z1, s1⟩ := boxes2 w 72 28 [.int .i64 (r : Int), .int .i64 (c : Int), .slice A n d, .int .i64 (r' : Int), .int .i64 (c' : Int), .slice A' n' d'] [.bool false, .slice none 0 0]
  have HW := Lib.hid hw1
  have HZ := Lib.hid z1
  replace ha := ha.below z1
  replace hb := hb.below z1
  clear hw1 z1 s1
  go_enter Try.func56, Try.ntmps56
  go_upto_region 1 with fail
  rw [HW.out]
  refine Run.start 11 ?_
  refine .fa .o (fP0 0) ?_
  refine .ld (.i 0) (ldM b3 0) ?_
  refine .mv .o ?_
  refine .mv .o ?_
  refine .c3 (.i 1) (.i 2) (.i 3) (x := kV (F i j) k) (by rintro u v x w2 hB rfl rfl rfl; exact place_q (ha.below hB) hi hj) ?_
  refine .fa .o (fP1 3) ?_
  refine .ld (.i 5) (ldM b3 3) ?_
  refine .mv .o ?_
  refine .mv .o ?_
  refine .c3 (.i 6) (.i 7) (.i 8) (x := kV (G i j) k') (by rintro u v x w2 hB rfl rfl rfl; exact place_q (hb.below hB) hi' hj') ?_
  refine .c2 (.i 4) (.i 9) (x := kC (F i j + G i j) (max k k' + 1)) (by intro u v w2 hB h1 h2; exact zadd_q h1 h2 hk hk' (Nat.le_refl _)) ?_
  refine .done [some 7, some 8, some 9, some 10, some 11, some 12, some 13, some 14, some 15, some 16, some 17] ?_
  intro w2 B2
  rintro v0 -
  rintro v1 -
  rintro v ⟨s_, A_, n_, c_, rfl, hz, hk_⟩
  change Shut (wpList _ _ _ [_] _ _)
  refine ⟨?_⟩
  simp only [Act.put, List.setIfInBounds_toArray, List.set_cons_zero, List.set_cons_succ]
  have I := Ib.entry (b6.below B2)
  have P := Lib.hid (retC hz I (k := max k k' + 1) (by omega) (by omega) (zup HZ.out B2))
  obtain ⟨i1, i2, i3, i4, i5⟩ := I
  clear hz
  go_wp2_with fail
  exact bodyPost_ret (v := .agg #[.bool s_, .slice A_ n_ c_]) (by simp [results, Try.results56, go_sem, i1, i2]) rfl P.out
set_option maxRecDepth 100000 in
/-- pair.difference. -/
theorem pdifference_q {q q' : Bool} {r c n d k r' c' n' d' k' i j : Nat} {A A' : Option Addr} {F G : Nat → Nat → Int} {w : World} (ha : Mt q w r c A n d k F) (hb : Mt q' w r' c' A' n' d' k' G) (hi : i < r) (hj : j < c) (hi' : i < r') (hj' : j < c') (hk : k ≤ 1099511627776) (hk' : k' ≤ 1099511627776) : Calls Try.prog 57 #[.agg #[.int .i64 (r : Int), .int .i64 (c : Int), .slice A n d, .int .i64 (r' : Int), .int .i64 (c' : Int), .slice A' n' d'], .int .i64 (i : Int), .int .i64 (j : Int)] w (RetK (kC (F i j - G i j) (max k k' + 1)) w) := by
  obtain ⟨w1, hw1, b3, b6, z1, s1⟩ := boxes2 w 72 28 [.int .i64 (r : Int), .int .i64 (c : Int), .slice A n d, .int .i64 (r' : Int), .int .i64 (c' : Int), .slice A' n' d'] [.bool false, .slice none 0 0]
  have HW := Lib.hid hw1
  have HZ := Lib.hid z1
  replace ha := ha.below z1
  replace hb := hb.below z1
  clear hw1 z1 s1
  go_enter Try.func57, Try.ntmps57
  go_upto_region 1 with fail
  rw [HW.out]
  refine Run.start 11 ?_
  refine .fa .o (fP0 0) ?_
  refine .ld (.i 0) (ldM b3 0) ?_
  refine .mv .o ?_
  refine .mv .o ?_
  refine .c3 (.i 1) (.i 2) (.i 3) (x := kV (F i j) k) (by rintro u v x w2 hB rfl rfl rfl; exact place_q (ha.below hB) hi hj) ?_
  refine .fa .o (fP1 3) ?_
  refine .ld (.i 5) (ldM b3 3) ?_
  refine .mv .o ?_
  refine .mv .o ?_
  refine .c3 (.i 6) (.i 7) (.i 8) (x := kV (G i j) k') (by rintro u v x w2 hB rfl rfl rfl; exact place_q (hb.below hB) hi' hj') ?_
  refine .c2 (.i 4) (.i 9) (x := kC (F i j - G i j) (max k k' + 1)) (by intro u v w2 hB h1 h2; exact zsub_q h1 h2 hk hk' (Nat.le_refl _)) ?_
  refine .done [some 7, some 8, some 9, some 10, some 11, some 12, some 13, some 14, some 15, some 16, some 17] ?_
  intro w2 B2
  rintro v0 -
  rintro v1 -
  rintro v ⟨s_, A_, n_, c_, rfl, hz, hk_⟩
  change Shut (wpList _ _ _ [_] _ _)
  refine ⟨?_⟩
  simp only [Act.put, List.setIfInBounds_toArray, List.set_cons_zero, List.set_cons_succ]
  have I := Ib.entry (b6.below B2)
  have P := Lib.hid (retC hz I (k := max k k' + 1) (by omega) (by omega) (zup HZ.out B2))
  obtain ⟨i1, i2, i3, i4, i5⟩ := I
  clear hz
  go_wp2_with fail
  exact bodyPost_ret (v := .agg #[.bool s_, .slice A_ n_ c_]) (by simp [results, Try.results57, go_sem, i1, i2]) rfl P.out
set_option maxRecDepth 100000 in
/-- pair.stacked. -/
theorem pstacked_q {q q' : Bool} {r c n d k r' c' n' d' k' i j : Nat} {A A' : Option Addr} {F G : Nat → Nat → Int} {w : World} (ha : Mt q w r c A n d k F) (hb : Mt q' w r' c' A' n' d' k' G) (hi : i < r + r') (hj : j < c) (hj' : j < c') (hk : k ≤ 1099511627776) (hk' : k' ≤ 1099511627776) : Calls Try.prog 76 #[.agg #[.int .i64 (r : Int), .int .i64 (c : Int), .slice A n d, .int .i64 (r' : Int), .int .i64 (c' : Int), .slice A' n' d'], .int .i64 (i : Int), .int .i64 (j : Int)] w (RetK (kC (if i < r then F i j else G (i - r) j) (max k k')) w) := by
  have hr1 := ha.hr
  have hc1 := ha.hc
  have hr2 := hb.hr
  have hc2 := hb.hc
  obtain ⟨z, hz0⟩ : ∃ z : Int, (if i < r then F i j else G (i - r) j) = z := ⟨_, rfl⟩
  have Hz := Lib.hid hz0
  rw [hz0]
  obtain ⟨w1, hw1, b3, b6, z1, s1⟩ := boxes2 w 72 28 [.int .i64 (r : Int), .int .i64 (c : Int), .slice A n d, .int .i64 (r' : Int), .int .i64 (c' : Int), .slice A' n' d'] [.bool false, .slice none 0 0]
  have HW := Lib.hid hw1
  have HZ := Lib.hid z1
  replace ha := ha.below z1
  replace hb := hb.below z1
  clear hw1 z1 s1 hz0
  go_enter Try.func76, Try.ntmps76
  go_upto_region 1 with fail
  rw [HW.out]
  by_cases ht : i < r
  · have u1 : (i : Int) < (r : Int) := by omega
    have ez := Hz.out
    rw [if_pos ht] at ez
    clear Hz
    refine Run.start 5 ?_
    refine .mv .o ?_
    refine .fa .o (fP0 0) ?_
    refine .fa (.i 1) (fM0 0) ?_
    refine .ld (.i 2) (ldInt b3 0) ?_
    refine .two (.i 0) (.i 3) (opLt (decide_eq_true u1)) ?_
    refine .donep [some 7, some 8, some 9, some 10, some 11] ?_
    intro w2 B2
    change Shut (wpList _ _ _ [] _ _)
    refine ⟨?_⟩
    simp only [Act.put, List.setIfInBounds_toArray, List.set_cons_zero, List.set_cons_succ]
    replace ha := ha.below B2
    replace b3 := b3.below B2
    replace b6 := b6.below B2
    have HZ2 := Lib.hid (zup HZ.out B2)
    clear B2 HZ
    go_upto_region 2 with fail
    refine Run.start 5 ?_
    refine .fa .o (fP0 0) ?_
    refine .ld (.i 0) (ldM b3 0) ?_
    refine .mv .o ?_
    refine .mv .o ?_
    refine .c3 (.i 1) (.i 2) (.i 3) (x := kC z (max k k')) (by rintro u v x w3 hB rfl rfl rfl; rw [← ez]; exact (number_q (ha.below hB) ht hj hk).mono fun e w' h => h.mono fun v w ⟨s, A, n, c, e, h1, h2⟩ => ⟨s, A, n, c, e, h1, by omega⟩) ?_
    refine .donep [some 12, some 13, some 14, some 15, some 16] ?_
    intro w3 B3
    rintro v ⟨s_, A_, n_, c_, rfl, hz, hk_⟩
    change Shut (wpList _ _ _ [_] _ _)
    refine ⟨?_⟩
    simp only [Act.put, List.setIfInBounds_toArray, List.set_cons_zero, List.set_cons_succ]
    have I := Ib.entry (b6.below B3)
    have P := Lib.hid (retC hz I (k := max k k') (by omega) (by omega) (zup HZ2.out B3))
    obtain ⟨i1, i2, i3, i4, i5⟩ := I
    clear hz
    go_wp2_with fail
    exact bodyPost_ret (v := .agg #[.bool s_, .slice A_ n_ c_]) (by simp [results, Try.results76, go_sem, i1, i2]) rfl P.out
  · have u1 : ¬ (i : Int) < (r : Int) := by omega
    have ez := Hz.out
    rw [if_neg ht] at ez
    clear Hz
    refine Run.start 5 ?_
    refine .mv .o ?_
    refine .fa .o (fP0 0) ?_
    refine .fa (.i 1) (fM0 0) ?_
    refine .ld (.i 2) (ldInt b3 0) ?_
    refine .two (.i 0) (.i 3) (opLt (decide_eq_false u1)) ?_
    refine .donep [some 7, some 8, some 9, some 10, some 11] ?_
    intro w2 B2
    change Shut (wpList _ _ _ [] _ _)
    refine ⟨?_⟩
    simp only [Act.put, List.setIfInBounds_toArray, List.set_cons_zero, List.set_cons_succ]
    replace hb := hb.below B2
    replace b3 := b3.below B2
    replace b6 := b6.below B2
    have HZ2 := Lib.hid (zup HZ.out B2)
    clear B2 HZ
    go_upto_region 3 with fail
    refine Run.start 9 ?_
    refine .fa .o (fP1 3) ?_
    refine .ld (.i 0) (ldM b3 3) ?_
    refine .mv .o ?_
    refine .fa .o (fP0 0) ?_
    refine .fa (.i 3) (fM0 0) ?_
    refine .ld (.i 4) (ldInt b3 0) ?_
    refine .two (.i 2) (.i 5) (opSubN i r (by omega) (by omega)) ?_
    refine .mv .o ?_
    refine .c3 (.i 1) (.i 6) (.i 7) (x := kC z (max k k')) (by rintro u v x w3 hB rfl rfl rfl; rw [← ez]; exact (number_q (hb.below hB) (by omega) hj' hk').mono fun e w' h => h.mono fun v w ⟨s, A, n, c, e, h1, h2⟩ => ⟨s, A, n, c, e, h1, by omega⟩) ?_
    refine .donep [some 17, some 18, some 19, some 20, some 21, some 22, some 23, some 24, some 25] ?_
    intro w3 B3
    rintro v ⟨s_, A_, n_, c_, rfl, hz, hk_⟩
    change Shut (wpList _ _ _ [_] _ _)
    refine ⟨?_⟩
    simp only [Act.put, List.setIfInBounds_toArray, List.set_cons_zero, List.set_cons_succ]
    have I := Ib.entry (b6.below B3)
    have P := Lib.hid (retC hz I (k := max k k') (by omega) (by omega) (zup HZ2.out B3))
    obtain ⟨i1, i2, i3, i4, i5⟩ := I
    clear hz
    go_wp2_with fail
    exact bodyPost_ret (v := .agg #[.bool s_, .slice A_ n_ c_]) (by simp [results, Try.results76, go_sem, i1, i2]) rfl P.out
set_option maxRecDepth 100000 in
/-- pair.beside. -/
theorem pbeside_q {q q' : Bool} {r c n d k r' c' n' d' k' i j : Nat} {A A' : Option Addr} {F G : Nat → Nat → Int} {w : World} (ha : Mt q w r c A n d k F) (hb : Mt q' w r' c' A' n' d' k' G) (hi : i < r) (hi' : i < r') (hj : j < c + c') (hk : k ≤ 1099511627776) (hk' : k' ≤ 1099511627776) : Calls Try.prog 77 #[.agg #[.int .i64 (r : Int), .int .i64 (c : Int), .slice A n d, .int .i64 (r' : Int), .int .i64 (c' : Int), .slice A' n' d'], .int .i64 (i : Int), .int .i64 (j : Int)] w (RetK (kC (if j < c then F i j else G i (j - c)) (max k k')) w) := by
  have hr1 := ha.hr
  have hc1 := ha.hc
  have hr2 := hb.hr
  have hc2 := hb.hc
  obtain ⟨z, hz0⟩ : ∃ z : Int, (if j < c then F i j else G i (j - c)) = z := ⟨_, rfl⟩
  have Hz := Lib.hid hz0
  rw [hz0]
  obtain ⟨w1, hw1, b3, b6, z1, s1⟩ := boxes2 w 72 28 [.int .i64 (r : Int), .int .i64 (c : Int), .slice A n d, .int .i64 (r' : Int), .int .i64 (c' : Int), .slice A' n' d'] [.bool false, .slice none 0 0]
  have HW := Lib.hid hw1
  have HZ := Lib.hid z1
  replace ha := ha.below z1
  replace hb := hb.below z1
  clear hw1 z1 s1 hz0
  go_enter Try.func77, Try.ntmps77
  go_upto_region 1 with fail
  rw [HW.out]
  by_cases ht : j < c
  · have u1 : (j : Int) < (c : Int) := by omega
    have ez := Hz.out
    rw [if_pos ht] at ez
    clear Hz
    refine Run.start 5 ?_
    refine .mv .o ?_
    refine .fa .o (fP0 0) ?_
    refine .fa (.i 1) (fM1 1) ?_
    refine .ld (.i 2) (ldInt b3 1) ?_
    refine .two (.i 0) (.i 3) (opLt (decide_eq_true u1)) ?_
    refine .donep [some 7, some 8, some 9, some 10, some 11] ?_
    intro w2 B2
    change Shut (wpList _ _ _ [] _ _)
    refine ⟨?_⟩
    simp only [Act.put, List.setIfInBounds_toArray, List.set_cons_zero, List.set_cons_succ]
    replace ha := ha.below B2
    replace b3 := b3.below B2
    replace b6 := b6.below B2
    have HZ2 := Lib.hid (zup HZ.out B2)
    clear B2 HZ
    go_upto_region 2 with fail
    refine Run.start 5 ?_
    refine .fa .o (fP0 0) ?_
    refine .ld (.i 0) (ldM b3 0) ?_
    refine .mv .o ?_
    refine .mv .o ?_
    refine .c3 (.i 1) (.i 2) (.i 3) (x := kC z (max k k')) (by rintro u v x w3 hB rfl rfl rfl; rw [← ez]; exact (number_q (ha.below hB) hi ht hk).mono fun e w' h => h.mono fun v w ⟨s, A, n, c, e, h1, h2⟩ => ⟨s, A, n, c, e, h1, by omega⟩) ?_
    refine .donep [some 12, some 13, some 14, some 15, some 16] ?_
    intro w3 B3
    rintro v ⟨s_, A_, n_, c_, rfl, hz, hk_⟩
    change Shut (wpList _ _ _ [_] _ _)
    refine ⟨?_⟩
    simp only [Act.put, List.setIfInBounds_toArray, List.set_cons_zero, List.set_cons_succ]
    have I := Ib.entry (b6.below B3)
    have P := Lib.hid (retC hz I (k := max k k') (by omega) (by omega) (zup HZ2.out B3))
    obtain ⟨i1, i2, i3, i4, i5⟩ := I
    clear hz
    go_wp2_with fail
    exact bodyPost_ret (v := .agg #[.bool s_, .slice A_ n_ c_]) (by simp [results, Try.results77, go_sem, i1, i2]) rfl P.out
  · have u1 : ¬ (j : Int) < (c : Int) := by omega
    have ez := Hz.out
    rw [if_neg ht] at ez
    clear Hz
    refine Run.start 5 ?_
    refine .mv .o ?_
    refine .fa .o (fP0 0) ?_
    refine .fa (.i 1) (fM1 1) ?_
    refine .ld (.i 2) (ldInt b3 1) ?_
    refine .two (.i 0) (.i 3) (opLt (decide_eq_false u1)) ?_
    refine .donep [some 7, some 8, some 9, some 10, some 11] ?_
    intro w2 B2
    change Shut (wpList _ _ _ [] _ _)
    refine ⟨?_⟩
    simp only [Act.put, List.setIfInBounds_toArray, List.set_cons_zero, List.set_cons_succ]
    replace hb := hb.below B2
    replace b3 := b3.below B2
    replace b6 := b6.below B2
    have HZ2 := Lib.hid (zup HZ.out B2)
    clear B2 HZ
    go_upto_region 3 with fail
    refine Run.start 9 ?_
    refine .fa .o (fP1 3) ?_
    refine .ld (.i 0) (ldM b3 3) ?_
    refine .mv .o ?_
    refine .mv .o ?_
    refine .fa .o (fP0 0) ?_
    refine .fa (.i 4) (fM1 1) ?_
    refine .ld (.i 5) (ldInt b3 1) ?_
    refine .two (.i 3) (.i 6) (opSubN j c (by omega) (by omega)) ?_
    refine .c3 (.i 1) (.i 2) (.i 7) (x := kC z (max k k')) (by rintro u v x w3 hB rfl rfl rfl; rw [← ez]; exact (number_q (hb.below hB) hi' (by omega) hk').mono fun e w' h => h.mono fun v w ⟨s, A, n, c, e, h1, h2⟩ => ⟨s, A, n, c, e, h1, by omega⟩) ?_
    refine .donep [some 17, some 18, some 19, some 20, some 21, some 22, some 23, some 24, some 25] ?_
    intro w3 B3
    rintro v ⟨s_, A_, n_, c_, rfl, hz, hk_⟩
    change Shut (wpList _ _ _ [_] _ _)
    refine ⟨?_⟩
    simp only [Act.put, List.setIfInBounds_toArray, List.set_cons_zero, List.set_cons_succ]
    have I := Ib.entry (b6.below B3)
    have P := Lib.hid (retC hz I (k := max k k') (by omega) (by omega) (zup HZ2.out B3))
    obtain ⟨i1, i2, i3, i4, i5⟩ := I
    clear hz
    go_wp2_with fail
    exact bodyPost_ret (v := .agg #[.bool s_, .slice A_ n_ c_]) (by simp [results, Try.results77, go_sem, i1, i2]) rfl P.out
set_option maxRecDepth 100000 in
/-- Scale$1. -/
theorem scale1_q {q : Bool} {r c n d k i j : Nat} {A : Option Addr} {F : Nat → Nat → Int} {g g' m e : Nat} {s : Bool} {D : Option Addr} {z : Int} {w : World} (b2 : Bx w g 28 [.bool s, .slice D m e]) (b3 : Bx w g' 24 [.int .i64 (r : Int), .int .i64 (c : Int), .slice A n d]) (ha : Mt q w r c A n d k F) (hz0 : Zv w s D m e z) (hi : i < r) (hj : j < c) (hk : k ≤ 1099511627776) (hm : m ≤ 1099511627776) : Calls Try.prog 60 #[.int .i64 (i : Int), .int .i64 (j : Int), .pointer (some ⟨g, 0, none⟩), .pointer (some ⟨g', 0, none⟩)] w (RetK (kC (z * F i j) (m + k)) w) := by
  obtain ⟨w1, hw1, b6, z1, s1⟩ := boxes1 w 28 [.bool false, .slice none 0 0]
  have HW := Lib.hid hw1
  have HZ := Lib.hid z1
  replace b2 := b2.below z1
  replace b3 := b3.below z1
  replace ha := ha.below z1
  replace hz0 := hz0.below z1
  clear hw1 z1 s1
  go_enter Try.func60, Try.ntmps60
  go_upto_region 1 with fail
  rw [HW.out]
  refine Run.start 6 ?_
  refine .ld .o (ldZ b2 0) ?_
  refine .ld .o (ldM b3 0) ?_
  refine .mv .o ?_
  refine .mv .o ?_
  refine .c3 (.i 1) (.i 2) (.i 3) (x := kV (F i j) k) (by rintro u v x w2 hB rfl rfl rfl; exact place_q (ha.below hB) hi hj) ?_
  refine .c2 (.i 0) (.i 4) (x := kC (z * F i j) (m + k)) (by rintro u v w2 hB rfl h2; exact zmul_q ⟨_, _, _, _, rfl, hz0.below hB, Nat.le_refl _⟩ h2 hm hk (Nat.le_refl _)) ?_
  refine .done [some 7, some 8, some 9, some 10, some 11, some 12] ?_
  intro w2 B2
  rintro v0 -
  rintro v ⟨s_, A_, n_, c_, rfl, hz, hk_⟩
  change Shut (wpList _ _ _ [_] _ _)
  refine ⟨?_⟩
  simp only [Act.put, List.setIfInBounds_toArray, List.set_cons_zero, List.set_cons_succ]
  have I := Ib.entry (b6.below B2)
  have P := Lib.hid (retC hz I (k := m + k) (by omega) (by omega) (zup HZ.out B2))
  obtain ⟨i1, i2, i3, i4, i5⟩ := I
  clear hz
  go_wp2_with fail
  exact bodyPost_ret (v := .agg #[.bool s_, .slice A_ n_ c_]) (by simp [results, Try.results60, go_sem, i1, i2]) rfl P.out
set_option maxRecDepth 100000 in
/-- Transpose$1. -/
theorem transpose1_q {q : Bool} {r c n d k i j : Nat} {A : Option Addr} {F : Nat → Nat → Int} {g : Nat} {w : World} (b2 : Bx w g 24 [.int .i64 (r : Int), .int .i64 (c : Int), .slice A n d]) (ha : Mt q w r c A n d k F) (hi : i < c) (hj : j < r) (hk : k ≤ 1099511627776) : Calls Try.prog 68 #[.int .i64 (i : Int), .int .i64 (j : Int), .pointer (some ⟨g, 0, none⟩)] w (RetK (kC (F j i) k) w) := by
  obtain ⟨w1, hw1, b5, z1, s1⟩ := boxes1 w 28 [.bool false, .slice none 0 0]
  have HW := Lib.hid hw1
  have HZ := Lib.hid z1
  replace b2 := b2.below z1
  replace ha := ha.below z1
  clear hw1 z1 s1
  go_enter Try.func68, Try.ntmps68
  go_upto_region 1 with fail
  rw [HW.out]
  refine Run.start 4 ?_
  refine .ld .o (ldM b2 0) ?_
  refine .mv .o ?_
  refine .mv .o ?_
  refine .c3 (.i 0) (.i 1) (.i 2) (x := kC (F j i) k) (by rintro u v x w2 hB rfl rfl rfl; exact number_q (ha.below hB) hj hi hk) ?_
  refine .donep [some 6, some 7, some 8, some 9] ?_
  intro w2 B2
  rintro v ⟨s_, A_, n_, c_, rfl, hz, hk_⟩
  change Shut (wpList _ _ _ [_] _ _)
  refine ⟨?_⟩
  simp only [Act.put, List.setIfInBounds_toArray, List.set_cons_zero, List.set_cons_succ]
  have I := Ib.entry (b5.below B2)
  have P := Lib.hid (retC hz I (k := k) (by omega) (by omega) (zup HZ.out B2))
  obtain ⟨i1, i2, i3, i4, i5⟩ := I
  clear hz
  go_wp2_with fail
  exact bodyPost_ret (v := .agg #[.bool s_, .slice A_ n_ c_]) (by simp [results, Try.results68, go_sem, i1, i2]) rfl P.out
set_option maxRecDepth 100000 in
/-- Rows$1. -/
theorem rows1_q {q : Bool} {r c n d k i j : Nat} {A : Option Addr} {F : Nat → Nat → Int} {g g' a : Nat} {w : World} (b2 : Bx w g 24 [.int .i64 (r : Int), .int .i64 (c : Int), .slice A n d]) (b3 : Bx w g' 3 [.int .i64 (a : Int)]) (ha : Mt q w r c A n d k F) (hi : a + i < r) (hj : j < c) (hk : k ≤ 1099511627776) : Calls Try.prog 75 #[.int .i64 (i : Int), .int .i64 (j : Int), .pointer (some ⟨g, 0, none⟩), .pointer (some ⟨g', 0, none⟩)] w (RetK (kC (F (a + i) j) k) w) := by
  have hr1 := ha.hr
  obtain ⟨w1, hw1, b6, z1, s1⟩ := boxes1 w 28 [.bool false, .slice none 0 0]
  have HW := Lib.hid hw1
  have HZ := Lib.hid z1
  replace b2 := b2.below z1
  replace b3 := b3.below z1
  replace ha := ha.below z1
  clear hw1 z1 s1
  go_enter Try.func75, Try.ntmps75
  go_upto_region 1 with fail
  rw [HW.out]
  refine Run.start 6 ?_
  refine .ld .o (ldM b2 0) ?_
  refine .ld .o (ldInt b3 0) ?_
  refine .mv .o ?_
  refine .two (.i 1) (.i 2) (opAddN a i (by omega)) ?_
  refine .mv .o ?_
  refine .c3 (.i 0) (.i 3) (.i 4) (x := kC (F (a + i) j) k) (by rintro u v x w2 hB rfl rfl rfl; exact number_q (ha.below hB) hi hj hk) ?_
  refine .donep [some 7, some 8, some 9, some 10, some 11, some 12] ?_
  intro w2 B2
  rintro v ⟨s_, A_, n_, c_, rfl, hz, hk_⟩
  change Shut (wpList _ _ _ [_] _ _)
  refine ⟨?_⟩
  simp only [Act.put, List.setIfInBounds_toArray, List.set_cons_zero, List.set_cons_succ]
  have I := Ib.entry (b6.below B2)
  have P := Lib.hid (retC hz I (k := k) (by omega) (by omega) (zup HZ.out B2))
  obtain ⟨i1, i2, i3, i4, i5⟩ := I
  clear hz
  go_wp2_with fail
  exact bodyPost_ret (v := .agg #[.bool s_, .slice A_ n_ c_]) (by simp [results, Try.results75, go_sem, i1, i2]) rfl P.out
set_option maxRecDepth 100000 in
/-- NegRow$1. -/
theorem negrow1_q {q : Bool} {r c n d k i j : Nat} {A : Option Addr} {F : Nat → Nat → Int} {g g' a : Nat} {w : World} (b2 : Bx w g 3 [.int .i64 (a : Int)]) (b3 : Bx w g' 24 [.int .i64 (r : Int), .int .i64 (c : Int), .slice A n d]) (ha : Mt q w r c A n d k F) (hi : i < r) (hj : j < c) (hk : k ≤ 1099511627776) : Calls Try.prog 111 #[.int .i64 (i : Int), .int .i64 (j : Int), .pointer (some ⟨g, 0, none⟩), .pointer (some ⟨g', 0, none⟩)] w (RetK (kC (if i = a then -F i j else F i j) k) w) := by
  obtain ⟨z, hz1⟩ : ∃ z : Int, (if i = a then -F i j else F i j) = z := ⟨_, rfl⟩
  have Hz := Lib.hid hz1
  rw [hz1]
  clear hz1
  obtain ⟨w1, hw1, b6, z1, s1⟩ := boxes1 w 28 [.bool false, .slice none 0 0]
  have HW := Lib.hid hw1
  have HZ := Lib.hid z1
  replace b2 := b2.below z1
  replace b3 := b3.below z1
  replace ha := ha.below z1
  clear hw1 z1 s1
  go_enter Try.func111, Try.ntmps111
  go_upto_region 1 with fail
  rw [HW.out]
  by_cases ht : i = a
  · have u1 : (i : Int) = (a : Int) := by omega
    have ez := Hz.out
    rw [if_pos ht] at ez
    clear Hz
    refine Run.start 3 ?_
    refine .mv .o ?_
    refine .ld .o (ldInt b2 0) ?_
    refine .two (.i 0) (.i 1) (opNe (decide_eq_false (by omega : ¬ ((i : Int) ≠ (a : Int))))) ?_
    refine .donep [some 7, some 8, some 9] ?_
    intro w2 B2
    change Shut (wpList _ _ _ [] _ _)
    refine ⟨?_⟩
    simp only [Act.put, List.setIfInBounds_toArray, List.set_cons_zero, List.set_cons_succ]
    replace ha := ha.below B2
    replace b2 := b2.below B2
    replace b3 := b3.below B2
    replace b6 := b6.below B2
    have HZ2 := Lib.hid (zup HZ.out B2)
    clear B2 HZ
    subst ht
    go_upto_region 3 with fail
    refine Run.start 5 ?_
    refine .ld .o (ldM b3 0) ?_
    refine .ld .o (ldInt b2 0) ?_
    refine .mv .o ?_
    refine .c3 (.i 0) (.i 1) (.i 2) (x := kV (F i j) k) (by rintro u v x w2 hB rfl rfl rfl; exact place_q (ha.below hB) hi hj) ?_
    refine .c1 (.i 3) (x := kC z k) (by intro u w3 hB h2; rw [← ez]; exact zneg_q h2 hk) ?_
    refine .donep [some 14, some 15, some 16, some 17, some 18] ?_
    intro w3 B3
    rintro v0 -
    rintro v ⟨s_, A_, n_, c_, rfl, hz, hk_⟩
    change Shut (wpList _ _ _ [_] _ _)
    refine ⟨?_⟩
    simp only [Act.put, List.setIfInBounds_toArray, List.set_cons_zero, List.set_cons_succ]
    have I := Ib.entry (b6.below B3)
    have P := Lib.hid (retC hz I (k := k) (by omega) (by omega) (zup HZ2.out B3))
    obtain ⟨i1, i2, i3, i4, i5⟩ := I
    clear hz
    go_wp2_with fail
    exact bodyPost_ret (v := .agg #[.bool s_, .slice A_ n_ c_]) (by simp [results, Try.results111, go_sem, i1, i2]) rfl P.out
  · have u1 : ¬ (i : Int) = (a : Int) := by omega
    have ez := Hz.out
    rw [if_neg ht] at ez
    clear Hz
    refine Run.start 3 ?_
    refine .mv .o ?_
    refine .ld .o (ldInt b2 0) ?_
    refine .two (.i 0) (.i 1) (opNe (decide_eq_true (by omega : (i : Int) ≠ (a : Int)))) ?_
    refine .donep [some 7, some 8, some 9] ?_
    intro w2 B2
    change Shut (wpList _ _ _ [] _ _)
    refine ⟨?_⟩
    simp only [Act.put, List.setIfInBounds_toArray, List.set_cons_zero, List.set_cons_succ]
    replace ha := ha.below B2
    replace b2 := b2.below B2
    replace b3 := b3.below B2
    replace b6 := b6.below B2
    have HZ2 := Lib.hid (zup HZ.out B2)
    clear B2 HZ
    go_upto_region 2 with fail
    refine Run.start 4 ?_
    refine .ld .o (ldM b3 0) ?_
    refine .mv .o ?_
    refine .mv .o ?_
    refine .c3 (.i 0) (.i 1) (.i 2) (x := kC z k) (by rintro u v x w3 hB rfl rfl rfl; rw [← ez]; exact number_q (ha.below hB) hi hj hk) ?_
    refine .donep [some 10, some 11, some 12, some 13] ?_
    intro w3 B3
    rintro v ⟨s_, A_, n_, c_, rfl, hz, hk_⟩
    change Shut (wpList _ _ _ [_] _ _)
    refine ⟨?_⟩
    simp only [Act.put, List.setIfInBounds_toArray, List.set_cons_zero, List.set_cons_succ]
    have I := Ib.entry (b6.below B3)
    have P := Lib.hid (retC hz I (k := k) (by omega) (by omega) (zup HZ2.out B3))
    obtain ⟨i1, i2, i3, i4, i5⟩ := I
    clear hz
    go_wp2_with fail
    exact bodyPost_ret (v := .agg #[.bool s_, .slice A_ n_ c_]) (by simp [results, Try.results111, go_sem, i1, i2]) rfl P.out
set_option maxRecDepth 100000 in
/-- AddRow$1. -/
theorem addrow1_q {q : Bool} {r c n d k i j : Nat} {A : Option Addr} {F : Nat → Nat → Int} {g g' g2 g3 a p m e : Nat} {s : Bool} {D : Option Addr} {y : Int} {w : World} (b2 : Bx w g 3 [.int .i64 (a : Int)]) (b3 : Bx w g' 24 [.int .i64 (r : Int), .int .i64 (c : Int), .slice A n d]) (b4 : Bx w g2 28 [.bool s, .slice D m e]) (b5 : Bx w g3 3 [.int .i64 (p : Int)]) (ha : Mt q w r c A n d k F) (hz0 : Zv w s D m e y) (hi : i < r) (hp : p < r) (hj : j < c) (hk : m + k ≤ 549755813888) : Calls Try.prog 110 #[.int .i64 (i : Int), .int .i64 (j : Int), .pointer (some ⟨g, 0, none⟩), .pointer (some ⟨g', 0, none⟩), .pointer (some ⟨g2, 0, none⟩), .pointer (some ⟨g3, 0, none⟩)] w (RetK (kC (if i = a then F i j + y * F p j else F i j) (m + k + 1)) w) := by
  obtain ⟨z, hz1⟩ : ∃ z : Int, (if i = a then F i j + y * F p j else F i j) = z := ⟨_, rfl⟩
  have Hz := Lib.hid hz1
  rw [hz1]
  clear hz1
  obtain ⟨w1, hw1, b8, z1, s1⟩ := boxes1 w 28 [.bool false, .slice none 0 0]
  have HW := Lib.hid hw1
  have HZ := Lib.hid z1
  replace b2 := b2.below z1
  replace b3 := b3.below z1
  replace b4 := b4.below z1
  replace b5 := b5.below z1
  replace ha := ha.below z1
  replace hz0 := hz0.below z1
  clear hw1 z1 s1
  go_enter Try.func110, Try.ntmps110
  go_upto_region 1 with fail
  rw [HW.out]
  by_cases ht : i = a
  · have u1 : (i : Int) = (a : Int) := by omega
    have ez := Hz.out
    rw [if_pos ht] at ez
    clear Hz
    refine Run.start 3 ?_
    refine .mv .o ?_
    refine .ld .o (ldInt b2 0) ?_
    refine .two (.i 0) (.i 1) (opNe (decide_eq_false (by omega : ¬ ((i : Int) ≠ (a : Int))))) ?_
    refine .donep [some 9, some 10, some 11] ?_
    intro w2 B2
    change Shut (wpList _ _ _ [] _ _)
    refine ⟨?_⟩
    simp only [Act.put, List.setIfInBounds_toArray, List.set_cons_zero, List.set_cons_succ]
    replace ha := ha.below B2
    replace hz0 := hz0.below B2
    replace b2 := b2.below B2
    replace b3 := b3.below B2
    replace b4 := b4.below B2
    replace b5 := b5.below B2
    replace b8 := b8.below B2
    have HZ2 := Lib.hid (zup HZ.out B2)
    clear B2 HZ
    subst ht
    go_upto_region 3 with fail
    refine Run.start 11 ?_
    refine .ld .o (ldM b3 0) ?_
    refine .ld .o (ldInt b2 0) ?_
    refine .mv .o ?_
    refine .c3 (.i 0) (.i 1) (.i 2) (x := kV (F i j) k) (by rintro u v x w2 hB rfl rfl rfl; exact place_q (ha.below hB) hi hj) ?_
    refine .ld .o (ldZ b4 0) ?_
    refine .ld .o (ldM b3 0) ?_
    refine .ld .o (ldInt b5 0) ?_
    refine .mv .o ?_
    refine .c3 (.i 5) (.i 6) (.i 7) (x := kV (F p j) k) (by rintro u v x w2 hB rfl rfl rfl; exact place_q (ha.below hB) hp hj) ?_
    refine .c2 (.i 4) (.i 8) (x := kC (y * F p j) (m + k)) (by rintro u v w2 hB rfl h2; exact zmul_q ⟨_, _, _, _, rfl, hz0.below hB, Nat.le_refl _⟩ h2 (by omega) (by omega) (Nat.le_refl _)) ?_
    refine .c2 (.i 3) (.i 9) (x := kC z (m + k + 1)) (by intro u v w3 hB h1 h2; rw [← ez]; exact zadd_q h1 h2.v (by omega) (by omega) (by omega)) ?_
    refine .done [some 16, some 17, some 18, some 19, some 20, some 21, some 22, some 23, some 24, some 25, some 26] ?_
    intro w3 B3
    rintro v0 -
    rintro v1 -
    rintro v2 -
    rintro v ⟨s_, A_, n_, c_, rfl, hz, hk_⟩
    change Shut (wpList _ _ _ [_] _ _)
    refine ⟨?_⟩
    simp only [Act.put, List.setIfInBounds_toArray, List.set_cons_zero, List.set_cons_succ]
    have I := Ib.entry (b8.below B3)
    have P := Lib.hid (retC hz I (k := m + k + 1) (by omega) (by omega) (zup HZ2.out B3))
    obtain ⟨i1, i2, i3, i4, i5⟩ := I
    clear hz
    go_wp2_with fail
    exact bodyPost_ret (v := .agg #[.bool s_, .slice A_ n_ c_]) (by simp [results, Try.results110, go_sem, i1, i2]) rfl P.out
  · have u1 : ¬ (i : Int) = (a : Int) := by omega
    have ez := Hz.out
    rw [if_neg ht] at ez
    clear Hz
    refine Run.start 3 ?_
    refine .mv .o ?_
    refine .ld .o (ldInt b2 0) ?_
    refine .two (.i 0) (.i 1) (opNe (decide_eq_true (by omega : (i : Int) ≠ (a : Int)))) ?_
    refine .donep [some 9, some 10, some 11] ?_
    intro w2 B2
    change Shut (wpList _ _ _ [] _ _)
    refine ⟨?_⟩
    simp only [Act.put, List.setIfInBounds_toArray, List.set_cons_zero, List.set_cons_succ]
    replace ha := ha.below B2
    replace hz0 := hz0.below B2
    replace b2 := b2.below B2
    replace b3 := b3.below B2
    replace b4 := b4.below B2
    replace b5 := b5.below B2
    replace b8 := b8.below B2
    have HZ2 := Lib.hid (zup HZ.out B2)
    clear B2 HZ
    go_upto_region 2 with fail
    refine Run.start 4 ?_
    refine .ld .o (ldM b3 0) ?_
    refine .mv .o ?_
    refine .mv .o ?_
    refine .c3 (.i 0) (.i 1) (.i 2) (x := kC z (m + k + 1)) (by rintro u v x w3 hB rfl rfl rfl; rw [← ez]; exact (number_q (ha.below hB) hi hj (by omega)).mono fun e w' h => h.mono fun v w ⟨s, A, n, c, e, h1, h2⟩ => ⟨s, A, n, c, e, h1, by omega⟩) ?_
    refine .donep [some 12, some 13, some 14, some 15] ?_
    intro w3 B3
    rintro v ⟨s_, A_, n_, c_, rfl, hz, hk_⟩
    change Shut (wpList _ _ _ [_] _ _)
    refine ⟨?_⟩
    simp only [Act.put, List.setIfInBounds_toArray, List.set_cons_zero, List.set_cons_succ]
    have I := Ib.entry (b8.below B3)
    have P := Lib.hid (retC hz I (k := m + k + 1) (by omega) (by omega) (zup HZ2.out B3))
    obtain ⟨i1, i2, i3, i4, i5⟩ := I
    clear hz
    go_wp2_with fail
    exact bodyPost_ret (v := .agg #[.bool s_, .slice A_ n_ c_]) (by simp [results, Try.results110, go_sem, i1, i2]) rfl P.out
set_option maxRecDepth 100000 in
/-- SwapRows$1. -/
theorem swaprows1_q {q : Bool} {r c n d k i j : Nat} {A : Option Addr} {F : Nat → Nat → Int} {g g' g2 a p : Nat} {w : World} (b2 : Bx w g 3 [.int .i64 (a : Int)]) (b3 : Bx w g' 3 [.int .i64 (p : Int)]) (b4 : Bx w g2 24 [.int .i64 (r : Int), .int .i64 (c : Int), .slice A n d]) (ha : Mt q w r c A n d k F) (hi : i < r) (hai : a < r) (hp : p < r) (hj : j < c) (hk : k ≤ 1099511627776) : Calls Try.prog 109 #[.int .i64 (i : Int), .int .i64 (j : Int), .pointer (some ⟨g, 0, none⟩), .pointer (some ⟨g', 0, none⟩), .pointer (some ⟨g2, 0, none⟩)] w (RetK (kC (if i = a then F p j else if i = p then F a j else F i j) k) w) := by
  obtain ⟨z, hz1⟩ : ∃ z : Int, (if i = a then F p j else if i = p then F a j else F i j) = z := ⟨_, rfl⟩
  have Hz := Lib.hid hz1
  rw [hz1]
  clear hz1
  obtain ⟨w1, hw1, b7, z1, s1⟩ := boxes1 w 28 [.bool false, .slice none 0 0]
  have HW := Lib.hid hw1
  have HZ := Lib.hid z1
  replace b2 := b2.below z1
  replace b3 := b3.below z1
  replace b4 := b4.below z1
  replace ha := ha.below z1
  clear hw1 z1 s1
  go_enter Try.func109, Try.ntmps109
  go_upto_region 1 with fail
  rw [HW.out]
  have c2 := b2.cell 0
  have c3 := b3.cell 0
  simp only [List.getElem?_cons_zero] at c2 c3
  by_cases ht : i = a
  · have u1 : (i : Int) = (a : Int) := by omega
    have ez := Hz.out
    rw [if_pos ht] at ez
    clear Hz
    subst ht
    go_upto_region 6 with fail
    clear c2 c3
    refine Run.start 4 ?_
    refine .ld .o (ldM b4 0) ?_
    refine .mv .o ?_
    refine .mv .o ?_
    refine .c3 (.i 0) (.i 1) (.i 2) (x := kC z k) (by rintro u v x w3 hB rfl rfl rfl; rw [← ez]; exact number_q (ha.below hB) hp hj hk) ?_
    refine .donep [some 17, some 18, some 19, some 20] ?_
    intro w2 B2
    rintro v ⟨s_, A_, n_, c_, rfl, hz, hk_⟩
    change Shut (wpList _ _ _ [_] _ _)
    refine ⟨?_⟩
    simp only [Act.put, List.setIfInBounds_toArray, List.set_cons_zero, List.set_cons_succ]
    have I := Ib.entry (b7.below B2)
    have P := Lib.hid (retC hz I (k := k) (by omega) (by omega) (zup HZ.out B2))
    obtain ⟨i1, i2, i3, i4, i5⟩ := I
    clear hz
    go_wp2_with fail
    exact bodyPost_ret (v := .agg #[.bool s_, .slice A_ n_ c_]) (by simp [results, Try.results109, go_sem, i1, i2]) rfl P.out
  · have u1 : ¬ (i : Int) = (a : Int) := by omega
    have ez := Hz.out
    rw [if_neg ht] at ez
    clear Hz
    by_cases ht2 : i = p
    · have u2 : (i : Int) = (p : Int) := by omega
      rw [if_pos ht2] at ez
      skip
      go_upto_region 6 with fail
      clear c2 c3
      refine Run.start 4 ?_
      refine .ld .o (ldM b4 0) ?_
      refine .mv .o ?_
      refine .mv .o ?_
      refine .c3 (.i 0) (.i 1) (.i 2) (x := kC z k) (by rintro u v x w3 hB rfl rfl rfl; rw [← ez]; exact number_q (ha.below hB) hai hj hk) ?_
      refine .donep [some 17, some 18, some 19, some 20] ?_
      intro w2 B2
      rintro v ⟨s_, A_, n_, c_, rfl, hz, hk_⟩
      change Shut (wpList _ _ _ [_] _ _)
      refine ⟨?_⟩
      simp only [Act.put, List.setIfInBounds_toArray, List.set_cons_zero, List.set_cons_succ]
      have I := Ib.entry (b7.below B2)
      have P := Lib.hid (retC hz I (k := k) (by omega) (by omega) (zup HZ.out B2))
      obtain ⟨i1, i2, i3, i4, i5⟩ := I
      clear hz
      go_wp2_with fail
      exact bodyPost_ret (v := .agg #[.bool s_, .slice A_ n_ c_]) (by simp [results, Try.results109, go_sem, i1, i2]) rfl P.out
    · have u2 : ¬ (i : Int) = (p : Int) := by omega
      rw [if_neg ht2] at ez
      skip
      go_upto_region 6 with fail
      clear c2 c3
      refine Run.start 4 ?_
      refine .ld .o (ldM b4 0) ?_
      refine .mv .o ?_
      refine .mv .o ?_
      refine .c3 (.i 0) (.i 1) (.i 2) (x := kC z k) (by rintro u v x w3 hB rfl rfl rfl; rw [← ez]; exact number_q (ha.below hB) hi hj hk) ?_
      refine .donep [some 17, some 18, some 19, some 20] ?_
      intro w2 B2
      rintro v ⟨s_, A_, n_, c_, rfl, hz, hk_⟩
      change Shut (wpList _ _ _ [_] _ _)
      refine ⟨?_⟩
      simp only [Act.put, List.setIfInBounds_toArray, List.set_cons_zero, List.set_cons_succ]
      have I := Ib.entry (b7.below B2)
      have P := Lib.hid (retC hz I (k := k) (by omega) (by omega) (zup HZ.out B2))
      obtain ⟨i1, i2, i3, i4, i5⟩ := I
      clear hz
      go_wp2_with fail
      exact bodyPost_ret (v := .agg #[.bool s_, .slice A_ n_ c_]) (by simp [results, Try.results109, go_sem, i1, i2]) rfl P.out
end Go.Proofs.Ytcdkdanfiimlkaa
