/-
  Package zmat: alike, Add, Sub, Mul, Scale, Transpose.
-/
import Derived.Test.YtcdkdanfiimlkaaMtG
/-! Contracts: sums, products, transposes. -/
namespace Go.Proofs.Ytcdkdanfiimlkaa
open Go.RowKit
set_option linter.unusedVariables false
set_option linter.unusedSimpArgs false

theorem Bx.m3 {w : World} {g : Nat} {T : TypeId} {x y z : Value} (b : Bx w g T [x, y, z]) : w.cell? ⟨g, 0, none⟩ = some x ∧ w.cell? ⟨g, 1, none⟩ = some y ∧ w.cell? ⟨g, 2, none⟩ = some z ∧ w.frozen? ⟨g, 0, none⟩ = false ∧ w.frozen? ⟨g, 1, none⟩ = false ∧ w.frozen? ⟨g, 2, none⟩ = false ∧ g < w.heap.size := ⟨b.cell 0, b.cell 1, b.cell 2, b.free 0, b.free 1, b.free 2, b.lt⟩
theorem retNo {w w2 : World} {B : Option Addr} {g m e' : Nat} {x y e : Int} (b : Bx w2 g 24 [.int .i64 x, .int .i64 y, .slice B m e']) (hg : w.heap.size ≤ g) (hB : Below w.heap.size w w2) :
    RetK (noM e) w (.returned (.tuple #[.agg #[.int .i64 0, .int .i64 0, .slice none 0 0], .int .i64 e])) (mput w2 g 0 0 none 0 0) := ⟨_, rfl, rfl, below_mput hB hg⟩
theorem exK {vs : Array Value} {u : Value} {j : Nat} (h : vs[j]? = some u) : ∀ v w, (FK.k (.tuple vs)).F v w → ∃ vs : Array Value, ∃ u', v = .tuple vs ∧ vs[j]? = some u' ∧ (FK.k u).F u' w := fun v w e => ⟨vs, u, e, h, rfl⟩
theorem argsM (p i j : Value) : #[p] ++ #[i, j] ++ #[] = #[p, i, j] := rfl
theorem argsF (i j : Value) : #[] ++ #[i, j] ++ #[] = #[i, j] := rfl
theorem argsC1 (i j a : Value) : #[] ++ #[i, j] ++ #[a] = #[i, j, a] := rfl
theorem argsC2 (i j a b : Value) : #[] ++ #[i, j] ++ #[a, b] = #[i, j, a, b] := rfl
theorem argsC3 (i j a b c : Value) : #[] ++ #[i, j] ++ #[a, b, c] = #[i, j, a, b, c] := rfl
theorem argsC4 (i j a b c d : Value) : #[] ++ #[i, j] ++ #[a, b, c, d] = #[i, j, a, b, c, d] := rfl
set_option maxRecDepth 100000 in
/-- pair.alike, of two matrices of the same sides. -/
theorem alike_yes {q q' : Bool} {r c n d k n' d' k' K : Nat} {A A' : Option Addr} {F G H : Nat → Nat → Int} {f : FuncId} {first captured : Array Value} {w : World} (ha : Mt q w r c A n d k F) (hb : Mt q' w r c A' n' d' k' G) (hgo : goes f = true)
    (hF : ∀ i j W, i < r → j < c → Below w.heap.size w W → Calls Try.prog f (first ++ #[.int .i64 (i : Int), .int .i64 (j : Int)] ++ captured) W (RetK (kC (H i j) K) W)) : Calls Try.prog 55 #[.agg #[.int .i64 (r : Int), .int .i64 (c : Int), .slice A n d, .int .i64 (r : Int), .int .i64 (c : Int), .slice A' n' d'], .func (.func f) first captured] w (RetK (kT (kM true r c (K) (H)) (.k (.int .i64 0))) w) := by
  have h1 := ha.fmd
  have h2 := hb.fmd
  have h3 := ha.hr
  have h4 := ha.hc
  have HF := Lib.hid hF
  clear ha hb hF
  obtain ⟨w1, hw1, b2, b4, z1, s1⟩ := boxes2 w 72 24 [.int .i64 (r : Int), .int .i64 (c : Int), .slice A n d, .int .i64 (r : Int), .int .i64 (c : Int), .slice A' n' d'] [.int .i64 0, .int .i64 0, .slice none 0 0]
  have HW := Lib.hid hw1
  have HZ := Lib.hid z1
  have h1_ := Lib.hid h1
  have h2_ := Lib.hid h2
  clear hw1 z1 h1 h2 s1
  go_enter Try.func55, Try.ntmps55
  go_upto_region 1 with fail
  rw [HW.out]
  refine Run.start 11 ?_
  refine .ld .o (ldP b2) ?_
  refine .c1 (.i 0) (x := .k (.bool true)) (by rintro u w2 hB rfl; exact pformed_q (by rw [h1_.out, h2_.out]; rfl) w2) ?_
  refine .nt (.i 1) ?_
  refine .mv (.i 2) ?_
  refine .fa .o (fP0 0) ?_
  refine .ld (.i 4) (ldM b2 0) ?_
  refine .fa .o (fP1 3) ?_
  refine .ld (.i 6) (ldM b2 3) ?_
  refine .c2 (.i 5) (.i 7) (x := .k (.bool true)) (by rintro u v w2 hB rfl rfl; exact sides_q (by simp) w2) ?_
  refine .nt (.i 8) ?_
  refine .pk (.i 3) (.i 9) false ?_
  refine .donep [some 6, some 7, some 8, some 9, some 10, some 11, some 12, some 13, some 14, some 15, some 16] ?_
  intro w2 B2
  change Shut (wpList _ _ _ [] _ _)
  refine ⟨?_⟩
  simp only [Act.put, List.setIfInBounds_toArray, List.set_cons_zero, List.set_cons_succ]
  replace b2 := b2.below B2
  replace b4 := b4.below B2
  have HZ2 := Lib.hid (zup HZ.out B2)
  clear B2 HZ
  go_upto_region 3 with fail
  refine Run.start 8 ?_
  refine .fa .o (fP0 0) ?_
  refine .fa (.i 0) (fM0 0) ?_
  refine .ld (.i 1) (ldInt b2 0) ?_
  refine .fa .o (fP0 0) ?_
  refine .fa (.i 3) (fM1 1) ?_
  refine .ld (.i 4) (ldInt b2 1) ?_
  refine .mv .o ?_
  refine .c3 (.i 2) (.i 5) (.i 6) (x := kM true r c K H) (by rintro u v x w3 hB rfl rfl rfl; exact form_q h3 h4 hgo (fun i j W hi hj hW => HF.out i j W hi hj (zup (zup HZ2.out hB) hW))) ?_
  refine .donep [some 18, some 19, some 20, some 21, some 22, some 23, some 24, some 25] ?_
  intro w3 B3
  rintro v ⟨A_, n_, d_, rfl, hM⟩
  change Shut (wpList _ _ _ [_, _] _ _)
  refine ⟨?_⟩
  simp only [Act.put, List.setIfInBounds_toArray, List.set_cons_zero, List.set_cons_succ]
  have P := Lib.hid (retME hM (b4.below B3) (by omega) (zup HZ2.out B3))
  unfold mput at P
  obtain ⟨i0, i1, i2, i3, i4, i5, i6⟩ := (b4.below B3).m3
  clear hM
  go_wp2_with fail
  exact bodyPost_ret (v := .tuple #[.agg #[.int .i64 (r : Int), .int .i64 (c : Int), .slice A_ n_ d_], .int .i64 0]) (by simp [results, Try.results55, go_sem, i0, i1, i2]) rfl P.out
set_option maxRecDepth 100000 in
/-- pair.alike, of others. -/
theorem alike_no {r c r' c' : Int} {A A' : Option Addr} {n d n' d' : Nat} {g : Value} {w : World} (h : (fmd r c n && fmd r' c' n' && (decide (r = r') && decide (c = c'))) = false) : Calls Try.prog 55 #[.agg #[.int .i64 r, .int .i64 c, .slice A n d, .int .i64 r', .int .i64 c', .slice A' n' d'], g] w (RetK (noM 2) w) := by
  obtain ⟨t1, h1⟩ : ∃ t, (fmd r c n && fmd r' c' n') = t := ⟨_, rfl⟩
  obtain ⟨t2, h2⟩ : ∃ t, (decide (r = r') && decide (c = c')) = t := ⟨_, rfl⟩
  rw [h1, h2] at h
  have h_ := Lib.hid h
  clear h
  obtain ⟨w1, hw1, b2, b4, z1, s1⟩ := boxes2 w 72 24 [.int .i64 r, .int .i64 c, .slice A n d, .int .i64 r', .int .i64 c', .slice A' n' d'] [.int .i64 0, .int .i64 0, .slice none 0 0]
  have HW := Lib.hid hw1
  have HZ := Lib.hid z1
  have h1_ := Lib.hid h1
  have h2_ := Lib.hid h2
  clear hw1 z1 h1 h2 s1
  go_enter Try.func55, Try.ntmps55
  go_upto_region 1 with fail
  rw [HW.out]
  cases t1
  · refine Run.start 11 ?_
    refine .ld .o (ldP b2) ?_
    refine .c1 (.i 0) (x := .k (.bool false)) (by rintro u w2 hB rfl; exact pformed_q h1_.out w2) ?_
    refine .nf (.i 1) ?_
    refine .mv (.i 2) ?_
    refine .no ?_
    refine .no ?_
    refine .no ?_
    refine .no ?_
    refine .no ?_
    refine .no ?_
    refine .pk (.i 3) .o true ?_
    refine .donep [some 6, some 7, some 8, some 9, some 10, some 11, some 12, some 13, some 14, some 15, some 16] ?_
    intro w2 B2
    change Shut (wpList _ _ _ [] _ _)
    refine ⟨?_⟩
    simp only [Act.put, List.setIfInBounds_toArray, List.set_cons_zero, List.set_cons_succ]
    have P := Lib.hid (retNo (e := 2) (b4.below B2) (by omega) (zup HZ.out B2))
    unfold mput at P
    obtain ⟨i0, i1, i2, i3, i4, i5, i6⟩ := (b4.below B2).m3
    go_wp2_with fail
    exact bodyPost_ret (v := .tuple #[.agg #[.int .i64 0, .int .i64 0, .slice none 0 0], .int .i64 2]) (by simp [results, Try.results55, go_sem, i0, i1, i2]) rfl P.out
  · cases t2
    case true => exact absurd h_.out (by simp)
    case false =>
      refine Run.start 11 ?_
      refine .ld .o (ldP b2) ?_
      refine .c1 (.i 0) (x := .k (.bool true)) (by rintro u w2 hB rfl; exact pformed_q h1_.out w2) ?_
      refine .nt (.i 1) ?_
      refine .mv (.i 2) ?_
      refine .fa .o (fP0 0) ?_
      refine .ld (.i 4) (ldM b2 0) ?_
      refine .fa .o (fP1 3) ?_
      refine .ld (.i 6) (ldM b2 3) ?_
      refine .c2 (.i 5) (.i 7) (x := .k (.bool false)) (by rintro u v w2 hB rfl rfl; exact sides_q h2_.out w2) ?_
      refine .nf (.i 8) ?_
      refine .pk (.i 3) (.i 9) false ?_
      refine .donep [some 6, some 7, some 8, some 9, some 10, some 11, some 12, some 13, some 14, some 15, some 16] ?_
      intro w2 B2
      change Shut (wpList _ _ _ [] _ _)
      refine ⟨?_⟩
      simp only [Act.put, List.setIfInBounds_toArray, List.set_cons_zero, List.set_cons_succ]
      have P := Lib.hid (retNo (e := 2) (b4.below B2) (by omega) (zup HZ.out B2))
      unfold mput at P
      obtain ⟨i0, i1, i2, i3, i4, i5, i6⟩ := (b4.below B2).m3
      go_wp2_with fail
      exact bodyPost_ret (v := .tuple #[.agg #[.int .i64 0, .int .i64 0, .slice none 0 0], .int .i64 2]) (by simp [results, Try.results55, go_sem, i0, i1, i2]) rfl P.out
set_option maxRecDepth 100000 in
/-- Add, of two matrices of the same sides. -/
theorem madd_yes {q q' : Bool} {r c n d k n' d' k' : Nat} {A A' : Option Addr} {F G : Nat → Nat → Int} {w : World} (ha : Mt q w r c A n d k F) (hb : Mt q' w r c A' n' d' k' G) (hk : k ≤ 1099511627776) (hk' : k' ≤ 1099511627776) : Calls Try.prog 15 #[.agg #[.int .i64 (r : Int), .int .i64 (c : Int), .slice A n d], .agg #[.int .i64 (r : Int), .int .i64 (c : Int), .slice A' n' d']] w (RetK (kT (kM true r c (max k k' + 1) (fun i j => F i j + G i j)) (.k (.int .i64 0))) w) := by
  obtain ⟨w1, hw1, b2, b3, b4, z1, s1⟩ := boxes3 w 24 24 24 [.int .i64 (r : Int), .int .i64 (c : Int), .slice A n d] [.int .i64 (r : Int), .int .i64 (c : Int), .slice A' n' d'] [.int .i64 0, .int .i64 0, .slice none 0 0]
  have HW := Lib.hid hw1
  have HZ := Lib.hid z1
  clear hw1 z1
  go_enter Try.func15, Try.ntmps15
  go_upto_region 1 with fail
  rw [HW.out]
  obtain ⟨w2, hw2, b6, z2, s2⟩ := boxes1 w1 72 [.int .i64 (r : Int), .int .i64 (c : Int), .slice A n d, .int .i64 (r : Int), .int .i64 (c : Int), .slice A' n' d']
  rw [s1] at b6
  have HW2 := Lib.hid hw2
  clear hw2 s2
  obtain ⟨i0, i1, i2, i3, i4, i5, i6⟩ := b2.m3
  obtain ⟨j0, j1, j2, j3, j4, j5, j6⟩ := b3.m3
  go_upto_region 2 with fail
  rw [HW2.out]
  clear i0 i1 i2 i3 i4 i5 i6 j0 j1 j2 j3 j4 j5 j6 HW2 HW s1
  replace b2 := b2.below z2
  replace b3 := b3.below z2
  replace b4 := b4.below z2
  have HZ2 := Lib.hid (zup HZ.out z2)
  clear z2 HZ
  refine Run.start 6 ?_
  refine .ld .o (ldP b6) ?_
  refine .ld .o (ldP b6) ?_
  refine .fn [(.i 1)] [] [_] [] (⟨rfl, trivial⟩) (trivial) ?_
  refine .c2 (.i 0) (.i 2) (x := kT (kM true r c (max k k' + 1) (fun i j => F i j + G i j)) (.k (.int .i64 0))) (by rintro u v w4 hB rfl rfl; exact alike_yes (ha.below (zup HZ2.out hB)) (hb.below (zup HZ2.out hB)) (by kernel_rfl) (fun i j W hi hj hW => by rw [argsM]; exact psum_q (ha.below (zup (zup HZ2.out hB) hW)) (hb.below (zup (zup HZ2.out hB) hW)) hi hj hi hj hk hk')) ?_
  refine .ex (.i 3) 0 kT_0 ?_
  refine .ex (.i 3) 1 kT_1 ?_
  refine .donep [some 10, some 11, some 12, some 13, some 14, some 15] ?_
  intro w3 B3
  rintro v0 -
  rintro v ⟨A_, n_, d_, rfl, hM⟩
  change Shut (wpList _ _ _ [_, _] _ _)
  refine ⟨?_⟩
  simp only [Act.put, List.setIfInBounds_toArray, List.set_cons_zero, List.set_cons_succ]
  have P := Lib.hid (retME hM (b4.below B3) (by omega) (zup HZ2.out B3))
  unfold mput at P
  obtain ⟨i0, i1, i2, i3, i4, i5, i6⟩ := (b4.below B3).m3
  clear hM
  go_wp2_with fail
  exact bodyPost_ret (v := .tuple #[.agg #[.int .i64 (r : Int), .int .i64 (c : Int), .slice A_ n_ d_], .int .i64 0]) (by simp [results, Try.results15, go_sem, i0, i1, i2]) rfl P.out
set_option maxRecDepth 100000 in
/-- Add, of others. -/
theorem madd_no {r c r' c' : Int} {A A' : Option Addr} {n d n' d' : Nat} {w : World} (h : (fmd r c n && fmd r' c' n' && (decide (r = r') && decide (c = c'))) = false) : Calls Try.prog 15 #[.agg #[.int .i64 r, .int .i64 c, .slice A n d], .agg #[.int .i64 r', .int .i64 c', .slice A' n' d']] w (RetK (noM 2) w) := by
  obtain ⟨w1, hw1, b2, b3, b4, z1, s1⟩ := boxes3 w 24 24 24 [.int .i64 r, .int .i64 c, .slice A n d] [.int .i64 r', .int .i64 c', .slice A' n' d'] [.int .i64 0, .int .i64 0, .slice none 0 0]
  have HW := Lib.hid hw1
  have HZ := Lib.hid z1
  have h_ := Lib.hid h
  clear hw1 z1 h
  go_enter Try.func15, Try.ntmps15
  go_upto_region 1 with fail
  rw [HW.out]
  obtain ⟨w2, hw2, b6, z2, s2⟩ := boxes1 w1 72 [.int .i64 r, .int .i64 c, .slice A n d, .int .i64 r', .int .i64 c', .slice A' n' d']
  rw [s1] at b6
  have HW2 := Lib.hid hw2
  clear hw2 s2
  obtain ⟨i0, i1, i2, i3, i4, i5, i6⟩ := b2.m3
  obtain ⟨j0, j1, j2, j3, j4, j5, j6⟩ := b3.m3
  go_upto_region 2 with fail
  rw [HW2.out]
  clear i0 i1 i2 i3 i4 i5 i6 j0 j1 j2 j3 j4 j5 j6 HW2 HW s1
  replace b2 := b2.below z2
  replace b3 := b3.below z2
  replace b4 := b4.below z2
  have HZ2 := Lib.hid (zup HZ.out z2)
  clear z2 HZ
  refine Run.start 6 ?_
  refine .ld .o (ldP b6) ?_
  refine .ld .o (ldP b6) ?_
  refine .fn [(.i 1)] [] [_] [] (⟨rfl, trivial⟩) (trivial) ?_
  refine .c2 (.i 0) (.i 2) (x := noM 2) (by rintro u v w4 hB rfl rfl; exact alike_no h_.out) ?_
  refine .ex (.i 3) 0 (exK rfl) ?_
  refine .ex (.i 3) 1 (exK rfl) ?_
  refine .donep [some 10, some 11, some 12, some 13, some 14, some 15] ?_
  intro w3 B3
  change Shut (wpList _ _ _ [_, _] _ _)
  refine ⟨?_⟩
  simp only [Act.put, List.setIfInBounds_toArray, List.set_cons_zero, List.set_cons_succ]
  have P := Lib.hid (retNo (e := 2) (b4.below B3) (by omega) (zup HZ2.out B3))
  unfold mput at P
  obtain ⟨i0, i1, i2, i3, i4, i5, i6⟩ := (b4.below B3).m3
  go_wp2_with fail
  exact bodyPost_ret (v := .tuple #[.agg #[.int .i64 0, .int .i64 0, .slice none 0 0], .int .i64 2]) (by simp [results, Try.results15, go_sem, i0, i1, i2]) rfl P.out
set_option maxRecDepth 100000 in
/-- Sub, of two matrices of the same sides. -/
theorem msub_yes {q q' : Bool} {r c n d k n' d' k' : Nat} {A A' : Option Addr} {F G : Nat → Nat → Int} {w : World} (ha : Mt q w r c A n d k F) (hb : Mt q' w r c A' n' d' k' G) (hk : k ≤ 1099511627776) (hk' : k' ≤ 1099511627776) : Calls Try.prog 16 #[.agg #[.int .i64 (r : Int), .int .i64 (c : Int), .slice A n d], .agg #[.int .i64 (r : Int), .int .i64 (c : Int), .slice A' n' d']] w (RetK (kT (kM true r c (max k k' + 1) (fun i j => F i j - G i j)) (.k (.int .i64 0))) w) := by
  obtain ⟨w1, hw1, b2, b3, b4, z1, s1⟩ := boxes3 w 24 24 24 [.int .i64 (r : Int), .int .i64 (c : Int), .slice A n d] [.int .i64 (r : Int), .int .i64 (c : Int), .slice A' n' d'] [.int .i64 0, .int .i64 0, .slice none 0 0]
  have HW := Lib.hid hw1
  have HZ := Lib.hid z1
  clear hw1 z1
  go_enter Try.func16, Try.ntmps16
  go_upto_region 1 with fail
  rw [HW.out]
  obtain ⟨w2, hw2, b6, z2, s2⟩ := boxes1 w1 72 [.int .i64 (r : Int), .int .i64 (c : Int), .slice A n d, .int .i64 (r : Int), .int .i64 (c : Int), .slice A' n' d']
  rw [s1] at b6
  have HW2 := Lib.hid hw2
  clear hw2 s2
  obtain ⟨i0, i1, i2, i3, i4, i5, i6⟩ := b2.m3
  obtain ⟨j0, j1, j2, j3, j4, j5, j6⟩ := b3.m3
  go_upto_region 2 with fail
  rw [HW2.out]
  clear i0 i1 i2 i3 i4 i5 i6 j0 j1 j2 j3 j4 j5 j6 HW2 HW s1
  replace b2 := b2.below z2
  replace b3 := b3.below z2
  replace b4 := b4.below z2
  have HZ2 := Lib.hid (zup HZ.out z2)
  clear z2 HZ
  refine Run.start 6 ?_
  refine .ld .o (ldP b6) ?_
  refine .ld .o (ldP b6) ?_
  refine .fn [(.i 1)] [] [_] [] (⟨rfl, trivial⟩) (trivial) ?_
  refine .c2 (.i 0) (.i 2) (x := kT (kM true r c (max k k' + 1) (fun i j => F i j - G i j)) (.k (.int .i64 0))) (by rintro u v w4 hB rfl rfl; exact alike_yes (ha.below (zup HZ2.out hB)) (hb.below (zup HZ2.out hB)) (by kernel_rfl) (fun i j W hi hj hW => by rw [argsM]; exact pdifference_q (ha.below (zup (zup HZ2.out hB) hW)) (hb.below (zup (zup HZ2.out hB) hW)) hi hj hi hj hk hk')) ?_
  refine .ex (.i 3) 0 kT_0 ?_
  refine .ex (.i 3) 1 kT_1 ?_
  refine .donep [some 10, some 11, some 12, some 13, some 14, some 15] ?_
  intro w3 B3
  rintro v0 -
  rintro v ⟨A_, n_, d_, rfl, hM⟩
  change Shut (wpList _ _ _ [_, _] _ _)
  refine ⟨?_⟩
  simp only [Act.put, List.setIfInBounds_toArray, List.set_cons_zero, List.set_cons_succ]
  have P := Lib.hid (retME hM (b4.below B3) (by omega) (zup HZ2.out B3))
  unfold mput at P
  obtain ⟨i0, i1, i2, i3, i4, i5, i6⟩ := (b4.below B3).m3
  clear hM
  go_wp2_with fail
  exact bodyPost_ret (v := .tuple #[.agg #[.int .i64 (r : Int), .int .i64 (c : Int), .slice A_ n_ d_], .int .i64 0]) (by simp [results, Try.results16, go_sem, i0, i1, i2]) rfl P.out
set_option maxRecDepth 100000 in
/-- Sub, of others. -/
theorem msub_no {r c r' c' : Int} {A A' : Option Addr} {n d n' d' : Nat} {w : World} (h : (fmd r c n && fmd r' c' n' && (decide (r = r') && decide (c = c'))) = false) : Calls Try.prog 16 #[.agg #[.int .i64 r, .int .i64 c, .slice A n d], .agg #[.int .i64 r', .int .i64 c', .slice A' n' d']] w (RetK (noM 2) w) := by
  obtain ⟨w1, hw1, b2, b3, b4, z1, s1⟩ := boxes3 w 24 24 24 [.int .i64 r, .int .i64 c, .slice A n d] [.int .i64 r', .int .i64 c', .slice A' n' d'] [.int .i64 0, .int .i64 0, .slice none 0 0]
  have HW := Lib.hid hw1
  have HZ := Lib.hid z1
  have h_ := Lib.hid h
  clear hw1 z1 h
  go_enter Try.func16, Try.ntmps16
  go_upto_region 1 with fail
  rw [HW.out]
  obtain ⟨w2, hw2, b6, z2, s2⟩ := boxes1 w1 72 [.int .i64 r, .int .i64 c, .slice A n d, .int .i64 r', .int .i64 c', .slice A' n' d']
  rw [s1] at b6
  have HW2 := Lib.hid hw2
  clear hw2 s2
  obtain ⟨i0, i1, i2, i3, i4, i5, i6⟩ := b2.m3
  obtain ⟨j0, j1, j2, j3, j4, j5, j6⟩ := b3.m3
  go_upto_region 2 with fail
  rw [HW2.out]
  clear i0 i1 i2 i3 i4 i5 i6 j0 j1 j2 j3 j4 j5 j6 HW2 HW s1
  replace b2 := b2.below z2
  replace b3 := b3.below z2
  replace b4 := b4.below z2
  have HZ2 := Lib.hid (zup HZ.out z2)
  clear z2 HZ
  refine Run.start 6 ?_
  refine .ld .o (ldP b6) ?_
  refine .ld .o (ldP b6) ?_
  refine .fn [(.i 1)] [] [_] [] (⟨rfl, trivial⟩) (trivial) ?_
  refine .c2 (.i 0) (.i 2) (x := noM 2) (by rintro u v w4 hB rfl rfl; exact alike_no h_.out) ?_
  refine .ex (.i 3) 0 (exK rfl) ?_
  refine .ex (.i 3) 1 (exK rfl) ?_
  refine .donep [some 10, some 11, some 12, some 13, some 14, some 15] ?_
  intro w3 B3
  change Shut (wpList _ _ _ [_, _] _ _)
  refine ⟨?_⟩
  simp only [Act.put, List.setIfInBounds_toArray, List.set_cons_zero, List.set_cons_succ]
  have P := Lib.hid (retNo (e := 2) (b4.below B3) (by omega) (zup HZ2.out B3))
  unfold mput at P
  obtain ⟨i0, i1, i2, i3, i4, i5, i6⟩ := (b4.below B3).m3
  go_wp2_with fail
  exact bodyPost_ret (v := .tuple #[.agg #[.int .i64 0, .int .i64 0, .slice none 0 0], .int .i64 2]) (by simp [results, Try.results16, go_sem, i0, i1, i2]) rfl P.out
set_option maxRecDepth 100000 in
/-- Mul. -/
theorem mmul_yes {q q' : Bool} {r c n d k r' c' n' d' k' : Nat} {A A' : Option Addr} {F G : Nat → Nat → Int} {w : World} (ha : Mt q w r c A n d k F) (hb : Mt q' w r' c' A' n' d' k' G) (hcr : c = r') (hk : k + k' ≤ 549755813888) : Calls Try.prog 24 #[.agg #[.int .i64 (r : Int), .int .i64 (c : Int), .slice A n d], .agg #[.int .i64 (r' : Int), .int .i64 (c' : Int), .slice A' n' d']] w (RetK (kT (kM true r c' (k + k' + c) (fun i j => dot F G i j c)) (.k (.int .i64 0))) w) := by
  have h1 := ha.fmd
  have h2 := hb.fmd
  have h3 := ha.hr
  have h4 := hb.hc
  obtain ⟨w1, hw1, b2, b3, b4, z1, s1⟩ := boxes3 w 24 24 24 [.int .i64 (r : Int), .int .i64 (c : Int), .slice A n d] [.int .i64 (r' : Int), .int .i64 (c' : Int), .slice A' n' d'] [.int .i64 0, .int .i64 0, .slice none 0 0]
  have HW := Lib.hid hw1
  have HZ := Lib.hid z1
  have h1_ := Lib.hid h1
  have h2_ := Lib.hid h2
  have hcr_ := Lib.hid hcr
  clear hw1 z1 h1 h2 hcr
  go_enter Try.func24, Try.ntmps24
  go_upto_region 1 with fail
  rw [HW.out]
  obtain ⟨w2, hw2, b6, z2, s2⟩ := boxes1 w1 72 [.int .i64 (r : Int), .int .i64 (c : Int), .slice A n d, .int .i64 (r' : Int), .int .i64 (c' : Int), .slice A' n' d']
  rw [s1] at b6
  have HW2 := Lib.hid hw2
  clear hw2 s2
  obtain ⟨i0, i1, i2, i3, i4, i5, i6⟩ := b2.m3
  obtain ⟨j0, j1, j2, j3, j4, j5, j6⟩ := b3.m3
  go_upto_region 2 with fail
  rw [HW2.out]
  clear i0 i1 i2 i3 i4 i5 i6 j0 j1 j2 j3 j4 j5 j6 HW2 HW s1
  replace b2 := b2.below z2
  replace b3 := b3.below z2
  replace b4 := b4.below z2
  have HZ2 := Lib.hid (zup HZ.out z2)
  clear z2 HZ
  refine Run.start 10 ?_
  refine .ld .o (ldP b6) ?_
  refine .c1 (.i 0) (x := .k (.bool true)) (by rintro u w2 hB rfl; exact pformed_q (by rw [h1_.out, h2_.out]; rfl) w2) ?_
  refine .nt (.i 1) ?_
  refine .mv (.i 2) ?_
  refine .fa .o (fM1 1) ?_
  refine .ld (.i 4) (ldInt b2 1) ?_
  refine .fa .o (fM0 0) ?_
  refine .ld (.i 6) (ldInt b3 0) ?_
  refine .two (.i 5) (.i 7) (opNe (decide_eq_false (by have := hcr_.out; omega : ¬ ((c : Int) ≠ (r' : Int))))) ?_
  refine .pk (.i 3) (.i 8) false ?_
  refine .donep [some 10, some 11, some 12, some 13, some 14, some 15, some 16, some 17, some 18, some 19] ?_
  intro w3 B3
  change Shut (wpList _ _ _ [] _ _)
  refine ⟨?_⟩
  simp only [Act.put, List.setIfInBounds_toArray, List.set_cons_zero, List.set_cons_succ]
  replace b2 := b2.below B3
  replace b3 := b3.below B3
  replace b4 := b4.below B3
  replace b6 := b6.below B3
  have HZ3 := Lib.hid (zup HZ2.out B3)
  clear B3 HZ2
  go_upto_region 4 with fail
  refine Run.start 7 ?_
  refine .fa .o (fM0 0) ?_
  refine .ld (.i 0) (ldInt b2 0) ?_
  refine .fa .o (fM1 1) ?_
  refine .ld (.i 2) (ldInt b3 1) ?_
  refine .ld .o (ldP b6) ?_
  refine .fn [(.i 4)] [] [_] [] (⟨rfl, trivial⟩) (trivial) ?_
  refine .c3 (.i 1) (.i 3) (.i 5) (x := kM true r c' (k + k' + c) (fun i j => dot F G i j c)) (by rintro u v x w4 hB rfl rfl rfl; exact form_q h3 h4 (by kernel_rfl) (fun i j W hi hj hW => by rw [argsM]; exact pproduct_q (ha.below (zup (zup HZ3.out hB) hW)) (hb.below (zup (zup HZ3.out hB) hW)) hcr_.out hi hj hk)) ?_
  refine .donep [some 21, some 22, some 23, some 24, some 25, some 26, some 27] ?_
  intro w4 B4
  rintro v ⟨A_, n_, d_, rfl, hM⟩
  change Shut (wpList _ _ _ [_, _] _ _)
  refine ⟨?_⟩
  simp only [Act.put, List.setIfInBounds_toArray, List.set_cons_zero, List.set_cons_succ]
  have P := Lib.hid (retME hM (b4.below B4) (by omega) (zup HZ3.out B4))
  unfold mput at P
  obtain ⟨i0, i1, i2, i3, i4, i5, i6⟩ := (b4.below B4).m3
  clear hM
  go_wp2_with fail
  exact bodyPost_ret (v := .tuple #[.agg #[.int .i64 (r : Int), .int .i64 (c' : Int), .slice A_ n_ d_], .int .i64 0]) (by simp [results, Try.results24, go_sem, i0, i1, i2]) rfl P.out
set_option maxRecDepth 100000 in
/-- Mul, of others. -/
theorem mmul_no {r c r' c' : Int} {A A' : Option Addr} {n d n' d' : Nat} {w : World} (h : (fmd r c n && fmd r' c' n' && decide (c = r')) = false) : Calls Try.prog 24 #[.agg #[.int .i64 r, .int .i64 c, .slice A n d], .agg #[.int .i64 r', .int .i64 c', .slice A' n' d']] w (RetK (noM 2) w) := by
  obtain ⟨t1, h1⟩ : ∃ t, (fmd r c n && fmd r' c' n') = t := ⟨_, rfl⟩
  rw [h1] at h
  have h_ := Lib.hid h
  clear h
  obtain ⟨w1, hw1, b2, b3, b4, z1, s1⟩ := boxes3 w 24 24 24 [.int .i64 r, .int .i64 c, .slice A n d] [.int .i64 r', .int .i64 c', .slice A' n' d'] [.int .i64 0, .int .i64 0, .slice none 0 0]
  have HW := Lib.hid hw1
  have HZ := Lib.hid z1
  have h1_ := Lib.hid h1
  clear hw1 z1 h1
  go_enter Try.func24, Try.ntmps24
  go_upto_region 1 with fail
  rw [HW.out]
  obtain ⟨w2, hw2, b6, z2, s2⟩ := boxes1 w1 72 [.int .i64 r, .int .i64 c, .slice A n d, .int .i64 r', .int .i64 c', .slice A' n' d']
  rw [s1] at b6
  have HW2 := Lib.hid hw2
  clear hw2 s2
  obtain ⟨i0, i1, i2, i3, i4, i5, i6⟩ := b2.m3
  obtain ⟨j0, j1, j2, j3, j4, j5, j6⟩ := b3.m3
  go_upto_region 2 with fail
  rw [HW2.out]
  clear i0 i1 i2 i3 i4 i5 i6 j0 j1 j2 j3 j4 j5 j6 HW2 HW s1
  replace b2 := b2.below z2
  replace b3 := b3.below z2
  replace b4 := b4.below z2
  have HZ2 := Lib.hid (zup HZ.out z2)
  clear z2 HZ
  cases t1
  · refine Run.start 10 ?_
    refine .ld .o (ldP b6) ?_
    refine .c1 (.i 0) (x := .k (.bool false)) (by rintro u w2 hB rfl; exact pformed_q h1_.out w2) ?_
    refine .nf (.i 1) ?_
    refine .mv (.i 2) ?_
    refine .no ?_
    refine .no ?_
    refine .no ?_
    refine .no ?_
    refine .no ?_
    refine .pk (.i 3) .o true ?_
    refine .donep [some 10, some 11, some 12, some 13, some 14, some 15, some 16, some 17, some 18, some 19] ?_
    intro w3 B3
    change Shut (wpList _ _ _ [] _ _)
    refine ⟨?_⟩
    simp only [Act.put, List.setIfInBounds_toArray, List.set_cons_zero, List.set_cons_succ]
    have P := Lib.hid (retNo (e := 2) (b4.below B3) (by omega) (zup HZ2.out B3))
    unfold mput at P
    obtain ⟨i0, i1, i2, i3, i4, i5, i6⟩ := (b4.below B3).m3
    go_wp2_with fail
    exact bodyPost_ret (v := .tuple #[.agg #[.int .i64 0, .int .i64 0, .slice none 0 0], .int .i64 2]) (by simp [results, Try.results24, go_sem, i0, i1, i2]) rfl P.out
  · have u1 : c ≠ r' := by have := h_.out; simpa using this
    refine Run.start 10 ?_
    refine .ld .o (ldP b6) ?_
    refine .c1 (.i 0) (x := .k (.bool true)) (by rintro u w2 hB rfl; exact pformed_q h1_.out w2) ?_
    refine .nt (.i 1) ?_
    refine .mv (.i 2) ?_
    refine .fa .o (fM1 1) ?_
    refine .ld (.i 4) (ldInt b2 1) ?_
    refine .fa .o (fM0 0) ?_
    refine .ld (.i 6) (ldInt b3 0) ?_
    refine .two (.i 5) (.i 7) (opNe (decide_eq_true u1)) ?_
    refine .pk (.i 3) (.i 8) false ?_
    refine .donep [some 10, some 11, some 12, some 13, some 14, some 15, some 16, some 17, some 18, some 19] ?_
    intro w3 B3
    change Shut (wpList _ _ _ [] _ _)
    refine ⟨?_⟩
    simp only [Act.put, List.setIfInBounds_toArray, List.set_cons_zero, List.set_cons_succ]
    have P := Lib.hid (retNo (e := 2) (b4.below B3) (by omega) (zup HZ2.out B3))
    unfold mput at P
    obtain ⟨i0, i1, i2, i3, i4, i5, i6⟩ := (b4.below B3).m3
    go_wp2_with fail
    exact bodyPost_ret (v := .tuple #[.agg #[.int .i64 0, .int .i64 0, .slice none 0 0], .int .i64 2]) (by simp [results, Try.results24, go_sem, i0, i1, i2]) rfl P.out
set_option maxRecDepth 100000 in
/-- Scale. -/
theorem mscale_yes {q : Bool} {r c n d k m e : Nat} {A D : Option Addr} {s : Bool} {z : Int} {F : Nat → Nat → Int} {w : World} (ha : Mt q w r c A n d k F) (hz : Zv w s D m e z) (hk : k ≤ 1099511627776) (hm : m ≤ 1099511627776) : Calls Try.prog 17 #[.agg #[.int .i64 (r : Int), .int .i64 (c : Int), .slice A n d], .agg #[.bool s, .slice D m e]] w (RetK (kT (kM true r c (m + k) (fun i j => z * F i j)) (.k (.int .i64 0))) w) := by
  have h1 := ha.fmd
  have h3 := ha.hr
  have h4 := ha.hc
  obtain ⟨w1, hw1, b2, b3, b4, z1, s1⟩ := boxes3 w 24 28 24 [.int .i64 (r : Int), .int .i64 (c : Int), .slice A n d] [.bool s, .slice D m e] [.int .i64 0, .int .i64 0, .slice none 0 0]
  have HW := Lib.hid hw1
  have HZ := Lib.hid z1
  have h1_ := Lib.hid h1
  clear hw1 z1 h1 s1
  go_enter Try.func17, Try.ntmps17
  go_upto_region 1 with fail
  rw [HW.out]
  refine Run.start 3 ?_
  refine .ld .o (ldM b2 0) ?_
  refine .c1 (.i 0) (x := .k (.bool true)) (by rintro u w2 hB rfl; exact formed_q h1_.out w2) ?_
  refine .nt (.i 1) ?_
  refine .donep [some 6, some 7, some 8] ?_
  intro w2 B2
  change Shut (wpList _ _ _ [] _ _)
  refine ⟨?_⟩
  simp only [Act.put, List.setIfInBounds_toArray, List.set_cons_zero, List.set_cons_succ]
  replace b2 := b2.below B2
  replace b3 := b3.below B2
  replace b4 := b4.below B2
  have HZ2 := Lib.hid (zup HZ.out B2)
  clear B2 HZ
  go_upto_region 3 with fail
  refine Run.start 6 ?_
  refine .fa .o (fM0 0) ?_
  refine .ld (.i 0) (ldInt b2 0) ?_
  refine .fa .o (fM1 1) ?_
  refine .ld (.i 2) (ldInt b2 1) ?_
  refine .fn [] [.o, .o] [] [_, _] (trivial) (⟨rfl, rfl, trivial⟩) ?_
  refine .c3 (.i 1) (.i 3) (.i 4) (x := kM true r c (m + k) (fun i j => z * F i j)) (by rintro u v x w4 hB rfl rfl rfl; exact form_q h3 h4 (by kernel_rfl) (fun i j W hi hj hW => by rw [argsC2]; exact scale1_q ((b3.below hB).below hW) ((b2.below hB).below hW) (ha.below (zup (zup HZ2.out hB) hW)) (hz.below (zup (zup HZ2.out hB) hW)) hi hj hk hm)) ?_
  refine .donep [some 10, some 11, some 12, some 13, some 14, some 15] ?_
  intro w3 B3
  rintro v ⟨A_, n_, d_, rfl, hM⟩
  change Shut (wpList _ _ _ [_, _] _ _)
  refine ⟨?_⟩
  simp only [Act.put, List.setIfInBounds_toArray, List.set_cons_zero, List.set_cons_succ]
  have P := Lib.hid (retME hM (b4.below B3) (by omega) (zup HZ2.out B3))
  unfold mput at P
  obtain ⟨i0, i1, i2, i3, i4, i5, i6⟩ := (b4.below B3).m3
  clear hM
  go_wp2_with fail
  exact bodyPost_ret (v := .tuple #[.agg #[.int .i64 (r : Int), .int .i64 (c : Int), .slice A_ n_ d_], .int .i64 0]) (by simp [results, Try.results17, go_sem, i0, i1, i2]) rfl P.out
set_option maxRecDepth 100000 in
/-- Scale, of what isn't formed. -/
theorem mscale_no {r c : Int} {A D : Option Addr} {n d m e : Nat} {s : Bool} {w : World} (h : fmd r c n = false) : Calls Try.prog 17 #[.agg #[.int .i64 r, .int .i64 c, .slice A n d], .agg #[.bool s, .slice D m e]] w (RetK (noM 2) w) := by
  obtain ⟨w1, hw1, b2, b3, b4, z1, s1⟩ := boxes3 w 24 28 24 [.int .i64 r, .int .i64 c, .slice A n d] [.bool s, .slice D m e] [.int .i64 0, .int .i64 0, .slice none 0 0]
  have HW := Lib.hid hw1
  have HZ := Lib.hid z1
  have h_ := Lib.hid h
  clear hw1 z1 h s1
  go_enter Try.func17, Try.ntmps17
  go_upto_region 1 with fail
  rw [HW.out]
  refine Run.start 3 ?_
  refine .ld .o (ldM b2 0) ?_
  refine .c1 (.i 0) (x := .k (.bool false)) (by rintro u w2 hB rfl; exact formed_q h_.out w2) ?_
  refine .nf (.i 1) ?_
  refine .donep [some 6, some 7, some 8] ?_
  intro w2 B2
  change Shut (wpList _ _ _ [] _ _)
  refine ⟨?_⟩
  simp only [Act.put, List.setIfInBounds_toArray, List.set_cons_zero, List.set_cons_succ]
  have P := Lib.hid (retNo (e := 2) (b4.below B2) (by omega) (zup HZ.out B2))
  unfold mput at P
  obtain ⟨i0, i1, i2, i3, i4, i5, i6⟩ := (b4.below B2).m3
  go_wp2_with fail
  exact bodyPost_ret (v := .tuple #[.agg #[.int .i64 0, .int .i64 0, .slice none 0 0], .int .i64 2]) (by simp [results, Try.results17, go_sem, i0, i1, i2]) rfl P.out
set_option maxRecDepth 100000 in
/-- Transpose. -/
theorem mtrans_yes {q : Bool} {r c n d k : Nat} {A : Option Addr} {F : Nat → Nat → Int} {w : World} (ha : Mt q w r c A n d k F) (hk : k ≤ 1099511627776) : Calls Try.prog 25 #[.agg #[.int .i64 (r : Int), .int .i64 (c : Int), .slice A n d]] w (RetK (kT (kM true c r (k) (fun i j => F j i)) (.k (.int .i64 0))) w) := by
  have h1 := ha.fmd
  have h3 := ha.hr
  have h4 := ha.hc
  obtain ⟨w1, hw1, b1, b2, z1, s1⟩ := boxes2 w 24 24 [.int .i64 (r : Int), .int .i64 (c : Int), .slice A n d] [.int .i64 0, .int .i64 0, .slice none 0 0]
  have HW := Lib.hid hw1
  have HZ := Lib.hid z1
  have h1_ := Lib.hid h1
  clear hw1 z1 h1 s1
  go_enter Try.func25, Try.ntmps25
  go_upto_region 1 with fail
  rw [HW.out]
  refine Run.start 3 ?_
  refine .ld .o (ldM b1 0) ?_
  refine .c1 (.i 0) (x := .k (.bool true)) (by rintro u w2 hB rfl; exact formed_q h1_.out w2) ?_
  refine .nt (.i 1) ?_
  refine .donep [some 4, some 5, some 6] ?_
  intro w2 B2
  change Shut (wpList _ _ _ [] _ _)
  refine ⟨?_⟩
  simp only [Act.put, List.setIfInBounds_toArray, List.set_cons_zero, List.set_cons_succ]
  replace b1 := b1.below B2
  replace b2 := b2.below B2
  have HZ2 := Lib.hid (zup HZ.out B2)
  clear B2 HZ
  go_upto_region 3 with fail
  refine Run.start 6 ?_
  refine .fa .o (fM1 1) ?_
  refine .ld (.i 0) (ldInt b1 1) ?_
  refine .fa .o (fM0 0) ?_
  refine .ld (.i 2) (ldInt b1 0) ?_
  refine .fn [] [.o] [] [_] (trivial) (⟨rfl, trivial⟩) ?_
  refine .c3 (.i 1) (.i 3) (.i 4) (x := kM true c r k (fun i j => F j i)) (by rintro u v x w4 hB rfl rfl rfl; exact form_q h4 h3 (by kernel_rfl) (fun i j W hi hj hW => by rw [argsC1]; exact transpose1_q ((b1.below hB).below hW) (ha.below (zup (zup HZ2.out hB) hW)) hi hj hk)) ?_
  refine .donep [some 8, some 9, some 10, some 11, some 12, some 13] ?_
  intro w3 B3
  rintro v ⟨A_, n_, d_, rfl, hM⟩
  change Shut (wpList _ _ _ [_, _] _ _)
  refine ⟨?_⟩
  simp only [Act.put, List.setIfInBounds_toArray, List.set_cons_zero, List.set_cons_succ]
  have P := Lib.hid (retME hM (b2.below B3) (by omega) (zup HZ2.out B3))
  unfold mput at P
  obtain ⟨i0, i1, i2, i3, i4, i5, i6⟩ := (b2.below B3).m3
  clear hM
  go_wp2_with fail
  exact bodyPost_ret (v := .tuple #[.agg #[.int .i64 (c : Int), .int .i64 (r : Int), .slice A_ n_ d_], .int .i64 0]) (by simp [results, Try.results25, go_sem, i0, i1, i2]) rfl P.out
set_option maxRecDepth 100000 in
/-- Transpose, of what isn't formed. -/
theorem mtrans_no {r c : Int} {A : Option Addr} {n d : Nat} {w : World} (h : fmd r c n = false) : Calls Try.prog 25 #[.agg #[.int .i64 r, .int .i64 c, .slice A n d]] w (RetK (noM 2) w) := by
  obtain ⟨w1, hw1, b1, b2, z1, s1⟩ := boxes2 w 24 24 [.int .i64 r, .int .i64 c, .slice A n d] [.int .i64 0, .int .i64 0, .slice none 0 0]
  have HW := Lib.hid hw1
  have HZ := Lib.hid z1
  have h_ := Lib.hid h
  clear hw1 z1 h s1
  go_enter Try.func25, Try.ntmps25
  go_upto_region 1 with fail
  rw [HW.out]
  refine Run.start 3 ?_
  refine .ld .o (ldM b1 0) ?_
  refine .c1 (.i 0) (x := .k (.bool false)) (by rintro u w2 hB rfl; exact formed_q h_.out w2) ?_
  refine .nf (.i 1) ?_
  refine .donep [some 4, some 5, some 6] ?_
  intro w2 B2
  change Shut (wpList _ _ _ [] _ _)
  refine ⟨?_⟩
  simp only [Act.put, List.setIfInBounds_toArray, List.set_cons_zero, List.set_cons_succ]
  have P := Lib.hid (retNo (e := 2) (b2.below B2) (by omega) (zup HZ.out B2))
  unfold mput at P
  obtain ⟨i0, i1, i2, i3, i4, i5, i6⟩ := (b2.below B2).m3
  go_wp2_with fail
  exact bodyPost_ret (v := .tuple #[.agg #[.int .i64 0, .int .i64 0, .slice none 0 0], .int .i64 2]) (by simp [results, Try.results25, go_sem, i0, i1, i2]) rfl P.out
end Go.Proofs.Ytcdkdanfiimlkaa
