/-
  A step on rows: its variable; what Do answers.
-/
import Derived.Test.YtcdkdanfiimlkaaMtR
/-! Contracts of the law's own function. -/
namespace Go.Proofs.Ytcdkdanfiimlkaa
open Go.RowKit
set_option linter.unusedVariables false
set_option linter.unusedSimpArgs false

section
variable {w : World} {g : Nat} {T : TypeId} {cs : List Value}
theorem ldU8 (b : Bx w g T cs) (o : Nat) {x : Int} (hc : cs[o]? = some (.int .u8 x) := by rfl) : ∀ w', Below w.heap.size w w' → (Instr.loadAt 5 (.pointer (some ⟨g, o, none⟩))).run Try.prog w' = .ok (.int .u8 x) w' := fun w' hb => by
  have h := (b.below hb).cell o
  rw [hc] at h
  simp [go_sem, addr_add0, h]
theorem ldS (b : Bx w g T cs) (o : Nat) {u x y : Int} {s : Bool} {A : Option Addr} {n d : Nat} (h0 : cs = [.int .u8 u, .int .i64 x, .int .i64 y, .bool s, .slice A n d] := by rfl) (ho : o = 0 := by rfl) : ∀ w', Below w.heap.size w w' → (Instr.loadAt 44 (.pointer (some ⟨g, o, none⟩))).run Try.prog w' = .ok (.agg #[.int .u8 u, .int .i64 x, .int .i64 y, .bool s, .slice A n d]) w' := fun w' hb => by
  subst h0 ho
  have e0 := (b.below hb).cell 0
  have e1 := (b.below hb).cell 1
  have e2 := (b.below hb).cell 2
  have e3 := (b.below hb).cell 3
  have e4 := (b.below hb).cell 4
  simp at e0 e1 e2 e3 e4
  simp [go_sem, e0, e1, e2, e3, e4]
end
theorem fS0 {g o : Nat} (o' : Nat) (h : o + 0 = o' := by rfl) (w : World) : (Instr.fieldAt 44 (.pointer (some ⟨g, o, none⟩)) 0).run Try.prog w = .ok (.pointer (some ⟨g, o', none⟩)) w := by subst h; simp [go_sem]
theorem fS1 {g o : Nat} (o' : Nat) (h : o + 1 = o' := by rfl) (w : World) : (Instr.fieldAt 44 (.pointer (some ⟨g, o, none⟩)) 1).run Try.prog w = .ok (.pointer (some ⟨g, o', none⟩)) w := by subst h; simp [go_sem]
theorem fS2 {g o : Nat} (o' : Nat) (h : o + 2 = o' := by rfl) (w : World) : (Instr.fieldAt 44 (.pointer (some ⟨g, o, none⟩)) 2).run Try.prog w = .ok (.pointer (some ⟨g, o', none⟩)) w := by subst h; simp [go_sem]
theorem fS3 {g o : Nat} (o' : Nat) (h : o + 3 = o' := by rfl) (w : World) : (Instr.fieldAt 44 (.pointer (some ⟨g, o, none⟩)) 3).run Try.prog w = .ok (.pointer (some ⟨g, o', none⟩)) w := by subst h; simp [go_sem]
section
variable {x y r : Int} {T : TypeId} {b : Bool} {X Y : Operand} {U : TypeId}
theorem opEq8 (h : decide (x = y) = b) (w : World) : RunTwo Try.prog (.binOp .eql T X Y U) w (.int .u8 x) (.int .u8 y) (.bool b) := by unfold RunTwo; simp [go_sem, ← h]; try rfl
theorem opNe8 (h : decide (x ≠ y) = b) (w : World) : RunTwo Try.prog (.binOp .neq T X Y U) w (.int .u8 x) (.int .u8 y) (.bool b) := by unfold RunTwo; simp [go_sem, ← h]; try rfl
theorem opRem8 (h : x % 3 = r) (h0 : 0 ≤ x) (w : World) : RunTwo Try.prog (.binOp .rem T X Y U) w (.int .u8 x) (.int .u8 3) (.int .u8 r) := by
  have h1 : x.tmod 3 = r := by rw [Int.tmod_eq_emod_of_nonneg h0]; exact h
  unfold RunTwo
  simp [go_sem, h1]
  try omega
end
set_option maxRecDepth 100000 in
theorem do0_yes {r₀ c₀ u x y : Int} {A D : Option Addr} {n d m e : Nat} {s : Bool} {w : World} {R C K : Nat} {G : Nat → Nat → Int} (h0 : 0 ≤ u) (hj : u % 3 = 0) (hc : ∀ w2, Below w.heap.size w w2 → Calls Try.prog 70 #[.agg #[.int .i64 r₀, .int .i64 c₀, .slice A n d], .int .i64 x, .int .i64 y] w2 (RetK (kT (kM true R C K G) (.k (.int .i64 0))) w2)) : Calls Try.prog 30 #[.agg #[.int .i64 r₀, .int .i64 c₀, .slice A n d], .agg #[.int .u8 u, .int .i64 x, .int .i64 y, .bool s, .slice D m e]] w (RetK (kT (kM true R C K G) (.k (.int .i64 0))) w) := by
  obtain ⟨w1, hw1, b2, b3, b4, z1, s1⟩ := boxes3 w 24 44 24 [.int .i64 r₀, .int .i64 c₀, .slice A n d] [.int .u8 u, .int .i64 x, .int .i64 y, .bool s, .slice D m e] [.int .i64 0, .int .i64 0, .slice none 0 0]
  have HW := Lib.hid hw1
  have HZ := Lib.hid z1
  have h0_ := Lib.hid h0
  have hj_ := Lib.hid hj
  clear hw1 z1 h0 hj s1
  go_enter Try.func30, Try.ntmps30
  go_upto_region 1 with fail
  rw [HW.out]
  refine Run.start 3 ?_
  refine .fa .o (fS0 0) ?_
  refine .ld (.i 0) (ldU8 b3 0) ?_
  refine .two (.i 1) .o (opRem8 hj_.out h0_.out) ?_
  refine .donep [some 6, some 7, some 8] ?_
  intro w2 B2
  change Shut (wpList _ _ _ [] _ _)
  refine ⟨?_⟩
  simp only [Act.put, List.setIfInBounds_toArray, List.set_cons_zero, List.set_cons_succ]
  have B0 := zup HZ.out B2
  replace b2 := b2.below B2
  replace b3 := b3.below B2
  replace b4 := b4.below B2
  clear B2 HZ
  go_upto_region 2 with fail
  refine Run.start 2 ?_
  refine .two .o .o (opEq8 (by decide : decide ((0 : Int) = 0) = true)) ?_
  refine .mv (.i 0) ?_
  refine .donep [some 10, some 9] ?_
  intro w3 B3
  change Shut (wpList _ _ _ [] _ _)
  refine ⟨?_⟩
  simp only [Act.put, List.setIfInBounds_toArray, List.set_cons_zero, List.set_cons_succ]
  replace B0 := zup B0 B3
  replace b2 := b2.below B3
  replace b3 := b3.below B3
  replace b4 := b4.below B3
  clear B3
  go_upto_region 3 with fail
  refine Run.start 8 ?_
  refine .ld .o (ldM b2 0) ?_
  refine .fa .o (fS1 1) ?_
  refine .ld (.i 1) (ldInt b3 1) ?_
  refine .fa .o (fS2 2) ?_
  refine .ld (.i 3) (ldInt b3 2) ?_
  refine .c3 (.i 0) (.i 2) (.i 4) (x := kT (kM true R C K G) (.k (.int .i64 0))) (by rintro u_ v_ x_ w6 hB rfl rfl rfl; exact hc w6 (zup B0 hB)) ?_
  refine .ex (.i 5) 0 kT_0 ?_
  refine .ex (.i 5) 1 kT_1 ?_
  refine .donep [some 11, some 12, some 13, some 14, some 15, some 16, some 17, some 18] ?_
  intro w4 B4
  rintro v0 -
  rintro v ⟨A_, n_, d_, rfl, hM⟩
  change Shut (wpList _ _ _ [_, _] _ _)
  refine ⟨?_⟩
  simp only [Act.put, List.setIfInBounds_toArray, List.set_cons_zero, List.set_cons_succ]
  have P := Lib.hid (retME hM (b4.below B4) (by omega) (zup B0 B4))
  unfold mput at P
  obtain ⟨i0, i1, i2, i3, i4, i5, i6⟩ := (b4.below B4).m3
  clear hM
  go_wp2_with fail
  exact bodyPost_ret (v := .tuple #[.agg #[.int .i64 (R : Int), .int .i64 (C : Int), .slice A_ n_ d_], .int .i64 0]) (by simp [results, Try.results30, go_sem, i0, i1, i2]) rfl P.out
set_option maxRecDepth 100000 in
theorem do0_no {r₀ c₀ u x y : Int} {A D : Option Addr} {n d m e : Nat} {s : Bool} {w : World} {e' : Int} (h0 : 0 ≤ u) (hj : u % 3 = 0) (hc : ∀ w2, Below w.heap.size w w2 → Calls Try.prog 70 #[.agg #[.int .i64 r₀, .int .i64 c₀, .slice A n d], .int .i64 x, .int .i64 y] w2 (RetK (noM e') w2)) : Calls Try.prog 30 #[.agg #[.int .i64 r₀, .int .i64 c₀, .slice A n d], .agg #[.int .u8 u, .int .i64 x, .int .i64 y, .bool s, .slice D m e]] w (RetK (noM e') w) := by
  obtain ⟨w1, hw1, b2, b3, b4, z1, s1⟩ := boxes3 w 24 44 24 [.int .i64 r₀, .int .i64 c₀, .slice A n d] [.int .u8 u, .int .i64 x, .int .i64 y, .bool s, .slice D m e] [.int .i64 0, .int .i64 0, .slice none 0 0]
  have HW := Lib.hid hw1
  have HZ := Lib.hid z1
  have h0_ := Lib.hid h0
  have hj_ := Lib.hid hj
  clear hw1 z1 h0 hj s1
  go_enter Try.func30, Try.ntmps30
  go_upto_region 1 with fail
  rw [HW.out]
  refine Run.start 3 ?_
  refine .fa .o (fS0 0) ?_
  refine .ld (.i 0) (ldU8 b3 0) ?_
  refine .two (.i 1) .o (opRem8 hj_.out h0_.out) ?_
  refine .donep [some 6, some 7, some 8] ?_
  intro w2 B2
  change Shut (wpList _ _ _ [] _ _)
  refine ⟨?_⟩
  simp only [Act.put, List.setIfInBounds_toArray, List.set_cons_zero, List.set_cons_succ]
  have B0 := zup HZ.out B2
  replace b2 := b2.below B2
  replace b3 := b3.below B2
  replace b4 := b4.below B2
  clear B2 HZ
  go_upto_region 2 with fail
  refine Run.start 2 ?_
  refine .two .o .o (opEq8 (by decide : decide ((0 : Int) = 0) = true)) ?_
  refine .mv (.i 0) ?_
  refine .donep [some 10, some 9] ?_
  intro w3 B3
  change Shut (wpList _ _ _ [] _ _)
  refine ⟨?_⟩
  simp only [Act.put, List.setIfInBounds_toArray, List.set_cons_zero, List.set_cons_succ]
  replace B0 := zup B0 B3
  replace b2 := b2.below B3
  replace b3 := b3.below B3
  replace b4 := b4.below B3
  clear B3
  go_upto_region 3 with fail
  refine Run.start 8 ?_
  refine .ld .o (ldM b2 0) ?_
  refine .fa .o (fS1 1) ?_
  refine .ld (.i 1) (ldInt b3 1) ?_
  refine .fa .o (fS2 2) ?_
  refine .ld (.i 3) (ldInt b3 2) ?_
  refine .c3 (.i 0) (.i 2) (.i 4) (x := noM e') (by rintro u_ v_ x_ w6 hB rfl rfl rfl; exact hc w6 (zup B0 hB)) ?_
  refine .ex (.i 5) 0 (exK rfl) ?_
  refine .ex (.i 5) 1 (exK rfl) ?_
  refine .donep [some 11, some 12, some 13, some 14, some 15, some 16, some 17, some 18] ?_
  intro w4 B4
  change Shut (wpList _ _ _ [_, _] _ _)
  refine ⟨?_⟩
  simp only [Act.put, List.setIfInBounds_toArray, List.set_cons_zero, List.set_cons_succ]
  have P := Lib.hid (retNo (e := e') (b4.below B4) (by omega) (zup B0 B4))
  unfold mput at P
  obtain ⟨i0, i1, i2, i3, i4, i5, i6⟩ := (b4.below B4).m3
  go_wp2_with fail
  exact bodyPost_ret (v := .tuple #[.agg #[.int .i64 0, .int .i64 0, .slice none 0 0], .int .i64 e']) (by simp [results, Try.results30, go_sem, i0, i1, i2]) rfl P.out
set_option maxRecDepth 100000 in
theorem do1_yes {r₀ c₀ u x y : Int} {A D : Option Addr} {n d m e : Nat} {s : Bool} {w : World} {R C K : Nat} {G : Nat → Nat → Int} (h0 : 0 ≤ u) (hj : u % 3 = 1) (hc : ∀ w2, Below w.heap.size w w2 → Calls Try.prog 71 #[.agg #[.int .i64 r₀, .int .i64 c₀, .slice A n d], .int .i64 x, .int .i64 y, .agg #[.bool s, .slice D m e]] w2 (RetK (kT (kM true R C K G) (.k (.int .i64 0))) w2)) : Calls Try.prog 30 #[.agg #[.int .i64 r₀, .int .i64 c₀, .slice A n d], .agg #[.int .u8 u, .int .i64 x, .int .i64 y, .bool s, .slice D m e]] w (RetK (kT (kM true R C K G) (.k (.int .i64 0))) w) := by
  obtain ⟨w1, hw1, b2, b3, b4, z1, s1⟩ := boxes3 w 24 44 24 [.int .i64 r₀, .int .i64 c₀, .slice A n d] [.int .u8 u, .int .i64 x, .int .i64 y, .bool s, .slice D m e] [.int .i64 0, .int .i64 0, .slice none 0 0]
  have HW := Lib.hid hw1
  have HZ := Lib.hid z1
  have h0_ := Lib.hid h0
  have hj_ := Lib.hid hj
  clear hw1 z1 h0 hj s1
  go_enter Try.func30, Try.ntmps30
  go_upto_region 1 with fail
  rw [HW.out]
  refine Run.start 3 ?_
  refine .fa .o (fS0 0) ?_
  refine .ld (.i 0) (ldU8 b3 0) ?_
  refine .two (.i 1) .o (opRem8 hj_.out h0_.out) ?_
  refine .donep [some 6, some 7, some 8] ?_
  intro w2 B2
  change Shut (wpList _ _ _ [] _ _)
  refine ⟨?_⟩
  simp only [Act.put, List.setIfInBounds_toArray, List.set_cons_zero, List.set_cons_succ]
  have B0 := zup HZ.out B2
  replace b2 := b2.below B2
  replace b3 := b3.below B2
  replace b4 := b4.below B2
  clear B2 HZ
  go_upto_region 2 with fail
  refine Run.start 2 ?_
  refine .two .o .o (opEq8 (by decide : decide ((1 : Int) = 0) = false)) ?_
  refine .mv (.i 0) ?_
  refine .donep [some 10, some 9] ?_
  intro w3 B3
  change Shut (wpList _ _ _ [] _ _)
  refine ⟨?_⟩
  simp only [Act.put, List.setIfInBounds_toArray, List.set_cons_zero, List.set_cons_succ]
  replace B0 := zup B0 B3
  replace b2 := b2.below B3
  replace b3 := b3.below B3
  replace b4 := b4.below B3
  clear B3
  go_upto_region 4 with fail
  refine Run.start 2 ?_
  refine .two .o .o (opEq8 (by decide : decide ((1 : Int) = 1) = true)) ?_
  refine .mv (.i 0) ?_
  refine .donep [some 20, some 19] ?_
  intro w4 B4
  change Shut (wpList _ _ _ [] _ _)
  refine ⟨?_⟩
  simp only [Act.put, List.setIfInBounds_toArray, List.set_cons_zero, List.set_cons_succ]
  replace B0 := zup B0 B4
  replace b2 := b2.below B4
  replace b3 := b3.below B4
  replace b4 := b4.below B4
  clear B4
  go_upto_region 5 with fail
  refine Run.start 10 ?_
  refine .ld .o (ldM b2 0) ?_
  refine .fa .o (fS1 1) ?_
  refine .ld (.i 1) (ldInt b3 1) ?_
  refine .fa .o (fS2 2) ?_
  refine .ld (.i 3) (ldInt b3 2) ?_
  refine .fa .o (fS3 3) ?_
  refine .ld (.i 5) (ldZ b3 3) ?_
  refine .c4 (.i 0) (.i 2) (.i 4) (.i 6) (x := kT (kM true R C K G) (.k (.int .i64 0))) (by rintro u_ v_ x_ y_ w6 hB rfl rfl rfl rfl; exact hc w6 (zup B0 hB)) ?_
  refine .ex (.i 7) 0 kT_0 ?_
  refine .ex (.i 7) 1 kT_1 ?_
  refine .donep [some 21, some 22, some 23, some 24, some 25, some 26, some 27, some 28, some 29, some 30] ?_
  intro w5 B5
  rintro v0 -
  rintro v ⟨A_, n_, d_, rfl, hM⟩
  change Shut (wpList _ _ _ [_, _] _ _)
  refine ⟨?_⟩
  simp only [Act.put, List.setIfInBounds_toArray, List.set_cons_zero, List.set_cons_succ]
  have P := Lib.hid (retME hM (b4.below B5) (by omega) (zup B0 B5))
  unfold mput at P
  obtain ⟨i0, i1, i2, i3, i4, i5, i6⟩ := (b4.below B5).m3
  clear hM
  go_wp2_with fail
  exact bodyPost_ret (v := .tuple #[.agg #[.int .i64 (R : Int), .int .i64 (C : Int), .slice A_ n_ d_], .int .i64 0]) (by simp [results, Try.results30, go_sem, i0, i1, i2]) rfl P.out
set_option maxRecDepth 100000 in
theorem do1_no {r₀ c₀ u x y : Int} {A D : Option Addr} {n d m e : Nat} {s : Bool} {w : World} {e' : Int} (h0 : 0 ≤ u) (hj : u % 3 = 1) (hc : ∀ w2, Below w.heap.size w w2 → Calls Try.prog 71 #[.agg #[.int .i64 r₀, .int .i64 c₀, .slice A n d], .int .i64 x, .int .i64 y, .agg #[.bool s, .slice D m e]] w2 (RetK (noM e') w2)) : Calls Try.prog 30 #[.agg #[.int .i64 r₀, .int .i64 c₀, .slice A n d], .agg #[.int .u8 u, .int .i64 x, .int .i64 y, .bool s, .slice D m e]] w (RetK (noM e') w) := by
  obtain ⟨w1, hw1, b2, b3, b4, z1, s1⟩ := boxes3 w 24 44 24 [.int .i64 r₀, .int .i64 c₀, .slice A n d] [.int .u8 u, .int .i64 x, .int .i64 y, .bool s, .slice D m e] [.int .i64 0, .int .i64 0, .slice none 0 0]
  have HW := Lib.hid hw1
  have HZ := Lib.hid z1
  have h0_ := Lib.hid h0
  have hj_ := Lib.hid hj
  clear hw1 z1 h0 hj s1
  go_enter Try.func30, Try.ntmps30
  go_upto_region 1 with fail
  rw [HW.out]
  refine Run.start 3 ?_
  refine .fa .o (fS0 0) ?_
  refine .ld (.i 0) (ldU8 b3 0) ?_
  refine .two (.i 1) .o (opRem8 hj_.out h0_.out) ?_
  refine .donep [some 6, some 7, some 8] ?_
  intro w2 B2
  change Shut (wpList _ _ _ [] _ _)
  refine ⟨?_⟩
  simp only [Act.put, List.setIfInBounds_toArray, List.set_cons_zero, List.set_cons_succ]
  have B0 := zup HZ.out B2
  replace b2 := b2.below B2
  replace b3 := b3.below B2
  replace b4 := b4.below B2
  clear B2 HZ
  go_upto_region 2 with fail
  refine Run.start 2 ?_
  refine .two .o .o (opEq8 (by decide : decide ((1 : Int) = 0) = false)) ?_
  refine .mv (.i 0) ?_
  refine .donep [some 10, some 9] ?_
  intro w3 B3
  change Shut (wpList _ _ _ [] _ _)
  refine ⟨?_⟩
  simp only [Act.put, List.setIfInBounds_toArray, List.set_cons_zero, List.set_cons_succ]
  replace B0 := zup B0 B3
  replace b2 := b2.below B3
  replace b3 := b3.below B3
  replace b4 := b4.below B3
  clear B3
  go_upto_region 4 with fail
  refine Run.start 2 ?_
  refine .two .o .o (opEq8 (by decide : decide ((1 : Int) = 1) = true)) ?_
  refine .mv (.i 0) ?_
  refine .donep [some 20, some 19] ?_
  intro w4 B4
  change Shut (wpList _ _ _ [] _ _)
  refine ⟨?_⟩
  simp only [Act.put, List.setIfInBounds_toArray, List.set_cons_zero, List.set_cons_succ]
  replace B0 := zup B0 B4
  replace b2 := b2.below B4
  replace b3 := b3.below B4
  replace b4 := b4.below B4
  clear B4
  go_upto_region 5 with fail
  refine Run.start 10 ?_
  refine .ld .o (ldM b2 0) ?_
  refine .fa .o (fS1 1) ?_
  refine .ld (.i 1) (ldInt b3 1) ?_
  refine .fa .o (fS2 2) ?_
  refine .ld (.i 3) (ldInt b3 2) ?_
  refine .fa .o (fS3 3) ?_
  refine .ld (.i 5) (ldZ b3 3) ?_
  refine .c4 (.i 0) (.i 2) (.i 4) (.i 6) (x := noM e') (by rintro u_ v_ x_ y_ w6 hB rfl rfl rfl rfl; exact hc w6 (zup B0 hB)) ?_
  refine .ex (.i 7) 0 (exK rfl) ?_
  refine .ex (.i 7) 1 (exK rfl) ?_
  refine .donep [some 21, some 22, some 23, some 24, some 25, some 26, some 27, some 28, some 29, some 30] ?_
  intro w5 B5
  change Shut (wpList _ _ _ [_, _] _ _)
  refine ⟨?_⟩
  simp only [Act.put, List.setIfInBounds_toArray, List.set_cons_zero, List.set_cons_succ]
  have P := Lib.hid (retNo (e := e') (b4.below B5) (by omega) (zup B0 B5))
  unfold mput at P
  obtain ⟨i0, i1, i2, i3, i4, i5, i6⟩ := (b4.below B5).m3
  go_wp2_with fail
  exact bodyPost_ret (v := .tuple #[.agg #[.int .i64 0, .int .i64 0, .slice none 0 0], .int .i64 e']) (by simp [results, Try.results30, go_sem, i0, i1, i2]) rfl P.out
set_option maxRecDepth 100000 in
theorem do2_yes {r₀ c₀ u x y : Int} {A D : Option Addr} {n d m e : Nat} {s : Bool} {w : World} {R C K : Nat} {G : Nat → Nat → Int} (h0 : 0 ≤ u) (hj : u % 3 = 2) (hc : ∀ w2, Below w.heap.size w w2 → Calls Try.prog 72 #[.agg #[.int .i64 r₀, .int .i64 c₀, .slice A n d], .int .i64 x] w2 (RetK (kT (kM true R C K G) (.k (.int .i64 0))) w2)) : Calls Try.prog 30 #[.agg #[.int .i64 r₀, .int .i64 c₀, .slice A n d], .agg #[.int .u8 u, .int .i64 x, .int .i64 y, .bool s, .slice D m e]] w (RetK (kT (kM true R C K G) (.k (.int .i64 0))) w) := by
  obtain ⟨w1, hw1, b2, b3, b4, z1, s1⟩ := boxes3 w 24 44 24 [.int .i64 r₀, .int .i64 c₀, .slice A n d] [.int .u8 u, .int .i64 x, .int .i64 y, .bool s, .slice D m e] [.int .i64 0, .int .i64 0, .slice none 0 0]
  have HW := Lib.hid hw1
  have HZ := Lib.hid z1
  have h0_ := Lib.hid h0
  have hj_ := Lib.hid hj
  clear hw1 z1 h0 hj s1
  go_enter Try.func30, Try.ntmps30
  go_upto_region 1 with fail
  rw [HW.out]
  refine Run.start 3 ?_
  refine .fa .o (fS0 0) ?_
  refine .ld (.i 0) (ldU8 b3 0) ?_
  refine .two (.i 1) .o (opRem8 hj_.out h0_.out) ?_
  refine .donep [some 6, some 7, some 8] ?_
  intro w2 B2
  change Shut (wpList _ _ _ [] _ _)
  refine ⟨?_⟩
  simp only [Act.put, List.setIfInBounds_toArray, List.set_cons_zero, List.set_cons_succ]
  have B0 := zup HZ.out B2
  replace b2 := b2.below B2
  replace b3 := b3.below B2
  replace b4 := b4.below B2
  clear B2 HZ
  go_upto_region 2 with fail
  refine Run.start 2 ?_
  refine .two .o .o (opEq8 (by decide : decide ((2 : Int) = 0) = false)) ?_
  refine .mv (.i 0) ?_
  refine .donep [some 10, some 9] ?_
  intro w3 B3
  change Shut (wpList _ _ _ [] _ _)
  refine ⟨?_⟩
  simp only [Act.put, List.setIfInBounds_toArray, List.set_cons_zero, List.set_cons_succ]
  replace B0 := zup B0 B3
  replace b2 := b2.below B3
  replace b3 := b3.below B3
  replace b4 := b4.below B3
  clear B3
  go_upto_region 4 with fail
  refine Run.start 2 ?_
  refine .two .o .o (opEq8 (by decide : decide ((2 : Int) = 1) = false)) ?_
  refine .mv (.i 0) ?_
  refine .donep [some 20, some 19] ?_
  intro w4 B4
  change Shut (wpList _ _ _ [] _ _)
  refine ⟨?_⟩
  simp only [Act.put, List.setIfInBounds_toArray, List.set_cons_zero, List.set_cons_succ]
  replace B0 := zup B0 B4
  replace b2 := b2.below B4
  replace b3 := b3.below B4
  replace b4 := b4.below B4
  clear B4
  go_upto_region 6 with fail
  refine Run.start 6 ?_
  refine .ld .o (ldM b2 0) ?_
  refine .fa .o (fS1 1) ?_
  refine .ld (.i 1) (ldInt b3 1) ?_
  refine .c2 (.i 0) (.i 2) (x := kT (kM true R C K G) (.k (.int .i64 0))) (by rintro u_ v_ w6 hB rfl rfl; exact hc w6 (zup B0 hB)) ?_
  refine .ex (.i 3) 0 kT_0 ?_
  refine .ex (.i 3) 1 kT_1 ?_
  refine .donep [some 31, some 32, some 33, some 34, some 35, some 36] ?_
  intro w5 B5
  rintro v0 -
  rintro v ⟨A_, n_, d_, rfl, hM⟩
  change Shut (wpList _ _ _ [_, _] _ _)
  refine ⟨?_⟩
  simp only [Act.put, List.setIfInBounds_toArray, List.set_cons_zero, List.set_cons_succ]
  have P := Lib.hid (retME hM (b4.below B5) (by omega) (zup B0 B5))
  unfold mput at P
  obtain ⟨i0, i1, i2, i3, i4, i5, i6⟩ := (b4.below B5).m3
  clear hM
  go_wp2_with fail
  exact bodyPost_ret (v := .tuple #[.agg #[.int .i64 (R : Int), .int .i64 (C : Int), .slice A_ n_ d_], .int .i64 0]) (by simp [results, Try.results30, go_sem, i0, i1, i2]) rfl P.out
set_option maxRecDepth 100000 in
theorem do2_no {r₀ c₀ u x y : Int} {A D : Option Addr} {n d m e : Nat} {s : Bool} {w : World} {e' : Int} (h0 : 0 ≤ u) (hj : u % 3 = 2) (hc : ∀ w2, Below w.heap.size w w2 → Calls Try.prog 72 #[.agg #[.int .i64 r₀, .int .i64 c₀, .slice A n d], .int .i64 x] w2 (RetK (noM e') w2)) : Calls Try.prog 30 #[.agg #[.int .i64 r₀, .int .i64 c₀, .slice A n d], .agg #[.int .u8 u, .int .i64 x, .int .i64 y, .bool s, .slice D m e]] w (RetK (noM e') w) := by
  obtain ⟨w1, hw1, b2, b3, b4, z1, s1⟩ := boxes3 w 24 44 24 [.int .i64 r₀, .int .i64 c₀, .slice A n d] [.int .u8 u, .int .i64 x, .int .i64 y, .bool s, .slice D m e] [.int .i64 0, .int .i64 0, .slice none 0 0]
  have HW := Lib.hid hw1
  have HZ := Lib.hid z1
  have h0_ := Lib.hid h0
  have hj_ := Lib.hid hj
  clear hw1 z1 h0 hj s1
  go_enter Try.func30, Try.ntmps30
  go_upto_region 1 with fail
  rw [HW.out]
  refine Run.start 3 ?_
  refine .fa .o (fS0 0) ?_
  refine .ld (.i 0) (ldU8 b3 0) ?_
  refine .two (.i 1) .o (opRem8 hj_.out h0_.out) ?_
  refine .donep [some 6, some 7, some 8] ?_
  intro w2 B2
  change Shut (wpList _ _ _ [] _ _)
  refine ⟨?_⟩
  simp only [Act.put, List.setIfInBounds_toArray, List.set_cons_zero, List.set_cons_succ]
  have B0 := zup HZ.out B2
  replace b2 := b2.below B2
  replace b3 := b3.below B2
  replace b4 := b4.below B2
  clear B2 HZ
  go_upto_region 2 with fail
  refine Run.start 2 ?_
  refine .two .o .o (opEq8 (by decide : decide ((2 : Int) = 0) = false)) ?_
  refine .mv (.i 0) ?_
  refine .donep [some 10, some 9] ?_
  intro w3 B3
  change Shut (wpList _ _ _ [] _ _)
  refine ⟨?_⟩
  simp only [Act.put, List.setIfInBounds_toArray, List.set_cons_zero, List.set_cons_succ]
  replace B0 := zup B0 B3
  replace b2 := b2.below B3
  replace b3 := b3.below B3
  replace b4 := b4.below B3
  clear B3
  go_upto_region 4 with fail
  refine Run.start 2 ?_
  refine .two .o .o (opEq8 (by decide : decide ((2 : Int) = 1) = false)) ?_
  refine .mv (.i 0) ?_
  refine .donep [some 20, some 19] ?_
  intro w4 B4
  change Shut (wpList _ _ _ [] _ _)
  refine ⟨?_⟩
  simp only [Act.put, List.setIfInBounds_toArray, List.set_cons_zero, List.set_cons_succ]
  replace B0 := zup B0 B4
  replace b2 := b2.below B4
  replace b3 := b3.below B4
  replace b4 := b4.below B4
  clear B4
  go_upto_region 6 with fail
  refine Run.start 6 ?_
  refine .ld .o (ldM b2 0) ?_
  refine .fa .o (fS1 1) ?_
  refine .ld (.i 1) (ldInt b3 1) ?_
  refine .c2 (.i 0) (.i 2) (x := noM e') (by rintro u_ v_ w6 hB rfl rfl; exact hc w6 (zup B0 hB)) ?_
  refine .ex (.i 3) 0 (exK rfl) ?_
  refine .ex (.i 3) 1 (exK rfl) ?_
  refine .donep [some 31, some 32, some 33, some 34, some 35, some 36] ?_
  intro w5 B5
  change Shut (wpList _ _ _ [_, _] _ _)
  refine ⟨?_⟩
  simp only [Act.put, List.setIfInBounds_toArray, List.set_cons_zero, List.set_cons_succ]
  have P := Lib.hid (retNo (e := e') (b4.below B5) (by omega) (zup B0 B5))
  unfold mput at P
  obtain ⟨i0, i1, i2, i3, i4, i5, i6⟩ := (b4.below B5).m3
  go_wp2_with fail
  exact bodyPost_ret (v := .tuple #[.agg #[.int .i64 0, .int .i64 0, .slice none 0 0], .int .i64 e']) (by simp [results, Try.results30, go_sem, i0, i1, i2]) rfl P.out
end Go.Proofs.Ytcdkdanfiimlkaa
