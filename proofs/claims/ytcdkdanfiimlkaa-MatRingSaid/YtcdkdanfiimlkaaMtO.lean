/-
  What the laws of layer 11 need: ways that meet again, matrices in variables; awake.
-/
import Derived.Test.YtcdkdanfiimlkaaMtN
/-! Ways that meet; the law's awake. -/
namespace Go.Proofs.Ytcdkdanfiimlkaa
open Go.RowKit
set_option linter.unusedVariables false
set_option linter.unusedSimpArgs false

theorem exM0 {e : Int} : ∀ v w, (noM e).F v w → ∃ vs : Array Value, ∃ u', v = .tuple vs ∧ vs[0]? = some u' ∧ (FK.k (.agg #[.int .i64 0, .int .i64 0, .slice none 0 0])).F u' w := fun v w e => ⟨_, _, e, rfl, rfl⟩
theorem exM1 {e : Int} : ∀ v w, (noM e).F v w → ∃ vs : Array Value, ∃ u', v = .tuple vs ∧ vs[1]? = some u' ∧ (FK.k (.int .i64 e)).F u' w := fun v w e => ⟨_, _, e, rfl, rfl⟩
/-- Nothing is known. -/
def kAny : FK := .f (fun _ _ => True) (fun _ _ _ _ _ => trivial)
/-- Each is known as well as there. -/
def Weak : List FK → List FK → Prop
  | [], [] => True
  | .a T :: l, .a U :: l0 => T = U ∧ Weak l l0
  | .k v :: l, .k u :: l0 => v = u ∧ Weak l l0
  | .k v :: l, .f F _ :: l0 => (∀ w, F v w) ∧ Weak l l0
  | .f F _ :: l, .f G _ :: l0 => (∀ v w, F v w → G v w) ∧ Weak l l0
  | _, _ => False
section
variable {ops : Array Oper} {Q : Exit → Act → World → Prop} {m : Nat} {a0 a : Act} {w0 w : World} {b : Bool} {id : Nat}
theorem EndQ.weak : ∀ {l l0 : List FK} {acc : List Nat} {ds : List (Option Nat)} {a : Act}, Weak l l0 → EndQ ops Q m w0 w acc l0 ds a → EndQ ops Q m w0 w acc l ds a
  | [], [], acc, ds, a, _, h => h
  | .a T :: l, .a U :: l0, acc, [], a, hw, h => h
  | .a T :: l, .a U :: l0, acc, d :: ds, a, hw, h => fun g e1 e2 e3 e4 => EndQ.weak hw.2 (h g e1 e2 (by rw [← hw.1]; exact e3) e4)
  | .k v :: l, .k u :: l0, acc, [], a, hw, h => h
  | .k v :: l, .k u :: l0, acc, d :: ds, a, hw, h => by
    obtain ⟨rfl, hw⟩ := hw
    exact EndQ.weak (l := l) (a := a.put d v) hw h
  | .k v :: l, .f F hF :: l0, acc, [], a, hw, h => h
  | .k v :: l, .f F hF :: l0, acc, d :: ds, a, hw, h => EndQ.weak (l := l) (a := a.put d v) hw.2 (h v (hw.1 w))
  | .f F hF :: l, .f G hG :: l0, acc, [], a, hw, h => h
  | .f F hF :: l, .f G hG :: l0, acc, d :: ds, a, hw, h => fun u hu => EndQ.weak hw.2 (h u (hw.1 u w hu))
  | .f _ _ :: _, .k _ :: _, _, _, _, hw, _ => hw.elim
  | .f _ _ :: _, .a _ :: _, _, _, _, hw, _ => hw.elim
  | .k _ :: _, .a _ :: _, _, _, _, hw, _ => hw.elim
  | .a _ :: _, .k _ :: _, _, _, _, hw, _ => hw.elim
  | .a _ :: _, .f _ _ :: _, _, _, _, hw, _ => hw.elim
  | [], _ :: _, _, _, _, hw, _ => hw.elim
  | .k _ :: _, [], _, _, _, hw, _ => hw.elim
  | .f _ _ :: _, [], _, _, _, hw, _ => hw.elim
  | .a _ :: _, [], _, _, _, hw, _ => hw.elim
/-- Several ways through a region, behind which the same is known. -/
theorem Run.merge (m : Nat) (l0 : List FK) (ds : List (Option Nat)) (ways : (∀ w, Below w0.heap.size w0 w → EndQ ops Q m w0 w [] l0 ds a0) → R ops Q m a0 w0 b id [] 0) (hend : ∀ w, Below w0.heap.size w0 w → EndQ ops Q m w0 w [] l0 ds a0) : (Code.region id ops b).wp Try.prog Q a0 w0 := Run.start m (ways hend)
end
section
variable {w : World} {g h : Nat} {T : TypeId} {cs : List Value} {s t : Bool} {A B : Option Addr} {n c m d e : Nat} {r c' x y z : Int}
theorem Bx.mo {c : Int} {n d : Nat} (b : Bx w h T cs) (hn : h ≠ g) : Bx (mput w g r c A n d) h T cs := ((b.off hn _ _).off hn _ _).off hn _ _
theorem Bx.mp {c : Int} {n d : Nat} (b : Bx w g 24 [.int .i64 x, .int .i64 y, .slice B m e]) : Bx (mput w g r c A n d) g 24 [.int .i64 r, .int .i64 c, .slice A n d] := ((b.set 0 _).set 1 _).set 2 _
theorem zeroM (h : w.heap[g]? = some (zeroObj 24)) : Bx w g 24 [.int .i64 0, .int .i64 0, .slice none 0 0] := h.trans (congrArg some (by kernel_rfl))
theorem Zv.mp {c : Int} {n d n' c₁ : Nat} {A' : Option Addr} {z : Int} (h : Zv w s A' n' c₁ z) (b : Bx w g 24 [.int .i64 x, .int .i64 y, .slice B m e]) : Zv (mput w g r c A n d) s A' n' c₁ z := h.gro (b.now (by simp)) (mput_gro _ _ _ _ _ _ _)
end
/-- A list of numbers of 64 bits, in new memory. -/
def IsIJ (xs : List Int) : FVal := fun v w => ∃ g, v = .slice (some ⟨g, 0, none⟩) xs.length xs.length ∧ Il w (some ⟨g, 0, none⟩) xs.length xs.length xs
def kIJ (xs : List Int) : FK := .f (IsIJ xs) (fun v w w' ⟨g, e, h⟩ hb => ⟨g, e, h.below hb⟩)
def okBsJ (ops : Array Oper) (m i : Nat) (ss : List Src) : Bool := okH ops m i && (match (opAt ops i).op with | .buildSlice T n xs => T == 51 && n == ss.length && xs.toList.map (·.1) == List.range ss.length && okSrcs ops m i (xs.toList.map (·.2)) ss | _ => false)
theorem run_bsJ4 {w : World} {x y z u : Int} : (Instr.buildSlice 51 4 #[(0, .int .i64 x), (1, .int .i64 y), (2, .int .i64 z), (3, .int .i64 u)]).run Try.prog w = .ok (.slice (some ⟨w.heap.size, 0, none⟩) 4 4) (w.alloc (.cells #[.int .i64 x, .int .i64 y, .int .i64 z, .int .i64 u] 2)) := by kernel_rfl
theorem Run.bsJ4 {ops : Array Oper} {Q : Exit → Act → World → Prop} {m i : Nat} {a0 : Act} {w0 : World} {l : List FK} {b : Bool} {id : Nat} (s t p q : Src) {x y z u : Int} (hb : ∀ v, v ∈ [x, y, z, u] → -9223372036854775808 ≤ v ∧ v ≤ 9223372036854775807) (rest : R ops Q m a0 w0 b id (kIJ [x, y, z, u] :: l) (i + 1)) (hx : srcsK l i a0 (bsL (opAt ops i).op) [s, t, p, q] [.int .i64 x, .int .i64 y, .int .i64 z, .int .i64 u] := by exact ⟨rfl, rfl, rfl, rfl, trivial⟩) (hc : okBsJ ops m i [s, t, p, q] = true := by kernel_rfl) (hg : Gd l i (opAt ops i) := by first | exact trivial | exact rfl) : R ops Q m a0 w0 b id l i := by
  unfold okBsJ at hc
  rw [Bool.and_eq_true] at hc
  obtain ⟨h1, h2⟩ := hc
  refine Run.mem (x := kIJ [x, y, z, u]) (fun a w h => ?_) rest (FK.fne _) h1 hg
  split at h2
  · rename_i T n xs e
    rw [e] at hx
    simp only [Bool.and_eq_true, beq_iff_eq] at h2
    obtain ⟨⟨⟨rfl, rfl⟩, h3⟩, h4⟩ := h2
    have hv := h.srcs h4 hx
    have hp : (xs.map fun (i, y) => (i, a.eval y)) = #[(0, .int .i64 x), (1, .int .i64 y), (2, .int .i64 z), (3, .int .i64 u)] := by
      obtain ⟨ys⟩ := xs
      match ys, h3, hv with
      | [(k0, x0), (k1, x1), (k2, x2), (k3, x3)], h3, hv =>
        have h3' : [k0, k1, k2, k3] = [0, 1, 2, 3] := h3
        have hv' : [a.eval x0, a.eval x1, a.eval x2, a.eval x3] = [.int .i64 x, .int .i64 y, .int .i64 z, .int .i64 u] := hv
        simp only [List.cons.injEq, and_true] at h3' hv'
        simp [h3'.1, h3'.2.1, h3'.2.2.1, h3'.2.2.2, hv'.1, hv'.2.1, hv'.2.2.1, hv'.2.2.2]
    have B := zba w (.cells #[.int .i64 x, .int .i64 y, .int .i64 z, .int .i64 u] 2)
    have b4 := Bx.new w 2 [.int .i64 x, .int .i64 y, .int .i64 z, .int .i64 u]
    refine ⟨_, _, ?_, ⟨w.heap.size, rfl, rfl, Nat.le_refl _, by show 4 ≤ 9223372036854775807; decide, fun _ => ⟨_, rfl, b4.lt, fun j hj => ?_⟩, fun j hj => ?_⟩, B⟩
    · unfold execOp
      rw [e]
      simp only [hp]
      simp [run_bsJ4]
    · rw [add_lit0]
      refine (b4.cell j).trans ?_
      match j, hj with
      | 0, _ => rfl
      | 1, _ => rfl
      | 2, _ => rfl
      | 3, _ => rfl
    · match j, hj with
      | 0, _ => exact hb x (by simp)
      | 1, _ => exact hb y (by simp)
      | 2, _ => exact hb z (by simp)
      | 3, _ => exact hb u (by simp)
  · cases h2
set_option maxRecDepth 100000 in
set_option maxHeartbeats 1000000 in
/-- The law's awake. -/
theorem awake11_q (w : World) : Calls Try.prog 13 #[] w (RetK (.k (.bool true)) w) := by
  have B0 := Below.refl w.heap.size w
  have hs0 := B0.size
  go_enter Try.func13, Try.ntmps13
  go_upto_region 1 with fail
  refine Run.start 6 ?_
  refine .bsJ4 .o .o .o .o (x := 1) (y := 2) (z := 3) (u := 4) (by decide) ?_
  refine .c3 .o .o (.i 0) (x := kT (kM true 2 2 1 (fun i j => ([1, 2, 3, 4] : List Int).getD (i * 2 + j) 0)) (.k (.int .i64 0))) (by rintro u v x w2 hB rfl rfl ⟨g, rfl, hl⟩; exact mof_yes (r := 2) (c := 2) hl rfl (by decide) (by decide)) ?_
  refine .mf (.i 1) ?_
  refine .ex (.i 2) 0 kT_0 ?_
  refine .ex (.i 2) 1 kT_1 ?_
  refine .al ?_
  refine .donep [some 8, some 9, some 7, some 10, some 11, some 1] ?_
  intro w2 B2
  rintro v0 -
  rintro v1 -
  rintro v2 -
  rintro v3 ⟨A1, n1, d1, rfl, m1⟩
  rintro g1 hg1 hl1 hc1 -
  change Shut (wpList _ _ _ [_, _] _ _)
  refine ⟨?_⟩
  simp only [Act.put, List.setIfInBounds_toArray, List.set_cons_zero, List.set_cons_succ]
  have b1 := zeroM hc1
  replace B0 := zup B0 B2
  clear B2 hc1
  obtain ⟨w3, hw3⟩ : ∃ x, mput w2 g1 2 2 A1 n1 d1 = x := ⟨_, rfl⟩
  obtain ⟨f0_, f1_, f2_, f3_, f4_, f5_, f6_⟩ := b1.m3
  replace m1 := m1.put (r' := 2) (c' := 2) (C := A1) (n' := n1) (d' := d1) b1
  rw [hw3] at m1
  replace B0 := below_mput (g := g1) (r := 2) (c := 2) (A := A1) (n := n1) (d := d1) B0 (by omega)
  rw [hw3] at B0
  replace b1 := b1.mp (g := g1) (r := 2) (c := 2) (A := A1) (n := n1) (d := d1)
  rw [hw3] at b1
  have Hw3 := Lib.hid hw3
  unfold mput at Hw3
  clear hw3
  go_upto_region 2 with fail
  rw [Hw3.out]
  clear f0_ f1_ f2_ f3_ f4_ f5_ f6_ Hw3
  have hs1 := B0.size
  refine Run.start 6 ?_
  refine .bsJ4 .o .o .o .o (x := 0) (y := 1) (z := 1) (u := 0) (by decide) ?_
  refine .c3 .o .o (.i 0) (x := kT (kM true 2 2 1 (fun i j => ([0, 1, 1, 0] : List Int).getD (i * 2 + j) 0)) (.k (.int .i64 0))) (by rintro u v x w2 hB rfl rfl ⟨g, rfl, hl⟩; exact mof_yes (r := 2) (c := 2) hl rfl (by decide) (by decide)) ?_
  refine .mf (.i 1) ?_
  refine .ex (.i 2) 0 kT_0 ?_
  refine .ex (.i 2) 1 kT_1 ?_
  refine .al ?_
  refine .donep [some 13, some 14, some 12, some 15, some 16, some 3] ?_
  intro w4 B4
  rintro v0 -
  rintro v1 -
  rintro v2 -
  rintro v3 ⟨A3, n3, d3, rfl, m3⟩
  rintro g3 hg3 hl3 hc3 -
  change Shut (wpList _ _ _ [_, _] _ _)
  refine ⟨?_⟩
  simp only [Act.put, List.setIfInBounds_toArray, List.set_cons_zero, List.set_cons_succ]
  have b3 := zeroM hc3
  have hb1 := b1.lt
  replace B0 := zup B0 B4
  replace b1 := b1.below B4
  replace m1 := m1.below B4
  clear B4 hc3
  obtain ⟨w5, hw5⟩ : ∃ x, mput w4 g3 2 2 A3 n3 d3 = x := ⟨_, rfl⟩
  obtain ⟨f0_, f1_, f2_, f3_, f4_, f5_, f6_⟩ := b3.m3
  replace b1 := b1.mo (g := g3) (r := 2) (c := 2) (A := A3) (n := n3) (d := d3) (by omega)
  rw [hw5] at b1
  replace m1 := m1.put (r' := 2) (c' := 2) (C := A3) (n' := n3) (d' := d3) b3
  rw [hw5] at m1
  replace m3 := m3.put (r' := 2) (c' := 2) (C := A3) (n' := n3) (d' := d3) b3
  rw [hw5] at m3
  replace B0 := below_mput (g := g3) (r := 2) (c := 2) (A := A3) (n := n3) (d := d3) B0 (by omega)
  rw [hw5] at B0
  replace b3 := b3.mp (g := g3) (r := 2) (c := 2) (A := A3) (n := n3) (d := d3)
  rw [hw5] at b3
  have Hw5 := Lib.hid hw5
  unfold mput at Hw5
  clear hw5
  go_upto_region 3 with fail
  rw [Hw5.out]
  clear f0_ f1_ f2_ f3_ f4_ f5_ f6_ Hw5
  have hs2 := B0.size
  refine Run.start 7 ?_
  refine .ld .o (ldM b1 0) ?_
  refine .ld .o (ldM b3 0) ?_
  refine .c2 (.i 0) (.i 1) (x := kT (kM true 2 2 (1 + 1 + 2) (fun i j => dot (fun i j => ([1, 2, 3, 4] : List Int).getD (i * 2 + j) 0) (fun i j => ([0, 1, 1, 0] : List Int).getD (i * 2 + j) 0) i j 2)) (.k (.int .i64 0))) (by rintro u v w2 hB rfl rfl; exact mmul_yes (m1.below hB) (m3.below hB) rfl (by decide)) ?_
  refine .mf (.i 2) ?_
  refine .ex (.i 3) 0 kT_0 ?_
  refine .ex (.i 3) 1 kT_1 ?_
  refine .al ?_
  refine .donep [some 18, some 19, some 20, some 17, some 21, some 22, some 5] ?_
  intro w6 B6
  rintro v1 -
  rintro v2 -
  rintro v3 ⟨A5, n5, d5, rfl, m5⟩
  rintro g5 hg5 hl5 hc5 -
  change Shut (wpList _ _ _ [_, _] _ _)
  refine ⟨?_⟩
  simp only [Act.put, List.setIfInBounds_toArray, List.set_cons_zero, List.set_cons_succ]
  have b5 := zeroM hc5
  replace B0 := zup B0 B6
  clear B6 hc5 b1 b3 m1 m3
  obtain ⟨w7, hw7⟩ : ∃ x, mput w6 g5 2 2 A5 n5 d5 = x := ⟨_, rfl⟩
  obtain ⟨f0_, f1_, f2_, f3_, f4_, f5_, f6_⟩ := b5.m3
  replace m5 := m5.put (r' := 2) (c' := 2) (C := A5) (n' := n5) (d' := d5) b5
  rw [hw7] at m5
  replace B0 := below_mput (g := g5) (r := 2) (c := 2) (A := A5) (n := n5) (d := d5) B0 (by omega)
  rw [hw7] at B0
  replace b5 := b5.mp (g := g5) (r := 2) (c := 2) (A := A5) (n := n5) (d := d5)
  rw [hw7] at b5
  have Hw7 := Lib.hid hw7
  unfold mput at Hw7
  clear hw7
  go_upto_region 4 with fail
  rw [Hw7.out]
  clear f0_ f1_ f2_ f3_ f4_ f5_ f6_ Hw7
  have hn5 : n5 = 4 := m5.len
  refine Run.start 23 ?_
  refine .mv .o ?_
  refine .two (.i 0) .o (opEq (by decide : decide ((0 : Int) = 0) = true)) ?_
  refine .mv (.i 1) ?_
  refine .mv .o ?_
  refine .two (.i 3) .o (opEq (by decide : decide ((0 : Int) = 0) = true)) ?_
  refine .pk (.i 2) (.i 4) true ?_
  refine .mv (.i 5) ?_
  refine .mv .o ?_
  refine .two (.i 7) .o (opEq (by decide : decide ((0 : Int) = 0) = true)) ?_
  refine .pk (.i 6) (.i 8) true ?_
  refine .mv (.i 9) ?_
  refine .ld .o (ldM b5 0) ?_
  refine .c3 (.i 11) .o .o (x := kC ((fun i j => dot (fun i j => ([1, 2, 3, 4] : List Int).getD (i * 2 + j) 0) (fun i j => ([0, 1, 1, 0] : List Int).getD (i * 2 + j) 0) i j 2) 1 0) (1 + 1 + 2)) (by rintro u v x w2 hB rfl rfl rfl; exact mat_yes (i := 1) (j := 0) (m5.below hB) (by decide) (by decide) (by decide)) ?_
  refine .c1 .o (x := kC 4 1) (by rintro u w2 hB rfl; exact zof_q (by decide) (by decide) w2) ?_
  refine .c2 (.i 12) (.i 13) (x := .k (.bool true)) (by intro u v w2 hB h1 h2; exact zsame_q h1.v h2.v (by decide) (by decide) (by decide)) ?_
  refine .pk (.i 10) (.i 14) true ?_
  refine .mv (.i 15) ?_
  refine .fa .o (fM2 2) ?_
  refine .ld (.i 17) (ldSl b5 2) ?_
  refine .len (.i 18) Try.underlying22 ?_
  refine .two (.i 19) .o (opEq (by rw [hn5]; decide : decide ((n5 : Int) = 4) = true)) ?_
  refine .pk (.i 16) (.i 20) true ?_
  refine .mv (.i 21) ?_
  refine .donep [some 23, some 24, some 25, some 26, some 27, some 28, some 29, some 30, some 31, some 32, some 33, some 34, some 35, some 36, some 37, some 38, some 39, some 40, some 41, some 42, some 43, some 44, some 0] ?_
  intro w8 B8
  rintro v4 -
  rintro v5 -
  change Shut (wpList _ _ _ [] _ _)
  refine ⟨?_⟩
  simp only [Act.put, List.setIfInBounds_toArray, List.set_cons_zero, List.set_cons_succ]
  clear hn5
  go_wp2_with fail
  exact bodyPost_ret (v := .bool true) (by simp [results, Try.results13, go_sem]) rfl (ret_k rfl (zup B0 B8))
end Go.Proofs.Ytcdkdanfiimlkaa
