/-
  Variables in memory as blocks; matrices as values.
-/
import Derived.Test.YtcdkdanfiimlkaaRegQ
import Derived.Test.YtcdkdanfiimlkaaZlA
import Derived.Test.YtcdkdanfiimlkaaZputA
import Derived.Test.YtcdkdanfiimlkaaZintB
import Derived.IntWalk
/-! Blocks of variables; loads; matrices. -/
namespace Go.Proofs.Ytcdkdanfiimlkaa
open Go.RowKit
set_option linter.unusedVariables false
set_option linter.unusedSimpArgs false

/-! ### Blocks -/
/-- The block g is a variable of type T that holds these cells. -/
def Bx (w : World) (g : Nat) (T : TypeId) (cs : List Value) : Prop := w.heap[g]? = some (.cells cs.toArray T (0, 0))
section
variable {w w' : World} {g h : Nat} {T U : TypeId} {cs ds : List Value}
theorem Bx.lt (b : Bx w g T cs) : g < w.heap.size := (Array.getElem?_eq_some_iff.1 b).1
theorem Bx.below (b : Bx w g T cs) (hb : Below w.heap.size w w') : Bx w' g T cs := (hb.block g b.lt).trans b
theorem Bx.cell (b : Bx w g T cs) (o : Nat) : w.cell? ⟨g, o, none⟩ = cs[o]? := by
  rw [cell_of_row w g o _ _ _ b]; simp
theorem Bx.free (b : Bx w g T cs) (o : Nat) : w.frozen? ⟨g, o, none⟩ = false := frozen_of_row w g o _ _ b
theorem Bx.new (w : World) (T : TypeId) (cs : List Value) : Bx (w.alloc (.cells cs.toArray T)) w.heap.size T cs := heap_alloc_new w _
theorem Bx.set (b : Bx w g T cs) (o : Nat) (v : Value) : Bx (w.setCell ⟨g, o, none⟩ v) g T (cs.set o v) := by
  unfold Bx
  rw [heap_setCell_same w g _ _ _ _ b]
  simp
theorem Bx.off (b : Bx w g T cs) (hn : g ≠ h) (o : Nat) (v : Value) : Bx (w.setCell ⟨h, o, none⟩ v) g T cs := (Below.heap_setCell _ _ _ _ (fun e => hn (by rw [e]))).trans b
theorem gro_bx (b : Bx w g T cs) (hg : w.grownBy w' (some h)) (hn : g ≠ h) : Bx w' g T cs := (hg.block g b.lt (fun e => hn (Option.some.inj e))).trans b
/-- New variables. -/
theorem boxes1 (w : World) (T : TypeId) (cs : List Value) : ∃ w1, w.alloc (.cells cs.toArray T) = w1 ∧ Bx w1 w.heap.size T cs ∧ Below w.heap.size w w1 ∧ w1.heap.size = w.heap.size + 1 := ⟨_, rfl, Bx.new _ _ _, zba _ _, by simp⟩
theorem boxes2 (w : World) (T U : TypeId) (cs ds : List Value) : ∃ w1, (w.alloc (.cells cs.toArray T)).alloc (.cells ds.toArray U) = w1 ∧ Bx w1 w.heap.size T cs ∧ Bx w1 (w.heap.size + 1) U ds ∧ Below w.heap.size w w1 ∧ w1.heap.size = w.heap.size + 1 + 1 :=
  ⟨_, rfl, (Bx.new _ _ _).below (zba _ _), by have := Bx.new (w.alloc (.cells cs.toArray T)) U ds; simpa using this, zba2 _ _ _, by simp⟩
theorem boxes3 (w : World) (T U V : TypeId) (cs ds es : List Value) : ∃ w1, ((w.alloc (.cells cs.toArray T)).alloc (.cells ds.toArray U)).alloc (.cells es.toArray V) = w1 ∧ Bx w1 w.heap.size T cs ∧ Bx w1 (w.heap.size + 1) U ds ∧ Bx w1 (w.heap.size + 1 + 1) V es ∧ Below w.heap.size w w1 ∧ w1.heap.size = w.heap.size + 1 + 1 + 1 := by
  obtain ⟨w1, h1, a, b, hb, hs⟩ := boxes2 w T U cs ds
  rw [h1]
  obtain ⟨w2, h2, c, hb2, hs2⟩ := boxes1 w1 V es
  rw [hs] at c
  exact ⟨w2, h2, a.below hb2, b.below hb2, c, zup hb hb2, by omega⟩
/-! ### Loads -/
theorem ldInt (b : Bx w g T cs) (o : Nat) {x : Int} (hc : cs[o]? = some (.int .i64 x) := by rfl) : ∀ w', Below w.heap.size w w' → (Instr.loadAt 3 (.pointer (some ⟨g, o, none⟩))).run Try.prog w' = .ok (.int .i64 x) w' := fun w' hb => by
  have h := (b.below hb).cell o
  rw [hc] at h
  simp [go_sem, addr_add0, h]
theorem ldSl (b : Bx w g T cs) (o : Nat) {A : Option Addr} {n c : Nat} (hc : cs[o]? = some (.slice A n c) := by rfl) : ∀ w', Below w.heap.size w w' → (Instr.loadAt 22 (.pointer (some ⟨g, o, none⟩))).run Try.prog w' = .ok (.slice A n c) w' := fun w' hb => by
  have h := (b.below hb).cell o
  rw [hc] at h
  simp [go_sem, addr_add0, h]
theorem ldNat (b : Bx w g T cs) (o : Nat) {A : Option Addr} {n c : Nat} (hc : cs[o]? = some (.slice A n c) := by rfl) : ∀ w', Below w.heap.size w w' → (Instr.loadAt 26 (.pointer (some ⟨g, o, none⟩))).run Try.prog w' = .ok (.slice A n c) w' := fun w' hb => by
  have h := (b.below hb).cell o
  rw [hc] at h
  simp [go_sem, addr_add0, h]
theorem ldBool (b : Bx w g T cs) (o : Nat) {s : Bool} (hc : cs[o]? = some (.bool s) := by rfl) : ∀ w', Below w.heap.size w w' → (Instr.loadAt 4 (.pointer (some ⟨g, o, none⟩))).run Try.prog w' = .ok (.bool s) w' := fun w' hb => by
  have h := (b.below hb).cell o
  rw [hc] at h
  simp [go_sem, addr_add0, h]
theorem ldZ (b : Bx w g T cs) (o : Nat) {s : Bool} {A : Option Addr} {n c : Nat} (h0 : cs[o]? = some (.bool s) := by rfl) (h1 : cs[o + 1]? = some (.slice A n c) := by rfl) : ∀ w', Below w.heap.size w w' → (Instr.loadAt 28 (.pointer (some ⟨g, o, none⟩))).run Try.prog w' = .ok (.agg #[.bool s, .slice A n c]) w' := fun w' hb => by
  have e0 := (b.below hb).cell o
  have e1 := (b.below hb).cell (o + 1)
  rw [h0] at e0
  rw [h1] at e1
  exact run_ldz e0 e1
/-- A matrix's value. -/
def mval (r c : Int) (A : Option Addr) (n d : Nat) : Value := .agg #[.int .i64 r, .int .i64 c, .slice A n d]
theorem ldM (b : Bx w g T cs) (o : Nat) {r c : Int} {A : Option Addr} {n d : Nat} (h0 : cs[o]? = some (.int .i64 r) := by rfl) (h1 : cs[o + 1]? = some (.int .i64 c) := by rfl) (h2 : cs[o + 2]? = some (.slice A n d) := by rfl) : ∀ w', Below w.heap.size w w' → (Instr.loadAt 24 (.pointer (some ⟨g, o, none⟩))).run Try.prog w' = .ok (.agg #[.int .i64 r, .int .i64 c, .slice A n d]) w' := fun w' hb => by
  have e0 := (b.below hb).cell o
  have e1 := (b.below hb).cell (o + 1)
  have e2 := (b.below hb).cell (o + 2)
  rw [h0] at e0
  rw [h1] at e1
  rw [h2] at e2
  simp [go_sem, e0, e1, e2]
theorem ldP (b : Bx w g T cs) {r c r' c' : Int} {A A' : Option Addr} {n d n' d' : Nat} (h0 : cs = [.int .i64 r, .int .i64 c, .slice A n d, .int .i64 r', .int .i64 c', .slice A' n' d'] := by rfl) : ∀ w', Below w.heap.size w w' → (Instr.loadAt 72 (.pointer (some ⟨g, 0, none⟩))).run Try.prog w' = .ok (.agg #[.int .i64 r, .int .i64 c, .slice A n d, .int .i64 r', .int .i64 c', .slice A' n' d']) w' := fun w' hb => by
  subst h0
  have e0 := (b.below hb).cell 0
  have e1 := (b.below hb).cell 1
  have e2 := (b.below hb).cell 2
  have e3 := (b.below hb).cell 3
  have e4 := (b.below hb).cell 4
  have e5 := (b.below hb).cell 5
  simp at e0 e1 e2 e3 e4 e5
  simp [go_sem, e0, e1, e2, e3, e4, e5]
end
/-! ### Fields -/
section
variable {g o : Nat}
theorem fM0 (o' : Nat) (h : o + 0 = o' := by rfl) (w : World) : (Instr.fieldAt 24 (.pointer (some ⟨g, o, none⟩)) 0).run Try.prog w = .ok (.pointer (some ⟨g, o', none⟩)) w := by subst h; simp [go_sem]
theorem fM1 (o' : Nat) (h : o + 1 = o' := by rfl) (w : World) : (Instr.fieldAt 24 (.pointer (some ⟨g, o, none⟩)) 1).run Try.prog w = .ok (.pointer (some ⟨g, o', none⟩)) w := by subst h; simp [go_sem]
theorem fM2 (o' : Nat) (h : o + 2 = o' := by rfl) (w : World) : (Instr.fieldAt 24 (.pointer (some ⟨g, o, none⟩)) 2).run Try.prog w = .ok (.pointer (some ⟨g, o', none⟩)) w := by subst h; simp [go_sem]
theorem fP0 (o' : Nat) (h : o + 0 = o' := by rfl) (w : World) : (Instr.fieldAt 72 (.pointer (some ⟨g, o, none⟩)) 0).run Try.prog w = .ok (.pointer (some ⟨g, o', none⟩)) w := by subst h; simp [go_sem]
theorem fP1 (o' : Nat) (h : o + 3 = o' := by rfl) (w : World) : (Instr.fieldAt 72 (.pointer (some ⟨g, o, none⟩)) 1).run Try.prog w = .ok (.pointer (some ⟨g, o', none⟩)) w := by subst h; simp [go_sem]
theorem fZ0 (o' : Nat) (h : o + 0 = o' := by rfl) (w : World) : (Instr.fieldAt 28 (.pointer (some ⟨g, o, none⟩)) 0).run Try.prog w = .ok (.pointer (some ⟨g, o', none⟩)) w := by subst h; simp [go_sem]
theorem fZ1 (o' : Nat) (h : o + 1 = o' := by rfl) (w : World) : (Instr.fieldAt 28 (.pointer (some ⟨g, o, none⟩)) 1).run Try.prog w = .ok (.pointer (some ⟨g, o', none⟩)) w := by subst h; simp [go_sem]
end
/-! ### Sums and tests of ints -/
section
variable {x y r : Int} {T : TypeId} {b : Bool} {X Y : Operand} {U : TypeId}
theorem opLt (h : decide (x < y) = b) (w : World) : RunTwo Try.prog (.binOp .lss T X Y U) w (.int .i64 x) (.int .i64 y) (.bool b) := by unfold RunTwo; simp [go_sem, ← h]; try rfl
theorem opLe (h : decide (x ≤ y) = b) (w : World) : RunTwo Try.prog (.binOp .leq T X Y U) w (.int .i64 x) (.int .i64 y) (.bool b) := by unfold RunTwo; simp [go_sem, ← h]; try rfl
theorem opGt (h : decide (y < x) = b) (w : World) : RunTwo Try.prog (.binOp .gtr T X Y U) w (.int .i64 x) (.int .i64 y) (.bool b) := by unfold RunTwo; simp [go_sem, ← h]; try rfl
theorem opGe (h : decide (y ≤ x) = b) (w : World) : RunTwo Try.prog (.binOp .geq T X Y U) w (.int .i64 x) (.int .i64 y) (.bool b) := by unfold RunTwo; simp [go_sem, ← h]; try rfl
theorem opEq (h : decide (x = y) = b) (w : World) : RunTwo Try.prog (.binOp .eql T X Y U) w (.int .i64 x) (.int .i64 y) (.bool b) := by unfold RunTwo; simp [go_sem, ← h]; try rfl
theorem opNe (h : decide (x ≠ y) = b) (w : World) : RunTwo Try.prog (.binOp .neq T X Y U) w (.int .i64 x) (.int .i64 y) (.bool b) := by unfold RunTwo; simp [go_sem, ← h]; try rfl
theorem opAdd (h : x + y = r) (h1 : -9223372036854775808 ≤ r) (h2 : r ≤ 9223372036854775807) (w : World) : RunTwo Try.prog (.binOp .add T X Y U) w (.int .i64 x) (.int .i64 y) (.int .i64 r) := by unfold RunTwo; subst h; simp [go_sem, IntWalk.i64_in _ ⟨h1, h2⟩]
theorem opSub (h : x - y = r) (h1 : -9223372036854775808 ≤ r) (h2 : r ≤ 9223372036854775807) (w : World) : RunTwo Try.prog (.binOp .sub T X Y U) w (.int .i64 x) (.int .i64 y) (.int .i64 r) := by unfold RunTwo; subst h; simp [go_sem, IntWalk.i64_in _ ⟨h1, h2⟩]
theorem opMul (h : x * y = r) (h1 : -9223372036854775808 ≤ r) (h2 : r ≤ 9223372036854775807) (w : World) : RunTwo Try.prog (.binOp .mul T X Y U) w (.int .i64 x) (.int .i64 y) (.int .i64 r) := by unfold RunTwo; subst h; simp [go_sem, IntWalk.i64_in _ ⟨h1, h2⟩]
theorem opAddN (a b : Nat) (h : a + b ≤ 4611686018427387904) (w : World) : RunTwo Try.prog (.binOp .add T X Y U) w (.int .i64 (a : Int)) (.int .i64 (b : Int)) (.int .i64 ((a + b : Nat) : Int)) := opAdd (by omega) (by omega) (by omega) w
theorem opSubN (a b : Nat) (h : b ≤ a) (h2 : a ≤ 4611686018427387904) (w : World) : RunTwo Try.prog (.binOp .sub T X Y U) w (.int .i64 (a : Int)) (.int .i64 (b : Int)) (.int .i64 ((a - b : Nat) : Int)) := opSub (by omega) (by omega) (by omega) w
theorem opMulN (a b : Nat) (h : a * b ≤ 4611686018427387904) (w : World) : RunTwo Try.prog (.binOp .mul T X Y U) w (.int .i64 (a : Int)) (.int .i64 (b : Int)) (.int .i64 ((a * b : Nat) : Int)) := opMul (by simp) (by omega) (by omega) w
end
end Go.Proofs.Ytcdkdanfiimlkaa
