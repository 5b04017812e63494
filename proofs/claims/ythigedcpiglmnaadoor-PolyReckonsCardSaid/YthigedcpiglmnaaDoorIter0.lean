/-
  Iterators over words, from the end: what they share.
-/
import Derived.RangeFuncNested
import Derived.RangeFuncBound
import Derived.RangeFuncCalls
import Derived.RangeFuncLeaves
import Derived.RangeFuncBox
import Derived.Shelf.Abstract
import Derived.Shelf.RegionOpen
import Derived.OwnWalkIn
import Derived.TacticsInMore
import Derived.LoopNIn
import Derived.LoopIn
import Derived.Test.YthigedcpiglmnaaDoorGfpA
/-! Iterators over words, from the end: what they share. -/
namespace Go.Proofs.YthigedcpiglmnaaDoor
open Go.RowKit Go.Shelf
set_option linter.unusedVariables false
set_option linter.unusedSimpArgs false
attribute [local go_sem] Oper.semAt_some

/-! ### slices.Backward -/
/-- What has come when k rounds are over. -/
def upto {α : Type} (f : Nat → α) (k : Nat) : List α := (List.range k).map f
theorem upto_succ {α : Type} (f : Nat → α) (k : Nat) : upto f (k + 1) = upto f k ++ [f k] := by simp [upto, List.range_succ]
theorem upto_length {α : Type} (f : Nat → α) (k : Nat) : (upto f k).length = k := by simp [upto]
/-- What a round must keep: what lay below n₀, and the block of the iterator's own box. -/
def KeepB (n₀ b : Nat) (W W' : World) : Prop := Below n₀ W W' ∧ W'.heap[b]? = W.heap[b]?
theorem keepB_t {n₀ b : Nat} {A B C : World} (h : KeepB n₀ b A B) (k : KeepB n₀ b B C) : KeepB n₀ b A C := ⟨h.1.trans k.1, k.2.trans h.2⟩
theorem keepB_b {n₀ b : Nat} {w : World} (hn : n₀ ≤ w.heap.size) (hb : b < w.heap.size) (W : World) (l : Nat) (o o' : Obj) (hl : w.heap.size ≤ l) (h : W.heap[l]? = some o) (h1 : o.isCells = false) (h2 : o.isWalk = false) : KeepB n₀ b W (W.putObj l o') :=
  ⟨belowK_b hn W l o o' hl h h1 h2, World.putObj_heap_other (fun e => by omega)⟩
/-- What a round is handed: an index and a word. -/
abbrev Wd := { x : Nat × Nat // x.2 < 18446744073709551616 }
/-- The k-th from the end: its index and its word. -/
def fromEnd (xs : List Nat) (h : Low 18446744073709551616 xs) (k : Nat) : Wd := ⟨(xs.length - 1 - k, nth xs (xs.length - 1 - k)), h.any (by omega) _⟩
end Go.Proofs.YthigedcpiglmnaaDoor
