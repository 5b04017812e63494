/-
  Contract: nat.Norm; the contracts of nat.Sub and nat.Norm by value.
-/
import Derived.Test.YtgdggpfldkmbdaaDoorNat7
import Derived.Laws.CopyOwn
namespace Go.Proofs.YtgdggpfldkmbdaaDoor
open Go.RowKit

theorem splice_all {cur cs : List Value} (h : cs.length = cur.length) : splice cur 0 cs = cs := by
  simp [splice, h]

/-- A difference is answered, and true. -/
def SubYes (x y : Nat) (k : Nat) (w : World) (e : Ending) (w' : World) : Prop :=
  ∃ A n c, e = .returned (.tuple #[.slice A n c, .bool true]) ∧ Nv w' A n c (x - y) ∧ n ≤ k ∧ Below w.heap.size w w'
end Go.Proofs.YtgdggpfldkmbdaaDoor
