/-
  For every input quincunxlaw01.NatMuls returns true and leaves what was there as it was: the walk.
-/
import Derived.Test.YtgdggpfldkmbdaaDoorNat9
import Derived.Test.YtgdggpfldkmbdaaDoorOrder
import Derived.Deep.DeepCutAuto
namespace Go.Proofs.YtgdggpfldkmbdaaDoor
open Go.RowKit

/-- Behind 'p, q := From(w[:1]), From(w[1:])'. -/
def PqCut (wb : World) (p q : Nat) (v u : Value) (wx : World) : Prop :=
  ∃ (A B : Option Addr) (n c m d : Nat), v = .slice A n c ∧ u = .slice B m d ∧ Dv wx A n c p ∧ Dv wx B m d q ∧ n ≤ 4 ∧ m ≤ 4 ∧ Below wb.heap.size wb wx

end Go.Proofs.YtgdggpfldkmbdaaDoor
