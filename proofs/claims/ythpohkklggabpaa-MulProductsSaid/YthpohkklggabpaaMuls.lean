/-
  For every input quincunxlaw01.NatMuls returns true and leaves what was there as it was: the walk.
-/
import Derived.Test.YthpohkklggabpaaNat9
import Derived.Test.YthpohkklggabpaaOrder
import Derived.Deep.DeepCutAuto
namespace Go.Proofs.Ythpohkklggabpaa
open Go.RowKit

/-- Behind 'p, q := From(w[:1]), From(w[1:])'. -/
def PqCut (wb : World) (p q : Nat) (v u : Value) (wx : World) : Prop :=
  ∃ (A B : Option Addr) (n c m d : Nat), v = .slice A n c ∧ u = .slice B m d ∧ Dv wx A n c p ∧ Dv wx B m d q ∧ n ≤ 4 ∧ m ≤ 4 ∧ Below wb.heap.size wb wx

theorem rmul_v {A B : Option Addr} {n m c d x y : Nat} {w : World} (hx : Dv w A n c x) (hy : Dv w B m d y) (hn : n ≤ 1099511627776) (hm : m ≤ 1099511627776) :
    Calls Try.prog 13 #[.slice A n c, .slice B m d] w (DvPost (x * y) (n + m) w) := rmul_calls A B n m c d x y w hx hy hn hm

end Go.Proofs.Ythpohkklggabpaa
