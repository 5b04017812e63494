/-
  The reference of layer 1: Cmp, Sub.
-/
import Derived.Test.YthpohkklggabpaaRef3
namespace Go.Proofs.Ythpohkklggabpaa
open Go.RowKit

/-- The digit that is left, and the borrow. -/
theorem sub_digit {x y c : Nat} (hx : x < 65536) (hy : y < 65536) (hc : c ≤ 1) :
    ((y + c ≤ x ∧ 0 ≤ (x : Int) - y - c ∧ (x : Int) - y - c = ((x - y - c : Nat) : Int)) ∨ (x < y + c ∧ (x : Int) - y - c < 0 ∧ (x : Int) - y - c + 65536 = ((x + 65536 - y - c : Nat) : Int))) := by omega

end Go.Proofs.Ythpohkklggabpaa
