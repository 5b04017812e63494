/-
  The reference of layer 1: Half.
-/
import Derived.Test.YthpohkklggabpaaRef8
namespace Go.Proofs.Ythpohkklggabpaa
open Go.RowKit

theorem half_drop {xs : List Nat} (lx : Low 65536 xs) {s : Nat} (hs : s ≤ xs.length) (t : Nat) : ev 65536 (xs.drop s) / 2 ^ t = ev 65536 xs / 2 ^ (16 * s + t) := by
  rw [pow16, ← Nat.div_div_eq_div_mul]
  congr 1
  rw [ev_split 65536 xs s hs, Nat.add_mul_div_left _ _ (Nat.pow_pos (by omega)), Nat.div_eq_of_lt (pre_lt lx (by omega) s), Nat.zero_add]

end Go.Proofs.Ythpohkklggabpaa
