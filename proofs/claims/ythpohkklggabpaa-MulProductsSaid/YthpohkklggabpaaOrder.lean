/-
  For every input quincunxlaw01.NatOrder returns true and leaves what was there as it was: the walk.
-/
import Derived.Test.YthpohkklggabpaaNat8
namespace Go.Proofs.Ythpohkklggabpaa
open Go.RowKit

theorem cmp_as {A B : Option Addr} {n m c d x y : Nat} {r : Int} {w : World} (hx : Nv w A n c x) (hy : Nv w B m d y) (h : cmpN x y = r) :
    Calls Try.prog 22 #[.slice A n c, .slice B m d] w fun e w' => e = .returned (.int .i64 r) ∧ Below w.heap.size w w' :=
  (cmp_v hx hy).mono fun _ _ ⟨he, hw⟩ => ⟨by rw [he, h], hw.below _⟩
theorem cmpN_range (x y : Nat) : -1 ≤ cmpN x y ∧ cmpN x y ≤ 1 := by
  rcases Nat.lt_trichotomy x y with h | h | h
  · rw [cmpN_lt h]; omega
  · rw [cmpN_eq h]; omega
  · rw [cmpN_gt h]; omega
theorem cmpN_add (x y z : Nat) : cmpN (x + z) (y + z) = cmpN x y := by
  unfold cmpN
  by_cases h1 : x < y
  · rw [if_pos h1, if_pos (by omega)]
  · rw [if_neg h1, if_neg (by omega)]
    by_cases h2 : x = y
    · rw [if_pos h2, if_pos (by omega)]
    · rw [if_neg h2, if_neg (by omega)]
theorem cmpN_mul {x y z : Nat} (hz : 0 < z) : cmpN (x * z) (y * z) = cmpN x y := by
  rcases Nat.lt_trichotomy x y with h | h | h
  · rw [cmpN_lt h, cmpN_lt (Nat.mul_lt_mul_of_pos_right h hz)]
  · rw [cmpN_eq h, cmpN_eq (by rw [h])]
  · rw [cmpN_gt h, cmpN_gt (Nat.mul_lt_mul_of_pos_right h hz)]
theorem cmpN_swap (x y : Nat) : cmpN y x = - cmpN x y := by
  rcases Nat.lt_trichotomy x y with h | h | h
  · rw [cmpN_lt h, cmpN_gt h]; rfl
  · rw [cmpN_eq h, cmpN_eq h.symm]; rfl
  · rw [cmpN_gt h, cmpN_lt h]
theorem cmpN_le {x y : Nat} : cmpN x y ≤ 0 ↔ x ≤ y := by
  rcases Nat.lt_trichotomy x y with h | h | h
  · rw [cmpN_lt h]; omega
  · rw [cmpN_eq h]; omega
  · rw [cmpN_gt h]; omega

end Go.Proofs.Ythpohkklggabpaa
