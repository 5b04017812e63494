/-
  For quincunxlaw01.NatBits: contracts of nat.Bit, nat.Zeros.
-/
import Derived.Test.YthpohkklggabpaaBits2
import Derived.Test.YthpohkklggabpaaRef9
namespace Go.Proofs.Ythpohkklggabpaa
open Go.RowKit

theorem bit_word {xs : List Nat} (lx : Low 18446744073709551616 xs) {s u : Nat} (hu : u < 64) (hs : s < xs.length) : ev 18446744073709551616 xs / 2 ^ (64 * s + u) % 2 = nth xs s / 2 ^ u % 2 := by
  have e1 := ev_split 18446744073709551616 xs s (by omega)
  rw [drop_nth hs, ev] at e1
  have e2 := pre_lt lx (by omega) s
  rw [two_word, ← Nat.div_div_eq_div_mul]
  have e4 : ev 18446744073709551616 xs / 18446744073709551616 ^ s = nth xs s + 18446744073709551616 * ev 18446744073709551616 (xs.drop (s + 1)) := by
    rw [e1, Nat.add_mul_div_left _ _ (Nat.pow_pos (by omega)), Nat.div_eq_of_lt e2, Nat.zero_add]
  rw [e4]
  generalize ev 18446744073709551616 (xs.drop (s + 1)) = r
  have e5 : 18446744073709551616 * r = 2 ^ u * (2 * (2 ^ (63 - u) * r)) := by
    rw [split_word u hu, show 64 - u = (63 - u) + 1 from by omega, Nat.pow_succ]
    grind
  rw [e5, Nat.add_mul_div_left _ _ (Nat.pow_pos (by omega)), Nat.add_mul_mod_self_left]
theorem bit_far {xs : List Nat} (lx : Low 18446744073709551616 xs) {s u : Nat} (hs : xs.length ≤ s) : ev 18446744073709551616 xs / 2 ^ (64 * s + u) = 0 := by
  have h1 := ev_lt lx
  have h2 := pow_big hs
  rw [two_word, ← Nat.div_div_eq_div_mul, Nat.div_eq_of_lt (Nat.lt_of_lt_of_le h1 h2), Nat.zero_div]
theorem bit_value {x u : Nat} (hx : x < 18446744073709551616) : bits .and .u64 ((x : Int) / 2 ^ u) 1 = ((x / 2 ^ u % 2 : Nat) : Int) := by
  have e : (x : Int) / 2 ^ u = ((x / 2 ^ u : Nat) : Int) := by
    rw [Int.natCast_ediv, Int.natCast_pow]
    rfl
  have h4 : x / 2 ^ u ≤ x := Nat.div_le_self _ _
  have h5 := (bits_nat .u64 64 (by decide) (fun n h0 h1 => by rw [IntKind.wrap_u64]; omega) (x / 2 ^ u) 1 (by omega) (by omega)).1
  rw [e]
  refine Eq.trans h5 ?_
  rw [Nat.and_one_is_mod]

/-- What nat.Zeros answers. -/
def ZerosPost (v : Nat) (w : World) (e : Ending) (w' : World) : Prop :=
  ∃ z : Nat, e = .returned (.int .i64 z) ∧ (v = 0 → z = 0) ∧ (v ≠ 0 → ∃ m, v = 2 ^ z * (2 * m + 1)) ∧ w = w'
theorem zeros_found {xs : List Nat} {i z m : Nat} (hz : ∀ j, j < i → nth xs j = 0) (hi : i < xs.length) (h : nth xs i = 2 ^ z * (2 * m + 1)) (hz64 : z < 64) :
    ev 18446744073709551616 xs ≠ 0 ∧ ∃ m', ev 18446744073709551616 xs = 2 ^ (64 * i + z) * (2 * m' + 1) := by
  have e1 := ev_split 18446744073709551616 xs i (by omega)
  rw [drop_nth hi, ev] at e1
  have e2 : pre 18446744073709551616 xs i = 0 := by
    have h2 := eq_of_digits (b := 18446744073709551616) (xs := xs) (ys := []) (n := i) (fun j hj => by rw [hz j hj, nth_nil])
    rw [h2]; simp [pre, ev]
  rw [e2, Nat.zero_add, h] at e1
  generalize ev 18446744073709551616 (xs.drop (i + 1)) = r at e1
  have e5 : 18446744073709551616 * r = 2 ^ z * (2 * (2 ^ (63 - z) * r)) := by
    rw [split_word z hz64, show 64 - z = (63 - z) + 1 from by omega, Nat.pow_succ]
    grind
  have e6 : ev 18446744073709551616 xs = 2 ^ (64 * i + z) * (2 * (m + 2 ^ (63 - z) * r) + 1) := by
    rw [e1, e5, two_word]
    generalize 2 ^ (63 - z) * r = q
    grind
  refine ⟨?_, _, e6⟩
  rw [e6]
  have hp : 0 < 2 ^ (64 * i + z) := Nat.pow_pos (by omega)
  have := Nat.mul_pos hp (show 0 < 2 * (m + 2 ^ (63 - z) * r) + 1 by omega)
  omega

end Go.Proofs.Ythpohkklggabpaa
