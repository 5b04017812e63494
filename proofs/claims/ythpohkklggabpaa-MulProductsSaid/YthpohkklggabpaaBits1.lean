/-
  For quincunxlaw01.NatBits: numbers of bits; contracts of nat.Word, nat.Bits, nat.Bit, math/bits.TrailingZeros64, nat.Zeros, and of the reference's Bits.
-/
import Derived.Test.YthpohkklggabpaaNat10
import Derived.Shelf.Strconv.Itoa0
import Derived.Shelf.Spec.TrailingZeros
namespace Go.Proofs
open Go.Shelf
def Try.laysLen64_ren : Go.Shelf.Ren := ⟨fun | 129 => 47 | n => n, fun | 53 => 45 | 3 => 3 | 4 => 4 | 46 => 54 | 5 => 5 | 9 => 9 | n => n, fun | n => n⟩
theorem Try.laysLen64 : Go.Proofs.Lays.n129 Try.prog Try.laysLen64_ren := {
  mixed := by kernel_rfl
  f129 := Try.func47.trans (congrArg some (by kernel_rfl))
  t3 := Try.underlying3
  a3 := Try.isAgg3
  z3 := Try.sizeOf3
  v3 := Try.zeroValue3
  t4 := Try.underlying4
  a4 := Try.isAgg4
  z4 := Try.sizeOf4
  v4 := Try.zeroValue4
  t5 := Try.underlying5
  a5 := Try.isAgg5
  z5 := Try.sizeOf5
  v5 := Try.zeroValue5
  t9 := Try.underlying9
  a9 := Try.isAgg9
  z9 := Try.sizeOf9
  v9 := Try.zeroValue9
  t46 := Try.underlying54
  a46 := Try.isAgg54
  z46 := Try.sizeOf54
  v46 := Try.zeroValue54
  t53 := Try.underlying45
  a53 := Try.isAgg45
  z53 := Try.sizeOf45
  v53 := Try.zeroValue45 }
end Go.Proofs
namespace Go.Proofs.Ythpohkklggabpaa
open Go.RowKit

/-- The least n so that v is less than 2^n. -/
def bl (v : Nat) : Nat := if v = 0 then 0 else v.log2 + 1
theorem bl_le {v k : Nat} : bl v ≤ k ↔ v < 2 ^ k := by
  unfold bl
  by_cases h : v = 0
  · subst h
    simp [Nat.pow_pos]
  · rw [if_neg h, Nat.succ_le_iff, Nat.log2_lt h]
theorem bl_lt {v k : Nat} : k < bl v ↔ 0 < v / 2 ^ k := by
  have h := @bl_le v k
  have hp : 0 < 2 ^ k := Nat.pow_pos (by omega)
  constructor
  · intro h1
    exact Nat.div_pos (by omega) hp
  · intro h1
    have := (Nat.div_pos_iff).1 h1
    omega
theorem bl_zero : bl 0 = 0 := rfl
theorem bl_eq {v n : Nat} (h : ∀ k, n ≤ k ↔ v < 2 ^ k) : n = bl v :=
  Nat.le_antisymm ((h _).2 (bl_le.1 (Nat.le_refl _))) (bl_le.2 ((h _).1 (Nat.le_refl _)))
theorem bitLenAux_le : ∀ (f x k : Nat), x < 2 ^ f → (Lib.bitLenAux f x ≤ k ↔ x < 2 ^ k)
  | 0, x, k, h => by
    have h0 : x = 0 := by simpa using h
    subst h0
    simp [Lib.bitLenAux, Nat.pow_pos]
  | f + 1, x, k, h => by
    unfold Lib.bitLenAux
    by_cases h0 : x = 0
    · subst h0
      simp [Nat.pow_pos]
    · rw [if_neg h0]
      cases k with
      | zero => simp; omega
      | succ k =>
        have := bitLenAux_le f (x / 2) k (by rw [Nat.pow_succ] at h; omega)
        rw [Nat.pow_succ]
        omega
theorem bitLen_bl {x : Nat} (hx : x < 18446744073709551616) : Lib.bitLen x = bl x := bl_eq fun k => bitLenAux_le 64 x k hx
theorem bl_top {p x l : Nat} (hp : p < 18446744073709551616 ^ l) (hx : 0 < x) : bl (p + 18446744073709551616 ^ l * x) = 64 * l + bl x := by
  have e : (18446744073709551616 : Nat) ^ l = 2 ^ (64 * l) := by rw [Nat.pow_mul]
  rw [e] at hp ⊢
  refine (bl_eq fun k => ?_).symm
  have hq : 0 < 2 ^ (64 * l) := Nat.pow_pos (by omega)
  by_cases hk : 64 * l ≤ k
  · obtain ⟨d, rfl⟩ : ∃ d, k = 64 * l + d := ⟨k - 64 * l, by omega⟩
    have h1 := @bl_le x d
    rw [Nat.pow_add]
    constructor
    · intro h2
      have h3 : (x + 1) ≤ 2 ^ d := h1.1 (by omega)
      have h4 := Nat.mul_le_mul_left (2 ^ (64 * l)) h3
      rw [Nat.mul_add, Nat.mul_one] at h4
      omega
    · intro h2
      have h3 : 2 ^ (64 * l) * x < 2 ^ (64 * l) * 2 ^ d := by omega
      have h4 := Nat.lt_of_mul_lt_mul_left h3
      have := h1.2 h4
      omega
  · have h1 : (2 : Nat) ^ k ≤ 2 ^ (64 * l) := Nat.pow_le_pow_right (by omega) (by omega)
    have h2 : 2 ^ (64 * l) * 1 ≤ 2 ^ (64 * l) * x := Nat.mul_le_mul_left _ hx
    have h3 := @bl_le x 0
    have h4 : 0 < bl x := by
      rcases Nat.eq_zero_or_pos (bl x) with h | h
      · have := h3.1 (by omega); simp at this; omega
      · exact h
    constructor
    · intro h5; omega
    · intro h5; omega

theorem len64_calls (x : Nat) (hx : x < 18446744073709551616) (w : World) :
    Calls Try.prog 47 #[.int .u64 x] w fun e w' => e = .returned (.int .i64 (bl x)) ∧ w = w' :=
  (Any.bits_Len64 Try.laysLen64 (x : Int) w (by omega) (by omega)).mono fun _ _ ⟨he, hw⟩ => ⟨by rw [he, Int.toNat_natCast, bitLen_bl hx], hw.symm⟩

end Go.Proofs.Ythpohkklggabpaa
