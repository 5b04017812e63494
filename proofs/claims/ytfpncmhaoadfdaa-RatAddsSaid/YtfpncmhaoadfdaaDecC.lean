/-
  Package dec: read, Parse, Len; quincunxlaw04.awake.
-/
import Derived.Test.YtfpncmhaoadfdaaDecB
import Derived.Deep.RegionHeld3
/-! Contracts: dec.read, dec.Parse. -/
namespace Go.Proofs.Ytfpncmhaoadfdaa
open Go.RowKit
set_option linter.unusedVariables false

theorem dig_words {l : List Nat} {n : Nat} (hd : Dig l) (hl : l.length ≤ 18 * 2 ^ n) : hv l < 18446744073709551616 ^ (2 ^ n) :=
  Nat.lt_trans (Nat.lt_of_lt_of_le (hv_lt hd) (ten_le hl)) (ten_word n)
/-- What dec.Parse answers of a numeral. -/
def ParPost (v : Nat) (w : World) (e : Ending) (w' : World) : Prop :=
  ∃ A n c, e = .returned (.tuple #[.slice A n c, .bool true]) ∧ Cv w' A n c v ∧ n ≤ 2048 ∧ Below w.heap.size w w'
end Go.Proofs.Ytfpncmhaoadfdaa

/-! Contract: dec.Len. -/
namespace Go.Proofs.Ytfpncmhaoadfdaa
open Go.RowKit
set_option linter.unusedVariables false

/-- dec.Len, on its way: the greatest power so far, and what may still come. -/
def LnRel (w : World) (v a : Nat) (t : Nat) (s4 s5 : Value) (wr : World) : Prop :=
  ∃ (A : Option Addr) (n c k : Nat), s4 = .slice A n c ∧ s5 = .int .i64 (k : Int) ∧ Cv wr A n c (10 ^ k) ∧ n ≤ 1048576 ∧ k + a ≤ t ∧ (k = 0 ∨ 10 ^ k ≤ v) ∧ v < 10 ^ (k + a) ∧ Below w.heap.size w wr
theorem LnRel.below {w wr w' : World} {v a t : Nat} {s4 s5 : Value} (h : LnRel w v a t s4 s5 wr) (hb : Below wr.heap.size wr w') : LnRel w v a t s4 s5 w' := by
  obtain ⟨A, n, c, k, h1, h2, h3, h4, h5, h6, h7, h8⟩ := h
  exact ⟨A, n, c, k, h1, h2, h3.below hb, h4, h5, h6, h7, h8.trans (hb.mono h8.size)⟩
/-- The second loop. -/
def LmRel (w : World) (v t : Nat) (s5 s8 : Value) (wr : World) : Prop :=
  ∃ (A : Option Addr) (n c k : Nat), s8 = .slice A n c ∧ s5 = .int .i64 (k : Int) ∧ Cv wr A n c (10 ^ (k + 1)) ∧ k ≤ t ∧ (k = 0 ∨ 10 ^ k ≤ v) ∧ Below w.heap.size w wr
theorem ten_len {w : World} {A : Option Addr} {n c k : Nat} (h : Cv w A n c (10 ^ k)) : n ≤ k + 1 := by
  rw [← h.2.1]
  refine cn_len_of_lt _ _ _ (by omega) ?_
  calc 10 ^ k ≤ 18446744073709551616 ^ k := Nat.pow_le_pow_left (by omega) _
    _ < 18446744073709551616 ^ (k + 1) := Nat.pow_lt_pow_right (by omega) (by omega)
theorem ten_lt_of_le {k t v : Nat} (h : 10 ^ k ≤ v) (hv : v < 10 ^ t) : k < t := (Nat.pow_lt_pow_iff_right (a := 10) (by omega)).1 (Nat.lt_of_le_of_lt h hv)
theorem ten_mul (j d : Nat) : (10 : Nat) ^ j * 10 ^ d = 10 ^ (j + d) := (Nat.pow_add 10 j d).symm
theorem ten_next (k : Nat) : 10 ^ k * 10 + 0 = 10 ^ (k + 1) := by rw [Nat.pow_succ]; rfl
end Go.Proofs.Ytfpncmhaoadfdaa
