/-
  The reference of layer 3: bit, DivMod, Zero, Divides.
-/
import Derived.Test.YtfpncmhaoadfdaaGreatRefA
/-! The reference of layer 3: bit, DivMod, Zero, Divides. -/
namespace Go.Proofs.YtfpncmhaoadfdaaGreat
open Go.RowKit
set_option linter.unusedVariables false

theorem bit16 {v i s t : Nat} (hi : i = 16 * s + t) (ht : t < 16) (hs : s < (cn 65536 v).length) : v / 2 ^ i % 2 = nth (cn 65536 v) s / 2 ^ t % 2 := by
  have e1 := ev_split 65536 (cn 65536 v) s (by omega)
  rw [ev_cn _ _ (by omega), drop_nth hs, ev] at e1
  have e2 := pre_lt (cn_low 65536 v (by omega)) (by omega) s
  have e3 : (2 : Nat) ^ i = 65536 ^ s * 2 ^ t := by rw [hi, Nat.pow_add, Nat.pow_mul]
  rw [e3, ← Nat.div_div_eq_div_mul]
  have e4 : v / 65536 ^ s = nth (cn 65536 v) s + 65536 * ev 65536 ((cn 65536 v).drop (s + 1)) := by
    generalize nth (cn 65536 v) s = d at *
    generalize ev 65536 ((cn 65536 v).drop (s + 1)) = r at *
    generalize pre 65536 (cn 65536 v) s = p at *
    rw [e1, Nat.add_mul_div_left _ _ (Nat.pow_pos (by omega)), Nat.div_eq_of_lt e2, Nat.zero_add]
  rw [e4]
  generalize ev 65536 ((cn 65536 v).drop (s + 1)) = r
  have e5 : 65536 * r = 2 ^ t * (2 * (2 ^ (15 - t) * r)) := by
    have : (65536 : Nat) = 2 ^ t * 2 ^ (16 - t) := by rw [← Nat.pow_add, show t + (16 - t) = 16 from by omega]
    rw [this, show 16 - t = (15 - t) + 1 from by omega, Nat.pow_succ]
    grind
  rw [e5, Nat.add_mul_div_left _ _ (Nat.pow_pos (by omega)), Nat.add_mul_mod_self_left]

theorem Dv.len {w : World} {A : Option Addr} {n c v K : Nat} (h : Dv w A n c v) (hv : v < 65536 ^ K) : n ≤ K := by rw [← h.2.1]; exact cn_len_of_lt _ _ _ (by omega) hv
/-- One bit more: the quotient and the rest. -/
theorem dmb_step {X b y : Nat} (hy : 0 < y) (hb : b ≤ 1) : (2 * X + b) / y = (X / y + X / y) + (if y ≤ X % y + X % y + b then 1 else 0) ∧ (2 * X + b) % y = if y ≤ X % y + X % y + b then X % y + X % y + b - y else X % y + X % y + b := by
  have h1 := Nat.div_add_mod X y
  have h2 := Nat.mod_lt X hy
  generalize X / y = q at *
  generalize X % y = r at *
  have h3 : 2 * X + b = (r + r + b) + y * (q + q) := by rw [← h1, Nat.mul_add y q q]; omega
  split
  · rename_i h
    have h4 : 2 * X + b = (r + r + b - y) + y * (q + q + 1) := by rw [Nat.mul_add y (q + q) 1, Nat.mul_one]; omega
    rw [h4, Nat.add_mul_div_left _ _ hy, Nat.add_mul_mod_self_left, Nat.div_eq_of_lt (by omega), Nat.mod_eq_of_lt (by omega)]
    omega
  · rename_i h
    rw [h3, Nat.add_mul_div_left _ _ hy, Nat.add_mul_mod_self_left, Nat.div_eq_of_lt (by omega), Nat.mod_eq_of_lt (by omega)]
    omega
theorem half_more (v k : Nat) : v / 2 ^ k = 2 * (v / 2 ^ (k + 1)) + v / 2 ^ k % 2 := by
  rw [Nat.pow_succ, ← Nat.div_div_eq_div_mul]; omega
/-- Quotient and rest are answered. -/
def RdmPost (q r a b : Nat) (w : World) (e : Ending) (w' : World) : Prop :=
  ∃ A n c A' n' c', e = .returned (.tuple #[.slice A n c, .slice A' n' c']) ∧ Dv w' A n c q ∧ Dv w' A' n' c' r ∧ n ≤ a ∧ n' ≤ b ∧ Below w.heap.size w w'
/-- The loop of the reference's DivMod: k bits are left. -/
def RdmRel (w : World) (x y k : Nat) (s6 s7 : Value) (wr : World) : Prop :=
  ∃ A n c A' n' c', s6 = .slice A n c ∧ s7 = .slice A' n' c' ∧ Dv wr A n c (x / 2 ^ k / y) ∧ Dv wr A' n' c' (x / 2 ^ k % y) ∧ Below w.heap.size w wr
theorem dv_one {w : World} : Dv (w.alloc (.cells #[.int .i64 1] 3)) (some ⟨w.heap.size, 0, none⟩) 1 1 1 := by
  have hb : Blk (w.alloc (.cells #[.int .i64 1] 3)) w.heap.size 3 .i64 [1] := heap_alloc_new w _
  have e : cn 65536 1 = [1] := by decide
  exact ⟨by rw [e]; exact hb.rd0, by rw [e]; rfl, Nat.le_refl _, by omega⟩

end Go.Proofs.YtfpncmhaoadfdaaGreat
