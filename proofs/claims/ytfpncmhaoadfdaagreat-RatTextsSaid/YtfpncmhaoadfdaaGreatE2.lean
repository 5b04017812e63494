/-
  The walk of DecBack.
-/
import Derived.Test.YtfpncmhaoadfdaaGreatE1
/-! The walk of DecBack. -/
namespace Go.Proofs.YtfpncmhaoadfdaaGreat
open Go.RowKit
set_option linter.unusedVariables false
theorem ten_words (K : Nat) : (10 : Nat) ^ (19 * K) ≤ 18446744073709551616 ^ K := by
  rw [Nat.pow_mul]; exact Nat.pow_le_pow_left (by omega) _
theorem words_ten (K : Nat) : (18446744073709551616 : Nat) ^ K ≤ 10 ^ (20 * K) := by
  rw [Nat.pow_mul]; exact Nat.pow_le_pow_left (by omega) _
theorem cv_ten {w : World} {A : Option Addr} {n c v k K : Nat} (h : Cv w A n c v) (hv : v < 10 ^ k) (hK : k ≤ 19 * K) : n ≤ K := by
  rw [← h.2.1]
  exact cn_len_of_lt _ _ _ (by omega) (Nat.lt_of_lt_of_le hv (Nat.le_trans (ten_le hK) (ten_words K)))
theorem nv_digits {w : World} {A : Option Addr} {n c v : Nat} (h : Nv w A n c v) (hn : n ≤ 900) : nd v ≤ 20000 := by
  have h1 := h.lt
  exact Nat.le_trans (nd_le (k := 20 * n + 1) (by omega) (Nat.lt_of_lt_of_le h1 (Nat.le_trans (words_ten n) (ten_le (by omega))))) (by omega)
theorem num_str {v : Nat} (h : nd v ≤ 20000) : Num (bys (str (dgs v))) := by rw [bys_str (dig_dgs v).low]; exact num_dgs h
theorem hv_str (v : Nat) : hv (bys (str (dgs v))) = v := by rw [bys_str (dig_dgs v).low, hv_dgs]
theorem str_hv {s : ByteArray} (h : Num (bys s)) : str (dgs (hv (bys s))) = s := by rw [dgs_hv h, str_bys]

end Go.Proofs.YtfpncmhaoadfdaaGreat
