/-
  For every input quincunxlaw01.NatShifts returns true and leaves what was there as it was: the walk.
-/
import Derived.Test.YtgdggpfldkmbdaaDoorRef9
namespace Go.Proofs.YtgdggpfldkmbdaaDoor
open Go.RowKit

def TwoCv (v k : Nat) (w : World) (e : Ending) (w' : World) : Prop :=
  ∃ A n c, e = .returned (.tuple #[.slice A n c, .bool true]) ∧ Cv w' A n c v ∧ n ≤ k ∧ Below w.heap.size w w'
theorem TwoPost.cv {v k : Nat} {w w' : World} {e : Ending} (h : TwoPost v w e w') (hk : v < 18446744073709551616 ^ k) : TwoCv v k w e w' := by
  obtain ⟨A, c, rfl, hg⟩ := h
  have hc := hg.cap
  exact ⟨A, _, c, rfl, ⟨hg.rd, rfl, hc.1, by have := hc.2; unfold maxLen at this; omega⟩, cn_len_of_lt _ _ _ (by omega) hk, hg.2⟩
theorem Cv.zero {w : World} {A : Option Addr} {n c v : Nat} (h : Cv w A n c v) (hv : v = 0) : n = 0 := by
  subst hv
  exact h.2.1.symm
theorem twice_v {A : Option Addr} {n c x k : Nat} {w : World} (hx : Dv w A n c x) (hn : n ≤ 1099511627776) (hk : k ≤ 1048576) :
    Calls Tryd.prog 15 #[.slice A n c, .int .i64 k] w (DvPost (x * 2 ^ k) (n + k / 16 + 1) w) := by
  have l1 := hx.lt
  refine (twice_calls A n c k (k / 16) (k % 16) _ w hx.1 hx.2.1 hn (cn_low _ _ (by omega)) hk (by omega) (by omega)).mono fun e w' h => ?_
  rw [ev_cn _ _ (by omega)] at h
  refine h.dv ?_
  have e1 : (2 : Nat) ^ k ≤ 2 ^ (16 * (k / 16) + 16) := Nat.pow_le_pow_right (by omega) (by omega)
  have e2 : (2 : Nat) ^ (16 * (k / 16) + 16) = 65536 ^ (k / 16 + 1) := by rw [show 16 * (k / 16) + 16 = 16 * (k / 16 + 1) from by omega, Nat.pow_mul]
  rw [Nat.add_assoc, Nat.pow_add, ← e2]
  exact Nat.lt_of_lt_of_le (Nat.mul_lt_mul_of_pos_right l1 (Nat.pow_pos (by omega))) (Nat.mul_le_mul_left _ e1)
theorem rhalf_v {A : Option Addr} {n c x k : Nat} {w : World} (hx : Dv w A n c x) (hn : n ≤ 1099511627776) (hk : k ≤ 9223372036854775807) :
    Calls Tryd.prog 9 #[.slice A n c, .int .i64 k] w (DvPost (x / 2 ^ k) n w) := by
  have l1 := hx.lt
  refine (rhalf_calls A n c k (k / 16) (k % 16) _ w hx.1 hx.2.1 hx.2.2.1 hn (cn_low _ _ (by omega)) hk (by omega) (by omega)).mono fun e w' h => ?_
  rw [ev_cn _ _ (by omega)] at h
  exact h.dv (Nat.lt_of_le_of_lt (Nat.div_le_self _ _) l1)
theorem shr_big {x n k : Nat} (hx : x < 18446744073709551616 ^ n) (hn : n ≤ 20) (hk : 1048576 < k) : x / 2 ^ k = 0 := by
  have e : (18446744073709551616 : Nat) ^ n = 2 ^ (64 * n) := by rw [Nat.pow_mul]
  rw [e] at hx
  exact Nat.div_eq_of_lt (Nat.lt_of_lt_of_le hx (Nat.pow_le_pow_right (by omega) (by omega)))

end Go.Proofs.YtgdggpfldkmbdaaDoor
