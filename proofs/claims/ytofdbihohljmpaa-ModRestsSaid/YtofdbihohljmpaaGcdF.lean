/-
  Package div: Gcd, Lcm.
-/
import Derived.Test.YtofdbihohljmpaaGcdE
/-! Contracts: div.Gcd, Lcm. -/
namespace Go.Proofs.Ytofdbihohljmpaa
open Go.RowKit
set_option linter.unusedVariables false

theorem norm_nb {A : Option Addr} {n c x : Nat} {w : World} (hx : Nv w A n c x) (hn : n ≤ 1099511627776) :
    Calls Try.prog 59 #[.slice A n c] w (NbPost x w) := by
  obtain ⟨xs, h1, h2, h3, h4, h5, rfl⟩ := hx
  exact norm_blk A n c xs w h1 h2 h3 h4 h5 hn
theorem norm_nat {A : Option Addr} {n c x : Nat} {w : World} (hx : Nv w A n c x) (hn : n ≤ 1099511627776) :
    Calls Try.prog 59 #[.slice A n c] w (NatPost x w) := by
  obtain ⟨xs, h1, h2, h3, h4, h5, rfl⟩ := hx
  exact norm_calls A n c xs w h1 h2 h3 h4 h5 hn
theorem NatPost.up {v : Nat} {w w1 w' : World} {e : Ending} (h : NatPost v w1 e w') (hb : Below w.heap.size w w1) : NatPost v w e w' := by
  obtain ⟨A, c, he, hg⟩ := h
  exact ⟨A, c, he, hg.up hb⟩
theorem of_nat (x : Nat) (hx : x < 18446744073709551616) (w : World) : Calls Try.prog 29 #[.int .u64 x] w (NatPost x w) := of_calls x hx w
theorem gcd_le_left' (x y : Nat) (hx : 0 < x) : Nat.gcd x y ≤ x := Nat.le_of_dvd hx (Nat.gcd_dvd_left x y)
theorem gcd_word {x y : Nat} (hx : x < 18446744073709551616) (hy : y < 18446744073709551616) : Nat.gcd x y < 18446744073709551616 := by
  rcases Nat.eq_zero_or_pos x with h | h
  · rw [h, Nat.gcd_zero_left]; exact hy
  · exact Nat.lt_of_le_of_lt (gcd_le_left' x y h) hx
/-- The greatest number left, in its own block: normal, and the call's own. -/
theorem more_end {w w' : World} {ga n ca v : Nat} {La : List Nat} (W : Wb w' ga 35 La) (hl : La.length = ca) (hn : n ≤ ca) (hm : ca ≤ 137438953472) (ht : n = 0 ∨ nth La (n - 1) ≠ 0) (hg : w.heap.size ≤ ga) (hB : Below w.heap.size w w') (hv : ev 18446744073709551616 (La.take n) = v) :
    NatPost v w (.returned (.slice (some ⟨ga, 0, none⟩) n ca)) w' := by
  have hlen : (La.take n).length = n := by simp; omega
  have hs : sl (La.take n) = n := by
    refine sl_eq (fun j hj => nth_ge (by omega)) ?_
    rcases ht with h | h
    · exact .inl h
    · rcases Nat.eq_zero_or_pos n with h0 | h0
      · exact .inl h0
      · rw [nth_take (by omega)]; exact .inr h
  have e := cn_ev 18446744073709551616 (by omega) (La.take n) (W.2.take n)
  rw [hs, List.take_take, Nat.min_self, hv] at e
  have ho := W.1.owns (base := w.heap.size) (n := n) hg (by omega) (by rw [hl]; unfold maxLen; omega)
  rw [hl] at ho
  refine ⟨_, ca, by rw [e, hlen], ?_, hB⟩
  rw [e, hlen]
  exact ho

/-- Behind the shortening: the greater number, in a block of the call's own, and a word at most. -/
def GcCut (w : World) (G : Nat) (s9 s11 : Value) (wx : World) : Prop :=
  ∃ (n ga ca y k : Nat) (La : List Nat) (B : Option Addr) (cb : Nat), s11 = .slice (some ⟨ga, 0, none⟩) n ca ∧ s9 = .slice B k cb ∧ w.heap.size ≤ ga ∧ La.length = ca ∧ n ≤ ca ∧ ca ≤ 137438953472 ∧ Wb wx ga 35 La ∧ (n = 0 ∨ nth La (n - 1) ≠ 0) ∧
    k ≤ 1 ∧ (k = 0 ∨ 0 < y) ∧ Nv wx B k cb y ∧ Hid (Nat.gcd (ev 18446744073709551616 (La.take n)) y = G) ∧ Below w.heap.size w wx
theorem top_cn (v : Nat) : (cn 18446744073709551616 v).length = 0 ∨ nth (cn 18446744073709551616 v) ((cn 18446744073709551616 v).length - 1) ≠ 0 := by
  rcases Nat.eq_zero_or_pos (cn 18446744073709551616 v).length with h | h
  · exact .inl h
  · have := sl_top (xs := cn 18446744073709551616 v) (by rw [sl_cn _ _ (by omega)]; exact h)
    rw [sl_cn _ _ (by omega)] at this
    exact .inr this

theorem gcd_lt {x y n m : Nat} (hx : x < 18446744073709551616 ^ n) (hy : y < 18446744073709551616 ^ m) : Nat.gcd x y < 18446744073709551616 ^ max n m := by
  have p1 := pow_big (Nat.le_max_left n m)
  have p2 := pow_big (Nat.le_max_right n m)
  rcases Nat.eq_zero_or_pos x with h | h
  · rw [h, Nat.gcd_zero_left]; omega
  · have := gcd_le_left' x y h
    omega
/-- What Lcm reckons. -/
def lcmV (x y : Nat) : Nat := x / Nat.gcd x y * y
theorem lcmV_mul (x y : Nat) : Nat.gcd x y * lcmV x y = x * y := by
  unfold lcmV
  rw [← Nat.mul_assoc, Nat.mul_div_cancel' (Nat.gcd_dvd_left x y)]
end Go.Proofs.Ytofdbihohljmpaa
