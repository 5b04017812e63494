/-
  Package div: guess, takeOut.
-/
import Derived.Test.YtfdgblmegiehnaaDoorDivB
/-! Contracts: div.guess, div.takeOut. -/
namespace Go.Proofs.YtfdgblmegiehnaaDoor
open Go.RowKit
set_option linter.unusedVariables false

/-- What guess knows: the three greatest words of what is left, and the two of the divisor. -/
theorem gs_top {b m : Nat} {zs ys : List Nat} (hb : 2 ≤ b) (lz : Low b zs) (hz : zs.length = m + 3) (hy : ys.length = m + 2) :
    ev b zs / ev b ys * (nth ys (m + 1) * b + nth ys m) ≤ nth zs (m + 2) * b * b + nth zs (m + 1) * b + nth zs m := by
  have z1 := pre_succ b zs m
  have z2 := pre_succ b zs (m + 1)
  have z3 := pre_succ b zs (m + 2)
  have y1 := pre_succ b ys m
  have y2 := pre_succ b ys (m + 1)
  have zl := pre_lt lz (by omega) m
  rw [show m + 2 + 1 = zs.length from by omega, pre_len] at z3
  rw [show m + 1 + 1 = ys.length from by omega, pre_len] at y2
  have h1 := Nat.div_mul_le_self (ev b zs) (ev b ys)
  have hp : 0 < b ^ m := Nat.pow_pos (by omega)
  generalize ev b zs / ev b ys = q at *
  rw [z3, z2, z1, y2, y1, show b ^ (m + 1) = b ^ m * b from Nat.pow_succ .., show b ^ (m + 2) = b ^ m * b * b from by rw [Nat.pow_succ, Nat.pow_succ]] at h1
  have h2 : q * (nth ys (m + 1) * b + nth ys m) * b ^ m < (nth zs (m + 2) * b * b + nth zs (m + 1) * b + nth zs m + 1) * b ^ m := by
    have e1 : q * (pre b ys m + b ^ m * nth ys m + b ^ m * b * nth ys (m + 1)) = q * pre b ys m + q * (nth ys (m + 1) * b + nth ys m) * b ^ m := by
      generalize b ^ m = P; grind
    have e2 : pre b zs m + b ^ m * nth zs m + b ^ m * b * nth zs (m + 1) + b ^ m * b * b * nth zs (m + 2) + b ^ m = (nth zs (m + 2) * b * b + nth zs (m + 1) * b + nth zs m + 1) * b ^ m + pre b zs m := by
      generalize b ^ m = P; grind
    rw [e1] at h1
    omega
  have := Nat.lt_of_mul_lt_mul_right h2
  omega
/-- Where all but the least word is less than the divisor: the quotient is a word, the greatest words are in order. -/
theorem gs_fits {b m : Nat} {zs ys : List Nat} (hb : 2 ≤ b) (lz : Low b zs) (ly : Low b ys) (hz : zs.length = m + 3) (hy : ys.length = m + 2) (h : ev b (zs.drop 1) < ev b ys) :
    ev b zs / ev b ys < b ∧ nth zs (m + 2) ≤ nth ys (m + 1) := by
  have h0 := drop_nth (L := zs) (q := 0) (by omega)
  rw [List.drop_zero, Nat.zero_add] at h0
  constructor
  · refine (Nat.div_lt_iff_lt_mul (by omega)).2 ?_
    rw [h0, ev]
    have := lz.any (by omega) 0
    have h2 : b * (ev b (zs.drop 1) + 1) ≤ b * ev b ys := Nat.mul_le_mul_left _ h
    rw [Nat.mul_add, Nat.mul_one] at h2
    omega
  · have y2 := pre_succ b ys (m + 1)
    rw [show m + 1 + 1 = ys.length from by omega, pre_len] at y2
    have yl := pre_lt ly (by omega) (m + 1)
    have z2 := pre_succ b (zs.drop 1) (m + 1)
    rw [nth_drop, show m + 1 + 1 = (zs.drop 1).length from by simp; omega, pre_len, show 1 + (m + 1) = m + 2 from by omega] at z2
    rcases Nat.lt_or_ge (nth ys (m + 1)) (nth zs (m + 2)) with h3 | h3
    · exfalso
      have h4 : b ^ (m + 1) * (nth ys (m + 1) + 1) ≤ b ^ (m + 1) * nth zs (m + 2) := Nat.mul_le_mul_left _ h3
      rw [Nat.mul_add, Nat.mul_one] at h4
      omega
    · exact h3
/-- In the loop of guess. -/
def GsRel (q f z2 z1 t l o : Nat) : Prop := q ≤ t ∧ t < 18446744073709551616 ∧ l < 18446744073709551616 ∧ o ≤ 1 ∧ (o = 0 → t * f + l = z2 * 18446744073709551616 + z1)
theorem gs_small {q f s z2 z1 z0 : Nat} (h : q * (f * 18446744073709551616 + s) ≤ z2 * 18446744073709551616 * 18446744073709551616 + z1 * 18446744073709551616 + z0) (hz0 : z0 < 18446744073709551616) (hz1 : z1 < 18446744073709551616) (hlt : z2 < f) (hf : f < 18446744073709551616) :
    GsRel q f z2 z1 ((z2 * 18446744073709551616 + z1) / f) ((z2 * 18446744073709551616 + z1) % f) 0 := by
  have h1 := Nat.div_add_mod (z2 * 18446744073709551616 + z1) f
  have h2 := Nat.mod_lt (z2 * 18446744073709551616 + z1) (show 0 < f by omega)
  refine ⟨?_, (Nat.div_lt_iff_lt_mul (by omega)).2 ?_, by omega, by omega, fun _ => by rw [Nat.mul_comm]; exact h1⟩
  · refine (Nat.le_div_iff_mul_le (by omega)).2 ?_
    rw [Nat.mul_add, ← Nat.mul_assoc] at h
    generalize q * f = p at *
    generalize q * s = r at *
    omega
  · have : (z2 + 1) * 18446744073709551616 ≤ f * 18446744073709551616 := Nat.mul_le_mul_right _ hlt
    rw [Nat.mul_comm] at this
    omega
theorem gs_big {q f z1 l o : Nat} (hq : q < 18446744073709551616) (hl : l < 18446744073709551616) (ho : o ≤ 1) (h : l + 18446744073709551616 * o = z1 + f) : GsRel q f f z1 18446744073709551615 l o :=
  ⟨by omega, by omega, hl, ho, fun h0 => by subst h0; omega⟩
theorem gs_next {q f s z2 z1 z0 t l hi lo l' o' : Nat} (h : q * (f * 18446744073709551616 + s) ≤ z2 * 18446744073709551616 * 18446744073709551616 + z1 * 18446744073709551616 + z0) (hr : GsRel q f z2 z1 t l 0) (hm : hi * 18446744073709551616 + lo = t * s)
    (hz0 : z0 < 18446744073709551616) (hlo : lo < 18446744073709551616) (hgt : l < hi ∨ l = hi ∧ z0 < lo) (hl : l' < 18446744073709551616) (ho : o' ≤ 1) (ha : l' + 18446744073709551616 * o' = l + f) : 1 ≤ t ∧ GsRel q f z2 z1 (t - 1) l' o' := by
  obtain ⟨h1, h2, h3, h4, h5⟩ := hr
  have h5 := h5 rfl
  have h6 : q < t := by
    rcases Nat.lt_or_ge q t with h6 | h6
    · exact h6
    · exfalso
      obtain rfl : q = t := by omega
      rw [Nat.mul_add, ← Nat.mul_assoc, ← hm] at h
      generalize q * f = p at *
      omega
  obtain ⟨t, rfl⟩ : ∃ u, t = u + 1 := ⟨t - 1, by omega⟩
  refine ⟨by omega, by omega, by omega, hl, ho, fun h0 => ?_⟩
  subst h0
  rw [Nat.add_mul, Nat.one_mul] at h5
  rw [Nat.add_sub_cancel]
  omega
/-- What guess answers: never too little. -/
def GsPost (q : Nat) (w : World) (e : Ending) (w' : World) : Prop := ∃ t : Nat, q ≤ t ∧ t < 18446744073709551616 ∧ e = .returned (.int .u64 (t : Int)) ∧ Sees w w'

theorem to_more {b l R V t u : Nat} (h : u + V * t = R + b ^ l * 1) (hu : u < b ^ l) (hV : 0 < V) : R / V + 1 ≤ t := by
  refine (Nat.div_lt_iff_lt_mul hV).2 ?_
  rw [Nat.mul_comm]
  omega
theorem to_back {T R V t u u' c : Nat} (h : u + V * (t + 1) = R + T * 1) (h2 : u' + T * c = u + V) (hc : c ≤ 1) : u' + V * t = R + T * (1 - c) := by
  rw [Nat.mul_add, Nat.mul_one] at h
  rcases Nat.eq_zero_or_pos c with rfl | h0
  · omega
  · obtain rfl : c = 1 := by omega
    omega
theorem to_stop {T R V t u : Nat} (h : u + V * t = R + T * 0) (ht : R / V ≤ t) (hV : 0 < V) : t = R / V ∧ u = R % V := by
  have h1 : t ≤ R / V := (Nat.le_div_iff_mul_le hV).2 (by rw [Nat.mul_comm]; omega)
  obtain rfl : t = R / V := by omega
  have := Nat.div_add_mod R V
  exact ⟨rfl, by omega⟩
/-- What takeOut leaves. -/
def ToPost (w : World) (g p l R V : Nat) (e : Ending) (w' : World) : Prop :=
  ∃ us : List Nat, e = .returned (.int .u64 ((R / V : Nat) : Int)) ∧ us.length = l ∧ Hid (ev 18446744073709551616 us = R % V) ∧ Ar w' g p 22 us ∧ Tch (Seg g p l) w w' ∧ w'.heap.size = w.heap.size
/-- The loop of takeOut. -/
def ToRel (w : World) (g p l R V t : Nat) (s5 s6 : Value) (wr : World) : Prop :=
  ∃ (us : List Nat) (c : Nat), s5 = .int .u64 (t : Int) ∧ s6 = .bool (decide (c = 1)) ∧ c ≤ 1 ∧ us.length = l ∧ R / V ≤ t ∧ t < 18446744073709551616 ∧ Hid (ev 18446744073709551616 us + V * t = R + 18446744073709551616 ^ l * c) ∧ Ar wr g p 22 us ∧
    Tch (Seg g p l) w wr ∧ wr.heap.size = w.heap.size

end Go.Proofs.YtfdgblmegiehnaaDoor
