/-
  Package div: shorten, Gcd.
-/
import Derived.Test.YtofdbihohljmpaaGcdB
import Derived.Test.YtofdbihohljmpaaGcdC
import Derived.Test.YtofdbihohljmpaaGcdD
/-! Contracts: div.shorten, Gcd. -/
namespace Go.Proofs.Ytofdbihohljmpaa
open Go.RowKit
set_option linter.unusedVariables false

/-- Two numbers of n words at the head of two blocks, with what they have in common. -/
structure Two (w : World) (base G g n ga gb ca cb : Nat) (La Lb : List Nat) : Prop where
  ne : ga ≠ gb
  ba : base ≤ ga
  bb : base ≤ gb
  la : La.length = ca
  lb : Lb.length = cb
  na : n ≤ ca
  nb : n ≤ cb
  ma : ca ≤ 137438953472
  mb : cb ≤ 137438953472
  wa : Wb w ga 35 La
  wb : Wb w gb 35 Lb
  gcd : Nat.gcd (ev 18446744073709551616 (La.take n)) (ev 18446744073709551616 (Lb.take n)) = G
  sum : ev 18446744073709551616 (La.take n) + ev 18446744073709551616 (Lb.take n) = g
/-- The loop of shorten. -/
def ShRel (w : World) (base G g : Nat) (s0 s6 : Value) (wr : World) : Prop :=
  ∃ (n ga gb ca cb : Nat) (La Lb : List Nat), s0 = .slice (some ⟨ga, 0, none⟩) n ca ∧ s6 = .slice (some ⟨gb, 0, none⟩) n cb ∧ Two wr base G g n ga gb ca cb La Lb ∧ ev 18446744073709551616 (Lb.take n) ≤ ev 18446744073709551616 (La.take n) ∧ (n = 0 ∨ nth La (n - 1) ≠ 0) ∧ Below base w wr
/-- Behind the step or the jump. -/
def ShMid (w : World) (base G g n ga gb ca cb : Nat) (wx : World) : Prop :=
  ∃ (g' : Nat) (La Lb : List Nat), g' < g ∧ Two wx base G g' n ga gb ca cb La Lb ∧ Below base w wx
/-- Behind the exchange. -/
def ShEx (w : World) (base G g n : Nat) (s0 s6 : Value) (wx : World) : Prop :=
  ∃ (g' ga gb ca cb : Nat) (La Lb : List Nat), s0 = .slice (some ⟨ga, 0, none⟩) n ca ∧ s6 = .slice (some ⟨gb, 0, none⟩) n cb ∧ g' < g ∧ Two wx base G g' n ga gb ca cb La Lb ∧ ev 18446744073709551616 (Lb.take n) ≤ ev 18446744073709551616 (La.take n) ∧ Below base w wx
theorem Two.swap {w : World} {base G g n ga gb ca cb : Nat} {La Lb : List Nat} (h : Two w base G g n ga gb ca cb La Lb) : Two w base G g n gb ga cb ca Lb La :=
  ⟨h.ne.symm, h.bb, h.ba, h.lb, h.la, h.nb, h.na, h.mb, h.ma, h.wb, h.wa, by rw [Nat.gcd_comm]; exact h.gcd, by rw [Nat.add_comm]; exact h.sum⟩
theorem Two.below {w w' : World} {base G g n ga gb ca cb : Nat} {La Lb : List Nat} (h : Two w base G g n ga gb ca cb La Lb) (hb : Below w.heap.size w w') : Two w' base G g n ga gb ca cb La Lb :=
  { h with wa := ⟨h.wa.1.below hb h.wa.1.lt, h.wa.2⟩, wb := ⟨h.wb.1.below hb h.wb.1.lt, h.wb.2⟩ }
theorem Two.nva {w : World} {base G g n ga gb ca cb : Nat} {La Lb : List Nat} (h : Two w base G g n ga gb ca cb La Lb) : Nv w (some ⟨ga, 0, none⟩) n ca (ev 18446744073709551616 (La.take n)) :=
  ⟨_, h.wa.1.rd0.take n, by have := h.la; have := h.na; simp; omega, h.na, by have := h.ma; omega, h.wa.2.take n, rfl⟩
theorem Two.nvb {w : World} {base G g n ga gb ca cb : Nat} {La Lb : List Nat} (h : Two w base G g n ga gb ca cb La Lb) : Nv w (some ⟨gb, 0, none⟩) n cb (ev 18446744073709551616 (Lb.take n)) := h.swap.nva
/-- A lesser number fits into as many words. -/
theorem take_fits {b : Nat} {zs us : List Nat} (hb : 2 ≤ b) (lz : Low b zs) (h : ev b us ≤ ev b zs) (hl : sl zs ≤ us.length) : ev b (us.take (sl zs)) = ev b us := by
  have h1 := ev_split b us (sl zs) hl
  have h2 : ev b zs < b ^ sl zs := by
    have := ev_lt (lz.take (sl zs))
    rw [ev_take_sl, trim_len] at this
    exact this
  unfold pre at h1
  rcases Nat.eq_zero_or_pos (ev b (us.drop (sl zs))) with h3 | h3
  · rw [h3, Nat.mul_zero, Nat.add_zero] at h1
    exact h1.symm
  · have := Nat.le_mul_of_pos_right (b ^ sl zs) h3
    omega
/-- Trimmed to the greater one's length: what the next round begins with. -/
theorem ShEx.next {w wx : World} {base G n : Nat} {ga gb ca cb g' : Nat} {La Lb : List Nat} (hT : Two wx base G g' n ga gb ca cb La Lb) (hle : ev 18446744073709551616 (Lb.take n) ≤ ev 18446744073709551616 (La.take n)) (hB : Below base w wx) :
    ShRel w base G g' (.slice (some ⟨ga, 0, none⟩) (sl (La.take n)) ca) (.slice (some ⟨gb, 0, none⟩) (sl (La.take n)) cb) wx ∧ sl (La.take n) ≤ cb ∧ sl (La.take n) ≤ ca := by
  have hl : (La.take n).length = n := by have := hT.la; have := hT.na; simp; omega
  have hlb : (Lb.take n).length = n := by have := hT.lb; have := hT.nb; simp; omega
  have hs := sl_le (La.take n)
  rw [hl] at hs
  have e1 : ev 18446744073709551616 (La.take (sl (La.take n))) = ev 18446744073709551616 (La.take n) := by
    have := ev_take_sl 18446744073709551616 (La.take n)
    rwa [List.take_take, Nat.min_eq_left hs] at this
  have e2 : ev 18446744073709551616 (Lb.take (sl (La.take n))) = ev 18446744073709551616 (Lb.take n) := by
    have := take_fits (by omega) (hT.wa.2.take n) hle (by omega)
    rwa [List.take_take, Nat.min_eq_left hs] at this
  refine ⟨⟨sl (La.take n), ga, gb, ca, cb, La, Lb, rfl, rfl, { hT with na := by have := hT.na; omega, nb := by have := hT.nb; omega, gcd := by rw [e1, e2]; exact hT.gcd, sum := by rw [e1, e2]; exact hT.sum }, by rw [e1, e2]; exact hle, ?_, hB⟩, by have := hT.nb; omega, by have := hT.na; omega⟩
  rcases Nat.eq_zero_or_pos (sl (La.take n)) with h0 | h0
  · exact .inl h0
  · have := sl_top h0
    rw [nth_take (by omega)] at this
    exact .inr this
/-- What shorten answers. -/
def ShPost (w : World) (base G : Nat) (e : Ending) (w' : World) : Prop :=
  ∃ (n ga ca y k : Nat) (La : List Nat) (B : Option Addr) (cb : Nat), e = .returned (.tuple #[.slice (some ⟨ga, 0, none⟩) n ca, .slice B k cb]) ∧ base ≤ ga ∧ La.length = ca ∧ n ≤ ca ∧ ca ≤ 137438953472 ∧ Wb w' ga 35 La ∧ (n = 0 ∨ nth La (n - 1) ≠ 0) ∧
    k ≤ 1 ∧ (k = 0 ∨ 0 < y) ∧ Nv w' B k cb y ∧ Hid (Nat.gcd (ev 18446744073709551616 (La.take n)) y = G) ∧ Below base w w'

theorem front_take {zs L : List Nat} {n : Nat} (h : zs.length = n) : (zs ++ L.drop n).take n = zs := by rw [List.take_append_of_le_length (by omega), List.take_of_length_le (by omega)]
theorem front_len {zs L : List Nat} {n c : Nat} (h : zs.length = n) (hl : L.length = c) (hn : n ≤ c) : (zs ++ L.drop n).length = c := by simp; omega
theorem mid_step {w w6 w7 : World} {base G g n ga gb ca cb x y : Nat} {La Lb : List Nat} {e : Ending} (T : Two w6 base G g n ga gb ca cb La Lb) (hx : ev 18446744073709551616 (La.take n) = x) (hy : ev 18446744073709551616 (Lb.take n) = y) (hle : y ≤ x) (h0 : 0 < y) (hB : Below base w w6) (hbase : base ≤ w6.heap.size)
    (h : StPost w6 base ga n (x % y) La e w7) : e = .returned (.tuple #[]) ∧ ShMid w base G g n ga gb ca cb w7 := by
  obtain ⟨zs, rfl, hl, hz, W, t⟩ := h
  have wb := T.wb.tch t fun j _ h => T.ne h.1.symm
  have hm := Nat.mod_lt x h0
  have ez : ev 18446744073709551616 ((zs ++ La.drop n).take n) = x % y := by rw [front_take hl]; exact hz.out
  refine ⟨rfl, x % y + y, zs ++ La.drop n, Lb, by rw [← T.sum, hx, hy]; omega, { T with la := front_len hl T.la T.na, wa := W, wb := wb, gcd := ?_, sum := ?_ }, hB.trans (t.below hbase fun a h => by rw [h.1]; exact T.ba)⟩
  · rw [ez, hy, ← Nat.gcd_rec, Nat.gcd_comm, ← hx, ← hy]; exact T.gcd
  · rw [ez, hy]
theorem mid_take {w w6 w7 : World} {base G g n ga gb ca cb x y D1 D2 p q r s : Nat} {La Lb : List Nat} {e : Ending} (T : Two w6 base G g n ga gb ca cb La Lb) (hx : ev 18446744073709551616 (La.take n) = x) (hy : ev 18446744073709551616 (Lb.take n) = y) (h0 : 0 < y) (hB : Below base w w6) (hq : 1 ≤ q) (hp : 1 ≤ p) (hs : 1 ≤ s)
    (h1 : x * p = y * q + D1) (h2 : y * s = x * r + D2) (h3 : s * D1 + q * D2 = x) (h4 : r * D1 + p * D2 = y) (h : TkPost w6 base ga gb n D1 D2 La Lb e w7) : e = .returned (.tuple #[]) ∧ ShMid w base G g n ga gb ca cb w7 := by
  obtain ⟨us1, us2, rfl, l1, l2, e1, e2, W1, W2, B, _⟩ := h
  have ez1 : ev 18446744073709551616 ((us1 ++ La.drop n).take n) = D1 := by rw [front_take l1]; exact e1.out
  have ez2 : ev 18446744073709551616 ((us2 ++ Lb.drop n).take n) = D2 := by rw [front_take l2]; exact e2.out
  refine ⟨rfl, D1 + D2, us1 ++ La.drop n, us2 ++ Lb.drop n, by rw [← T.sum, hx, hy]; exact jump_less h3 h4 hq hp hs h0, { T with la := front_len l1 T.la T.na, lb := front_len l2 T.lb T.nb, wa := W1, wb := W2, gcd := ?_, sum := ?_ }, hB.trans B⟩
  · rw [ez1, ez2, jump_gcd h1 h2 h3 h4, ← hx, ← hy]; exact T.gcd
  · rw [ez1, ez2]

end Go.Proofs.Ytofdbihohljmpaa
