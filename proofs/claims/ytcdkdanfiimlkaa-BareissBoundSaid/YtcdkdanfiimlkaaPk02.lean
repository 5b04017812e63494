/-
  RefA
-/
import Derived.Test.YtcdkdanfiimlkaaPk01
import Derived.Deep.RegionLaw
import Derived.IntWalk

/-! The reference of layer 1: a row of digits that a call owns, one append more; Trim, at. -/
namespace Go.Proofs.Ytcdkdanfiimlkaa
open Go.RowKit

/-- v is a row of the call's own (made since w0) that reads as zs; what was there is as it was. -/
def OwnV (w0 w : World) (t : TypeId) (K : IntKind) (v : Value) (zs : List Nat) : Prop :=
  w.ownsRow w0.heap.size t 1 v zs.length (vs K zs) ∧ Below w0.heap.size w0 w
theorem OwnV.nil (w : World) (t : TypeId) (K : IntKind) : OwnV w w t K (.slice none 0 0) [] := ⟨World.ownsRow_nil w _ _ _, Below.refl _ _⟩
theorem OwnV.form {w0 w : World} {t : TypeId} {K : IntKind} {v : Value} {zs : List Nat} (h : OwnV w0 w t K v zs) : ∃ A c, v = .slice A zs.length c ∧ Got w0 w t K A c zs := by
  obtain ⟨h1, h2⟩ := h
  rcases h1.2 with ⟨rfl, h0⟩ | ⟨g, cap, cur, rfl, _⟩
  · refine ⟨none, 0, by rw [h0], ?_, h2⟩
    rw [h0]; rw [h0] at h1; exact h1
  · exact ⟨_, _, rfl, h1, h2⟩
theorem OwnV.below {w0 w w' : World} {t : TypeId} {K : IntKind} {v : Value} {zs : List Nat} (h : OwnV w0 w t K v zs) (hb : Below w.heap.size w w') : OwnV w0 w' t K v zs := by
  obtain ⟨h1, h2⟩ := h
  refine ⟨?_, h2.trans (hb.mono h2.size)⟩
  exact h1.kept (row := none) ⟨hb.os, hb.tape, hb.output, hb.size, fun k hk _ => hb.block k hk⟩ (by cases hv : v.ownBlock <;> simp)
theorem OwnV.drewN {w0 w : World} {t : TypeId} {K : IntKind} {v : Value} {zs : List Nat} (h : OwnV w0 w t K v zs) (q : Nat) : OwnV w0 (w.drewN q) t K v zs := h.below (Sees.below ⟨q, rfl⟩ _)

end Go.Proofs.Ytcdkdanfiimlkaa

/-! The reference of layer 1: From, the digits of words. -/
namespace Go.Proofs.Ytcdkdanfiimlkaa
open Go.RowKit

/-- The digits of i words, and k digits of the next one, of which x is left. -/
def Splits (xs D : List Nat) (i k x : Nat) : Prop :=
  D.length = 4 * i + k ∧ Low 65536 D ∧ ev 65536 D + 65536 ^ (4 * i + k) * x = pre 18446744073709551616 xs i + 18446744073709551616 ^ i * nth xs i ∧ x = nth xs i / 65536 ^ k
def Splat (xs D : List Nat) (i : Nat) : Prop := D.length = 4 * i ∧ Low 65536 D ∧ ev 65536 D = pre 18446744073709551616 xs i
theorem pow_word (i : Nat) : (18446744073709551616 : Nat) ^ i = 65536 ^ (4 * i) := by
  rw [Nat.pow_mul]
theorem Splat.start (xs : List Nat) : Splat xs [] 0 := ⟨rfl, Low.nil _, by simp [ev, pre_zero]⟩
theorem Splits.step {xs D : List Nat} {i k x : Nat} (h : Splits xs D i k x) : Splits xs (D ++ [x % 65536]) i (k + 1) (x / 65536) := by
  obtain ⟨h1, h2, h3, h4⟩ := h
  refine ⟨by simp [h1]; omega, h2.snoc (by omega), ?_, ?_⟩
  · rw [ev_snoc, h1, ← h3, ← Nat.add_assoc (4 * i) k 1, Nat.pow_succ]
    have e := Nat.mod_add_div x 65536
    generalize x % 65536 = r at *
    generalize x / 65536 = q at *
    generalize 65536 ^ (4 * i + k) = p
    subst e
    grind
  · rw [h4, Nat.div_div_eq_div_mul, Nat.pow_succ]
theorem Splits.stop {xs D : List Nat} {i x : Nat} (hx : nth xs i < 18446744073709551616) (h : Splits xs D i 4 x) : Splat xs D (i + 1) := by
  obtain ⟨h1, h2, h3, h4⟩ := h
  have h0 : x = 0 := by rw [h4]; exact Nat.div_eq_of_lt (by simpa using hx)
  subst h0
  exact ⟨by omega, h2, by rw [pre_succ]; simpa using h3⟩

end Go.Proofs.Ytcdkdanfiimlkaa

/-! The reference of layer 1: Carried, Add. -/
namespace Go.Proofs.Ytcdkdanfiimlkaa
open Go.RowKit

/-- Digits of any size that are being carried: k are done, c is the carry, of n digits. -/
def Carrying (ds zs : List Nat) (n k c : Nat) : Prop :=
  zs.length = k ∧ Low 65536 zs ∧ ev 65536 zs + 65536 ^ k * c = pre 65536 ds k ∧ k ≤ n + 3 ∧ c ≤ 2199023255552 ∧ (k = n + 1 → c ≤ 33554432) ∧ (k = n + 2 → c ≤ 512) ∧ (k = n + 3 → c = 0)
theorem Carrying.start (ds : List Nat) (n : Nat) : Carrying ds [] n 0 0 := ⟨rfl, Low.nil _, by simp [ev, pre_zero], by omega, by omega, by omega, by omega, by omega⟩
theorem Carrying.step {ds zs : List Nat} {n k c : Nat} (hd : Low 1099511627776 ds) (hn : ds.length = n) (h : Carrying ds zs n k c) (hk : k < n ∨ 0 < c) :
    Carrying ds (zs ++ [(c + nth ds k) % 65536]) n (k + 1) ((c + nth ds k) / 65536) := by
  obtain ⟨h1, h2, h3, h4, h5, h6, h7, h8⟩ := h
  have hdk := hd.any (by omega) k
  have h0 : n ≤ k → nth ds k = 0 := fun h => nth_ge (by omega)
  refine ⟨by simp [h1], h2.snoc (by omega), ?_, by omega, by omega, ?_, ?_, ?_⟩
  · rw [ev_snoc, pre_succ, h1, ← h3, Nat.pow_succ]
    have e := Nat.mod_add_div (c + nth ds k) 65536
    generalize (c + nth ds k) % 65536 = r at *
    generalize (c + nth ds k) / 65536 = q at *
    generalize 65536 ^ k = p
    grind
  all_goals (intro hh; omega)
theorem Carrying.stop {ds zs : List Nat} {n k : Nat} (hn : ds.length = n) (h : Carrying ds zs n k 0) (hk : n ≤ k) : ev 65536 zs = ev 65536 ds := by
  obtain ⟨h1, h2, h3, _⟩ := h
  rw [pre_ge _ (by omega)] at h3
  simpa using h3
/-- Sums digit by digit: k are done. -/
def Summing (xs ys zs : List Nat) (k : Nat) : Prop := zs.length = k ∧ Low 1099511627776 zs ∧ ev 65536 zs = pre 65536 xs k + pre 65536 ys k
theorem Summing.start (xs ys : List Nat) : Summing xs ys [] 0 := ⟨rfl, Low.nil _, by simp [ev, pre_zero]⟩
theorem Summing.step {xs ys zs : List Nat} {k : Nat} (hx : Low 549755813888 xs) (hy : Low 549755813888 ys) (h : Summing xs ys zs k) : Summing xs ys (zs ++ [nth xs k + nth ys k]) (k + 1) := by
  obtain ⟨h1, h2, h3⟩ := h
  have := hx.any (by omega) k
  have := hy.any (by omega) k
  refine ⟨by simp [h1], h2.snoc (by omega), ?_⟩
  rw [ev_snoc, pre_succ, pre_succ, h1, h3]
  grind
theorem Summing.stop {xs ys zs : List Nat} {k : Nat} (h : Summing xs ys zs k) (hx : xs.length ≤ k) (hy : ys.length ≤ k) : ev 65536 zs = ev 65536 xs + ev 65536 ys := by
  rw [h.2.2, pre_ge _ hx, pre_ge _ hy]
end Go.Proofs.Ytcdkdanfiimlkaa

/-! The reference of layer 1: Cmp, Sub. -/
namespace Go.Proofs.Ytcdkdanfiimlkaa
open Go.RowKit

end Go.Proofs.Ytcdkdanfiimlkaa

/-! The reference of layer 1: To, Same; quincunxlaw01.is. -/
namespace Go.Proofs.Ytcdkdanfiimlkaa
open Go.RowKit

theorem pre_add (b : Nat) (xs : List Nat) (i k : Nat) : pre b xs (i + k) = pre b xs i + b ^ i * pre b (xs.drop i) k := by
  induction k with
  | zero => simp [pre_zero]
  | succ k ih => rw [← Nat.add_assoc, pre_succ, pre_succ, ih, nth_drop, Nat.pow_add]; grind

/-- The word of four digits from i on, its digits from s on. -/
def hor (ds : List Nat) (i s : Nat) : Nat := pre 65536 (ds.drop (i + s)) (4 - s)
theorem hor_word {ds : List Nat} (h : Low 65536 ds) (i : Nat) : hor ds i 0 < 18446744073709551616 := by
  have h1 := pre_lt (h.drop i) (by omega) 4
  have e : (65536 : Nat) ^ 4 = 18446744073709551616 := by decide
  unfold hor
  rw [e] at h1
  exact h1

/-- The words of q fours of digits. -/
def Joining (ds W : List Nat) (q : Nat) : Prop := W.length = q ∧ Low 18446744073709551616 W ∧ ev 18446744073709551616 W = pre 65536 ds (4 * q)
theorem Joining.start (ds : List Nat) : Joining ds [] 0 := ⟨rfl, Low.nil _, by simp [ev, pre_zero]⟩
theorem Joining.step {ds W : List Nat} {q : Nat} (hd : Low 65536 ds) (h : Joining ds W q) : Joining ds (W ++ [hor ds (4 * q) 0]) (q + 1) := by
  obtain ⟨h1, h2, h3⟩ := h
  refine ⟨by simp [h1], h2.snoc (hor_word hd _), ?_⟩
  rw [ev_snoc, h1, h3, show 4 * (q + 1) = 4 * q + 4 from by omega, pre_add, pow_word]
  rfl
theorem Joining.stop {ds W : List Nat} {q : Nat} (h : Joining ds W q) (hq : ds.length ≤ 4 * q) : ev 18446744073709551616 W = ev 65536 ds := by
  rw [h.2.2, pre_ge _ hq]

/-- The length in a slot. -/
def lenOf : Value → Nat | .slice _ k _ => k | _ => 0

end Go.Proofs.Ytcdkdanfiimlkaa

/-! Contracts by value: canonical words, canonical digits; what the reference and package nat answer. -/
namespace Go.Proofs.Ytcdkdanfiimlkaa
open Go.RowKit

/-- The slice (A, n, c) reads as the canonical words of v. -/
def Cv (w : World) (A : Option Addr) (n c v : Nat) : Prop :=
  Rd w .u64 A (cn 18446744073709551616 v) ∧ (cn 18446744073709551616 v).length = n ∧ n ≤ c ∧ c ≤ 9223372036854775807
theorem Cv.below {w w' : World} {A : Option Addr} {n c v : Nat} (h : Cv w A n c v) (hb : Below w.heap.size w w') : Cv w' A n c v := ⟨h.1.below hb, h.2⟩
theorem Cv.nv {w : World} {A : Option Addr} {n c v : Nat} (h : Cv w A n c v) : Nv w A n c v := ⟨_, h.1, h.2.1, h.2.2.1, h.2.2.2, cn_low _ _ (by omega), ev_cn _ _ (by omega)⟩
/-- The slice (A, n, c) reads as the canonical digits of v. -/
def Dv (w : World) (A : Option Addr) (n c v : Nat) : Prop :=
  Rd w .i64 A (cn 65536 v) ∧ (cn 65536 v).length = n ∧ n ≤ c ∧ c ≤ 9223372036854775807
theorem Dv.below {w w' : World} {A : Option Addr} {n c v : Nat} (h : Dv w A n c v) (hb : Below w.heap.size w w') : Dv w' A n c v := ⟨h.1.below hb, h.2⟩
theorem Dv.nil (w : World) : Dv w none 0 0 0 := ⟨Rd.nil _ _ _, rfl, Nat.le_refl _, by omega⟩

def CvPost (v k : Nat) (w : World) (e : Ending) (w' : World) : Prop :=
  ∃ A n c, e = .returned (.slice A n c) ∧ Cv w' A n c v ∧ n ≤ k ∧ Below w.heap.size w w'
theorem NatPost.cv {v k : Nat} {w w' : World} {e : Ending} (h : NatPost v w e w') (hk : v < 18446744073709551616 ^ k) : CvPost v k w e w' := by
  obtain ⟨A, c, rfl, hg⟩ := h
  have hc := hg.cap
  exact ⟨A, _, c, rfl, ⟨hg.rd, rfl, hc.1, by have := hc.2; unfold maxLen at this; omega⟩, cn_len_of_lt _ _ _ (by omega) hk, hg.2⟩
theorem Dv.lt {w : World} {A : Option Addr} {n c v : Nat} (h : Dv w A n c v) : v < 65536 ^ n := by
  have := cn_len_lt 65536 v (by omega)
  rwa [h.2.1] at this
theorem Cv.lt {w : World} {A : Option Addr} {n c v : Nat} (h : Cv w A n c v) : v < 18446744073709551616 ^ n := h.nv.lt
theorem addc_v {A B : Option Addr} {n m c d x y : Nat} {w : World} (hx : Nv w A n c x) (hy : Nv w B m d y) (hn : n ≤ 1099511627776) (hm : m ≤ 1099511627776) :
    Calls Try.prog 64 #[.slice A n c, .slice B m d] w (CvPost (x + y) (max n m + 1) w) := by
  have l1 := hx.lt
  have l2 := hy.lt
  obtain ⟨xs, h1, h2, h3, h4, h5, rfl⟩ := hx
  obtain ⟨ys, g1, g2, g3, g4, g5, rfl⟩ := hy
  refine (add_calls A B n m c d xs ys w h1 g1 h2 g2 h3 h4 g3 g4 h5 g5 hn hm).mono fun _ _ h => h.cv ?_
  have p1 := pow_big (Nat.le_max_left n m)
  have p2 := pow_big (Nat.le_max_right n m)
  rw [Nat.pow_succ]
  omega
theorem normc_v {A : Option Addr} {n c x : Nat} {w : World} (hx : Nv w A n c x) (hn : n ≤ 1099511627776) :
    Calls Try.prog 123 #[.slice A n c] w (CvPost x n w) := by
  have l1 := hx.lt
  obtain ⟨xs, h1, h2, h3, h4, h5, rfl⟩ := hx
  exact (norm_calls A n c xs w h1 h2 h3 h4 h5 hn).mono fun _ _ h => h.cv l1
def SubCv (x y : Nat) (k : Nat) (w : World) (e : Ending) (w' : World) : Prop :=
  ∃ A n c, e = .returned (.tuple #[.slice A n c, .bool true]) ∧ Cv w' A n c (x - y) ∧ n ≤ k ∧ Below w.heap.size w w'
theorem subc_yes {A B : Option Addr} {n m c d x y : Nat} {w : World} (hx : Nv w A n c x) (hy : Nv w B m d y) (hn : n ≤ 1099511627776) (h : y ≤ x) :
    Calls Try.prog 65 #[.slice A n c, .slice B m d] w (SubCv x y n w) := by
  have l1 := hx.lt
  obtain ⟨xs, h1, h2, h3, h4, h5, rfl⟩ := hx
  obtain ⟨ys, g1, g2, g3, g4, g5, rfl⟩ := hy
  refine (sub_calls A B n m c d xs ys w h1 g1 h2 g2 h3 h4 g3 g4 h5 g5 hn).mono ?_
  rintro e w' ⟨A', c', zs, rfl, hg, hz⟩
  rw [if_pos h] at hz
  subst hz
  have hc := hg.cap
  rw [decide_eq_true h]
  exact ⟨A', _, c', rfl, ⟨hg.rd, rfl, hc.1, by have := hc.2; unfold maxLen at this; omega⟩, cn_len_of_lt _ _ _ (by omega) (by omega), hg.2⟩
theorem sub_no {A B : Option Addr} {n m c d x y : Nat} {w : World} (hx : Nv w A n c x) (hy : Nv w B m d y) (hn : n ≤ 1099511627776) (h : x < y) :
    Calls Try.prog 65 #[.slice A n c, .slice B m d] w fun e w' => (∃ A c, e = .returned (.tuple #[.slice A 0 c, .bool false])) ∧ Below w.heap.size w w' := by
  obtain ⟨xs, h1, h2, h3, h4, h5, rfl⟩ := hx
  obtain ⟨ys, g1, g2, g3, g4, g5, rfl⟩ := hy
  refine (sub_calls A B n m c d xs ys w h1 g1 h2 g2 h3 h4 g3 g4 h5 g5 hn).mono ?_
  rintro e w' ⟨A', c', zs, rfl, hg, hz⟩
  rw [if_neg (by omega)] at hz
  subst hz
  rw [decide_eq_false (by omega)]
  exact ⟨⟨A', c', rfl⟩, hg.2⟩

end Go.Proofs.Ytcdkdanfiimlkaa

/-! The reference of layer 1: Mul. -/
namespace Go.Proofs.Ytcdkdanfiimlkaa
open Go.RowKit

theorem OwnV.alloc {w0 w : World} {t : TypeId} {K : IntKind} {v : Value} {zs : List Nat} (h : OwnV w0 w t K v zs) (o : Obj) : OwnV w0 (w.alloc o) t K v zs := h.below ((Below.refl _ _).alloc (Nat.le_refl _) o)
theorem OwnV.drew {w0 w : World} {t : TypeId} {K : IntKind} {v : Value} {zs : List Nat} (h : OwnV w0 w t K v zs) : OwnV w0 w.drew t K v zs := h.drewN 1

/-- A line of a product: i noughts, and k products with the digit y. -/
def Lining (xs L : List Nat) (y i k : Nat) : Prop := L.length = i + k ∧ Low 1099511627776 L ∧ ev 65536 L = 65536 ^ i * (pre 65536 xs k * y)
theorem Lining.start (xs : List Nat) (y i : Nat) : Lining xs (List.replicate i 0) y i 0 := ⟨by simp, Low.replicate _ _ (by omega), by rw [ev_replicate, pre_zero]; simp⟩
theorem Lining.step {xs L : List Nat} {y i k : Nat} (hx : Low 65536 xs) (hy : y < 65536) (h : Lining xs L y i k) : Lining xs (L ++ [nth xs k * y]) y i (k + 1) := by
  obtain ⟨h1, h2, h3⟩ := h
  have hb := hx.any (by omega) k
  have h4 : nth xs k * y ≤ 65535 * 65535 := Nat.mul_le_mul (by omega) (by omega)
  refine ⟨by simp [h1]; omega, h2.snoc (by omega), ?_⟩
  rw [ev_snoc, h1, h3, pre_succ, Nat.pow_add]
  grind
theorem Lining.stop {xs L : List Nat} {y i k : Nat} (h : Lining xs L y i k) (hk : xs.length ≤ k) : ev 65536 L = 65536 ^ i * (ev 65536 xs * y) := by
  rw [h.2.2, pre_ge _ hk]
end Go.Proofs.Ytcdkdanfiimlkaa

namespace Go.Proofs.Ytcdkdanfiimlkaa
open Go.RowKit
end Go.Proofs.Ytcdkdanfiimlkaa
