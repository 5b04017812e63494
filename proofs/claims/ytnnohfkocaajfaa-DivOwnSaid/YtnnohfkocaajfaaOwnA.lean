/-
  What may be written: a slice's words in one block of the call's own.
-/
import Derived.Test.YtnnohfkocaajfaaRefA
/-! What may be written. -/
namespace Go.Proofs.Ytnnohfkocaajfaa
open Go.RowKit
set_option linter.unusedVariables false

theorem bupw {a b c : World} (h : Below a.heap.size a b) (k : Below b.heap.size b c) : Below a.heap.size a c := h.trans (k.mono h.size)
/-- The words of a slice may be written: they lie in one block of words from B on. -/
def Wr1 (B : Nat) (w : World) (A : Option Addr) (n : Nat) : Prop :=
  n = 0 ∨ ∃ (g : Nat) (cs : Array Value), A = some ⟨g, 0, none⟩ ∧ B ≤ g ∧ w.heap[g]? = some (.cells cs 34 (0, 0)) ∧ ∀ j, j < n → ∃ x : Int, cs[j]? = some (.int .u64 x)
theorem Wr1.of_got {B : Nat} {wi wj : World} {A : Option Addr} {c : Nat} {zs : List Nat} (h : Got wi wj 34 .u64 A c zs) (hB : B ≤ wi.heap.size) : Wr1 B wj A zs.length := by
  rcases h.1.2 with ⟨h3, h4⟩ | ⟨g, cap, cur, hv, hg, hh, hnc, hcm, hcs, htake⟩
  · exact .inl h4
  · injection hv with hA h5 h6
    subst hA
    refine .inr ⟨g, cur, rfl, by omega, hh, fun j hj => ?_⟩
    have h9 : (cur.toList.take (zs.length * 1))[j]? = some (.int .u64 (nth zs j)) := by rw [htake]; exact vs_get hj
    rw [List.getElem?_take, if_pos (by omega), Array.getElem?_toList] at h9
    exact ⟨_, h9⟩
theorem Wr1.below {B : Nat} {w w' : World} {A : Option Addr} {n : Nat} (h : Wr1 B w A n) (hb : Below w.heap.size w w') : Wr1 B w' A n := by
  rcases h with h | ⟨g, cs, h1, h2, h3, h4⟩
  · exact .inl h
  · exact .inr ⟨g, cs, h1, h2, (hb.block g (Array.getElem?_eq_some_iff.1 h3).1).trans h3, h4⟩
theorem Wr1.cell {B : Nat} {w : World} {A : Option Addr} {n k : Nat} (h : Wr1 B w A n) (hk : k < n) : ∃ (g : Nat) (x : Int), A = some ⟨g, 0, none⟩ ∧ w.cell? ⟨g, k, none⟩ = some (.int .u64 x) ∧ w.frozen? ⟨g, k, none⟩ = false ∧ B ≤ g := by
  rcases h with h | ⟨g, cs, h1, h2, h3, h4⟩
  · omega
  · obtain ⟨x, hx⟩ := h4 k hk
    exact ⟨g, x, h1, by rw [cell_of_row w g k cs _ (0, 0) h3, hx], frozen_of_row w g k cs _ h3, h2⟩
theorem Wr1.set {B : Nat} {w : World} {A : Option Addr} {n : Nat} (h : Wr1 B w A n) (g k : Nat) (x : Int) : Wr1 B (w.setCell ⟨g, k, none⟩ (.int .u64 x)) A n := by
  rcases h with h | ⟨g', cs, h1, h2, h3, h4⟩
  · exact .inl h
  · by_cases hg : g' = g
    · subst hg
      refine .inr ⟨g', _, h1, h2, heap_setCell_same w g' k cs _ _ h3, fun j hj => ?_⟩
      obtain ⟨y, hy⟩ := h4 j hj
      by_cases hjk : k = j
      · subst hjk
        have hlt : k < cs.size := (Array.getElem?_eq_some_iff.1 hy).1
        exact ⟨x, by simp [hlt]⟩
      · exact ⟨y, by rw [Array.getElem?_setIfInBounds_ne hjk]; exact hy⟩
    · exact .inr ⟨g', cs, h1, h2, (Below.heap_setCell w ⟨g, k, none⟩ _ g' hg).trans h3, h4⟩
/-- All of these may be written, and what was there stays. -/
def Bmps (W : World) (L : List (Option Addr × Nat)) (wr : World) : Prop := Below W.heap.size W wr ∧ ∀ p ∈ L, Wr1 W.heap.size wr p.1 p.2
theorem Bmps.set {W wr : World} {L : List (Option Addr × Nat)} (h : Bmps W L wr) {g : Nat} (hg : W.heap.size ≤ g) (k : Nat) (x : Int) : Bmps W L (wr.setCell ⟨g, k, none⟩ (.int .u64 x)) :=
  ⟨h.1.setCell hg _, fun p hp => (h.2 p hp).set g k x⟩
theorem Wr1.none (B : Nat) (w : World) (A : Option Addr) : Wr1 B w A 0 := .inl rfl
end Go.Proofs.Ytnnohfkocaajfaa
