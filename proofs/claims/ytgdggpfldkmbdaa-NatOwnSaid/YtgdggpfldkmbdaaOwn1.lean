/-
  For quincunxlaw01.NatOwn: slices of slices whose words are written, and what stays.
-/
import Derived.Test.YtgdggpfldkmbdaaShifts
namespace Go.Proofs.Ytgdggpfldkmbdaa
open Go.RowKit

/-- A slice, by its parts. -/
def sv (r : Option Addr × Nat × Nat) : Value := .slice r.1 r.2.1 r.2.2
/-- The blocks that no store may touch: below b0, and from u1 to u2. -/
def Prot (b0 u1 u2 p : Nat) : Prop := p < b0 ∨ (u1 ≤ p ∧ p < u2)
/-- The words of a slice may be written: they lie in one block of words that is not protected. -/
def Wrt (b0 u1 u2 : Nat) (w : World) (r : Option Addr × Nat × Nat) : Prop :=
  r.2.1 = 0 ∨ ∃ (g : Nat) (cs : Array Value), r.1 = some ⟨g, 0, none⟩ ∧ w.heap[g]? = some (.cells cs 37 (0, 0)) ∧ ¬ Prot b0 u1 u2 g ∧ r.2.1 ≤ 9223372036854775807 ∧ ∀ j, j < r.2.1 → ∃ x : Int, cs[j]? = some (.int .u64 x)
theorem Wrt.of_got {b0 u1 u2 : Nat} {wi wj w : World} {A : Option Addr} {c : Nat} {zs : List Nat} (h : Got wi wj 37 .u64 A c zs) (hb : Below wj.heap.size wj w) (h1 : b0 ≤ wi.heap.size) (h2 : wj.heap.size ≤ u1 ∨ u2 ≤ wi.heap.size) :
    Wrt b0 u1 u2 w (A, zs.length, c) := by
  have hlt := h.1.lt
  rcases h.1.2 with ⟨h3, h4⟩ | ⟨g, cap, cur, hv, hg, hh, hnc, hcm, hcs, htake⟩
  · exact .inl h4
  · injection hv with hA h5 h6
    subst hA h6
    have hgl := (hlt g rfl).2
    refine .inr ⟨g, cur, rfl, (hb.block g hgl).trans hh, ?_, by have := h.cap; unfold maxLen at this; show zs.length ≤ _; omega, fun j hj => ?_⟩
    · have hgb := (hlt g rfl).1
      unfold Prot
      omega
    · have hj' : j < zs.length := hj
      have h9 : (cur.toList.take (zs.length * 1))[j]? = some (.int .u64 (nth zs j)) := by rw [htake]; exact vs_get hj'
      rw [List.getElem?_take, if_pos (by omega), Array.getElem?_toList] at h9
      exact ⟨_, h9⟩
theorem Wrt.cell {b0 u1 u2 : Nat} {w : World} {r : Option Addr × Nat × Nat} (h : Wrt b0 u1 u2 w r) {k : Nat} (hk : k < r.2.1) :
    ∃ (g : Nat) (x : Int), r.1 = some ⟨g, 0, none⟩ ∧ w.cell? ⟨g, k, none⟩ = some (.int .u64 x) ∧ w.frozen? ⟨g, k, none⟩ = false ∧ ¬ Prot b0 u1 u2 g ∧ r.2.1 ≤ 9223372036854775807 ∧ ∃ cs, w.heap[g]? = some (.cells cs 37 (0, 0)) := by
  rcases h with h | ⟨g, cs, h1, h2, h3, h5, h4⟩
  · omega
  · obtain ⟨x, hx⟩ := h4 k hk
    exact ⟨g, x, h1, by rw [cell_of_row w g k cs _ (0, 0) h2, hx], frozen_of_row w g k cs _ h2, h3, h5, cs, h2⟩
theorem Wrt.set {b0 u1 u2 : Nat} {w : World} {r : Option Addr × Nat × Nat} (h : Wrt b0 u1 u2 w r) (g k : Nat) (x : Int) : Wrt b0 u1 u2 (w.setCell ⟨g, k, none⟩ (.int .u64 x)) r := by
  rcases h with h | ⟨g', cs, h1, h2, h3, h5, h4⟩
  · exact .inl h
  · by_cases hg : g' = g
    · subst hg
      refine .inr ⟨g', _, h1, heap_setCell_same w g' k cs _ _ h2, h3, h5, fun j hj => ?_⟩
      obtain ⟨y, hy⟩ := h4 j hj
      by_cases hjk : k = j
      · subst hjk
        have hlt : k < cs.size := (Array.getElem?_eq_some_iff.1 hy).1
        exact ⟨x, by simp [hlt]⟩
      · exact ⟨y, by rw [Array.getElem?_setIfInBounds_ne hjk]; exact hy⟩
    · exact .inr ⟨g', cs, h1, (Below.heap_setCell w ⟨g, k, none⟩ _ g' hg).trans h2, h3, h5, h4⟩

/-- In the loops that write: the list of slices stands, each may be written, what is protected is as it was in W. -/
def Bumps (b0 u1 u2 B : Nat) (w0 W : World) (v : Value) (R : List (Option Addr × Nat × Nat)) (w : World) : Prop :=
  w.ownsRow B 23 1 v R.length (R.map sv) ∧ (∀ r, r ∈ R → Wrt b0 u1 u2 w r) ∧ (∀ p, Prot b0 u1 u2 p → w.heap[p]? = W.heap[p]?) ∧ Below w0.heap.size w0 w ∧ w.heap.size = W.heap.size
theorem Bumps.form {b0 u1 u2 B : Nat} {w0 W w : World} {v : Value} {R : List (Option Addr × Nat × Nat)} (h : Bumps b0 u1 u2 B w0 W v R w) (hR : 0 < R.length) :
    ∃ gl cap, v = .slice (some ⟨gl, 0, none⟩) R.length cap ∧ R.length ≤ cap ∧ cap ≤ 9223372036854775807 := by
  rcases h.1.2 with ⟨_, h1⟩ | ⟨g, cap, cur, hv, _, _, h2, h3, _⟩
  · omega
  · exact ⟨g, cap, hv, h2, by unfold maxLen at h3; omega⟩
theorem Bumps.row {b0 u1 u2 B gl cap : Nat} {w0 W w : World} {R : List (Option Addr × Nat × Nat)} (h : Bumps b0 u1 u2 B w0 W (.slice (some ⟨gl, 0, none⟩) R.length cap) R w) {i : Nat} (hi : i < R.length) :
    ∃ A n c, w.cell? ⟨gl, i, none⟩ = some (.slice A n c) ∧ Wrt b0 u1 u2 w (A, n, c) := by
  refine ⟨R[i].1, R[i].2.1, R[i].2.2, ?_, h.2.1 _ (List.getElem_mem hi)⟩
  rw [h.1.cellAt i (by omega)]
  simp [hi, sv]
theorem Bumps.row' {b0 u1 u2 B gl cap : Nat} {w0 W w w' : World} {R : List (Option Addr × Nat × Nat)} (h : Bumps b0 u1 u2 B w0 W (.slice (some ⟨gl, 0, none⟩) R.length cap) R w) (h' : Bumps b0 u1 u2 B w0 W (.slice (some ⟨gl, 0, none⟩) R.length cap) R w') {i : Nat} (hi : i < R.length) {A : Option Addr} {n c : Nat}
    (hc : w.cell? ⟨gl, i, none⟩ = some (.slice A n c)) : w'.cell? ⟨gl, i, none⟩ = some (.slice A n c) ∧ Wrt b0 u1 u2 w' (A, n, c) := by
  have e1 := h.1.cellAt i (by omega)
  have e2 := h'.1.cellAt i (by omega)
  rw [hc] at e1
  rw [e2, ← e1]
  refine ⟨rfl, ?_⟩
  have e3 : (R.map sv)[i]? = some (sv R[i]) := by simp [hi]
  rw [e3] at e1
  have e4 := Option.some.inj e1
  unfold sv at e4
  injection e4 with a1 a2 a3
  subst a1 a2 a3
  exact h'.2.1 _ (List.getElem_mem hi)
theorem Bumps.store {b0 u1 u2 B : Nat} {w0 W w : World} {v : Value} {R : List (Option Addr × Nat × Nat)} (h : Bumps b0 u1 u2 B w0 W v R w) {g k : Nat} {cs : Array Value} (hg : ¬ Prot b0 u1 u2 g) (hb : w0.heap.size ≤ b0)
    (hcs : w.heap[g]? = some (.cells cs 37 (0, 0))) (x : Int) : Bumps b0 u1 u2 B w0 W v R (w.setCell ⟨g, k, none⟩ (.int .u64 x)) := by
  obtain ⟨h1, h2, h3, h4, h5⟩ := h
  refine ⟨ownsRow_setCell_other h1 ?_ _, fun r hr => (h2 r hr).set g k x, fun p hp => ?_, h4.setCell ?_ _, by simpa using h5⟩
  · rcases h1.2 with ⟨rfl, _⟩ | ⟨gl, cap, cur, rfl, _, hh, _⟩
    · simp [Value.ownBlock]
    · intro he
      have : gl = g := by simpa [Value.ownBlock] using he
      subst this
      rw [hh] at hcs
      injection hcs with hcs
      injection hcs with _ ht
      exact absurd ht (by decide)
  · rw [Below.heap_setCell w ⟨g, k, none⟩ _ p (fun e => by subst e; exact hg hp)]
    exact h3 p hp
  · have : ¬ g < b0 := fun hlt => hg (.inl hlt)
    show w0.heap.size ≤ g
    omega
/-- What is protected reads as it did. -/
theorem Bumps.rd {b0 u1 u2 B : Nat} {w0 W w : World} {v : Value} {R : List (Option Addr × Nat × Nat)} (h : Bumps b0 u1 u2 B w0 W v R w) {A : Option Addr} {zs : List Nat} (hr : Rd W .u64 A zs) (hp : ∀ ad, A = some ad → Prot b0 u1 u2 ad.block) : Rd w .u64 A zs := by
  obtain ⟨h1, h2, h3, h4, h5⟩ := h
  exact hr.keep (by omega) fun ad ha _ p hpb => World.cell?_of_block (h3 p.block (by rw [hpb]; exact hp ad ha))

theorem Wrt.grown {b0 u1 u2 gl : Nat} {w w' : World} {r : Option Addr × Nat × Nat} (h : Wrt b0 u1 u2 w r) (hg : w.grownBy w' (some gl)) {cl : Array Value} (hl : w.heap[gl]? = some (.cells cl 23 (0, 0))) : Wrt b0 u1 u2 w' r := by
  rcases h with h | ⟨g, cs, h1, h2, h3, h5, h4⟩
  · exact .inl h
  · refine .inr ⟨g, cs, h1, (hg.block g (Array.getElem?_eq_some_iff.1 h2).1 (fun e => ?_)).trans h2, h3, h5, h4⟩
    have : g = gl := Option.some.inj e
    subst this
    rw [h2] at hl
    injection hl with hl
    injection hl with _ ht
    exact absurd ht (by decide)
theorem own_below {w w' : World} {base : Nat} {e : TypeId} {size n : Nat} {v : Value} {xs : List Value} (h : w.ownsRow base e size v n xs) (hb : Below w.heap.size w w') : w'.ownsRow base e size v n xs :=
  h.kept (row := none) ⟨hb.os, hb.tape, hb.output, hb.size, fun k hk _ => hb.block k hk⟩ (by cases hv : v.ownBlock <;> simp)
/-- Where an answer lies. -/
theorem Got.block {wi wj : World} {A : Option Addr} {c : Nat} {zs : List Nat} (h : Got wi wj 37 .u64 A c zs) : ∀ ad, A = some ad → wi.heap.size ≤ ad.block ∧ ad.block < wj.heap.size := by
  intro ad ha
  subst ha
  exact h.1.lt ad.block rfl
end Go.Proofs.Ytgdggpfldkmbdaa
