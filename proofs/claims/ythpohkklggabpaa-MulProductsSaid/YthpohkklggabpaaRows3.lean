/-
  A list of slices of words that came in, as entries.
-/
import Derived.Test.YthpohkklggabpaaRows2
import Derived.Test.YthpohkklggabpaaHeapA
namespace Go.Proofs.Ythpohkklggabpaa
open Go.RowKit

theorem ents_of {w : World} {x : Addr} {A : Nat → Option Addr} {L C : Nat → Nat} {Z : Nat → List Int} : ∀ (n : Nat), (∀ r, r < n → w.cell? (x.add r) = some (.slice (A r) (L r) (C r)) ∧ IsRow .u64 w (A r) (L r) (C r) (Z r)) →
    ∃ R : List Ent, R.length = n ∧ (∀ j (hj : j < R.length), w.cell? (x.add j) = some R[j].val) ∧ ∀ r, r ∈ R → Nv w r.A r.n r.c r.v
  | 0, _ => ⟨[], rfl, fun j hj => by simp at hj, fun r hr => by cases hr⟩
  | n + 1, h => by
    obtain ⟨R, h1, h2, h3⟩ := ents_of n fun r hr => h r (by omega)
    obtain ⟨g1, g2⟩ := h n (by omega)
    obtain ⟨v, hv⟩ := g2.nv
    refine ⟨R ++ [⟨A n, L n, C n, v⟩], by simp [h1], fun j hj => ?_, fun r hr => ?_⟩
    · by_cases hlt : j < R.length
      · rw [List.getElem_append_left hlt]
        exact h2 j hlt
      · obtain rfl : j = R.length := by simp at hj; omega
        rw [List.getElem_append_right (Nat.le_refl _)]
        simp only [Nat.sub_self, List.getElem_cons_zero]
        have e : x.add R.length = x.add n := by rw [h1]
        rw [e]
        exact g1
    · rcases List.mem_append.1 hr with hr | hr
      · exact h3 r hr
      · simp only [List.mem_singleton] at hr
        subst hr
        exact hv
theorem IsRows.ents {w : World} {a : Option Addr} {len cap : Nat} (h : IsRows .u64 w a len cap) : ∃ R : List Ent, R.length = len ∧ LRow w a R ∧ ∀ r, r ∈ R → Nv w r.A r.n r.c r.v := by
  rcases h with ⟨rfl, rfl, _⟩ | ⟨x, rfl, hl, hm, A, L, C, Z, hr⟩
  · exact ⟨[], rfl, fun hn => by simp at hn, fun r hr => by cases hr⟩
  · obtain ⟨R, h1, h2, h3⟩ := ents_of len fun r h => hr r (by omega)
    refine ⟨R, h1, fun hn => ⟨x, rfl, ?_, h2⟩, h3⟩
    have := World.block_lt_of_cell? w _ (h2 0 hn)
    rwa [add_block] at this
end Go.Proofs.Ythpohkklggabpaa
