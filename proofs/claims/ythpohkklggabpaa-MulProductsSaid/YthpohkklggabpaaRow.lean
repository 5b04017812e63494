/-
  From the form's reading of a slice of words to the number that it stands for.
-/
import Derived.Test.YthpohkklggabpaaNat6
import Derived.OpenShut
namespace Go.Proofs.Ythpohkklggabpaa
open Go.RowKit

/-- What is known of a slice of integers that came in: nil; or a row of cap cells, the first len of which are its elements. -/
def IsRow (k : IntKind) (w : World) (a : Option Addr) (len cap : Nat) (zs : List Int) : Prop :=
  (a = none ∧ len = 0 ∧ cap = 0 ∧ zs = []) ∨
  ∃ x, a = some x ∧ len ≤ cap ∧ cap ≤ maxLen ∧ zs.length = cap ∧ (∀ i, i < zs.length → w.cell? (x.add i) = some (.int k (zs.getD i 0))) ∧ ∀ n ∈ zs, (Lit.int k n).wf = true

theorem u64_wf {n : Int} (h : (Lit.int .u64 n).wf = true) : 0 ≤ n ∧ n < 18446744073709551616 := by
  have := bounds_u64 h
  omega

theorem IsRow.list {w : World} {a : Option Addr} {len cap : Nat} {zs : List Int} (h : IsRow .u64 w a len cap zs) :
    ∃ xs, Rd w .u64 a xs ∧ xs.length = len ∧ len ≤ cap ∧ cap ≤ 9223372036854775807 ∧ Low 18446744073709551616 xs := by
  rcases h with ⟨rfl, rfl, rfl, rfl⟩ | ⟨x, rfl, hl, hm, hz, hc, hw⟩
  · exact ⟨[], Rd.nil _ _ _, rfl, Nat.le_refl _, by omega, Low.nil _⟩
  · have hn : ∀ i, i < len → zs.getD i 0 = ((nth ((zs.take len).map Int.toNat) i : Nat) : Int) ∧ nth ((zs.take len).map Int.toNat) i < 18446744073709551616 := by
      intro i hi
      have h1 : i < zs.length := by omega
      have h2 := u64_wf (hw zs[i] (List.getElem_mem h1))
      have h3 : nth ((zs.take len).map Int.toNat) i = (zs[i]).toNat := by simp [nth, List.getD, hi, h1]
      rw [h3]
      have h4 : zs.getD i 0 = zs[i] := by simp [List.getD, h1]
      rw [h4]
      omega
    have hlen : ((zs.take len).map Int.toNat).length = len := by simp; omega
    refine ⟨(zs.take len).map Int.toNat, fun hp => ⟨x, rfl, ?_, fun j hj => ?_⟩, hlen, hl, by unfold maxLen at hm; omega, fun j hj => (hn j (by omega)).2⟩
    · have := World.block_lt_of_cell? w (x.add 0) (hc 0 (by omega))
      rwa [add_block] at this
    · rw [hc j (by omega), (hn j (by omega)).1]
theorem IsRow.nv {w : World} {a : Option Addr} {len cap : Nat} {zs : List Int} (h : IsRow .u64 w a len cap zs) : ∃ v, Nv w a len cap v := by
  obtain ⟨xs, h1, h2, h3, h4, h5⟩ := h.list
  exact ⟨_, xs, h1, h2, h3, h4, h5, rfl⟩
theorem IsRow.le {k : IntKind} {w : World} {a : Option Addr} {len cap : Nat} {zs : List Int} (h : IsRow k w a len cap zs) : len ≤ 9223372036854775807 := by
  rcases h with ⟨_, rfl, _, _⟩ | ⟨x, rfl, hl, hm, _⟩
  · omega
  · unfold maxLen at hm; omega
end Go.Proofs.Ythpohkklggabpaa
