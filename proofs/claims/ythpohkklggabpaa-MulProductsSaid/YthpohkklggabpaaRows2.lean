/-
  From the form's reading of a list of slices of words to the numbers that they stand for.
-/
import Derived.Test.YthpohkklggabpaaNatA
import Derived.Deep.Matrix
namespace Go.Proofs.Ythpohkklggabpaa
open Go.RowKit

/-- What is known of a slice of slices of integers that came in: nil; or a row of cap slices, each nil, or a row. -/
def IsRows (k : IntKind) (w : World) (a : Option Addr) (len cap : Nat) : Prop :=
  (a = none ∧ len = 0 ∧ cap = 0) ∨
  ∃ x, a = some x ∧ len ≤ cap ∧ cap ≤ maxLen ∧ ∃ (A : Nat → Option Addr) (L C : Nat → Nat) (Z : Nat → List Int), ∀ r, r < cap → w.cell? (x.add r) = some (.slice (A r) (L r) (C r)) ∧ IsRow k w (A r) (L r) (C r) (Z r)
theorem IsRows.le {k : IntKind} {w : World} {a : Option Addr} {len cap : Nat} (h : IsRows k w a len cap) : len ≤ 9223372036854775807 := by
  rcases h with ⟨_, rfl, _⟩ | ⟨x, rfl, hl, hm, _⟩
  · omega
  · unfold maxLen at hm; omega
theorem isRows_mk {k : IntKind} {w : World} {a : Addr} {len cap : Nat} {A : Nat → Option Addr} {L C : Nat → Nat} {Z : Nat → List Int} (hl : len ≤ cap) (hm : cap ≤ maxLen)
    (h : ∀ r, r < cap → w.cell? (a.add r) = some (.slice (A r) (L r) (C r)) ∧ L r ≤ C r ∧ C r ≤ maxLen ∧ (Z r).length = C r ∧ (∀ n ∈ Z r, (Lit.int k n).wf = true) ∧ (A r = none → C r = 0) ∧
      ∀ a', A r = some a' → 0 ≤ a'.block ∧ ∀ c, c < C r → w.cell? (a'.add c) = some (.int k ((Z r).getD c 0))) : IsRows k w (some a) len cap := by
  refine .inr ⟨a, rfl, hl, hm, A, L, C, Z, fun r hr => ?_⟩
  obtain ⟨h1, h2, h3, h4, h5, h6, h7⟩ := h r hr
  refine ⟨h1, ?_⟩
  cases hA : A r with
  | none =>
    have h8 := h6 hA
    exact .inl ⟨rfl, by omega, h8, List.eq_nil_of_length_eq_zero (by omega)⟩
  | some a' => exact .inr ⟨a', rfl, h2, h3, h4, fun i hi => (h7 a' hA).2 i (by omega), h5⟩
end Go.Proofs.Ythpohkklggabpaa
