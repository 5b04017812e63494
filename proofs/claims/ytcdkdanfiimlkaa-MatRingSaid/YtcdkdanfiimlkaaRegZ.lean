/-
  Whole numbers in regions that draw their order: loads, what a call answers.
-/
import Derived.Test.YtcdkdanfiimlkaaZintA
/-! Whole numbers in regions. -/
namespace Go.Proofs.Ytcdkdanfiimlkaa
open Go.RowKit
set_option linter.unusedVariables false
set_option linter.unusedSimpArgs false

theorem run_ldz {w : World} {g k : Nat} {s : Bool} {A : Option Addr} {n c : Nat} (h0 : w.cell? ⟨g, k, none⟩ = some (.bool s)) (h1 : w.cell? ⟨g, k + 1, none⟩ = some (.slice A n c)) :
    (Instr.loadAt 28 (.pointer (some ⟨g, k, none⟩))).run Try.prog w = .ok (.agg #[.bool s, .slice A n c]) w := by
  simp [go_sem, h0, h1]
def IsC (z : Int) (k : Nat) : FVal := fun v w => ∃ s A n c, v = .agg #[.bool s, .slice A n c] ∧ Zc w s A n c z ∧ n ≤ k
def IsV (z : Int) (k : Nat) : FVal := fun v w => ∃ s A n c, v = .agg #[.bool s, .slice A n c] ∧ Zv w s A n c z ∧ n ≤ k
theorem stay_v (z : Int) (k : Nat) : Stays (IsV z k) := fun v w w' ⟨s, A, n, c, e, h, hk⟩ hb => ⟨s, A, n, c, e, h.below hb, hk⟩
theorem stay_c (z : Int) (k : Nat) : Stays (IsC z k) := fun v w w' ⟨s, A, n, c, e, h, hk⟩ hb => ⟨s, A, n, c, e, h.below hb, hk⟩
end Go.Proofs.Ytcdkdanfiimlkaa
