/-
  Rests and inverses: divisions.
-/
import Derived.Test.YtofdbihohljmpaaModD
import Derived.Test.YtofdbihohljmpaaModE
import Derived.Deep.RegionWith
/-! Rests and inverses: divisions. -/
namespace Go.Proofs.Ytofdbihohljmpaa
open Go.RowKit
set_option linter.unusedVariables false
set_option linter.unusedSimpArgs false

theorem rest_cong (x y : Int) : decide (y ∣ x - x % y) = true := decide_eq_true ⟨x / y, by rw [Int.emod_def]; omega⟩
theorem inv_dvd {x y X : Int} (h : X * x % y = 1 % y) : decide (y ∣ x * X - 1) = true :=
  decide_eq_true (Int.dvd_of_emod_eq_zero (by rw [Int.mul_comm]; exact Int.emod_eq_emod_iff_emod_sub_eq_zero.1 h))
end Go.Proofs.Ytofdbihohljmpaa
