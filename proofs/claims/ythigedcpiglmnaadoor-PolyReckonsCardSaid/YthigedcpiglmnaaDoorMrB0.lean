/-
  Prime divisors between 150 and 46341, part 0.
-/
import Derived.Test.YthigedcpiglmnaaDoorMrA
/-! Prime divisors between 150 and 46341, part 0. -/
namespace Go.Proofs.YthigedcpiglmnaaDoor.MR
set_option linter.unusedVariables false
set_option linter.unusedSimpArgs false
theorem ap151 : apq 151 = true := by decide +kernel
theorem ap157 : apq 157 = true := by decide +kernel
theorem ap163 : apq 163 = true := by decide +kernel
theorem ap167 : apq 167 = true := by decide +kernel
theorem ap173 : apq 173 = true := by decide +kernel
theorem ap179 : apq 179 = true := by decide +kernel
theorem ap181 : apq 181 = true := by decide +kernel
theorem ap191 : apq 191 = true := by decide +kernel
theorem ap193 : apq 193 = true := by decide +kernel
end Go.Proofs.YthigedcpiglmnaaDoor.MR
