/-
  Prime divisors between 150 and 46341, part 1.
-/
import Derived.Test.YthigedcpiglmnaaDoorMrA
/-! Prime divisors between 150 and 46341, part 1. -/
namespace Go.Proofs.YthigedcpiglmnaaDoor.MR
set_option linter.unusedVariables false
set_option linter.unusedSimpArgs false
theorem ap197 : apq 197 = true := by decide +kernel
theorem ap199 : apq 199 = true := by decide +kernel
theorem ap211 : apq 211 = true := by decide +kernel
theorem apr217 : apRange 217 6 = true := by decide +kernel
theorem apr229 : apRange 229 5 = true := by decide +kernel
theorem apr239 : apRange 239 9 = true := by decide +kernel
theorem apr257 : apRange 257 7 = true := by decide +kernel
theorem apr271 : apRange 271 11 = true := by decide +kernel
end Go.Proofs.YthigedcpiglmnaaDoor.MR
