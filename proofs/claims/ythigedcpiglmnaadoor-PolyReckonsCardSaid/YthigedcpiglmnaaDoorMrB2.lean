/-
  Prime divisors between 150 and 46341, part 2.
-/
import Derived.Test.YthigedcpiglmnaaDoorMrA
/-! Prime divisors between 150 and 46341, part 2. -/
namespace Go.Proofs.YthigedcpiglmnaaDoor.MR
set_option linter.unusedVariables false
set_option linter.unusedSimpArgs false
theorem apr293 : apRange 293 10 = true := by decide +kernel
theorem apr313 : apRange 313 18 = true := by decide +kernel
theorem apr349 : apRange 349 20 = true := by decide +kernel
theorem apr389 : apRange 389 27 = true := by decide +kernel
theorem apr443 : apRange 443 30 = true := by decide +kernel
theorem apr503 : apRange 503 55 = true := by decide +kernel
end Go.Proofs.YthigedcpiglmnaaDoor.MR
