/-
  Prime divisors between 150 and 46341, part 3.
-/
import Derived.Test.YthigedcpiglmnaaDoorMrA
/-! Prime divisors between 150 and 46341, part 3. -/
namespace Go.Proofs.YthigedcpiglmnaaDoor.MR
set_option linter.unusedVariables false
set_option linter.unusedSimpArgs false
theorem apr613 : apRange 613 74 = true := by decide +kernel
theorem apr761 : apRange 761 136 = true := by decide +kernel
theorem apr1033 : apRange 1033 287 = true := by decide +kernel
theorem apr1607 : apRange 1607 400 = true := by decide +kernel
theorem apr2407 : apRange 2407 400 = true := by decide +kernel
theorem apr3207 : apRange 3207 400 = true := by decide +kernel
theorem apr4007 : apRange 4007 400 = true := by decide +kernel
theorem apr4807 : apRange 4807 400 = true := by decide +kernel
theorem apr5607 : apRange 5607 400 = true := by decide +kernel
theorem apr6407 : apRange 6407 400 = true := by decide +kernel
theorem apr7207 : apRange 7207 400 = true := by decide +kernel
theorem apr8007 : apRange 8007 400 = true := by decide +kernel
theorem apr8807 : apRange 8807 400 = true := by decide +kernel
theorem apr9607 : apRange 9607 400 = true := by decide +kernel
theorem apr10407 : apRange 10407 400 = true := by decide +kernel
theorem apr11207 : apRange 11207 400 = true := by decide +kernel
theorem apr12007 : apRange 12007 400 = true := by decide +kernel
theorem apr12807 : apRange 12807 400 = true := by decide +kernel
theorem apr13607 : apRange 13607 400 = true := by decide +kernel
theorem apr14407 : apRange 14407 400 = true := by decide +kernel
theorem apr15207 : apRange 15207 400 = true := by decide +kernel
theorem apr16007 : apRange 16007 400 = true := by decide +kernel
theorem apr16807 : apRange 16807 400 = true := by decide +kernel
theorem apr17607 : apRange 17607 400 = true := by decide +kernel
theorem apr18407 : apRange 18407 400 = true := by decide +kernel
theorem apr19207 : apRange 19207 400 = true := by decide +kernel
theorem apr20007 : apRange 20007 400 = true := by decide +kernel
theorem apr20807 : apRange 20807 400 = true := by decide +kernel
theorem apr21607 : apRange 21607 400 = true := by decide +kernel
theorem apr22407 : apRange 22407 400 = true := by decide +kernel
theorem apr23207 : apRange 23207 400 = true := by decide +kernel
theorem apr24007 : apRange 24007 400 = true := by decide +kernel
theorem apr24807 : apRange 24807 400 = true := by decide +kernel
theorem apr25607 : apRange 25607 400 = true := by decide +kernel
theorem apr26407 : apRange 26407 400 = true := by decide +kernel
theorem apr27207 : apRange 27207 400 = true := by decide +kernel
theorem apr28007 : apRange 28007 400 = true := by decide +kernel
theorem apr28807 : apRange 28807 400 = true := by decide +kernel
theorem apr29607 : apRange 29607 400 = true := by decide +kernel
theorem apr30407 : apRange 30407 400 = true := by decide +kernel
theorem apr31207 : apRange 31207 400 = true := by decide +kernel
theorem apr32007 : apRange 32007 400 = true := by decide +kernel
theorem apr32807 : apRange 32807 400 = true := by decide +kernel
theorem apr33607 : apRange 33607 400 = true := by decide +kernel
theorem apr34407 : apRange 34407 400 = true := by decide +kernel
theorem apr35207 : apRange 35207 400 = true := by decide +kernel
theorem apr36007 : apRange 36007 400 = true := by decide +kernel
theorem apr36807 : apRange 36807 400 = true := by decide +kernel
theorem apr37607 : apRange 37607 400 = true := by decide +kernel
theorem apr38407 : apRange 38407 400 = true := by decide +kernel
theorem apr39207 : apRange 39207 400 = true := by decide +kernel
theorem apr40007 : apRange 40007 400 = true := by decide +kernel
theorem apr40807 : apRange 40807 400 = true := by decide +kernel
theorem apr41607 : apRange 41607 400 = true := by decide +kernel
theorem apr42407 : apRange 42407 400 = true := by decide +kernel
theorem apr43207 : apRange 43207 400 = true := by decide +kernel
theorem apr44007 : apRange 44007 400 = true := by decide +kernel
theorem apr44807 : apRange 44807 400 = true := by decide +kernel
theorem apr45607 : apRange 45607 367 = true := by decide +kernel
end Go.Proofs.YthigedcpiglmnaaDoor.MR
