/-
  Package rat: Pow of the least int.
-/
import Derived.Test.YtfpncmhaoadfdaaGreatRatD
/-! Contracts: rat.Pow of the least int. -/
namespace Go.Proofs.YtfpncmhaoadfdaaGreat
open Go.RowKit
set_option linter.unusedVariables false
set_option linter.unusedSimpArgs false

end Go.Proofs.YtfpncmhaoadfdaaGreat
