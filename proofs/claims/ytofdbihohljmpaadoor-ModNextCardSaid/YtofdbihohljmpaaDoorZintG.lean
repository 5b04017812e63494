/-
  Package zint: Gcd.
-/
import Derived.Test.YtofdbihohljmpaaDoorZintD
import Derived.Test.YtofdbihohljmpaaDoorGcdF
/-! Contract: zint.Gcd. -/
namespace Go.Proofs.YtofdbihohljmpaaDoor
open Go.RowKit
set_option linter.unusedVariables false
set_option linter.unusedSimpArgs false

end Go.Proofs.YtofdbihohljmpaaDoor
