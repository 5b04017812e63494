/-
  Package zint: Gcd.
-/
import Derived.Test.YtofdbihohljmpaaZintD
import Derived.Test.YtofdbihohljmpaaGcdF
/-! Contract: zint.Gcd. -/
namespace Go.Proofs.Ytofdbihohljmpaa
open Go.RowKit
set_option linter.unusedVariables false
set_option linter.unusedSimpArgs false

end Go.Proofs.Ytofdbihohljmpaa
