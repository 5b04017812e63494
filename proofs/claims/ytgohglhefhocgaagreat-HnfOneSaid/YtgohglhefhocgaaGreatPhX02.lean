/- PhX02 -/
import Derived.Test.YtgohglhefhocgaaGreatPh38
set_option linter.unusedVariables false
set_option linter.unusedSimpArgs false
set_option linter.unusedSectionVars false
set_option maxRecDepth 100000
set_option maxHeartbeats 8000000
namespace Go.Proofs.YtgohglhefhocgaaGreat
open Go.RowKit
theorem hbd_one:∀ {V:Nat},V≤9→hbd 1 V:=fun {V} h=>⟨by decide,by decide,by
 have:∀V,V<10→t1 1 V*(V+3)≤68719476736:=by decide
 exact this V (by omega)⟩
end Go.Proofs.YtgohglhefhocgaaGreat
