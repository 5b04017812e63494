/- PbX03 -/
import Derived.Test.YtlgjjnmmepgafaaPbX01
set_option linter.unusedVariables false
set_option linter.unusedSimpArgs false
set_option linter.unusedSectionVars false
set_option maxRecDepth 100000
set_option maxHeartbeats 8000000
namespace Go.Proofs.Ytlgjjnmmepgafaa
open Go.RowKit
section
variable {w:World}{g h:Nat}{T:TypeId}{cs:List Value}{s t:Bool}{A B:Option Addr}{n c m d:Nat}{z:Int}
theorem Zv.zp {s':Bool}{A':Option Addr}{n' c':Nat}(x:Zv w s A n c z)(b:Bx w g 30 [.bool t,.slice B m d]):Zv (Go.Proofs.Ytlgjjnmmepgafaa.zput w g s' A' n' c') s A n c z:=x.put (Ib.entry b)
end
end Go.Proofs.Ytlgjjnmmepgafaa
