/- PhX08 -/
import Derived.Test.YtgohglhefhocgaaGreatPhX03
set_option linter.unusedVariables false
set_option linter.unusedSimpArgs false
set_option linter.unusedSectionVars false
set_option maxRecDepth 100000
set_option maxHeartbeats 8000000
namespace Go.Proofs.YtgohglhefhocgaaGreat
open Go.RowKit
section
variable {ops:Array Oper}{Q:Exit→Act→World→Prop}{m i:Nat}{a0:Act}{w0:World}{l:List FK}{b:Bool}{id:Nat}
end
section
variable {T:TypeId}{X Y:Operand}{U:TypeId}
theorem opEqB {x y:Bool}{b:Bool}(h:(x==y)=b)(w:World):RunTwo Tryz.prog (.binOp .eql 4 X Y U) w (.bool x) (.bool y) (.bool b):=by unfold RunTwo;subst h;cases x<;>cases y<;>simp only[]<;>kernel_rfl
end
end Go.Proofs.YtgohglhefhocgaaGreat
