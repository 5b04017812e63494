/- PhX01 -/
import Derived.Test.YtgohglhefhocgaaGreatPh38
import Derived.IntWalk
set_option linter.unusedVariables false
set_option linter.unusedSimpArgs false
set_option linter.unusedSectionVars false
set_option maxRecDepth 100000
set_option maxHeartbeats 8000000
namespace Go.Proofs.YtgohglhefhocgaaGreat
open Go.RowKit
section
variable {w w':World}{g h:Nat}{T U:TypeId}{cs ds:List Value}
end
section
variable {g o:Nat}
end
section
variable {x y r:Int}{T:TypeId}{b:Bool}{X Y:Operand}{U:TypeId}
theorem opGt (h:decide (y<x)=b)(w:World):RunTwo Tryz.prog (.binOp .gtr T X Y U) w (.int .i64 x) (.int .i64 y) (.bool b):=by unfold RunTwo;simp[go_sem,←h];try rfl
end
end Go.Proofs.YtgohglhefhocgaaGreat
