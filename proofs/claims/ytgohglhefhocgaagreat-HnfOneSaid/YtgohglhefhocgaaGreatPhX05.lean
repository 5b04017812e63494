/- PhX05 -/
import Derived.Test.YtgohglhefhocgaaGreatPhX01
import Derived.Test.YtgohglhefhocgaaGreatPhX02
set_option linter.unusedVariables false
set_option linter.unusedSimpArgs false
set_option linter.unusedSectionVars false
set_option maxRecDepth 100000
set_option maxHeartbeats 8000000
namespace Go.Proofs.YtgohglhefhocgaaGreat
open Go.RowKit
section
variable {w:World}
theorem fZa1 {p:Addr}(w:World):(Instr.fieldAt 37 (.pointer (some p)) 1).run Tryz.prog w= .ok (.pointer (some ⟨p.block,p.off+1,none⟩)) w:=by simp[go_sem,Addr.add]
theorem ldNa {p:Addr}{A:Option Addr}{n c:Nat}(hp:p.block<w.heap.size)(h:w.cell? p=some (.slice A n c)):∀w',Below w.heap.size w w'→(Instr.loadAt 35 (.pointer (some p))).run Tryz.prog w'= .ok (.slice A n c) w':=fun w' hb=>by
 have:=(hb.cell hp).trans h;simp[go_sem,a_p,this]
end
end Go.Proofs.YtgohglhefhocgaaGreat
