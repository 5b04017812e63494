/- PhX06 -/
import Derived.Test.YtgohglhefhocgaaGreatPhX02
set_option linter.unusedVariables false
set_option linter.unusedSimpArgs false
set_option linter.unusedSectionVars false
set_option maxRecDepth 100000
set_option maxHeartbeats 8000000
namespace Go.Proofs.YtgohglhefhocgaaGreat
section
open Go.RowKit
def dot (F G:Nat→Nat→Int)(i j:Nat):Nat→Int
 |0=>0
 |m+1=>dot F G i j m+F i m*G m j
section
variable {w:World}{g h:Nat}{T:TypeId}{cs:List Value}{s t:Bool}{A B:Option Addr}{n c m d:Nat}{z:Int}
end
end
section
open Go.RowKit
theorem e_2 (F G:Nat→Nat→Int)(i j:Nat):∀n,dot F G i j n=DT.sumN n fun k=>F i k*G k j
 |0=>rfl
 |n+1=>by show dot F G i j n+F i n*G n j=DT.sumN n (fun k=>F i k*G k j)+F i n*G n j;rw[e_2 F G i j n]
end
end Go.Proofs.YtgohglhefhocgaaGreat
