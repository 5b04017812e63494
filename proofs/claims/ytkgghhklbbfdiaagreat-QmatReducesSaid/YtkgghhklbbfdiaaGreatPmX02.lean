/- PmX02 -/
import Derived.Test.YtkgghhklbbfdiaaGreatPm35
set_option linter.unusedVariables false
set_option linter.unusedSimpArgs false
set_option linter.unusedSectionVars false
set_option maxRecDepth 100000
set_option maxHeartbeats 8000000
namespace Go.Proofs.YtkgghhklbbfdiaaGreat
section
namespace RT
attribute [local instance] rdvd
open DT (Inc)
variable {α:Type}[CR α]
variable[Fld α]
attribute [local simp] a_d a_h a_o a_g a_f a_l a_m
variable {R C:Nat}{M N H K A:Mx α}{u v:Nat→α}{p q:List Nat}
def stk (R:Nat)(A B:Mx α):Mx α:=fun i j=>if i<R then A i j else B (i - R) j
theorem x_i {B:Mx α}(i:Nat):stk R A B (R+i)=B i:=funext fun j=>by unfold stk;rw[if_neg (by omega),Nat.add_sub_cancel_left]
theorem piv_cols:∀x∈piv R A C,x<C:=piv_lt C
end RT
end
section
open Go.RowKit
theorem kq_4:∀R,R<5→∀C,C<5→kb (kq1 R C 2) R≤549755813888∧kqf R C 2≤16593:=by decide+kernel
end
end Go.Proofs.YtkgghhklbbfdiaaGreat
