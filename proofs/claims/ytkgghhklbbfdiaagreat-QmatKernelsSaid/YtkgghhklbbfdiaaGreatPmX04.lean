/- PmX04 -/
import Derived.Test.YtkgghhklbbfdiaaGreatPmX01
set_option linter.unusedVariables false
set_option linter.unusedSimpArgs false
set_option linter.unusedSectionVars false
set_option maxRecDepth 100000
set_option maxHeartbeats 8000000
namespace Go.Proofs.YtkgghhklbbfdiaaGreat
namespace RT
attribute [local instance] rdvd
open DT (Inc)
variable {α:Type}[CR α]
variable[Dom α]
attribute [local simp] a_d a_h a_o a_g a_f a_l a_m
variable {R C:Nat}{M N H K:Mx α}{u v:Nat→α}
theorem piv_len_le:∀c,(piv R M c).length≤R:=by
 intro c;induction c with
 |zero=>exact Nat.zero_le _
 |succ c ih=>
  by_cases hs:Som R M ((piv R M c).length+1) fun j=>(piv R M c++[c]).getD j 0
  ·rw[c_e hs,List.length_append];obtain⟨f,hf,_⟩:=hs;have h1:=hf.ge (piv R M c).length (by(first|omega|grind));have h2:=hf.lt (piv R M c).length (by(first|omega|grind));simp;(first|omega|grind)
  ·rw[d_b hs];exact ih
theorem rk_le_R:rk R C M≤R:=piv_len_le C
end RT
end Go.Proofs.YtkgghhklbbfdiaaGreat
