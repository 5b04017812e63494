/- PmX07 -/
import Derived.Test.YtkgghhklbbfdiaaGreatPmX01
import Derived.Test.YtkgghhklbbfdiaaGreatPmX03
set_option linter.unusedVariables false
set_option linter.unusedSimpArgs false
set_option linter.unusedSectionVars false
set_option maxRecDepth 100000
set_option maxHeartbeats 8000000
namespace Go.Proofs.YtkgghhklbbfdiaaGreat
section
namespace RT
open DT (Inc sw sortP skip)
variable {α:Type}[CR α]
variable[Dom α]
attribute [local simp] a_d a_h a_o a_g a_f a_l a_m
variable {R C:Nat}{M N H K:Mx α}{u v:Nat→α}
attribute [local instance] rdvd
theorem DvAll.tr {k:Nat}{g:α}(h:DvAll k R C g M):DvAll k C R g fun i j=>M j i:=fun f h2 hf hh=>by
 rw[←c_x];exact h h2 f hh hf
end RT
end
section
namespace RT
attribute [local instance] rdvd
open DT (Inc)
variable {α:Type}[CR α]
variable[Dom α]
attribute [local simp] a_d a_h a_o a_g a_f a_l a_m
variable {R C:Nat}{M N H K:Mx α}{u v:Nat→α}
theorem rk_T:rk C R (fun i j=>M j i)=rk R C M:=by
 have h1:∀k,rk C R (fun i j=>M j i)<k↔rk R C M<k:=fun k=>by
  rw[←p_d,←p_d];exact⟨fun h=>h.tr,fun h=>h.tr⟩
 have:=h1 (rk R C M+1);have:=h1 ((rk C R fun i j=>M j i)+1)
 (first|omega|grind)
end RT
end
section
open Go.RowKit
theorem IsQv.below' {x:Rat}{k:Nat}{v:Value}{w w':World}(h:IsQv x k v w)(hb:Below w.heap.size w w'):IsQv x k v w':=o_z x k _ _ _ h hb
end
end Go.Proofs.YtkgghhklbbfdiaaGreat
