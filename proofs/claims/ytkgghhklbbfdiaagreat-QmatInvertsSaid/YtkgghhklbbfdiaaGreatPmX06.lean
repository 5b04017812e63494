/- PmX06 -/
import Derived.Test.YtkgghhklbbfdiaaGreatPmX01
import Derived.Test.YtkgghhklbbfdiaaGreatPmX02
set_option linter.unusedVariables false
set_option linter.unusedSimpArgs false
set_option linter.unusedSectionVars false
set_option maxRecDepth 100000
set_option maxHeartbeats 8000000
namespace Go.Proofs.YtkgghhklbbfdiaaGreat
section
namespace RT
attribute [local instance] rdvd
open DT (Inc)
variable {α:Type}[CR α]
variable[Fld α]
attribute [local simp] a_d a_h a_o a_g a_f a_l a_m
variable {R C:Nat}{M N H K A:Mx α}{u v:Nat→α}{p q:List Nat}
def bsd (C:Nat)(A B:Mx α):Mx α:=fun i j=>if j<C then A i j else B i (j - C)
theorem t_f {B:Mx α}(i:Nat){j:Nat}(h:j<C):bsd C A B i j=A i j:=by unfold bsd;rw[if_pos h]
theorem bsd_r {B:Mx α}(i j:Nat):bsd C A B i (C+j)=B i j:=by unfold bsd;rw[if_neg (by omega),Nat.add_sub_cancel_left]
theorem v_r {B:Mx α}{c:Nat}(hc:c≤C):piv R (bsd C A B) c=piv R A c:=
 i_v (C:=C) (fun k f hf=>⟨Som.mat fun i j hi _=>t_f i (hf j),Som.mat fun i j hi _=>(t_f i (hf j)).symm⟩) c hc
theorem p_q {c:Nat}:∀d,c≤d→∃l,piv R M d=piv R M c++l∧∀x∈l,c≤x∧x<d
 |0,h=>⟨[],by rw[show c=0 by omega];simp,by simp⟩
 |d+1,h=>by
  by_cases e:c=d+1
  ·subst e;exact⟨[],by simp,by simp⟩
  ·obtain⟨l,h1,h2⟩:=p_q (c:=c) d (by omega);by_cases hs:Som R M ((RT.piv R M d).length+1) fun j=>(RT.piv R M d++[d]).getD j 0
   ·refine⟨l++[d],by rw[c_e hs,h1,List.append_assoc],fun x hx=>?_⟩;rcases List.mem_append.mp hx with h3|h3
    ·have:=h2 x h3;omega
    ·rw[List.mem_singleton.mp h3];omega
   ·exact⟨l,by rw[d_b hs,h1],fun x hx=>by have:=h2 x hx;omega⟩
theorem RedOf.bsd {S:Nat}{B:Mx α}(h:RedOf R (C+S) (bsd C A B) M p):∃l,p=RT.piv R A C++l∧∀x∈l,C≤x∧x<C+S:=by
 rw[←h.piv];obtain⟨l,h1,h2⟩:=p_q (R:=R) (M:=RT.bsd C A B) (c:=C) (C+S) (by omega);exact⟨l,by rw[h1,v_r (Nat.le_refl _)],h2⟩
theorem RedOf.rk_bsd {S:Nat}{B:Mx α}(h:RedOf R (C+S) (RT.bsd C A B) M p):(∀r,r<p.length→p.getD r 0<C)↔p.length=RT.rk R C A:=by
 obtain⟨l,h1,h2⟩:=h.bsd;unfold RT.rk;constructor
 ·intro h3;rcases l with _|⟨x,l⟩
  ·rw[h1];simp
  ·exfalso
   have h4:=h3 (RT.piv R A C).length (by rw[h1];simp);have h5:=(h2 x (by simp)).1;rw[h1,List.getD_eq_getElem?_getD,List.getElem?_append_right (Nat.le_refl _)]at h4;simp at h4;omega
 ·intro h3 r hr;have h4:l=[]:=by rw[h1,List.length_append]at h3;exact List.length_eq_zero_iff.mp (by omega)
  rw[h4,List.append_nil]at h1;refine piv_cols (R:=R) (A:=A) _ ?_;rw[←h1,List.getD_eq_getElem?_getD,List.getElem?_eq_getElem hr];exact List.getElem_mem hr
end RT
end
section
open Go.RowKit
theorem kb_16593:∀C,C<5→kb (2*16593) C≤530991:=by decide+kernel
end
end Go.Proofs.YtkgghhklbbfdiaaGreat
