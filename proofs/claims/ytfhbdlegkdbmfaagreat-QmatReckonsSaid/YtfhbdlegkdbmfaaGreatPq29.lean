/- Pq29 -/
import Derived.KernelRfl
import Derived.Test.YtfhbdlegkdbmfaaGreatPq22
set_option linter.unusedVariables false
set_option linter.unusedSimpArgs false
set_option linter.unusedSectionVars false
set_option maxRecDepth 100000
set_option maxHeartbeats 8000000
namespace Go.Proofs.YtfhbdlegkdbmfaaGreat
section
namespace RT
abbrev ofInst {F:Type->Type}{β:Type}(_:F β):Type->Type:=F
abbrev CR:Type->Type:=ofInst Dyadic.instCommRing
variable {α:Type}[CR α]
theorem a_t (a:α):a*0=0:=by grind
theorem b_m (a:α):0*a=0:=by grind
theorem b_7 (a:α):a*1=a:=by grind
theorem b_i (a:α):1*a=a:=by grind
theorem b_e (a:α):a+0=a:=by grind
theorem b_v (a:α):0+a=a:=by grind
theorem b_5 (a:α):a - 0=a:=by grind
theorem c_l (a b:α):a*b=b*a:=by grind
theorem n_h (a b c:α):a*b*c=a*(b*c):=by grind
theorem r_k (a b c:α):a*(b+c)=a*b+a*c:=by grind
theorem r_q (a b c:α):(a+b)*c=a*c+b*c:=by grind
theorem r_j (a b:α):a* -b= -(a*b):=by grind
theorem j_k (a b:α):-a* -b=a*b:=by grind
theorem j_h (a:α):a^(0:Nat)=1:=by grind
theorem j_i (a:α)(n:Nat):a^(n+1)=a^n*a:=by grind
class Dom (α:Type) [CR α]:Prop where
 ne:(1:α)≠0
 int:∀a b:α,a*b=0->a=0\/b=0
theorem rmul_eq_zero [Dom α]{a b:α}:a*b=0↔a=0\/b=0:=⟨Dom.int a b,fun h=>by rcases h with h|h<;>rw[h]<;>grind⟩
theorem d_n [Dom α]{a b:α}(ha:a≠0)(hb:b≠0):a*b≠0:=fun h=>(Dom.int a b h).elim ha hb
def dv (a b:α):Prop:=∃c,b=a*c
attribute [local simp] a_t b_m b_7 b_i b_e b_v b_5
def sumN:Nat->(Nat->α)->α
 |0,_=>0
 |n+1,f=>sumN n f+f n
theorem sum_ext {n:Nat}{f g:Nat->α}(h:∀k,k<n->f k=g k):sumN n f=sumN n g:=by
 induction n with
 |zero=>rfl
 |succ n ih=>simp only[sumN];rw[ih fun k hk=>h k (by(first|omega|grind)),h n (by(first|omega|grind))]
theorem d_m (n:Nat)(f g:Nat->α):sumN n (fun k=>f k+g k)=sumN n f+sumN n g:=by
 induction n with
 |zero=>simp[sumN]
 |succ n ih=>simp only[sumN,ih];(first|omega|grind)
theorem a_0 (n:Nat)(c:α)(f:Nat->α):sumN n (fun k=>c*f k)=c*sumN n f:=by
 induction n with
 |zero=>simp[sumN]
 |succ n ih=>simp only[sumN,ih,r_k]
theorem sum_mul' (n:Nat)(c:α)(f:Nat->α):sumN n (fun k=>f k*c)=sumN n f*c:=by
 induction n with
 |zero=>simp[sumN]
 |succ n ih=>simp only[sumN,ih,r_q]
theorem a_9 {n:Nat}{f:Nat->α}(h:∀k,k<n->f k=0):sumN n f=0:=by
 induction n with
 |zero=>rfl
 |succ n ih=>simp only[sumN];rw[ih fun k hk=>h k (by(first|omega|grind)),h n (by(first|omega|grind))];simp
theorem a_4 {n i:Nat}(hi:i<n){f:Nat->α}(h:∀k,k<n->k≠i->f k=0):sumN n f=f i:=by
 induction n with
 |zero=>(first|omega|grind)
 |succ n ih=>
  simp only[sumN];by_cases e:i=n
  ·subst e;rw[a_9 fun k hk=>h k (by(first|omega|grind)) (by(first|omega|grind))];(first|omega|grind)
  ·rw[ih (by(first|omega|grind)) fun k hk hne=>h k (by(first|omega|grind)) hne,h n (by(first|omega|grind)) (fun e2=>e e2.symm)];(first|omega|grind)
theorem h_6 {n i j:Nat}(hij:i<j)(hj:j<n){f:Nat->α}(h:∀k,k<n->k≠i->k≠j->f k=0):sumN n f=f i+f j:=by
 induction n with
 |zero=>(first|omega|grind)
 |succ n ih=>
  simp only[sumN];by_cases e:j=n
  ·subst e;rw[a_4 hij fun k hk hne=>h k (by(first|omega|grind)) hne (by(first|omega|grind))]
  ·rw[ih (by(first|omega|grind)) fun k hk h1 h2=>h k (by(first|omega|grind)) h1 h2,h n (by(first|omega|grind)) (by(first|omega|grind)) (fun e2=>e e2.symm)];(first|omega|grind)
theorem e_n (n m:Nat)(f:Nat->Nat->α):sumN n (fun i=>sumN m fun j=>f i j)=sumN m fun j=>sumN n fun i=>f i j:=by
 induction n with
 |zero=>simp only[sumN];exact(a_9 fun _ _=>rfl).symm
 |succ n ih=>simp only[sumN];rw[ih,<-d_m]
def sgn:Nat->α
 |0=>1
 |k+1=>- sgn k
theorem l_9 (k:Nat):sgn k*sgn k=(1:α):=by
 induction k with
 |zero=>simp[sgn]
 |succ k ih=>simp only[sgn];rw[j_k];exact ih
theorem i_b (a b:Nat):(sgn (a+b):α)=sgn a*sgn b:=by
 induction b with
 |zero=>simp[sgn]
 |succ b ih=>rw[<-Nat.add_assoc];simp only[sgn,ih];rw[r_j]
abbrev Mx (α:Type):=Nat->Nat->α
def skip (k j:Nat):Nat:=if j<k then j else j+1
def un (k j:Nat):Nat:=if j<k then j else j - 1
theorem k_p {k j n:Nat}(hj:j<n):skip k j<n+1:=by unfold skip;split<;>(first|omega|grind)
theorem g_h (k j:Nat):skip k j≠k:=by unfold skip;split<;>(first|omega|grind)
theorem d_9 {k j:Nat}(h:j≠k):skip k (un k j)=j:=by
 unfold skip un;by_cases h1:j<k
 ·rw[if_pos h1,if_pos h1]
 ·rw[if_neg h1,if_neg (by(first|omega|grind))];(first|omega|grind)
theorem k_j (k j:Nat):un k (skip k j)=j:=by
 unfold skip un;by_cases h1:j<k
 ·rw[if_pos h1,if_pos h1]
 ·rw[if_neg h1,if_neg (by(first|omega|grind))];(first|omega|grind)
theorem k_k {k j n:Nat}(h:j≠k)(hj:j<n+1)(hk:k<n+1):un k j<n:=by unfold un;split<;>(first|omega|grind)
def minor (M:Mx α)(k:Nat):Mx α:=fun i j=>M (i+1) (skip k j)
def det:Nat->Mx α->α
 |0,_=>1
 |n+1,M=>sumN (n+1) fun k=>sgn k*M 0 k*det n (minor M k)
theorem a_r (n:Nat)(M:Mx α):det (n+1) M=sumN (n+1) fun k=>sgn k*M 0 k*det n (minor M k):=rfl
theorem det_ext:∀ {n:Nat} {M N:Mx α},(∀i j,i<n->j<n->M i j=N i j)->det n M=det n N
 |0,_,_,_=>rfl
 |n+1,M,N,h=>by
  rw[a_r,a_r];refine sum_ext fun k hk=>?_;rw[h 0 k (by(first|omega|grind)) hk,det_ext (M:=minor M k) (N:=minor N k) fun i j hi hj=>h (i+1) (skip k j) (by(first|omega|grind)) (k_p hj)]
def one:Mx α:=fun i j=>if i=j then 1 else 0
theorem det_one:∀n,det n (one:Mx α)=1
 |0=>rfl
 |n+1=>by
  rw[a_r,a_4 (i:=0) (by(first|omega|grind)) fun k _ hk=>by unfold one;rw[if_neg (fun e=>hk e.symm)];simp];rw[det_ext (N:=one) fun i j _ _=>by unfold minor one skip;simp,det_one n];simp[sgn,one]
def setc (M:Mx α)(j:Nat)(u:Nat->α):Mx α:=fun i j'=>if j'=j then u i else M i j'
theorem a_7 (M:Mx α)(j:Nat)(u:Nat->α):minor (setc M j u) j=minor M j:=by
 funext i c;unfold minor setc;rw[if_neg (g_h j c)]
theorem b_k (M:Mx α){j k:Nat}(u:Nat->α)(h:j≠k):minor (setc M j u) k=setc (minor M k) (un k j) fun i=>u (i+1):=by
 funext i c
 unfold minor setc;by_cases e:c=un k j
 ·rw[if_pos (by rw[e,d_9 h]),if_pos e]
 ·rw[if_neg (fun e2=>e (by rw[<-e2,k_j])),if_neg e]
theorem col_lin:∀ {n:Nat} (M:Mx α) {j:Nat} (u v:Nat->α) (c:α),j<n->det n (setc M j fun i=>u i+c*v i)=det n (setc M j u)+c*det n (setc M j v)
 |0,_,_,_,_,_,h=>by(first|omega|grind)
 |n+1,M,j,u,v,c,h=>by
  rw[a_r,a_r,a_r,<-a_0,<-d_m];refine sum_ext fun k hk=>?_;by_cases e:k=j
  ·subst e;rw[a_7,a_7,a_7];simp only[setc,if_true];grind
  ·rw[b_k M _ (fun e2=>e e2.symm),b_k M _ (fun e2=>e e2.symm),b_k M _ (fun e2=>e e2.symm),col_lin (minor M k) (fun i=>u (i+1)) (fun i=>v (i+1)) c (k_k (fun e2=>e e2.symm) h hk)];simp only[setc,if_neg e];grind
theorem col_alt:∀ {n:Nat} (M:Mx α) {j:Nat},j+1<n->(∀i,i<n->M i j=M i (j+1))->det n M=0
 |0,_,_,h,_=>by(first|omega|grind)
 |n+1,M,j,h,he=>by
  rw[a_r,h_6 (i:=j) (j:=j+1) (by(first|omega|grind)) h fun k hk h1 h2=>?_]
  ·have e:det n (minor M j)=det n (minor M (j+1)):=det_ext fun i c hi hc=>by
    unfold minor;by_cases hcj:c=j
    ·subst hcj;rw[show skip c c=c+1 by unfold skip;simp,show skip (c+1) c=c by unfold skip;simp];exact(he (i+1) (by(first|omega|grind))).symm
    ·rw[show skip j c=skip (j+1) c by unfold skip;split<;>split<;>(first|omega|grind)]
   rw[e,he 0 (by(first|omega|grind))];simp only[sgn];grind
  ·rw[col_alt (minor M k) (j:=un k j) (by unfold un;split<;>(first|omega|grind)) (fun i hi=>?_)]
   ·simp
   ·unfold minor;rw[d_9 (fun e=>h1 e.symm),show skip k (un k j+1)=j+1 by unfold skip un;split<;>split<;>(first|omega|grind)];exact he (i+1) (by(first|omega|grind))
def setr (M:Mx α)(i:Nat)(u:Nat->α):Mx α:=fun i' j=>if i'=i then u j else M i' j
structure AltM (n:Nat) (D:Mx α->α):Prop where
 ext:∀M N:Mx α,(∀i j,i<n->j<n->M i j=N i j)->D M=D N
 lin:∀(M:Mx α) (i:Nat) (u v:Nat->α) (c:α),i<n->D (setr M i fun j=>u j+c*v j)=D (setr M i u)+c*D (setr M i v)
 alt:∀(M:Mx α) (i:Nat),i+1<n->(∀j,j<n->M i j=M (i+1) j)->D M=0
section
variable {n:Nat}{D:Mx α->α}
theorem AltM.zero (h:AltM n D)(M:Mx α){i:Nat}(hi:i<n):D (setr M i fun _=>0)=0:=by
 have:=h.lin M i (fun _=>0) (fun _=>0) (-1) hi;simp only[a_t,b_e]at this
 (first|omega|grind)
theorem AltM.add (h:AltM n D)(M:Mx α){i:Nat}(u v:Nat->α)(hi:i<n):D (setr M i fun j=>u j+v j)=D (setr M i u)+D (setr M i v):=by
 have:=h.lin M i u v 1 hi;simpa only[b_i] using this
theorem AltM.smul (h:AltM n D)(M:Mx α){i:Nat}(c:α)(v:Nat->α)(hi:i<n):D (setr M i fun j=>c*v j)=c*D (setr M i v):=by
 have:=h.lin M i (fun _=>0) v c hi;simpa only[b_v,h.zero M hi] using this
theorem c_b (M:Mx α)(i:Nat):setr M i (M i)=M:=by
 funext i' j;unfold setr;split
 ·rename_i e;rw[e]
 ·rfl
theorem a_s (M:Mx α){i k:Nat}(u v:Nat->α)(h:i≠k):setr (setr M i u) k v=setr (setr M k v) i u:=by
 funext i' j;unfold setr
 by_cases e1:i'=k
 ·rw[if_pos e1,if_neg (fun e=>h (by(first|omega|grind))),if_pos e1]
 ·rw[if_neg e1];split<;>rfl
theorem AltM.swap1 (h:AltM n D)(M:Mx α){i:Nat}(hi:i+1<n):D (setr (setr M i (M (i+1))) (i+1) (M i))= - D M:=by
 have key:∀u v:Nat->α,D (setr (setr M i u) (i+1) v)+D (setr (setr M i v) (i+1) u)=0:=fun u v=>by
  have z:∀u:Nat->α,D (setr (setr M i u) (i+1) u)=0:=fun u=>h.alt _ i hi fun j _=>by
   unfold setr;rw[if_neg (by(first|omega|grind)),if_pos rfl,if_pos rfl]
  have e:=z fun j=>u j+v j;rw[h.add _ u v hi,a_s M _ u (by(first|omega|grind)),a_s M _ v (by(first|omega|grind)),h.add _ u v (by(first|omega|grind)),h.add _ u v (by(first|omega|grind)),a_s M _ _ (show i+1≠i by(first|omega|grind)),a_s M _ _ (show i+1≠i by(first|omega|grind)),a_s M _ _ (show i+1≠i by(first|omega|grind)),a_s M _ _ (show i+1≠i by(first|omega|grind))]at e;have z1:=z u;have z2:=z v
  (first|omega|grind)
 have:=key (M (i+1)) (M i);rw[c_b M i,c_b]at this
 (first|omega|grind)
theorem AltM.same (h:AltM n D):∀(d:Nat) (M:Mx α) (i:Nat),i+d+1<n->(∀j,j<n->M i j=M (i+d+1) j)->D M=0
 |0,M,i,hi,he=>h.alt M i hi he
 |d+1,M,i,hi,he=>by
  have e:=h.swap1 M (i:=i+d+1) (by(first|omega|grind));have z:=AltM.same h d (setr (setr M (i+d+1) (M (i+d+1+1))) (i+d+1+1) (M (i+d+1))) i (by(first|omega|grind)) fun j hj=>by
   unfold setr;rw[if_neg (by(first|omega|grind)),if_neg (by(first|omega|grind)),if_neg (by(first|omega|grind)),if_pos rfl];exact he j hj
  (first|omega|grind)
theorem AltM.same' (h:AltM n D)(M:Mx α){i k:Nat}(hi:i<n)(hk:k<n)(hne:i≠k)(he:∀j,j<n->M i j=M k j):D M=0:=by
 rcases Nat.lt_or_gt_of_ne hne with h1|h1
 ·exact h.same (k - i - 1) M i (by(first|omega|grind)) fun j hj=>by rw[show i+(k - i - 1)+1=k by(first|omega|grind)];exact he j hj
 ·exact h.same (i - k - 1) M k (by(first|omega|grind)) fun j hj=>by rw[show k+(i - k - 1)+1=i by(first|omega|grind)];exact(he j hj).symm
theorem AltM.addrow (h:AltM n D)(M:Mx α){i k:Nat}(c:α)(hi:i<n)(hk:k<n)(hne:i≠k):D (setr M i fun j=>M i j+c*M k j)=D M:=by
 rw[h.lin M i (M i) (M k) c hi,c_b,h.same' (setr M i (M k)) hi hk hne fun j _=>by unfold setr;rw[if_pos rfl,if_neg (fun e=>hne e.symm)]];simp
end
def e1 (k:Nat):Nat->α:=fun j=>if j=k then 1 else 0
theorem AltM.row0 {n:Nat}{D:Mx α->α}(h:AltM (n+1) D)(A:Mx α):D A=sumN (n+1) fun k=>A 0 k*D (setr A 0 (e1 k)):=by
 have key:∀m,D (setr A 0 fun j=>if j<m then A 0 j else 0)=sumN m fun k=>A 0 k*D (setr A 0 (e1 k)):=by
  intro m;induction m with
  |zero=>simp only[Nat.not_lt_zero,if_false,sumN];exact h.zero A (by(first|omega|grind))
  |succ m ih=>
   simp only[sumN];rw[<-ih,<-h.lin A 0 _ (e1 m) (A 0 m) (by(first|omega|grind))];congr 2
   funext j
   unfold e1;by_cases e:j=m
   ·subst e;simp
   ·rw[if_neg e,a_t,b_e];by_cases e2:j<m
    ·rw[if_pos (by(first|omega|grind)),if_pos e2]
    ·rw[if_neg (by(first|omega|grind)),if_neg e2]
 rw[<-key (n+1)];exact h.ext _ _ fun i j hi hj=>by
  unfold setr;split
  ·rename_i e;rw[e];show A 0 j=if j<n+1 then A 0 j else 0;rw[if_pos hj]
  ·rfl
def ins (k:Nat)(N:Mx α):Mx α:=fun i j=>if i=0 then e1 k j else if j=k then 0 else N (i - 1) (un k j)
theorem l_b {n k:Nat}{D:Mx α->α}(h:AltM (n+1) D)(hk:k<n+1):AltM n fun N=>D (ins k N) where
 ext M N he:=h.ext _ _ fun i j hi hj=>by
  unfold ins;by_cases e0:i=0
  ·rw[if_pos e0,if_pos e0]
  ·rw[if_neg e0,if_neg e0];by_cases ej:j=k
   ·rw[if_pos ej,if_pos ej]
   ·rw[if_neg ej,if_neg ej];exact he _ _ (by(first|omega|grind)) (k_k ej hj hk)
 lin M i u v c hi:=by
  have e:∀w:Nat->α,ins k (setr M i w)=setr (ins k M) (i+1) fun j=>if j=k then 0 else w (un k j):=fun w=>by
   funext i' j
   simp only[ins,setr];by_cases e0:i'=0
   ·rw[if_pos e0,if_neg (by(first|omega|grind)),if_pos e0]
   ·rw[if_neg e0];by_cases e3:i'=i+1
    ·rw[if_pos e3];by_cases ej:j=k
     ·rw[if_pos ej,if_pos ej]
     ·rw[if_neg ej,if_neg ej,if_pos (by(first|omega|grind))]
    ·rw[if_neg e3,if_neg e0];by_cases ej:j=k
     ·rw[if_pos ej,if_pos ej]
     ·rw[if_neg ej,if_neg ej,if_neg (by(first|omega|grind))]
  rw[e,e,e,<-h.lin _ _ _ _ c (by(first|omega|grind))];congr 2
  funext j
  by_cases ej:j=k
  ·simp[ej]
  ·simp[ej]
 alt M i hi he:=h.alt _ (i+1) (by(first|omega|grind)) fun j hj=>by
  unfold ins;rw[if_neg (show ¬i+1=0 by(first|omega|grind)),if_neg (show ¬i+1+1=0 by(first|omega|grind))];by_cases ej:j=k
  ·rw[if_pos ej,if_pos ej]
  ·rw[if_neg ej,if_neg ej,show i+1 - 1=i by(first|omega|grind),show i+1+1 - 1=i+1 by(first|omega|grind)];exact he _ (k_k ej hj hk)
theorem AltM.clear {n k:Nat}{D:Mx α->α}(h:AltM (n+1) D)(hk:k<n+1)(A:Mx α):D (setr A 0 (e1 k))=D (ins k (minor A k)):=by
 have key:∀m,m<=n->D (setr A 0 (e1 k))=D (fun i j=>if i=0 then e1 k j else if i<=m/\j=k then 0 else A i j):=by
  intro m;induction m with
  |zero=>
   intro _;refine h.ext _ _ fun i j hi hj=>?_;unfold setr;by_cases e0:i=0
   ·rw[if_pos e0,if_pos e0]
   ·rw[if_neg e0,if_neg e0,if_neg (fun e=>e0 (by(first|omega|grind)))]
  |succ m ih=>
   intro hm;rw[ih (by(first|omega|grind))];have e:=h.addrow (fun i j=>if i=0 then e1 k j else if i<=m/\j=k then 0 else A i j) (i:=m+1) (k:=0) (- A (m+1) k) (by(first|omega|grind)) (by(first|omega|grind)) (by(first|omega|grind));rw[<-e];refine h.ext _ _ fun i j hi hj=>?_;unfold setr;by_cases e0:i=m+1
   ·subst e0;simp only[if_true,if_neg (show ¬m+1=0 by(first|omega|grind)),if_neg (show ¬(m+1<=m/\j=k) by(first|omega|grind))];unfold e1;by_cases ej:j=k
    ·subst ej;simp;(first|omega|grind)
    ·simp[ej]
   ·simp only[if_neg e0];by_cases e2:i=0
    ·simp[e2]
    ·simp only[if_neg e2];by_cases e3:i<=m/\j=k
     ·rw[if_pos e3,if_pos ⟨by(first|omega|grind),e3.2⟩]
     ·rw[if_neg e3,if_neg (by(first|omega|grind))]
 rw[key n (Nat.le_refl _)];refine h.ext _ _ fun i j hi hj=>?_;unfold ins minor;by_cases e0:i=0
 ·rw[if_pos e0,if_pos e0]
 ·rw[if_neg e0,if_neg e0];by_cases ej:j=k
  ·rw[if_pos ⟨by(first|omega|grind),ej⟩,if_pos ej]
  ·rw[if_neg (fun e=>ej e.2),if_neg ej,d_9 ej,show i - 1+1=i by(first|omega|grind)]
def perm (k m:Nat):Mx α:=fun i=>e1 (if i<m then i else if i=m then k else if i<=k then i - 1 else i)
theorem AltM.perm1 {n k:Nat}{D:Mx α->α}(h:AltM (n+1) D)(hk:k<n+1):∀m,m<=k->D (ins k one)=sgn m*D (perm k m)
 |0,_=>by
  simp only[sgn,b_i];refine h.ext _ _ fun i j hi hj=>?_;unfold ins perm one e1 un;repeat' split
  all_goals first|rfl|(exfalso;(first|omega|grind))
 |m+1,hm=>by
  rw[AltM.perm1 h hk m (by(first|omega|grind))];have e:=h.swap1 (perm k m) (i:=m) (by(first|omega|grind));have e2:D (perm k (m+1))=D (setr (setr (perm k m) m (perm k m (m+1))) (m+1) (perm k m m)):=h.ext _ _ fun i j hi hj=>by
   unfold setr perm;by_cases h1:i=m+1
   ·subst h1;simp
   ·by_cases h2:i=m
    ·subst h2;simp only[if_neg (show ¬i=i+1 by(first|omega|grind)),if_true,if_pos (show i<i+1 by(first|omega|grind)),if_neg (show ¬i+1<i by(first|omega|grind)),if_neg (show ¬i+1=i by(first|omega|grind)),if_pos hm,Nat.add_sub_cancel]
    ·simp only[if_neg h1,if_neg h2];by_cases h3:i<m
     ·rw[if_pos h3,if_pos (by(first|omega|grind))]
     ·rw[if_neg h3,if_neg (by(first|omega|grind))]
  rw[e2,e];simp only[sgn];grind
theorem AltM.perm {n k:Nat}{D:Mx α->α}(h:AltM (n+1) D)(hk:k<n+1):D (ins k one)=sgn k*D one:=by
 rw[h.perm1 hk k (Nat.le_refl _)];congr 1
 refine h.ext _ _ fun i j hi hj=>?_;unfold RT.perm one e1;repeat' split
 all_goals first|rfl|(exfalso;(first|omega|grind))
theorem alt_det:∀(n:Nat) (D:Mx α->α),AltM n D->∀A,D A=det n A*D one
 |0,D,h,A=>by rw[h.ext A one fun i j hi=>by(first|omega|grind)];simp[det]
 |n+1,D,h,A=>by
  rw[h.row0 A,a_r,<-sum_mul'];refine sum_ext fun k hk=>?_;rw[h.clear hk A,alt_det n _ (l_b h hk) (minor A k),h.perm hk];grind
theorem e_i (n:Nat)(M:Mx α):det n (fun i j=>M j i)=det n M:=by
 have h:AltM n fun M=>det n fun i j=>M j i:=
  { ext:=fun M N he=>det_ext fun i j hi hj=>he j i hj hi
    lin:=fun M i u v c hi=>by
     have e:∀w:Nat->α,(fun i' j=>setr M i w j i')=setc (fun i' j=>M j i') i w:=fun w=>by
      funext i' j;unfold setr setc;rfl
     rw[e,e,e];exact col_lin _ u v c hi
    alt:=fun M i hi he=>col_alt _ hi fun j hj=>he j hj }
 have:=alt_det n _ h M;rw[this,det_ext (M:=fun i j=>one j i) (N:=one) fun i j _ _=>by
  unfold one;by_cases e:j=i
  ·rw[if_pos e,if_pos e.symm]
  ·rw[if_neg e,if_neg (fun e2=>e e2.symm)],det_one,b_7]
theorem a_2 (n:Nat):AltM n (det (α:=α) n) where
 ext M N he:=det_ext he
 lin M i u v c hi:=by
  have e:∀w:Nat->α,det n (setr M i w)=det n (setc (fun i' j=>M j i') i w):=fun w=>by
   rw[<-e_i n (setr M i w)];congr 1
  rw[e,e,e];exact col_lin _ u v c hi
 alt M i hi he:=by
  rw[<-e_i n M];exact col_alt _ hi fun j hj=>he j hj
def mul (n:Nat)(A B:Mx α):Mx α:=fun i j=>sumN n fun k=>A i k*B k j
theorem g_y (n:Nat)(A B:Mx α):det n (mul n A B)=det n A*det n B:=by
 have h:AltM n fun A=>det n (mul n A B):=
  { ext:=fun M N he=>det_ext fun i j hi hj=>sum_ext fun k hk=>by rw[he i k hi hk]
    lin:=fun M i u v c hi=>by
     have e:∀w:Nat->α,mul n (setr M i w) B=setr (mul n M B) i fun j=>sumN n fun k=>w k*B k j:=fun w=>by
      funext i' j;unfold mul setr;split<;>rfl
     rw[e,e,e,<-(a_2 n).lin _ _ _ _ c hi];congr 2
     funext j
     rw[<-a_0,<-d_m];exact sum_ext fun k _=>by grind
    alt:=fun M i hi he=>(a_2 n).alt _ i hi fun j _=>sum_ext fun k hk=>by rw[he k hk] }
 rw[alt_det n _ h A];congr 1
 refine det_ext fun i j hi hj=>?_;unfold mul one;rw[a_4 hi fun k _ hk=>by rw[if_neg (fun e=>hk e.symm)];simp];simp
end RT
end
section
namespace RT
variable {α:Type}[CR α]
attribute [local simp] a_t b_m b_7 b_i b_e b_v b_5
def idx (i m a:Nat):Nat:=if a<m then a else if a=m then i else if a<=i then a - 1 else a
theorem AltM.move {n:Nat}{D:Mx α->α}(h:AltM n D)(M:Mx α){i:Nat}(hi:i<n):∀m,m<=i->D (fun a=>M (idx i 0 a))=sgn m*D (fun a=>M (idx i m a))
 |0,_=>by simp[sgn]
 |m+1,hm=>by
  rw[AltM.move h M hi m (by(first|omega|grind))];have e:=h.swap1 (fun a=>M (idx i m a)) (i:=m) (by(first|omega|grind));have e2:D (fun a=>M (idx i (m+1) a))=D (setr (setr (fun a=>M (idx i m a)) m (M (idx i m (m+1)))) (m+1) (M (idx i m m))):=h.ext _ _ fun a j ha hj=>by
   simp only[setr];by_cases h1:a=m+1
   ·subst h1;rw[if_pos rfl,show idx i (m+1) (m+1)=i by unfold idx;simp,show idx i m m=i by unfold idx;simp]
   ·rw[if_neg h1];by_cases h2:a=m
    ·subst h2;rw[if_pos rfl,show idx i (a+1) a=a by unfold idx;simp,show idx i a (a+1)=a by unfold idx;rw[if_neg (by(first|omega|grind)),if_neg (by(first|omega|grind)),if_pos hm];(first|omega|grind)]
    ·rw[if_neg h2,show idx i (m+1) a=idx i m a by unfold idx;repeat' split
                                                  all_goals first|rfl|(exfalso;(first|omega|grind))]
  rw[e2,e];simp only[sgn];grind
theorem i_u (i a:Nat):idx i i a=a:=by
 unfold idx;repeat' split
 all_goals (first|omega|grind)
theorem i_t (i a:Nat):idx i 0 (a+1)=skip i a:=by
 unfold idx skip;repeat' split
 all_goals (first|omega|grind)
def minor2 (M:Mx α)(i k:Nat):Mx α:=fun a b=>M (skip i a) (skip k b)
theorem i_w (n:Nat)(M:Mx α){i:Nat}(hi:i<n+1):det (n+1) M=sumN (n+1) fun k=>sgn (i+k)*M i k*det n (minor2 M i k):=by
 have e:=(a_2 (n+1)).move M hi i (Nat.le_refl _);have e1:det (n+1) (fun a=>M (idx i i a))=det (n+1) M:=det_ext fun a b _ _=>by rw[i_u]
 rw[e1]at e;have e2:det (n+1) M=sgn i*det (n+1) fun a=>M (idx i 0 a):=by rw[e,<-n_h,l_9,b_i]
 rw[e2,a_r,<-a_0];refine sum_ext fun k hk=>?_;have e3:minor (fun a=>M (idx i 0 a)) k=minor2 M i k:=by
  funext a b;show M (idx i 0 (a+1)) (skip k b)=M (skip i a) (skip k b);rw[i_t]
 rw[e3,i_b,show idx i 0 0=i by unfold idx;simp];grind
def cof (n:Nat)(M:Mx α)(i k:Nat):α:=sgn (i+k)*det n (minor2 M i k)
theorem d_3 (n:Nat)(M:Mx α){i:Nat}(hi:i<n+1):sumN (n+1) (fun k=>M i k*cof n M i k)=det (n+1) M:=by
 rw[i_w n M hi];exact sum_ext fun k _=>by unfold cof;grind
theorem e_z (n:Nat)(M:Mx α){i r:Nat}(hi:i<n+1)(hr:r<n+1)(hne:r≠i):sumN (n+1) (fun k=>M r k*cof n M i k)=0:=by
 have e:=d_3 n (setr M i (M r)) hi;rw[(a_2 (n+1)).same' _ hi hr (fun e=>hne e.symm) fun j _=>by unfold setr;rw[if_pos rfl,if_neg hne]]at e;rw[<-e];refine sum_ext fun k _=>?_;have e1:minor2 (setr M i (M r)) i k=minor2 M i k:=by
  funext a b;unfold minor2 setr;rw[if_neg (g_h i a)]
 unfold cof;rw[e1];unfold setr;rw[if_pos rfl]
theorem w_p (n:Nat)(M:Mx α)(i k:Nat):cof n (fun a b=>M b a) i k=cof n M k i:=by
 unfold cof;rw[Nat.add_comm i k,<-e_i n (minor2 M k i)];rfl
theorem l_l (n:Nat)(M:Mx α){j k:Nat}(hj:j<n+1)(hk:k<n+1):sumN (n+1) (fun a=>M a j*cof n M a k)=if j=k then det (n+1) M else 0:=by
 have e:sumN (n+1) (fun a=>M a j*cof n M a k)=sumN (n+1) fun a=>(fun a b=>M b a) j a*cof n (fun a b=>M b a) k a:=sum_ext fun a _=>by rw[w_p]
 rw[e];split
 ·rename_i e;subst e;exact(d_3 n (fun a b=>M b a) hj).trans (e_i _ _)
 ·rename_i h;exact e_z n (fun a b=>M b a) hk hj h
theorem d_l (k m:Nat)(f:Nat->α):sumN (k+m) f=sumN k f+sumN m fun l=>f (k+l):=by
 induction m with
 |zero=>simp[sumN]
 |succ m ih=>rw[<-Nat.add_assoc];simp only[sumN,ih];(first|omega|grind)
theorem a_1 (i:Nat):one i i=(1:α):=by unfold one;rw[if_pos rfl]
theorem b_x {i j:Nat}(h:i≠j):one i j=(0:α):=by unfold one;rw[if_neg h]
end RT
end
section
namespace RT
variable {α:Type}[CR α]
variable[Dom α]
attribute [local simp] a_t b_m b_7 b_i b_e b_v b_5
theorem e_0 (n:Nat)(f g:Nat->α):sumN n (fun k=>f k - g k)=sumN n f - sumN n g:=by
 induction n with
 |zero=>simp[sumN]
 |succ n ih=>simp only[sumN,ih];(first|omega|grind)
theorem d_2 (d:α):∀m:Nat,det m (fun a b=>d*one a b)=d^m
 |0=>by rw[j_h];simp[det]
 |m+1=>by
  rw[a_r,a_4 (i:=0) (by(first|omega|grind)) fun k hk hne=>by rw[b_x (fun e=>hne e.symm)];simp];rw[det_ext (N:=fun a b=>d*one a b) fun i j _ _=>by
   show d*one (i+1) (skip 0 j)=d*one i j
   rw[show skip 0 j=j+1 by unfold skip;simp];by_cases e:i=j
   ·subst e;rw[a_1,a_1]
   ·rw[b_x e,b_x (by(first|omega|grind))],d_2 d m,a_1]
  show 1*(d*1)*d^m=d^(m+1)
  rw[j_i];grind
theorem g_x (d:α)(M:Mx α)(n:Nat):det n (fun i j=>d*M i j)=d^n*det n M:=by
 rw[<-d_2,<-g_y];refine det_ext fun i j hi hj=>?_;unfold mul;rw[a_4 (i:=i) hi fun l hl hne=>by dsimp only;rw[b_x (fun e=>hne e.symm)];simp];dsimp only;rw[a_1,b_7]
theorem j_u {d:α}(h:d≠0):∀n:Nat,d^n≠0
 |0=>by rw[j_h];exact Dom.ne
 |n+1=>by rw[j_i];exact d_n (j_u h n) h
end RT
end
section
namespace RT
open DT (Inc sw sortP skip)
variable {α:Type}[CR α]
variable[Dom α]
attribute [local simp] a_t b_m b_7 b_i b_e b_v b_5
variable {R C:Nat}{M N H K:Mx α}{u v:Nat->α}
@[reducible] def rdvd {α:Type} [CR α]:Dvd α:=⟨dv⟩
attribute [local instance] rdvd
theorem o_4 (a:α):a∣a:=⟨1,by grind⟩
theorem g_k (a:α):a∣0:=⟨0,by grind⟩
theorem rzero_dvd {a:α}:0∣a↔a=0:=⟨fun⟨c,h⟩=>by grind,fun h=>⟨0,by grind⟩⟩
theorem n_i {a b c:α}(h:a∣b)(h2:b∣c):a∣c:=by
 obtain⟨x,hx⟩:=h;obtain⟨y,hy⟩:=h2;exact⟨x*y,by grind⟩
theorem r_o {a b c:α}(h:a∣b)(h2:a∣c):a∣b+c:=by
 obtain⟨x,hx⟩:=h;obtain⟨y,hy⟩:=h2;exact⟨x+y,by grind⟩
theorem i_i (a b:α):a∣b*a:=⟨b,by grind⟩
theorem r_n {a b:α}:a∣ -b↔a∣b:=⟨fun⟨c,h⟩=>⟨-c,by grind⟩,fun⟨c,h⟩=>⟨-c,by grind⟩⟩
theorem rone_ne_zero:(1:α)≠0:=Dom.ne
noncomputable def fst:Nat->(Nat->α)->Nat
 |0,_=>0
 |C+1,u=>open Classical in if fst C u<C then fst C u else if u C=0 then C+1 else C
theorem fst_le:∀(C:Nat) (u:Nat->α),fst C u<=C
 |0,_=>Nat.le_refl _
 |C+1,u=>by
  have:=fst_le C u;simp only[fst];repeat' split
  all_goals (first|omega|grind)
theorem fst_zero:∀ {C:Nat} {u:Nat->α} {j:Nat},j<fst C u->u j=0
 |0,_,_,h=>absurd h (Nat.not_lt_zero _)
 |C+1,u,j,h=>by
  have h1:=fst_le C u;simp only[fst]at h;split at h
  ·exact fst_zero h
  ·split at h
   ·by_cases e:j=C
    ·subst e;assumption
    ·exact fst_zero (C:=C) (by(first|omega|grind))
   ·exact fst_zero (C:=C) (by(first|omega|grind))
theorem fst_ne:∀ {C:Nat} {u:Nat->α},fst C u<C->u (fst C u)≠0
 |0,_,h=>absurd h (Nat.not_lt_zero _)
 |C+1,u,h=>by
  simp only[fst]at h ⊢;split
  ·rename_i h1;exact fst_ne h1
  ·rename_i h1;rw[if_neg h1]at h;split
   ·rename_i h2;rw[if_pos h2]at h;(first|omega|grind)
   ·assumption
theorem t_1 {C k:Nat}{u:Nat->α}(hk:k<C)(h0:∀j,j<k->u j=0)(h1:u k≠0):fst C u=k:=by
 rcases Nat.lt_trichotomy (fst C u) k with h|h|h
 ·exact absurd (h0 _ h) (fst_ne (by(first|omega|grind)))
 ·exact h
 ·exact absurd (fst_zero h) h1
theorem s_w {C:Nat}{u:Nat->α}(h:∀j,j<C->u j=0):fst C u=C:=by
 rcases Nat.lt_or_ge (fst C u) C with h1|h1
 ·exact absurd (h _ h1) (fst_ne h1)
 ·have:=fst_le C u;(first|omega|grind)
theorem d_v {C:Nat}{u:Nat->α}(h:¬fst C u<C){j:Nat}(hj:j<C):u j=0:=fst_zero (C:=C) (by have:=fst_le C u;(first|omega|grind))
def Lat (R C:Nat)(M:Mx α)(v:Nat->α):Prop:=∃x:Nat->α,∀j,j<C->v j=sumN R fun i=>x i*M i j
theorem Lat.row (R C:Nat)(M:Mx α){i:Nat}(hi:i<R):Lat R C M (M i):=
 ⟨fun a=>if a=i then 1 else 0,fun j _=>by
  rw[a_4 hi fun l _ hne=>by dsimp only;rw[if_neg hne];simp];dsimp only;rw[if_pos rfl,b_i]⟩
theorem Lat.zero (R C:Nat)(M:Mx α):Lat R C M fun _=>0:=⟨fun _=>0,fun j _=>(a_9 fun _ _=>by simp).symm⟩
theorem Lat.add (h:Lat R C M u)(h2:Lat R C M v):Lat R C M fun j=>u j+v j:=by
 obtain⟨x,hx⟩:=h;obtain⟨y,hy⟩:=h2;exact⟨fun i=>x i+y i,fun j hj=>by
  dsimp only;rw[hx j hj,hy j hj,<-d_m];exact sum_ext fun i _=>by grind⟩
theorem Lat.smul (h:Lat R C M u)(c:α):Lat R C M fun j=>c*u j:=by
 obtain⟨x,hx⟩:=h;exact⟨fun i=>c*x i,fun j hj=>by dsimp only;rw[hx j hj,<-a_0];exact sum_ext fun i _=>by grind⟩
theorem Lat.sub (h:Lat R C M u)(h2:Lat R C M v):Lat R C M fun j=>u j - v j:=by
 obtain⟨x,hx⟩:=h;obtain⟨y,hy⟩:=h2;exact⟨fun i=>x i - y i,fun j hj=>by
  dsimp only;rw[hx j hj,hy j hj,<-e_0];exact sum_ext fun i _=>by grind⟩
theorem Lat.ext (h:Lat R C M u)(e:∀j,j<C->v j=u j):Lat R C M v:=by
 obtain⟨x,hx⟩:=h;exact⟨x,fun j hj=>(e j hj).trans (hx j hj)⟩
theorem Lat.within {R S C:Nat}{M N:Mx α}(h:∀i,i<R->Lat S C N (M i)){v:Nat->α}(hv:Lat R C M v):Lat S C N v:=by
 obtain⟨x,hx⟩:=hv;suffices h2:∀n,n<=R->Lat S C N fun j=>sumN n fun i=>x i*M i j from(h2 R (Nat.le_refl _)).ext hx
 intro n;induction n with
 |zero=>intro _;exact Lat.zero S C N
 |succ n ih=>intro hn;exact(ih (by(first|omega|grind))).add ((h n (by(first|omega|grind))).smul (x n))
theorem unim {n:Nat}{U:Mx α}(h:det n U∣1):∃V:Mx α,(∀i j,i<n->j<n->mul n V U i j=one i j)/\∀i j,i<n->j<n->mul n U V i j=one i j:=by
 obtain⟨c,hc⟩:=h;cases n with
 |zero=>exact⟨one,fun i j h=>by omega,fun i j h=>by omega⟩
 |succ n=>
  refine⟨fun i j=>c*cof n U j i,fun i j hi hj=>?_,fun i j hi hj=>?_⟩
  ·unfold mul;rw[sum_ext (g:=fun k=>c*(U k j*cof n U k i)) fun k _=>by grind];rw[a_0,l_l n U hj hi];unfold one;by_cases e:i=j
   ·rw[if_pos e.symm,if_pos e,hc,c_l]
   ·rw[if_neg fun e2=>e e2.symm,if_neg e,a_t]
  ·unfold mul;rw[sum_ext (g:=fun k=>c*(U i k*cof n U j k)) fun k _=>by grind];rw[a_0];unfold one;by_cases e:i=j
   ·subst e;rw[d_3 n U hi,if_pos rfl,hc,c_l]
   ·rw[e_z n U hj hi e,if_neg e,a_t]
def Steps (R C:Nat)(M:Mx α):Prop:=∀i l,i<l->l<R->fst C (M l)<C->fst C (M i)<fst C (M l)
theorem s_m {P:Nat->Prop}{n:Nat}:(∃i,i<n/\P i)->∃i,i<n/\P i/\∀l,l<i->¬P l:=by
 induction n with
 |zero=>rintro⟨i,h,_⟩;(first|omega|grind)
 |succ n ih=>
  rintro⟨i,hi,hP⟩;by_cases h:∃i,i<n/\P i
  ·obtain⟨i,h1,h2⟩:=ih h;exact⟨i,by(first|omega|grind),h2⟩
  ·have e:i=n:=by
    rcases Nat.lt_or_ge i n with h1|h1
    ·exact absurd ⟨i,h1,hP⟩ h
    ·(first|omega|grind)
   exact⟨i,hi,hP,fun l hl hp=>h ⟨l,by(first|omega|grind),hp⟩⟩
theorem Steps.lead (h:Steps R C M){x v:Nat->α}(hv:∀j,j<C->v j=sumN R fun i=>x i*M i j)(hne:fst C v<C):
  ∃i,i<R/\fst C (M i)=fst C v/\x i≠0/\v (fst C v)=x i*M i (fst C v):=by
 have h1:∃i,i<R/\(fst C (M i)<C/\x i≠0):=by
  refine Classical.byContradiction fun hn=>?_;refine absurd ?_ (fst_ne hne);rw[hv _ hne];refine a_9 fun i hi=>?_;by_cases e:x i=0
  ·rw[e,b_m]
  ·rw[d_v (fun h2=>hn ⟨i,hi,h2,e⟩) hne,a_t]
 obtain⟨i,hi,⟨hC,hx⟩,hl⟩:=s_m h1;have h2:∀l,l<R->∀j,j<=fst C (M i)->(l<i\/i<l)->x l*M l j=0:=fun l hlR j hj hlt=>by
  rcases hlt with h3|h3
  ·by_cases e:x l=0
   ·rw[e,b_m]
   ·rw[d_v (fun h4=>hl l h3 ⟨h4,e⟩) (by(first|omega|grind)),a_t]
  ·by_cases h4:fst C (M l)<C
   ·rw[fst_zero (C:=C) (u:=M l) (by have:=h i l h3 hlR h4;(first|omega|grind)),a_t]
   ·rw[d_v h4 (by(first|omega|grind)),a_t]
 have h3:v (fst C (M i))=x i*M i (fst C (M i)):=by
  rw[hv _ hC,a_4 hi fun l hlR hne=>h2 l hlR _ (Nat.le_refl _) (by(first|omega|grind))]
 have h4:fst C v=fst C (M i):=t_1 hC (fun j hj=>by
  rw[hv j (by(first|omega|grind))];refine a_9 fun l hlR=>?_;by_cases e:l=i
  ·subst e;rw[fst_zero hj,a_t]
  ·exact h2 l hlR j (by(first|omega|grind)) (by(first|omega|grind))) (by rw[h3];exact d_n hx (fst_ne hC))
 exact⟨i,hi,h4.symm,hx,by rw[h4];exact h3⟩
theorem Steps.inj (h:Steps R C M){i l:Nat}(hi:i<R)(hl:l<R)(hC:fst C (M i)<C)(e:fst C (M i)=fst C (M l)):i=l:=by
 rcases Nat.lt_trichotomy i l with h1|h1|h1
 ·have:=h i l h1 hl (by(first|omega|grind));(first|omega|grind)
 ·exact h1
 ·have:=h l i h1 hi hC;(first|omega|grind)
theorem g_e (hH:Steps R C H)(hK:Steps R C K)(e:∀v,Lat R C K v->Lat R C H v){i:Nat}(hi:i<R)(hC:fst C (K i)<C):
  ∃m,m<R/\fst C (H m)=fst C (K i)/\∃c,K i (fst C (K i))=c*H m (fst C (K i)):=by
 obtain⟨x,hx⟩:=e _ (Lat.row R C K hi);obtain⟨m,h1,h2,h3,h4⟩:=hH.lead hx hC;exact⟨m,h1,h2,x m,h4⟩
theorem l_7 (hH:Steps R C H)(hK:Steps R C K)(e:∀v,Lat R C H v->Lat R C K v){i:Nat}(hi:i<R)(ih:∀l,l<i->fst C (H l)=fst C (K l)):fst C (K i)<=fst C (H i):=by
 by_cases hC:fst C (H i)<C
 ·obtain⟨m,h1,h2,_⟩:=g_e hK hH e hi hC;rcases Nat.lt_trichotomy m i with h3|h3|h3
  ·have:=ih m h3;have:=hH m i h3 hi hC;(first|omega|grind)
  ·subst h3;(first|omega|grind)
  ·have:=hK i m h3 h1 (by(first|omega|grind));(first|omega|grind)
 ·have:=fst_le C (K i);(first|omega|grind)
theorem n_b (hH:Steps R C H)(hK:Steps R C K)(e:∀v,Lat R C H v↔Lat R C K v):∀i,i<R->fst C (H i)=fst C (K i):=by
 intro i;induction i using Nat.strongRecOn with
 |_ i ih=>
  intro hi;have h1:=l_7 hH hK (fun v h=>(e v).1 h) hi fun l hl=>ih l hl (by(first|omega|grind));have h2:=l_7 hK hH (fun v h=>(e v).2 h) hi fun l hl=>(ih l hl (by(first|omega|grind))).symm
  (first|omega|grind)
structure Herm (nf:α->Prop) (rd:α->α->Prop) (R C:Nat) (M:Mx α):Prop where
 up:∀i,i+1<R->fst C (M (i+1))<C->fst C (M i)<fst C (M (i+1))
 pos:∀i,i<R->fst C (M i)<C->nf (M i (fst C (M i)))
 red:∀i,i<R->fst C (M i)<C->∀r,r<i->rd (M i (fst C (M i))) (M r (fst C (M i)))
theorem Herm.steps {nf:α->Prop}{rd:α->α->Prop}(h:Herm nf rd R C M):Steps R C M:=fun i l hil hl hC=>by
 induction l with
 |zero=>omega
 |succ l ih=>
  have h1:=h.up l hl hC;by_cases e:i=l
  ·subst e;exact h1
  ·exact Nat.lt_trans (ih (by omega) (by omega) (by omega)) h1
theorem p_s {nf:α->Prop}{rd:α->α->Prop}(hnf:∀a b,nf a->nf b->a∣b->b∣a->a=b)(hrd:∀b x y,nf b->rd b x->rd b y->b∣x - y->x=y)
  (hH:Herm nf rd R C H) (hK:Herm nf rd R C K) (e:∀v,Lat R C H v↔Lat R C K v):∀i j,i<R->j<C->H i j=K i j:=by
 have hp:=n_b hH.steps hK.steps e;have hval:∀i,i<R->fst C (H i)<C->H i (fst C (H i))=K i (fst C (H i)):=fun i hi hC=>by
  obtain⟨m,h1,h2,c,h3⟩:=g_e hK.steps hH.steps (fun v h=>(e v).1 h) hi hC;obtain⟨m',h1',h2',c',h3'⟩:=g_e hH.steps hK.steps (fun v h=>(e v).2 h) hi (by rw[<-hp i hi];exact hC);have e1:i=m:=hH.steps.inj hi h1 hC (by rw[hp m h1,h2]);have e2:i=m':=hH.steps.inj hi h1' hC (by rw[h2',hp i hi]);subst e1;subst e2;rw[<-hp i hi]at h3';have p1:=hH.pos i hi hC;have p2:=hK.pos i hi (by rw[<-hp i hi];exact hC);rw[<-hp i hi]at p2;exact hnf _ _ p1 p2 ⟨c',by rw[h3',c_l]⟩ ⟨c,by rw[h3,c_l]⟩
 intro i j hi hj;refine Classical.byContradiction fun hne=>?_;obtain⟨x,hx⟩:=(Lat.row R C H hi).sub ((e _).2 (Lat.row R C K hi));have hC:fst C (fun j=>H i j - K i j)<C:=by
  rcases Nat.lt_or_ge (fst C fun j=>H i j - K i j) C with h|h
  ·exact h
  ·have:=d_v (C:=C) (u:=fun j=>H i j - K i j) (by omega) hj;exact absurd (by grind) hne
 obtain⟨m,h1,h2,h3,h4⟩:=hH.steps.lead hx hC;have h5:=fst_ne hC;rw[<-h2]at h4 h5;have hCm:fst C (H m)<C:=by omega
 rcases Nat.lt_trichotomy m i with h6|h6|h6
 ·have z1:H i (fst C (H m))=0:=by
   by_cases h7:fst C (H i)<C
   ·exact fst_zero (C:=C) (hH.steps m i h6 hi h7)
   ·exact d_v h7 hCm
  have z2:K i (fst C (H m))=0:=by
   rw[hp m h1]at hCm ⊢;by_cases h7:fst C (K i)<C
   ·exact fst_zero (C:=C) (hK.steps m i h6 hi h7)
   ·exact d_v h7 hCm
  exact h5 (by rw[z1,z2];grind)
 ·subst h6;have:=hval m hi hCm;exact h5 (by rw[this];grind)
 ·have r1:=hH.red m h1 hCm i h6;have r2:=hK.red m h1 (by rw[<-hp m h1];exact hCm) i h6;rw[<-hp m h1,<-hval m h1 hCm]at r2
  have:=hrd _ _ _ (hH.pos m h1 hCm) r1 r2 ⟨x m,by rw[h4,c_l]⟩;exact h5 (by rw[this];grind)
theorem i_z {k n:Nat}{g:α}(M:Mx α)(h:∀f:Nat->Nat,Inc k n f->g∣det k fun i j=>M (f i) j):∀f:Nat->Nat,(∀i,i<k->f i<n)->g∣det k fun i j=>M (f i) j:=by
 refine sortP _ h (fun f i hi he=>?_) (fun f i hi hP=>?_)
 ·rw[(a_2 k).same' _ (i:=i) (k:=i+1) (by(first|omega|grind)) hi (by(first|omega|grind)) fun j _=>by rw[he]];exact g_k g
 ·have e:=(a_2 k).swap1 (fun a j=>M (f a) j) (i:=i) hi;have e2:det k (fun a j=>M (sw i f a) j)=det k (setr (setr (fun a j=>M (f a) j) i fun j=>M (f (i+1)) j) (i+1) fun j=>M (f i) j):=det_ext fun a j ha hj=>by
   unfold sw setr;by_cases h1:a=i+1
   ·subst h1;rw[if_neg (by(first|omega|grind)),if_pos rfl,if_pos rfl]
   ·by_cases h2:a=i
    ·subst h2;rw[if_pos rfl,if_neg h1,if_pos rfl]
    ·rw[if_neg h2,if_neg h1,if_neg h1,if_neg h2]
  rw[e2,e]at hP;exact(r_n).mp hP
theorem AltM.rowsum {n:Nat}{D:Mx α->α}(h:AltM n D)(A:Mx α){i:Nat}(hi:i<n)(x:Nat->α)(M:Mx α):∀m,D (setr A i fun j=>sumN m fun l=>x l*M l j)=sumN m fun l=>x l*D (setr A i (M l))
 |0=>h.zero A hi
 |m+1=>by
  simp only[sumN];rw[h.add A _ _ hi,AltM.rowsum h A hi x M m,h.smul A _ _ hi]
theorem k_2 {k:Nat}{g:α}(X M:Mx α)(h:∀f:Nat->Nat,(∀i,i<k->f i<R)->g∣det k fun i j=>M (f i) j):g∣det k (mul R X M):=by
 by_cases hR:R=0
 ·subst hR;cases k with
  |zero=>have:=h (fun _=>0) (fun i hi=>by(first|omega|grind));exact this
  |succ k=>
   have e:det (k+1) (mul 0 X M)=det (k+1) (setr (mul 0 X M) 0 fun _=>0):=det_ext fun i j _ _=>by unfold setr mul;split<;>rfl
   rw[e,(a_2 (k+1)).zero _ (by(first|omega|grind))];exact g_k g
 suffices h2:∀t,t<=k->∀f:Nat->Nat,(∀i,i<k->f i<R)->g∣det k fun i j=>if i<t then mul R X M i j else M (f i) j by
  have:=h2 k (Nat.le_refl _) (fun _=>0) fun _ _=>by(first|omega|grind)
  rwa [det_ext fun i j hi hj=>if_pos hi]at this
 intro t;induction t with
 |zero=>intro _ f hf;rw[det_ext fun i j hi hj=>if_neg (by(first|omega|grind))];exact h f hf
 |succ t ih=>
  intro ht f hf;have e:det k (fun i j=>if i<t+1 then mul R X M i j else M (f i) j)=det k (setr (fun i j=>if i<t then mul R X M i j else M (f i) j) t fun j=>sumN R fun l=>X t l*M l j):=det_ext fun i j hi hj=>by
   unfold setr;by_cases h1:i=t
   ·subst h1;rw[if_pos (by(first|omega|grind)),if_pos rfl];rfl
   ·rw[if_neg h1];dsimp only;by_cases h2:i<t
    ·rw[if_pos h2,if_pos (by(first|omega|grind))]
    ·rw[if_neg h2,if_neg (by(first|omega|grind))]
  rw[e,(a_2 k).rowsum _ (by(first|omega|grind))];have h3:∀n,n<=R->g∣sumN n fun l=>X t l*det k (setr (fun i j=>if i<t then mul R X M i j else M (f i) j) t (M l)):=by
   intro n;induction n with
   |zero=>intro _;exact g_k g
   |succ n ihn=>
    intro hn;refine r_o (ihn (by(first|omega|grind))) (n_i ?_ (i_i _ _));have h4:=ih (by(first|omega|grind)) (fun a=>if a=t then n else f a) fun i hi=>by
     split
     ·(first|omega|grind)
     ·exact hf i hi
    rw[det_ext (N:=fun i j=>if i<t then mul R X M i j else M (if i=t then n else f i) j) fun i j hi hj=>by
     unfold setr;by_cases h1:i=t
     ·subst h1;rw[if_pos rfl,if_neg (by(first|omega|grind)),if_pos rfl]
     ·rw[if_neg h1,if_neg h1]]
    exact h4
  exact h3 R (Nat.le_refl _)
def prodN:Nat->(Nat->α)->α
 |0,_=>1
 |n+1,f=>prodN n f*f n
theorem det_tri:∀(n:Nat) (M:Mx α),(∀i j,i<n->j<n->j<i->M i j=0)->det n M=prodN n fun i=>M i i:=by
 intro n;induction n with
 |zero=>intro M _;rfl
 |succ n ih=>
  intro M h0;rw[i_w n M (i:=n) (by(first|omega|grind)),a_4 (i:=n) (by(first|omega|grind)) fun k hk hne=>by rw[h0 n k (by(first|omega|grind)) hk (by(first|omega|grind))];simp];rw[show(sgn (n+n):α)=1 by rw[i_b,l_9],b_i,c_l];show _=prodN n (fun i=>M i i)*M n n
  congr 1
  rw[det_ext (N:=M) fun i j hi hj=>by unfold minor2 skip;rw[if_pos hi,if_pos hj]];exact ih M fun i j hi hj=>h0 i j (by(first|omega|grind)) (by(first|omega|grind))
theorem prod_ext {n:Nat}{f g:Nat->α}(h:∀k,k<n->f k=g k):prodN n f=prodN n g:=by
 induction n with
 |zero=>rfl
 |succ n ih=>simp only[prodN];rw[ih fun k hk=>h k (by(first|omega|grind)),h n (by(first|omega|grind))]
theorem v_o {n:Nat}{f:Nat->α}(h:∀k,k<n->f k≠0):prodN n f≠0:=by
 induction n with
 |zero=>exact rone_ne_zero
 |succ n ih=>exact d_n (ih fun k hk=>h k (by(first|omega|grind))) (h n (by(first|omega|grind)))
structure Smi (nf:α->Prop) (R C:Nat) (d:Nat->α) (M:Mx α):Prop where
 off:∀i j,i<R->j<C->i≠j->M i j=0
 on:∀i,i<R->i<C->M i i=d i
 norm:∀i,i<R->i<C->nf (d i)
 chain:∀i,i+1<R->i+1<C->d i∣d (i+1)
theorem Steps.minor_ne (h:Steps R C M){k:Nat}(hk:k<=R)(hC:∀i,i<k->fst C (M i)<C):det k (fun i j=>M i (fst C (M j)))≠0:=by
 rw[det_tri k _ fun i j hi hj hij=>fst_zero (C:=C) (h j i hij (by(first|omega|grind)) (hC i hi))];exact v_o fun i hi=>fst_ne (hC i hi)
theorem Steps.minor_zero (h:Steps R C M){r:Nat}{f:Nat->Nat}{k:Nat}(hr:r<k){cols:Nat->Nat}(hf:Inc k R f)(hc:∀i j,r<=i->i<R->j<k->M i (cols j)=0):det k (fun i j=>M (f i) (cols j))=0:=by
 have e:=(a_2 k).zero (fun i j=>M (f i) (cols j)) (i:=k - 1) (by(first|omega|grind));rw[<-e];refine det_ext fun i j hi hj=>?_;unfold setr;split
 ·rename_i h1;subst h1;exact hc _ j (by have:=hf.ge (k - 1) (by(first|omega|grind));(first|omega|grind)) (hf.lt _ (by(first|omega|grind))) hj
 ·rfl
end RT
end
end Go.Proofs.YtfhbdlegkdbmfaaGreat
