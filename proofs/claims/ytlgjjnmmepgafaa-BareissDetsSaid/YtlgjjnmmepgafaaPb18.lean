/- Pb18 -/
import Derived.KernelRfl
set_option linter.unusedVariables false
set_option linter.unusedSimpArgs false
set_option linter.unusedSectionVars false
set_option maxRecDepth 100000
set_option maxHeartbeats 8000000
namespace Go.Proofs.Ytlgjjnmmepgafaa
namespace DT
def sumN:Nat->(Nat->Int)->Int
 |0,_=>0
 |n+1,f=>sumN n f+f n
theorem a_i {n:Nat}{f g:Nat->Int}(h:∀k,k<n->f k=g k):sumN n f=sumN n g:=by
 induction n with
 |zero=>rfl
 |succ n ih=>simp only[sumN];rw[ih fun k hk=>h k (by omega),h n (by omega)]
theorem g_5 (n:Nat)(f g:Nat->Int):sumN n (fun k=>f k+g k)=sumN n f+sumN n g:=by
 induction n with
 |zero=>rfl
 |succ n ih=>simp only[sumN,ih];omega
theorem b_o (n:Nat)(c:Int)(f:Nat->Int):sumN n (fun k=>c*f k)=c*sumN n f:=by
 induction n with
 |zero=>simp[sumN]
 |succ n ih=>simp only[sumN,ih,Int.mul_add]
theorem sum_mul' (n:Nat)(c:Int)(f:Nat->Int):sumN n (fun k=>f k*c)=sumN n f*c:=by
 induction n with
 |zero=>simp[sumN]
 |succ n ih=>simp only[sumN,ih,Int.add_mul]
theorem b_u {n:Nat}{f:Nat->Int}(h:∀k,k<n->f k=0):sumN n f=0:=by
 induction n with
 |zero=>rfl
 |succ n ih=>simp only[sumN];rw[ih fun k hk=>h k (by omega),h n (by omega)];rfl
theorem b_e {n i:Nat}(hi:i<n){f:Nat->Int}(h:∀k,k<n->k≠i->f k=0):sumN n f=f i:=by
 induction n with
 |zero=>omega
 |succ n ih=>
  simp only[sumN];by_cases e:i=n
  ·subst e;rw[b_u fun k hk=>h k (by omega) (by omega)];omega
  ·rw[ih (by omega) fun k hk hne=>h k (by omega) hne,h n (by omega) (fun e2=>e e2.symm)];omega
theorem j_r {n i j:Nat}(hij:i<j)(hj:j<n){f:Nat->Int}(h:∀k,k<n->k≠i->k≠j->f k=0):sumN n f=f i+f j:=by
 induction n with
 |zero=>omega
 |succ n ih=>
  simp only[sumN];by_cases e:j=n
  ·subst e;rw[b_e hij fun k hk hne=>h k (by omega) hne (by omega)]
  ·rw[ih (by omega) fun k hk h1 h2=>h k (by omega) h1 h2,h n (by omega) (by omega) (fun e2=>e e2.symm)];omega
theorem d_3 (n m:Nat)(f:Nat->Nat->Int):sumN n (fun i=>sumN m fun j=>f i j)=sumN m fun j=>sumN n fun i=>f i j:=by
 induction n with
 |zero=>simp only[sumN];exact(b_u fun _ _=>rfl).symm
 |succ n ih=>simp only[sumN];rw[ih,<-g_5]
def sgn:Nat->Int
 |0=>1
 |k+1=>- sgn k
theorem q_5 (k:Nat):sgn k*sgn k=1:=by
 induction k with
 |zero=>rfl
 |succ k ih=>simp only[sgn];rw[Int.neg_mul_neg];exact ih
theorem o_g (a b:Nat):sgn (a+b)=sgn a*sgn b:=by
 induction b with
 |zero=>simp[sgn]
 |succ b ih=>rw[<-Nat.add_assoc];simp only[sgn,ih];rw[Int.mul_neg]
abbrev Mx:=Nat->Nat->Int
def skip (k j:Nat):Nat:=if j<k then j else j+1
def un (k j:Nat):Nat:=if j<k then j else j - 1
theorem o_d {k j n:Nat}(hj:j<n):skip k j<n+1:=by unfold skip;split<;>omega
theorem j_v (k j:Nat):skip k j≠k:=by unfold skip;split<;>omega
theorem g_7 {k j:Nat}(h:j≠k):skip k (un k j)=j:=by
 unfold skip un;by_cases h1:j<k
 ·rw[if_pos h1,if_pos h1]
 ·rw[if_neg h1,if_neg (by omega)];omega
theorem n_6 (k j:Nat):un k (skip k j)=j:=by
 unfold skip un;by_cases h1:j<k
 ·rw[if_pos h1,if_pos h1]
 ·rw[if_neg h1,if_neg (by omega)];omega
theorem n_7 {k j n:Nat}(h:j≠k)(hj:j<n+1)(hk:k<n+1):un k j<n:=by unfold un;split<;>omega
def minor (M:Mx)(k:Nat):Mx:=fun i j=>M (i+1) (skip k j)
def det:Nat->Mx->Int
 |0,_=>1
 |n+1,M=>sumN (n+1) fun k=>sgn k*M 0 k*det n (minor M k)
theorem a_w (n:Nat)(M:Mx):det (n+1) M=sumN (n+1) fun k=>sgn k*M 0 k*det n (minor M k):=rfl
theorem det_ext:∀ {n:Nat} {M N:Mx},(∀i j,i<n->j<n->M i j=N i j)->det n M=det n N
 |0,_,_,_=>rfl
 |n+1,M,N,h=>by
  rw[a_w,a_w];refine a_i fun k hk=>?_;rw[h 0 k (by omega) hk,det_ext (M:=minor M k) (N:=minor N k) fun i j hi hj=>h (i+1) (skip k j) (by omega) (o_d hj)]
def one:Mx:=fun i j=>if i=j then 1 else 0
theorem det_one:∀n,det n one=1
 |0=>rfl
 |n+1=>by
  rw[a_w,b_e (i:=0) (by omega) fun k _ hk=>by unfold one;rw[if_neg (fun e=>hk e.symm)];simp];rw[det_ext (N:=one) fun i j _ _=>by unfold minor one skip;simp,det_one n];rfl
def setc (M:Mx)(j:Nat)(u:Nat->Int):Mx:=fun i j'=>if j'=j then u i else M i j'
theorem b_s (M:Mx)(j:Nat)(u:Nat->Int):minor (setc M j u) j=minor M j:=by
 funext i c;unfold minor setc;rw[if_neg (j_v j c)]
theorem b_9 (M:Mx){j k:Nat}(u:Nat->Int)(h:j≠k):minor (setc M j u) k=setc (minor M k) (un k j) fun i=>u (i+1):=by
 funext i c
 unfold minor setc;by_cases e:c=un k j
 ·rw[if_pos (by rw[e,g_7 h]),if_pos e]
 ·rw[if_neg (fun e2=>e (by rw[<-e2,n_6])),if_neg e]
theorem col_lin:∀ {n:Nat} (M:Mx) {j:Nat} (u v:Nat->Int) (c:Int),j<n->det n (setc M j fun i=>u i+c*v i)=det n (setc M j u)+c*det n (setc M j v)
 |0,_,_,_,_,_,h=>by omega
 |n+1,M,j,u,v,c,h=>by
  rw[a_w,a_w,a_w,<-b_o,<-g_5];refine a_i fun k hk=>?_;by_cases e:k=j
  ·subst e;rw[b_s,b_s,b_s];simp only[setc,if_true];grind
  ·rw[b_9 M _ (fun e2=>e e2.symm),b_9 M _ (fun e2=>e e2.symm),b_9 M _ (fun e2=>e e2.symm),col_lin (minor M k) (fun i=>u (i+1)) (fun i=>v (i+1)) c (n_7 (fun e2=>e e2.symm) h hk)];simp only[setc,if_neg e];grind
theorem col_alt:∀ {n:Nat} (M:Mx) {j:Nat},j+1<n->(∀i,i<n->M i j=M i (j+1))->det n M=0
 |0,_,_,h,_=>by omega
 |n+1,M,j,h,he=>by
  rw[a_w,j_r (i:=j) (j:=j+1) (by omega) h fun k hk h1 h2=>?_]
  ·have e:det n (minor M j)=det n (minor M (j+1)):=det_ext fun i c hi hc=>by
    unfold minor;by_cases hcj:c=j
    ·subst hcj;rw[show skip c c=c+1 by unfold skip;simp,show skip (c+1) c=c by unfold skip;simp];exact(he (i+1) (by omega)).symm
    ·rw[show skip j c=skip (j+1) c by unfold skip;split<;>split<;>omega]
   rw[e,he 0 (by omega)];simp only[sgn];grind
  ·rw[col_alt (minor M k) (j:=un k j) (by unfold un;split<;>omega) (fun i hi=>?_)]
   ·simp
   ·unfold minor;rw[g_7 (fun e=>h1 e.symm),show skip k (un k j+1)=j+1 by unfold skip un;split<;>split<;>omega];exact he (i+1) (by omega)
def setr (M:Mx)(i:Nat)(u:Nat->Int):Mx:=fun i' j=>if i'=i then u j else M i' j
structure AltM (n:Nat) (D:Mx->Int):Prop where
 ext:∀M N:Mx,(∀i j,i<n->j<n->M i j=N i j)->D M=D N
 lin:∀(M:Mx) (i:Nat) (u v:Nat->Int) (c:Int),i<n->D (setr M i fun j=>u j+c*v j)=D (setr M i u)+c*D (setr M i v)
 alt:∀(M:Mx) (i:Nat),i+1<n->(∀j,j<n->M i j=M (i+1) j)->D M=0
section
variable {n:Nat}{D:Mx->Int}
theorem AltM.zero (h:AltM n D)(M:Mx){i:Nat}(hi:i<n):D (setr M i fun _=>0)=0:=by
 have:=h.lin M i (fun _=>0) (fun _=>0) (-1) hi;simp only[Int.mul_zero,Int.add_zero]at this;omega
theorem AltM.add (h:AltM n D)(M:Mx){i:Nat}(u v:Nat->Int)(hi:i<n):D (setr M i fun j=>u j+v j)=D (setr M i u)+D (setr M i v):=by
 have:=h.lin M i u v 1 hi;simpa only[Int.one_mul] using this
theorem AltM.smul (h:AltM n D)(M:Mx){i:Nat}(c:Int)(v:Nat->Int)(hi:i<n):D (setr M i fun j=>c*v j)=c*D (setr M i v):=by
 have:=h.lin M i (fun _=>0) v c hi;simpa only[Int.zero_add,h.zero M hi] using this
theorem b_z (M:Mx)(i:Nat):setr M i (M i)=M:=by
 funext i' j;unfold setr;split
 ·rename_i e;rw[e]
 ·rfl
theorem a_v (M:Mx){i k:Nat}(u v:Nat->Int)(h:i≠k):setr (setr M i u) k v=setr (setr M k v) i u:=by
 funext i' j;unfold setr
 by_cases e1:i'=k
 ·rw[if_pos e1,if_neg (fun e=>h (by omega)),if_pos e1]
 ·rw[if_neg e1];split<;>rfl
theorem AltM.swap1 (h:AltM n D)(M:Mx){i:Nat}(hi:i+1<n):D (setr (setr M i (M (i+1))) (i+1) (M i))= - D M:=by
 have key:∀u v:Nat->Int,D (setr (setr M i u) (i+1) v)+D (setr (setr M i v) (i+1) u)=0:=fun u v=>by
  have z:∀u:Nat->Int,D (setr (setr M i u) (i+1) u)=0:=fun u=>h.alt _ i hi fun j _=>by
   unfold setr;rw[if_neg (by omega),if_pos rfl,if_pos rfl]
  have e:=z fun j=>u j+v j;rw[h.add _ u v hi,a_v M _ u (by omega),a_v M _ v (by omega),h.add _ u v (by omega),h.add _ u v (by omega),a_v M _ _ (show i+1≠i by omega),a_v M _ _ (show i+1≠i by omega),a_v M _ _ (show i+1≠i by omega),a_v M _ _ (show i+1≠i by omega)]at e;have z1:=z u;have z2:=z v;omega
 have:=key (M (i+1)) (M i);rw[b_z M i,b_z]at this;omega
theorem AltM.same (h:AltM n D):∀(d:Nat) (M:Mx) (i:Nat),i+d+1<n->(∀j,j<n->M i j=M (i+d+1) j)->D M=0
 |0,M,i,hi,he=>h.alt M i hi he
 |d+1,M,i,hi,he=>by
  have e:=h.swap1 M (i:=i+d+1) (by omega);have z:=AltM.same h d (setr (setr M (i+d+1) (M (i+d+1+1))) (i+d+1+1) (M (i+d+1))) i (by omega) fun j hj=>by
   unfold setr;rw[if_neg (by omega),if_neg (by omega),if_neg (by omega),if_pos rfl];exact he j hj
  omega
theorem AltM.same' (h:AltM n D)(M:Mx){i k:Nat}(hi:i<n)(hk:k<n)(hne:i≠k)(he:∀j,j<n->M i j=M k j):D M=0:=by
 rcases Nat.lt_or_gt_of_ne hne with h1|h1
 ·exact h.same (k - i - 1) M i (by omega) fun j hj=>by rw[show i+(k - i - 1)+1=k by omega];exact he j hj
 ·exact h.same (i - k - 1) M k (by omega) fun j hj=>by rw[show k+(i - k - 1)+1=i by omega];exact(he j hj).symm
theorem AltM.addrow (h:AltM n D)(M:Mx){i k:Nat}(c:Int)(hi:i<n)(hk:k<n)(hne:i≠k):D (setr M i fun j=>M i j+c*M k j)=D M:=by
 rw[h.lin M i (M i) (M k) c hi,b_z,h.same' (setr M i (M k)) hi hk hne fun j _=>by unfold setr;rw[if_pos rfl,if_neg (fun e=>hne e.symm)]];simp
theorem AltM.swap (h:AltM n D)(M:Mx){i k:Nat}(hi:i<n)(hk:k<n)(hne:i≠k):D (setr (setr M i (M k)) k (M i))= - D M:=by
 have key:∀u v:Nat->Int,D (setr (setr M i u) k v)+D (setr (setr M i v) k u)=0:=fun u v=>by
  have z:∀u:Nat->Int,D (setr (setr M i u) k u)=0:=fun u=>h.same' _ hi hk hne fun j _=>by
   unfold setr;rw[if_neg hne,if_pos rfl,if_pos rfl]
  have e:=z fun j=>u j+v j;rw[h.add _ u v hk,a_v M _ u hne,a_v M _ v hne,h.add _ u v hi,h.add _ u v hi,a_v M _ _ (fun e=>hne e.symm),a_v M _ _ (fun e=>hne e.symm),a_v M _ _ (fun e=>hne e.symm),a_v M _ _ (fun e=>hne e.symm)]at e;have z1:=z u;have z2:=z v;omega
 have:=key (M k) (M i);rw[b_z M i,b_z]at this;omega
end
def e1 (k:Nat):Nat->Int:=fun j=>if j=k then 1 else 0
theorem AltM.row0 {n:Nat}{D:Mx->Int}(h:AltM (n+1) D)(A:Mx):D A=sumN (n+1) fun k=>A 0 k*D (setr A 0 (e1 k)):=by
 have key:∀m,D (setr A 0 fun j=>if j<m then A 0 j else 0)=sumN m fun k=>A 0 k*D (setr A 0 (e1 k)):=by
  intro m;induction m with
  |zero=>simp only[Nat.not_lt_zero,if_false,sumN];exact h.zero A (by omega)
  |succ m ih=>
   simp only[sumN];rw[<-ih,<-h.lin A 0 _ (e1 m) (A 0 m) (by omega)];congr 2
   funext j
   unfold e1;by_cases e:j=m
   ·subst e;simp
   ·rw[if_neg e,Int.mul_zero,Int.add_zero];by_cases e2:j<m
    ·rw[if_pos (by omega),if_pos e2]
    ·rw[if_neg (by omega),if_neg e2]
 rw[<-key (n+1)];exact h.ext _ _ fun i j hi hj=>by
  unfold setr;split
  ·rename_i e;rw[e];show A 0 j=if j<n+1 then A 0 j else 0;rw[if_pos hj]
  ·rfl
def ins (k:Nat)(N:Mx):Mx:=fun i j=>if i=0 then e1 k j else if j=k then 0 else N (i - 1) (un k j)
theorem p_k {n k:Nat}{D:Mx->Int}(h:AltM (n+1) D)(hk:k<n+1):AltM n fun N=>D (ins k N) where
 ext M N he:=h.ext _ _ fun i j hi hj=>by
  unfold ins;by_cases e0:i=0
  ·rw[if_pos e0,if_pos e0]
  ·rw[if_neg e0,if_neg e0];by_cases ej:j=k
   ·rw[if_pos ej,if_pos ej]
   ·rw[if_neg ej,if_neg ej];exact he _ _ (by omega) (n_7 ej hj hk)
 lin M i u v c hi:=by
  have e:∀w:Nat->Int,ins k (setr M i w)=setr (ins k M) (i+1) fun j=>if j=k then 0 else w (un k j):=fun w=>by
   funext i' j
   simp only[ins,setr];by_cases e0:i'=0
   ·rw[if_pos e0,if_neg (by omega),if_pos e0]
   ·rw[if_neg e0];by_cases e3:i'=i+1
    ·rw[if_pos e3];by_cases ej:j=k
     ·rw[if_pos ej,if_pos ej]
     ·rw[if_neg ej,if_neg ej,if_pos (by omega)]
    ·rw[if_neg e3,if_neg e0];by_cases ej:j=k
     ·rw[if_pos ej,if_pos ej]
     ·rw[if_neg ej,if_neg ej,if_neg (by omega)]
  rw[e,e,e,<-h.lin _ _ _ _ c (by omega)];congr 2
  funext j
  by_cases ej:j=k
  ·simp[ej]
  ·simp[ej]
 alt M i hi he:=h.alt _ (i+1) (by omega) fun j hj=>by
  unfold ins;rw[if_neg (show ¬i+1=0 by omega),if_neg (show ¬i+1+1=0 by omega)];by_cases ej:j=k
  ·rw[if_pos ej,if_pos ej]
  ·rw[if_neg ej,if_neg ej,show i+1 - 1=i by omega,show i+1+1 - 1=i+1 by omega];exact he _ (n_7 ej hj hk)
theorem AltM.clear {n k:Nat}{D:Mx->Int}(h:AltM (n+1) D)(hk:k<n+1)(A:Mx):D (setr A 0 (e1 k))=D (ins k (minor A k)):=by
 have key:∀m,m<=n->D (setr A 0 (e1 k))=D (fun i j=>if i=0 then e1 k j else if i<=m/\j=k then 0 else A i j):=by
  intro m;induction m with
  |zero=>
   intro _;refine h.ext _ _ fun i j hi hj=>?_;unfold setr;by_cases e0:i=0
   ·rw[if_pos e0,if_pos e0]
   ·rw[if_neg e0,if_neg e0,if_neg (fun e=>e0 (by omega))]
  |succ m ih=>
   intro hm;rw[ih (by omega)];have e:=h.addrow (fun i j=>if i=0 then e1 k j else if i<=m/\j=k then 0 else A i j) (i:=m+1) (k:=0) (- A (m+1) k) (by omega) (by omega) (by omega);rw[<-e];refine h.ext _ _ fun i j hi hj=>?_;unfold setr;by_cases e0:i=m+1
   ·subst e0;simp only[if_true,if_neg (show ¬m+1=0 by omega),if_neg (show ¬(m+1<=m/\j=k) by omega)];unfold e1;by_cases ej:j=k
    ·subst ej;simp;omega
    ·simp[ej]
   ·simp only[if_neg e0];by_cases e2:i=0
    ·simp[e2]
    ·simp only[if_neg e2];by_cases e3:i<=m/\j=k
     ·rw[if_pos e3,if_pos ⟨by omega,e3.2⟩]
     ·rw[if_neg e3,if_neg (by omega)]
 rw[key n (Nat.le_refl _)];refine h.ext _ _ fun i j hi hj=>?_;unfold ins minor;by_cases e0:i=0
 ·rw[if_pos e0,if_pos e0]
 ·rw[if_neg e0,if_neg e0];by_cases ej:j=k
  ·rw[if_pos ⟨by omega,ej⟩,if_pos ej]
  ·rw[if_neg (fun e=>ej e.2),if_neg ej,g_7 ej,show i - 1+1=i by omega]
def perm (k m:Nat):Mx:=fun i=>e1 (if i<m then i else if i=m then k else if i<=k then i - 1 else i)
theorem AltM.perm1 {n k:Nat}{D:Mx->Int}(h:AltM (n+1) D)(hk:k<n+1):∀m,m<=k->D (ins k one)=sgn m*D (perm k m)
 |0,_=>by
  simp only[sgn,Int.one_mul];refine h.ext _ _ fun i j hi hj=>?_;unfold ins perm one e1 un;repeat' split
  all_goals first|rfl|(exfalso;omega)
 |m+1,hm=>by
  rw[AltM.perm1 h hk m (by omega)];have e:=h.swap1 (perm k m) (i:=m) (by omega);have e2:D (perm k (m+1))=D (setr (setr (perm k m) m (perm k m (m+1))) (m+1) (perm k m m)):=h.ext _ _ fun i j hi hj=>by
   unfold setr perm;by_cases h1:i=m+1
   ·subst h1;simp
   ·by_cases h2:i=m
    ·subst h2;simp only[if_neg (show ¬i=i+1 by omega),if_true,if_pos (show i<i+1 by omega),if_neg (show ¬i+1<i by omega),if_neg (show ¬i+1=i by omega),if_pos hm,Nat.add_sub_cancel]
    ·simp only[if_neg h1,if_neg h2];by_cases h3:i<m
     ·rw[if_pos h3,if_pos (by omega)]
     ·rw[if_neg h3,if_neg (by omega)]
  rw[e2,e];simp only[sgn];grind
theorem AltM.perm {n k:Nat}{D:Mx->Int}(h:AltM (n+1) D)(hk:k<n+1):D (ins k one)=sgn k*D one:=by
 rw[h.perm1 hk k (Nat.le_refl _)];congr 1
 refine h.ext _ _ fun i j hi hj=>?_;unfold DT.perm one e1;repeat' split
 all_goals first|rfl|(exfalso;omega)
theorem alt_det:∀(n:Nat) (D:Mx->Int),AltM n D->∀A,D A=det n A*D one
 |0,D,h,A=>by rw[h.ext A one fun i j hi=>by omega];simp[det]
 |n+1,D,h,A=>by
  rw[h.row0 A,a_w,<-sum_mul'];refine a_i fun k hk=>?_;rw[h.clear hk A,alt_det n _ (p_k h hk) (minor A k),h.perm hk];grind
theorem det_T (n:Nat)(M:Mx):det n (fun i j=>M j i)=det n M:=by
 have h:AltM n fun M=>det n fun i j=>M j i:=
  { ext:=fun M N he=>det_ext fun i j hi hj=>he j i hj hi
    lin:=fun M i u v c hi=>by
     have e:∀w:Nat->Int,(fun i' j=>setr M i w j i')=setc (fun i' j=>M j i') i w:=fun w=>by
      funext i' j;unfold setr setc;rfl
     rw[e,e,e];exact col_lin _ u v c hi
    alt:=fun M i hi he=>col_alt _ hi fun j hj=>he j hj }
 have:=alt_det n _ h M;rw[this,det_ext (M:=fun i j=>one j i) (N:=one) fun i j _ _=>by
  unfold one;by_cases e:j=i
  ·rw[if_pos e,if_pos e.symm]
  ·rw[if_neg e,if_neg (fun e2=>e e2.symm)],det_one,Int.mul_one]
theorem a_p (n:Nat):AltM n (det n) where
 ext M N he:=det_ext he
 lin M i u v c hi:=by
  have e:∀w:Nat->Int,det n (setr M i w)=det n (setc (fun i' j=>M j i') i w):=fun w=>by
   rw[<-det_T n (setr M i w)];congr 1
  rw[e,e,e];exact col_lin _ u v c hi
 alt M i hi he:=by
  rw[<-det_T n M];exact col_alt _ hi fun j hj=>he j hj
def mul (n:Nat)(A B:Mx):Mx:=fun i j=>sumN n fun k=>A i k*B k j
theorem det_mul (n:Nat)(A B:Mx):det n (mul n A B)=det n A*det n B:=by
 have h:AltM n fun A=>det n (mul n A B):=
  { ext:=fun M N he=>det_ext fun i j hi hj=>a_i fun k hk=>by rw[he i k hi hk]
    lin:=fun M i u v c hi=>by
     have e:∀w:Nat->Int,mul n (setr M i w) B=setr (mul n M B) i fun j=>sumN n fun k=>w k*B k j:=fun w=>by
      funext i' j;unfold mul setr;split<;>rfl
     rw[e,e,e,<-(a_p n).lin _ _ _ _ c hi];congr 2
     funext j
     rw[<-b_o,<-g_5];exact a_i fun k _=>by grind
    alt:=fun M i hi he=>(a_p n).alt _ i hi fun j _=>a_i fun k hk=>by rw[he k hk] }
 rw[alt_det n _ h A];congr 1
 refine det_ext fun i j hi hj=>?_;unfold mul one;rw[b_e hi fun k _ hk=>by rw[if_neg (fun e=>hk e.symm)];simp];simp
end DT
end Go.Proofs.Ytlgjjnmmepgafaa
