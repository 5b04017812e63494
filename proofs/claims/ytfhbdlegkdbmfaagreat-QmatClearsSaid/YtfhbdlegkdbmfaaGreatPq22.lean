/- Pq22 -/
import Derived.KernelRfl
set_option linter.unusedVariables false
set_option linter.unusedSimpArgs false
set_option linter.unusedSectionVars false
set_option maxRecDepth 100000
set_option maxHeartbeats 8000000
namespace Go.Proofs.YtfhbdlegkdbmfaaGreat
section
namespace DT
def sumN:Nat->(Nat->Int)->Int
 |0,_=>0
 |n+1,f=>sumN n f+f n
theorem sum_ext {n:Nat}{f g:Nat->Int}(h:∀k,k<n->f k=g k):sumN n f=sumN n g:=by
 induction n with
 |zero=>rfl
 |succ n ih=>simp only[sumN];rw[ih fun k hk=>h k (by omega),h n (by omega)]
theorem d_m (n:Nat)(f g:Nat->Int):sumN n (fun k=>f k+g k)=sumN n f+sumN n g:=by
 induction n with
 |zero=>rfl
 |succ n ih=>simp only[sumN,ih];omega
theorem a_0 (n:Nat)(c:Int)(f:Nat->Int):sumN n (fun k=>c*f k)=c*sumN n f:=by
 induction n with
 |zero=>simp[sumN]
 |succ n ih=>simp only[sumN,ih,Int.mul_add]
theorem sum_mul' (n:Nat)(c:Int)(f:Nat->Int):sumN n (fun k=>f k*c)=sumN n f*c:=by
 induction n with
 |zero=>simp[sumN]
 |succ n ih=>simp only[sumN,ih,Int.add_mul]
theorem a_9 {n:Nat}{f:Nat->Int}(h:∀k,k<n->f k=0):sumN n f=0:=by
 induction n with
 |zero=>rfl
 |succ n ih=>simp only[sumN];rw[ih fun k hk=>h k (by omega),h n (by omega)];rfl
theorem a_4 {n i:Nat}(hi:i<n){f:Nat->Int}(h:∀k,k<n->k≠i->f k=0):sumN n f=f i:=by
 induction n with
 |zero=>omega
 |succ n ih=>
  simp only[sumN];by_cases e:i=n
  ·subst e;rw[a_9 fun k hk=>h k (by omega) (by omega)];omega
  ·rw[ih (by omega) fun k hk hne=>h k (by omega) hne,h n (by omega) (fun e2=>e e2.symm)];omega
theorem h_6 {n i j:Nat}(hij:i<j)(hj:j<n){f:Nat->Int}(h:∀k,k<n->k≠i->k≠j->f k=0):sumN n f=f i+f j:=by
 induction n with
 |zero=>omega
 |succ n ih=>
  simp only[sumN];by_cases e:j=n
  ·subst e;rw[a_4 hij fun k hk hne=>h k (by omega) hne (by omega)]
  ·rw[ih (by omega) fun k hk h1 h2=>h k (by omega) h1 h2,h n (by omega) (by omega) (fun e2=>e e2.symm)];omega
theorem e_n (n m:Nat)(f:Nat->Nat->Int):sumN n (fun i=>sumN m fun j=>f i j)=sumN m fun j=>sumN n fun i=>f i j:=by
 induction n with
 |zero=>simp only[sumN];exact(a_9 fun _ _=>rfl).symm
 |succ n ih=>simp only[sumN];rw[ih,<-d_m]
def sgn:Nat->Int
 |0=>1
 |k+1=>- sgn k
theorem l_9 (k:Nat):sgn k*sgn k=1:=by
 induction k with
 |zero=>rfl
 |succ k ih=>simp only[sgn];rw[Int.neg_mul_neg];exact ih
theorem i_b (a b:Nat):sgn (a+b)=sgn a*sgn b:=by
 induction b with
 |zero=>simp[sgn]
 |succ b ih=>rw[<-Nat.add_assoc];simp only[sgn,ih];rw[Int.mul_neg]
abbrev Mx:=Nat->Nat->Int
def skip (k j:Nat):Nat:=if j<k then j else j+1
def un (k j:Nat):Nat:=if j<k then j else j - 1
theorem k_p {k j n:Nat}(hj:j<n):skip k j<n+1:=by unfold skip;split<;>omega
theorem g_h (k j:Nat):skip k j≠k:=by unfold skip;split<;>omega
theorem d_9 {k j:Nat}(h:j≠k):skip k (un k j)=j:=by
 unfold skip un;by_cases h1:j<k
 ·rw[if_pos h1,if_pos h1]
 ·rw[if_neg h1,if_neg (by omega)];omega
theorem k_j (k j:Nat):un k (skip k j)=j:=by
 unfold skip un;by_cases h1:j<k
 ·rw[if_pos h1,if_pos h1]
 ·rw[if_neg h1,if_neg (by omega)];omega
theorem k_k {k j n:Nat}(h:j≠k)(hj:j<n+1)(hk:k<n+1):un k j<n:=by unfold un;split<;>omega
def minor (M:Mx)(k:Nat):Mx:=fun i j=>M (i+1) (skip k j)
def det:Nat->Mx->Int
 |0,_=>1
 |n+1,M=>sumN (n+1) fun k=>sgn k*M 0 k*det n (minor M k)
theorem a_r (n:Nat)(M:Mx):det (n+1) M=sumN (n+1) fun k=>sgn k*M 0 k*det n (minor M k):=rfl
theorem det_ext:∀ {n:Nat} {M N:Mx},(∀i j,i<n->j<n->M i j=N i j)->det n M=det n N
 |0,_,_,_=>rfl
 |n+1,M,N,h=>by
  rw[a_r,a_r];refine sum_ext fun k hk=>?_;rw[h 0 k (by omega) hk,det_ext (M:=minor M k) (N:=minor N k) fun i j hi hj=>h (i+1) (skip k j) (by omega) (k_p hj)]
def one:Mx:=fun i j=>if i=j then 1 else 0
theorem det_one:∀n,det n one=1
 |0=>rfl
 |n+1=>by
  rw[a_r,a_4 (i:=0) (by omega) fun k _ hk=>by unfold one;rw[if_neg (fun e=>hk e.symm)];simp];rw[det_ext (N:=one) fun i j _ _=>by unfold minor one skip;simp,det_one n];rfl
def setc (M:Mx)(j:Nat)(u:Nat->Int):Mx:=fun i j'=>if j'=j then u i else M i j'
theorem a_7 (M:Mx)(j:Nat)(u:Nat->Int):minor (setc M j u) j=minor M j:=by
 funext i c;unfold minor setc;rw[if_neg (g_h j c)]
theorem b_k (M:Mx){j k:Nat}(u:Nat->Int)(h:j≠k):minor (setc M j u) k=setc (minor M k) (un k j) fun i=>u (i+1):=by
 funext i c
 unfold minor setc;by_cases e:c=un k j
 ·rw[if_pos (by rw[e,d_9 h]),if_pos e]
 ·rw[if_neg (fun e2=>e (by rw[<-e2,k_j])),if_neg e]
theorem col_lin:∀ {n:Nat} (M:Mx) {j:Nat} (u v:Nat->Int) (c:Int),j<n->det n (setc M j fun i=>u i+c*v i)=det n (setc M j u)+c*det n (setc M j v)
 |0,_,_,_,_,_,h=>by omega
 |n+1,M,j,u,v,c,h=>by
  rw[a_r,a_r,a_r,<-a_0,<-d_m];refine sum_ext fun k hk=>?_;by_cases e:k=j
  ·subst e;rw[a_7,a_7,a_7];simp only[setc,if_true];grind
  ·rw[b_k M _ (fun e2=>e e2.symm),b_k M _ (fun e2=>e e2.symm),b_k M _ (fun e2=>e e2.symm),col_lin (minor M k) (fun i=>u (i+1)) (fun i=>v (i+1)) c (k_k (fun e2=>e e2.symm) h hk)];simp only[setc,if_neg e];grind
theorem col_alt:∀ {n:Nat} (M:Mx) {j:Nat},j+1<n->(∀i,i<n->M i j=M i (j+1))->det n M=0
 |0,_,_,h,_=>by omega
 |n+1,M,j,h,he=>by
  rw[a_r,h_6 (i:=j) (j:=j+1) (by omega) h fun k hk h1 h2=>?_]
  ·have e:det n (minor M j)=det n (minor M (j+1)):=det_ext fun i c hi hc=>by
    unfold minor;by_cases hcj:c=j
    ·subst hcj;rw[show skip c c=c+1 by unfold skip;simp,show skip (c+1) c=c by unfold skip;simp];exact(he (i+1) (by omega)).symm
    ·rw[show skip j c=skip (j+1) c by unfold skip;split<;>split<;>omega]
   rw[e,he 0 (by omega)];simp only[sgn];grind
  ·rw[col_alt (minor M k) (j:=un k j) (by unfold un;split<;>omega) (fun i hi=>?_)]
   ·simp
   ·unfold minor;rw[d_9 (fun e=>h1 e.symm),show skip k (un k j+1)=j+1 by unfold skip un;split<;>split<;>omega];exact he (i+1) (by omega)
def setr (M:Mx)(i:Nat)(u:Nat->Int):Mx:=fun i' j=>if i'=i then u j else M i' j
structure AltM (n:Nat) (D:Mx->Int):Prop where
 ext:∀M N:Mx,(∀i j,i<n->j<n->M i j=N i j)->D M=D N
 lin:∀(M:Mx) (i:Nat) (u v:Nat->Int) (c:Int),i<n->D (setr M i fun j=>u j+c*v j)=D (setr M i u)+c*D (setr M i v)
 alt:∀(M:Mx) (i:Nat),i+1<n->(∀j,j<n->M i j=M (i+1) j)->D M=0
section
variable {n:Nat}{D:Mx->Int}
theorem AltM.zero (h:AltM n D)(M:Mx){i:Nat}(hi:i<n):D (setr M i fun _=>0)=0:=by
 have:=h.lin M i (fun _=>0) (fun _=>0) (-1) hi;simp only[Int.mul_zero,Int.add_zero]at this;omega
theorem AltM.add (h:AltM n D)(M:Mx){i:Nat}(u v:Nat->Int)(hi:i<n):D (setr M i fun j=>u j+v j)=D (setr M i u)+D (setr M i v):=by
 have:=h.lin M i u v 1 hi;simpa only[Int.one_mul] using this
theorem AltM.smul (h:AltM n D)(M:Mx){i:Nat}(c:Int)(v:Nat->Int)(hi:i<n):D (setr M i fun j=>c*v j)=c*D (setr M i v):=by
 have:=h.lin M i (fun _=>0) v c hi;simpa only[Int.zero_add,h.zero M hi] using this
theorem c_b (M:Mx)(i:Nat):setr M i (M i)=M:=by
 funext i' j;unfold setr;split
 ·rename_i e;rw[e]
 ·rfl
theorem a_s (M:Mx){i k:Nat}(u v:Nat->Int)(h:i≠k):setr (setr M i u) k v=setr (setr M k v) i u:=by
 funext i' j;unfold setr
 by_cases e1:i'=k
 ·rw[if_pos e1,if_neg (fun e=>h (by omega)),if_pos e1]
 ·rw[if_neg e1];split<;>rfl
theorem AltM.swap1 (h:AltM n D)(M:Mx){i:Nat}(hi:i+1<n):D (setr (setr M i (M (i+1))) (i+1) (M i))= - D M:=by
 have key:∀u v:Nat->Int,D (setr (setr M i u) (i+1) v)+D (setr (setr M i v) (i+1) u)=0:=fun u v=>by
  have z:∀u:Nat->Int,D (setr (setr M i u) (i+1) u)=0:=fun u=>h.alt _ i hi fun j _=>by
   unfold setr;rw[if_neg (by omega),if_pos rfl,if_pos rfl]
  have e:=z fun j=>u j+v j;rw[h.add _ u v hi,a_s M _ u (by omega),a_s M _ v (by omega),h.add _ u v (by omega),h.add _ u v (by omega),a_s M _ _ (show i+1≠i by omega),a_s M _ _ (show i+1≠i by omega),a_s M _ _ (show i+1≠i by omega),a_s M _ _ (show i+1≠i by omega)]at e;have z1:=z u;have z2:=z v;omega
 have:=key (M (i+1)) (M i);rw[c_b M i,c_b]at this;omega
theorem AltM.same (h:AltM n D):∀(d:Nat) (M:Mx) (i:Nat),i+d+1<n->(∀j,j<n->M i j=M (i+d+1) j)->D M=0
 |0,M,i,hi,he=>h.alt M i hi he
 |d+1,M,i,hi,he=>by
  have e:=h.swap1 M (i:=i+d+1) (by omega);have z:=AltM.same h d (setr (setr M (i+d+1) (M (i+d+1+1))) (i+d+1+1) (M (i+d+1))) i (by omega) fun j hj=>by
   unfold setr;rw[if_neg (by omega),if_neg (by omega),if_neg (by omega),if_pos rfl];exact he j hj
  omega
theorem AltM.same' (h:AltM n D)(M:Mx){i k:Nat}(hi:i<n)(hk:k<n)(hne:i≠k)(he:∀j,j<n->M i j=M k j):D M=0:=by
 rcases Nat.lt_or_gt_of_ne hne with h1|h1
 ·exact h.same (k - i - 1) M i (by omega) fun j hj=>by rw[show i+(k - i - 1)+1=k by omega];exact he j hj
 ·exact h.same (i - k - 1) M k (by omega) fun j hj=>by rw[show k+(i - k - 1)+1=i by omega];exact(he j hj).symm
theorem AltM.addrow (h:AltM n D)(M:Mx){i k:Nat}(c:Int)(hi:i<n)(hk:k<n)(hne:i≠k):D (setr M i fun j=>M i j+c*M k j)=D M:=by
 rw[h.lin M i (M i) (M k) c hi,c_b,h.same' (setr M i (M k)) hi hk hne fun j _=>by unfold setr;rw[if_pos rfl,if_neg (fun e=>hne e.symm)]];simp
theorem AltM.swap (h:AltM n D)(M:Mx){i k:Nat}(hi:i<n)(hk:k<n)(hne:i≠k):D (setr (setr M i (M k)) k (M i))= - D M:=by
 have key:∀u v:Nat->Int,D (setr (setr M i u) k v)+D (setr (setr M i v) k u)=0:=fun u v=>by
  have z:∀u:Nat->Int,D (setr (setr M i u) k u)=0:=fun u=>h.same' _ hi hk hne fun j _=>by
   unfold setr;rw[if_neg hne,if_pos rfl,if_pos rfl]
  have e:=z fun j=>u j+v j;rw[h.add _ u v hk,a_s M _ u hne,a_s M _ v hne,h.add _ u v hi,h.add _ u v hi,a_s M _ _ (fun e=>hne e.symm),a_s M _ _ (fun e=>hne e.symm),a_s M _ _ (fun e=>hne e.symm),a_s M _ _ (fun e=>hne e.symm)]at e;have z1:=z u;have z2:=z v;omega
 have:=key (M k) (M i);rw[c_b M i,c_b]at this;omega
end
def e1 (k:Nat):Nat->Int:=fun j=>if j=k then 1 else 0
theorem AltM.row0 {n:Nat}{D:Mx->Int}(h:AltM (n+1) D)(A:Mx):D A=sumN (n+1) fun k=>A 0 k*D (setr A 0 (e1 k)):=by
 have key:∀m,D (setr A 0 fun j=>if j<m then A 0 j else 0)=sumN m fun k=>A 0 k*D (setr A 0 (e1 k)):=by
  intro m;induction m with
  |zero=>simp only[Nat.not_lt_zero,if_false,sumN];exact h.zero A (by omega)
  |succ m ih=>
   simp only[sumN];rw[<-ih,<-h.lin A 0 _ (e1 m) (A 0 m) (by omega)];congr 2
   funext j
   unfold e1;by_cases e:j=m
   ·subst e;simp
   ·rw[if_neg e,Int.mul_zero,Int.add_zero];by_cases e2:j<m
    ·rw[if_pos (by omega),if_pos e2]
    ·rw[if_neg (by omega),if_neg e2]
 rw[<-key (n+1)];exact h.ext _ _ fun i j hi hj=>by
  unfold setr;split
  ·rename_i e;rw[e];show A 0 j=if j<n+1 then A 0 j else 0;rw[if_pos hj]
  ·rfl
def ins (k:Nat)(N:Mx):Mx:=fun i j=>if i=0 then e1 k j else if j=k then 0 else N (i - 1) (un k j)
theorem l_b {n k:Nat}{D:Mx->Int}(h:AltM (n+1) D)(hk:k<n+1):AltM n fun N=>D (ins k N) where
 ext M N he:=h.ext _ _ fun i j hi hj=>by
  unfold ins;by_cases e0:i=0
  ·rw[if_pos e0,if_pos e0]
  ·rw[if_neg e0,if_neg e0];by_cases ej:j=k
   ·rw[if_pos ej,if_pos ej]
   ·rw[if_neg ej,if_neg ej];exact he _ _ (by omega) (k_k ej hj hk)
 lin M i u v c hi:=by
  have e:∀w:Nat->Int,ins k (setr M i w)=setr (ins k M) (i+1) fun j=>if j=k then 0 else w (un k j):=fun w=>by
   funext i' j
   simp only[ins,setr];by_cases e0:i'=0
   ·rw[if_pos e0,if_neg (by omega),if_pos e0]
   ·rw[if_neg e0];by_cases e3:i'=i+1
    ·rw[if_pos e3];by_cases ej:j=k
     ·rw[if_pos ej,if_pos ej]
     ·rw[if_neg ej,if_neg ej,if_pos (by omega)]
    ·rw[if_neg e3,if_neg e0];by_cases ej:j=k
     ·rw[if_pos ej,if_pos ej]
     ·rw[if_neg ej,if_neg ej,if_neg (by omega)]
  rw[e,e,e,<-h.lin _ _ _ _ c (by omega)];congr 2
  funext j
  by_cases ej:j=k
  ·simp[ej]
  ·simp[ej]
 alt M i hi he:=h.alt _ (i+1) (by omega) fun j hj=>by
  unfold ins;rw[if_neg (show ¬i+1=0 by omega),if_neg (show ¬i+1+1=0 by omega)];by_cases ej:j=k
  ·rw[if_pos ej,if_pos ej]
  ·rw[if_neg ej,if_neg ej,show i+1 - 1=i by omega,show i+1+1 - 1=i+1 by omega];exact he _ (k_k ej hj hk)
theorem AltM.clear {n k:Nat}{D:Mx->Int}(h:AltM (n+1) D)(hk:k<n+1)(A:Mx):D (setr A 0 (e1 k))=D (ins k (minor A k)):=by
 have key:∀m,m<=n->D (setr A 0 (e1 k))=D (fun i j=>if i=0 then e1 k j else if i<=m/\j=k then 0 else A i j):=by
  intro m;induction m with
  |zero=>
   intro _;refine h.ext _ _ fun i j hi hj=>?_;unfold setr;by_cases e0:i=0
   ·rw[if_pos e0,if_pos e0]
   ·rw[if_neg e0,if_neg e0,if_neg (fun e=>e0 (by omega))]
  |succ m ih=>
   intro hm;rw[ih (by omega)];have e:=h.addrow (fun i j=>if i=0 then e1 k j else if i<=m/\j=k then 0 else A i j) (i:=m+1) (k:=0) (- A (m+1) k) (by omega) (by omega) (by omega);rw[<-e];refine h.ext _ _ fun i j hi hj=>?_;unfold setr;by_cases e0:i=m+1
   ·subst e0;simp only[if_true,if_neg (show ¬m+1=0 by omega),if_neg (show ¬(m+1<=m/\j=k) by omega)];unfold e1;by_cases ej:j=k
    ·subst ej;simp;omega
    ·simp[ej]
   ·simp only[if_neg e0];by_cases e2:i=0
    ·simp[e2]
    ·simp only[if_neg e2];by_cases e3:i<=m/\j=k
     ·rw[if_pos e3,if_pos ⟨by omega,e3.2⟩]
     ·rw[if_neg e3,if_neg (by omega)]
 rw[key n (Nat.le_refl _)];refine h.ext _ _ fun i j hi hj=>?_;unfold ins minor;by_cases e0:i=0
 ·rw[if_pos e0,if_pos e0]
 ·rw[if_neg e0,if_neg e0];by_cases ej:j=k
  ·rw[if_pos ⟨by omega,ej⟩,if_pos ej]
  ·rw[if_neg (fun e=>ej e.2),if_neg ej,d_9 ej,show i - 1+1=i by omega]
def perm (k m:Nat):Mx:=fun i=>e1 (if i<m then i else if i=m then k else if i<=k then i - 1 else i)
theorem AltM.perm1 {n k:Nat}{D:Mx->Int}(h:AltM (n+1) D)(hk:k<n+1):∀m,m<=k->D (ins k one)=sgn m*D (perm k m)
 |0,_=>by
  simp only[sgn,Int.one_mul];refine h.ext _ _ fun i j hi hj=>?_;unfold ins perm one e1 un;repeat' split
  all_goals first|rfl|(exfalso;omega)
 |m+1,hm=>by
  rw[AltM.perm1 h hk m (by omega)];have e:=h.swap1 (perm k m) (i:=m) (by omega);have e2:D (perm k (m+1))=D (setr (setr (perm k m) m (perm k m (m+1))) (m+1) (perm k m m)):=h.ext _ _ fun i j hi hj=>by
   unfold setr perm;by_cases h1:i=m+1
   ·subst h1;simp
   ·by_cases h2:i=m
    ·subst h2;simp only[if_neg (show ¬i=i+1 by omega),if_true,if_pos (show i<i+1 by omega),if_neg (show ¬i+1<i by omega),if_neg (show ¬i+1=i by omega),if_pos hm,Nat.add_sub_cancel]
    ·simp only[if_neg h1,if_neg h2];by_cases h3:i<m
     ·rw[if_pos h3,if_pos (by omega)]
     ·rw[if_neg h3,if_neg (by omega)]
  rw[e2,e];simp only[sgn];grind
theorem AltM.perm {n k:Nat}{D:Mx->Int}(h:AltM (n+1) D)(hk:k<n+1):D (ins k one)=sgn k*D one:=by
 rw[h.perm1 hk k (Nat.le_refl _)];congr 1
 refine h.ext _ _ fun i j hi hj=>?_;unfold DT.perm one e1;repeat' split
 all_goals first|rfl|(exfalso;omega)
theorem alt_det:∀(n:Nat) (D:Mx->Int),AltM n D->∀A,D A=det n A*D one
 |0,D,h,A=>by rw[h.ext A one fun i j hi=>by omega];simp[det]
 |n+1,D,h,A=>by
  rw[h.row0 A,a_r,<-sum_mul'];refine sum_ext fun k hk=>?_;rw[h.clear hk A,alt_det n _ (l_b h hk) (minor A k),h.perm hk];grind
theorem e_i (n:Nat)(M:Mx):det n (fun i j=>M j i)=det n M:=by
 have h:AltM n fun M=>det n fun i j=>M j i:=
  { ext:=fun M N he=>det_ext fun i j hi hj=>he j i hj hi
    lin:=fun M i u v c hi=>by
     have e:∀w:Nat->Int,(fun i' j=>setr M i w j i')=setc (fun i' j=>M j i') i w:=fun w=>by
      funext i' j;unfold setr setc;rfl
     rw[e,e,e];exact col_lin _ u v c hi
    alt:=fun M i hi he=>col_alt _ hi fun j hj=>he j hj }
 have:=alt_det n _ h M;rw[this,det_ext (M:=fun i j=>one j i) (N:=one) fun i j _ _=>by
  unfold one;by_cases e:j=i
  ·rw[if_pos e,if_pos e.symm]
  ·rw[if_neg e,if_neg (fun e2=>e e2.symm)],det_one,Int.mul_one]
theorem a_2 (n:Nat):AltM n (det n) where
 ext M N he:=det_ext he
 lin M i u v c hi:=by
  have e:∀w:Nat->Int,det n (setr M i w)=det n (setc (fun i' j=>M j i') i w):=fun w=>by
   rw[<-e_i n (setr M i w)];congr 1
  rw[e,e,e];exact col_lin _ u v c hi
 alt M i hi he:=by
  rw[<-e_i n M];exact col_alt _ hi fun j hj=>he j hj
def mul (n:Nat)(A B:Mx):Mx:=fun i j=>sumN n fun k=>A i k*B k j
theorem g_y (n:Nat)(A B:Mx):det n (mul n A B)=det n A*det n B:=by
 have h:AltM n fun A=>det n (mul n A B):=
  { ext:=fun M N he=>det_ext fun i j hi hj=>sum_ext fun k hk=>by rw[he i k hi hk]
    lin:=fun M i u v c hi=>by
     have e:∀w:Nat->Int,mul n (setr M i w) B=setr (mul n M B) i fun j=>sumN n fun k=>w k*B k j:=fun w=>by
      funext i' j;unfold mul setr;split<;>rfl
     rw[e,e,e,<-(a_2 n).lin _ _ _ _ c hi];congr 2
     funext j
     rw[<-a_0,<-d_m];exact sum_ext fun k _=>by grind
    alt:=fun M i hi he=>(a_2 n).alt _ i hi fun j _=>sum_ext fun k hk=>by rw[he k hk] }
 rw[alt_det n _ h A];congr 1
 refine det_ext fun i j hi hj=>?_;unfold mul one;rw[a_4 hi fun k _ hk=>by rw[if_neg (fun e=>hk e.symm)];simp];simp
end DT
end
section
namespace DT
def idx (i m a:Nat):Nat:=if a<m then a else if a=m then i else if a<=i then a - 1 else a
theorem AltM.move {n:Nat}{D:Mx->Int}(h:AltM n D)(M:Mx){i:Nat}(hi:i<n):∀m,m<=i->D (fun a=>M (idx i 0 a))=sgn m*D (fun a=>M (idx i m a))
 |0,_=>by simp[sgn]
 |m+1,hm=>by
  rw[AltM.move h M hi m (by omega)];have e:=h.swap1 (fun a=>M (idx i m a)) (i:=m) (by omega);have e2:D (fun a=>M (idx i (m+1) a))=D (setr (setr (fun a=>M (idx i m a)) m (M (idx i m (m+1)))) (m+1) (M (idx i m m))):=h.ext _ _ fun a j ha hj=>by
   simp only[setr];by_cases h1:a=m+1
   ·subst h1;rw[if_pos rfl,show idx i (m+1) (m+1)=i by unfold idx;simp,show idx i m m=i by unfold idx;simp]
   ·rw[if_neg h1];by_cases h2:a=m
    ·subst h2;rw[if_pos rfl,show idx i (a+1) a=a by unfold idx;simp,show idx i a (a+1)=a by unfold idx;rw[if_neg (by omega),if_neg (by omega),if_pos hm];omega]
    ·rw[if_neg h2,show idx i (m+1) a=idx i m a by unfold idx;repeat' split
                                                  all_goals first|rfl|(exfalso;omega)]
  rw[e2,e];simp only[sgn];grind
theorem i_u (i a:Nat):idx i i a=a:=by
 unfold idx;repeat' split
 all_goals omega
theorem i_t (i a:Nat):idx i 0 (a+1)=skip i a:=by
 unfold idx skip;repeat' split
 all_goals omega
def minor2 (M:Mx)(i k:Nat):Mx:=fun a b=>M (skip i a) (skip k b)
theorem i_w (n:Nat)(M:Mx){i:Nat}(hi:i<n+1):det (n+1) M=sumN (n+1) fun k=>sgn (i+k)*M i k*det n (minor2 M i k):=by
 have e:=(a_2 (n+1)).move M hi i (Nat.le_refl _);have e1:det (n+1) (fun a=>M (idx i i a))=det (n+1) M:=det_ext fun a b _ _=>by rw[i_u]
 rw[e1]at e;have e2:det (n+1) M=sgn i*det (n+1) fun a=>M (idx i 0 a):=by rw[e,<-Int.mul_assoc,l_9,Int.one_mul]
 rw[e2,a_r,<-a_0];refine sum_ext fun k hk=>?_;have e3:minor (fun a=>M (idx i 0 a)) k=minor2 M i k:=by
  funext a b;show M (idx i 0 (a+1)) (skip k b)=M (skip i a) (skip k b);rw[i_t]
 rw[e3,i_b,show idx i 0 0=i by unfold idx;simp];grind
def cof (n:Nat)(M:Mx)(i k:Nat):Int:=sgn (i+k)*det n (minor2 M i k)
theorem d_3 (n:Nat)(M:Mx){i:Nat}(hi:i<n+1):sumN (n+1) (fun k=>M i k*cof n M i k)=det (n+1) M:=by
 rw[i_w n M hi];exact sum_ext fun k _=>by unfold cof;grind
theorem e_z (n:Nat)(M:Mx){i r:Nat}(hi:i<n+1)(hr:r<n+1)(hne:r≠i):sumN (n+1) (fun k=>M r k*cof n M i k)=0:=by
 have e:=d_3 n (setr M i (M r)) hi;rw[(a_2 (n+1)).same' _ hi hr (fun e=>hne e.symm) fun j _=>by unfold setr;rw[if_pos rfl,if_neg hne]]at e;rw[<-e];refine sum_ext fun k _=>?_;have e1:minor2 (setr M i (M r)) i k=minor2 M i k:=by
  funext a b;unfold minor2 setr;rw[if_neg (g_h i a)]
 unfold cof;rw[e1];unfold setr;rw[if_pos rfl]
theorem w_p (n:Nat)(M:Mx)(i k:Nat):cof n (fun a b=>M b a) i k=cof n M k i:=by
 unfold cof;rw[Nat.add_comm i k,<-e_i n (minor2 M k i)];rfl
theorem l_l (n:Nat)(M:Mx){j k:Nat}(hj:j<n+1)(hk:k<n+1):sumN (n+1) (fun a=>M a j*cof n M a k)=if j=k then det (n+1) M else 0:=by
 have e:sumN (n+1) (fun a=>M a j*cof n M a k)=sumN (n+1) fun a=>(fun a b=>M b a) j a*cof n (fun a b=>M b a) k a:=sum_ext fun a _=>by rw[w_p]
 rw[e];split
 ·rename_i e;subst e;exact(d_3 n (fun a b=>M b a) hj).trans (e_i _ _)
 ·rename_i h;exact e_z n (fun a b=>M b a) hk hj h
theorem cramer (k:Nat)(P:Mx)(r:Nat->Int):∃x:Nat->Int,∀j,j<k->sumN k (fun a=>x a*P a j)=det k P*r j:=by
 cases k with
 |zero=>exact⟨fun _=>0,fun j h=>by omega⟩
 |succ n=>
  refine⟨fun a=>sumN (n+1) fun k=>r k*cof n P a k,fun j hj=>?_⟩;have e:sumN (n+1) (fun a=>(sumN (n+1) fun k=>r k*cof n P a k)*P a j)=sumN (n+1) fun k=>r k*sumN (n+1) fun a=>P a j*cof n P a k:=by
   rw[sum_ext (g:=fun a=>sumN (n+1) fun k=>r k*(P a j*cof n P a k)) fun a _=>by rw[<-sum_mul'];exact sum_ext fun k _=>by grind];rw[e_n];exact sum_ext fun k _=>a_0 _ _ _
  rw[e,sum_ext (g:=fun k=>r k*if j=k then det (n+1) P else 0) fun k hk=>by rw[l_l n P hj hk]];rw[a_4 hj fun k _ hne=>by rw[if_neg (fun e=>hne e.symm)];simp,if_pos rfl,Int.mul_comm]
def blk (k:Nat)(A C B:Mx):Mx:=fun i j=>if i<k then(if j<k then A i j else C i (j - k))else if j<k then 0 else B (i - k) (j - k)
theorem det_upper:∀(n:Nat) (M:Mx),(∀i j,i<n->j<n->j<i->M i j=0)->(∀i,i<n->M i i=1)->det n M=1
 |0,_,_,_=>rfl
 |n+1,M,h0,h1=>by
  rw[<-e_i,a_r,a_4 (i:=0) (by omega) fun k hk hne=>by rw[h0 k 0 hk (by omega) (by omega)];simp];rw[det_ext (N:=fun i j=>M (j+1) (i+1)) fun i j _ _=>by unfold minor skip;simp,e_i n fun i j=>M (i+1) (j+1),det_upper n (fun i j=>M (i+1) (j+1)) (fun i j hi hj hij=>h0 _ _ (by omega) (by omega) (by omega)) (fun i hi=>h1 _ (by omega)),h1 0 (by omega)];rfl
theorem d_l (k m:Nat)(f:Nat->Int):sumN (k+m) f=sumN k f+sumN m fun l=>f (k+l):=by
 induction m with
 |zero=>simp[sumN]
 |succ m ih=>rw[<-Nat.add_assoc];simp only[sumN,ih];omega
theorem d_r {k:Nat}(A C B:Mx){i j:Nat}(hi:i<k)(hj:j<k):blk k A C B i j=A i j:=by unfold blk;rw[if_pos hi,if_pos hj]
theorem f_t {k:Nat}(A C B:Mx){i j:Nat}(hi:i<k)(hj:¬j<k):blk k A C B i j=C i (j - k):=by unfold blk;rw[if_pos hi,if_neg hj]
theorem d_j {k:Nat}(A C B:Mx){i j:Nat}(hi:¬i<k)(hj:j<k):blk k A C B i j=0:=by unfold blk;rw[if_neg hi,if_pos hj]
theorem c_u {k:Nat}(A C B:Mx){i j:Nat}(hi:¬i<k)(hj:¬j<k):blk k A C B i j=B (i - k) (j - k):=by unfold blk;rw[if_neg hi,if_neg hj]
theorem a_1 (i:Nat):one i i=1:=by unfold one;rw[if_pos rfl]
theorem b_x {i j:Nat}(h:i≠j):one i j=0:=by unfold one;rw[if_neg h]
theorem m_0 (k m:Nat)(C:Mx):det (k+m) (blk k one C one)=1:=by
 refine det_upper _ _ (fun i j hi hj hij=>?_) (fun i hi=>?_)
 ·by_cases h1:i<k
  ·rw[d_r _ _ _ h1 (by omega)];exact b_x (by omega)
  ·by_cases h2:j<k
   ·exact d_j _ _ _ h1 h2
   ·rw[c_u _ _ _ h1 h2];exact b_x (by omega)
 ·by_cases h1:i<k
  ·rw[d_r _ _ _ h1 h1];exact a_1 _
  ·rw[c_u _ _ _ h1 h1];exact a_1 _
theorem s_3 (k m:Nat)(A:Mx):det (k+m) (blk k A (fun _ _=>0) one)=det k A:=by
 have h:AltM k fun A=>det (k+m) (blk k A (fun _ _=>0) one):=
  { ext:=fun M N he=>det_ext fun i j hi hj=>by
     unfold blk;repeat' split
     ·exact he i j (by assumption) (by assumption)
     all_goals rfl
    lin:=fun M i u v c hi=>by
     have e:∀w:Nat->Int,blk k (setr M i w) (fun _ _=>0) one=setr (blk k M (fun _ _=>0) one) i fun j=>if j<k then w j else 0:=fun w=>by
      funext a b
      by_cases h1:a=i
      ·subst h1;by_cases h2:b<k
       ·rw[d_r _ _ _ hi h2];simp only[setr,if_true,if_pos h2]
       ·rw[f_t _ _ _ hi h2];simp only[setr,if_true,if_neg h2]
      ·simp only[blk,setr,if_neg h1]
     rw[e,e,e,<-(a_2 (k+m)).lin _ _ _ _ c (by omega)];congr 2
     funext j
     by_cases h2:j<k
     ·simp only[if_pos h2]
     ·simp only[if_neg h2];simp
    alt:=fun M i hi he=>(a_2 (k+m)).alt _ i (by omega) fun j hj=>by
     by_cases h2:j<k
     ·rw[d_r _ _ _ (by omega) h2,d_r _ _ _ hi h2];exact he j h2
     ·rw[f_t _ _ _ (by omega) h2,f_t _ _ _ hi h2] }
 have:=alt_det k _ h A;rw[m_0,Int.mul_one]at this;exact this
theorem s_2 (k m:Nat)(A C:Mx):det (k+m) (blk k A C one)=det k A:=by
 rw[<-s_3 k m A,<-Int.one_mul (det (k+m) (blk k A (fun _ _=>0) one)),<-m_0 k m C,<-g_y];refine det_ext fun i j hi hj=>?_;unfold mul;rw[d_l];by_cases h1:i<k
 ·have e1:sumN k (fun l=>blk k one C one i l*blk k A (fun _ _=>0) one l j)=blk k A (fun _ _=>0) one i j:=by
   rw[a_4 h1 fun l hl hne=>by rw[d_r _ _ _ h1 hl,b_x (fun e=>hne e.symm)];simp,d_r _ _ _ h1 h1,a_1,Int.one_mul]
  rw[e1];by_cases h2:j<k
  ·rw[a_9 fun l hl=>by rw[d_j (i:=k+l) _ _ _ (by omega) h2];simp,d_r _ _ _ h1 h2,d_r _ _ _ h1 h2];simp
  ·rw[a_4 (i:=j - k) (by omega) fun l hl hne=>by rw[c_u (i:=k+l) _ _ _ (by omega) h2,b_x (by omega)];simp];rw[c_u (i:=k+(j - k)) _ _ _ (by omega) h2,show k+(j - k) - k=j - k by omega,a_1,show k+(j - k)=j by omega,f_t _ _ _ h1 h2,f_t _ _ _ h1 h2,f_t _ _ _ h1 h2];simp
 ·rw[a_9 fun l hl=>by rw[d_j _ _ _ h1 hl];simp];rw[a_4 (i:=i - k) (by omega) fun l hl hne=>by rw[c_u _ _ _ h1 (by omega),b_x (by omega)];simp];rw[c_u (j:=k+(i - k)) _ _ _ h1 (by omega),show k+(i - k) - k=i - k by omega,a_1,show k+(i - k)=i by omega];by_cases h2:j<k
  ·rw[d_j _ _ _ h1 h2,d_j _ _ _ h1 h2];simp
  ·rw[c_u _ _ _ h1 h2,c_u _ _ _ h1 h2];simp
theorem q_b (k m:Nat)(A C B:Mx):det (k+m) (blk k A C B)=det k A*det m B:=by
 have h:AltM m fun B=>det (k+m) (blk k A C B):=
  { ext:=fun M N he=>det_ext fun i j hi hj=>by
     by_cases h1:i<k
     ·unfold blk;simp only[if_pos h1]
     ·by_cases h2:j<k
      ·rw[d_j _ _ _ h1 h2,d_j _ _ _ h1 h2]
      ·rw[c_u _ _ _ h1 h2,c_u _ _ _ h1 h2];exact he _ _ (by omega) (by omega)
    lin:=fun M i u v c hi=>by
     have e:∀w:Nat->Int,blk k A C (setr M i w)=setr (blk k A C M) (k+i) fun j=>if j<k then 0 else w (j - k):=fun w=>by
      funext a b
      by_cases h1:a=k+i
      ·subst h1;by_cases h2:b<k
       ·rw[d_j _ _ _ (by omega) h2];simp only[setr,if_true,if_pos h2]
       ·rw[c_u _ _ _ (by omega) h2];simp only[setr,if_true,if_neg h2,show k+i - k=i by omega]
      ·by_cases h3:a<k
       ·simp only[blk,setr,if_neg h1,if_pos h3]
       ·simp only[blk,setr,if_neg h1,if_neg h3,if_neg (show ¬a - k=i by omega)]
     rw[e,e,e,<-(a_2 (k+m)).lin _ _ _ _ c (by omega)];congr 2
     funext j
     by_cases h2:j<k
     ·simp only[if_pos h2];simp
     ·simp only[if_neg h2]
    alt:=fun M i hi he=>(a_2 (k+m)).alt _ (k+i) (by omega) fun j hj=>by
     by_cases h2:j<k
     ·rw[d_j _ _ _ (by omega) h2,d_j _ _ _ (by omega) h2]
     ·rw[c_u _ _ _ (by omega) h2,c_u _ _ _ (by omega) h2,show k+i - k=i by omega,show k+i+1 - k=i+1 by omega];exact he _ (by omega) }
 have:=alt_det m _ h B;rw[s_2]at this;rw[this,Int.mul_comm]
end DT
end
section
namespace DT
theorem e_0 (n:Nat)(f g:Nat->Int):sumN n (fun k=>f k - g k)=sumN n f - sumN n g:=by
 induction n with
 |zero=>rfl
 |succ n ih=>simp only[sumN,ih];omega
theorem d_2 (d:Int):∀m,det m (fun a b=>d*one a b)=d^m
 |0=>by rw[Int.pow_zero];rfl
 |m+1=>by
  rw[a_r,a_4 (i:=0) (by omega) fun k hk hne=>by rw[b_x (fun e=>hne e.symm)];simp];rw[det_ext (N:=fun a b=>d*one a b) fun i j _ _=>by
   show d*one (i+1) (skip 0 j)=d*one i j
   rw[show skip 0 j=j+1 by unfold skip;simp];by_cases e:i=j
   ·subst e;rw[a_1,a_1]
   ·rw[b_x e,b_x (by omega)],d_2 d m,a_1]
  show 1*(d*1)*d^m=d^(m+1)
  rw[Int.pow_succ];grind
def rest (k:Nat)(d:Int)(G:Mx)(x:Mx):Mx:=fun t j=>d*G (k+t) j - sumN k fun a=>x t a*G a j
theorem schur (k m:Nat)(d:Int)(G x:Mx)(h:∀t j,t<m->j<k->sumN k (fun a=>x t a*G a j)=d*G (k+t) j):
  d^m*det (k+m) G=det k G*det m fun t s=>rest k d G x t (k+s):=by
 have e1:det (k+m) (blk k G (fun i j=>G i (k+j)) fun t s=>rest k d G x t (k+s))=det (k+m) (mul (k+m) (fun i j=>if i<k then one i j else if j<k then - x (i - k) j else d*one i j) G):=by
  refine det_ext fun i j hi hj=>?_;unfold mul;by_cases h1:i<k
  ·rw[a_4 (i:=i) (by omega) fun l hl hne=>by dsimp only;rw[if_pos h1,b_x (fun e=>hne e.symm)];simp];dsimp only;rw[if_pos h1,a_1,Int.one_mul];by_cases h2:j<k
   ·rw[d_r _ _ _ h1 h2]
   ·rw[f_t _ _ _ h1 h2,show k+(j - k)=j by omega]
  ·rw[d_l];have e2:sumN k (fun l=>(if i<k then one i l else if l<k then - x (i - k) l else d*one i l)*G l j)= - sumN k fun a=>x (i - k) a*G a j:=by
    rw[<-Int.neg_one_mul,<-a_0];exact sum_ext fun l hl=>by rw[if_neg h1,if_pos hl];grind
   have e3:sumN m (fun l=>(if i<k then one i (k+l)else if k+l<k then - x (i - k) (k+l)else d*one i (k+l))*G (k+l) j)=d*G i j:=by
    rw[a_4 (i:=i - k) (by omega) fun l hl hne=>by rw[if_neg h1,if_neg (by omega),b_x (by omega)];simp];rw[if_neg h1,if_neg (by omega),show k+(i - k)=i by omega,a_1,Int.mul_one]
   rw[e2,e3];by_cases h2:j<k
   ·rw[d_j _ _ _ h1 h2,h _ _ (by omega) h2,show k+(i - k)=i by omega];omega
   ·rw[c_u _ _ _ h1 h2];unfold rest;rw[show k+(i - k)=i by omega,show k+(j - k)=j by omega];omega
 rw[q_b,g_y,<-e_i (k+m) (fun i j=>if i<k then one i j else if j<k then - x (i - k) j else d*one i j)]at e1;rw[det_ext (M:=fun i j=>if j<k then one j i else if i<k then - x (j - k) i else d*one j i) (N:=blk k one (fun i j=>- x j i) fun i j=>d*one i j) fun i j hi hj=>by
  by_cases h1:i<k
  ·by_cases h2:j<k
   ·rw[d_r _ _ _ h1 h2,if_pos h2];unfold one;by_cases e:i=j
    ·subst e;rfl
    ·rw[if_neg e,if_neg (fun e2=>e e2.symm)]
   ·rw[f_t _ _ _ h1 h2,if_neg h2,if_pos h1]
  ·by_cases h2:j<k
   ·rw[d_j _ _ _ h1 h2,if_pos h2,b_x (by omega)]
   ·rw[c_u _ _ _ h1 h2,if_neg h2,if_neg h1];unfold one;by_cases e:i=j
    ·subst e;simp
    ·rw[if_neg (fun e2=>e e2.symm),if_neg (by omega)],q_b,det_one,d_2,Int.one_mul]at e1
 exact e1.symm
def bord (k:Nat)(G:Mx)(i j:Nat):Mx:=fun a b=>G (if a<k then a else i) (if b<k then b else j)
def bd (k:Nat)(G:Mx)(i j:Nat):Int:=det (k+1) (bord k G i j)
theorem s_1 (k:Nat)(G:Mx)(i j:Nat):det k (bord k G i j)=det k G:=det_ext fun a b ha hb=>by unfold bord;rw[if_pos ha,if_pos hb]
theorem q_m (k:Nat)(G:Mx)(i j:Nat)(x:Nat->Int)(h:∀b,b<k->sumN k (fun a=>x a*G a b)=det k G*G i b):
  det k G*bd k G i j=det k G*(det k G*G i j - sumN k fun a=>x a*G a j):=by
 have e:=schur k 1 (det k G) (bord k G i j) (fun _=>x) fun t b ht hb=>by
  rw[sum_ext (g:=fun a=>x a*G a b) fun a ha=>by unfold bord;rw[if_pos ha,if_pos hb],h b hb];unfold bord;rw[if_neg (by omega),if_pos hb]
 rw[s_1,Int.pow_succ,Int.pow_zero,Int.one_mul]at e;rw[bd,e];congr 1
 rw[a_r];simp only[sumN,sgn,det,minor];unfold rest;rw[sum_ext (g:=fun a=>x a*G a j) fun a ha=>by unfold bord;rw[if_pos ha,if_neg (by omega)]];unfold bord;rw[if_neg (by omega),if_neg (by omega)];omega
theorem t_7 (k:Nat)(G:Mx)(i:Nat)(hd:det k G≠0):∃x:Nat->Int,∀j,bd k G i j=det k G*G i j - sumN k fun a=>x a*G a j:=by
 obtain⟨x,hx⟩:=cramer k G (G i);exact⟨x,fun j=>Int.eq_of_mul_eq_mul_left hd (q_m k G i j x hx)⟩
theorem sylvester (k m:Nat)(G:Mx)(hd:det k G≠0):det k G^m*det (k+m) G=det k G*det m fun t s=>bd k G (k+t) (k+s):=by
 have e:∀t,∃x:Nat->Int,(∀b,b<k->sumN k (fun a=>x a*G a b)=det k G*G (k+t) b)/\∀j,bd k G (k+t) j=det k G*G (k+t) j - sumN k fun a=>x a*G a j:=fun t=>by
  obtain⟨x,hx⟩:=cramer k G (G (k+t));exact⟨x,hx,fun j=>Int.eq_of_mul_eq_mul_left hd (q_m k G (k+t) j x hx)⟩
 refine(schur k m (det k G) G (fun t=>(e t).choose) fun t j _ hj=>(e t).choose_spec.1 j hj).trans ?_;congr 1
 exact det_ext fun t s _ _=>((e t).choose_spec.2 (k+s)).symm
theorem bareiss (k:Nat)(G:Mx)(hd:det k G≠0):det k G*det (k+2) G=bd k G k k*bd k G (k+1) (k+1) - bd k G k (k+1)*bd k G (k+1) k:=by
 have e:=sylvester k 2 G hd;refine Int.eq_of_mul_eq_mul_left hd ?_;rw[<-Int.mul_assoc,show det k G*det k G=det k G^2 by rw[Int.pow_succ,Int.pow_succ,Int.pow_zero,Int.one_mul],e];congr 1
 simp[a_r,sumN,sgn,minor,det,skip];grind
theorem n_4 (k:Nat)(G:Mx)(hd:det k G≠0){i j:Nat}(hi:k<=i)(hj:k<=j):det k G*bd (k+1) G i j=bd k G k k*bd k G i j - bd k G k j*bd k G i k:=by
 have e:=bareiss k (bord (k+1) G i j);have e0:det k (bord (k+1) G i j)=det k G:=det_ext fun a b ha hb=>by unfold bord;rw[if_pos (by omega),if_pos (by omega)]
 rw[e0]at e;have e1:=e hd;unfold bd;rw[show k+1+1=k+2 by omega,e1];unfold bd;have f:∀u v,det (k+1) (bord k (bord (k+1) G i j) u v)=det (k+1) (bord k G (if u<k+1 then u else i) (if v<k+1 then v else j)):=fun u v=>det_ext fun a b ha hb=>by
  unfold bord;by_cases h1:a<k
  ·by_cases h2:b<k
   ·simp only[if_pos h1,if_pos h2,if_pos (show a<k+1 by omega),if_pos (show b<k+1 by omega)]
   ·simp only[if_pos h1,if_neg h2,if_pos (show a<k+1 by omega)]
  ·by_cases h2:b<k
   ·simp only[if_neg h1,if_pos h2,if_pos (show b<k+1 by omega)]
   ·simp only[if_neg h1,if_neg h2]
 rw[f,f,f,f];simp only[if_pos (show k<k+1 by omega),if_neg (show ¬k+1<k+1 by omega)]
theorem g_x (d:Int)(M:Mx)(n:Nat):det n (fun i j=>d*M i j)=d^n*det n M:=by
 rw[<-d_2,<-g_y];refine det_ext fun i j hi hj=>?_;unfold mul;rw[a_4 (i:=i) hi fun l hl hne=>by dsimp only;rw[b_x (fun e=>hne e.symm)];simp];dsimp only;rw[a_1,Int.mul_one]
theorem j_u {d:Int}(h:d≠0):∀n:Nat,d^n≠0
 |0=>by simp
 |n+1=>by rw[Int.pow_succ];exact Int.mul_ne_zero (j_u h n) h
end DT
end
section
namespace DT
variable {R C:Nat}{M N H K:Mx}{u v:Nat->Int}
def fst:Nat->(Nat->Int)->Nat
 |0,_=>0
 |C+1,u=>if fst C u<C then fst C u else if u C=0 then C+1 else C
structure Herm (R C:Nat) (M:Mx):Prop where
 up:∀i,i+1<R->fst C (M (i+1))<C->fst C (M i)<fst C (M (i+1))
 pos:∀i,i<R->fst C (M i)<C->0<M i (fst C (M i))
 red:∀i,i<R->fst C (M i)<C->∀r,r<i->0<=M r (fst C (M i))/\M r (fst C (M i))<M i (fst C (M i))
end DT
end
section
namespace DT
theorem x_d {n:Nat}{f g:Nat->Int}(h:∀k,k<n->f k<=g k):sumN n f<=sumN n g:=by
 induction n with
 |zero=>exact Int.le_refl _
 |succ n ih=>simp only[sumN];have:=ih fun k hk=>h k (by omega);have:=h n (by omega);omega
theorem n_a {n:Nat}{f:Nat->Int}(h:∀k,k<n->0<=f k):0<=sumN n f:=by
 have:=x_d (f:=fun _=>0) h;rwa [a_9 fun _ _=>rfl]at this
end DT
end
section
namespace DT
variable {R C:Nat}{M N H K:Mx}{u v:Nat->Int}
structure Inc (k n:Nat) (f:Nat->Nat):Prop where
 up:∀i,i+1<k->f i<f (i+1)
 lt:∀i,i<k->f i<n
def sw (i:Nat)(f:Nat->Nat):Nat->Nat:=fun a=>if a=i then f (i+1)else if a=i+1 then f i else f a
def mu (k:Nat)(f:Nat->Nat):Int:=sumN k fun i=>((k:Int) - i)*f i
theorem j_z (k:Nat)(f:Nat->Nat):0<=mu k f:=n_a fun i hi=>Int.mul_nonneg (by omega) (by omega)
theorem y_h {k:Nat}(f:Nat->Nat){i:Nat}(hi:i+1<k)(h:f (i+1)<f i):mu k (sw i f)<mu k f:=by
 have e:mu k f - mu k (sw i f)=(f i:Int) - f (i+1):=by
  unfold mu;rw[<-e_0,h_6 (i:=i) (j:=i+1) (by omega) hi fun a ha h1 h2=>by unfold sw;rw[if_neg h1,if_neg h2];omega];unfold sw;rw[if_pos rfl,if_neg (by omega),if_pos rfl];rw[show((i+1:Nat):Int)=i+1 by omega];grind
 omega
theorem sortP {k n:Nat}(P:(Nat->Nat)->Prop)(h0:∀f,Inc k n f->P f)(heq:∀f i,i+1<k->f i=f (i+1)->P f)(hsw:∀f i,i+1<k->P (sw i f)->P f):∀f:Nat->Nat,(∀i,i<k->f i<n)->P f:=by
 suffices h:∀(m:Nat) f,(mu k f).toNat<=m->(∀i,i<k->f i<n)->P f from fun f hf=>h _ f (Nat.le_refl _) hf
 intro m;induction m with
 |zero=>
  intro f hm hf;by_cases h1:∃i,i+1<k/\f (i+1)<=f i
  ·obtain⟨i,hi,hle⟩:=h1;by_cases he:f i=f (i+1)
   ·exact heq f i hi he
   ·have:=y_h f hi (by omega);have:=j_z k (sw i f);omega
  ·exact h0 f ⟨fun i hi=>by
    rcases Nat.lt_or_ge (f i) (f (i+1))with h|h
    ·exact h
    ·exact absurd ⟨i,hi,h⟩ h1,hf⟩
 |succ m ih=>
  intro f hm hf;by_cases h1:∃i,i+1<k/\f (i+1)<=f i
  ·obtain⟨i,hi,hle⟩:=h1;by_cases he:f i=f (i+1)
   ·exact heq f i hi he
   ·refine hsw f i hi (ih (sw i f) ?_ fun a ha=>?_)
    ·have:=y_h f hi (by omega);have:=j_z k (sw i f);omega
    ·unfold sw;repeat' split
     ·exact hf _ hi
     ·exact hf _ (by omega)
     ·exact hf a ha
  ·exact h0 f ⟨fun i hi=>by
    rcases Nat.lt_or_ge (f i) (f (i+1))with h|h
    ·exact h
    ·exact absurd ⟨i,hi,h⟩ h1,hf⟩
theorem i_z {k n:Nat}{g:Int}(M:Mx)(h:∀f:Nat->Nat,Inc k n f->g∣det k fun i j=>M (f i) j):∀f:Nat->Nat,(∀i,i<k->f i<n)->g∣det k fun i j=>M (f i) j:=by
 refine sortP _ h (fun f i hi he=>?_) (fun f i hi hP=>?_)
 ·rw[(a_2 k).same' _ (i:=i) (k:=i+1) (by omega) hi (by omega) fun j _=>by rw[he]];exact Int.dvd_zero g
 ·have e:=(a_2 k).swap1 (fun a j=>M (f a) j) (i:=i) hi;have e2:det k (fun a j=>M (sw i f a) j)=det k (setr (setr (fun a j=>M (f a) j) i fun j=>M (f (i+1)) j) (i+1) fun j=>M (f i) j):=det_ext fun a j ha hj=>by
   unfold sw setr;by_cases h1:a=i+1
   ·subst h1;rw[if_neg (by omega),if_pos rfl,if_pos rfl]
   ·by_cases h2:a=i
    ·subst h2;rw[if_pos rfl,if_neg h1,if_pos rfl]
    ·rw[if_neg h2,if_neg h1,if_neg h1,if_neg h2]
  rw[e2,e]at hP;exact(Int.dvd_neg).mp hP
theorem AltM.rowsum {n:Nat}{D:Mx->Int}(h:AltM n D)(A:Mx){i:Nat}(hi:i<n)(x:Nat->Int)(M:Mx):∀m,D (setr A i fun j=>sumN m fun l=>x l*M l j)=sumN m fun l=>x l*D (setr A i (M l))
 |0=>h.zero A hi
 |m+1=>by
  simp only[sumN];rw[h.add A _ _ hi,AltM.rowsum h A hi x M m,h.smul A _ _ hi]
theorem k_2 {k:Nat}{g:Int}(X M:Mx)(h:∀f:Nat->Nat,(∀i,i<k->f i<R)->g∣det k fun i j=>M (f i) j):g∣det k (mul R X M):=by
 by_cases hR:R=0
 ·subst hR;cases k with
  |zero=>have:=h (fun _=>0) (fun i hi=>by omega);exact this
  |succ k=>
   have e:det (k+1) (mul 0 X M)=det (k+1) (setr (mul 0 X M) 0 fun _=>0):=det_ext fun i j _ _=>by unfold setr mul;split<;>rfl
   rw[e,(a_2 (k+1)).zero _ (by omega)];exact Int.dvd_zero g
 suffices h2:∀t,t<=k->∀f:Nat->Nat,(∀i,i<k->f i<R)->g∣det k fun i j=>if i<t then mul R X M i j else M (f i) j by
  have:=h2 k (Nat.le_refl _) (fun _=>0) fun _ _=>by omega
  rwa [det_ext fun i j hi hj=>if_pos hi]at this
 intro t;induction t with
 |zero=>intro _ f hf;rw[det_ext fun i j hi hj=>if_neg (by omega)];exact h f hf
 |succ t ih=>
  intro ht f hf;have e:det k (fun i j=>if i<t+1 then mul R X M i j else M (f i) j)=det k (setr (fun i j=>if i<t then mul R X M i j else M (f i) j) t fun j=>sumN R fun l=>X t l*M l j):=det_ext fun i j hi hj=>by
   unfold setr;by_cases h1:i=t
   ·subst h1;rw[if_pos (by omega),if_pos rfl];rfl
   ·rw[if_neg h1];dsimp only;by_cases h2:i<t
    ·rw[if_pos h2,if_pos (by omega)]
    ·rw[if_neg h2,if_neg (by omega)]
  rw[e,(a_2 k).rowsum _ (by omega)];have h3:∀n,n<=R->g∣sumN n fun l=>X t l*det k (setr (fun i j=>if i<t then mul R X M i j else M (f i) j) t (M l)):=by
   intro n;induction n with
   |zero=>intro _;exact Int.dvd_zero g
   |succ n ihn=>
    intro hn;refine Int.dvd_add (ihn (by omega)) (Int.dvd_trans ?_ (Int.dvd_mul_left _ _));have h4:=ih (by omega) (fun a=>if a=t then n else f a) fun i hi=>by
     split
     ·omega
     ·exact hf i hi
    rw[det_ext (N:=fun i j=>if i<t then mul R X M i j else M (if i=t then n else f i) j) fun i j hi hj=>by
     unfold setr;by_cases h1:i=t
     ·subst h1;rw[if_pos rfl,if_neg (by omega),if_pos rfl]
     ·rw[if_neg h1,if_neg h1]]
    exact h4
  exact h3 R (Nat.le_refl _)
theorem Inc.ge {k n:Nat}{f:Nat->Nat}(h:Inc k n f):∀i,i<k->i<=f i
 |0,_=>Nat.zero_le _
 |i+1,hi=>by have:=Inc.ge h i (by omega);have:=h.up i hi;omega
end DT
end
section
namespace DT
variable {R C:Nat}{M N H K:Mx}{u v:Nat->Int}
def Som (R:Nat)(M:Mx)(k:Nat)(cols:Nat->Nat):Prop:=∃f,Inc k R f/\det k (fun i j=>M (f i) (cols j))≠0
theorem Som.of {S k:Nat}{d:Int}(hd:d≠0){X:Mx}{c:Nat->Nat}(h:∀i j,i<R->j<k->d*M i (c j)=sumN S fun l=>X i l*N l (c j))(hs:Som R M k c):Som S N k c:=by
 obtain⟨f,hf,hne⟩:=hs;refine Classical.byContradiction fun hn=>hne ?_;have h1:(0:Int)∣det k (mul S (fun i=>X (f i)) fun i j=>N i (c j)):=k_2 _ _ (i_z (fun i j=>N i (c j)) fun f' hf'=>by
  rw[Classical.byContradiction fun h2=>hn ⟨f',hf',h2⟩];exact Int.dvd_refl 0)
 have h2:det k (mul S (fun i=>X (f i)) fun i j=>N i (c j))=0:=Int.zero_dvd.mp h1;rw[<-det_ext (M:=fun i j=>d*M (f i) (c j)) (N:=mul S (fun i=>X (f i)) fun i j=>N i (c j)) fun i j hi hj=>h (f i) j (hf.lt i hi) hj,g_x]at h2;exact(Int.mul_eq_zero.mp h2).resolve_left (j_u hd k)
noncomputable def piv (R:Nat)(M:Mx):Nat->List Nat
 |0=>[]
 |c+1=>open Classical in if Som R M (piv R M c).length.succ (fun j=>(piv R M c++[c]).getD j 0)then piv R M c++[c]else piv R M c
theorem d_p {c:Nat}(h:Som R M ((piv R M c).length+1) fun j=>(piv R M c++[c]).getD j 0):piv R M (c+1)=piv R M c++[c]:=by
 simp only[piv];rw[if_pos h]
theorem f_o {c:Nat}(h:¬Som R M ((piv R M c).length+1) fun j=>(piv R M c++[c]).getD j 0):piv R M (c+1)=piv R M c:=by
 simp only[piv];rw[if_neg h]
end DT
end
section
namespace DT
variable {R C:Nat}{M N H K:Mx}{u v:Nat->Int}
theorem piv_som:∀c,Som R M (piv R M c).length fun j=>(piv R M c).getD j 0
 |0=>⟨fun i=>i,⟨fun i hi=>by simp[piv]at hi,fun i hi=>by simp[piv]at hi⟩,by simp[piv,det]⟩
 |c+1=>by
  by_cases hs:Som R M ((piv R M c).length+1) fun j=>(piv R M c++[c]).getD j 0
  ·rw[d_p hs,List.length_append];exact hs
  ·rw[f_o hs];exact piv_som c
theorem piv_inc:∀c,Inc (piv R M c).length c fun j=>(piv R M c).getD j 0
 |0=>⟨fun i hi=>by simp[piv]at hi,fun i hi=>by simp[piv]at hi⟩
 |c+1=>by
  have ih:=piv_inc c;by_cases hs:Som R M ((piv R M c).length+1) fun j=>(piv R M c++[c]).getD j 0
  ·rw[d_p hs,List.length_append,List.length_singleton];have e1:∀a,a<(piv R M c).length->(piv R M c++[c]).getD a 0=(piv R M c).getD a 0:=fun a ha=>by
    rw[List.getD_eq_getElem?_getD,List.getD_eq_getElem?_getD,List.getElem?_append_left ha]
   have e2:(piv R M c++[c]).getD (piv R M c).length 0=c:=by
    rw[List.getD_eq_getElem?_getD,List.getElem?_append_right (by omega)];simp
   refine⟨fun i hi=>?_,fun i hi=>?_⟩
   ·rw[e1 i (by omega)];by_cases h1:i+1<(piv R M c).length
    ·rw[e1 _ h1];exact ih.up i h1
    ·rw[show i+1=(piv R M c).length by omega,e2];exact ih.lt i (by omega)
   ·by_cases h1:i<(piv R M c).length
    ·rw[e1 _ h1];have:=ih.lt i h1;omega
    ·rw[show i=(piv R M c).length by omega,e2];omega
  ·rw[f_o hs];exact⟨ih.up,fun i hi=>by have:=ih.lt i hi;omega⟩
end DT
end
end Go.Proofs.YtfhbdlegkdbmfaaGreat
