/- Pc13 -/
import Derived.KernelRfl
set_option linter.unusedVariables false
set_option linter.unusedSimpArgs false
set_option linter.unusedSectionVars false
set_option maxRecDepth 100000
set_option maxHeartbeats 8000000
namespace Go.Proofs.YtfhbdlegkdbmfaaGreat
section
namespace DT
def sumN:Nat->(Nat->Int)->Int
 |0,_=>0
 |n+1,f=>sumN n f+f n
theorem sum_ext {n:Nat}{f g:Nat->Int}(h:∀k,k<n->f k=g k):sumN n f=sumN n g:=by
 induction n with
 |zero=>rfl
 |succ n ih=>simp only[sumN];rw[ih fun k hk=>h k (by omega),h n (by omega)]
theorem sum_add (n:Nat)(f g:Nat->Int):sumN n (fun k=>f k+g k)=sumN n f+sumN n g:=by
 induction n with
 |zero=>rfl
 |succ n ih=>simp only[sumN,ih];omega
theorem b_s (n:Nat)(c:Int)(f:Nat->Int):sumN n (fun k=>c*f k)=c*sumN n f:=by
 induction n with
 |zero=>simp[sumN]
 |succ n ih=>simp only[sumN,ih,Int.mul_add]
theorem sum_mul' (n:Nat)(c:Int)(f:Nat->Int):sumN n (fun k=>f k*c)=sumN n f*c:=by
 induction n with
 |zero=>simp[sumN]
 |succ n ih=>simp only[sumN,ih,Int.add_mul]
theorem sum_zero {n:Nat}{f:Nat->Int}(h:∀k,k<n->f k=0):sumN n f=0:=by
 induction n with
 |zero=>rfl
 |succ n ih=>simp only[sumN];rw[ih fun k hk=>h k (by omega),h n (by omega)];rfl
theorem sum_one {n i:Nat}(hi:i<n){f:Nat->Int}(h:∀k,k<n->k≠i->f k=0):sumN n f=f i:=by
 induction n with
 |zero=>omega
 |succ n ih=>
  simp only[sumN];by_cases e:i=n
  ·subst e;rw[sum_zero fun k hk=>h k (by omega) (by omega)];omega
  ·rw[ih (by omega) fun k hk hne=>h k (by omega) hne,h n (by omega) (fun e2=>e e2.symm)];omega
theorem j_3 {n i j:Nat}(hij:i<j)(hj:j<n){f:Nat->Int}(h:∀k,k<n->k≠i->k≠j->f k=0):sumN n f=f i+f j:=by
 induction n with
 |zero=>omega
 |succ n ih=>
  simp only[sumN];by_cases e:j=n
  ·subst e;rw[sum_one hij fun k hk hne=>h k (by omega) hne (by omega)]
  ·rw[ih (by omega) fun k hk h1 h2=>h k (by omega) h1 h2,h n (by omega) (by omega) (fun e2=>e e2.symm)];omega
theorem h_5 (n m:Nat)(f:Nat->Nat->Int):sumN n (fun i=>sumN m fun j=>f i j)=sumN m fun j=>sumN n fun i=>f i j:=by
 induction n with
 |zero=>simp only[sumN];exact(sum_zero fun _ _=>rfl).symm
 |succ n ih=>simp only[sumN];rw[ih,<-sum_add]
def sgn:Nat->Int
 |0=>1
 |k+1=>- sgn k
theorem k_b (k:Nat):sgn k*sgn k=1:=by
 induction k with
 |zero=>rfl
 |succ k ih=>simp only[sgn];rw[Int.neg_mul_neg];exact ih
theorem k_c (a b:Nat):sgn (a+b)=sgn a*sgn b:=by
 induction b with
 |zero=>simp[sgn]
 |succ b ih=>rw[<-Nat.add_assoc];simp only[sgn,ih];rw[Int.mul_neg]
abbrev Mx:=Nat->Nat->Int
def skip (k j:Nat):Nat:=if j<k then j else j+1
def un (k j:Nat):Nat:=if j<k then j else j - 1
theorem j_8 {k j n:Nat}(hj:j<n):skip k j<n+1:=by unfold skip;split<;>omega
theorem h_c (k j:Nat):skip k j≠k:=by unfold skip;split<;>omega
theorem h_b {k j:Nat}(h:j≠k):skip k (un k j)=j:=by
 unfold skip un;by_cases h1:j<k
 ·rw[if_pos h1,if_pos h1]
 ·rw[if_neg h1,if_neg (by omega)];omega
theorem o_m (k j:Nat):un k (skip k j)=j:=by
 unfold skip un;by_cases h1:j<k
 ·rw[if_pos h1,if_pos h1]
 ·rw[if_neg h1,if_neg (by omega)];omega
theorem o_n {k j n:Nat}(h:j≠k)(hj:j<n+1)(hk:k<n+1):un k j<n:=by unfold un;split<;>omega
def minor (M:Mx)(k:Nat):Mx:=fun i j=>M (i+1) (skip k j)
def det:Nat->Mx->Int
 |0,_=>1
 |n+1,M=>sumN (n+1) fun k=>sgn k*M 0 k*det n (minor M k)
theorem b_h (n:Nat)(M:Mx):det (n+1) M=sumN (n+1) fun k=>sgn k*M 0 k*det n (minor M k):=rfl
theorem det_ext:∀ {n:Nat} {M N:Mx},(∀i j,i<n->j<n->M i j=N i j)->det n M=det n N
 |0,_,_,_=>rfl
 |n+1,M,N,h=>by
  rw[b_h,b_h];refine sum_ext fun k hk=>?_;rw[h 0 k (by omega) hk,det_ext (M:=minor M k) (N:=minor N k) fun i j hi hj=>h (i+1) (skip k j) (by omega) (j_8 hj)]
def one:Mx:=fun i j=>if i=j then 1 else 0
theorem det_one:∀n,det n one=1
 |0=>rfl
 |n+1=>by
  rw[b_h,sum_one (i:=0) (by omega) fun k _ hk=>by unfold one;rw[if_neg (fun e=>hk e.symm)];simp];rw[det_ext (N:=one) fun i j _ _=>by unfold minor one skip;simp,det_one n];rfl
def setc (M:Mx)(j:Nat)(u:Nat->Int):Mx:=fun i j'=>if j'=j then u i else M i j'
theorem b_t (M:Mx)(j:Nat)(u:Nat->Int):minor (setc M j u) j=minor M j:=by
 funext i c;unfold minor setc;rw[if_neg (h_c j c)]
theorem b_6 (M:Mx){j k:Nat}(u:Nat->Int)(h:j≠k):minor (setc M j u) k=setc (minor M k) (un k j) fun i=>u (i+1):=by
 funext i c
 unfold minor setc;by_cases e:c=un k j
 ·rw[if_pos (by rw[e,h_b h]),if_pos e]
 ·rw[if_neg (fun e2=>e (by rw[<-e2,o_m])),if_neg e]
theorem col_lin:∀ {n:Nat} (M:Mx) {j:Nat} (u v:Nat->Int) (c:Int),j<n->det n (setc M j fun i=>u i+c*v i)=det n (setc M j u)+c*det n (setc M j v)
 |0,_,_,_,_,_,h=>by omega
 |n+1,M,j,u,v,c,h=>by
  rw[b_h,b_h,b_h,<-b_s,<-sum_add];refine sum_ext fun k hk=>?_;by_cases e:k=j
  ·subst e;rw[b_t,b_t,b_t];simp only[setc,if_true];grind
  ·rw[b_6 M _ (fun e2=>e e2.symm),b_6 M _ (fun e2=>e e2.symm),b_6 M _ (fun e2=>e e2.symm),col_lin (minor M k) (fun i=>u (i+1)) (fun i=>v (i+1)) c (o_n (fun e2=>e e2.symm) h hk)];simp only[setc,if_neg e];grind
theorem col_alt:∀ {n:Nat} (M:Mx) {j:Nat},j+1<n->(∀i,i<n->M i j=M i (j+1))->det n M=0
 |0,_,_,h,_=>by omega
 |n+1,M,j,h,he=>by
  rw[b_h,j_3 (i:=j) (j:=j+1) (by omega) h fun k hk h1 h2=>?_]
  ·have e:det n (minor M j)=det n (minor M (j+1)):=det_ext fun i c hi hc=>by
    unfold minor;by_cases hcj:c=j
    ·subst hcj;rw[show skip c c=c+1 by unfold skip;simp,show skip (c+1) c=c by unfold skip;simp];exact(he (i+1) (by omega)).symm
    ·rw[show skip j c=skip (j+1) c by unfold skip;split<;>split<;>omega]
   rw[e,he 0 (by omega)];simp only[sgn];grind
  ·rw[col_alt (minor M k) (j:=un k j) (by unfold un;split<;>omega) (fun i hi=>?_)]
   ·simp
   ·unfold minor;rw[h_b (fun e=>h1 e.symm),show skip k (un k j+1)=j+1 by unfold skip un;split<;>split<;>omega];exact he (i+1) (by omega)
def setr (M:Mx)(i:Nat)(u:Nat->Int):Mx:=fun i' j=>if i'=i then u j else M i' j
structure AltM (n:Nat) (D:Mx->Int):Prop where
 ext:∀M N:Mx,(∀i j,i<n->j<n->M i j=N i j)->D M=D N
 lin:∀(M:Mx) (i:Nat) (u v:Nat->Int) (c:Int),i<n->D (setr M i fun j=>u j+c*v j)=D (setr M i u)+c*D (setr M i v)
 alt:∀(M:Mx) (i:Nat),i+1<n->(∀j,j<n->M i j=M (i+1) j)->D M=0
section
variable {n:Nat}{D:Mx->Int}
theorem AltM.zero (h:AltM n D)(M:Mx){i:Nat}(hi:i<n):D (setr M i fun _=>0)=0:=by
 have:=h.lin M i (fun _=>0) (fun _=>0) (-1) hi;simp only[Int.mul_zero,Int.add_zero]at this;omega
theorem AltM.add (h:AltM n D)(M:Mx){i:Nat}(u v:Nat->Int)(hi:i<n):D (setr M i fun j=>u j+v j)=D (setr M i u)+D (setr M i v):=by
 have:=h.lin M i u v 1 hi;simpa only[Int.one_mul] using this
theorem AltM.smul (h:AltM n D)(M:Mx){i:Nat}(c:Int)(v:Nat->Int)(hi:i<n):D (setr M i fun j=>c*v j)=c*D (setr M i v):=by
 have:=h.lin M i (fun _=>0) v c hi;simpa only[Int.zero_add,h.zero M hi] using this
theorem e_h (M:Mx)(i:Nat):setr M i (M i)=M:=by
 funext i' j;unfold setr;split
 ·rename_i e;rw[e]
 ·rfl
theorem b_0 (M:Mx){i k:Nat}(u v:Nat->Int)(h:i≠k):setr (setr M i u) k v=setr (setr M k v) i u:=by
 funext i' j;unfold setr
 by_cases e1:i'=k
 ·rw[if_pos e1,if_neg (fun e=>h (by omega)),if_pos e1]
 ·rw[if_neg e1];split<;>rfl
theorem AltM.swap1 (h:AltM n D)(M:Mx){i:Nat}(hi:i+1<n):D (setr (setr M i (M (i+1))) (i+1) (M i))= - D M:=by
 have key:∀u v:Nat->Int,D (setr (setr M i u) (i+1) v)+D (setr (setr M i v) (i+1) u)=0:=fun u v=>by
  have z:∀u:Nat->Int,D (setr (setr M i u) (i+1) u)=0:=fun u=>h.alt _ i hi fun j _=>by
   unfold setr;rw[if_neg (by omega),if_pos rfl,if_pos rfl]
  have e:=z fun j=>u j+v j;rw[h.add _ u v hi,b_0 M _ u (by omega),b_0 M _ v (by omega),h.add _ u v (by omega),h.add _ u v (by omega),b_0 M _ _ (show i+1≠i by omega),b_0 M _ _ (show i+1≠i by omega),b_0 M _ _ (show i+1≠i by omega),b_0 M _ _ (show i+1≠i by omega)]at e;have z1:=z u;have z2:=z v;omega
 have:=key (M (i+1)) (M i);rw[e_h M i,e_h]at this;omega
theorem AltM.same (h:AltM n D):∀(d:Nat) (M:Mx) (i:Nat),i+d+1<n->(∀j,j<n->M i j=M (i+d+1) j)->D M=0
 |0,M,i,hi,he=>h.alt M i hi he
 |d+1,M,i,hi,he=>by
  have e:=h.swap1 M (i:=i+d+1) (by omega);have z:=AltM.same h d (setr (setr M (i+d+1) (M (i+d+1+1))) (i+d+1+1) (M (i+d+1))) i (by omega) fun j hj=>by
   unfold setr;rw[if_neg (by omega),if_neg (by omega),if_neg (by omega),if_pos rfl];exact he j hj
  omega
theorem AltM.same' (h:AltM n D)(M:Mx){i k:Nat}(hi:i<n)(hk:k<n)(hne:i≠k)(he:∀j,j<n->M i j=M k j):D M=0:=by
 rcases Nat.lt_or_gt_of_ne hne with h1|h1
 ·exact h.same (k - i - 1) M i (by omega) fun j hj=>by rw[show i+(k - i - 1)+1=k by omega];exact he j hj
 ·exact h.same (i - k - 1) M k (by omega) fun j hj=>by rw[show k+(i - k - 1)+1=i by omega];exact(he j hj).symm
theorem AltM.addrow (h:AltM n D)(M:Mx){i k:Nat}(c:Int)(hi:i<n)(hk:k<n)(hne:i≠k):D (setr M i fun j=>M i j+c*M k j)=D M:=by
 rw[h.lin M i (M i) (M k) c hi,e_h,h.same' (setr M i (M k)) hi hk hne fun j _=>by unfold setr;rw[if_pos rfl,if_neg (fun e=>hne e.symm)]];simp
end
def e1 (k:Nat):Nat->Int:=fun j=>if j=k then 1 else 0
theorem AltM.row0 {n:Nat}{D:Mx->Int}(h:AltM (n+1) D)(A:Mx):D A=sumN (n+1) fun k=>A 0 k*D (setr A 0 (e1 k)):=by
 have key:∀m,D (setr A 0 fun j=>if j<m then A 0 j else 0)=sumN m fun k=>A 0 k*D (setr A 0 (e1 k)):=by
  intro m;induction m with
  |zero=>simp only[Nat.not_lt_zero,if_false,sumN];exact h.zero A (by omega)
  |succ m ih=>
   simp only[sumN];rw[<-ih,<-h.lin A 0 _ (e1 m) (A 0 m) (by omega)];congr 2
   funext j
   unfold e1;by_cases e:j=m
   ·subst e;simp
   ·rw[if_neg e,Int.mul_zero,Int.add_zero];by_cases e2:j<m
    ·rw[if_pos (by omega),if_pos e2]
    ·rw[if_neg (by omega),if_neg e2]
 rw[<-key (n+1)];exact h.ext _ _ fun i j hi hj=>by
  unfold setr;split
  ·rename_i e;rw[e];show A 0 j=if j<n+1 then A 0 j else 0;rw[if_pos hj]
  ·rfl
def ins (k:Nat)(N:Mx):Mx:=fun i j=>if i=0 then e1 k j else if j=k then 0 else N (i - 1) (un k j)
theorem p_6 {n k:Nat}{D:Mx->Int}(h:AltM (n+1) D)(hk:k<n+1):AltM n fun N=>D (ins k N) where
 ext M N he:=h.ext _ _ fun i j hi hj=>by
  unfold ins;by_cases e0:i=0
  ·rw[if_pos e0,if_pos e0]
  ·rw[if_neg e0,if_neg e0];by_cases ej:j=k
   ·rw[if_pos ej,if_pos ej]
   ·rw[if_neg ej,if_neg ej];exact he _ _ (by omega) (o_n ej hj hk)
 lin M i u v c hi:=by
  have e:∀w:Nat->Int,ins k (setr M i w)=setr (ins k M) (i+1) fun j=>if j=k then 0 else w (un k j):=fun w=>by
   funext i' j
   simp only[ins,setr];by_cases e0:i'=0
   ·rw[if_pos e0,if_neg (by omega),if_pos e0]
   ·rw[if_neg e0];by_cases e3:i'=i+1
    ·rw[if_pos e3];by_cases ej:j=k
     ·rw[if_pos ej,if_pos ej]
     ·rw[if_neg ej,if_neg ej,if_pos (by omega)]
    ·rw[if_neg e3,if_neg e0];by_cases ej:j=k
     ·rw[if_pos ej,if_pos ej]
     ·rw[if_neg ej,if_neg ej,if_neg (by omega)]
  rw[e,e,e,<-h.lin _ _ _ _ c (by omega)];congr 2
  funext j
  by_cases ej:j=k
  ·simp[ej]
  ·simp[ej]
 alt M i hi he:=h.alt _ (i+1) (by omega) fun j hj=>by
  unfold ins;rw[if_neg (show ¬i+1=0 by omega),if_neg (show ¬i+1+1=0 by omega)];by_cases ej:j=k
  ·rw[if_pos ej,if_pos ej]
  ·rw[if_neg ej,if_neg ej,show i+1 - 1=i by omega,show i+1+1 - 1=i+1 by omega];exact he _ (o_n ej hj hk)
theorem AltM.clear {n k:Nat}{D:Mx->Int}(h:AltM (n+1) D)(hk:k<n+1)(A:Mx):D (setr A 0 (e1 k))=D (ins k (minor A k)):=by
 have key:∀m,m<=n->D (setr A 0 (e1 k))=D (fun i j=>if i=0 then e1 k j else if i<=m/\j=k then 0 else A i j):=by
  intro m;induction m with
  |zero=>
   intro _;refine h.ext _ _ fun i j hi hj=>?_;unfold setr;by_cases e0:i=0
   ·rw[if_pos e0,if_pos e0]
   ·rw[if_neg e0,if_neg e0,if_neg (fun e=>e0 (by omega))]
  |succ m ih=>
   intro hm;rw[ih (by omega)];have e:=h.addrow (fun i j=>if i=0 then e1 k j else if i<=m/\j=k then 0 else A i j) (i:=m+1) (k:=0) (- A (m+1) k) (by omega) (by omega) (by omega);rw[<-e];refine h.ext _ _ fun i j hi hj=>?_;unfold setr;by_cases e0:i=m+1
   ·subst e0;simp only[if_true,if_neg (show ¬m+1=0 by omega),if_neg (show ¬(m+1<=m/\j=k) by omega)];unfold e1;by_cases ej:j=k
    ·subst ej;simp;omega
    ·simp[ej]
   ·simp only[if_neg e0];by_cases e2:i=0
    ·simp[e2]
    ·simp only[if_neg e2];by_cases e3:i<=m/\j=k
     ·rw[if_pos e3,if_pos ⟨by omega,e3.2⟩]
     ·rw[if_neg e3,if_neg (by omega)]
 rw[key n (Nat.le_refl _)];refine h.ext _ _ fun i j hi hj=>?_;unfold ins minor;by_cases e0:i=0
 ·rw[if_pos e0,if_pos e0]
 ·rw[if_neg e0,if_neg e0];by_cases ej:j=k
  ·rw[if_pos ⟨by omega,ej⟩,if_pos ej]
  ·rw[if_neg (fun e=>ej e.2),if_neg ej,h_b ej,show i - 1+1=i by omega]
def perm (k m:Nat):Mx:=fun i=>e1 (if i<m then i else if i=m then k else if i<=k then i - 1 else i)
theorem AltM.perm1 {n k:Nat}{D:Mx->Int}(h:AltM (n+1) D)(hk:k<n+1):∀m,m<=k->D (ins k one)=sgn m*D (perm k m)
 |0,_=>by
  simp only[sgn,Int.one_mul];refine h.ext _ _ fun i j hi hj=>?_;unfold ins perm one e1 un;repeat' split
  all_goals first|rfl|(exfalso;omega)
 |m+1,hm=>by
  rw[AltM.perm1 h hk m (by omega)];have e:=h.swap1 (perm k m) (i:=m) (by omega);have e2:D (perm k (m+1))=D (setr (setr (perm k m) m (perm k m (m+1))) (m+1) (perm k m m)):=h.ext _ _ fun i j hi hj=>by
   unfold setr perm;by_cases h1:i=m+1
   ·subst h1;simp
   ·by_cases h2:i=m
    ·subst h2;simp only[if_neg (show ¬i=i+1 by omega),if_true,if_pos (show i<i+1 by omega),if_neg (show ¬i+1<i by omega),if_neg (show ¬i+1=i by omega),if_pos hm,Nat.add_sub_cancel]
    ·simp only[if_neg h1,if_neg h2];by_cases h3:i<m
     ·rw[if_pos h3,if_pos (by omega)]
     ·rw[if_neg h3,if_neg (by omega)]
  rw[e2,e];simp only[sgn];grind
theorem AltM.perm {n k:Nat}{D:Mx->Int}(h:AltM (n+1) D)(hk:k<n+1):D (ins k one)=sgn k*D one:=by
 rw[h.perm1 hk k (Nat.le_refl _)];congr 1
 refine h.ext _ _ fun i j hi hj=>?_;unfold DT.perm one e1;repeat' split
 all_goals first|rfl|(exfalso;omega)
theorem alt_det:∀(n:Nat) (D:Mx->Int),AltM n D->∀A,D A=det n A*D one
 |0,D,h,A=>by rw[h.ext A one fun i j hi=>by omega];simp[det]
 |n+1,D,h,A=>by
  rw[h.row0 A,b_h,<-sum_mul'];refine sum_ext fun k hk=>?_;rw[h.clear hk A,alt_det n _ (p_6 h hk) (minor A k),h.perm hk];grind
theorem l_j (n:Nat)(M:Mx):det n (fun i j=>M j i)=det n M:=by
 have h:AltM n fun M=>det n fun i j=>M j i:=
  { ext:=fun M N he=>det_ext fun i j hi hj=>he j i hj hi
    lin:=fun M i u v c hi=>by
     have e:∀w:Nat->Int,(fun i' j=>setr M i w j i')=setc (fun i' j=>M j i') i w:=fun w=>by
      funext i' j;unfold setr setc;rfl
     rw[e,e,e];exact col_lin _ u v c hi
    alt:=fun M i hi he=>col_alt _ hi fun j hj=>he j hj }
 have:=alt_det n _ h M;rw[this,det_ext (M:=fun i j=>one j i) (N:=one) fun i j _ _=>by
  unfold one;by_cases e:j=i
  ·rw[if_pos e,if_pos e.symm]
  ·rw[if_neg e,if_neg (fun e2=>e e2.symm)],det_one,Int.mul_one]
theorem c_a (n:Nat):AltM n (det n) where
 ext M N he:=det_ext he
 lin M i u v c hi:=by
  have e:∀w:Nat->Int,det n (setr M i w)=det n (setc (fun i' j=>M j i') i w):=fun w=>by
   rw[<-l_j n (setr M i w)];congr 1
  rw[e,e,e];exact col_lin _ u v c hi
 alt M i hi he:=by
  rw[<-l_j n M];exact col_alt _ hi fun j hj=>he j hj
def mul (n:Nat)(A B:Mx):Mx:=fun i j=>sumN n fun k=>A i k*B k j
theorem det_mul (n:Nat)(A B:Mx):det n (mul n A B)=det n A*det n B:=by
 have h:AltM n fun A=>det n (mul n A B):=
  { ext:=fun M N he=>det_ext fun i j hi hj=>sum_ext fun k hk=>by rw[he i k hi hk]
    lin:=fun M i u v c hi=>by
     have e:∀w:Nat->Int,mul n (setr M i w) B=setr (mul n M B) i fun j=>sumN n fun k=>w k*B k j:=fun w=>by
      funext i' j;unfold mul setr;split<;>rfl
     rw[e,e,e,<-(c_a n).lin _ _ _ _ c hi];congr 2
     funext j
     rw[<-b_s,<-sum_add];exact sum_ext fun k _=>by grind
    alt:=fun M i hi he=>(c_a n).alt _ i hi fun j _=>sum_ext fun k hk=>by rw[he k hk] }
 rw[alt_det n _ h A];congr 1
 refine det_ext fun i j hi hj=>?_;unfold mul one;rw[sum_one hi fun k _ hk=>by rw[if_neg (fun e=>hk e.symm)];simp];simp
end DT
end
section
namespace DT
def idx (i m a:Nat):Nat:=if a<m then a else if a=m then i else if a<=i then a - 1 else a
theorem AltM.move {n:Nat}{D:Mx->Int}(h:AltM n D)(M:Mx){i:Nat}(hi:i<n):∀m,m<=i->D (fun a=>M (idx i 0 a))=sgn m*D (fun a=>M (idx i m a))
 |0,_=>by simp[sgn]
 |m+1,hm=>by
  rw[AltM.move h M hi m (by omega)];have e:=h.swap1 (fun a=>M (idx i m a)) (i:=m) (by omega);have e2:D (fun a=>M (idx i (m+1) a))=D (setr (setr (fun a=>M (idx i m a)) m (M (idx i m (m+1)))) (m+1) (M (idx i m m))):=h.ext _ _ fun a j ha hj=>by
   simp only[setr];by_cases h1:a=m+1
   ·subst h1;rw[if_pos rfl,show idx i (m+1) (m+1)=i by unfold idx;simp,show idx i m m=i by unfold idx;simp]
   ·rw[if_neg h1];by_cases h2:a=m
    ·subst h2;rw[if_pos rfl,show idx i (a+1) a=a by unfold idx;simp,show idx i a (a+1)=a by unfold idx;rw[if_neg (by omega),if_neg (by omega),if_pos hm];omega]
    ·rw[if_neg h2,show idx i (m+1) a=idx i m a by unfold idx;repeat' split
                                                  all_goals first|rfl|(exfalso;omega)]
  rw[e2,e];simp only[sgn];grind
theorem m_8 (i a:Nat):idx i i a=a:=by
 unfold idx;repeat' split
 all_goals omega
theorem m_7 (i a:Nat):idx i 0 (a+1)=skip i a:=by
 unfold idx skip;repeat' split
 all_goals omega
def minor2 (M:Mx)(i k:Nat):Mx:=fun a b=>M (skip i a) (skip k b)
theorem l_i (n:Nat)(M:Mx){i:Nat}(hi:i<n+1):det (n+1) M=sumN (n+1) fun k=>sgn (i+k)*M i k*det n (minor2 M i k):=by
 have e:=(c_a (n+1)).move M hi i (Nat.le_refl _);have e1:det (n+1) (fun a=>M (idx i i a))=det (n+1) M:=det_ext fun a b _ _=>by rw[m_8]
 rw[e1]at e;have e2:det (n+1) M=sgn i*det (n+1) fun a=>M (idx i 0 a):=by rw[e,<-Int.mul_assoc,k_b,Int.one_mul]
 rw[e2,b_h,<-b_s];refine sum_ext fun k hk=>?_;have e3:minor (fun a=>M (idx i 0 a)) k=minor2 M i k:=by
  funext a b;show M (idx i 0 (a+1)) (skip k b)=M (skip i a) (skip k b);rw[m_7]
 rw[e3,k_c,show idx i 0 0=i by unfold idx;simp];grind
def cof (n:Nat)(M:Mx)(i k:Nat):Int:=sgn (i+k)*det n (minor2 M i k)
theorem d_3 (n:Nat)(M:Mx){i:Nat}(hi:i<n+1):sumN (n+1) (fun k=>M i k*cof n M i k)=det (n+1) M:=by
 rw[l_i n M hi];exact sum_ext fun k _=>by unfold cof;grind
theorem e_r (n:Nat)(M:Mx){i r:Nat}(hi:i<n+1)(hr:r<n+1)(hne:r≠i):sumN (n+1) (fun k=>M r k*cof n M i k)=0:=by
 have e:=d_3 n (setr M i (M r)) hi;rw[(c_a (n+1)).same' _ hi hr (fun e=>hne e.symm) fun j _=>by unfold setr;rw[if_pos rfl,if_neg hne]]at e;rw[<-e];refine sum_ext fun k _=>?_;have e1:minor2 (setr M i (M r)) i k=minor2 M i k:=by
  funext a b;unfold minor2 setr;rw[if_neg (h_c i a)]
 unfold cof;rw[e1];unfold setr;rw[if_pos rfl]
theorem s_t (n:Nat)(M:Mx)(i k:Nat):cof n (fun a b=>M b a) i k=cof n M k i:=by
 unfold cof;rw[Nat.add_comm i k,<-l_j n (minor2 M k i)];rfl
theorem l_n (n:Nat)(M:Mx){j k:Nat}(hj:j<n+1)(hk:k<n+1):sumN (n+1) (fun a=>M a j*cof n M a k)=if j=k then det (n+1) M else 0:=by
 have e:sumN (n+1) (fun a=>M a j*cof n M a k)=sumN (n+1) fun a=>(fun a b=>M b a) j a*cof n (fun a b=>M b a) k a:=sum_ext fun a _=>by rw[s_t]
 rw[e];split
 ·rename_i e;subst e;exact(d_3 n (fun a b=>M b a) hj).trans (l_j _ _)
 ·rename_i h;exact e_r n (fun a b=>M b a) hk hj h
theorem j_5 (k m:Nat)(f:Nat->Int):sumN (k+m) f=sumN k f+sumN m fun l=>f (k+l):=by
 induction m with
 |zero=>simp[sumN]
 |succ m ih=>rw[<-Nat.add_assoc];simp only[sumN,ih];omega
theorem one_self (i:Nat):one i i=1:=by unfold one;rw[if_pos rfl]
theorem one_ne {i j:Nat}(h:i≠j):one i j=0:=by unfold one;rw[if_neg h]
end DT
end
section
namespace DT
theorem j_4 (n:Nat)(f g:Nat->Int):sumN n (fun k=>f k - g k)=sumN n f - sumN n g:=by
 induction n with
 |zero=>rfl
 |succ n ih=>simp only[sumN,ih];omega
theorem i_u (d:Int):∀m,det m (fun a b=>d*one a b)=d^m
 |0=>by rw[Int.pow_zero];rfl
 |m+1=>by
  rw[b_h,sum_one (i:=0) (by omega) fun k hk hne=>by rw[one_ne (fun e=>hne e.symm)];simp];rw[det_ext (N:=fun a b=>d*one a b) fun i j _ _=>by
   show d*one (i+1) (skip 0 j)=d*one i j
   rw[show skip 0 j=j+1 by unfold skip;simp];by_cases e:i=j
   ·subst e;rw[one_self,one_self]
   ·rw[one_ne e,one_ne (by omega)],i_u d m,one_self]
  show 1*(d*1)*d^m=d^(m+1)
  rw[Int.pow_succ];grind
theorem det_thin {n k:Nat}(hk:k<n)(X R:Mx):det n (fun i j=>sumN k fun a=>X i a*R a j)=0:=by
 have e:det n (fun i j=>sumN k fun a=>X i a*R a j)=det n (mul n (fun i a=>if a<k then X i a else 0) R):=det_ext fun i j hi hj=>by
  unfold mul;rw[show n=k+(n - k) by omega,j_5,sum_zero (n:=n - k) fun l hl=>by dsimp only;rw[if_neg (by omega)];simp];rw[Int.add_zero];exact sum_ext fun a ha=>by dsimp only;rw[if_pos ha]
 rw[e,det_mul,<-l_j];have e2:=(c_a n).zero (fun i j=>if i<k then X j i else 0) (i:=n - 1) (by omega);rw[det_ext (N:=setr (fun i j=>if i<k then X j i else 0) (n - 1) fun _=>0) fun i j hi hj=>by
  unfold setr;by_cases h:i=n - 1
  ·rw[if_pos h,if_neg (by omega)]
  ·rw[if_neg h],e2,Int.zero_mul]
theorem l_h (d:Int)(M:Mx)(n:Nat):det n (fun i j=>d*M i j)=d^n*det n M:=by
 rw[<-i_u,<-det_mul];refine det_ext fun i j hi hj=>?_;unfold mul;rw[sum_one (i:=i) hi fun l hl hne=>by dsimp only;rw[one_ne (fun e=>hne e.symm)];simp];dsimp only;rw[one_self,Int.mul_one]
theorem n_z {d:Int}(h:d≠0):∀n:Nat,d^n≠0
 |0=>by simp
 |n+1=>by rw[Int.pow_succ];exact Int.mul_ne_zero (n_z h n) h
end DT
end
section
namespace DT
variable {R C:Nat}{M N H K:Mx}{u v:Nat->Int}
def fst:Nat->(Nat->Int)->Nat
 |0,_=>0
 |C+1,u=>if fst C u<C then fst C u else if u C=0 then C+1 else C
theorem fst_le:∀(C:Nat) (u:Nat->Int),fst C u<=C
 |0,_=>Nat.le_refl _
 |C+1,u=>by
  have:=fst_le C u;simp only[fst];repeat' split
  all_goals omega
theorem fst_zero:∀ {C:Nat} {u:Nat->Int} {j:Nat},j<fst C u->u j=0
 |0,_,_,h=>absurd h (Nat.not_lt_zero _)
 |C+1,u,j,h=>by
  have h1:=fst_le C u;simp only[fst]at h;split at h
  ·exact fst_zero h
  ·split at h
   ·by_cases e:j=C
    ·subst e;assumption
    ·exact fst_zero (C:=C) (by omega)
   ·exact fst_zero (C:=C) (by omega)
theorem fst_ne:∀ {C:Nat} {u:Nat->Int},fst C u<C->u (fst C u)≠0
 |0,_,h=>absurd h (Nat.not_lt_zero _)
 |C+1,u,h=>by
  simp only[fst]at h ⊢;split
  ·rename_i h1;exact fst_ne h1
  ·rename_i h1;rw[if_neg h1]at h;split
   ·rename_i h2;rw[if_pos h2]at h;omega
   ·assumption
theorem fst_of {C k:Nat}{u:Nat->Int}(hk:k<C)(h0:∀j,j<k->u j=0)(h1:u k≠0):fst C u=k:=by
 rcases Nat.lt_trichotomy (fst C u) k with h|h|h
 ·exact absurd (h0 _ h) (fst_ne (by omega))
 ·exact h
 ·exact absurd (fst_zero h) h1
theorem fst_none {C:Nat}{u:Nat->Int}(h:∀j,j<C->u j=0):fst C u=C:=by
 rcases Nat.lt_or_ge (fst C u) C with h1|h1
 ·exact absurd (h _ h1) (fst_ne h1)
 ·have:=fst_le C u;omega
theorem fst_ext {C:Nat}{u v:Nat->Int}(h:∀j,j<C->u j=v j):fst C u=fst C v:=by
 rcases Nat.lt_or_ge (fst C v) C with h1|h1
 ·exact fst_of h1 (fun j hj=>by rw[h j (by omega)];exact fst_zero hj) (by rw[h _ h1];exact fst_ne h1)
 ·have h2:=fst_le C v;rw[show fst C v=C by omega];exact fst_none fun j hj=>by rw[h j hj];exact fst_zero (C:=C) (by omega)
theorem row_zero {C:Nat}{u:Nat->Int}(h:¬fst C u<C){j:Nat}(hj:j<C):u j=0:=fst_zero (C:=C) (by have:=fst_le C u;omega)
def Lat (R C:Nat)(M:Mx)(v:Nat->Int):Prop:=∃x:Nat->Int,∀j,j<C->v j=sumN R fun i=>x i*M i j
theorem Lat.row (R C:Nat)(M:Mx){i:Nat}(hi:i<R):Lat R C M (M i):=
 ⟨fun a=>if a=i then 1 else 0,fun j _=>by
  rw[sum_one hi fun l _ hne=>by dsimp only;rw[if_neg hne];simp];dsimp only;rw[if_pos rfl,Int.one_mul]⟩
theorem Lat.zero (R C:Nat)(M:Mx):Lat R C M fun _=>0:=⟨fun _=>0,fun j _=>(sum_zero fun _ _=>by simp).symm⟩
theorem Lat.add (h:Lat R C M u)(h2:Lat R C M v):Lat R C M fun j=>u j+v j:=by
 obtain⟨x,hx⟩:=h;obtain⟨y,hy⟩:=h2;exact⟨fun i=>x i+y i,fun j hj=>by
  dsimp only;rw[hx j hj,hy j hj,<-sum_add];exact sum_ext fun i _=>by grind⟩
theorem Lat.smul (h:Lat R C M u)(c:Int):Lat R C M fun j=>c*u j:=by
 obtain⟨x,hx⟩:=h;exact⟨fun i=>c*x i,fun j hj=>by dsimp only;rw[hx j hj,<-b_s];exact sum_ext fun i _=>by grind⟩
theorem Lat.sub (h:Lat R C M u)(h2:Lat R C M v):Lat R C M fun j=>u j - v j:=by
 obtain⟨x,hx⟩:=h;obtain⟨y,hy⟩:=h2;exact⟨fun i=>x i - y i,fun j hj=>by
  dsimp only;rw[hx j hj,hy j hj,<-j_4];exact sum_ext fun i _=>by grind⟩
theorem Lat.ext (h:Lat R C M u)(e:∀j,j<C->v j=u j):Lat R C M v:=by
 obtain⟨x,hx⟩:=h;exact⟨x,fun j hj=>(e j hj).trans (hx j hj)⟩
theorem Lat.within {R S C:Nat}{M N:Mx}(h:∀i,i<R->Lat S C N (M i)){v:Nat->Int}(hv:Lat R C M v):Lat S C N v:=by
 obtain⟨x,hx⟩:=hv;suffices h2:∀n,n<=R->Lat S C N fun j=>sumN n fun i=>x i*M i j from(h2 R (Nat.le_refl _)).ext hx
 intro n;induction n with
 |zero=>intro _;exact Lat.zero S C N
 |succ n ih=>intro hn;exact(ih (by omega)).add ((h n (by omega)).smul (x n))
theorem unim {n:Nat}{U:Mx}(h:det n U=1\/det n U= -1):∃V:Mx,(∀i j,i<n->j<n->mul n V U i j=one i j)/\∀i j,i<n->j<n->mul n U V i j=one i j:=by
 cases n with
 |zero=>exact⟨one,fun i j h=>by omega,fun i j h=>by omega⟩
 |succ n=>
  have hd:det (n+1) U*det (n+1) U=1:=by rcases h with h|h<;>rw[h]<;>rfl
  refine⟨fun i j=>det (n+1) U*cof n U j i,fun i j hi hj=>?_,fun i j hi hj=>?_⟩
  ·unfold mul;rw[sum_ext (g:=fun k=>det (n+1) U*(U k j*cof n U k i)) fun k _=>by grind];rw[b_s,l_n n U hj hi];unfold one;by_cases e:i=j
   ·rw[if_pos e.symm,if_pos e,hd]
   ·rw[if_neg fun e2=>e e2.symm,if_neg e,Int.mul_zero]
  ·unfold mul;rw[sum_ext (g:=fun k=>det (n+1) U*(U i k*cof n U j k)) fun k _=>by grind];rw[b_s];unfold one;by_cases e:i=j
   ·subst e;rw[d_3 n U hi,if_pos rfl,hd]
   ·rw[e_r n U hj hi e,if_neg e,Int.mul_zero]
structure Herm (R C:Nat) (M:Mx):Prop where
 up:∀i,i+1<R->fst C (M (i+1))<C->fst C (M i)<fst C (M (i+1))
 pos:∀i,i<R->fst C (M i)<C->0<M i (fst C (M i))
 red:∀i,i<R->fst C (M i)<C->∀r,r<i->0<=M r (fst C (M i))/\M r (fst C (M i))<M i (fst C (M i))
def Steps (R C:Nat)(M:Mx):Prop:=∀i l,i<l->l<R->fst C (M l)<C->fst C (M i)<fst C (M l)
theorem Herm.steps (h:Herm R C M):Steps R C M:=fun i l hil hl hC=>by
 induction l with
 |zero=>omega
 |succ l ih=>
  have h1:=h.up l hl hC;by_cases e:i=l
  ·subst e;exact h1
  ·exact Nat.lt_trans (ih (by omega) (by omega) (by omega)) h1
theorem m_z {P:Nat->Prop}{n:Nat}:(∃i,i<n/\P i)->∃i,i<n/\P i/\∀l,l<i->¬P l:=by
 induction n with
 |zero=>rintro⟨i,h,_⟩;omega
 |succ n ih=>
  rintro⟨i,hi,hP⟩;by_cases h:∃i,i<n/\P i
  ·obtain⟨i,h1,h2⟩:=ih h;exact⟨i,by omega,h2⟩
  ·have e:i=n:=by
    rcases Nat.lt_or_ge i n with h1|h1
    ·exact absurd ⟨i,h1,hP⟩ h
    ·omega
   exact⟨i,hi,hP,fun l hl hp=>h ⟨l,by omega,hp⟩⟩
theorem Steps.lead (h:Steps R C M){x v:Nat->Int}(hv:∀j,j<C->v j=sumN R fun i=>x i*M i j)(hne:fst C v<C):
  ∃i,i<R/\fst C (M i)=fst C v/\x i≠0/\v (fst C v)=x i*M i (fst C v):=by
 have h1:∃i,i<R/\(fst C (M i)<C/\x i≠0):=by
  refine Classical.byContradiction fun hn=>?_;refine absurd ?_ (fst_ne hne);rw[hv _ hne];refine sum_zero fun i hi=>?_;by_cases e:x i=0
  ·rw[e,Int.zero_mul]
  ·rw[row_zero (fun h2=>hn ⟨i,hi,h2,e⟩) hne,Int.mul_zero]
 obtain⟨i,hi,⟨hC,hx⟩,hl⟩:=m_z h1;have h2:∀l,l<R->∀j,j<=fst C (M i)->(l<i\/i<l)->x l*M l j=0:=fun l hlR j hj hlt=>by
  rcases hlt with h3|h3
  ·by_cases e:x l=0
   ·rw[e,Int.zero_mul]
   ·rw[row_zero (fun h4=>hl l h3 ⟨h4,e⟩) (by omega),Int.mul_zero]
  ·by_cases h4:fst C (M l)<C
   ·rw[fst_zero (C:=C) (u:=M l) (by have:=h i l h3 hlR h4;omega),Int.mul_zero]
   ·rw[row_zero h4 (by omega),Int.mul_zero]
 have h3:v (fst C (M i))=x i*M i (fst C (M i)):=by
  rw[hv _ hC,sum_one hi fun l hlR hne=>h2 l hlR _ (Nat.le_refl _) (by omega)]
 have h4:fst C v=fst C (M i):=fst_of hC (fun j hj=>by
  rw[hv j (by omega)];refine sum_zero fun l hlR=>?_;by_cases e:l=i
  ·subst e;rw[fst_zero hj,Int.mul_zero]
  ·exact h2 l hlR j (by omega) (by omega)) (by rw[h3];exact Int.mul_ne_zero hx (fst_ne hC))
 exact⟨i,hi,h4.symm,hx,by rw[h4];exact h3⟩
theorem Steps.inj (h:Steps R C M){i l:Nat}(hi:i<R)(hl:l<R)(hC:fst C (M i)<C)(e:fst C (M i)=fst C (M l)):i=l:=by
 rcases Nat.lt_trichotomy i l with h1|h1|h1
 ·have:=h i l h1 hl (by omega);omega
 ·exact h1
 ·have:=h l i h1 hi hC;omega
theorem e_c (hH:Steps R C H)(hK:Steps R C K)(e:∀v,Lat R C K v->Lat R C H v){i:Nat}(hi:i<R)(hC:fst C (K i)<C):
  ∃m,m<R/\fst C (H m)=fst C (K i)/\∃c,K i (fst C (K i))=c*H m (fst C (K i)):=by
 obtain⟨x,hx⟩:=e _ (Lat.row R C K hi);obtain⟨m,h1,h2,h3,h4⟩:=hH.lead hx hC;exact⟨m,h1,h2,x m,h4⟩
theorem h_7 (hH:Steps R C H)(hK:Steps R C K)(e:∀v,Lat R C H v->Lat R C K v){i:Nat}(hi:i<R)(ih:∀l,l<i->fst C (H l)=fst C (K l)):fst C (K i)<=fst C (H i):=by
 by_cases hC:fst C (H i)<C
 ·obtain⟨m,h1,h2,_⟩:=e_c hK hH e hi hC;rcases Nat.lt_trichotomy m i with h3|h3|h3
  ·have:=ih m h3;have:=hH m i h3 hi hC;omega
  ·subst h3;omega
  ·have:=hK i m h3 h1 (by omega);omega
 ·have:=fst_le C (K i);omega
theorem i_2 (hH:Steps R C H)(hK:Steps R C K)(e:∀v,Lat R C H v↔Lat R C K v):∀i,i<R->fst C (H i)=fst C (K i):=by
 intro i;induction i using Nat.strongRecOn with
 |_ i ih=>
  intro hi;have h1:=h_7 hH hK (fun v h=>(e v).1 h) hi fun l hl=>ih l hl (by omega);have h2:=h_7 hK hH (fun v h=>(e v).2 h) hi fun l hl=>(ih l hl (by omega)).symm;omega
theorem herm_uniq (hH:Herm R C H)(hK:Herm R C K)(e:∀v,Lat R C H v↔Lat R C K v):∀i j,i<R->j<C->H i j=K i j:=by
 have hp:=i_2 hH.steps hK.steps e;have hval:∀i,i<R->fst C (H i)<C->H i (fst C (H i))=K i (fst C (H i)):=fun i hi hC=>by
  obtain⟨m,h1,h2,c,h3⟩:=e_c hK.steps hH.steps (fun v h=>(e v).1 h) hi hC;obtain⟨m',h1',h2',c',h3'⟩:=e_c hH.steps hK.steps (fun v h=>(e v).2 h) hi (by rw[<-hp i hi];exact hC);have e1:i=m:=hH.steps.inj hi h1 hC (by rw[hp m h1,h2]);have e2:i=m':=hH.steps.inj hi h1' hC (by rw[h2',hp i hi]);subst e1;subst e2;rw[<-hp i hi]at h3';have p1:=hH.pos i hi hC;have p2:=hK.pos i hi (by rw[<-hp i hi];exact hC);rw[<-hp i hi]at p2;have d1:K i (fst C (H i))∣H i (fst C (H i)):=⟨c,by rw[h3,Int.mul_comm]⟩;have d2:H i (fst C (H i))∣K i (fst C (H i)):=⟨c',by rw[h3',Int.mul_comm]⟩;have l1:=Int.le_of_dvd p1 d1;have l2:=Int.le_of_dvd p2 d2;omega
 intro i j hi hj;refine Classical.byContradiction fun hne=>?_;obtain⟨x,hx⟩:=(Lat.row R C H hi).sub ((e _).2 (Lat.row R C K hi));have hC:fst C (fun j=>H i j - K i j)<C:=by
  rcases Nat.lt_or_ge (fst C fun j=>H i j - K i j) C with h|h
  ·exact h
  ·have:=row_zero (C:=C) (u:=fun j=>H i j - K i j) (by omega) hj;omega
 obtain⟨m,h1,h2,h3,h4⟩:=hH.steps.lead hx hC;have h5:=fst_ne hC;rw[<-h2]at h4 h5;have hCm:fst C (H m)<C:=by omega
 rcases Nat.lt_trichotomy m i with h6|h6|h6
 ·have z1:H i (fst C (H m))=0:=by
   by_cases h7:fst C (H i)<C
   ·exact fst_zero (C:=C) (hH.steps m i h6 hi h7)
   ·exact row_zero h7 hCm
  have z2:K i (fst C (H m))=0:=by
   rw[hp m h1]at hCm ⊢;by_cases h7:fst C (K i)<C
   ·exact fst_zero (C:=C) (hK.steps m i h6 hi h7)
   ·exact row_zero h7 hCm
  omega
 ·subst h6;have:=hval m hi hCm;omega
 ·have r1:=hH.red m h1 hCm i h6;have r2:=hK.red m h1 (by rw[<-hp m h1];exact hCm) i h6;rw[<-hp m h1,<-hval m h1 hCm]at r2;have d:H m (fst C (H m))∣H i (fst C (H m)) - K i (fst C (H m)):=⟨x m,by rw[h4,Int.mul_comm]⟩;have d2:=Int.eq_zero_of_dvd_of_natAbs_lt_natAbs d (by omega);omega
end DT
end
section
namespace DT
theorem q_z {n:Nat}{f g:Nat->Int}(h:∀k,k<n->f k<=g k):sumN n f<=sumN n g:=by
 induction n with
 |zero=>exact Int.le_refl _
 |succ n ih=>simp only[sumN];have:=ih fun k hk=>h k (by omega);have:=h n (by omega);omega
theorem i_1 {n:Nat}{f:Nat->Int}(h:∀k,k<n->0<=f k):0<=sumN n f:=by
 have:=q_z (f:=fun _=>0) h;rwa [sum_zero fun _ _=>rfl]at this
def prodN:Nat->(Nat->Int)->Int
 |0,_=>1
 |n+1,f=>prodN n f*f n
end DT
end
section
namespace DT
variable {R C:Nat}{M N H K:Mx}{u v:Nat->Int}
structure Inc (k n:Nat) (f:Nat->Nat):Prop where
 up:∀i,i+1<k->f i<f (i+1)
 lt:∀i,i<k->f i<n
def sw (i:Nat)(f:Nat->Nat):Nat->Nat:=fun a=>if a=i then f (i+1)else if a=i+1 then f i else f a
def mu (k:Nat)(f:Nat->Nat):Int:=sumN k fun i=>((k:Int) - i)*f i
theorem g_l (k:Nat)(f:Nat->Nat):0<=mu k f:=i_1 fun i hi=>Int.mul_nonneg (by omega) (by omega)
theorem r_h {k:Nat}(f:Nat->Nat){i:Nat}(hi:i+1<k)(h:f (i+1)<f i):mu k (sw i f)<mu k f:=by
 have e:mu k f - mu k (sw i f)=(f i:Int) - f (i+1):=by
  unfold mu;rw[<-j_4,j_3 (i:=i) (j:=i+1) (by omega) hi fun a ha h1 h2=>by unfold sw;rw[if_neg h1,if_neg h2];omega];unfold sw;rw[if_pos rfl,if_neg (by omega),if_pos rfl];rw[show((i+1:Nat):Int)=i+1 by omega];grind
 omega
theorem sortP {k n:Nat}(P:(Nat->Nat)->Prop)(h0:∀f,Inc k n f->P f)(heq:∀f i,i+1<k->f i=f (i+1)->P f)(hsw:∀f i,i+1<k->P (sw i f)->P f):∀f:Nat->Nat,(∀i,i<k->f i<n)->P f:=by
 suffices h:∀(m:Nat) f,(mu k f).toNat<=m->(∀i,i<k->f i<n)->P f from fun f hf=>h _ f (Nat.le_refl _) hf
 intro m;induction m with
 |zero=>
  intro f hm hf;by_cases h1:∃i,i+1<k/\f (i+1)<=f i
  ·obtain⟨i,hi,hle⟩:=h1;by_cases he:f i=f (i+1)
   ·exact heq f i hi he
   ·have:=r_h f hi (by omega);have:=g_l k (sw i f);omega
  ·exact h0 f ⟨fun i hi=>by
    rcases Nat.lt_or_ge (f i) (f (i+1))with h|h
    ·exact h
    ·exact absurd ⟨i,hi,h⟩ h1,hf⟩
 |succ m ih=>
  intro f hm hf;by_cases h1:∃i,i+1<k/\f (i+1)<=f i
  ·obtain⟨i,hi,hle⟩:=h1;by_cases he:f i=f (i+1)
   ·exact heq f i hi he
   ·refine hsw f i hi (ih (sw i f) ?_ fun a ha=>?_)
    ·have:=r_h f hi (by omega);have:=g_l k (sw i f);omega
    ·unfold sw;repeat' split
     ·exact hf _ hi
     ·exact hf _ (by omega)
     ·exact hf a ha
  ·exact h0 f ⟨fun i hi=>by
    rcases Nat.lt_or_ge (f i) (f (i+1))with h|h
    ·exact h
    ·exact absurd ⟨i,hi,h⟩ h1,hf⟩
theorem n_o {k n:Nat}{g:Int}(M:Mx)(h:∀f:Nat->Nat,Inc k n f->g∣det k fun i j=>M (f i) j):∀f:Nat->Nat,(∀i,i<k->f i<n)->g∣det k fun i j=>M (f i) j:=by
 refine sortP _ h (fun f i hi he=>?_) (fun f i hi hP=>?_)
 ·rw[(c_a k).same' _ (i:=i) (k:=i+1) (by omega) hi (by omega) fun j _=>by rw[he]];exact Int.dvd_zero g
 ·have e:=(c_a k).swap1 (fun a j=>M (f a) j) (i:=i) hi;have e2:det k (fun a j=>M (sw i f a) j)=det k (setr (setr (fun a j=>M (f a) j) i fun j=>M (f (i+1)) j) (i+1) fun j=>M (f i) j):=det_ext fun a j ha hj=>by
   unfold sw setr;by_cases h1:a=i+1
   ·subst h1;rw[if_neg (by omega),if_pos rfl,if_pos rfl]
   ·by_cases h2:a=i
    ·subst h2;rw[if_pos rfl,if_neg h1,if_pos rfl]
    ·rw[if_neg h2,if_neg h1,if_neg h1,if_neg h2]
  rw[e2,e]at hP;exact(Int.dvd_neg).mp hP
theorem AltM.rowsum {n:Nat}{D:Mx->Int}(h:AltM n D)(A:Mx){i:Nat}(hi:i<n)(x:Nat->Int)(M:Mx):∀m,D (setr A i fun j=>sumN m fun l=>x l*M l j)=sumN m fun l=>x l*D (setr A i (M l))
 |0=>h.zero A hi
 |m+1=>by
  simp only[sumN];rw[h.add A _ _ hi,AltM.rowsum h A hi x M m,h.smul A _ _ hi]
theorem p_n {k:Nat}{g:Int}(X M:Mx)(h:∀f:Nat->Nat,(∀i,i<k->f i<R)->g∣det k fun i j=>M (f i) j):g∣det k (mul R X M):=by
 by_cases hR:R=0
 ·subst hR;cases k with
  |zero=>have:=h (fun _=>0) (fun i hi=>by omega);exact this
  |succ k=>
   have e:det (k+1) (mul 0 X M)=det (k+1) (setr (mul 0 X M) 0 fun _=>0):=det_ext fun i j _ _=>by unfold setr mul;split<;>rfl
   rw[e,(c_a (k+1)).zero _ (by omega)];exact Int.dvd_zero g
 suffices h2:∀t,t<=k->∀f:Nat->Nat,(∀i,i<k->f i<R)->g∣det k fun i j=>if i<t then mul R X M i j else M (f i) j by
  have:=h2 k (Nat.le_refl _) (fun _=>0) fun _ _=>by omega
  rwa [det_ext fun i j hi hj=>if_pos hi]at this
 intro t;induction t with
 |zero=>intro _ f hf;rw[det_ext fun i j hi hj=>if_neg (by omega)];exact h f hf
 |succ t ih=>
  intro ht f hf;have e:det k (fun i j=>if i<t+1 then mul R X M i j else M (f i) j)=det k (setr (fun i j=>if i<t then mul R X M i j else M (f i) j) t fun j=>sumN R fun l=>X t l*M l j):=det_ext fun i j hi hj=>by
   unfold setr;by_cases h1:i=t
   ·subst h1;rw[if_pos (by omega),if_pos rfl];rfl
   ·rw[if_neg h1];dsimp only;by_cases h2:i<t
    ·rw[if_pos h2,if_pos (by omega)]
    ·rw[if_neg h2,if_neg (by omega)]
  rw[e,(c_a k).rowsum _ (by omega)];have h3:∀n,n<=R->g∣sumN n fun l=>X t l*det k (setr (fun i j=>if i<t then mul R X M i j else M (f i) j) t (M l)):=by
   intro n;induction n with
   |zero=>intro _;exact Int.dvd_zero g
   |succ n ihn=>
    intro hn;refine Int.dvd_add (ihn (by omega)) (Int.dvd_trans ?_ (Int.dvd_mul_left _ _));have h4:=ih (by omega) (fun a=>if a=t then n else f a) fun i hi=>by
     split
     ·omega
     ·exact hf i hi
    rw[det_ext (N:=fun i j=>if i<t then mul R X M i j else M (if i=t then n else f i) j) fun i j hi hj=>by
     unfold setr;by_cases h1:i=t
     ·subst h1;rw[if_pos rfl,if_neg (by omega),if_pos rfl]
     ·rw[if_neg h1,if_neg h1]]
    exact h4
  exact h3 R (Nat.le_refl _)
theorem det_tri:∀(n:Nat) (M:Mx),(∀i j,i<n->j<n->j<i->M i j=0)->det n M=prodN n fun i=>M i i:=by
 intro n;induction n with
 |zero=>intro M _;rfl
 |succ n ih=>
  intro M h0;rw[l_i n M (i:=n) (by omega),sum_one (i:=n) (by omega) fun k hk hne=>by rw[h0 n k (by omega) hk (by omega)];simp];rw[show sgn (n+n)=1 by rw[k_c,k_b],Int.one_mul,Int.mul_comm];show _=prodN n (fun i=>M i i)*M n n
  congr 1
  rw[det_ext (N:=M) fun i j hi hj=>by unfold minor2 skip;rw[if_pos hi,if_pos hj]];exact ih M fun i j hi hj=>h0 i j (by omega) (by omega)
theorem prod_ext {n:Nat}{f g:Nat->Int}(h:∀k,k<n->f k=g k):prodN n f=prodN n g:=by
 induction n with
 |zero=>rfl
 |succ n ih=>simp only[prodN];rw[ih fun k hk=>h k (by omega),h n (by omega)]
theorem prod_ne {n:Nat}{f:Nat->Int}(h:∀k,k<n->f k≠0):prodN n f≠0:=by
 induction n with
 |zero=>exact Int.one_ne_zero
 |succ n ih=>exact Int.mul_ne_zero (ih fun k hk=>h k (by omega)) (h n (by omega))
end DT
end
end Go.Proofs.YtfhbdlegkdbmfaaGreat
