/- Ph13 -/
import Derived.KernelRfl
set_option linter.unusedVariables false
set_option linter.unusedSimpArgs false
set_option linter.unusedSectionVars false
set_option maxRecDepth 100000
set_option maxHeartbeats 8000000
namespace Go.Proofs.YtgohglhefhocgaaGreat
section
namespace DT
def sumN:Nat→(Nat→Int)→Int
 |0,_=>0
 |n+1,f=>sumN n f+f n
theorem sum_ext {n:Nat}{f g:Nat→Int}(h:∀k,k<n→f k=g k):sumN n f=sumN n g:=by
 induction n with
 |zero=>rfl
 |succ n ih=>simp only[sumN];rw[ih fun k hk=>h k (by omega),h n (by omega)]
theorem f_2 (n:Nat)(f g:Nat→Int):sumN n (fun k=>f k+g k)=sumN n f+sumN n g:=by
 induction n with
 |zero=>rfl
 |succ n ih=>simp only[sumN,ih];omega
theorem b_v (n:Nat)(c:Int)(f:Nat→Int):sumN n (fun k=>c*f k)=c*sumN n f:=by
 induction n with
 |zero=>simp[sumN]
 |succ n ih=>simp only[sumN,ih,Int.mul_add]
theorem sum_mul' (n:Nat)(c:Int)(f:Nat→Int):sumN n (fun k=>f k*c)=sumN n f*c:=by
 induction n with
 |zero=>simp[sumN]
 |succ n ih=>simp only[sumN,ih,Int.add_mul]
theorem b_9 {n:Nat}{f:Nat→Int}(h:∀k,k<n→f k=0):sumN n f=0:=by
 induction n with
 |zero=>rfl
 |succ n ih=>simp only[sumN];rw[ih fun k hk=>h k (by omega),h n (by omega)];rfl
theorem sum_one {n i:Nat}(hi:i<n){f:Nat→Int}(h:∀k,k<n→k≠i→f k=0):sumN n f=f i:=by
 induction n with
 |zero=>omega
 |succ n ih=>
  simp only[sumN];by_cases e:i=n
  ·subst e;rw[b_9 fun k hk=>h k (by omega) (by omega)];omega
  ·rw[ih (by omega) fun k hk hne=>h k (by omega) hne,h n (by omega) (fun e2=>e e2.symm)];omega
theorem k_4 {n i j:Nat}(hij:i<j)(hj:j<n){f:Nat→Int}(h:∀k,k<n→k≠i→k≠j→f k=0):sumN n f=f i+f j:=by
 induction n with
 |zero=>omega
 |succ n ih=>
  simp only[sumN];by_cases e:j=n
  ·subst e;rw[sum_one hij fun k hk hne=>h k (by omega) hne (by omega)]
  ·rw[ih (by omega) fun k hk h1 h2=>h k (by omega) h1 h2,h n (by omega) (by omega) (fun e2=>e e2.symm)];omega
theorem i_x (n m:Nat)(f:Nat→Nat→Int):sumN n (fun i=>sumN m fun j=>f i j)=sumN m fun j=>sumN n fun i=>f i j:=by
 induction n with
 |zero=>simp only[sumN];exact(b_9 fun _ _=>rfl).symm
 |succ n ih=>simp only[sumN];rw[ih,←f_2]
def sgn:Nat→Int
 |0=>1
 |k+1=>- sgn k
theorem l_d (k:Nat):sgn k*sgn k=1:=by
 induction k with
 |zero=>rfl
 |succ k ih=>simp only[sgn];rw[Int.neg_mul_neg];exact ih
theorem l_e (a b:Nat):sgn (a+b)=sgn a*sgn b:=by
 induction b with
 |zero=>simp[sgn]
 |succ b ih=>rw[←Nat.add_assoc];simp only[sgn,ih];rw[Int.mul_neg]
abbrev Mx:=Nat→Nat→Int
def skip (k j:Nat):Nat:=if j<k then j else j+1
def un (k j:Nat):Nat:=if j<k then j else j - 1
theorem k_9 {k j n:Nat}(hj:j<n):skip k j<n+1:=by unfold skip;split<;>omega
theorem h_3 (k j:Nat):skip k j≠k:=by unfold skip;split<;>omega
theorem h_2 {k j:Nat}(h:j≠k):skip k (un k j)=j:=by
 unfold skip un;by_cases h1:j<k
 ·rw[if_pos h1,if_pos h1]
 ·rw[if_neg h1,if_neg (by omega)];omega
theorem p_x (k j:Nat):un k (skip k j)=j:=by
 unfold skip un;by_cases h1:j<k
 ·rw[if_pos h1,if_pos h1]
 ·rw[if_neg h1,if_neg (by omega)];omega
theorem p_y {k j n:Nat}(h:j≠k)(hj:j<n+1)(hk:k<n+1):un k j<n:=by unfold un;split<;>omega
def minor (M:Mx)(k:Nat):Mx:=fun i j=>M (i+1) (skip k j)
def det:Nat→Mx→Int
 |0,_=>1
 |n+1,M=>sumN (n+1) fun k=>sgn k*M 0 k*det n (minor M k)
theorem b_j (n:Nat)(M:Mx):det (n+1) M=sumN (n+1) fun k=>sgn k*M 0 k*det n (minor M k):=rfl
theorem det_ext:∀ {n:Nat} {M N:Mx},(∀i j,i<n→j<n→M i j=N i j)→det n M=det n N
 |0,_,_,_=>rfl
 |n+1,M,N,h=>by
  rw[b_j,b_j];refine sum_ext fun k hk=>?_;rw[h 0 k (by omega) hk,det_ext (M:=minor M k) (N:=minor N k) fun i j hi hj=>h (i+1) (skip k j) (by omega) (k_9 hj)]
def one:Mx:=fun i j=>if i=j then 1 else 0
theorem det_one:∀n,det n one=1
 |0=>rfl
 |n+1=>by
  rw[b_j,sum_one (i:=0) (by omega) fun k _ hk=>by unfold one;rw[if_neg (fun e=>hk e.symm)];simp];rw[det_ext (N:=one) fun i j _ _=>by unfold minor one skip;simp,det_one n];rfl
def setc (M:Mx)(j:Nat)(u:Nat→Int):Mx:=fun i j'=>if j'=j then u i else M i j'
theorem b_w (M:Mx)(j:Nat)(u:Nat→Int):minor (setc M j u) j=minor M j:=by
 funext i c;unfold minor setc;rw[if_neg (h_3 j c)]
theorem c_d (M:Mx){j k:Nat}(u:Nat→Int)(h:j≠k):minor (setc M j u) k=setc (minor M k) (un k j) fun i=>u (i+1):=by
 funext i c
 unfold minor setc;by_cases e:c=un k j
 ·rw[if_pos (by rw[e,h_2 h]),if_pos e]
 ·rw[if_neg (fun e2=>e (by rw[←e2,p_x])),if_neg e]
theorem col_lin:∀ {n:Nat} (M:Mx) {j:Nat} (u v:Nat→Int) (c:Int),j<n→det n (setc M j fun i=>u i+c*v i)=det n (setc M j u)+c*det n (setc M j v)
 |0,_,_,_,_,_,h=>by omega
 |n+1,M,j,u,v,c,h=>by
  rw[b_j,b_j,b_j,←b_v,←f_2];refine sum_ext fun k hk=>?_;by_cases e:k=j
  ·subst e;rw[b_w,b_w,b_w];simp only[setc,if_true];grind
  ·rw[c_d M _ (fun e2=>e e2.symm),c_d M _ (fun e2=>e e2.symm),c_d M _ (fun e2=>e e2.symm),col_lin (minor M k) (fun i=>u (i+1)) (fun i=>v (i+1)) c (p_y (fun e2=>e e2.symm) h hk)];simp only[setc,if_neg e];grind
theorem col_alt:∀ {n:Nat} (M:Mx) {j:Nat},j+1<n→(∀i,i<n→M i j=M i (j+1))→det n M=0
 |0,_,_,h,_=>by omega
 |n+1,M,j,h,he=>by
  rw[b_j,k_4 (i:=j) (j:=j+1) (by omega) h fun k hk h1 h2=>?_]
  ·have e:det n (minor M j)=det n (minor M (j+1)):=det_ext fun i c hi hc=>by
    unfold minor;by_cases hcj:c=j
    ·subst hcj;rw[show skip c c=c+1 by unfold skip;simp,show skip (c+1) c=c by unfold skip;simp];exact(he (i+1) (by omega)).symm
    ·rw[show skip j c=skip (j+1) c by unfold skip;split<;>split<;>omega]
   rw[e,he 0 (by omega)];simp only[sgn];grind
  ·rw[col_alt (minor M k) (j:=un k j) (by unfold un;split<;>omega) (fun i hi=>?_)]
   ·simp
   ·unfold minor;rw[h_2 (fun e=>h1 e.symm),show skip k (un k j+1)=j+1 by unfold skip un;split<;>split<;>omega];exact he (i+1) (by omega)
def setr (M:Mx)(i:Nat)(u:Nat→Int):Mx:=fun i' j=>if i'=i then u j else M i' j
structure AltM (n:Nat) (D:Mx→Int):Prop where
 ext:∀M N:Mx,(∀i j,i<n→j<n→M i j=N i j)→D M=D N
 lin:∀(M:Mx) (i:Nat) (u v:Nat→Int) (c:Int),i<n→D (setr M i fun j=>u j+c*v j)=D (setr M i u)+c*D (setr M i v)
 alt:∀(M:Mx) (i:Nat),i+1<n→(∀j,j<n→M i j=M (i+1) j)→D M=0
section
variable {n:Nat}{D:Mx→Int}
theorem AltM.zero (h:AltM n D)(M:Mx){i:Nat}(hi:i<n):D (setr M i fun _=>0)=0:=by
 have:=h.lin M i (fun _=>0) (fun _=>0) (-1) hi;simp only[Int.mul_zero,Int.add_zero]at this;omega
theorem AltM.add (h:AltM n D)(M:Mx){i:Nat}(u v:Nat→Int)(hi:i<n):D (setr M i fun j=>u j+v j)=D (setr M i u)+D (setr M i v):=by
 have:=h.lin M i u v 1 hi;simpa only[Int.one_mul] using this
theorem AltM.smul (h:AltM n D)(M:Mx){i:Nat}(c:Int)(v:Nat→Int)(hi:i<n):D (setr M i fun j=>c*v j)=c*D (setr M i v):=by
 have:=h.lin M i (fun _=>0) v c hi;simpa only[Int.zero_add,h.zero M hi] using this
theorem e_r (M:Mx)(i:Nat):setr M i (M i)=M:=by
 funext i' j;unfold setr;split
 ·rename_i e;rw[e]
 ·rfl
theorem b_3 (M:Mx){i k:Nat}(u v:Nat→Int)(h:i≠k):setr (setr M i u) k v=setr (setr M k v) i u:=by
 funext i' j;unfold setr
 by_cases e1:i'=k
 ·rw[if_pos e1,if_neg (fun e=>h (by omega)),if_pos e1]
 ·rw[if_neg e1];split<;>rfl
theorem AltM.swap1 (h:AltM n D)(M:Mx){i:Nat}(hi:i+1<n):D (setr (setr M i (M (i+1))) (i+1) (M i))= - D M:=by
 have key:∀u v:Nat→Int,D (setr (setr M i u) (i+1) v)+D (setr (setr M i v) (i+1) u)=0:=fun u v=>by
  have z:∀u:Nat→Int,D (setr (setr M i u) (i+1) u)=0:=fun u=>h.alt _ i hi fun j _=>by
   unfold setr;rw[if_neg (by omega),if_pos rfl,if_pos rfl]
  have e:=z fun j=>u j+v j;rw[h.add _ u v hi,b_3 M _ u (by omega),b_3 M _ v (by omega),h.add _ u v (by omega),h.add _ u v (by omega),b_3 M _ _ (show i+1≠i by omega),b_3 M _ _ (show i+1≠i by omega),b_3 M _ _ (show i+1≠i by omega),b_3 M _ _ (show i+1≠i by omega)]at e;have z1:=z u;have z2:=z v;omega
 have:=key (M (i+1)) (M i);rw[e_r M i,e_r]at this;omega
theorem AltM.same (h:AltM n D):∀(d:Nat) (M:Mx) (i:Nat),i+d+1<n→(∀j,j<n→M i j=M (i+d+1) j)→D M=0
 |0,M,i,hi,he=>h.alt M i hi he
 |d+1,M,i,hi,he=>by
  have e:=h.swap1 M (i:=i+d+1) (by omega);have z:=AltM.same h d (setr (setr M (i+d+1) (M (i+d+1+1))) (i+d+1+1) (M (i+d+1))) i (by omega) fun j hj=>by
   unfold setr;rw[if_neg (by omega),if_neg (by omega),if_neg (by omega),if_pos rfl];exact he j hj
  omega
theorem AltM.same' (h:AltM n D)(M:Mx){i k:Nat}(hi:i<n)(hk:k<n)(hne:i≠k)(he:∀j,j<n→M i j=M k j):D M=0:=by
 rcases Nat.lt_or_gt_of_ne hne with h1|h1
 ·exact h.same (k - i - 1) M i (by omega) fun j hj=>by rw[show i+(k - i - 1)+1=k by omega];exact he j hj
 ·exact h.same (i - k - 1) M k (by omega) fun j hj=>by rw[show k+(i - k - 1)+1=i by omega];exact(he j hj).symm
theorem AltM.addrow (h:AltM n D)(M:Mx){i k:Nat}(c:Int)(hi:i<n)(hk:k<n)(hne:i≠k):D (setr M i fun j=>M i j+c*M k j)=D M:=by
 rw[h.lin M i (M i) (M k) c hi,e_r,h.same' (setr M i (M k)) hi hk hne fun j _=>by unfold setr;rw[if_pos rfl,if_neg (fun e=>hne e.symm)]];simp
end
def e1 (k:Nat):Nat→Int:=fun j=>if j=k then 1 else 0
theorem AltM.row0 {n:Nat}{D:Mx→Int}(h:AltM (n+1) D)(A:Mx):D A=sumN (n+1) fun k=>A 0 k*D (setr A 0 (e1 k)):=by
 have key:∀m,D (setr A 0 fun j=>if j<m then A 0 j else 0)=sumN m fun k=>A 0 k*D (setr A 0 (e1 k)):=by
  intro m;induction m with
  |zero=>simp only[Nat.not_lt_zero,if_false,sumN];exact h.zero A (by omega)
  |succ m ih=>
   simp only[sumN];rw[←ih,←h.lin A 0 _ (e1 m) (A 0 m) (by omega)];congr 2
   funext j
   unfold e1;by_cases e:j=m
   ·subst e;simp
   ·rw[if_neg e,Int.mul_zero,Int.add_zero];by_cases e2:j<m
    ·rw[if_pos (by omega),if_pos e2]
    ·rw[if_neg (by omega),if_neg e2]
 rw[←key (n+1)];exact h.ext _ _ fun i j hi hj=>by
  unfold setr;split
  ·rename_i e;rw[e];show A 0 j=if j<n+1 then A 0 j else 0;rw[if_pos hj]
  ·rfl
def ins (k:Nat)(N:Mx):Mx:=fun i j=>if i=0 then e1 k j else if j=k then 0 else N (i - 1) (un k j)
theorem r_m {n k:Nat}{D:Mx→Int}(h:AltM (n+1) D)(hk:k<n+1):AltM n fun N=>D (ins k N) where
 ext M N he:=h.ext _ _ fun i j hi hj=>by
  unfold ins;by_cases e0:i=0
  ·rw[if_pos e0,if_pos e0]
  ·rw[if_neg e0,if_neg e0];by_cases ej:j=k
   ·rw[if_pos ej,if_pos ej]
   ·rw[if_neg ej,if_neg ej];exact he _ _ (by omega) (p_y ej hj hk)
 lin M i u v c hi:=by
  have e:∀w:Nat→Int,ins k (setr M i w)=setr (ins k M) (i+1) fun j=>if j=k then 0 else w (un k j):=fun w=>by
   funext i' j
   simp only[ins,setr];by_cases e0:i'=0
   ·rw[if_pos e0,if_neg (by omega),if_pos e0]
   ·rw[if_neg e0];by_cases e3:i'=i+1
    ·rw[if_pos e3];by_cases ej:j=k
     ·rw[if_pos ej,if_pos ej]
     ·rw[if_neg ej,if_neg ej,if_pos (by omega)]
    ·rw[if_neg e3,if_neg e0];by_cases ej:j=k
     ·rw[if_pos ej,if_pos ej]
     ·rw[if_neg ej,if_neg ej,if_neg (by omega)]
  rw[e,e,e,←h.lin _ _ _ _ c (by omega)];congr 2
  funext j
  by_cases ej:j=k
  ·simp[ej]
  ·simp[ej]
 alt M i hi he:=h.alt _ (i+1) (by omega) fun j hj=>by
  unfold ins;rw[if_neg (show ¬i+1=0 by omega),if_neg (show ¬i+1+1=0 by omega)];by_cases ej:j=k
  ·rw[if_pos ej,if_pos ej]
  ·rw[if_neg ej,if_neg ej,show i+1 - 1=i by omega,show i+1+1 - 1=i+1 by omega];exact he _ (p_y ej hj hk)
theorem AltM.clear {n k:Nat}{D:Mx→Int}(h:AltM (n+1) D)(hk:k<n+1)(A:Mx):D (setr A 0 (e1 k))=D (ins k (minor A k)):=by
 have key:∀m,m≤n→D (setr A 0 (e1 k))=D (fun i j=>if i=0 then e1 k j else if i≤m∧j=k then 0 else A i j):=by
  intro m;induction m with
  |zero=>
   intro _;refine h.ext _ _ fun i j hi hj=>?_;unfold setr;by_cases e0:i=0
   ·rw[if_pos e0,if_pos e0]
   ·rw[if_neg e0,if_neg e0,if_neg (fun e=>e0 (by omega))]
  |succ m ih=>
   intro hm;rw[ih (by omega)];have e:=h.addrow (fun i j=>if i=0 then e1 k j else if i≤m∧j=k then 0 else A i j) (i:=m+1) (k:=0) (- A (m+1) k) (by omega) (by omega) (by omega);rw[←e];refine h.ext _ _ fun i j hi hj=>?_;unfold setr;by_cases e0:i=m+1
   ·subst e0;simp only[if_true,if_neg (show ¬m+1=0 by omega),if_neg (show ¬(m+1≤m∧j=k) by omega)];unfold e1;by_cases ej:j=k
    ·subst ej;simp;omega
    ·simp[ej]
   ·simp only[if_neg e0];by_cases e2:i=0
    ·simp[e2]
    ·simp only[if_neg e2];by_cases e3:i≤m∧j=k
     ·rw[if_pos e3,if_pos ⟨by omega,e3.2⟩]
     ·rw[if_neg e3,if_neg (by omega)]
 rw[key n (Nat.le_refl _)];refine h.ext _ _ fun i j hi hj=>?_;unfold ins minor;by_cases e0:i=0
 ·rw[if_pos e0,if_pos e0]
 ·rw[if_neg e0,if_neg e0];by_cases ej:j=k
  ·rw[if_pos ⟨by omega,ej⟩,if_pos ej]
  ·rw[if_neg (fun e=>ej e.2),if_neg ej,h_2 ej,show i - 1+1=i by omega]
def perm (k m:Nat):Mx:=fun i=>e1 (if i<m then i else if i=m then k else if i≤k then i - 1 else i)
theorem AltM.perm1 {n k:Nat}{D:Mx→Int}(h:AltM (n+1) D)(hk:k<n+1):∀m,m≤k→D (ins k one)=sgn m*D (perm k m)
 |0,_=>by
  simp only[sgn,Int.one_mul];refine h.ext _ _ fun i j hi hj=>?_;unfold ins perm one e1 un;repeat' split
  all_goals first|rfl|(exfalso;omega)
 |m+1,hm=>by
  rw[AltM.perm1 h hk m (by omega)];have e:=h.swap1 (perm k m) (i:=m) (by omega);have e2:D (perm k (m+1))=D (setr (setr (perm k m) m (perm k m (m+1))) (m+1) (perm k m m)):=h.ext _ _ fun i j hi hj=>by
   unfold setr perm;by_cases h1:i=m+1
   ·subst h1;simp
   ·by_cases h2:i=m
    ·subst h2;simp only[if_neg (show ¬i=i+1 by omega),if_true,if_pos (show i<i+1 by omega),if_neg (show ¬i+1<i by omega),if_neg (show ¬i+1=i by omega),if_pos hm,Nat.add_sub_cancel]
    ·simp only[if_neg h1,if_neg h2];by_cases h3:i<m
     ·rw[if_pos h3,if_pos (by omega)]
     ·rw[if_neg h3,if_neg (by omega)]
  rw[e2,e];simp only[sgn];grind
theorem AltM.perm {n k:Nat}{D:Mx→Int}(h:AltM (n+1) D)(hk:k<n+1):D (ins k one)=sgn k*D one:=by
 rw[h.perm1 hk k (Nat.le_refl _)];congr 1
 refine h.ext _ _ fun i j hi hj=>?_;unfold DT.perm one e1;repeat' split
 all_goals first|rfl|(exfalso;omega)
theorem alt_det:∀(n:Nat) (D:Mx→Int),AltM n D→∀A,D A=det n A*D one
 |0,D,h,A=>by rw[h.ext A one fun i j hi=>by omega];simp[det]
 |n+1,D,h,A=>by
  rw[h.row0 A,b_j,←sum_mul'];refine sum_ext fun k hk=>?_;rw[h.clear hk A,alt_det n _ (r_m h hk) (minor A k),h.perm hk];grind
theorem m_r (n:Nat)(M:Mx):det n (fun i j=>M j i)=det n M:=by
 have h:AltM n fun M=>det n fun i j=>M j i:=
  { ext:=fun M N he=>det_ext fun i j hi hj=>he j i hj hi
    lin:=fun M i u v c hi=>by
     have e:∀w:Nat→Int,(fun i' j=>setr M i w j i')=setc (fun i' j=>M j i') i w:=fun w=>by
      funext i' j;unfold setr setc;rfl
     rw[e,e,e];exact col_lin _ u v c hi
    alt:=fun M i hi he=>col_alt _ hi fun j hj=>he j hj }
 have:=alt_det n _ h M;rw[this,det_ext (M:=fun i j=>one j i) (N:=one) fun i j _ _=>by
  unfold one;by_cases e:j=i
  ·rw[if_pos e,if_pos e.symm]
  ·rw[if_neg e,if_neg (fun e2=>e e2.symm)],det_one,Int.mul_one]
theorem c_f (n:Nat):AltM n (det n) where
 ext M N he:=det_ext he
 lin M i u v c hi:=by
  have e:∀w:Nat→Int,det n (setr M i w)=det n (setc (fun i' j=>M j i') i w):=fun w=>by
   rw[←m_r n (setr M i w)];congr 1
  rw[e,e,e];exact col_lin _ u v c hi
 alt M i hi he:=by
  rw[←m_r n M];exact col_alt _ hi fun j hj=>he j hj
def mul (n:Nat)(A B:Mx):Mx:=fun i j=>sumN n fun k=>A i k*B k j
theorem det_mul (n:Nat)(A B:Mx):det n (mul n A B)=det n A*det n B:=by
 have h:AltM n fun A=>det n (mul n A B):=
  { ext:=fun M N he=>det_ext fun i j hi hj=>sum_ext fun k hk=>by rw[he i k hi hk]
    lin:=fun M i u v c hi=>by
     have e:∀w:Nat→Int,mul n (setr M i w) B=setr (mul n M B) i fun j=>sumN n fun k=>w k*B k j:=fun w=>by
      funext i' j;unfold mul setr;split<;>rfl
     rw[e,e,e,←(c_f n).lin _ _ _ _ c hi];congr 2
     funext j
     rw[←b_v,←f_2];exact sum_ext fun k _=>by grind
    alt:=fun M i hi he=>(c_f n).alt _ i hi fun j _=>sum_ext fun k hk=>by rw[he k hk] }
 rw[alt_det n _ h A];congr 1
 refine det_ext fun i j hi hj=>?_;unfold mul one;rw[sum_one hi fun k _ hk=>by rw[if_neg (fun e=>hk e.symm)];simp];simp
end DT
end
section
namespace DT
def idx (i m a:Nat):Nat:=if a<m then a else if a=m then i else if a≤i then a - 1 else a
theorem AltM.move {n:Nat}{D:Mx→Int}(h:AltM n D)(M:Mx){i:Nat}(hi:i<n):∀m,m≤i→D (fun a=>M (idx i 0 a))=sgn m*D (fun a=>M (idx i m a))
 |0,_=>by simp[sgn]
 |m+1,hm=>by
  rw[AltM.move h M hi m (by omega)];have e:=h.swap1 (fun a=>M (idx i m a)) (i:=m) (by omega);have e2:D (fun a=>M (idx i (m+1) a))=D (setr (setr (fun a=>M (idx i m a)) m (M (idx i m (m+1)))) (m+1) (M (idx i m m))):=h.ext _ _ fun a j ha hj=>by
   simp only[setr];by_cases h1:a=m+1
   ·subst h1;rw[if_pos rfl,show idx i (m+1) (m+1)=i by unfold idx;simp,show idx i m m=i by unfold idx;simp]
   ·rw[if_neg h1];by_cases h2:a=m
    ·subst h2;rw[if_pos rfl,show idx i (a+1) a=a by unfold idx;simp,show idx i a (a+1)=a by unfold idx;rw[if_neg (by omega),if_neg (by omega),if_pos hm];omega]
    ·rw[if_neg h2,show idx i (m+1) a=idx i m a by unfold idx;repeat' split
                                                  all_goals first|rfl|(exfalso;omega)]
  rw[e2,e];simp only[sgn];grind
theorem o_h (i a:Nat):idx i i a=a:=by
 unfold idx;repeat' split
 all_goals omega
theorem o_g (i a:Nat):idx i 0 (a+1)=skip i a:=by
 unfold idx skip;repeat' split
 all_goals omega
def minor2 (M:Mx)(i k:Nat):Mx:=fun a b=>M (skip i a) (skip k b)
theorem m_q (n:Nat)(M:Mx){i:Nat}(hi:i<n+1):det (n+1) M=sumN (n+1) fun k=>sgn (i+k)*M i k*det n (minor2 M i k):=by
 have e:=(c_f (n+1)).move M hi i (Nat.le_refl _);have e1:det (n+1) (fun a=>M (idx i i a))=det (n+1) M:=det_ext fun a b _ _=>by rw[o_h]
 rw[e1]at e;have e2:det (n+1) M=sgn i*det (n+1) fun a=>M (idx i 0 a):=by rw[e,←Int.mul_assoc,l_d,Int.one_mul]
 rw[e2,b_j,←b_v];refine sum_ext fun k hk=>?_;have e3:minor (fun a=>M (idx i 0 a)) k=minor2 M i k:=by
  funext a b;show M (idx i 0 (a+1)) (skip k b)=M (skip i a) (skip k b);rw[o_g]
 rw[e3,l_e,show idx i 0 0=i by unfold idx;simp];grind
def cof (n:Nat)(M:Mx)(i k:Nat):Int:=sgn (i+k)*det n (minor2 M i k)
theorem e_e (n:Nat)(M:Mx){i:Nat}(hi:i<n+1):sumN (n+1) (fun k=>M i k*cof n M i k)=det (n+1) M:=by
 rw[m_q n M hi];exact sum_ext fun k _=>by unfold cof;grind
theorem e_4 (n:Nat)(M:Mx){i r:Nat}(hi:i<n+1)(hr:r<n+1)(hne:r≠i):sumN (n+1) (fun k=>M r k*cof n M i k)=0:=by
 have e:=e_e n (setr M i (M r)) hi;rw[(c_f (n+1)).same' _ hi hr (fun e=>hne e.symm) fun j _=>by unfold setr;rw[if_pos rfl,if_neg hne]]at e;rw[←e];refine sum_ext fun k _=>?_;have e1:minor2 (setr M i (M r)) i k=minor2 M i k:=by
  funext a b;unfold minor2 setr;rw[if_neg (h_3 i a)]
 unfold cof;rw[e1];unfold setr;rw[if_pos rfl]
theorem u_n (n:Nat)(M:Mx)(i k:Nat):cof n (fun a b=>M b a) i k=cof n M k i:=by
 unfold cof;rw[Nat.add_comm i k,←m_r n (minor2 M k i)];rfl
theorem m_t (n:Nat)(M:Mx){j k:Nat}(hj:j<n+1)(hk:k<n+1):sumN (n+1) (fun a=>M a j*cof n M a k)=if j=k then det (n+1) M else 0:=by
 have e:sumN (n+1) (fun a=>M a j*cof n M a k)=sumN (n+1) fun a=>(fun a b=>M b a) j a*cof n (fun a b=>M b a) k a:=sum_ext fun a _=>by rw[u_n]
 rw[e];split
 ·rename_i e;subst e;exact(e_e n (fun a b=>M b a) hj).trans (m_r _ _)
 ·rename_i h;exact e_4 n (fun a b=>M b a) hk hj h
theorem k_6 (k m:Nat)(f:Nat→Int):sumN (k+m) f=sumN k f+sumN m fun l=>f (k+l):=by
 induction m with
 |zero=>simp[sumN]
 |succ m ih=>rw[←Nat.add_assoc];simp only[sumN,ih];omega
theorem one_self (i:Nat):one i i=1:=by unfold one;rw[if_pos rfl]
theorem one_ne {i j:Nat}(h:i≠j):one i j=0:=by unfold one;rw[if_neg h]
end DT
end
section
namespace DT
theorem k_5 (n:Nat)(f g:Nat→Int):sumN n (fun k=>f k - g k)=sumN n f - sumN n g:=by
 induction n with
 |zero=>rfl
 |succ n ih=>simp only[sumN,ih];omega
theorem j_q (d:Int):∀m,det m (fun a b=>d*one a b)=d^m
 |0=>by rw[Int.pow_zero];rfl
 |m+1=>by
  rw[b_j,sum_one (i:=0) (by omega) fun k hk hne=>by rw[one_ne (fun e=>hne e.symm)];simp];rw[det_ext (N:=fun a b=>d*one a b) fun i j _ _=>by
   show d*one (i+1) (skip 0 j)=d*one i j
   rw[show skip 0 j=j+1 by unfold skip;simp];by_cases e:i=j
   ·subst e;rw[one_self,one_self]
   ·rw[one_ne e,one_ne (by omega)],j_q d m,one_self]
  show 1*(d*1)*d^m=d^(m+1)
  rw[Int.pow_succ];grind
theorem det_thin {n k:Nat}(hk:k<n)(X R:Mx):det n (fun i j=>sumN k fun a=>X i a*R a j)=0:=by
 have e:det n (fun i j=>sumN k fun a=>X i a*R a j)=det n (mul n (fun i a=>if a<k then X i a else 0) R):=det_ext fun i j hi hj=>by
  unfold mul;rw[show n=k+(n - k) by omega,k_6,b_9 (n:=n - k) fun l hl=>by dsimp only;rw[if_neg (by omega)];simp];rw[Int.add_zero];exact sum_ext fun a ha=>by dsimp only;rw[if_pos ha]
 rw[e,det_mul,←m_r];have e2:=(c_f n).zero (fun i j=>if i<k then X j i else 0) (i:=n - 1) (by omega);rw[det_ext (N:=setr (fun i j=>if i<k then X j i else 0) (n - 1) fun _=>0) fun i j hi hj=>by
  unfold setr;by_cases h:i=n - 1
  ·rw[if_pos h,if_neg (by omega)]
  ·rw[if_neg h],e2,Int.zero_mul]
theorem m_p (d:Int)(M:Mx)(n:Nat):det n (fun i j=>d*M i j)=d^n*det n M:=by
 rw[←j_q,←det_mul];refine det_ext fun i j hi hj=>?_;unfold mul;rw[sum_one (i:=i) hi fun l hl hne=>by dsimp only;rw[one_ne (fun e=>hne e.symm)];simp];dsimp only;rw[one_self,Int.mul_one]
theorem p_b {d:Int}(h:d≠0):∀n:Nat,d^n≠0
 |0=>by simp
 |n+1=>by rw[Int.pow_succ];exact Int.mul_ne_zero (p_b h n) h
end DT
end
end Go.Proofs.YtgohglhefhocgaaGreat
