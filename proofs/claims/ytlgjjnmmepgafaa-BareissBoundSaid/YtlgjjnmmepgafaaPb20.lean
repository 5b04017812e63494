/- Pb20 -/
import Derived.Test.YtlgjjnmmepgafaaPb19
set_option linter.unusedVariables false
set_option linter.unusedSimpArgs false
set_option linter.unusedSectionVars false
set_option maxRecDepth 100000
set_option maxHeartbeats 8000000
namespace Go.Proofs.Ytlgjjnmmepgafaa
section
namespace DT
theorem j_s (n:Nat)(f g:Nat->Int):sumN n (fun k=>f k - g k)=sumN n f - sumN n g:=by
 induction n with
 |zero=>rfl
 |succ n ih=>simp only[sumN,ih];omega
theorem f_s (d:Int):∀m,det m (fun a b=>d*one a b)=d^m
 |0=>by rw[Int.pow_zero];rfl
 |m+1=>by
  rw[a_w,b_e (i:=0) (by omega) fun k hk hne=>by rw[c_c (fun e=>hne e.symm)];simp];rw[det_ext (N:=fun a b=>d*one a b) fun i j _ _=>by
   show d*one (i+1) (skip 0 j)=d*one i j
   rw[show skip 0 j=j+1 by unfold skip;simp];by_cases e:i=j
   ·subst e;rw[a_9,a_9]
   ·rw[c_c e,c_c (by omega)],f_s d m,a_9]
  show 1*(d*1)*d^m=d^(m+1)
  rw[Int.pow_succ];grind
def rest (k:Nat)(d:Int)(G:Mx)(x:Mx):Mx:=fun t j=>d*G (k+t) j - sumN k fun a=>x t a*G a j
theorem schur (k m:Nat)(d:Int)(G x:Mx)(h:∀t j,t<m->j<k->sumN k (fun a=>x t a*G a j)=d*G (k+t) j):
  d^m*det (k+m) G=det k G*det m fun t s=>rest k d G x t (k+s):=by
 have e1:det (k+m) (blk k G (fun i j=>G i (k+j)) fun t s=>rest k d G x t (k+s))=det (k+m) (mul (k+m) (fun i j=>if i<k then one i j else if j<k then - x (i - k) j else d*one i j) G):=by
  refine det_ext fun i j hi hj=>?_;unfold mul;by_cases h1:i<k
  ·rw[b_e (i:=i) (by omega) fun l hl hne=>by dsimp only;rw[if_pos h1,c_c (fun e=>hne e.symm)];simp];dsimp only;rw[if_pos h1,a_9,Int.one_mul];by_cases h2:j<k
   ·rw[c_l _ _ _ h1 h2]
   ·rw[d_1 _ _ _ h1 h2,show k+(j - k)=j by omega]
  ·rw[e_b];have e2:sumN k (fun l=>(if i<k then one i l else if l<k then - x (i - k) l else d*one i l)*G l j)= - sumN k fun a=>x (i - k) a*G a j:=by
    rw[<-Int.neg_one_mul,<-b_o];exact a_i fun l hl=>by rw[if_neg h1,if_pos hl];grind
   have e3:sumN m (fun l=>(if i<k then one i (k+l)else if k+l<k then - x (i - k) (k+l)else d*one i (k+l))*G (k+l) j)=d*G i j:=by
    rw[b_e (i:=i - k) (by omega) fun l hl hne=>by rw[if_neg h1,if_neg (by omega),c_c (by omega)];simp];rw[if_neg h1,if_neg (by omega),show k+(i - k)=i by omega,a_9,Int.mul_one]
   rw[e2,e3];by_cases h2:j<k
   ·rw[c_d _ _ _ h1 h2,h _ _ (by omega) h2,show k+(i - k)=i by omega];omega
   ·rw[b_t _ _ _ h1 h2];unfold rest;rw[show k+(i - k)=i by omega,show k+(j - k)=j by omega];omega
 rw[k_8,det_mul,<-det_T (k+m) (fun i j=>if i<k then one i j else if j<k then - x (i - k) j else d*one i j)]at e1;rw[det_ext (M:=fun i j=>if j<k then one j i else if i<k then - x (j - k) i else d*one j i) (N:=blk k one (fun i j=>- x j i) fun i j=>d*one i j) fun i j hi hj=>by
  by_cases h1:i<k
  ·by_cases h2:j<k
   ·rw[c_l _ _ _ h1 h2,if_pos h2];unfold one;by_cases e:i=j
    ·subst e;rfl
    ·rw[if_neg e,if_neg (fun e2=>e e2.symm)]
   ·rw[d_1 _ _ _ h1 h2,if_neg h2,if_pos h1]
  ·by_cases h2:j<k
   ·rw[c_d _ _ _ h1 h2,if_pos h2,c_c (by omega)]
   ·rw[b_t _ _ _ h1 h2,if_neg h2,if_neg h1];unfold one;by_cases e:i=j
    ·subst e;simp
    ·rw[if_neg (fun e2=>e e2.symm),if_neg (by omega)],k_8,det_one,f_s,Int.one_mul]at e1
 exact e1.symm
def bord (k:Nat)(G:Mx)(i j:Nat):Mx:=fun a b=>G (if a<k then a else i) (if b<k then b else j)
def bd (k:Nat)(G:Mx)(i j:Nat):Int:=det (k+1) (bord k G i j)
theorem m_3 (k:Nat)(G:Mx)(i j:Nat):det k (bord k G i j)=det k G:=det_ext fun a b ha hb=>by unfold bord;rw[if_pos ha,if_pos hb]
theorem l_h (k:Nat)(G:Mx)(i j:Nat)(x:Nat->Int)(h:∀b,b<k->sumN k (fun a=>x a*G a b)=det k G*G i b):
  det k G*bd k G i j=det k G*(det k G*G i j - sumN k fun a=>x a*G a j):=by
 have e:=schur k 1 (det k G) (bord k G i j) (fun _=>x) fun t b ht hb=>by
  rw[a_i (g:=fun a=>x a*G a b) fun a ha=>by unfold bord;rw[if_pos ha,if_pos hb],h b hb];unfold bord;rw[if_neg (by omega),if_pos hb]
 rw[m_3,Int.pow_succ,Int.pow_zero,Int.one_mul]at e;rw[bd,e];congr 1
 rw[a_w];simp only[sumN,sgn,det,minor];unfold rest;rw[a_i (g:=fun a=>x a*G a j) fun a ha=>by unfold bord;rw[if_pos ha,if_neg (by omega)]];unfold bord;rw[if_neg (by omega),if_neg (by omega)];omega
theorem n_0 (k:Nat)(G:Mx)(i:Nat)(hd:det k G≠0):∃x:Nat->Int,∀j,bd k G i j=det k G*G i j - sumN k fun a=>x a*G a j:=by
 obtain⟨x,hx⟩:=cramer k G (G i);exact⟨x,fun j=>Int.eq_of_mul_eq_mul_left hd (l_h k G i j x hx)⟩
theorem sylvester (k m:Nat)(G:Mx)(hd:det k G≠0):det k G^m*det (k+m) G=det k G*det m fun t s=>bd k G (k+t) (k+s):=by
 have e:∀t,∃x:Nat->Int,(∀b,b<k->sumN k (fun a=>x a*G a b)=det k G*G (k+t) b)/\∀j,bd k G (k+t) j=det k G*G (k+t) j - sumN k fun a=>x a*G a j:=fun t=>by
  obtain⟨x,hx⟩:=cramer k G (G (k+t));exact⟨x,hx,fun j=>Int.eq_of_mul_eq_mul_left hd (l_h k G (k+t) j x hx)⟩
 refine(schur k m (det k G) G (fun t=>(e t).choose) fun t j _ hj=>(e t).choose_spec.1 j hj).trans ?_;congr 1
 exact det_ext fun t s _ _=>((e t).choose_spec.2 (k+s)).symm
theorem bareiss (k:Nat)(G:Mx)(hd:det k G≠0):det k G*det (k+2) G=bd k G k k*bd k G (k+1) (k+1) - bd k G k (k+1)*bd k G (k+1) k:=by
 have e:=sylvester k 2 G hd;refine Int.eq_of_mul_eq_mul_left hd ?_;rw[<-Int.mul_assoc,show det k G*det k G=det k G^2 by rw[Int.pow_succ,Int.pow_succ,Int.pow_zero,Int.one_mul],e];congr 1
 simp[a_w,sumN,sgn,minor,det,skip];grind
theorem j_e (k:Nat)(G:Mx)(hd:det k G≠0){i j:Nat}(hi:k<=i)(hj:k<=j):det k G*bd (k+1) G i j=bd k G k k*bd k G i j - bd k G k j*bd k G i k:=by
 have e:=bareiss k (bord (k+1) G i j);have e0:det k (bord (k+1) G i j)=det k G:=det_ext fun a b ha hb=>by unfold bord;rw[if_pos (by omega),if_pos (by omega)]
 rw[e0]at e;have e1:=e hd;unfold bd;rw[show k+1+1=k+2 by omega,e1];unfold bd;have f:∀u v,det (k+1) (bord k (bord (k+1) G i j) u v)=det (k+1) (bord k G (if u<k+1 then u else i) (if v<k+1 then v else j)):=fun u v=>det_ext fun a b ha hb=>by
  unfold bord;by_cases h1:a<k
  ·by_cases h2:b<k
   ·simp only[if_pos h1,if_pos h2,if_pos (show a<k+1 by omega),if_pos (show b<k+1 by omega)]
   ·simp only[if_pos h1,if_neg h2,if_pos (show a<k+1 by omega)]
  ·by_cases h2:b<k
   ·simp only[if_neg h1,if_pos h2,if_pos (show b<k+1 by omega)]
   ·simp only[if_neg h1,if_neg h2]
 rw[f,f,f,f];simp only[if_pos (show k<k+1 by omega),if_neg (show ¬k+1<k+1 by omega)]
theorem m_1 {n k:Nat}(hk:k<n)(X R:Mx):det n (fun i j=>sumN k fun a=>X i a*R a j)=0:=by
 have e:det n (fun i j=>sumN k fun a=>X i a*R a j)=det n (mul n (fun i a=>if a<k then X i a else 0) R):=det_ext fun i j hi hj=>by
  unfold mul;rw[show n=k+(n - k) by omega,e_b,b_u (n:=n - k) fun l hl=>by dsimp only;rw[if_neg (by omega)];simp];rw[Int.add_zero];exact a_i fun a ha=>by dsimp only;rw[if_pos ha]
 rw[e,det_mul,<-det_T];have e2:=(a_p n).zero (fun i j=>if i<k then X j i else 0) (i:=n - 1) (by omega);rw[det_ext (N:=setr (fun i j=>if i<k then X j i else 0) (n - 1) fun _=>0) fun i j hi hj=>by
  unfold setr;by_cases h:i=n - 1
  ·rw[if_pos h,if_neg (by omega)]
  ·rw[if_neg h],e2,Int.zero_mul]
theorem g_t (d:Int)(M:Mx)(n:Nat):det n (fun i j=>d*M i j)=d^n*det n M:=by
 rw[<-f_s,<-det_mul];refine det_ext fun i j hi hj=>?_;unfold mul;rw[b_e (i:=i) hi fun l hl hne=>by dsimp only;rw[c_c (fun e=>hne e.symm)];simp];dsimp only;rw[a_9,Int.mul_one]
theorem k_a {d:Int}(h:d≠0):∀n:Nat,d^n≠0
 |0=>by simp
 |n+1=>by rw[Int.pow_succ];exact Int.mul_ne_zero (k_a h n) h
theorem m_2 {n k:Nat}(hk:k<n){d:Int}(hd:d≠0)(M X R:Mx)(h:∀i j,i<n->j<n->d*M i j=sumN k fun a=>X i a*R a j):det n M=0:=by
 have e:d^n*det n M=0:=by
  rw[<-g_t,det_ext h];exact m_1 hk X R
 exact(Int.mul_eq_zero.mp e).resolve_left (k_a hd n)
end DT
end
section
namespace DT
variable {R C:Nat}{M N H K:Mx}{u v:Nat->Int}
def fst:Nat->(Nat->Int)->Nat
 |0,_=>0
 |C+1,u=>if fst C u<C then fst C u else if u C=0 then C+1 else C
structure Herm (R C:Nat) (M:Mx):Prop where
 up:∀i,i+1<R->fst C (M (i+1))<C->fst C (M i)<fst C (M (i+1))
 pos:∀i,i<R->fst C (M i)<C->0<M i (fst C (M i))
 red:∀i,i<R->fst C (M i)<C->∀r,r<i->0<=M r (fst C (M i))/\M r (fst C (M i))<M i (fst C (M i))
end DT
end
section
namespace DT
theorem q_t {n:Nat}{f g:Nat->Int}(h:∀k,k<n->f k<=g k):sumN n f<=sumN n g:=by
 induction n with
 |zero=>exact Int.le_refl _
 |succ n ih=>simp only[sumN];have:=ih fun k hk=>h k (by omega);have:=h n (by omega);omega
theorem b_y {n:Nat}{f:Nat->Int}(h:∀k,k<n->0<=f k):0<=sumN n f:=by
 have:=q_t (f:=fun _=>0) h;rwa [b_u fun _ _=>rfl]at this
end DT
end
section
namespace DT
variable {R C:Nat}{M N H K:Mx}{u v:Nat->Int}
structure Inc (k n:Nat) (f:Nat->Nat):Prop where
 up:∀i,i+1<k->f i<f (i+1)
 lt:∀i,i<k->f i<n
def sw (i:Nat)(f:Nat->Nat):Nat->Nat:=fun a=>if a=i then f (i+1)else if a=i+1 then f i else f a
def mu (k:Nat)(f:Nat->Nat):Int:=sumN k fun i=>((k:Int) - i)*f i
theorem g_k (k:Nat)(f:Nat->Nat):0<=mu k f:=b_y fun i hi=>Int.mul_nonneg (by omega) (by omega)
theorem r_g {k:Nat}(f:Nat->Nat){i:Nat}(hi:i+1<k)(h:f (i+1)<f i):mu k (sw i f)<mu k f:=by
 have e:mu k f - mu k (sw i f)=(f i:Int) - f (i+1):=by
  unfold mu;rw[<-j_s,j_r (i:=i) (j:=i+1) (by omega) hi fun a ha h1 h2=>by unfold sw;rw[if_neg h1,if_neg h2];omega];unfold sw;rw[if_pos rfl,if_neg (by omega),if_pos rfl];rw[show((i+1:Nat):Int)=i+1 by omega];grind
 omega
theorem sortP {k n:Nat}(P:(Nat->Nat)->Prop)(h0:∀f,Inc k n f->P f)(heq:∀f i,i+1<k->f i=f (i+1)->P f)(hsw:∀f i,i+1<k->P (sw i f)->P f):∀f:Nat->Nat,(∀i,i<k->f i<n)->P f:=by
 suffices h:∀(m:Nat) f,(mu k f).toNat<=m->(∀i,i<k->f i<n)->P f from fun f hf=>h _ f (Nat.le_refl _) hf
 intro m;induction m with
 |zero=>
  intro f hm hf;by_cases h1:∃i,i+1<k/\f (i+1)<=f i
  ·obtain⟨i,hi,hle⟩:=h1;by_cases he:f i=f (i+1)
   ·exact heq f i hi he
   ·have:=r_g f hi (by omega);have:=g_k k (sw i f);omega
  ·exact h0 f ⟨fun i hi=>by
    rcases Nat.lt_or_ge (f i) (f (i+1))with h|h
    ·exact h
    ·exact absurd ⟨i,hi,h⟩ h1,hf⟩
 |succ m ih=>
  intro f hm hf;by_cases h1:∃i,i+1<k/\f (i+1)<=f i
  ·obtain⟨i,hi,hle⟩:=h1;by_cases he:f i=f (i+1)
   ·exact heq f i hi he
   ·refine hsw f i hi (ih (sw i f) ?_ fun a ha=>?_)
    ·have:=r_g f hi (by omega);have:=g_k k (sw i f);omega
    ·unfold sw;repeat' split
     ·exact hf _ hi
     ·exact hf _ (by omega)
     ·exact hf a ha
  ·exact h0 f ⟨fun i hi=>by
    rcases Nat.lt_or_ge (f i) (f (i+1))with h|h
    ·exact h
    ·exact absurd ⟨i,hi,h⟩ h1,hf⟩
theorem n_d {k n:Nat}{g:Int}(M:Mx)(h:∀f:Nat->Nat,Inc k n f->g∣det k fun i j=>M (f i) j):∀f:Nat->Nat,(∀i,i<k->f i<n)->g∣det k fun i j=>M (f i) j:=by
 refine sortP _ h (fun f i hi he=>?_) (fun f i hi hP=>?_)
 ·rw[(a_p k).same' _ (i:=i) (k:=i+1) (by omega) hi (by omega) fun j _=>by rw[he]];exact Int.dvd_zero g
 ·have e:=(a_p k).swap1 (fun a j=>M (f a) j) (i:=i) hi;have e2:det k (fun a j=>M (sw i f a) j)=det k (setr (setr (fun a j=>M (f a) j) i fun j=>M (f (i+1)) j) (i+1) fun j=>M (f i) j):=det_ext fun a j ha hj=>by
   unfold sw setr;by_cases h1:a=i+1
   ·subst h1;rw[if_neg (by omega),if_pos rfl,if_pos rfl]
   ·by_cases h2:a=i
    ·subst h2;rw[if_pos rfl,if_neg h1,if_pos rfl]
    ·rw[if_neg h2,if_neg h1,if_neg h1,if_neg h2]
  rw[e2,e]at hP;exact(Int.dvd_neg).mp hP
theorem AltM.rowsum {n:Nat}{D:Mx->Int}(h:AltM n D)(A:Mx){i:Nat}(hi:i<n)(x:Nat->Int)(M:Mx):∀m,D (setr A i fun j=>sumN m fun l=>x l*M l j)=sumN m fun l=>x l*D (setr A i (M l))
 |0=>h.zero A hi
 |m+1=>by
  simp only[sumN];rw[h.add A _ _ hi,AltM.rowsum h A hi x M m,h.smul A _ _ hi]
theorem p_b {k:Nat}{g:Int}(X M:Mx)(h:∀f:Nat->Nat,(∀i,i<k->f i<R)->g∣det k fun i j=>M (f i) j):g∣det k (mul R X M):=by
 by_cases hR:R=0
 ·subst hR;cases k with
  |zero=>have:=h (fun _=>0) (fun i hi=>by omega);exact this
  |succ k=>
   have e:det (k+1) (mul 0 X M)=det (k+1) (setr (mul 0 X M) 0 fun _=>0):=det_ext fun i j _ _=>by unfold setr mul;split<;>rfl
   rw[e,(a_p (k+1)).zero _ (by omega)];exact Int.dvd_zero g
 suffices h2:∀t,t<=k->∀f:Nat->Nat,(∀i,i<k->f i<R)->g∣det k fun i j=>if i<t then mul R X M i j else M (f i) j by
  have:=h2 k (Nat.le_refl _) (fun _=>0) fun _ _=>by omega
  rwa [det_ext fun i j hi hj=>if_pos hi]at this
 intro t;induction t with
 |zero=>intro _ f hf;rw[det_ext fun i j hi hj=>if_neg (by omega)];exact h f hf
 |succ t ih=>
  intro ht f hf;have e:det k (fun i j=>if i<t+1 then mul R X M i j else M (f i) j)=det k (setr (fun i j=>if i<t then mul R X M i j else M (f i) j) t fun j=>sumN R fun l=>X t l*M l j):=det_ext fun i j hi hj=>by
   unfold setr;by_cases h1:i=t
   ·subst h1;rw[if_pos (by omega),if_pos rfl];rfl
   ·rw[if_neg h1];dsimp only;by_cases h2:i<t
    ·rw[if_pos h2,if_pos (by omega)]
    ·rw[if_neg h2,if_neg (by omega)]
  rw[e,(a_p k).rowsum _ (by omega)];have h3:∀n,n<=R->g∣sumN n fun l=>X t l*det k (setr (fun i j=>if i<t then mul R X M i j else M (f i) j) t (M l)):=by
   intro n;induction n with
   |zero=>intro _;exact Int.dvd_zero g
   |succ n ihn=>
    intro hn;refine Int.dvd_add (ihn (by omega)) (Int.dvd_trans ?_ (Int.dvd_mul_left _ _));have h4:=ih (by omega) (fun a=>if a=t then n else f a) fun i hi=>by
     split
     ·omega
     ·exact hf i hi
    rw[det_ext (N:=fun i j=>if i<t then mul R X M i j else M (if i=t then n else f i) j) fun i j hi hj=>by
     unfold setr;by_cases h1:i=t
     ·subst h1;rw[if_pos rfl,if_neg (by omega),if_pos rfl]
     ·rw[if_neg h1,if_neg h1]]
    exact h4
  exact h3 R (Nat.le_refl _)
theorem Inc.ge {k n:Nat}{f:Nat->Nat}(h:Inc k n f):∀i,i<k->i<=f i
 |0,_=>Nat.zero_le _
 |i+1,hi=>by have:=Inc.ge h i (by omega);have:=h.up i hi;omega
end DT
end
section
namespace DT
variable {R C:Nat}{M N H K:Mx}{u v:Nat->Int}
def Som (R:Nat)(M:Mx)(k:Nat)(cols:Nat->Nat):Prop:=∃f,Inc k R f/\det k (fun i j=>M (f i) (cols j))≠0
theorem Som.of {S k:Nat}{d:Int}(hd:d≠0){X:Mx}{c:Nat->Nat}(h:∀i j,i<R->j<k->d*M i (c j)=sumN S fun l=>X i l*N l (c j))(hs:Som R M k c):Som S N k c:=by
 obtain⟨f,hf,hne⟩:=hs;refine Classical.byContradiction fun hn=>hne ?_;have h1:(0:Int)∣det k (mul S (fun i=>X (f i)) fun i j=>N i (c j)):=p_b _ _ (n_d (fun i j=>N i (c j)) fun f' hf'=>by
  rw[Classical.byContradiction fun h2=>hn ⟨f',hf',h2⟩];exact Int.dvd_refl 0)
 have h2:det k (mul S (fun i=>X (f i)) fun i j=>N i (c j))=0:=Int.zero_dvd.mp h1;rw[<-det_ext (M:=fun i j=>d*M (f i) (c j)) (N:=mul S (fun i=>X (f i)) fun i j=>N i (c j)) fun i j hi hj=>h (f i) j (hf.lt i hi) hj,g_t]at h2;exact(Int.mul_eq_zero.mp h2).resolve_left (k_a hd k)
noncomputable def piv (R:Nat)(M:Mx):Nat->List Nat
 |0=>[]
 |c+1=>open Classical in if Som R M (piv R M c).length.succ (fun j=>(piv R M c++[c]).getD j 0)then piv R M c++[c]else piv R M c
theorem piv_yes {c:Nat}(h:Som R M ((piv R M c).length+1) fun j=>(piv R M c++[c]).getD j 0):piv R M (c+1)=piv R M c++[c]:=by
 simp only[piv];rw[if_pos h]
theorem piv_no {c:Nat}(h:¬Som R M ((piv R M c).length+1) fun j=>(piv R M c++[c]).getD j 0):piv R M (c+1)=piv R M c:=by
 simp only[piv];rw[if_neg h]
end DT
end
end Go.Proofs.Ytlgjjnmmepgafaa
