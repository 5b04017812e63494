/- PmX01 -/
import Derived.Test.YtkgghhklbbfdiaaGreatPm35
import Derived.KernelRfl
set_option linter.unusedVariables false
set_option linter.unusedSimpArgs false
set_option linter.unusedSectionVars false
set_option maxRecDepth 100000
set_option maxHeartbeats 8000000
namespace Go.Proofs.YtkgghhklbbfdiaaGreat
section
namespace RT
variable {α:Type}[CR α]
theorem j_2 (a:α):-1*a= -a:=by grind
theorem d_r [Dom α]{a b c:α}(ha:a≠0)(h:a*b=a*c):b=c:=by
 have e:a*(b - c)=0:=by grind
 have:=(Dom.int _ _ e).resolve_left ha;grind
attribute [local simp] a_d a_h a_o a_g a_f a_l a_m
section
variable {n:Nat}{D:Mx α→α}
end
end RT
end
section
namespace RT
variable {α:Type}[CR α]
attribute [local simp] a_d a_h a_o a_g a_f a_l a_m
theorem cramer (k:Nat)(P:Mx α)(r:Nat→α):∃x:Nat→α,∀j,j<k→sumN k (fun a=>x a*P a j)=det k P*r j:=by
 cases k with
 |zero=>exact⟨fun _=>0,fun j h=>by(first|omega|grind)⟩
 |succ n=>
  refine⟨fun a=>sumN (n+1) fun k=>r k*cof n P a k,fun j hj=>?_⟩;have e:sumN (n+1) (fun a=>(sumN (n+1) fun k=>r k*cof n P a k)*P a j)=sumN (n+1) fun k=>r k*sumN (n+1) fun a=>P a j*cof n P a k:=by
   rw[sum_ext (g:=fun a=>sumN (n+1) fun k=>r k*(P a j*cof n P a k)) fun a _=>by rw[←sum_mul'];exact sum_ext fun k _=>by grind];rw[d_e];exact sum_ext fun k _=>sum_mul _ _ _
  rw[e,sum_ext (g:=fun k=>r k*if j=k then det (n+1) P else 0) fun k hk=>by rw[j_g n P hj hk]];rw[a_s hj fun k _ hne=>by rw[if_neg (fun e=>hne e.symm)];simp,if_pos rfl,b_z]
def blk (k:Nat)(A C B:Mx α):Mx α:=fun i j=>if i<k then(if j<k then A i j else C i (j - k))else if j<k then 0 else B (i - k) (j - k)
theorem det_upper:∀(n:Nat) (M:Mx α),(∀i j,i<n→j<n→j<i→M i j=0)→(∀i,i<n→M i i=1)→det n M=1
 |0,_,_,_=>rfl
 |n+1,M,h0,h1=>by
  rw[←c_x,a_v,a_s (i:=0) (by(first|omega|grind)) fun k hk hne=>by rw[h0 k 0 hk (by(first|omega|grind)) (by(first|omega|grind))];simp];rw[det_ext (N:=fun i j=>M (j+1) (i+1)) fun i j _ _=>by unfold minor skip;simp,c_x n fun i j=>M (i+1) (j+1),det_upper n (fun i j=>M (i+1) (j+1)) (fun i j hi hj hij=>h0 _ _ (by(first|omega|grind)) (by(first|omega|grind)) (by(first|omega|grind))) (fun i hi=>h1 _ (by(first|omega|grind))),h1 0 (by(first|omega|grind))];simp[sgn]
theorem b_2 {k:Nat}(A C B:Mx α){i j:Nat}(hi:i<k)(hj:j<k):blk k A C B i j=A i j:=by unfold blk;rw[if_pos hi,if_pos hj]
theorem c_o {k:Nat}(A C B:Mx α){i j:Nat}(hi:i<k)(hj:¬j<k):blk k A C B i j=C i (j - k):=by unfold blk;rw[if_pos hi,if_neg hj]
theorem b_t {k:Nat}(A C B:Mx α){i j:Nat}(hi:¬i<k)(hj:j<k):blk k A C B i j=0:=by unfold blk;rw[if_neg hi,if_pos hj]
theorem b_f {k:Nat}(A C B:Mx α){i j:Nat}(hi:¬i<k)(hj:¬j<k):blk k A C B i j=B (i - k) (j - k):=by unfold blk;rw[if_neg hi,if_neg hj]
theorem e_5 (k m:Nat)(C:Mx α):det (k+m) (blk k one C one)=1:=by
 refine det_upper _ _ (fun i j hi hj hij=>?_) (fun i hi=>?_)
 ·by_cases h1:i<k
  ·rw[b_2 _ _ _ h1 (by(first|omega|grind))];exact b_a (by(first|omega|grind))
  ·by_cases h2:j<k
   ·exact b_t _ _ _ h1 h2
   ·rw[b_f _ _ _ h1 h2];exact b_a (by(first|omega|grind))
 ·by_cases h1:i<k
  ·rw[b_2 _ _ _ h1 h1];exact a_q _
  ·rw[b_f _ _ _ h1 h1];exact a_q _
theorem j_e (k m:Nat)(A:Mx α):det (k+m) (blk k A (fun _ _=>0) one)=det k A:=by
 have h:AltM k fun A:Mx α=>det (k+m) (blk k A (fun _ _=>0) one):=
  { ext:=fun M N he=>det_ext fun i j hi hj=>by
     unfold blk;repeat' split
     ·exact he i j (by assumption) (by assumption)
     all_goals rfl
    lin:=fun M i u v c hi=>by
     have e:∀w:Nat→α,blk k (setr M i w) (fun _ _=>0) one=setr (blk k M (fun _ _=>0) one) i fun j=>if j<k then w j else 0:=fun w=>by
      funext a b
      by_cases h1:a=i
      ·subst h1;by_cases h2:b<k
       ·rw[b_2 _ _ _ hi h2];simp only[setr,if_true,if_pos h2]
       ·rw[c_o _ _ _ hi h2];simp only[setr,if_true,if_neg h2]
      ·simp only[blk,setr,if_neg h1]
     rw[e,e,e,←(a_2 (k+m)).lin _ _ _ _ c (by(first|omega|grind))];congr 2
     funext j
     by_cases h2:j<k
     ·simp only[if_pos h2]
     ·simp only[if_neg h2];simp
    alt:=fun M i hi he=>(a_2 (k+m)).alt _ i (by(first|omega|grind)) fun j hj=>by
     by_cases h2:j<k
     ·rw[b_2 _ _ _ (by(first|omega|grind)) h2,b_2 _ _ _ hi h2];exact he j h2
     ·rw[c_o _ _ _ (by(first|omega|grind)) h2,c_o _ _ _ hi h2] }
 have:=alt_det k _ h A;rw[e_5,a_o]at this;exact this
theorem j_d (k m:Nat)(A C:Mx α):det (k+m) (blk k A C one)=det k A:=by
 rw[←j_e k m A,←a_g (det (k+m) (blk k A (fun _ _=>0) one)),←e_5 k m C,←d_l];refine det_ext fun i j hi hj=>?_;unfold mul;rw[c_i];by_cases h1:i<k
 ·have e1:sumN k (fun l=>blk k one C one i l*blk k A (fun _ _=>0) one l j)=blk k A (fun _ _=>0) one i j:=by
   rw[a_s h1 fun l hl hne=>by rw[b_2 _ _ _ h1 hl,b_a (fun e=>hne e.symm)];simp,b_2 _ _ _ h1 h1,a_q,a_g]
  rw[e1];by_cases h2:j<k
  ·rw[a_7 fun l hl=>by rw[b_t (i:=k+l) _ _ _ (by(first|omega|grind)) h2];simp,b_2 _ _ _ h1 h2,b_2 _ _ _ h1 h2];simp
  ·rw[a_s (i:=j - k) (by(first|omega|grind)) fun l hl hne=>by rw[b_f (i:=k+l) _ _ _ (by(first|omega|grind)) h2,b_a (by(first|omega|grind))];simp];rw[b_f (i:=k+(j - k)) _ _ _ (by(first|omega|grind)) h2,show k+(j - k) - k=j - k by(first|omega|grind),a_q,show k+(j - k)=j by(first|omega|grind),c_o _ _ _ h1 h2,c_o _ _ _ h1 h2,c_o _ _ _ h1 h2];simp
 ·rw[a_7 fun l hl=>by rw[b_t _ _ _ h1 hl];simp];rw[a_s (i:=i - k) (by(first|omega|grind)) fun l hl hne=>by rw[b_f _ _ _ h1 (by(first|omega|grind)),b_a (by(first|omega|grind))];simp];rw[b_f (j:=k+(i - k)) _ _ _ h1 (by(first|omega|grind)),show k+(i - k) - k=i - k by(first|omega|grind),a_q,show k+(i - k)=i by(first|omega|grind)];by_cases h2:j<k
  ·rw[b_t _ _ _ h1 h2,b_t _ _ _ h1 h2];simp
  ·rw[b_f _ _ _ h1 h2,b_f _ _ _ h1 h2];simp
theorem h_c (k m:Nat)(A C B:Mx α):det (k+m) (blk k A C B)=det k A*det m B:=by
 have h:AltM m fun B:Mx α=>det (k+m) (blk k A C B):=
  { ext:=fun M N he=>det_ext fun i j hi hj=>by
     by_cases h1:i<k
     ·unfold blk;simp only[if_pos h1]
     ·by_cases h2:j<k
      ·rw[b_t _ _ _ h1 h2,b_t _ _ _ h1 h2]
      ·rw[b_f _ _ _ h1 h2,b_f _ _ _ h1 h2];exact he _ _ (by(first|omega|grind)) (by(first|omega|grind))
    lin:=fun M i u v c hi=>by
     have e:∀w:Nat→α,blk k A C (setr M i w)=setr (blk k A C M) (k+i) fun j=>if j<k then 0 else w (j - k):=fun w=>by
      funext a b
      by_cases h1:a=k+i
      ·subst h1;by_cases h2:b<k
       ·rw[b_t _ _ _ (by(first|omega|grind)) h2];simp only[setr,if_true,if_pos h2]
       ·rw[b_f _ _ _ (by(first|omega|grind)) h2];simp only[setr,if_true,if_neg h2,show k+i - k=i by(first|omega|grind)]
      ·by_cases h3:a<k
       ·simp only[blk,setr,if_neg h1,if_pos h3]
       ·simp only[blk,setr,if_neg h1,if_neg h3,if_neg (show ¬a - k=i by(first|omega|grind))]
     rw[e,e,e,←(a_2 (k+m)).lin _ _ _ _ c (by(first|omega|grind))];congr 2
     funext j
     by_cases h2:j<k
     ·simp only[if_pos h2];simp
     ·simp only[if_neg h2]
    alt:=fun M i hi he=>(a_2 (k+m)).alt _ (k+i) (by(first|omega|grind)) fun j hj=>by
     by_cases h2:j<k
     ·rw[b_t _ _ _ (by(first|omega|grind)) h2,b_t _ _ _ (by(first|omega|grind)) h2]
     ·rw[b_f _ _ _ (by(first|omega|grind)) h2,b_f _ _ _ (by(first|omega|grind)) h2,show k+i - k=i by(first|omega|grind),show k+i+1 - k=i+1 by(first|omega|grind)];exact he _ (by(first|omega|grind)) }
 have:=alt_det m _ h B;rw[j_d]at this;rw[this,b_z]
end RT
end
section
namespace RT
variable {α:Type}[CR α]
variable[Dom α]
attribute [local simp] a_d a_h a_o a_g a_f a_l a_m
def rest (k:Nat)(d:α)(G:Mx α)(x:Mx α):Mx α:=fun t j=>d*G (k+t) j - sumN k fun a=>x t a*G a j
theorem schur (k m:Nat)(d:α)(G x:Mx α)(h:∀t j,t<m→j<k→sumN k (fun a=>x t a*G a j)=d*G (k+t) j):
  d^m*det (k+m) G=det k G*det m fun t s=>rest k d G x t (k+s):=by
 have e1:det (k+m) (blk k G (fun i j=>G i (k+j)) fun t s=>rest k d G x t (k+s))=det (k+m) (mul (k+m) (fun i j=>if i<k then one i j else if j<k then - x (i - k) j else d*one i j) G):=by
  refine det_ext fun i j hi hj=>?_;unfold mul;by_cases h1:i<k
  ·rw[a_s (i:=i) (by(first|omega|grind)) fun l hl hne=>by dsimp only;rw[if_pos h1,b_a (fun e=>hne e.symm)];simp];dsimp only;rw[if_pos h1,a_q,a_g];by_cases h2:j<k
   ·rw[b_2 _ _ _ h1 h2]
   ·rw[c_o _ _ _ h1 h2,show k+(j - k)=j by(first|omega|grind)]
  ·rw[c_i];have e2:sumN k (fun l=>(if i<k then one i l else if l<k then - x (i - k) l else d*one i l)*G l j)= - sumN k fun a=>x (i - k) a*G a j:=by
    rw[←j_2,←sum_mul];exact sum_ext fun l hl=>by rw[if_neg h1,if_pos hl];grind
   have e3:sumN m (fun l=>(if i<k then one i (k+l)else if k+l<k then - x (i - k) (k+l)else d*one i (k+l))*G (k+l) j)=d*G i j:=by
    rw[a_s (i:=i - k) (by(first|omega|grind)) fun l hl hne=>by rw[if_neg h1,if_neg (by(first|omega|grind)),b_a (by(first|omega|grind))];simp];rw[if_neg h1,if_neg (by(first|omega|grind)),show k+(i - k)=i by(first|omega|grind),a_q,a_o]
   rw[e2,e3];by_cases h2:j<k
   ·rw[b_t _ _ _ h1 h2,h _ _ (by(first|omega|grind)) h2,show k+(i - k)=i by(first|omega|grind)];(first|omega|grind)
   ·rw[b_f _ _ _ h1 h2];unfold rest;rw[show k+(i - k)=i by(first|omega|grind),show k+(j - k)=j by(first|omega|grind)];(first|omega|grind)
 rw[h_c,d_l,←c_x (k+m) (fun i j=>if i<k then one i j else if j<k then - x (i - k) j else d*one i j)]at e1;rw[det_ext (M:=fun i j=>if j<k then one j i else if i<k then - x (j - k) i else d*one j i) (N:=blk k one (fun i j=>- x j i) fun i j=>d*one i j) fun i j hi hj=>by
  by_cases h1:i<k
  ·by_cases h2:j<k
   ·rw[b_2 _ _ _ h1 h2,if_pos h2];unfold one;by_cases e:i=j
    ·subst e;rfl
    ·rw[if_neg e,if_neg (fun e2=>e e2.symm)]
   ·rw[c_o _ _ _ h1 h2,if_neg h2,if_pos h1]
  ·by_cases h2:j<k
   ·rw[b_t _ _ _ h1 h2,if_pos h2,b_a (by(first|omega|grind))]
   ·rw[b_f _ _ _ h1 h2,if_neg h2,if_neg h1];unfold one;by_cases e:i=j
    ·subst e;simp
    ·rw[if_neg (fun e2=>e e2.symm),if_neg (by(first|omega|grind))],h_c,det_one,d_m,a_g]at e1
 exact e1.symm
def bord (k:Nat)(G:Mx α)(i j:Nat):Mx α:=fun a b=>G (if a<k then a else i) (if b<k then b else j)
def bd (k:Nat)(G:Mx α)(i j:Nat):α:=det (k+1) (bord k G i j)
theorem j_c (k:Nat)(G:Mx α)(i j:Nat):det k (bord k G i j)=det k G:=det_ext fun a b ha hb=>by unfold bord;rw[if_pos ha,if_pos hb]
theorem j_j (k:Nat)(G:Mx α)(i j:Nat)(x:Nat→α)(h:∀b,b<k→sumN k (fun a=>x a*G a b)=det k G*G i b):
  det k G*bd k G i j=det k G*(det k G*G i j - sumN k fun a=>x a*G a j):=by
 have e:=schur k 1 (det k G) (bord k G i j) (fun _=>x) fun t b ht hb=>by
  rw[sum_ext (g:=fun a=>x a*G a b) fun a ha=>by unfold bord;rw[if_pos ha,if_pos hb],h b hb];unfold bord;rw[if_neg (by(first|omega|grind)),if_pos hb]
 rw[j_c,g_u,g_t,a_g]at e;rw[bd,e];congr 1
 rw[a_v];simp only[sumN,sgn,det,minor];unfold rest;rw[sum_ext (g:=fun a=>x a*G a j) fun a ha=>by unfold bord;rw[if_pos ha,if_neg (by(first|omega|grind))]];unfold bord;rw[if_neg (by(first|omega|grind)),if_neg (by(first|omega|grind))];(first|omega|grind)
theorem n_h (k:Nat)(G:Mx α)(i:Nat)(hd:det k G≠0):∃x:Nat→α,∀j,bd k G i j=det k G*G i j - sumN k fun a=>x a*G a j:=by
 obtain⟨x,hx⟩:=cramer k G (G i);exact⟨x,fun j=>d_r hd (j_j k G i j x hx)⟩
theorem s_7 {n k:Nat}(hk:k<n)(X R:Mx α):det n (fun i j=>sumN k fun a=>X i a*R a j)=0:=by
 have e:det n (fun i j=>sumN k fun a=>X i a*R a j)=det n (mul n (fun i a=>if a<k then X i a else 0) R):=det_ext fun i j hi hj=>by
  unfold mul;rw[show n=k+(n - k) by(first|omega|grind),c_i,a_7 (n:=n - k) fun l hl=>by dsimp only;rw[if_neg (by(first|omega|grind))];simp];rw[a_f];exact sum_ext fun a ha=>by dsimp only;rw[if_pos ha]
 rw[e,d_l,←c_x];have e2:=(a_2 n).zero (fun i j=>if i<k then X j i else 0) (i:=n - 1) (by(first|omega|grind));rw[det_ext (N:=setr (fun i j=>if i<k then X j i else 0) (n - 1) fun _=>0) fun i j hi hj=>by
  unfold setr;by_cases h:i=n - 1
  ·rw[if_pos h,if_neg (by(first|omega|grind))]
  ·rw[if_neg h],e2,a_h]
theorem s_8 {n k:Nat}(hk:k<n){d:α}(hd:d≠0)(M X R:Mx α)(h:∀i j,i<n→j<n→d*M i j=sumN k fun a=>X i a*R a j):det n M=0:=by
 have e:d^n*det n M=0:=by
  rw[←e_4,det_ext h];exact s_7 hk X R
 exact(rmul_eq_zero.mp e).resolve_left (h_t hd n)
end RT
end
section
namespace RT
open DT (Inc sw sortP skip)
variable {α:Type}[CR α]
variable[Dom α]
attribute [local simp] a_d a_h a_o a_g a_f a_l a_m
variable {R C:Nat}{M N H K:Mx α}{u v:Nat→α}
attribute [local instance] rdvd
def DvAll (k R C:Nat)(g:α)(M:Mx α):Prop:=∀f h,Inc k R f→Inc k C h→g∣det k fun i j=>M (f i) (h j)
end RT
end
section
namespace RT
attribute [local instance] rdvd
open DT (Inc)
variable {α:Type}[CR α]
variable[Dom α]
attribute [local simp] a_d a_h a_o a_g a_f a_l a_m
variable {R C:Nat}{M N H K:Mx α}{u v:Nat→α}
theorem o_n {k:Nat}(M:Mx α)(h:∀f:Nat→Nat,Inc k R f→det k (fun i j=>M (f i) j)=0)(f:Nat→Nat)(hf:∀i,i<k→f i<R):det k (fun i j=>M (f i) j)=0:=
 rzero_dvd.mp (g_e M (fun f hf=>by rw[h f hf];exact d_u 0) f hf)
theorem piv_som:∀c,Som R M (piv R M c).length fun j=>(piv R M c).getD j 0
 |0=>⟨fun i=>i,⟨fun i hi=>by simp[piv]at hi,fun i hi=>by simp[piv]at hi⟩,by simp[piv,det,rone_ne_zero]⟩
 |c+1=>by
  by_cases hs:Som R M ((piv R M c).length+1) fun j=>(piv R M c++[c]).getD j 0
  ·rw[c_e hs,List.length_append];exact hs
  ·rw[d_b hs];exact piv_som c
theorem s_d {c:Nat}(hs:¬Som R M ((piv R M c).length+1) fun j=>(piv R M c++[c]).getD j 0):
  ∃d:α,d≠0∧∃x:Nat→α,∀i,i<R→d*M i c=sumN (piv R M c).length fun a=>x a*M i ((piv R M c).getD a 0):=by
 obtain⟨f,hf,hd⟩:=piv_som (R:=R) (M:=M) c;revert hs hd hf
 generalize hk:(piv R M c).length=k;intro hs hf hd;have hz:∀f:Nat→Nat,(∀i,i<k+1→f i<R)→det (k+1) (fun i j=>M (f i) ((piv R M c++[c]).getD j 0))=0:=
  o_n (fun i j=>M i ((piv R M c++[c]).getD j 0)) fun f' hf'=>Classical.byContradiction fun h=>hs ⟨f',hf',h⟩
 have hq:∀a,a<k→(piv R M c++[c]).getD a 0=(piv R M c).getD a 0:=fun a ha=>by
  rw[List.getD_eq_getElem?_getD,List.getD_eq_getElem?_getD,List.getElem?_append_left (by(first|omega|grind))]
 have hqk:(piv R M c++[c]).getD k 0=c:=by
  rw[List.getD_eq_getElem?_getD,List.getElem?_append_right (by(first|omega|grind)),hk];simp
 have e1:det k (fun a b=>M (if b<k then f b else b - k) ((piv R M c++[c]).getD a 0))=det k fun i j=>M (f i) ((piv R M c).getD j 0):=by
  rw[←c_x];exact det_ext fun i j hi hj=>by rw[if_pos hi,hq j hj]
 obtain⟨x,hx⟩:=n_h k (fun a b=>M (if b<k then f b else b - k) ((piv R M c++[c]).getD a 0)) k (by rw[e1];exact hd);refine⟨_,hd,x,fun i hi=>?_⟩;have e2:=hx (k+i);rw[e1,if_neg (by(first|omega|grind)),show k+i - k=i by(first|omega|grind),hqk]at e2;have e3:bd k (fun a b=>M (if b<k then f b else b - k) ((piv R M c++[c]).getD a 0)) k (k+i)=0:=by
  rw[←hz (fun b=>if b<k then f b else i) fun b hb=>by
   split
   ·exact hf.lt b (by assumption)
   ·exact hi]
  unfold bd;rw[←c_x];refine det_ext fun a b ha hb=>?_;unfold bord;rw[show(if b<k then b else k)=b by split<;>(first|omega|grind)];by_cases h1:a<k
  ·simp only[if_pos h1]
  ·simp only[if_neg h1,if_neg (show ¬k+i<k by(first|omega|grind)),show k+i - k=i by(first|omega|grind)]
 rw[e3]at e2;have e4:sumN k (fun a=>x a*M i ((piv R M c++[c]).getD a 0))=sumN k fun a=>x a*M i ((piv R M c).getD a 0):=sum_ext fun a ha=>by
  rw[hq a ha]
 rw[e4]at e2;dsimp only
 (first|omega|grind)
theorem piv_all:∀c,∃D:α,D≠0∧∃Y:Mx α,∀i j,i<R→j<c→D*M i j=sumN (piv R M c).length fun a=>Y j a*M i ((piv R M c).getD a 0)
 |0=>⟨1,rone_ne_zero,fun _ _=>0,fun i j _ h=>by(first|omega|grind)⟩
 |c+1=>by
  obtain⟨D,hD,Y,hY⟩:=piv_all c;by_cases hs:Som R M ((piv R M c).length+1) fun j=>(piv R M c++[c]).getD j 0
  ·rw[c_e hs];refine⟨D,hD,fun j a=>if j=c then(if a=(piv R M c).length then D else 0)else if a<(piv R M c).length then Y j a else 0,fun i j hi hj=>?_⟩;rw[List.length_append,List.length_singleton];by_cases e:j=c
   ·subst e;rw[a_s (i:=(piv R M j).length) (by(first|omega|grind)) fun a ha hne=>by dsimp only;rw[if_pos rfl,if_neg hne];simp];dsimp only;rw[if_pos rfl,if_pos rfl];rw[List.getD_eq_getElem?_getD,List.getElem?_append_right (by(first|omega|grind))];simp
   ·rw[hY i j hi (by(first|omega|grind))];simp only[sumN,if_neg e];rw[if_neg (by(first|omega|grind)),a_h,a_f];refine sum_ext fun a ha=>?_;rw[if_pos ha,List.getD_eq_getElem?_getD,List.getD_eq_getElem?_getD,List.getElem?_append_left ha]
  ·obtain⟨d,hd,x,hx⟩:=s_d hs;rw[d_b hs];refine⟨D*d,c_2 hD hd,fun j a=>if j=c then D*x a else d*Y j a,fun i j hi hj=>?_⟩;by_cases e:j=c
   ·subst e;rw[f_b,hx i hi,←sum_mul];exact sum_ext fun a ha=>by dsimp only;rw[if_pos rfl];grind
   ·rw[b_z D d,f_b,hY i j hi (by(first|omega|grind)),←sum_mul];exact sum_ext fun a ha=>by dsimp only;rw[if_neg e];grind
noncomputable def rk (R C:Nat)(M:Mx α):Nat:=(piv R M C).length
theorem n_j {k n:Nat}{f:Nat→Nat}(h:Inc (k+1) n f)(m:Nat)(hm:m<k+1):Inc k n fun i=>f (RT.skip m i):=by
 refine⟨fun i hi=>?_,fun i hi=>?_⟩
 ·unfold RT.skip;by_cases h1:i+1<m
  ·rw[if_pos h1,if_pos (by(first|omega|grind))];exact h.up i (by(first|omega|grind))
  ·by_cases h2:i<m
   ·rw[if_pos h2,if_neg h1];exact Nat.lt_trans (h.up i (by(first|omega|grind))) (h.up (i+1) (by(first|omega|grind)))
   ·rw[if_neg h2,if_neg h1];exact h.up (i+1) (by(first|omega|grind))
 ·unfold RT.skip;split
  ·exact h.lt i (by(first|omega|grind))
  ·exact h.lt (i+1) (by(first|omega|grind))
theorem s_5 {k:Nat}(h:DvAll k R C 0 M):DvAll (k+1) R C 0 M:=fun f h2 hf hh=>by
 rw[h_b k _ (i:=0) (by(first|omega|grind)),a_7 fun a ha=>by
  have e:=h _ _ (n_j hf 0 (by(first|omega|grind))) (n_j hh a ha);rw[show det k (minor2 (fun i j=>M (f i) (h2 j)) 0 a)=0 from rzero_dvd.mp e];simp]
 exact d_u 0
theorem piv_inc:∀c,Inc (piv R M c).length c fun j=>(piv R M c).getD j 0
 |0=>⟨fun i hi=>by simp[piv]at hi,fun i hi=>by simp[piv]at hi⟩
 |c+1=>by
  have ih:=piv_inc c;by_cases hs:Som R M ((piv R M c).length+1) fun j=>(piv R M c++[c]).getD j 0
  ·rw[c_e hs,List.length_append,List.length_singleton];have e1:∀a,a<(piv R M c).length→(piv R M c++[c]).getD a 0=(piv R M c).getD a 0:=fun a ha=>by
    rw[List.getD_eq_getElem?_getD,List.getD_eq_getElem?_getD,List.getElem?_append_left ha]
   have e2:(piv R M c++[c]).getD (piv R M c).length 0=c:=by
    rw[List.getD_eq_getElem?_getD,List.getElem?_append_right (by(first|omega|grind))];simp
   refine⟨fun i hi=>?_,fun i hi=>?_⟩
   ·rw[e1 i (by(first|omega|grind))];by_cases h1:i+1<(piv R M c).length
    ·rw[e1 _ h1];exact ih.up i h1
    ·rw[show i+1=(piv R M c).length by(first|omega|grind),e2];exact ih.lt i (by(first|omega|grind))
   ·by_cases h1:i<(piv R M c).length
    ·rw[e1 _ h1];have:=ih.lt i h1;(first|omega|grind)
    ·rw[show i=(piv R M c).length by(first|omega|grind),e2];(first|omega|grind)
  ·rw[d_b hs];exact⟨ih.up,fun i hi=>by have:=ih.lt i hi;(first|omega|grind)⟩
theorem p_d (k:Nat):DvAll k R C 0 M↔rk R C M<k:=by
 refine⟨fun h=>?_,fun h f h2 hf hh=>?_⟩
 ·rcases Nat.lt_or_ge (rk R C M) k with h1|h1
  ·exact h1
  ·exfalso
   have h3:∀n,DvAll (k+n) R C 0 M:=fun n=>by
    induction n with
    |zero=>exact h
    |succ n ih=>exact s_5 ih
   have h4:=h3 (rk R C M - k);rw[show k+(rk R C M - k)=rk R C M by(first|omega|grind)]at h4;obtain⟨f,hf,hd⟩:=piv_som (R:=R) (M:=M) C;exact hd (rzero_dvd.mp (h4 f _ hf (piv_inc C)))
 ·obtain⟨D,hD,Y,hY⟩:=piv_all (R:=R) (M:=M) C;have e:det k (fun i j=>M (f j) (h2 i))=0:=s_8 (k:=rk R C M) h hD _ (fun i a=>Y (h2 i) a) (fun a j=>M (f j) ((piv R M C).getD a 0)) fun i j hi hj=>hY (f j) (h2 i) (hf.lt j hj) (hh.lt i hi);rw[←c_x,e];exact d_u 0
end RT
end
section
open Go.RowKit
theorem i_t {q q':Bool}{R C S n d n' d' k K:Nat}{A A':Option Addr}{F G:Nat→Nat→Rat}{w:World}(ha:Mq q w R C A n d k F)(hb:Mq q' w C S A' n' d' k G)(hk0:1≤k)(hK:kb (2*k) C≤K)(hKb:K≤1073741824):Calls Tryz.prog 23 #[.agg #[.int .i64 (R:Int),.int .i64 (C:Int),.slice A n d],.agg #[.int .i64 (C:Int),.int .i64 (S:Int),.slice A' n' d']] w (RetK (kMq true R S K (fun i j=>RT.mul C F G i j)) w):=by
 have hR:=ha.hr;have hC:=ha.hc;have hS:=hb.hc;obtain⟨N,hN⟩:∃N,R*S=N:=⟨_,rfl⟩;have hNb:N≤64*64:=by rw[←hN];exact Nat.mul_le_mul hR hS
 have HNN:=Lib.hid hN;obtain⟨L,hL⟩:∃L,qmk R S (fun i j=>RT.mul C F G i j)=L:=⟨_,rfl⟩;have HLN:Hid (L.length=N):=Lib.hid (by rw[←hL,a_4,hN]);have HAT:Hid (∀i j,i<R→j<S→rth L (i*S+j)=RT.mul C F G i j):=Lib.hid fun i j hi hj=>by rw[←hL];exact h_s hi hj
 have HL:=Lib.hid hL;have HA:=Lib.hid ha;have HB_:=Lib.hid hb;have hkt:∀t,t≤C→kb (2*k) t≤K:=fun t ht=>Nat.le_trans (k_j ht) hK;have HKT:=Lib.hid hkt;clear hN hL ha hb hkt;obtain⟨w1,hw1,b2,b3,b4,z1,s1⟩:=boxes3 w 24 24 24 [.int .i64 (R:Int),.int .i64 (C:Int),.slice A n d] [.int .i64 (C:Int),.int .i64 (S:Int),.slice A' n' d'] [.int .i64 0,.int .i64 0,.slice none 0 0];have HW:=Lib.hid hw1;have HZ:=Lib.hid z1;clear hw1 z1 s1;go_enter Tryz.func23,Tryz.ntmps23
 go_upto_region 1 with fail
 rw[HW.out];refine Run.start 6 ?_;refine .fa .o (fQ0 0) ?_;refine .ld (.i 0) (ldInt b2 0) ?_;refine .fa .o (fQ1 1) ?_;refine .ld (.i 2) (ldInt b3 1) ?_;refine .bdMq (.i 1) (.i 3) (x:=(R:Int)) (y:=(S:Int)) ?_;refine .al ?_;refine .donep [some 10,some 11,some 12,some 13,some 14,some 5] ?_;intro w2 B2;rintro g5 hg5 hl5 hc5 -;change Shut (wpList _ _ _ [_] _ _);refine⟨?_⟩;simp only[Act.put,lS,lZ,lC];have b5:=zeroMq hc5;have B0:=zup HZ.out B2;have l2:=b2.lt;have l3:=b3.lt;have l4:=b4.lt;replace b2:=b2.below B2;replace b3:=b3.below B2;replace b4:=b4.below B2;obtain⟨w3,hw3⟩:∃x,mput w2 g5 (R:Int) (S:Int) none 0 0=x:=⟨_,rfl⟩;obtain⟨f0_,f1_,f2_,f3_,f4_,f5_,f6_⟩:=b5.m3T;have hgr_:=a_k w2 g5 (R:Int) (S:Int) none 0 0;rw[hw3]at hgr_;replace b2:=a_a b2 hgr_ (by omega);replace b3:=a_a b3 hgr_ (by omega);replace b4:=a_a b4 hgr_ (by omega);replace B0:=a_c B0 hgr_ (by omega);replace b5:=b5.mpT (r':=(R:Int)) (c':=(S:Int)) (C:=none) (n':=0) (d':=0);rw[hw3]at b5;have Hw3:=Lib.hid hw3;unfold mput at Hw3;have l5:=b5.lt;obtain⟨bs,hbs⟩:∃bs,w3.heap.size=bs:=⟨_,rfl⟩;have hg5w:w.heap.size+1+1<g5:=by omega
 have hg5b:g5<bs:=by omega
 clear hw3 hgr_ B2 hc5 HZ HW hl5 hg5;go_upto_region 2 with fail
 rw[Hw3.out];clear f0_ f1_ f2_ f3_ f4_ f5_ f6_ Hw3;have H0:Hid (Below w.heap.size w w3∧bs≤w3.heap.size∧Bx w3 w.heap.size 24 [.int .i64 (R:Int),.int .i64 (C:Int),.slice A n d]∧Bx w3 (w.heap.size+1) 24 [.int .i64 (C:Int),.int .i64 (S:Int),.slice A' n' d']∧Bx w3 (w.heap.size+1+1) 24 [.int .i64 0,.int .i64 0,.slice none 0 0]∧∃vs,Bx w3 g5 24 [.int .i64 (R:Int),.int .i64 (S:Int),vs]∧Oq true bs w3 K vs (L.take (0*S))):=Lib.hid ⟨B0,by omega,b2,b3,b4,_,b5,by rw[Nat.zero_mul];exact Oq.nil _ _ _ _⟩;clear b2 b3 b4 b5 B0 hbs
 go_wp2_with fail
 go_loopw [6] (fun s6 wr=>∃i:Nat,s6= .int .i64 (i:Int)∧i≤R∧Hid (Below w.heap.size w wr∧bs≤wr.heap.size∧Bx wr w.heap.size 24 [.int .i64 (R:Int),.int .i64 (C:Int),.slice A n d]∧Bx wr (w.heap.size+1) 24 [.int .i64 (C:Int),.int .i64 (S:Int),.slice A' n' d']∧Bx wr (w.heap.size+1+1) 24 [.int .i64 0,.int .i64 0,.slice none 0 0]∧∃vs,Bx wr g5 24 [.int .i64 (R:Int),.int .i64 (S:Int),vs]∧Oq true bs wr K vs (L.take (i*S)))) (fun s6 _=>R - (intOf s6).toNat)
 case atStart=>exact⟨0,rfl,Nat.zero_le _,H0⟩
 case round=>
  clear H0;obtain⟨i,rfl,hi,HB⟩:=hrel;obtain⟨B0,hbs,b2,b3,b4,vs,b5,ho⟩:=HB.out;obtain⟨i0,i1,i2,i3,i4,i5,i6⟩:=b2.m3T;by_cases hlt:i<R
  ·have u1:(i:Int)<(R:Int):=by omega
   clear b2 b3 b4 b5 ho B0 vs hbs
   go_wp2_with fail
   clear i0 i1 i2 i3 i4 i5 i6;go_loopw [7] (fun s7 wr=>∃j:Nat,s7= .int .i64 (j:Int)∧j≤S∧Hid (Below w.heap.size w wr∧bs≤wr.heap.size∧Bx wr w.heap.size 24 [.int .i64 (R:Int),.int .i64 (C:Int),.slice A n d]∧Bx wr (w.heap.size+1) 24 [.int .i64 (C:Int),.int .i64 (S:Int),.slice A' n' d']∧Bx wr (w.heap.size+1+1) 24 [.int .i64 0,.int .i64 0,.slice none 0 0]∧∃vs,Bx wr g5 24 [.int .i64 (R:Int),.int .i64 (S:Int),vs]∧Oq true bs wr K vs (L.take (i*S+j)))) (fun s7 _=>S - (intOf s7).toNat)
   case atStart=>exact⟨0,rfl,Nat.zero_le _,HB⟩
   case round=>
    clear HB;obtain⟨j,rfl,hj,HB⟩:=hrel;obtain⟨B0,hbs,b2,b3,b4,vs,b5,ho⟩:=HB.out;clear HB;obtain⟨i0,i1,i2,i3,i4,i5,i6⟩:=b3.m3T;by_cases hjl:j<S
    ·have u2:(j:Int)<(S:Int):=by omega
     go_upto_region 8 with fail
     clear i0 i1 i2 i3 i4 i5 i6;refine Run.start 3 ?_;refine .c1 .o (x:=kC 0 1) (by rintro u w2 hB rfl;exact e_h (by decide) (by decide) w2) ?_;refine .c1 (.i 0) (x:=kQ ((0:Int):Rat) 1) (by intro u w4 hB hu;exact h_m 1 hu.v (Nat.le_refl _) (Nat.le_refl _) (by omega)) ?_;refine .al ?_;refine .donep [some 27,some 28,some 8] ?_;intro w4 B4;rintro v27 -;rintro v ⟨s_,A_,n_,c_,t_,B_,m_,d_,rfl,hz,hk1,hk2⟩;rintro g8 hg8 hl8 hc8 -;change Shut (wpList _ _ _ [_] _ _);refine⟨?_⟩;simp only[Act.put,lS,lZ,lC];have b8:=zeroQ hc8;have l_b2:=b2.lt;have l_b3:=b3.lt;have l_b4:=b4.lt;have l_b5:=b5.lt;have hs0:=B0.size;have ho8:∀g,vs.ownBlock=some g→g<g8:=fun g hg=>Nat.lt_of_lt_of_le (ho.lt hg).2 hg8;replace B0:=zup B0 B4;replace b2:=b2.below B4;replace b3:=b3.below B4;replace b4:=b4.below B4;replace b5:=b5.below B4;replace ho:=ho.below B4;have hsz4:=B4.size;clear B4 hc8 hl8;obtain⟨w5,hw5⟩:∃x,rput w4 g8 s_ A_ n_ c_ t_ B_ m_ d_=x:=⟨_,rfl⟩;obtain⟨f1_,f2_,f3_,f4_,f5_,f6_,f7_,f8_,f9_⟩:=b8.rb;have hgr_:=b_p w4 g8 s_ A_ n_ c_ t_ B_ m_ d_;have hgs5_:=hgr_.size;have hno_:Wless w4 g8:=b8.now (by simp);rw[hw5]at hgr_ hgs5_;replace b2:=a_a b2 hgr_ (by omega);replace b3:=a_a b3 hgr_ (by omega);replace b4:=a_a b4 hgr_ (by omega);replace b5:=a_a b5 hgr_ (by omega);replace hz:=hz.gro hno_ hgr_;replace ho:=ho.gro (fun e=>by have:=ho8 _ e;omega) hno_ hgr_;replace B0:=a_c B0 hgr_ (by omega);replace b8:=b8.rp (s':=s_) (A':=A_) (n':=n_) (c':=c_) (t':=t_) (B':=B_) (m':=m_) (d':=d_);rw[hw5]at b8;have Hw5:=Lib.hid hw5;unfold rput at Hw5;clear hw5 hgr_ hno_;have hs5:=B0.size;have H0:Hid (Below w.heap.size w w5∧bs≤w5.heap.size∧Bx w5 w.heap.size 24 [.int .i64 (R:Int),.int .i64 (C:Int),.slice A n d]∧Bx w5 (w.heap.size+1) 24 [.int .i64 (C:Int),.int .i64 (S:Int),.slice A' n' d']∧Bx w5 (w.heap.size+1+1) 24 [.int .i64 0,.int .i64 0,.slice none 0 0]∧Bx w5 g5 24 [.int .i64 (R:Int),.int .i64 (S:Int),vs]∧Oq true bs w5 K vs (L.take (i*S+j))∧∃e1 e2 e3 e4 e5 e6 e7 e8,Bx w5 g8 46 [.bool e1,.slice e2 e3 e4,.bool e5,.slice e6 e7 e8]∧Qc w5 e1 e2 e3 e4 e5 e6 e7 e8 (RT.mul (0) F G i j)∧e3≤kb (2*k) (0)∧e7≤kb (2*k) (0)):=Lib.hid ⟨B0,by have:=hgs5_;omega,b2,b3,b4,b5,ho,_,_,_,_,_,_,_,_,b8,hz,by rw[e_q];omega,by rw[e_q];omega⟩;have l8:=b8.lt;have h8w:w.heap.size+1+1<g8:=by omega
     have h85:g5<g8:=by omega
     have HO8:=Lib.hid ho8;clear b2 b3 b4 b5 b8 B0 hz ho hk1 hk2 ho8 l_b2 l_b3 l_b4 l_b5 l8 hs5 hsz4 hg8
     go_wp2_with fail
     rw[Hw5.out];clear f1_ f2_ f3_ f4_ f5_ f6_ f7_ f8_ f9_ Hw5;go_loopw [9] (fun s9 wr=>∃t:Nat,s9= .int .i64 (t:Int)∧t≤C∧Hid (Below w.heap.size w wr∧bs≤wr.heap.size∧Bx wr w.heap.size 24 [.int .i64 (R:Int),.int .i64 (C:Int),.slice A n d]∧Bx wr (w.heap.size+1) 24 [.int .i64 (C:Int),.int .i64 (S:Int),.slice A' n' d']∧Bx wr (w.heap.size+1+1) 24 [.int .i64 0,.int .i64 0,.slice none 0 0]∧Bx wr g5 24 [.int .i64 (R:Int),.int .i64 (S:Int),vs]∧Oq true bs wr K vs (L.take (i*S+j))∧∃e1 e2 e3 e4 e5 e6 e7 e8,Bx wr g8 46 [.bool e1,.slice e2 e3 e4,.bool e5,.slice e6 e7 e8]∧Qc wr e1 e2 e3 e4 e5 e6 e7 e8 (RT.mul (t) F G i j)∧e3≤kb (2*k) (t)∧e7≤kb (2*k) (t))) (fun s9 _=>C - (intOf s9).toNat)
     case atStart=>exact⟨0,rfl,Nat.zero_le _,H0⟩
     case round=>
      clear H0;obtain⟨t,rfl,ht,HB⟩:=hrel;obtain⟨B0,hbs,b2,b3,b4,b5,ho,s8,A8,n8,c8,t8,B8,m8,d8,b8,hz8,hk1,hk2⟩:=HB.out;clear HB;obtain⟨i0,i1,i2,i3,i4,i5,i6⟩:=b2.m3T;by_cases htl:t<C
      ·have u3:(t:Int)<(C:Int):=by omega
       have hkt1:=HKT.out (t+1) (by omega);have hks:=i_4 (2*k) t;have hkl:=k_j (K:=2*k) (i:=0) (j:=t) (Nat.zero_le _);rw[e_q]at hkl;have hls:=B0.size;go_upto_region 12 with fail
       clear i0 i1 i2 i3 i4 i5 i6;refine Run.start 11 ?_;refine .ld .o (ldQr b8) ?_;refine .ld .o (ldQm b2 0) ?_;refine .mv .o ?_;refine .mv .o ?_;refine .c3 (.i 1) (.i 2) (.i 3) (x:=kQv (F i t) k) (by rintro u v x w4 hB rfl rfl rfl;exact c_4 (HA.out.below (zup B0 hB)) hlt htl) ?_;refine .ld .o (ldQm b3 0) ?_;refine .mv .o ?_;refine .mv .o ?_;refine .c3 (.i 5) (.i 6) (.i 7) (x:=kQv (G t j) k) (by rintro u v x w4 hB rfl rfl rfl;exact c_4 (HB_.out.below (zup B0 hB)) htl hjl) ?_;refine .c2 (.i 4) (.i 8) (x:=kQ (F i t*G t j) (2*k)) (by intro u v w4 hB hu hv;exact t_z k hu hv (Nat.le_refl _) (Nat.le_refl _) hk0 (by omega) (Nat.le_refl _)) ?_;refine .c2 (.i 0) (.i 9) (x:=kQ (RT.mul (t+1) F G i j) (kb (2*k) (t+1))) (by rintro u v w4 hB rfl hv;exact t_3 (kb (2*k) t) ⟨_,_,_,_,_,_,_,_,rfl,(hz8.below hB).qv,hk1,hk2⟩ hv.v (Nat.le_refl _) hkl (by omega) (by omega) (by omega)) ?_;refine .done [some 35,some 36,some 37,some 38,some 39,some 40,some 41,some 42,some 43,some 44,some 45] ?_;intro w6 B6;rintro v39 -;rintro v43 -;rintro v44 -;rintro v ⟨s9,A9,n9,c9,t9,B9,m9,d9,rfl,hz9,hk3,hk4⟩;change Shut (wpList _ _ _ [_] _ _);refine⟨?_⟩;simp only[Act.put,lS,lZ,lC];have hsz6:=B6.size;replace B0:=zup B0 B6;replace b2:=b2.below B6;replace b3:=b3.below B6;replace b4:=b4.below B6;replace b5:=b5.below B6;replace ho:=ho.below B6;replace b8:=b8.below B6;clear B6 hz8;have l_b2:=b2.lt;obtain⟨w7,hw7⟩:∃x,rput w6 g8 s9 A9 n9 c9 t9 B9 m9 d9=x:=⟨_,rfl⟩;obtain⟨f1_,f2_,f3_,f4_,f5_,f6_,f7_,f8_,f9_⟩:=b8.rb;have hgr_:=b_p w6 g8 s9 A9 n9 c9 t9 B9 m9 d9;have hgs7_:=hgr_.size;have hno_:Wless w6 g8:=b8.now (by simp);rw[hw7]at hgr_ hgs7_;replace b2:=a_a b2 hgr_ (by omega);replace b3:=a_a b3 hgr_ (by omega);replace b4:=a_a b4 hgr_ (by omega);replace b5:=a_a b5 hgr_ (by omega);replace hz9:=hz9.gro hno_ hgr_;replace ho:=ho.gro (fun e=>by have:=HO8.out _ e;omega) hno_ hgr_;replace B0:=a_c B0 hgr_ (by omega);replace b8:=b8.rp (s':=s9) (A':=A9) (n':=n9) (c':=c9) (t':=t9) (B':=B9) (m':=m9) (d':=d9);rw[hw7]at b8;have Hw7:=Lib.hid hw7;unfold rput at Hw7;clear hw7 hgr_ hno_;have HN:Hid (Below w.heap.size w w7∧bs≤w7.heap.size∧Bx w7 w.heap.size 24 [.int .i64 (R:Int),.int .i64 (C:Int),.slice A n d]∧Bx w7 (w.heap.size+1) 24 [.int .i64 (C:Int),.int .i64 (S:Int),.slice A' n' d']∧Bx w7 (w.heap.size+1+1) 24 [.int .i64 0,.int .i64 0,.slice none 0 0]∧Bx w7 g5 24 [.int .i64 (R:Int),.int .i64 (S:Int),vs]∧Oq true bs w7 K vs (L.take (i*S+j))∧∃e1 e2 e3 e4 e5 e6 e7 e8,Bx w7 g8 46 [.bool e1,.slice e2 e3 e4,.bool e5,.slice e6 e7 e8]∧Qc w7 e1 e2 e3 e4 e5 e6 e7 e8 (RT.mul (t+1) F G i j)∧e3≤kb (2*k) (t+1)∧e7≤kb (2*k) (t+1)):=Lib.hid ⟨B0,by have:=hgs7_;omega,b2,b3,b4,b5,ho,_,_,_,_,_,_,_,_,b8,hz9,hk3,hk4⟩;clear b2 b3 b4 b5 b8 B0 ho hz9
       go_wp2_with fail
       rw[Hw7.out];clear f1_ f2_ f3_ f4_ f5_ f6_ f7_ f8_ f9_ Hw7;go_roundw
       case rel=>exact⟨t+1,by go_num,by omega,HN⟩
       case measure=>first|(simp[intOf];done)|(simp[intOf];omega)
      ·obtain rfl:t=C:=by omega
       have u3:¬(t:Int)<(t:Int):=by omega
       have hkt1:=HKT.out t (Nat.le_refl _);have hm:=g_0 hlt hjl;rw[HNN.out]at hm;obtain⟨Av,cv,rfl,-⟩:=ho.form hbs;obtain⟨nv,hnv⟩:∃nv,(L.take (i*S+j)).length=nv:=⟨_,rfl⟩;have hlen:(L.take (i*S+j)).length≤4096:=by rw[List.length_take,HLN.out];omega
       have HLEN:=Lib.hid hlen;clear hlen;rw[hnv]at b5 ho;try rw[hnv]
       have HNV:=Lib.hid hnv;clear hnv;have hls:=B0.size;have l_b5:=b5.lt;go_upto_region 13 with fail
       clear i0 i1 i2 i3 i4 i5 i6;refine Run.start 4 ?_;refine .fa .o (fQ2 2) ?_;refine .ld (.i 0) (ldQl b5 2) ?_;refine .ld .o (ldQr b8) ?_;refine .bsk (.i 2) (Nat.le_refl _) ?_;refine .donep [some 46,some 47,some 48,some 49] ?_;intro w6 B6;rintro v ⟨gx,rfl,bg,hge⟩;change Shut (wpList _ _ _ [_,_,_] _ _);refine⟨?_⟩;simp only[Act.put,lS,lZ,lC];have hsz6:=B6.size;replace B0:=zup B0 B6;replace b2:=b2.below B6;replace b3:=b3.below B6;replace b4:=b4.below B6;replace b5:=b5.below B6;replace ho:=ho.below B6;replace hz8:=hz8.below B6;have hbs6:bs≤w6.heap.size:=by omega
       clear B6 b8
       go_wp2_with (at_builtin;refine e_i rfl _ _ 22 rfl Tryz.underlying22 info_rat rfl ho hbs6 bg (.of hz8) (Nat.le_trans hk1 hkt1) (Nat.le_trans hk2 hkt1) rfl (by have:=HLEN.out;omega) ?_)
       intro v5 w7 ho7 hG;have hvb:∀g,(Value.slice Av nv cv).ownBlock=some g→bs≤g:=fun g hg=>(ho.lt hg).1;have hmt:i*S+j<L.length:=by rw[HLN.out];exact hm
       rw[show RT.mul t F G i j=rth L (i*S+j)from(HAT.out i j hlt hjl).symm,j_r hmt,Nat.add_assoc]at ho7;have b2':=hG.bx b2 (fun e=>by have:=hvb _ e;omega);have b3':=hG.bx b3 (fun e=>by have:=hvb _ e;omega);have b4':=hG.bx b4 (fun e=>by have:=hvb _ e;omega);have b5':=hG.bx b5 (fun e=>by have:=hvb _ e;omega);have B7:=g_6 B0 hG fun g hg=>by have:=hvb g hg;omega
       have hno:Wless w7 g5:=b5'.now (by simp);have hgr:w7.grownBy (w7.setCell ⟨g5,2,none⟩ v5) (some g5):=a_n (q:=⟨g5,2,none⟩) (a_u w7 (some g5)) rfl _;have hv7:v5.ownBlock≠some g5:=fun e=>by have:=(ho7.lt e).1;omega
       have hs7:=hG.by'.size;have HN:Hid (Below w.heap.size w (w7.setCell ⟨g5,2,none⟩ v5)∧bs≤(w7.setCell ⟨g5,2,none⟩ v5).heap.size∧Bx (w7.setCell ⟨g5,2,none⟩ v5) w.heap.size 24 [.int .i64 (R:Int),.int .i64 (t:Int),.slice A n d]∧Bx (w7.setCell ⟨g5,2,none⟩ v5) (w.heap.size+1) 24 [.int .i64 (t:Int),.int .i64 (S:Int),.slice A' n' d']∧Bx (w7.setCell ⟨g5,2,none⟩ v5) (w.heap.size+1+1) 24 [.int .i64 0,.int .i64 0,.slice none 0 0]∧∃vs,Bx (w7.setCell ⟨g5,2,none⟩ v5) g5 24 [.int .i64 (R:Int),.int .i64 (S:Int),vs]∧Oq true bs (w7.setCell ⟨g5,2,none⟩ v5) K vs (L.take (i*S+(j+1)))):=Lib.hid ⟨a_c B7 hgr (by omega),by have:=hgr.size;omega,a_a b2' hgr (by omega),a_a b3' hgr (by omega),a_a b4' hgr (by omega),_,b5'.set 2 v5,ho7.gro hv7 hno hgr⟩;have i2:=b5'.cell 2;have i2':=b5'.free 2;have i3:=b5'.lt;simp only[List.getElem?_cons_succ,List.getElem?_cons_zero]at i2;obtain⟨A5,c5,rfl,-⟩:=ho7.form (by omega);obtain⟨nl,hnl⟩:∃nl,(L.take (i*S+(j+1))).length=nl:=⟨_,rfl⟩;rw[hnl]at HN;try rw[hnl]
       clear b2 b3 b4 b5 b2' b3' b4' b5' B0 B7 ho ho7 hG hgr hno hnl hvb hm hmt hge hv7 hz8 bg
       go_wp2_with fail
       go_roundw
       case rel=>exact⟨j+1,by go_num,by omega,HN⟩
       case measure=>first|(simp[intOf];done)|(simp[intOf];omega)
    ·obtain rfl:j=S:=by omega
     have u2:¬(j:Int)<(j:Int):=by omega
     have HN:Hid (Below w.heap.size w wr∧bs≤wr.heap.size∧Bx wr w.heap.size 24 [.int .i64 (R:Int),.int .i64 (C:Int),.slice A n d]∧Bx wr (w.heap.size+1) 24 [.int .i64 (C:Int),.int .i64 (j:Int),.slice A' n' d']∧Bx wr (w.heap.size+1+1) 24 [.int .i64 0,.int .i64 0,.slice none 0 0]∧∃vs,Bx wr g5 24 [.int .i64 (R:Int),.int .i64 (j:Int),vs]∧Oq true bs wr K vs (L.take ((i+1)*j))):=Lib.hid ⟨B0,hbs,b2,b3,b4,vs,b5,by rw[Nat.succ_mul];exact ho⟩;clear b2 b3 b4 b5 ho B0
     go_wp2_with fail
     go_roundw
     case rel=>exact⟨i+1,by go_num,by omega,HN⟩
     case measure=>first|(simp[intOf];done)|(simp[intOf];omega)
  ·obtain rfl:i=R:=by omega
   have u1:¬(i:Int)<(i:Int):=by omega
   clear HB;obtain⟨Av,cv,rfl,hql⟩:=ho.form hbs;have hfl:(L.take (i*S)).length=N:=by rw[List.length_take,HLN.out,HNN.out];omega
   have hft:L.take (i*S)=L:=List.take_of_length_le (by rw[HLN.out,HNN.out];exact Nat.le_refl _);rw[hft,HLN.out]at hql;rw[hfl]at b5;rw[←HL.out]at hql;have hM:Mq true wr i S Av N cv K (fun i j=>RT.mul C F G i j):=⟨hql,hR,hS⟩;have hls:=B0.size;clear hql ho hft b2 b3;go_upto_region 14 with fail
   clear i0 i1 i2 i3 i4 i5 i6;refine Run.start 1 ?_;refine .ld .o (ldQm b5 0) ?_;refine .donep [some 52] ?_;intro w8 B8;change Shut (wpList _ _ _ [_] _ _);refine⟨?_⟩;simp only[Act.put,lS,lZ,lC];replace b4:=b4.below B8;replace hM:=hM.below B8;have P:=Lib.hid (retMq hM b4 (by omega) (zup B0 B8));unfold mput at P;obtain⟨i0,i1,i2,i3,i4,i5,i6⟩:=b4.m3T;clear hM B8 b5
   go_wp2_with fail
   exact bodyPost_ret (v:=.agg #[.int .i64 (i:Int),.int .i64 (S:Int),.slice Av N cv]) (by simp[results,Tryz.results23,go_sem,i0,i1,i2]) rfl P.out
end
end Go.Proofs.YtkgghhklbbfdiaaGreat
