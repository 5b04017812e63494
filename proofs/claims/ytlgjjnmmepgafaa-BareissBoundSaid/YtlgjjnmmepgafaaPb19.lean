/- Pb19 -/
import Derived.Test.YtlgjjnmmepgafaaPb18
set_option linter.unusedVariables false
set_option linter.unusedSimpArgs false
set_option linter.unusedSectionVars false
set_option maxRecDepth 100000
set_option maxHeartbeats 8000000
namespace Go.Proofs.Ytlgjjnmmepgafaa
namespace DT
def idx (i m a:Nat):Nat:=if a<m then a else if a=m then i else if a<=i then a - 1 else a
theorem AltM.move {n:Nat}{D:Mx->Int}(h:AltM n D)(M:Mx){i:Nat}(hi:i<n):∀m,m<=i->D (fun a=>M (idx i 0 a))=sgn m*D (fun a=>M (idx i m a))
 |0,_=>by simp[sgn]
 |m+1,hm=>by
  rw[AltM.move h M hi m (by omega)];have e:=h.swap1 (fun a=>M (idx i m a)) (i:=m) (by omega);have e2:D (fun a=>M (idx i (m+1) a))=D (setr (setr (fun a=>M (idx i m a)) m (M (idx i m (m+1)))) (m+1) (M (idx i m m))):=h.ext _ _ fun a j ha hj=>by
   simp only[setr];by_cases h1:a=m+1
   ·subst h1;rw[if_pos rfl,show idx i (m+1) (m+1)=i by unfold idx;simp,show idx i m m=i by unfold idx;simp]
   ·rw[if_neg h1];by_cases h2:a=m
    ·subst h2;rw[if_pos rfl,show idx i (a+1) a=a by unfold idx;simp,show idx i a (a+1)=a by unfold idx;rw[if_neg (by omega),if_neg (by omega),if_pos hm];omega]
    ·rw[if_neg h2,show idx i (m+1) a=idx i m a by unfold idx;repeat' split
                                                  all_goals first|rfl|(exfalso;omega)]
  rw[e2,e];simp only[sgn];grind
theorem m_o (i a:Nat):idx i i a=a:=by
 unfold idx;repeat' split
 all_goals omega
theorem m_n (i a:Nat):idx i 0 (a+1)=skip i a:=by
 unfold idx skip;repeat' split
 all_goals omega
def minor2 (M:Mx)(i k:Nat):Mx:=fun a b=>M (skip i a) (skip k b)
theorem p_z (n:Nat)(M:Mx){i:Nat}(hi:i<n+1):det (n+1) M=sumN (n+1) fun k=>sgn (i+k)*M i k*det n (minor2 M i k):=by
 have e:=(a_p (n+1)).move M hi i (Nat.le_refl _);have e1:det (n+1) (fun a=>M (idx i i a))=det (n+1) M:=det_ext fun a b _ _=>by rw[m_o]
 rw[e1]at e;have e2:det (n+1) M=sgn i*det (n+1) fun a=>M (idx i 0 a):=by rw[e,<-Int.mul_assoc,q_5,Int.one_mul]
 rw[e2,a_w,<-b_o];refine a_i fun k hk=>?_;have e3:minor (fun a=>M (idx i 0 a)) k=minor2 M i k:=by
  funext a b;show M (idx i 0 (a+1)) (skip k b)=M (skip i a) (skip k b);rw[m_n]
 rw[e3,o_g,show idx i 0 0=i by unfold idx;simp];grind
def cof (n:Nat)(M:Mx)(i k:Nat):Int:=sgn (i+k)*det n (minor2 M i k)
theorem i_k (n:Nat)(M:Mx){i:Nat}(hi:i<n+1):sumN (n+1) (fun k=>M i k*cof n M i k)=det (n+1) M:=by
 rw[p_z n M hi];exact a_i fun k _=>by unfold cof;grind
theorem k_9 (n:Nat)(M:Mx){i r:Nat}(hi:i<n+1)(hr:r<n+1)(hne:r≠i):sumN (n+1) (fun k=>M r k*cof n M i k)=0:=by
 have e:=i_k n (setr M i (M r)) hi;rw[(a_p (n+1)).same' _ hi hr (fun e=>hne e.symm) fun j _=>by unfold setr;rw[if_pos rfl,if_neg hne]]at e;rw[<-e];refine a_i fun k _=>?_;have e1:minor2 (setr M i (M r)) i k=minor2 M i k:=by
  funext a b;unfold minor2 setr;rw[if_neg (j_v i a)]
 unfold cof;rw[e1];unfold setr;rw[if_pos rfl]
theorem s_h (n:Nat)(M:Mx)(i k:Nat):cof n (fun a b=>M b a) i k=cof n M k i:=by
 unfold cof;rw[Nat.add_comm i k,<-det_T n (minor2 M k i)];rfl
theorem p_2 (n:Nat)(M:Mx){j k:Nat}(hj:j<n+1)(hk:k<n+1):sumN (n+1) (fun a=>M a j*cof n M a k)=if j=k then det (n+1) M else 0:=by
 have e:sumN (n+1) (fun a=>M a j*cof n M a k)=sumN (n+1) fun a=>(fun a b=>M b a) j a*cof n (fun a b=>M b a) k a:=a_i fun a _=>by rw[s_h]
 rw[e];split
 ·rename_i e;subst e;exact(i_k n (fun a b=>M b a) hj).trans (det_T _ _)
 ·rename_i h;exact k_9 n (fun a b=>M b a) hk hj h
theorem cramer (k:Nat)(P:Mx)(r:Nat->Int):∃x:Nat->Int,∀j,j<k->sumN k (fun a=>x a*P a j)=det k P*r j:=by
 cases k with
 |zero=>exact⟨fun _=>0,fun j h=>by omega⟩
 |succ n=>
  refine⟨fun a=>sumN (n+1) fun k=>r k*cof n P a k,fun j hj=>?_⟩;have e:sumN (n+1) (fun a=>(sumN (n+1) fun k=>r k*cof n P a k)*P a j)=sumN (n+1) fun k=>r k*sumN (n+1) fun a=>P a j*cof n P a k:=by
   rw[a_i (g:=fun a=>sumN (n+1) fun k=>r k*(P a j*cof n P a k)) fun a _=>by rw[<-sum_mul'];exact a_i fun k _=>by grind];rw[d_3];exact a_i fun k _=>b_o _ _ _
  rw[e,a_i (g:=fun k=>r k*if j=k then det (n+1) P else 0) fun k hk=>by rw[p_2 n P hj hk]];rw[b_e hj fun k _ hne=>by rw[if_neg (fun e=>hne e.symm)];simp,if_pos rfl,Int.mul_comm]
def blk (k:Nat)(A C B:Mx):Mx:=fun i j=>if i<k then(if j<k then A i j else C i (j - k))else if j<k then 0 else B (i - k) (j - k)
theorem det_upper:∀(n:Nat) (M:Mx),(∀i j,i<n->j<n->j<i->M i j=0)->(∀i,i<n->M i i=1)->det n M=1
 |0,_,_,_=>rfl
 |n+1,M,h0,h1=>by
  rw[<-det_T,a_w,b_e (i:=0) (by omega) fun k hk hne=>by rw[h0 k 0 hk (by omega) (by omega)];simp];rw[det_ext (N:=fun i j=>M (j+1) (i+1)) fun i j _ _=>by unfold minor skip;simp,det_T n fun i j=>M (i+1) (j+1),det_upper n (fun i j=>M (i+1) (j+1)) (fun i j hi hj hij=>h0 _ _ (by omega) (by omega) (by omega)) (fun i hi=>h1 _ (by omega)),h1 0 (by omega)];rfl
theorem e_b (k m:Nat)(f:Nat->Int):sumN (k+m) f=sumN k f+sumN m fun l=>f (k+l):=by
 induction m with
 |zero=>simp[sumN]
 |succ m ih=>rw[<-Nat.add_assoc];simp only[sumN,ih];omega
theorem c_l {k:Nat}(A C B:Mx){i j:Nat}(hi:i<k)(hj:j<k):blk k A C B i j=A i j:=by unfold blk;rw[if_pos hi,if_pos hj]
theorem d_1 {k:Nat}(A C B:Mx){i j:Nat}(hi:i<k)(hj:¬j<k):blk k A C B i j=C i (j - k):=by unfold blk;rw[if_pos hi,if_neg hj]
theorem c_d {k:Nat}(A C B:Mx){i j:Nat}(hi:¬i<k)(hj:j<k):blk k A C B i j=0:=by unfold blk;rw[if_neg hi,if_pos hj]
theorem b_t {k:Nat}(A C B:Mx){i j:Nat}(hi:¬i<k)(hj:¬j<k):blk k A C B i j=B (i - k) (j - k):=by unfold blk;rw[if_neg hi,if_neg hj]
theorem a_9 (i:Nat):one i i=1:=by unfold one;rw[if_pos rfl]
theorem c_c {i j:Nat}(h:i≠j):one i j=0:=by unfold one;rw[if_neg h]
theorem i_j (k m:Nat)(C:Mx):det (k+m) (blk k one C one)=1:=by
 refine det_upper _ _ (fun i j hi hj hij=>?_) (fun i hi=>?_)
 ·by_cases h1:i<k
  ·rw[c_l _ _ _ h1 (by omega)];exact c_c (by omega)
  ·by_cases h2:j<k
   ·exact c_d _ _ _ h1 h2
   ·rw[b_t _ _ _ h1 h2];exact c_c (by omega)
 ·by_cases h1:i<k
  ·rw[c_l _ _ _ h1 h1];exact a_9 _
  ·rw[b_t _ _ _ h1 h1];exact a_9 _
theorem m_5 (k m:Nat)(A:Mx):det (k+m) (blk k A (fun _ _=>0) one)=det k A:=by
 have h:AltM k fun A=>det (k+m) (blk k A (fun _ _=>0) one):=
  { ext:=fun M N he=>det_ext fun i j hi hj=>by
     unfold blk;repeat' split
     ·exact he i j (by assumption) (by assumption)
     all_goals rfl
    lin:=fun M i u v c hi=>by
     have e:∀w:Nat->Int,blk k (setr M i w) (fun _ _=>0) one=setr (blk k M (fun _ _=>0) one) i fun j=>if j<k then w j else 0:=fun w=>by
      funext a b
      by_cases h1:a=i
      ·subst h1;by_cases h2:b<k
       ·rw[c_l _ _ _ hi h2];simp only[setr,if_true,if_pos h2]
       ·rw[d_1 _ _ _ hi h2];simp only[setr,if_true,if_neg h2]
      ·simp only[blk,setr,if_neg h1]
     rw[e,e,e,<-(a_p (k+m)).lin _ _ _ _ c (by omega)];congr 2
     funext j
     by_cases h2:j<k
     ·simp only[if_pos h2]
     ·simp only[if_neg h2];simp
    alt:=fun M i hi he=>(a_p (k+m)).alt _ i (by omega) fun j hj=>by
     by_cases h2:j<k
     ·rw[c_l _ _ _ (by omega) h2,c_l _ _ _ hi h2];exact he j h2
     ·rw[d_1 _ _ _ (by omega) h2,d_1 _ _ _ hi h2] }
 have:=alt_det k _ h A;rw[i_j,Int.mul_one]at this;exact this
theorem m_4 (k m:Nat)(A C:Mx):det (k+m) (blk k A C one)=det k A:=by
 rw[<-m_5 k m A,<-Int.one_mul (det (k+m) (blk k A (fun _ _=>0) one)),<-i_j k m C,<-det_mul];refine det_ext fun i j hi hj=>?_;unfold mul;rw[e_b];by_cases h1:i<k
 ·have e1:sumN k (fun l=>blk k one C one i l*blk k A (fun _ _=>0) one l j)=blk k A (fun _ _=>0) one i j:=by
   rw[b_e h1 fun l hl hne=>by rw[c_l _ _ _ h1 hl,c_c (fun e=>hne e.symm)];simp,c_l _ _ _ h1 h1,a_9,Int.one_mul]
  rw[e1];by_cases h2:j<k
  ·rw[b_u fun l hl=>by rw[c_d (i:=k+l) _ _ _ (by omega) h2];simp,c_l _ _ _ h1 h2,c_l _ _ _ h1 h2];simp
  ·rw[b_e (i:=j - k) (by omega) fun l hl hne=>by rw[b_t (i:=k+l) _ _ _ (by omega) h2,c_c (by omega)];simp];rw[b_t (i:=k+(j - k)) _ _ _ (by omega) h2,show k+(j - k) - k=j - k by omega,a_9,show k+(j - k)=j by omega,d_1 _ _ _ h1 h2,d_1 _ _ _ h1 h2,d_1 _ _ _ h1 h2];simp
 ·rw[b_u fun l hl=>by rw[c_d _ _ _ h1 hl];simp];rw[b_e (i:=i - k) (by omega) fun l hl hne=>by rw[b_t _ _ _ h1 (by omega),c_c (by omega)];simp];rw[b_t (j:=k+(i - k)) _ _ _ h1 (by omega),show k+(i - k) - k=i - k by omega,a_9,show k+(i - k)=i by omega];by_cases h2:j<k
  ·rw[c_d _ _ _ h1 h2,c_d _ _ _ h1 h2];simp
  ·rw[b_t _ _ _ h1 h2,b_t _ _ _ h1 h2];simp
theorem k_8 (k m:Nat)(A C B:Mx):det (k+m) (blk k A C B)=det k A*det m B:=by
 have h:AltM m fun B=>det (k+m) (blk k A C B):=
  { ext:=fun M N he=>det_ext fun i j hi hj=>by
     by_cases h1:i<k
     ·unfold blk;simp only[if_pos h1]
     ·by_cases h2:j<k
      ·rw[c_d _ _ _ h1 h2,c_d _ _ _ h1 h2]
      ·rw[b_t _ _ _ h1 h2,b_t _ _ _ h1 h2];exact he _ _ (by omega) (by omega)
    lin:=fun M i u v c hi=>by
     have e:∀w:Nat->Int,blk k A C (setr M i w)=setr (blk k A C M) (k+i) fun j=>if j<k then 0 else w (j - k):=fun w=>by
      funext a b
      by_cases h1:a=k+i
      ·subst h1;by_cases h2:b<k
       ·rw[c_d _ _ _ (by omega) h2];simp only[setr,if_true,if_pos h2]
       ·rw[b_t _ _ _ (by omega) h2];simp only[setr,if_true,if_neg h2,show k+i - k=i by omega]
      ·by_cases h3:a<k
       ·simp only[blk,setr,if_neg h1,if_pos h3]
       ·simp only[blk,setr,if_neg h1,if_neg h3,if_neg (show ¬a - k=i by omega)]
     rw[e,e,e,<-(a_p (k+m)).lin _ _ _ _ c (by omega)];congr 2
     funext j
     by_cases h2:j<k
     ·simp only[if_pos h2];simp
     ·simp only[if_neg h2]
    alt:=fun M i hi he=>(a_p (k+m)).alt _ (k+i) (by omega) fun j hj=>by
     by_cases h2:j<k
     ·rw[c_d _ _ _ (by omega) h2,c_d _ _ _ (by omega) h2]
     ·rw[b_t _ _ _ (by omega) h2,b_t _ _ _ (by omega) h2,show k+i - k=i by omega,show k+i+1 - k=i+1 by omega];exact he _ (by omega) }
 have:=alt_det m _ h B;rw[m_4]at this;rw[this,Int.mul_comm]
end DT
end Go.Proofs.Ytlgjjnmmepgafaa
