/- Ph14 -/
import Derived.Test.YtgohglhefhocgaaGreatPh13
set_option linter.unusedVariables false
set_option linter.unusedSimpArgs false
set_option linter.unusedSectionVars false
set_option maxRecDepth 100000
set_option maxHeartbeats 8000000
namespace Go.Proofs.YtgohglhefhocgaaGreat
section
namespace DT
variable {R C:Nat}{M N H K:Mx}{u v:Nat→Int}
def fst:Nat→(Nat→Int)→Nat
 |0,_=>0
 |C+1,u=>if fst C u<C then fst C u else if u C=0 then C+1 else C
theorem fst_le:∀(C:Nat) (u:Nat→Int),fst C u≤C
 |0,_=>Nat.le_refl _
 |C+1,u=>by
  have:=fst_le C u;simp only[fst];repeat' split
  all_goals omega
theorem fst_zero:∀ {C:Nat} {u:Nat→Int} {j:Nat},j<fst C u→u j=0
 |0,_,_,h=>absurd h (Nat.not_lt_zero _)
 |C+1,u,j,h=>by
  have h1:=fst_le C u;simp only[fst]at h;split at h
  ·exact fst_zero h
  ·split at h
   ·by_cases e:j=C
    ·subst e;assumption
    ·exact fst_zero (C:=C) (by omega)
   ·exact fst_zero (C:=C) (by omega)
theorem fst_ne:∀ {C:Nat} {u:Nat→Int},fst C u<C→u (fst C u)≠0
 |0,_,h=>absurd h (Nat.not_lt_zero _)
 |C+1,u,h=>by
  simp only[fst]at h ⊢;split
  ·rename_i h1;exact fst_ne h1
  ·rename_i h1;rw[if_neg h1]at h;split
   ·rename_i h2;rw[if_pos h2]at h;omega
   ·assumption
theorem fst_of {C k:Nat}{u:Nat→Int}(hk:k<C)(h0:∀j,j<k→u j=0)(h1:u k≠0):fst C u=k:=by
 rcases Nat.lt_trichotomy (fst C u) k with h|h|h
 ·exact absurd (h0 _ h) (fst_ne (by omega))
 ·exact h
 ·exact absurd (fst_zero h) h1
theorem fst_none {C:Nat}{u:Nat→Int}(h:∀j,j<C→u j=0):fst C u=C:=by
 rcases Nat.lt_or_ge (fst C u) C with h1|h1
 ·exact absurd (h _ h1) (fst_ne h1)
 ·have:=fst_le C u;omega
theorem fst_ext {C:Nat}{u v:Nat→Int}(h:∀j,j<C→u j=v j):fst C u=fst C v:=by
 rcases Nat.lt_or_ge (fst C v) C with h1|h1
 ·exact fst_of h1 (fun j hj=>by rw[h j (by omega)];exact fst_zero hj) (by rw[h _ h1];exact fst_ne h1)
 ·have h2:=fst_le C v;rw[show fst C v=C by omega];exact fst_none fun j hj=>by rw[h j hj];exact fst_zero (C:=C) (by omega)
theorem row_zero {C:Nat}{u:Nat→Int}(h:¬fst C u<C){j:Nat}(hj:j<C):u j=0:=fst_zero (C:=C) (by have:=fst_le C u;omega)
def Lat (R C:Nat)(M:Mx)(v:Nat→Int):Prop:=∃x:Nat→Int,∀j,j<C→v j=sumN R fun i=>x i*M i j
theorem Lat.row (R C:Nat)(M:Mx){i:Nat}(hi:i<R):Lat R C M (M i):=
 ⟨fun a=>if a=i then 1 else 0,fun j _=>by
  rw[sum_one hi fun l _ hne=>by dsimp only;rw[if_neg hne];simp];dsimp only;rw[if_pos rfl,Int.one_mul]⟩
theorem Lat.zero (R C:Nat)(M:Mx):Lat R C M fun _=>0:=⟨fun _=>0,fun j _=>(b_9 fun _ _=>by simp).symm⟩
theorem Lat.add (h:Lat R C M u)(h2:Lat R C M v):Lat R C M fun j=>u j+v j:=by
 obtain⟨x,hx⟩:=h;obtain⟨y,hy⟩:=h2;exact⟨fun i=>x i+y i,fun j hj=>by
  dsimp only;rw[hx j hj,hy j hj,←f_2];exact sum_ext fun i _=>by grind⟩
theorem Lat.smul (h:Lat R C M u)(c:Int):Lat R C M fun j=>c*u j:=by
 obtain⟨x,hx⟩:=h;exact⟨fun i=>c*x i,fun j hj=>by dsimp only;rw[hx j hj,←b_v];exact sum_ext fun i _=>by grind⟩
theorem Lat.sub (h:Lat R C M u)(h2:Lat R C M v):Lat R C M fun j=>u j - v j:=by
 obtain⟨x,hx⟩:=h;obtain⟨y,hy⟩:=h2;exact⟨fun i=>x i - y i,fun j hj=>by
  dsimp only;rw[hx j hj,hy j hj,←k_5];exact sum_ext fun i _=>by grind⟩
theorem Lat.ext (h:Lat R C M u)(e:∀j,j<C→v j=u j):Lat R C M v:=by
 obtain⟨x,hx⟩:=h;exact⟨x,fun j hj=>(e j hj).trans (hx j hj)⟩
theorem Lat.within {R S C:Nat}{M N:Mx}(h:∀i,i<R→Lat S C N (M i)){v:Nat→Int}(hv:Lat R C M v):Lat S C N v:=by
 obtain⟨x,hx⟩:=hv;suffices h2:∀n,n≤R→Lat S C N fun j=>sumN n fun i=>x i*M i j from(h2 R (Nat.le_refl _)).ext hx
 intro n;induction n with
 |zero=>intro _;exact Lat.zero S C N
 |succ n ih=>intro hn;exact(ih (by omega)).add ((h n (by omega)).smul (x n))
theorem unim {n:Nat}{U:Mx}(h:det n U=1∨det n U= -1):∃V:Mx,(∀i j,i<n→j<n→mul n V U i j=one i j)∧∀i j,i<n→j<n→mul n U V i j=one i j:=by
 cases n with
 |zero=>exact⟨one,fun i j h=>by omega,fun i j h=>by omega⟩
 |succ n=>
  have hd:det (n+1) U*det (n+1) U=1:=by rcases h with h|h<;>rw[h]<;>rfl
  refine⟨fun i j=>det (n+1) U*cof n U j i,fun i j hi hj=>?_,fun i j hi hj=>?_⟩
  ·unfold mul;rw[sum_ext (g:=fun k=>det (n+1) U*(U k j*cof n U k i)) fun k _=>by grind];rw[b_v,m_t n U hj hi];unfold one;by_cases e:i=j
   ·rw[if_pos e.symm,if_pos e,hd]
   ·rw[if_neg fun e2=>e e2.symm,if_neg e,Int.mul_zero]
  ·unfold mul;rw[sum_ext (g:=fun k=>det (n+1) U*(U i k*cof n U j k)) fun k _=>by grind];rw[b_v];unfold one;by_cases e:i=j
   ·subst e;rw[e_e n U hi,if_pos rfl,hd]
   ·rw[e_4 n U hj hi e,if_neg e,Int.mul_zero]
structure Herm (R C:Nat) (M:Mx):Prop where
 up:∀i,i+1<R→fst C (M (i+1))<C→fst C (M i)<fst C (M (i+1))
 pos:∀i,i<R→fst C (M i)<C→0<M i (fst C (M i))
 red:∀i,i<R→fst C (M i)<C→∀r,r<i→0≤M r (fst C (M i))∧M r (fst C (M i))<M i (fst C (M i))
def Steps (R C:Nat)(M:Mx):Prop:=∀i l,i<l→l<R→fst C (M l)<C→fst C (M i)<fst C (M l)
theorem Herm.steps (h:Herm R C M):Steps R C M:=fun i l hil hl hC=>by
 induction l with
 |zero=>omega
 |succ l ih=>
  have h1:=h.up l hl hC;by_cases e:i=l
  ·subst e;exact h1
  ·exact Nat.lt_trans (ih (by omega) (by omega) (by omega)) h1
theorem n_5 {P:Nat→Prop}{n:Nat}:(∃i,i<n∧P i)→∃i,i<n∧P i∧∀l,l<i→¬P l:=by
 induction n with
 |zero=>rintro⟨i,h,_⟩;omega
 |succ n ih=>
  rintro⟨i,hi,hP⟩;by_cases h:∃i,i<n∧P i
  ·obtain⟨i,h1,h2⟩:=ih h;exact⟨i,by omega,h2⟩
  ·have e:i=n:=by
    rcases Nat.lt_or_ge i n with h1|h1
    ·exact absurd ⟨i,h1,hP⟩ h
    ·omega
   exact⟨i,hi,hP,fun l hl hp=>h ⟨l,by omega,hp⟩⟩
theorem Steps.lead (h:Steps R C M){x v:Nat→Int}(hv:∀j,j<C→v j=sumN R fun i=>x i*M i j)(hne:fst C v<C):
  ∃i,i<R∧fst C (M i)=fst C v∧x i≠0∧v (fst C v)=x i*M i (fst C v):=by
 have h1:∃i,i<R∧(fst C (M i)<C∧x i≠0):=by
  refine Classical.byContradiction fun hn=>?_;refine absurd ?_ (fst_ne hne);rw[hv _ hne];refine b_9 fun i hi=>?_;by_cases e:x i=0
  ·rw[e,Int.zero_mul]
  ·rw[row_zero (fun h2=>hn ⟨i,hi,h2,e⟩) hne,Int.mul_zero]
 obtain⟨i,hi,⟨hC,hx⟩,hl⟩:=n_5 h1;have h2:∀l,l<R→∀j,j≤fst C (M i)→(l<i∨i<l)→x l*M l j=0:=fun l hlR j hj hlt=>by
  rcases hlt with h3|h3
  ·by_cases e:x l=0
   ·rw[e,Int.zero_mul]
   ·rw[row_zero (fun h4=>hl l h3 ⟨h4,e⟩) (by omega),Int.mul_zero]
  ·by_cases h4:fst C (M l)<C
   ·rw[fst_zero (C:=C) (u:=M l) (by have:=h i l h3 hlR h4;omega),Int.mul_zero]
   ·rw[row_zero h4 (by omega),Int.mul_zero]
 have h3:v (fst C (M i))=x i*M i (fst C (M i)):=by
  rw[hv _ hC,sum_one hi fun l hlR hne=>h2 l hlR _ (Nat.le_refl _) (by omega)]
 have h4:fst C v=fst C (M i):=fst_of hC (fun j hj=>by
  rw[hv j (by omega)];refine b_9 fun l hlR=>?_;by_cases e:l=i
  ·subst e;rw[fst_zero hj,Int.mul_zero]
  ·exact h2 l hlR j (by omega) (by omega)) (by rw[h3];exact Int.mul_ne_zero hx (fst_ne hC))
 exact⟨i,hi,h4.symm,hx,by rw[h4];exact h3⟩
theorem Steps.inj (h:Steps R C M){i l:Nat}(hi:i<R)(hl:l<R)(hC:fst C (M i)<C)(e:fst C (M i)=fst C (M l)):i=l:=by
 rcases Nat.lt_trichotomy i l with h1|h1|h1
 ·have:=h i l h1 hl (by omega);omega
 ·exact h1
 ·have:=h l i h1 hi hC;omega
theorem e_n (hH:Steps R C H)(hK:Steps R C K)(e:∀v,Lat R C K v→Lat R C H v){i:Nat}(hi:i<R)(hC:fst C (K i)<C):
  ∃m,m<R∧fst C (H m)=fst C (K i)∧∃c,K i (fst C (K i))=c*H m (fst C (K i)):=by
 obtain⟨x,hx⟩:=e _ (Lat.row R C K hi);obtain⟨m,h1,h2,h3,h4⟩:=hH.lead hx hC;exact⟨m,h1,h2,x m,h4⟩
theorem i_z (hH:Steps R C H)(hK:Steps R C K)(e:∀v,Lat R C H v→Lat R C K v){i:Nat}(hi:i<R)(ih:∀l,l<i→fst C (H l)=fst C (K l)):fst C (K i)≤fst C (H i):=by
 by_cases hC:fst C (H i)<C
 ·obtain⟨m,h1,h2,_⟩:=e_n hK hH e hi hC;rcases Nat.lt_trichotomy m i with h3|h3|h3
  ·have:=ih m h3;have:=hH m i h3 hi hC;omega
  ·subst h3;omega
  ·have:=hK i m h3 h1 (by omega);omega
 ·have:=fst_le C (K i);omega
theorem j_3 (hH:Steps R C H)(hK:Steps R C K)(e:∀v,Lat R C H v↔Lat R C K v):∀i,i<R→fst C (H i)=fst C (K i):=by
 intro i;induction i using Nat.strongRecOn with
 |_ i ih=>
  intro hi;have h1:=i_z hH hK (fun v h=>(e v).1 h) hi fun l hl=>ih l hl (by omega);have h2:=i_z hK hH (fun v h=>(e v).2 h) hi fun l hl=>(ih l hl (by omega)).symm;omega
theorem herm_uniq (hH:Herm R C H)(hK:Herm R C K)(e:∀v,Lat R C H v↔Lat R C K v):∀i j,i<R→j<C→H i j=K i j:=by
 have hp:=j_3 hH.steps hK.steps e;have hval:∀i,i<R→fst C (H i)<C→H i (fst C (H i))=K i (fst C (H i)):=fun i hi hC=>by
  obtain⟨m,h1,h2,c,h3⟩:=e_n hK.steps hH.steps (fun v h=>(e v).1 h) hi hC;obtain⟨m',h1',h2',c',h3'⟩:=e_n hH.steps hK.steps (fun v h=>(e v).2 h) hi (by rw[←hp i hi];exact hC);have e1:i=m:=hH.steps.inj hi h1 hC (by rw[hp m h1,h2]);have e2:i=m':=hH.steps.inj hi h1' hC (by rw[h2',hp i hi]);subst e1;subst e2;rw[←hp i hi]at h3';have p1:=hH.pos i hi hC;have p2:=hK.pos i hi (by rw[←hp i hi];exact hC);rw[←hp i hi]at p2;have d1:K i (fst C (H i))∣H i (fst C (H i)):=⟨c,by rw[h3,Int.mul_comm]⟩;have d2:H i (fst C (H i))∣K i (fst C (H i)):=⟨c',by rw[h3',Int.mul_comm]⟩;have l1:=Int.le_of_dvd p1 d1;have l2:=Int.le_of_dvd p2 d2;omega
 intro i j hi hj;refine Classical.byContradiction fun hne=>?_;obtain⟨x,hx⟩:=(Lat.row R C H hi).sub ((e _).2 (Lat.row R C K hi));have hC:fst C (fun j=>H i j - K i j)<C:=by
  rcases Nat.lt_or_ge (fst C fun j=>H i j - K i j) C with h|h
  ·exact h
  ·have:=row_zero (C:=C) (u:=fun j=>H i j - K i j) (by omega) hj;omega
 obtain⟨m,h1,h2,h3,h4⟩:=hH.steps.lead hx hC;have h5:=fst_ne hC;rw[←h2]at h4 h5;have hCm:fst C (H m)<C:=by omega
 rcases Nat.lt_trichotomy m i with h6|h6|h6
 ·have z1:H i (fst C (H m))=0:=by
   by_cases h7:fst C (H i)<C
   ·exact fst_zero (C:=C) (hH.steps m i h6 hi h7)
   ·exact row_zero h7 hCm
  have z2:K i (fst C (H m))=0:=by
   rw[hp m h1]at hCm ⊢;by_cases h7:fst C (K i)<C
   ·exact fst_zero (C:=C) (hK.steps m i h6 hi h7)
   ·exact row_zero h7 hCm
  omega
 ·subst h6;have:=hval m hi hCm;omega
 ·have r1:=hH.red m h1 hCm i h6;have r2:=hK.red m h1 (by rw[←hp m h1];exact hCm) i h6;rw[←hp m h1,←hval m h1 hCm]at r2;have d:H m (fst C (H m))∣H i (fst C (H m)) - K i (fst C (H m)):=⟨x m,by rw[h4,Int.mul_comm]⟩;have d2:=Int.eq_zero_of_dvd_of_natAbs_lt_natAbs d (by omega);omega
end DT
end
section
namespace DT
theorem s_j {n:Nat}{f g:Nat→Int}(h:∀k,k<n→f k≤g k):sumN n f≤sumN n g:=by
 induction n with
 |zero=>exact Int.le_refl _
 |succ n ih=>simp only[sumN];have:=ih fun k hk=>h k (by omega);have:=h n (by omega);omega
theorem j_2 {n:Nat}{f:Nat→Int}(h:∀k,k<n→0≤f k):0≤sumN n f:=by
 have:=s_j (f:=fun _=>0) h;rwa [b_9 fun _ _=>rfl]at this
def prodN:Nat→(Nat→Int)→Int
 |0,_=>1
 |n+1,f=>prodN n f*f n
end DT
end
section
namespace DT
variable {R C:Nat}{M N H K:Mx}{u v:Nat→Int}
structure Inc (k n:Nat) (f:Nat→Nat):Prop where
 up:∀i,i+1<k→f i<f (i+1)
 lt:∀i,i<k→f i<n
def sw (i:Nat)(f:Nat→Nat):Nat→Nat:=fun a=>if a=i then f (i+1)else if a=i+1 then f i else f a
def mu (k:Nat)(f:Nat→Nat):Int:=sumN k fun i=>((k:Int) - i)*f i
theorem g_8 (k:Nat)(f:Nat→Nat):0≤mu k f:=j_2 fun i hi=>Int.mul_nonneg (by omega) (by omega)
theorem s_3 {k:Nat}(f:Nat→Nat){i:Nat}(hi:i+1<k)(h:f (i+1)<f i):mu k (sw i f)<mu k f:=by
 have e:mu k f - mu k (sw i f)=(f i:Int) - f (i+1):=by
  unfold mu;rw[←k_5,k_4 (i:=i) (j:=i+1) (by omega) hi fun a ha h1 h2=>by unfold sw;rw[if_neg h1,if_neg h2];omega];unfold sw;rw[if_pos rfl,if_neg (by omega),if_pos rfl];rw[show((i+1:Nat):Int)=i+1 by omega];grind
 omega
theorem sortP {k n:Nat}(P:(Nat→Nat)→Prop)(h0:∀f,Inc k n f→P f)(heq:∀f i,i+1<k→f i=f (i+1)→P f)(hsw:∀f i,i+1<k→P (sw i f)→P f):∀f:Nat→Nat,(∀i,i<k→f i<n)→P f:=by
 suffices h:∀(m:Nat) f,(mu k f).toNat≤m→(∀i,i<k→f i<n)→P f from fun f hf=>h _ f (Nat.le_refl _) hf
 intro m;induction m with
 |zero=>
  intro f hm hf;by_cases h1:∃i,i+1<k∧f (i+1)≤f i
  ·obtain⟨i,hi,hle⟩:=h1;by_cases he:f i=f (i+1)
   ·exact heq f i hi he
   ·have:=s_3 f hi (by omega);have:=g_8 k (sw i f);omega
  ·exact h0 f ⟨fun i hi=>by
    rcases Nat.lt_or_ge (f i) (f (i+1))with h|h
    ·exact h
    ·exact absurd ⟨i,hi,h⟩ h1,hf⟩
 |succ m ih=>
  intro f hm hf;by_cases h1:∃i,i+1<k∧f (i+1)≤f i
  ·obtain⟨i,hi,hle⟩:=h1;by_cases he:f i=f (i+1)
   ·exact heq f i hi he
   ·refine hsw f i hi (ih (sw i f) ?_ fun a ha=>?_)
    ·have:=s_3 f hi (by omega);have:=g_8 k (sw i f);omega
    ·unfold sw;repeat' split
     ·exact hf _ hi
     ·exact hf _ (by omega)
     ·exact hf a ha
  ·exact h0 f ⟨fun i hi=>by
    rcases Nat.lt_or_ge (f i) (f (i+1))with h|h
    ·exact h
    ·exact absurd ⟨i,hi,h⟩ h1,hf⟩
theorem o_z {k n:Nat}{g:Int}(M:Mx)(h:∀f:Nat→Nat,Inc k n f→g∣det k fun i j=>M (f i) j):∀f:Nat→Nat,(∀i,i<k→f i<n)→g∣det k fun i j=>M (f i) j:=by
 refine sortP _ h (fun f i hi he=>?_) (fun f i hi hP=>?_)
 ·rw[(c_f k).same' _ (i:=i) (k:=i+1) (by omega) hi (by omega) fun j _=>by rw[he]];exact Int.dvd_zero g
 ·have e:=(c_f k).swap1 (fun a j=>M (f a) j) (i:=i) hi;have e2:det k (fun a j=>M (sw i f a) j)=det k (setr (setr (fun a j=>M (f a) j) i fun j=>M (f (i+1)) j) (i+1) fun j=>M (f i) j):=det_ext fun a j ha hj=>by
   unfold sw setr;by_cases h1:a=i+1
   ·subst h1;rw[if_neg (by omega),if_pos rfl,if_pos rfl]
   ·by_cases h2:a=i
    ·subst h2;rw[if_pos rfl,if_neg h1,if_pos rfl]
    ·rw[if_neg h2,if_neg h1,if_neg h1,if_neg h2]
  rw[e2,e]at hP;exact(Int.dvd_neg).mp hP
theorem AltM.rowsum {n:Nat}{D:Mx→Int}(h:AltM n D)(A:Mx){i:Nat}(hi:i<n)(x:Nat→Int)(M:Mx):∀m,D (setr A i fun j=>sumN m fun l=>x l*M l j)=sumN m fun l=>x l*D (setr A i (M l))
 |0=>h.zero A hi
 |m+1=>by
  simp only[sumN];rw[h.add A _ _ hi,AltM.rowsum h A hi x M m,h.smul A _ _ hi]
theorem q_0 {k:Nat}{g:Int}(X M:Mx)(h:∀f:Nat→Nat,(∀i,i<k→f i<R)→g∣det k fun i j=>M (f i) j):g∣det k (mul R X M):=by
 by_cases hR:R=0
 ·subst hR;cases k with
  |zero=>have:=h (fun _=>0) (fun i hi=>by omega);exact this
  |succ k=>
   have e:det (k+1) (mul 0 X M)=det (k+1) (setr (mul 0 X M) 0 fun _=>0):=det_ext fun i j _ _=>by unfold setr mul;split<;>rfl
   rw[e,(c_f (k+1)).zero _ (by omega)];exact Int.dvd_zero g
 suffices h2:∀t,t≤k→∀f:Nat→Nat,(∀i,i<k→f i<R)→g∣det k fun i j=>if i<t then mul R X M i j else M (f i) j by
  have:=h2 k (Nat.le_refl _) (fun _=>0) fun _ _=>by omega
  rwa [det_ext fun i j hi hj=>if_pos hi]at this
 intro t;induction t with
 |zero=>intro _ f hf;rw[det_ext fun i j hi hj=>if_neg (by omega)];exact h f hf
 |succ t ih=>
  intro ht f hf;have e:det k (fun i j=>if i<t+1 then mul R X M i j else M (f i) j)=det k (setr (fun i j=>if i<t then mul R X M i j else M (f i) j) t fun j=>sumN R fun l=>X t l*M l j):=det_ext fun i j hi hj=>by
   unfold setr;by_cases h1:i=t
   ·subst h1;rw[if_pos (by omega),if_pos rfl];rfl
   ·rw[if_neg h1];dsimp only;by_cases h2:i<t
    ·rw[if_pos h2,if_pos (by omega)]
    ·rw[if_neg h2,if_neg (by omega)]
  rw[e,(c_f k).rowsum _ (by omega)];have h3:∀n,n≤R→g∣sumN n fun l=>X t l*det k (setr (fun i j=>if i<t then mul R X M i j else M (f i) j) t (M l)):=by
   intro n;induction n with
   |zero=>intro _;exact Int.dvd_zero g
   |succ n ihn=>
    intro hn;refine Int.dvd_add (ihn (by omega)) (Int.dvd_trans ?_ (Int.dvd_mul_left _ _));have h4:=ih (by omega) (fun a=>if a=t then n else f a) fun i hi=>by
     split
     ·omega
     ·exact hf i hi
    rw[det_ext (N:=fun i j=>if i<t then mul R X M i j else M (if i=t then n else f i) j) fun i j hi hj=>by
     unfold setr;by_cases h1:i=t
     ·subst h1;rw[if_pos rfl,if_neg (by omega),if_pos rfl]
     ·rw[if_neg h1,if_neg h1]]
    exact h4
  exact h3 R (Nat.le_refl _)
theorem det_tri:∀(n:Nat) (M:Mx),(∀i j,i<n→j<n→j<i→M i j=0)→det n M=prodN n fun i=>M i i:=by
 intro n;induction n with
 |zero=>intro M _;rfl
 |succ n ih=>
  intro M h0;rw[m_q n M (i:=n) (by omega),sum_one (i:=n) (by omega) fun k hk hne=>by rw[h0 n k (by omega) hk (by omega)];simp];rw[show sgn (n+n)=1 by rw[l_e,l_d],Int.one_mul,Int.mul_comm];show _=prodN n (fun i=>M i i)*M n n
  congr 1
  rw[det_ext (N:=M) fun i j hi hj=>by unfold minor2 skip;rw[if_pos hi,if_pos hj]];exact ih M fun i j hi hj=>h0 i j (by omega) (by omega)
theorem prod_ext {n:Nat}{f g:Nat→Int}(h:∀k,k<n→f k=g k):prodN n f=prodN n g:=by
 induction n with
 |zero=>rfl
 |succ n ih=>simp only[prodN];rw[ih fun k hk=>h k (by omega),h n (by omega)]
theorem prod_ne {n:Nat}{f:Nat→Int}(h:∀k,k<n→f k≠0):prodN n f≠0:=by
 induction n with
 |zero=>exact Int.one_ne_zero
 |succ n ih=>exact Int.mul_ne_zero (ih fun k hk=>h k (by omega)) (h n (by omega))
end DT
end
section
namespace DT
variable {R C:Nat}{M N H K:Mx}{u v:Nat→Int}
def Som (R:Nat)(M:Mx)(k:Nat)(cols:Nat→Nat):Prop:=∃f,Inc k R f∧det k (fun i j=>M (f i) (cols j))≠0
theorem Som.of {S k:Nat}{d:Int}(hd:d≠0){X:Mx}{c:Nat→Nat}(h:∀i j,i<R→j<k→d*M i (c j)=sumN S fun l=>X i l*N l (c j))(hs:Som R M k c):Som S N k c:=by
 obtain⟨f,hf,hne⟩:=hs;refine Classical.byContradiction fun hn=>hne ?_;have h1:(0:Int)∣det k (mul S (fun i=>X (f i)) fun i j=>N i (c j)):=q_0 _ _ (o_z (fun i j=>N i (c j)) fun f' hf'=>by
  rw[Classical.byContradiction fun h2=>hn ⟨f',hf',h2⟩];exact Int.dvd_refl 0)
 have h2:det k (mul S (fun i=>X (f i)) fun i j=>N i (c j))=0:=Int.zero_dvd.mp h1;rw[←det_ext (M:=fun i j=>d*M (f i) (c j)) (N:=mul S (fun i=>X (f i)) fun i j=>N i (c j)) fun i j hi hj=>h (f i) j (hf.lt i hi) hj,m_p]at h2;exact(Int.mul_eq_zero.mp h2).resolve_left (p_b hd k)
end DT
end
end Go.Proofs.YtgohglhefhocgaaGreat
