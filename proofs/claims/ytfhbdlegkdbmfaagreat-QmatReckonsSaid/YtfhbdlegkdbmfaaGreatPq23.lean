/- Pq23 -/
import Derived.Test.YtfhbdlegkdbmfaaGreatPq22
import Derived.Test.YtfhbdlegkdbmfaaGreatPq21
set_option linter.unusedVariables false
set_option linter.unusedSimpArgs false
set_option linter.unusedSectionVars false
set_option maxRecDepth 100000
set_option maxHeartbeats 8000000
namespace Go.Proofs.YtfhbdlegkdbmfaaGreat
section
namespace DT
def bc (n:Nat)(G:Mx)(p:Nat->Nat)(i j:Nat):Int:=det (n+1) fun a b=>G (if a<n then a else i) (if b<n then p b else j)
def pm (n:Nat)(G:Mx)(p:Nat->Nat):Int:=det n fun a b=>G a (p b)
theorem k_c {n:Nat}{G G':Mx}{p p':Nat->Nat}{i i' j:Nat}(h:∀a,a<n->∀k,G a k=G' a k)(hp:∀b,b<n->p b=p' b)(hi:∀k,G i k=G' i' k):bc n G p i j=bc n G' p' i' j:=det_ext fun a b ha hb=>by
 by_cases h1:a<n
 ·by_cases h2:b<n
  ·simp only[if_pos h1,if_pos h2];rw[hp b h2,h a h1]
  ·simp only[if_pos h1,if_neg h2];rw[h a h1]
 ·by_cases h2:b<n
  ·simp only[if_neg h1,if_pos h2];rw[hp b h2,hi]
  ·simp only[if_neg h1,if_neg h2];rw[hi]
theorem m_h {n:Nat}{G G':Mx}{p p':Nat->Nat}(h:∀a,a<n->∀k,G a k=G' a k)(hp:∀b,b<n->p b=p' b):pm n G p=pm n G' p':=det_ext fun a b ha hb=>by rw[hp b hb,h a ha]
theorem w_y (G:Mx)(p:Nat->Nat)(i j:Nat):bc 0 G p i j=G i j:=by
 unfold bc;simp[a_r,sumN,sgn,det]
theorem p_c {n:Nat}{G:Mx}{p:Nat->Nat}:pm (n+1) G p=bc n G p n (p n):=det_ext fun a b ha hb=>by
 by_cases h1:a<n
 ·by_cases h2:b<n
  ·simp only[if_pos h1,if_pos h2]
  ·simp only[if_pos h1,if_neg h2];rw[show b=n by omega]
 ·by_cases h2:b<n
  ·simp only[if_neg h1,if_pos h2];rw[show a=n by omega]
  ·simp only[if_neg h1,if_neg h2];rw[show a=n by omega,show b=n by omega]
def kap (n:Nat)(p:Nat->Nat)(k j:Nat):Nat->Nat:=fun b=>if b<n then p b else if b=n then k else j
theorem t_8 (n:Nat)(G:Mx)(p:Nat->Nat)(k j i:Nat):bd n (fun a b=>G a (kap n p k j b)) i n=bc n G p i k:=det_ext fun a b ha hb=>by
 unfold bord kap;by_cases h2:b<n
 ·simp only[if_pos h2]
 ·simp only[if_neg h2,if_pos trivial,if_neg (Nat.lt_irrefl n)]
theorem q_n (n:Nat)(G:Mx)(p:Nat->Nat)(k j i:Nat):bd n (fun a b=>G a (kap n p k j b)) i (n+1)=bc n G p i j:=det_ext fun a b ha hb=>by
 unfold bord kap;by_cases h2:b<n
 ·simp only[if_pos h2]
 ·simp only[if_neg h2,if_neg (show ¬n+1<n by omega),if_neg (show ¬n+1=n by omega)]
theorem w_x (n:Nat)(G:Mx)(p:Nat->Nat)(j i:Nat):bd (n+1) (fun a b=>G a (kap n p (p n) j b)) i (n+1)=bc (n+1) G p i j:=det_ext fun a b ha hb=>by
 unfold bord kap;by_cases h2:b<n+1
 ·simp only[if_pos h2];by_cases h3:b<n
  ·simp only[if_pos h3]
  ·have e:b=n:=by omega
   subst e;simp
 ·simp only[if_neg h2,if_neg (show ¬n+1<n by omega),if_neg (show ¬n+1=n by omega)]
theorem q_a (n:Nat)(G:Mx)(p:Nat->Nat)(k j:Nat):det n (fun a b=>G a (kap n p k j b))=pm n G p:=det_ext fun a b ha hb=>by unfold kap;rw[if_pos hb]
theorem w_z {n:Nat}{G:Mx}{p:Nat->Nat}(hd:pm n G p≠0){i:Nat}(j:Nat)(hi:n<=i):pm n G p*bc (n+1) G p i j=bc n G p n (p n)*bc n G p i j - bc n G p n j*bc n G p i (p n):=by
 have e:=n_4 n (fun a b=>G a (kap n p (p n) j b)) (by rw[q_a];exact hd) hi (show n<=n+1 by omega);rw[q_a,w_x,t_8,q_n,t_8,q_n]at e;exact e
theorem bc_row {n:Nat}{G:Mx}{p:Nat->Nat}(hd:pm n G p≠0)(i:Nat):∃x:Nat->Int,∀j,bc n G p i j=pm n G p*G i j - sumN n fun a=>x a*G a j:=by
 have e:det n (fun a b=>G a (if b<n then p b else b - n))=pm n G p:=det_ext fun a b ha hb=>by rw[if_pos hb]
 obtain⟨x,hx⟩:=t_7 n (fun a b=>G a (if b<n then p b else b - n)) i (by rw[e];exact hd);refine⟨x,fun j=>?_⟩;have h:=hx (n+j);rw[e]at h;simp only[if_neg (show ¬n+j<n by omega),Nat.add_sub_cancel_left]at h;rw[<-h];exact det_ext fun a b ha hb=>by
  unfold bord;by_cases h2:b<n
  ·simp only[if_pos h2]
  ·simp only[if_neg h2,if_neg (show ¬n+j<n by omega),Nat.add_sub_cancel_left]
theorem bc_at (n:Nat)(G:Mx)(p:Nat->Nat){i:Nat}(j:Nat)(hi:i<n):bc n G p i j=0:=
 (a_2 (n+1)).same' _ (i:=i) (k:=n) (by omega) (by omega) (by omega) fun a ha=>by simp[hi]
theorem bc_col (n:Nat)(G:Mx)(p:Nat->Nat)(i:Nat){b:Nat}(hb:b<n):bc n G p i (p b)=0:=by
 unfold bc;rw[<-e_i];exact(a_2 (n+1)).same' _ (i:=b) (k:=n) (by omega) (by omega) (by omega) fun a ha=>by simp[hb]
theorem x_m {n R k:Nat}{G:Mx}{p:Nat->Nat}(hd:pm n G p≠0)(hk:p n=k)(hz:∀i,n<=i->i<R->bc n G p i k=0):¬Som R G (n+1) p:=fun hs=>by
 obtain⟨f,hf,-⟩:=Som.of (S:=n) (N:=G) hd (X:=fun i=>(bc_row hd i).choose) (fun i j hi hj=>by
  have h:=(bc_row hd i).choose_spec (p j);have h0:bc n G p i (p j)=0:=by
   rcases Nat.lt_or_ge j n with h1|h1
   ·exact bc_col n G p i h1
   ·rw[show j=n by omega,hk];rcases Nat.lt_or_ge i n with h2|h2
    ·exact bc_at n G p k h2
    ·exact hz i h2 hi
  rw[h0]at h;omega) hs
 have:=hf.ge n (by omega)
 have:=hf.lt n (by omega);omega
def swr (M:Mx)(n i:Nat):Mx:=fun a=>if a=n then M i else if a=i then M n else M a
theorem l_5 (M:Mx)(n:Nat):swr M n n=M:=by
 funext a;unfold swr
 by_cases h:a=n
 ·rw[if_pos h,h]
 ·rw[if_neg h,if_neg h]
theorem w_o {R n i:Nat}(M:Mx)(hn:n<R)(hi:i<R)(hne:n≠i):det R (swr M n i)= - det R M:=by
 rw[<-(a_2 R).swap M hn hi hne];exact det_ext fun a b _ _=>by
  unfold swr setr;by_cases h1:a=n
  ·subst h1;simp[hne]
  ·by_cases h2:a=i
   ·subst h2;simp[h1]
   ·simp[h1,h2]
structure Red (R C k:Nat) (F:Mx) (s:Bool) (G:Mx) (ps:List Nat) (M:Mx) (h:Int):Prop where
 nR:ps.length<=R
 nk:ps.length<=k
 lt:∀x,x∈ps->x<k
 idn:ps.length=k->∀b,b<k->ps.getD b 0=b
 hh:h=pm ps.length G fun b=>ps.getD b 0
 h0:h≠0
 low:∀i j,ps.length<=i->i<R->j<C->M i j=bc ps.length G (fun b=>ps.getD b 0) i j
 up:∀i j,i<ps.length->j<C->M i j=bc i G (fun b=>ps.getD b 0) i j
 zero:∀i j,ps.length<=i->i<R->j<k->M i j=0
 dt:det R G=(if s then -1 else 1)*det R F
 perm:∃f:Nat->Nat,∀a,a<R->f a<R/\G a=F (f a)
 back:∃f:Nat->Nat,∀a,a<R->f a<R/\F a=G (f a)
 pv:ps=piv R F k
 pz:∀i,i<ps.length->M i (ps.getD i 0)≠0
 pl:∀i j,i<ps.length->j<ps.getD i 0->M i j=0
theorem Red.start (R C:Nat)(F:Mx):Red R C 0 F false F [] F 1 where
 nR:=Nat.zero_le _
 nk:=Nat.zero_le _
 lt:=fun x h=>by simp at h
 idn:=fun _ b hb=>by omega
 hh:=by unfold pm;rfl
 h0:=by decide
 low:=fun i j _ _ _=>(w_y F _ i j).symm
 up:=fun i j h _=>by simp at h
 zero:=fun i j _ _ h=>by omega
 dt:=by simp
 perm:=⟨id,fun a ha=>⟨ha,rfl⟩⟩
 back:=⟨id,fun a ha=>⟨ha,rfl⟩⟩
 pv:=rfl
 pz:=fun i hi=>by simp at hi
 pl:=fun i j hi=>by simp at hi
theorem l_8 {R k:Nat}{F G:Mx}{c:Nat->Nat}(h:∃f:Nat->Nat,∀a,a<R->f a<R/\G a=F (f a))(hs:Som R G k c):Som R F k c:=by
 obtain⟨f,hf⟩:=h;refine Som.of (S:=R) (d:=1) (by decide) (X:=fun i l=>if l=f i then 1 else 0) (fun i j hi hj=>?_) hs;rw[a_4 (hf i hi).1 fun l hl hne=>by rw[if_neg hne];simp,if_pos rfl,(hf i hi).2]
theorem b_c {l:List Nat}{k b:Nat}(h:b<l.length):(l++[k]).getD b 0=l.getD b 0:=by
 simp[List.getD_eq_getElem?_getD,List.getElem?_append_left h]
theorem c_g {l:List Nat}{k:Nat}:(l++[k]).getD l.length 0=k:=by
 simp[List.getD_eq_getElem?_getD]
theorem lget_mem {l:List Nat}{b:Nat}(h:b<l.length):l.getD b 0∈l:=by
 rw[List.getD_eq_getElem?_getD,List.getElem?_eq_getElem h];exact List.getElem_mem h
section
variable {R C k:Nat}{F G M:Mx}{s:Bool}{ps:List Nat}{h:Int}
theorem Red.no (r:Red R C k F s G ps M h)(hk:k<C)(hz:∀i,ps.length<=i->i<R->M i k=0):Red R C (k+1) F s G ps M h where
 nR:=r.nR
 nk:=Nat.le_succ_of_le r.nk
 lt:=fun x hx=>Nat.lt_succ_of_lt (r.lt x hx)
 idn:=fun e=>by have:=r.nk;omega
 hh:=r.hh
 h0:=r.h0
 low:=r.low
 up:=r.up
 zero:=fun i j h1 h2 h3=>by
  rcases Nat.lt_or_ge j k with h4|h4
  ·exact r.zero i j h1 h2 h4
  ·rw[show j=k by omega];exact hz i h1 h2
 dt:=r.dt
 perm:=r.perm
 back:=r.back
 pv:=by
  have hn:¬Som R G (ps.length+1) (fun j=>(ps++[k]).getD j 0):=x_m (by
    rw[m_h (p':=fun b=>ps.getD b 0) (fun _ _ _=>rfl) fun b hb=>b_c hb,<-r.hh];exact r.h0) c_g fun i h1 h2=>by
   rw[k_c (p':=fun b=>ps.getD b 0) (fun _ _ _=>rfl) (fun b hb=>b_c hb) (fun _=>rfl),<-r.low i k h1 h2 hk];exact hz i h1 h2
  rw[f_o (by rw[<-r.pv];exact fun hs=>hn (l_8 r.back hs))];exact r.pv
 pz:=r.pz
 pl:=r.pl
theorem Red.swap (r:Red R C k F s G ps M h){i:Nat}(hi:ps.length<=i)(hR:i<R):Red R C k F (s != decide (i≠ps.length)) (swr G ps.length i) ps (swr M ps.length i) h:=by
 by_cases e:i=ps.length
 ·subst e;rw[l_5,l_5];simpa using r
 have hup:∀a,a<ps.length->swr G ps.length i a=G a:=fun a ha=>by unfold swr;rw[if_neg (by omega),if_neg (by omega)]
 have hbc:∀n b j,n<=ps.length->bc n (swr G ps.length i) (fun b=>ps.getD b 0) b j=bc n G (fun b=>ps.getD b 0) (if b=ps.length then i else if b=i then ps.length else b) j:=fun n b j hn=>k_c (fun a ha k=>by rw[hup a (by omega)]) (fun _ _=>rfl) (fun k=>by
  unfold swr;by_cases h1:b=ps.length
  ·simp only[if_pos h1]
  ·by_cases h2:b=i
   ·simp only[if_neg h1,if_pos h2]
   ·simp only[if_neg h1,if_neg h2])
 have hM:∀a j,swr M ps.length i a j=M (if a=ps.length then i else if a=i then ps.length else a) j:=fun a j=>by
  unfold swr;by_cases h1:a=ps.length
  ·simp only[if_pos h1]
  ·by_cases h2:a=i
   ·simp only[if_neg h1,if_pos h2]
   ·simp only[if_neg h1,if_neg h2]
 have hx:∀a,ps.length<=a->a<R->ps.length<=(if a=ps.length then i else if a=i then ps.length else a)/\(if a=ps.length then i else if a=i then ps.length else a)<R:=fun a h1 h2=>by
  split
  ·exact⟨hi,hR⟩
  ·split
   ·exact⟨Nat.le_refl _,by omega⟩
   ·exact⟨h1,h2⟩
 exact {
  nR:=r.nR
  nk:=r.nk
  lt:=r.lt
  idn:=r.idn
  hh:=by rw[r.hh];exact(m_h (fun a ha k=>by rw[hup a ha]) fun _ _=>rfl).symm
  h0:=r.h0
  low:=fun a j h1 h2 h3=>by rw[hM,hbc _ _ _ (Nat.le_refl _)];exact r.low _ j (hx a h1 h2).1 (hx a h1 h2).2 h3
  up:=fun a j h1 h3=>by
   rw[hM,hbc _ _ _ (by omega),if_neg (by omega),if_neg (by omega)];exact r.up a j h1 h3
  zero:=fun a j h1 h2 h3=>by rw[hM];exact r.zero _ j (hx a h1 h2).1 (hx a h1 h2).2 h3
  dt:=by
   rw[w_o G (by omega) hR (by omega),r.dt];cases s<;>simp[e]
  perm:=by
   obtain⟨f,hf⟩:=r.perm;refine⟨fun a=>f (if a=ps.length then i else if a=i then ps.length else a),fun a ha=>?_⟩;have hlt:(if a=ps.length then i else if a=i then ps.length else a)<R:=by split;exact hR;split;omega;exact ha
   refine⟨(hf _ hlt).1, ?_⟩;rw[<-(hf _ hlt).2];unfold swr;by_cases h1:a=ps.length
   ·simp only[if_pos h1]
   ·by_cases h2:a=i
    ·simp only[if_neg h1,if_pos h2]
    ·simp only[if_neg h1,if_neg h2]
  back:=by
   obtain⟨f,hf⟩:=r.back;refine⟨fun a=>(if f a=ps.length then i else if f a=i then ps.length else f a),fun a ha=>⟨?_, ?_⟩⟩
   ·dsimp only;split
    ·exact hR
    ·split
     ·omega
     ·exact(hf a ha).1
   ·rw[(hf a ha).2];unfold swr;by_cases h1:f a=ps.length
    ·simp only[if_pos h1,if_neg e];simp[h1]
    ·by_cases h2:f a=i
     ·simp only[if_neg h1,if_pos h2];simp[h2]
     ·simp only[if_neg h1,if_neg h2]
  pv:=r.pv
  pz:=fun a ha=>by rw[hM,if_neg (by omega),if_neg (by omega)];exact r.pz a ha
  pl:=fun a j ha hj=>by rw[hM,if_neg (by omega),if_neg (by omega)];exact r.pl a j ha hj }
def nxt (R C k:Nat)(G:Mx)(ps:List Nat)(i j:Nat):Int:=bc (ps.length+1) G (fun b=>(ps++[k]).getD b 0) i j
theorem Red.step (r:Red R C k F s G ps M h)(hk:k<C){i j:Nat}(hi:ps.length<i)(hR:i<R)(hj:j<C):nxt R C k G ps i j*h=M ps.length k*M i j - M i k*M ps.length j:=by
 have e:=w_z (n:=ps.length) (G:=G) (p:=fun b=>(ps++[k]).getD b 0) (by
  rw[m_h (p':=fun b=>ps.getD b 0) (fun _ _ _=>rfl) fun b hb=>b_c hb,<-r.hh];exact r.h0) j (Nat.le_of_lt hi)
 have hb:∀a j,bc ps.length G (fun b=>(ps++[k]).getD b 0) a j=bc ps.length G (fun b=>ps.getD b 0) a j:=fun a j=>k_c (fun _ _ _=>rfl) (fun b hb=>b_c hb) (fun _=>rfl);rw[m_h (p':=fun b=>ps.getD b 0) (fun _ _ _=>rfl) fun b hb=>b_c hb,<-r.hh]at e;simp only[hb,c_g]at e;rw[<-r.low _ _ (Nat.le_refl _) (by omega) hk,<-r.low _ _ (by omega) hR hj,<-r.low _ _ (Nat.le_refl _) (by omega) hj,<-r.low _ _ (by omega) hR hk]at e;unfold nxt;rw[Int.mul_comm,e,Int.mul_comm (M i k)]
theorem Red.yes (r:Red R C k F s G ps M h)(hk:k<C)(hn:ps.length<R)(hne:M ps.length k≠0){M':Mx}(h1:∀i j,i<=ps.length->j<C->M' i j=M i j)(h2:∀i j,ps.length<i->i<R->j<C->M' i j=nxt R C k G ps i j):
  Red R C (k+1) F s G (ps++[k]) M' (M ps.length k):=by
 have hb:∀a j,bc ps.length G (fun b=>(ps++[k]).getD b 0) a j=bc ps.length G (fun b=>ps.getD b 0) a j:=fun a j=>k_c (fun _ _ _=>rfl) (fun b hb=>b_c hb) (fun _=>rfl);have hp:M ps.length k=pm (ps.length+1) G fun b=>(ps++[k]).getD b 0:=by
  rw[p_c,c_g,hb];exact r.low _ _ (Nat.le_refl _) hn hk
 have hl:(ps++[k]).length=ps.length+1:=by simp
 exact {
  nR:=by rw[hl];exact hn
  nk:=by rw[hl];have:=r.nk;omega
  lt:=fun x hx=>by
   rw[List.mem_append]at hx;rcases hx with hx|hx
   ·have:=r.lt x hx;omega
   ·simp at hx;omega
  idn:=fun e b hb=>by
   rw[hl]at e;have e':ps.length=k:=by omega
   rcases Nat.lt_or_ge b k with h3|h3
   ·rw[b_c (by omega)];exact r.idn e' b h3
   ·have:b=ps.length:=by omega
    rw[this,c_g];exact e'.symm
  hh:=by rw[hl];exact hp
  h0:=hne
  low:=fun i j h3 h4 h5=>by rw[hl]at h3 ⊢;exact h2 i j (by omega) h4 h5
  up:=fun i j h3 h5=>by
   rw[hl]at h3;rw[h1 i j (by omega) h5];rcases Nat.lt_or_ge i ps.length with h6|h6
   ·rw[r.up i j h6 h5];exact k_c (fun _ _ _=>rfl) (fun b hb=>(b_c (by omega)).symm) (fun _=>rfl)
   ·have:i=ps.length:=by omega
    rw[this,hb];exact r.low _ _ (Nat.le_refl _) hn h5
  zero:=fun i j h3 h4 h5=>by
   rw[hl]at h3;have hj:j<C:=by omega
   rw[h2 i j (by omega) h4 hj];have e:=r.step hk (i:=i) (by omega) h4 hj;have:nxt R C k G ps i j*h=0:=by
    rw[e];rcases Nat.lt_or_ge j k with h6|h6
    ·rw[r.zero i j (by omega) h4 h6,r.zero ps.length j (Nat.le_refl _) hn h6];simp
    ·rw[show j=k by omega,Int.mul_comm];omega
   exact(Int.mul_eq_zero.mp this).resolve_right r.h0
  dt:=r.dt
  perm:=r.perm
  back:=r.back
  pv:=by
   have hs:Som R G (ps.length+1) (fun j=>(ps++[k]).getD j 0):=⟨id,⟨fun i hi=>Nat.lt_succ_self _,fun i hi=>Nat.lt_of_lt_of_le hi hn⟩,by
    exact fun e=>hne (hp.trans e)⟩
   rw[d_p (by rw[<-r.pv];exact l_8 r.perm hs),<-r.pv]
  pz:=fun a ha=>by
   rw[hl]at ha;rcases Nat.lt_or_ge a ps.length with h3|h3
   ·rw[b_c h3,h1 a _ (by omega) (Nat.lt_trans (r.lt _ (lget_mem h3)) hk)];exact r.pz a h3
   ·obtain rfl:a=ps.length:=by omega
    rw[c_g,h1 _ _ (Nat.le_refl _) hk];exact hne
  pl:=fun a j ha hj=>by
   rw[hl]at ha;rcases Nat.lt_or_ge a ps.length with h3|h3
   ·rw[b_c h3]at hj
    have:=r.lt _ (lget_mem h3);rw[h1 a j (by omega) (by omega)];exact r.pl a j h3 hj
   ·obtain rfl:a=ps.length:=by omega
    rw[c_g]at hj;rw[h1 _ j (Nat.le_refl _) (by omega)];exact r.zero _ j (Nat.le_refl _) hn hj }
end
end DT
end
section
open Go.RowKit
def ncX (o:Op):Operand:=match o with| .nilCheck x=>x|_=>.func 0
def okNc (ops:Array Oper)(m i:Nat)(s:Src):Bool:=okH ops m i&&(match(opAt ops i).op with| .nilCheck x=>s.ok ops m i x|_=>false)
theorem Run.nc {ops:Array Oper}{Q:Exit->Act->World->Prop}{m i:Nat}{a0:Act}{w0:World}{l:List FK}{b:Bool}{id:Nat}(s:Src){p:Addr}(rest:R ops Q m a0 w0 b id (.k (.pointer (some p))::l) (i+1))(hc:okNc ops m i s=true:=by kernel_rfl)(hg:Gd l i (opAt ops i):=by first|exact trivial|exact rfl)(hx:s.K l i a0 (ncX (opAt ops i).op)= .k (.pointer (some p)):=by rfl):R ops Q m a0 w0 b id l i:=by
 unfold okNc at hc;rw[Bool.and_eq_true]at hc;obtain⟨h1,h2⟩:=hc;refine Run.val h1 (FK.kne _) hg (fun a w h=>⟨.pointer (some p), ?_,rfl⟩) rest;unfold ncX at hx;unfold execOp;cases e:(opAt ops i).op<;>simp only[e]at h2 hx<;>try cases h2
 simp only[h.srcK h2 hx];simp[go_sem]
section
variable {g o:Nat}
theorem fE0 (o':Nat)(h:o+0=o':=by rfl)(w:World):(Instr.fieldAt 152 (.pointer (some ⟨g,o,none⟩)) 0).run Tryz.prog w= .ok (.pointer (some ⟨g,o',none⟩)) w:=by subst h;simp[go_sem]
theorem fE1 (o':Nat)(h:o+1=o':=by rfl)(w:World):(Instr.fieldAt 152 (.pointer (some ⟨g,o,none⟩)) 1).run Tryz.prog w= .ok (.pointer (some ⟨g,o',none⟩)) w:=by subst h;simp[go_sem]
theorem fE2 (o':Nat)(h:o+2=o':=by rfl)(w:World):(Instr.fieldAt 152 (.pointer (some ⟨g,o,none⟩)) 2).run Tryz.prog w= .ok (.pointer (some ⟨g,o',none⟩)) w:=by subst h;simp[go_sem]
theorem fE3 (o':Nat)(h:o+4=o':=by rfl)(w:World):(Instr.fieldAt 152 (.pointer (some ⟨g,o,none⟩)) 3).run Tryz.prog w= .ok (.pointer (some ⟨g,o',none⟩)) w:=by subst h;simp[go_sem]
variable {w:World}{T:TypeId}{cs:List Value}
theorem ldSS (b:Bx w g T cs)(o:Nat){A:Option Addr}{n c:Nat}(hc:cs[o]? =some (.slice A n c):=by rfl):∀w',Below w.heap.size w w'->(Instr.loadAt 98 (.pointer (some ⟨g,o,none⟩))).run Tryz.prog w'= .ok (.slice A n c) w':=fun w' hb=>by
 have h:=(b.below hb).cell o;rw[hc]at h;simp[go_sem,a_j,h]
theorem ldIs (b:Bx w g T cs)(o:Nat){A:Option Addr}{n c:Nat}(hc:cs[o]? =some (.slice A n c):=by rfl):∀w',Below w.heap.size w w'->(Instr.loadAt 150 (.pointer (some ⟨g,o,none⟩))).run Tryz.prog w'= .ok (.slice A n c) w':=fun w' hb=>by
 have h:=(b.below hb).cell o;rw[hc]at h;simp[go_sem,a_j,h]
theorem u_u {w:World}{H i n c:Nat}(h:i<n):(Instr.indexAt 98 (.slice (some ⟨H,0,none⟩) n c) (.int .i64 (i:Int))).run Tryz.prog w= .ok (.pointer (some ⟨H,i,none⟩)) w:=by
 simp[go_sem,Tryz.underlying98,show Tryz.prog.cellsOf 25=1 by kernel_rfl];omega
theorem opIxS {H i n c:Nat}{X Y:Operand}(h:i<n)(w:World):RunTwo Tryz.prog (.indexAddr 98 X Y) w (.slice (some ⟨H,0,none⟩) n c) (.int .i64 (i:Int)) (.pointer (some ⟨H,i,none⟩)):=u_u h
end
def rw' (C:Nat)(f:Nat->Int):List Int:=(List.range C).map f
theorem b_d (C:Nat)(f:Nat->Int):(rw' C f).length=C:=by simp[rw']
theorem c_6 {C j:Nat}{f:Nat->Int}(h:j<C):ith (rw' C f) j=f j:=by simp[ith,rw',List.getD,h]
theorem f_y {C:Nat}{f f':Nat->Int}(h:∀j,j<C->f j=f' j):rw' C f=rw' C f':=List.map_congr_left fun j hj=>h j (List.mem_range.1 hj)
theorem ZL.gro0 {q:Bool}{w w':World}{A:Option Addr}{n c k g:Nat}{zs:List Int}(h:ZL q w A n c k zs)(hne:0<n->∀ad,A=some ad->ad.block≠g)(hn:Wless w g)(hg:w.grownBy w' (some g)):ZL q w' A n c k zs:=by
 rcases Nat.eq_zero_or_pos n with h0|h0
 ·exact⟨h.len,h.le,h.cap,fun h1=>by omega⟩
 ·exact h.gro (hne h0) hn hg
def RowOk (w:World)(S:List Nat)(v:Value)(C K:Nat)(f:Nat->Int):Prop:=∃A c,v= .slice A C c/\ZL true w A C c K (rw' C f)/\(0<C->∀ad,A=some ad->ad.block ∉ S)
section
variable {w w':World}{S S':List Nat}{v:Value}{C K K':Nat}{f f':Nat->Int}
theorem RowOk.below (h:RowOk w S v C K f)(hb:Below w.heap.size w w'):RowOk w' S v C K f:=by
 obtain⟨A,c,e,h1,h2⟩:=h;exact⟨A,c,e,h1.below hb,h2⟩
theorem RowOk.gro {x:Nat}(h:RowOk w S v C K f)(hx:x∈S)(hn:Wless w x)(hg:w.grownBy w' (some x)):RowOk w' S v C K f:=by
 obtain⟨A,c,e,h1,h2⟩:=h;exact⟨A,c,e,h1.gro0 (fun h0 ad ha e=>h2 h0 ad ha (e ▸ hx)) hn hg,h2⟩
theorem RowOk.mono (h:RowOk w S v C K f)(hk:K<=K'):RowOk w S v C K' f:=by
 obtain⟨A,c,e,h1,h2⟩:=h;exact⟨A,c,e,h1.mono hk,h2⟩
theorem RowOk.congr (h:RowOk w S v C K f)(e:∀j,j<C->f j=f' j):RowOk w S v C K f':=by
 obtain⟨A,c,e',h1,h2⟩:=h;exact⟨A,c,e',by rw[<-f_y e];exact h1,h2⟩
theorem RowOk.more (h:RowOk w S v C K f)(hS:∀x,x∈S'->x∈S\/w.heap.size<=x):RowOk w S' v C K f:=by
 obtain⟨A,c,e,h1,h2⟩:=h;refine⟨A,c,e,h1,fun h0 ad ha hx=>?_⟩;rcases hS _ hx with h3|h3
 ·exact h2 h0 ad ha h3
 ·obtain⟨ad',ha',h4,-⟩:=h1.at' h0;rw[ha]at ha';cases ha';omega
theorem RowOk.slice (h:RowOk w S v C K f):∃A c,v= .slice A C c:=by obtain⟨A,c,e,-⟩:=h;exact⟨A,c,e⟩
end
def blkOf (v:Value):List Nat:=match v.ownBlock with|some x=>[x] |none=>[]
theorem k_5 {v:Value}{x:Nat}(h:v.ownBlock=some x):x∈blkOf v:=by unfold blkOf;rw[h];simp
def ints (ps:List Nat):List Value:=ps.map fun p:Nat=>Value.int .i64 (p:Int)
structure Xt where
 T:TypeId
 ex:List Value
 nw:∀v,v∈ex->∀m:Int,v≠ .int .u64 m
 P:World->List Nat->Prop
 pb:∀w w' S,P w S->Below w.heap.size w w'->P w' S
 pg:∀w w' S x,P w S->x∈S->Wless w x->w.grownBy w' (some x)->P w' S
 pm:∀w S S',P w S->(∀x,x∈S'->x∈S\/w.heap.size<=x)->P w S'
structure RAt (xt:Xt) (b:Nat) (w:World) (g H R C Ka:Nat) (K:Nat->Nat) (M:Nat->Nat->Int) (ps:List Nat) (h:Int) (s:Bool) (vp:Value) (sa:Bool) (A:Option Addr) (n c:Nat) (rows:List Value):Prop where
 bx:Bx w g xt.T (.slice (some ⟨H,0,none⟩) R R::vp:: .bool sa:: .slice A n c:: .bool s::xt.ex)
 hd:Bx w H 25 rows
 len:rows.length=R
 ne:g≠H
 bg:b<=g
 bh:b<=H
 own:OwnI w b 3 vp ps.length (ints ps)
 pg:vp.ownBlock≠some g
 ph:vp.ownBlock≠some H
 az:Zc w sa A n c h
 an:n<=Ka
 row:∀i,i<R->∃v,rows[i]? =some v/\RowOk w (g::H::blkOf vp) v C (K i) (M i)
 ct:xt.P w (g::H::blkOf vp)
section
variable {xt:Xt}{b:Nat}{w w':World}{g H R C Ka Ka':Nat}{K K':Nat->Nat}{M M':Nat->Nat->Int}{ps:List Nat}{h:Int}{s:Bool}{vp:Value}{sa:Bool}{A:Option Addr}{n c:Nat}{rows:List Value}
theorem RAt.below (r:RAt xt b w g H R C Ka K M ps h s vp sa A n c rows)(hb:Below w.heap.size w w'):RAt xt b w' g H R C Ka K M ps h s vp sa A n c rows where
 bx:=r.bx.below hb
 hd:=r.hd.below hb
 len:=r.len
 ne:=r.ne
 bg:=r.bg
 bh:=r.bh
 own:=r.own.below hb
 pg:=r.pg
 ph:=r.ph
 az:=r.az.below hb
 an:=r.an
 row:=fun i hi=>by
  obtain⟨v,h1,h2⟩:=r.row i hi;exact⟨v,h1,h2.below hb⟩
 ct:=xt.pb _ _ _ r.ct hb
theorem RAt.mono (r:RAt xt b w g H R C Ka K M ps h s vp sa A n c rows)(hk:Ka<=Ka')(hK:∀i,i<R->K i<=K' i):RAt xt b w g H R C Ka' K' M ps h s vp sa A n c rows:=
 { r with an:=Nat.le_trans r.an hk,row:=fun i hi=>let⟨v,h1,h2⟩:=r.row i hi;⟨v,h1,h2.mono (hK i hi)⟩ }
theorem RAt.congr (r:RAt xt b w g H R C Ka K M ps h s vp sa A n c rows)(e:∀i j,i<R->j<C->M i j=M' i j):RAt xt b w g H R C Ka K M' ps h s vp sa A n c rows:=
 { r with row:=fun i hi=>let⟨v,h1,h2⟩:=r.row i hi;⟨v,h1,h2.congr fun j hj=>e i j hi hj⟩ }
theorem RAt.vpf (r:RAt xt b w g H R C Ka K M ps h s vp sa A n c rows):∃A c,vp= .slice A ps.length c:=by
 obtain⟨A,c,e,-⟩:=r.own.form;exact⟨A,c,e⟩
theorem RAt.nowG (r:RAt xt b w g H R C Ka K M ps h s vp sa A n c rows):Wless w g:=r.bx.now (by
 obtain⟨A',c',e⟩:=r.vpf;subst e;simpa using xt.nw)
theorem RAt.nowH (r:RAt xt b w g H R C Ka K M ps h s vp sa A n c rows):Wless w H:=r.hd.now fun v hv=>by
 obtain⟨i,hi,rfl⟩:=List.getElem_of_mem hv;obtain⟨v',h1,h2⟩:=r.row i (by rw[<-r.len];exact hi);obtain⟨A',c',e⟩:=h2.slice;rw[List.getElem?_eq_getElem hi]at h1;injection h1 with h1
 rw[h1,e];simp
theorem RAt.put (r:RAt xt b w g H R C Ka K M ps h s vp sa A n c rows){i:Nat}(hi:i<R){v:Value}{f:Nat->Int}{kv:Nat}(hv:RowOk w (g::H::blkOf vp) v C kv f):
  RAt xt b (w.setCell ⟨H,i,none⟩ v) g H R C Ka (fun a=>if a=i then kv else K a) (fun a=>if a=i then f else M a) ps h s vp sa A n c (rows.set i v):=by
 have hgr:w.grownBy (w.setCell ⟨H,i,none⟩ v) (some H):=a_d (q:=⟨H,i,none⟩) (a_m w (some H)) rfl _;exact {
  bx:=a_a r.bx hgr r.ne
  hd:=r.hd.set i v
  len:=by rw[List.length_set];exact r.len
  ne:=r.ne
  bg:=r.bg
  bh:=r.bh
  own:=r.own.kept hgr r.ph
  pg:=r.pg
  ph:=r.ph
  az:=r.az.gro r.nowH hgr
  an:=r.an
  row:=fun a ha=>by
   by_cases e:a=i
   ·subst e;refine⟨v,by rw[List.getElem?_set_self (by rw[r.len];exact hi)], ?_⟩;rw[if_pos rfl,if_pos rfl];exact hv.gro (by simp) r.nowH hgr
   ·obtain⟨v',h1,h2⟩:=r.row a ha;refine⟨v',by rw[List.getElem?_set_ne (Ne.symm e)];exact h1, ?_⟩;rw[if_neg e,if_neg e];exact h2.gro (by simp) r.nowH hgr
  ct:=xt.pg _ _ _ _ r.ct (by simp) r.nowH hgr }
theorem RAt.odd (r:RAt xt b w g H R C Ka K M ps h s vp sa A n c rows)(s':Bool):RAt xt b (w.setCell ⟨g,4,none⟩ (.bool s')) g H R C Ka K M ps h s' vp sa A n c rows:=by
 have hgr:w.grownBy (w.setCell ⟨g,4,none⟩ (.bool s')) (some g):=a_d (q:=⟨g,4,none⟩) (a_m w (some g)) rfl _;exact {
  bx:=r.bx.set 4 _
  hd:=a_a r.hd hgr (Ne.symm r.ne)
  len:=r.len
  ne:=r.ne
  bg:=r.bg
  bh:=r.bh
  own:=r.own.kept hgr r.pg
  pg:=r.pg
  ph:=r.ph
  az:=r.az.gro r.nowG hgr
  an:=r.an
  row:=fun a ha=>by
   obtain⟨v',h1,h2⟩:=r.row a ha;exact⟨v',h1,h2.gro (by simp) r.nowG hgr⟩
  ct:=xt.pg _ _ _ _ r.ct (by simp) r.nowG hgr }
theorem RAt.push (r:RAt xt b w g H R C Ka K M ps h s vp sa A n c rows){p:Nat}{vp':Value}(ho:OwnI w' b 3 vp' (ps.length+1) (ints ps++[.int .i64 (p:Int)]))(hG:Grew w w' vp vp')(hb:b<=w.heap.size){sz:Bool}{B:Option Addr}{m d:Nat}{z:Int}(hz:Zc w sz B m d z)(hm:m<=Ka):
  RAt xt b (((w'.setCell ⟨g,1,none⟩ vp').setCell ⟨g,2,none⟩ (.bool sz)).setCell ⟨g,3,none⟩ (.slice B m d)) g H R C Ka K M (ps++[p]) z s vp' sz B m d rows:=by
 have hgl:=r.bx.lt;have hhl:=r.hd.lt;have b1:Bx w' g xt.T (.slice (some ⟨H,0,none⟩) R R::vp:: .bool sa:: .slice A n c:: .bool s::xt.ex):=(hG.by'.block g hgl (Ne.symm r.pg)).trans r.bx;have b2:Bx w' H 25 rows:=(hG.by'.block H hhl (Ne.symm r.ph)).trans r.hd;have hrow:∀i,i<R->∃v,rows[i]? =some v/\RowOk w' (g::H::blkOf vp') v C (K i) (M i):=fun i hi=>by
  obtain⟨v,h1,h2⟩:=r.row i hi;have h3:RowOk w (g::H::blkOf vp') v C (K i) (M i):=h2.more fun x hx=>by
   rcases hG.to' with e|e
   ·left;have:blkOf vp'=blkOf vp:=by unfold blkOf;rw[e]
    rw[<-this];exact hx
   ·simp only[List.mem_cons]at hx ⊢;rcases hx with hx|hx|hx
    ·exact .inl (.inl hx)
    ·exact .inl (.inr (.inl hx))
    ·right;unfold blkOf at hx;rw[e]at hx;simp at hx;omega
  refine⟨v,h1, ?_⟩;cases hvb:vp.ownBlock with
  |none=>
   have:=hG.by';rw[hvb]at this;exact h3.below ⟨this.os,this.tape,this.output,this.size,fun k hk=>this.block k hk (by simp)⟩
  |some x=>
   obtain⟨A',c',e',h5,h6⟩:=h3;obtain⟨A'',c'',e'',h7,h8⟩:=h2;rw[e']at e'';cases e''
   have:=hG.by';rw[hvb]at this;exact⟨A',c',e',h5.gro0 (fun h0 ad ha e=>h8 h0 ad ha (by rw[e];simp[k_5 hvb])) (hG.now x hvb) this,h6⟩
 have hpg:vp'.ownBlock≠some g:=by
  rcases hG.to' with e|e
  ·rw[e];exact r.pg
  ·rw[e];intro e2;injection e2 with e2;omega
 have hph:vp'.ownBlock≠some H:=by
  rcases hG.to' with e|e
  ·rw[e];exact r.ph
  ·rw[e];intro e2;injection e2 with e2;omega
 obtain⟨Ap,cp,evp,-⟩:=r.own.form;obtain⟨Aq,cq,evq,-⟩:=ho.form;have hgr:w'.grownBy (((w'.setCell ⟨g,1,none⟩ vp').setCell ⟨g,2,none⟩ (.bool sz)).setCell ⟨g,3,none⟩ (.slice B m d)) (some g):=a_d (q:=⟨g,3,none⟩) (a_d (q:=⟨g,2,none⟩) (a_d (q:=⟨g,1,none⟩) (a_m w' (some g)) rfl _) rfl _) rfl _;have hno:Wless w' g:=b1.now (by subst evp;simpa using xt.nw);exact {
  bx:=((b1.set 1 _).set 2 _).set 3 _
  hd:=a_a b2 hgr (Ne.symm r.ne)
  len:=r.len
  ne:=r.ne
  bg:=r.bg
  bh:=r.bh
  own:=by
   have:=ho.kept hgr hpg;rw[show(ps++[p]).length=ps.length+1 by simp,show ints (ps++[p])=ints ps++[.int .i64 (p:Int)] by simp[ints]];exact this
  pg:=hpg
  ph:=hph
  az:=(hG.zc hz).gro hno hgr
  an:=hm
  row:=fun i hi=>by
   obtain⟨v,h1,h2⟩:=hrow i hi;exact⟨v,h1,h2.gro (by simp) hno hgr⟩
  ct:=by
   have c1:xt.P w (g::H::(blkOf vp'++blkOf vp)):=xt.pm _ _ _ r.ct fun x hx=>by
    simp only[List.mem_cons,List.mem_append]at hx ⊢;rcases hx with hx|hx|hx|hx
    ·exact .inl (.inl hx)
    ·exact .inl (.inr (.inl hx))
    ·rcases hG.to' with e|e
     ·have:blkOf vp'=blkOf vp:=by unfold blkOf;rw[e]
      rw[this]at hx;exact .inl (.inr (.inr hx))
     ·right;unfold blkOf at hx;rw[e]at hx;simp at hx;omega
    ·exact .inl (.inr (.inr hx))
   have c2:xt.P w' (g::H::(blkOf vp'++blkOf vp)):=by
    cases hvb:vp.ownBlock with
    |none=>
     have:=hG.by';rw[hvb]at this;exact xt.pb _ _ _ c1 ⟨this.os,this.tape,this.output,this.size,fun k hk=>this.block k hk (by simp)⟩
    |some x=>
     have:=hG.by';rw[hvb]at this;exact xt.pg _ _ _ x c1 (by simp[k_5 hvb]) (hG.now x hvb) this
   exact xt.pg _ _ _ _ (xt.pm _ _ _ c2 fun x hx=>by
    simp only[List.mem_cons,List.mem_append]at hx ⊢;rcases hx with hx|hx|hx
    ·exact .inl (.inl hx)
    ·exact .inl (.inr (.inl hx))
    ·exact .inl (.inr (.inr (.inl hx)))) (by simp) hno hgr }
end
theorem RAt.swap {xt:Xt}{b:Nat}{w:World}{g H R C Ka K:Nat}{M:Nat->Nat->Int}{ps:List Nat}{h:Int}{s:Bool}{vp:Value}{sa:Bool}{A:Option Addr}{n c:Nat}{rows:List Value}(r:RAt xt b w g H R C Ka (fun _=>K) M ps h s vp sa A n c rows){i j:Nat}(hi:i<R)(hj:j<R){vi vj:Value}(ei:rows[i]? =some vi)(ej:rows[j]? =some vj):
  RAt xt b ((w.setCell ⟨H,j,none⟩ vi).setCell ⟨H,i,none⟩ vj) g H R C Ka (fun _=>K) (DT.swr M j i) ps h s vp sa A n c ((rows.set j vi).set i vj):=by
 obtain⟨v,h1,h2⟩:=r.row i hi;rw[ei]at h1;cases h1;obtain⟨v,h3,h4⟩:=r.row j hj;rw[ej]at h3;cases h3;have r1:=r.put hj h2;have hgr:w.grownBy (w.setCell ⟨H,j,none⟩ vi) (some H):=a_d (q:=⟨H,j,none⟩) (a_m w (some H)) rfl _;have r2:=r1.put hi (h4.gro (by simp) r.nowH hgr);have e:(fun a=>if a=i then K else if a=j then K else K)=fun _=>K:=by funext a;split;rfl;split<;>rfl
 rw[e]at r2;refine r2.congr fun a l ha hl=>?_;unfold DT.swr;by_cases e1:a=i
 ·rw[if_pos e1];by_cases e2:a=j
  ·rw[if_pos e2];rw[<-e2,e1]
  ·rw[if_neg e2,if_pos e1]
 ·rw[if_neg e1];by_cases e2:a=j
  ·rw[if_pos e2,if_pos e2]
  ·rw[if_neg e2,if_neg e2,if_neg e1]
def Rdc (xt:Xt)(b:Nat)(w:World)(g R C K:Nat)(M:Nat->Nat->Int)(ps:List Nat)(h:Int)(s:Bool):Prop:=∃H vp sa A n c rows,RAt xt b w g H R C K (fun _=>K) M ps h s vp sa A n c rows
end
section
open Go.RowKit
theorem ZPowPost.q {z:Int}{k k':Nat}{w w':World}{e:Ending}(h:ZPowPost z k w e w')(hk:k<=k'):RetK (kT (kC z k') (.k (.bool true))) w e w':=by
 obtain⟨s,A,n,c,e,h1,h2,h3⟩:=h;exact⟨_,e,⟨_,_,rfl,⟨s,A,n,c,rfl,h1,by omega⟩,rfl⟩,h3⟩
theorem f_w {u v:Value}{x y q:Int}{n m k:Nat}{w:World}(hx:IsV x n u w)(hy:IsV y m v w)(hn:n<=549755813888)(hm:m<=549755813888)(h0:y≠0)(hq:q*y=x)(hk:n<=k):Calls Tryz.prog 113 #[u,v] w (RetK (kT (kC q k) (.k (.bool true))) w):=by
 obtain⟨s,A,a,c,rfl,h1,h2⟩:=hx;obtain⟨s',A',a',c',rfl,h1',h2'⟩:=hy;exact(g_8 h1 h1' (by omega) (by omega) h0 hq).mono fun e w' h=>h.q (by omega)
theorem opNeB {x y b:Bool}{U:TypeId}{X Y:Operand}(h:(x != y)=b)(w:World):RunTwo Tryz.prog (.binOp .neq 4 X Y U) w (.bool x) (.bool y) (.bool b):=by unfold RunTwo;subst h;cases x<;>cases y<;>(simp[go_sem];try kernel_rfl)
theorem p_0 {L:List Int}{m:Nat}(hm:m<=L.length)(h:∀j,j<m->ith L j=0):fil L m=List.replicate L.length 0:=by
 have e:L.take m=List.replicate m 0:=by
  apply List.ext_getElem
  ·simp;omega
  ·intro j h1 h2;have h3:j<m:=by simpa using h2
   have e:=h j h3;have h4:j<L.length:=by omega
   simp[ith,List.getD,h4]at e;simp[e]
 unfold fil;rw[e,List.replicate_append_replicate];congr 1
 omega
theorem opIxB {G n c k:Nat}{X Y:Operand}(h:k<n)(w:World):RunTwo Tryz.prog (.indexAddr 25 X Y) w (.slice (some ⟨G,0,none⟩) n c) (.int .i64 (k:Int)) (.pointer (some ⟨G,k*2,none⟩)):=by
 have:=opIx (ad:=⟨G,0,none⟩) (c:=c) (X:=X) (Y:=Y) h w;rwa [a_5]at this
theorem b_q (w:World)(g:Nat)(s:Bool)(A:Option Addr)(n c:Nat):w.grownBy (zput w g s A n c) (some g):=a_d (q:=⟨g,1,none⟩) (a_d (q:=⟨g,0,none⟩) (a_m w (some g)) rfl _) rfl _
def IsRw (b C K:Nat)(f:Nat->Int):FVal:=fun v w=>∃x,v= .slice (some ⟨x,0,none⟩) C C/\ZL true w (some ⟨x,0,none⟩) C C K (rw' C f)/\b<=x
def kRow (b C K:Nat)(f:Nat->Int):FK:=.f (IsRw b C K f) (fun v w w' ⟨x,e,h1,h2⟩ hb=>⟨x,e,h1.below hb,h2⟩)
theorem x_f {xt:Xt}{g k C K K' n c cu cl:Nat}{v0 vp:Value}{sa s:Bool}{A Au Al:Option Addr}{h:Int}{U L q:Nat->Int}{w:World}(bx:Bx w g xt.T (v0::vp:: .bool sa:: .slice A n c:: .bool s::xt.ex))(az:Zc w sa A n c h)(hn:n<=K)
  (hU:ZL true w Au C cu K (rw' C U)) (hL:ZL true w Al C cl K (rw' C L)) (hk:k<C) (h0:h≠0) (hu:∀j,j<k->U j=0) (hl:∀j,j<k->L j=0) (hq:∀j,j<C->q j*h=U k*L j - L k*U j) (hC:C<=1048576) (hK:2*K+1<=K') (hK':K'<=549755813888):
  Calls Tryz.prog 215 #[.pointer (some ⟨g,0,none⟩),.slice Au C cu,.slice Al C cl,.int .i64 (k:Int)] w (RetK (kRow w.heap.size C K' q) w):=by
 have hq0:∀j,j<k+1->ith (rw' C q) j=0:=fun j hj=>by
  rw[c_6 (by omega)];have e:=hq j (by omega);rcases Nat.lt_or_ge j k with h1|h1
  ·rw[hu j h1,hl j h1]at e;exact(Int.mul_eq_zero.mp (by omega)).resolve_right h0
  ·obtain rfl:j=k:=by omega
   rw[Int.mul_comm (L j)]at e;exact(Int.mul_eq_zero.mp (by omega)).resolve_right h0
 have BX:=Lib.hid bx;have AZ:=Lib.hid az;have HU:=Lib.hid hU;have HL:=Lib.hid hL;have HQ:=Lib.hid hq;have hs0:=bx.lt;clear bx az hU hL hq hu hl;go_enter Tryz.func215,Tryz.ntmps215
 go_wp2_with (at_make;refine h_y _ rfl _ _ 25 rfl Tryz.underlying25 info_zint _ _ _ _ C rfl rfl (by omega) (by omega) (by omega) ?_)
 intro w1 hb B1 s1;have HS1:=Lib.hid s1;obtain⟨G,hG⟩:∃G,w.heap.size=G:=⟨_,rfl⟩;rw[hG]at hb;have HG:=Lib.hid hG;have hb':ZB w1 G K' (fil (rw' C q) (k+1)):=by
  rw[p_0 (by rw[b_d];omega) hq0,b_d];exact hb.mono (by omega)
 have HB0:=Lib.hid hb';have HB1:=Lib.hid B1;have e16:IntKind.i64.wrap ((k:Int)+1)=((k+1:Nat):Int):=by rw[IntKind.wrap_i64];omega
 try rw[hG]
 clear hb hb' B1 s1 hG hq0
 go_wp2_with fail
 try rw[e16]
 go_loopw [10] (fun s10 wr=>∃j:Nat,s10= .int .i64 (j:Int)/\k<j/\j<=C/\Hid (Below w.heap.size w wr/\ZB wr G K' (fil (rw' C q) j))) (fun s10 _=>C - (intOf s10).toNat)
 case atStart=>exact⟨k+1,by first|rfl|go_num,by omega,by omega,Lib.hid ⟨HB1.out,HB0.out⟩⟩
 case round=>
  obtain⟨j,rfl,hkj,hj,HB⟩:=hrel;by_cases hlt:j<C
  ·have u2:(j:Int)<(C:Int):=by omega
   obtain⟨B0,hzb⟩:=HB.out;have hs1:=B0.size;have hgl:=hzb.lt;clear HB;go_upto_region 5 with fail
   obtain⟨al,rfl,hal,hAl⟩:=(HL.out.below B0).at hlt;obtain⟨s1,A1,n1,c1,e7,e8,ze1,hk1⟩:=hAl;have hz1:=ze1.1;rw[c_6 hlt]at hz1;obtain⟨au,rfl,hau,hAu⟩:=(HU.out.below B0).at hk;obtain⟨s2,A2,n2,c2,e1,e2,ze2,hk2⟩:=hAu;have hz2:=ze2.1;rw[c_6 hk]at hz2;obtain⟨al',eal,-,hAl'⟩:=(HL.out.below B0).at hk;cases eal;obtain⟨s3,A3,n3,c3,e3,e4,ze3,hk3⟩:=hAl';have hz3:=ze3.1;rw[c_6 hk]at hz3;obtain⟨au',eau,-,hAu'⟩:=(HU.out.below B0).at hlt;cases eau;obtain⟨s4,A4,n4,c4,e5,e6,ze4,hk4⟩:=hAu';have hz4:=ze4.1;rw[c_6 hlt]at hz4;clear ze1 ze2 ze3 ze4;refine Run.start 20 ?_;refine .mv .o ?_;refine .mv .o ?_;refine .two (.i 0) (.i 1) (opIx hk) ?_;refine .ld (.i 2) (ldE (by rw[a_b];exact hau) e1 e2) ?_;refine .mv .o ?_;refine .mv .o ?_;refine .two (.i 4) (.i 5) (opIx hlt) ?_;refine .ld (.i 6) (ldE (by rw[a_b];exact hal) e7 e8) ?_;refine .c2 (.i 3) (.i 7) (x:=kC (U k*L j) (2*K)) (by rintro u v w6 hB rfl rfl;exact b_u ⟨_,_,_,_,rfl,hz2.below hB,hk2⟩ ⟨_,_,_,_,rfl,hz1.below hB,hk1⟩ (by omega) (by omega) (by omega)) ?_;refine .mv .o ?_;refine .mv .o ?_;refine .two (.i 9) (.i 10) (opIx hk) ?_;refine .ld (.i 11) (ldE (by rw[a_b];exact hal) e3 e4) ?_;refine .mv .o ?_;refine .mv .o ?_;refine .two (.i 13) (.i 14) (opIx hlt) ?_;refine .ld (.i 15) (ldE (by rw[a_b];exact hau) e5 e6) ?_;refine .c2 (.i 12) (.i 16) (x:=kC (L k*U j) (2*K)) (by rintro u v w6 hB rfl rfl;exact b_u ⟨_,_,_,_,rfl,hz3.below hB,hk3⟩ ⟨_,_,_,_,rfl,hz4.below hB,hk4⟩ (by omega) (by omega) (by omega)) ?_;refine .c2 (.i 8) (.i 17) (x:=kC (U k*L j - L k*U j) (2*K+1)) (by rintro u v w6 hB hu hv;exact t_h hu.v hv.v (by omega) (by omega) (by omega)) ?_;refine .al ?_;refine .done [some 23,some 24,some 25,some 26,some 27,some 28,some 29,some 30,some 31,some 32,some 33,some 34,some 35,some 36,some 37,some 38,some 39,some 40,some 41,some 11] ?_;intro w4 B4;rintro v31 -;rintro v40 -;rintro v ⟨s5,A5,n5,c5,rfl,hz5,hk5⟩;rintro g11 hg11 hl11 hc11 -;refine sh [_] ?_;simp only[Act.put,lS,lZ,lC];have b11:=zeroZ (T:=0) hc11;have hs3:=B0.size;replace B0:=zup B0 B4;have hgl2:=hzb.lt;replace hzb:=hzb.below B4;clear e1 e2 e3 e4 e5 e6 e7 e8 hau hal hc11 B4 hz1 hz2 hz3 hz4 hk1 hk2 hk3 hk4;have hgr_:=b_q w4 g11 s5 A5 n5 c5;have hno_:=b11.now (by simp);replace hzb:=hzb.gro (by omega) hno_ hgr_;clear hgr_ hno_;obtain⟨w5,hw5⟩:∃x,zput w4 g11 s5 A5 n5 c5=x:=⟨_,rfl⟩;obtain⟨f1_,f2_,f3_,f4_,f5_⟩:=Ib.entry b11;replace hz5:=hz5.zp (s':=s5) (A':=A5) (n':=n5) (c':=c5) b11;rw[hw5]at hz5;replace B0:=a_8 (g:=g11) (s:=s5) (A:=A5) (n:=n5) (c:=c5) B0 (by omega);rw[hw5]at B0;replace b11:=b11.zp (s:=s5) (A:=A5) (n:=n5) (c:=c5);rw[hw5]at b11;have Hw5:=Lib.hid hw5;unfold zput at Hw5;clear hw5;have e_:=Hw5.out;change zput _ _ _ _ _ _=_ at e_;rw[e_]at hzb;clear e_;go_upto_region 6 with fail
   rw[Hw5.out];clear f1_ f2_ f3_ f4_ f5_ Hw5;have bx:=BX.out.below B0;have az:=AZ.out.below B0;refine Run.start 12 ?_;refine .mv .o ?_;refine .mv .o ?_;refine .ld .o (ldZ b11 0) ?_;refine .mv .o ?_;refine .nc (.i 3) ?_;refine .fa (.i 4) (fE2 2) ?_;refine .ld (.i 5) (ldZ bx 2) ?_;refine .c2 (.i 2) (.i 6) (x:=kT (kC (q j) K') (.k (.bool true))) (by rintro u v w6 hB rfl rfl;exact f_w ⟨_,_,_,_,rfl,(hz5.below hB).zv,hk5⟩ ⟨_,_,_,_,rfl,(az.below hB).zv,hn⟩ (by omega) (by omega) h0 (HQ.out j hlt) (by omega)) ?_;refine .mf (.i 7) ?_;refine .ex (.i 8) 0 kT_0 ?_;refine .ex (.i 8) 1 kT_1 ?_;refine .two (.i 0) (.i 1) (opIxB (show j<C from hlt)) ?_;refine .donef [10] [some 43,some 44,some 45,some 46,some 47,some 48,some 49,some 50,some 42,some 51,some 52,some 53] (e_w (e_v (k:=8) (j:=1) (v:=.bool true) (by kernel_rfl) rfl rfl (fun u w ⟨a,b,e,h1,h2⟩=>⟨_,e,by cases h2;rfl⟩) (fun _=>rfl))) ?_;intro w6 B6;rintro v50 -;rintro v42 -;rintro v ⟨s6,A6,n6,c6,rfl,hz6,hk6⟩;refine sh [_] ?_;simp only[Act.put,lS,lZ,lC];replace B0:=zup B0 B6;replace hzb:=hzb.below B6;have hl:j<(fil (rw' C q) j).length:=by rw[e_h (by rw[b_d];omega),b_d];exact hlt
   obtain⟨t1,t2,t3,t4,x1,x2,-,-⟩:=hzb.cells hl;have y1:=hzb.free (j*2);have y2:=hzb.free (j*2+1);have hs:=hzb.put hl hz6 hk6;rw[show q j=ith (rw' C q) j from(c_6 hlt).symm,l_h (by rw[b_d];exact hlt)]at hs;have HN:Hid (Below w.heap.size w (zputo w6 G (j*2) s6 A6 n6 c6)/\ZB (zputo w6 G (j*2) s6 A6 n6 c6) G K' (fil (rw' C q) (j+1))):=Lib.hid ⟨a_c B0 (c_2 _ _ _ _ _ _ _) (by have:=HG.out;omega),hs⟩;unfold zputo at HN;clear hs hzb bx az hz5 hz6 b11 B6 B0
   go_wp2_with fail
   go_roundw
   case rel=>exact⟨j+1,by go_num,by omega,by omega,HN⟩
   case measure=>first|(simp[intOf];done)|(simp[intOf];omega)
  ·obtain rfl:j=C:=by omega
   have u2:¬(j:Int)<(j:Int):=by omega
   obtain⟨B0,hzb⟩:=HB.out;have hzl:=hzb.zl0 true (n:=j) (c:=j) (by rw[e_h (by rw[b_d];omega),b_d];omega) (Nat.le_refl _) (by omega);rw[show fil (rw' j q) j=rw' j q by have:=l_i (rw' j q);rwa [b_d]at this,List.take_of_length_le (by rw[b_d];omega)]at hzl;have P:Hid (RetK (kRow w.heap.size j K' q) w (.returned (.slice (some ⟨G,0,none⟩) j j)) wr):=Lib.hid ⟨_,rfl,⟨G,rfl,hzl,by have:=HG.out;omega⟩,B0⟩;clear HB hzb hzl B0
   go_wp2_with fail
   exact bodyPost_ret (v:=.slice (some ⟨G,0,none⟩) j j) (by simp[results,Tryz.results215,go_sem]) rfl P.out
end
end Go.Proofs.YtfhbdlegkdbmfaaGreat
