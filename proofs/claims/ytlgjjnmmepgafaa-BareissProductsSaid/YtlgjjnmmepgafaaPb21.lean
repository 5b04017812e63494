/- Pb21 -/
import Derived.Test.YtlgjjnmmepgafaaPb20
set_option linter.unusedVariables false
set_option linter.unusedSimpArgs false
set_option linter.unusedSectionVars false
set_option maxRecDepth 100000
set_option maxHeartbeats 8000000
namespace Go.Proofs.Ytlgjjnmmepgafaa
namespace DT
def bc (n:Nat)(G:Mx)(p:Nat->Nat)(i j:Nat):Int:=det (n+1) fun a b=>G (if a<n then a else i) (if b<n then p b else j)
def pm (n:Nat)(G:Mx)(p:Nat->Nat):Int:=det n fun a b=>G a (p b)
theorem g_w {n:Nat}{G G':Mx}{p p':Nat->Nat}{i i' j:Nat}(h:∀a,a<n->∀k,G a k=G' a k)(hp:∀b,b<n->p b=p' b)(hi:∀k,G i k=G' i' k):bc n G p i j=bc n G' p' i' j:=det_ext fun a b ha hb=>by
 by_cases h1:a<n
 ·by_cases h2:b<n
  ·simp only[if_pos h1,if_pos h2];rw[hp b h2,h a h1]
  ·simp only[if_pos h1,if_neg h2];rw[h a h1]
 ·by_cases h2:b<n
  ·simp only[if_neg h1,if_pos h2];rw[hp b h2,hi]
  ·simp only[if_neg h1,if_neg h2];rw[hi]
theorem h_8 {n:Nat}{G G':Mx}{p p':Nat->Nat}(h:∀a,a<n->∀k,G a k=G' a k)(hp:∀b,b<n->p b=p' b):pm n G p=pm n G' p':=det_ext fun a b ha hb=>by rw[hp b hb,h a ha]
theorem q_h (G:Mx)(p:Nat->Nat)(i j:Nat):bc 0 G p i j=G i j:=by
 unfold bc;simp[a_w,sumN,sgn,det]
theorem o_3 {n:Nat}{G:Mx}{p:Nat->Nat}:pm (n+1) G p=bc n G p n (p n):=det_ext fun a b ha hb=>by
 by_cases h1:a<n
 ·by_cases h2:b<n
  ·simp only[if_pos h1,if_pos h2]
  ·simp only[if_pos h1,if_neg h2];rw[show b=n by omega]
 ·by_cases h2:b<n
  ·simp only[if_neg h1,if_pos h2];rw[show a=n by omega]
  ·simp only[if_neg h1,if_neg h2];rw[show a=n by omega,show b=n by omega]
def kap (n:Nat)(p:Nat->Nat)(k j:Nat):Nat->Nat:=fun b=>if b<n then p b else if b=n then k else j
theorem n_1 (n:Nat)(G:Mx)(p:Nat->Nat)(k j i:Nat):bd n (fun a b=>G a (kap n p k j b)) i n=bc n G p i k:=det_ext fun a b ha hb=>by
 unfold bord kap;by_cases h2:b<n
 ·simp only[if_pos h2]
 ·simp only[if_neg h2,if_pos trivial,if_neg (Nat.lt_irrefl n)]
theorem l_i (n:Nat)(G:Mx)(p:Nat->Nat)(k j i:Nat):bd n (fun a b=>G a (kap n p k j b)) i (n+1)=bc n G p i j:=det_ext fun a b ha hb=>by
 unfold bord kap;by_cases h2:b<n
 ·simp only[if_pos h2]
 ·simp only[if_neg h2,if_neg (show ¬n+1<n by omega),if_neg (show ¬n+1=n by omega)]
theorem q_g (n:Nat)(G:Mx)(p:Nat->Nat)(j i:Nat):bd (n+1) (fun a b=>G a (kap n p (p n) j b)) i (n+1)=bc (n+1) G p i j:=det_ext fun a b ha hb=>by
 unfold bord kap;by_cases h2:b<n+1
 ·simp only[if_pos h2];by_cases h3:b<n
  ·simp only[if_pos h3]
  ·have e:b=n:=by omega
   subst e;simp
 ·simp only[if_neg h2,if_neg (show ¬n+1<n by omega),if_neg (show ¬n+1=n by omega)]
theorem k_6 (n:Nat)(G:Mx)(p:Nat->Nat)(k j:Nat):det n (fun a b=>G a (kap n p k j b))=pm n G p:=det_ext fun a b ha hb=>by unfold kap;rw[if_pos hb]
theorem q_i {n:Nat}{G:Mx}{p:Nat->Nat}(hd:pm n G p≠0){i:Nat}(j:Nat)(hi:n<=i):pm n G p*bc (n+1) G p i j=bc n G p n (p n)*bc n G p i j - bc n G p n j*bc n G p i (p n):=by
 have e:=j_e n (fun a b=>G a (kap n p (p n) j b)) (by rw[k_6];exact hd) hi (show n<=n+1 by omega);rw[k_6,q_g,n_1,l_i,n_1,l_i]at e;exact e
theorem i_s {n:Nat}{G:Mx}{p:Nat->Nat}(hd:pm n G p≠0)(i:Nat):∃x:Nat->Int,∀j,bc n G p i j=pm n G p*G i j - sumN n fun a=>x a*G a j:=by
 have e:det n (fun a b=>G a (if b<n then p b else b - n))=pm n G p:=det_ext fun a b ha hb=>by rw[if_pos hb]
 obtain⟨x,hx⟩:=n_0 n (fun a b=>G a (if b<n then p b else b - n)) i (by rw[e];exact hd);refine⟨x,fun j=>?_⟩;have h:=hx (n+j);rw[e]at h;simp only[if_neg (show ¬n+j<n by omega),Nat.add_sub_cancel_left]at h;rw[<-h];exact det_ext fun a b ha hb=>by
  unfold bord;by_cases h2:b<n
  ·simp only[if_pos h2]
  ·simp only[if_neg h2,if_neg (show ¬n+j<n by omega),Nat.add_sub_cancel_left]
theorem r_0 (n:Nat)(G:Mx)(p:Nat->Nat){i:Nat}(j:Nat)(hi:i<n):bc n G p i j=0:=
 (a_p (n+1)).same' _ (i:=i) (k:=n) (by omega) (by omega) (by omega) fun a ha=>by simp[hi]
theorem r_z (n:Nat)(G:Mx)(p:Nat->Nat)(i:Nat){b:Nat}(hb:b<n):bc n G p i (p b)=0:=by
 unfold bc;rw[<-det_T];exact(a_p (n+1)).same' _ (i:=b) (k:=n) (by omega) (by omega) (by omega) fun a ha=>by simp[hb]
theorem q_1 {n R k:Nat}{G:Mx}{p:Nat->Nat}(hd:pm n G p≠0)(hk:p n=k)(hz:∀i,n<=i->i<R->bc n G p i k=0):¬Som R G (n+1) p:=fun hs=>by
 obtain⟨f,hf,-⟩:=Som.of (S:=n) (N:=G) hd (X:=fun i=>(i_s hd i).choose) (fun i j hi hj=>by
  have h:=(i_s hd i).choose_spec (p j);have h0:bc n G p i (p j)=0:=by
   rcases Nat.lt_or_ge j n with h1|h1
   ·exact r_z n G p i h1
   ·rw[show j=n by omega,hk];rcases Nat.lt_or_ge i n with h2|h2
    ·exact r_0 n G p k h2
    ·exact hz i h2 hi
  rw[h0]at h;omega) hs
 have:=hf.ge n (by omega)
 have:=hf.lt n (by omega);omega
def swr (M:Mx)(n i:Nat):Mx:=fun a=>if a=n then M i else if a=i then M n else M a
theorem h_1 (M:Mx)(n:Nat):swr M n n=M:=by
 funext a;unfold swr
 by_cases h:a=n
 ·rw[if_pos h,h]
 ·rw[if_neg h,if_neg h]
theorem p_y {R n i:Nat}(M:Mx)(hn:n<R)(hi:i<R)(hne:n≠i):det R (swr M n i)= - det R M:=by
 rw[<-(a_p R).swap M hn hi hne];exact det_ext fun a b _ _=>by
  unfold swr setr;by_cases h1:a=n
  ·subst h1;simp[hne]
  ·by_cases h2:a=i
   ·subst h2;simp[h1]
   ·simp[h1,h2]
structure Red (R C k:Nat) (F:Mx) (s:Bool) (G:Mx) (ps:List Nat) (M:Mx) (h:Int):Prop where
 nR:ps.length<=R
 nk:ps.length<=k
 lt:∀x,x∈ps->x<k
 idn:ps.length=k->∀b,b<k->ps.getD b 0=b
 hh:h=pm ps.length G fun b=>ps.getD b 0
 h0:h≠0
 low:∀i j,ps.length<=i->i<R->j<C->M i j=bc ps.length G (fun b=>ps.getD b 0) i j
 up:∀i j,i<ps.length->j<C->M i j=bc i G (fun b=>ps.getD b 0) i j
 zero:∀i j,ps.length<=i->i<R->j<k->M i j=0
 dt:det R G=(if s then -1 else 1)*det R F
 perm:∃f:Nat->Nat,∀a,a<R->f a<R/\G a=F (f a)
 back:∃f:Nat->Nat,∀a,a<R->f a<R/\F a=G (f a)
 pv:ps=piv R F k
 pz:∀i,i<ps.length->M i (ps.getD i 0)≠0
 pl:∀i j,i<ps.length->j<ps.getD i 0->M i j=0
theorem Red.start (R C:Nat)(F:Mx):Red R C 0 F false F [] F 1 where
 nR:=Nat.zero_le _
 nk:=Nat.zero_le _
 lt:=fun x h=>by simp at h
 idn:=fun _ b hb=>by omega
 hh:=by unfold pm;rfl
 h0:=by decide
 low:=fun i j _ _ _=>(q_h F _ i j).symm
 up:=fun i j h _=>by simp at h
 zero:=fun i j _ _ h=>by omega
 dt:=by simp
 perm:=⟨id,fun a ha=>⟨ha,rfl⟩⟩
 back:=⟨id,fun a ha=>⟨ha,rfl⟩⟩
 pv:=rfl
 pz:=fun i hi=>by simp at hi
 pl:=fun i j hi=>by simp at hi
theorem h_2 {R k:Nat}{F G:Mx}{c:Nat->Nat}(h:∃f:Nat->Nat,∀a,a<R->f a<R/\G a=F (f a))(hs:Som R G k c):Som R F k c:=by
 obtain⟨f,hf⟩:=h;refine Som.of (S:=R) (d:=1) (by decide) (X:=fun i l=>if l=f i then 1 else 0) (fun i j hi hj=>?_) hs;rw[b_e (hf i hi).1 fun l hl hne=>by rw[if_neg hne];simp,if_pos rfl,(hf i hi).2]
theorem a_r {l:List Nat}{k b:Nat}(h:b<l.length):(l++[k]).getD b 0=l.getD b 0:=by
 simp[List.getD_eq_getElem?_getD,List.getElem?_append_left h]
theorem b_g {l:List Nat}{k:Nat}:(l++[k]).getD l.length 0=k:=by
 simp[List.getD_eq_getElem?_getD]
theorem i_d {l:List Nat}{b:Nat}(h:b<l.length):l.getD b 0∈l:=by
 rw[List.getD_eq_getElem?_getD,List.getElem?_eq_getElem h];exact List.getElem_mem h
section
variable {R C k:Nat}{F G M:Mx}{s:Bool}{ps:List Nat}{h:Int}
theorem Red.no (r:Red R C k F s G ps M h)(hk:k<C)(hz:∀i,ps.length<=i->i<R->M i k=0):Red R C (k+1) F s G ps M h where
 nR:=r.nR
 nk:=Nat.le_succ_of_le r.nk
 lt:=fun x hx=>Nat.lt_succ_of_lt (r.lt x hx)
 idn:=fun e=>by have:=r.nk;omega
 hh:=r.hh
 h0:=r.h0
 low:=r.low
 up:=r.up
 zero:=fun i j h1 h2 h3=>by
  rcases Nat.lt_or_ge j k with h4|h4
  ·exact r.zero i j h1 h2 h4
  ·rw[show j=k by omega];exact hz i h1 h2
 dt:=r.dt
 perm:=r.perm
 back:=r.back
 pv:=by
  have hn:¬Som R G (ps.length+1) (fun j=>(ps++[k]).getD j 0):=q_1 (by
    rw[h_8 (p':=fun b=>ps.getD b 0) (fun _ _ _=>rfl) fun b hb=>a_r hb,<-r.hh];exact r.h0) b_g fun i h1 h2=>by
   rw[g_w (p':=fun b=>ps.getD b 0) (fun _ _ _=>rfl) (fun b hb=>a_r hb) (fun _=>rfl),<-r.low i k h1 h2 hk];exact hz i h1 h2
  rw[piv_no (by rw[<-r.pv];exact fun hs=>hn (h_2 r.back hs))];exact r.pv
 pz:=r.pz
 pl:=r.pl
theorem Red.swap (r:Red R C k F s G ps M h){i:Nat}(hi:ps.length<=i)(hR:i<R):Red R C k F (s != decide (i≠ps.length)) (swr G ps.length i) ps (swr M ps.length i) h:=by
 by_cases e:i=ps.length
 ·subst e;rw[h_1,h_1];simpa using r
 have hup:∀a,a<ps.length->swr G ps.length i a=G a:=fun a ha=>by unfold swr;rw[if_neg (by omega),if_neg (by omega)]
 have hbc:∀n b j,n<=ps.length->bc n (swr G ps.length i) (fun b=>ps.getD b 0) b j=bc n G (fun b=>ps.getD b 0) (if b=ps.length then i else if b=i then ps.length else b) j:=fun n b j hn=>g_w (fun a ha k=>by rw[hup a (by omega)]) (fun _ _=>rfl) (fun k=>by
  unfold swr;by_cases h1:b=ps.length
  ·simp only[if_pos h1]
  ·by_cases h2:b=i
   ·simp only[if_neg h1,if_pos h2]
   ·simp only[if_neg h1,if_neg h2])
 have hM:∀a j,swr M ps.length i a j=M (if a=ps.length then i else if a=i then ps.length else a) j:=fun a j=>by
  unfold swr;by_cases h1:a=ps.length
  ·simp only[if_pos h1]
  ·by_cases h2:a=i
   ·simp only[if_neg h1,if_pos h2]
   ·simp only[if_neg h1,if_neg h2]
 have hx:∀a,ps.length<=a->a<R->ps.length<=(if a=ps.length then i else if a=i then ps.length else a)/\(if a=ps.length then i else if a=i then ps.length else a)<R:=fun a h1 h2=>by
  split
  ·exact⟨hi,hR⟩
  ·split
   ·exact⟨Nat.le_refl _,by omega⟩
   ·exact⟨h1,h2⟩
 exact {
  nR:=r.nR
  nk:=r.nk
  lt:=r.lt
  idn:=r.idn
  hh:=by rw[r.hh];exact(h_8 (fun a ha k=>by rw[hup a ha]) fun _ _=>rfl).symm
  h0:=r.h0
  low:=fun a j h1 h2 h3=>by rw[hM,hbc _ _ _ (Nat.le_refl _)];exact r.low _ j (hx a h1 h2).1 (hx a h1 h2).2 h3
  up:=fun a j h1 h3=>by
   rw[hM,hbc _ _ _ (by omega),if_neg (by omega),if_neg (by omega)];exact r.up a j h1 h3
  zero:=fun a j h1 h2 h3=>by rw[hM];exact r.zero _ j (hx a h1 h2).1 (hx a h1 h2).2 h3
  dt:=by
   rw[p_y G (by omega) hR (by omega),r.dt];cases s<;>simp[e]
  perm:=by
   obtain⟨f,hf⟩:=r.perm;refine⟨fun a=>f (if a=ps.length then i else if a=i then ps.length else a),fun a ha=>?_⟩;have hlt:(if a=ps.length then i else if a=i then ps.length else a)<R:=by split;exact hR;split;omega;exact ha
   refine⟨(hf _ hlt).1, ?_⟩;rw[<-(hf _ hlt).2];unfold swr;by_cases h1:a=ps.length
   ·simp only[if_pos h1]
   ·by_cases h2:a=i
    ·simp only[if_neg h1,if_pos h2]
    ·simp only[if_neg h1,if_neg h2]
  back:=by
   obtain⟨f,hf⟩:=r.back;refine⟨fun a=>(if f a=ps.length then i else if f a=i then ps.length else f a),fun a ha=>⟨?_, ?_⟩⟩
   ·dsimp only;split
    ·exact hR
    ·split
     ·omega
     ·exact(hf a ha).1
   ·rw[(hf a ha).2];unfold swr;by_cases h1:f a=ps.length
    ·simp only[if_pos h1,if_neg e];simp[h1]
    ·by_cases h2:f a=i
     ·simp only[if_neg h1,if_pos h2];simp[h2]
     ·simp only[if_neg h1,if_neg h2]
  pv:=r.pv
  pz:=fun a ha=>by rw[hM,if_neg (by omega),if_neg (by omega)];exact r.pz a ha
  pl:=fun a j ha hj=>by rw[hM,if_neg (by omega),if_neg (by omega)];exact r.pl a j ha hj }
def nxt (R C k:Nat)(G:Mx)(ps:List Nat)(i j:Nat):Int:=bc (ps.length+1) G (fun b=>(ps++[k]).getD b 0) i j
theorem Red.step (r:Red R C k F s G ps M h)(hk:k<C){i j:Nat}(hi:ps.length<i)(hR:i<R)(hj:j<C):nxt R C k G ps i j*h=M ps.length k*M i j - M i k*M ps.length j:=by
 have e:=q_i (n:=ps.length) (G:=G) (p:=fun b=>(ps++[k]).getD b 0) (by
  rw[h_8 (p':=fun b=>ps.getD b 0) (fun _ _ _=>rfl) fun b hb=>a_r hb,<-r.hh];exact r.h0) j (Nat.le_of_lt hi)
 have hb:∀a j,bc ps.length G (fun b=>(ps++[k]).getD b 0) a j=bc ps.length G (fun b=>ps.getD b 0) a j:=fun a j=>g_w (fun _ _ _=>rfl) (fun b hb=>a_r hb) (fun _=>rfl);rw[h_8 (p':=fun b=>ps.getD b 0) (fun _ _ _=>rfl) fun b hb=>a_r hb,<-r.hh]at e;simp only[hb,b_g]at e;rw[<-r.low _ _ (Nat.le_refl _) (by omega) hk,<-r.low _ _ (by omega) hR hj,<-r.low _ _ (Nat.le_refl _) (by omega) hj,<-r.low _ _ (by omega) hR hk]at e;unfold nxt;rw[Int.mul_comm,e,Int.mul_comm (M i k)]
theorem Red.yes (r:Red R C k F s G ps M h)(hk:k<C)(hn:ps.length<R)(hne:M ps.length k≠0){M':Mx}(h1:∀i j,i<=ps.length->j<C->M' i j=M i j)(h2:∀i j,ps.length<i->i<R->j<C->M' i j=nxt R C k G ps i j):
  Red R C (k+1) F s G (ps++[k]) M' (M ps.length k):=by
 have hb:∀a j,bc ps.length G (fun b=>(ps++[k]).getD b 0) a j=bc ps.length G (fun b=>ps.getD b 0) a j:=fun a j=>g_w (fun _ _ _=>rfl) (fun b hb=>a_r hb) (fun _=>rfl);have hp:M ps.length k=pm (ps.length+1) G fun b=>(ps++[k]).getD b 0:=by
  rw[o_3,b_g,hb];exact r.low _ _ (Nat.le_refl _) hn hk
 have hl:(ps++[k]).length=ps.length+1:=by simp
 exact {
  nR:=by rw[hl];exact hn
  nk:=by rw[hl];have:=r.nk;omega
  lt:=fun x hx=>by
   rw[List.mem_append]at hx;rcases hx with hx|hx
   ·have:=r.lt x hx;omega
   ·simp at hx;omega
  idn:=fun e b hb=>by
   rw[hl]at e;have e':ps.length=k:=by omega
   rcases Nat.lt_or_ge b k with h3|h3
   ·rw[a_r (by omega)];exact r.idn e' b h3
   ·have:b=ps.length:=by omega
    rw[this,b_g];exact e'.symm
  hh:=by rw[hl];exact hp
  h0:=hne
  low:=fun i j h3 h4 h5=>by rw[hl]at h3 ⊢;exact h2 i j (by omega) h4 h5
  up:=fun i j h3 h5=>by
   rw[hl]at h3;rw[h1 i j (by omega) h5];rcases Nat.lt_or_ge i ps.length with h6|h6
   ·rw[r.up i j h6 h5];exact g_w (fun _ _ _=>rfl) (fun b hb=>(a_r (by omega)).symm) (fun _=>rfl)
   ·have:i=ps.length:=by omega
    rw[this,hb];exact r.low _ _ (Nat.le_refl _) hn h5
  zero:=fun i j h3 h4 h5=>by
   rw[hl]at h3;have hj:j<C:=by omega
   rw[h2 i j (by omega) h4 hj];have e:=r.step hk (i:=i) (by omega) h4 hj;have:nxt R C k G ps i j*h=0:=by
    rw[e];rcases Nat.lt_or_ge j k with h6|h6
    ·rw[r.zero i j (by omega) h4 h6,r.zero ps.length j (Nat.le_refl _) hn h6];simp
    ·rw[show j=k by omega,Int.mul_comm];omega
   exact(Int.mul_eq_zero.mp this).resolve_right r.h0
  dt:=r.dt
  perm:=r.perm
  back:=r.back
  pv:=by
   have hs:Som R G (ps.length+1) (fun j=>(ps++[k]).getD j 0):=⟨id,⟨fun i hi=>Nat.lt_succ_self _,fun i hi=>Nat.lt_of_lt_of_le hi hn⟩,by
    exact fun e=>hne (hp.trans e)⟩
   rw[piv_yes (by rw[<-r.pv];exact h_2 r.perm hs),<-r.pv]
  pz:=fun a ha=>by
   rw[hl]at ha;rcases Nat.lt_or_ge a ps.length with h3|h3
   ·rw[a_r h3,h1 a _ (by omega) (Nat.lt_trans (r.lt _ (i_d h3)) hk)];exact r.pz a h3
   ·obtain rfl:a=ps.length:=by omega
    rw[b_g,h1 _ _ (Nat.le_refl _) hk];exact hne
  pl:=fun a j ha hj=>by
   rw[hl]at ha;rcases Nat.lt_or_ge a ps.length with h3|h3
   ·rw[a_r h3]at hj
    have:=r.lt _ (i_d h3);rw[h1 a j (by omega) (by omega)];exact r.pl a j h3 hj
   ·obtain rfl:a=ps.length:=by omega
    rw[b_g]at hj;rw[h1 _ j (Nat.le_refl _) (by omega)];exact r.zero _ j (Nat.le_refl _) hn hj }
theorem Red.full (r:Red R R R F s G ps M h)(hn:ps.length=R):det R F=if s then -h else h:=by
 have e:h=det R G:=by
  rw[r.hh,hn];exact det_ext fun a b _ hb=>by dsimp only;rw[r.idn hn b hb]
 have:=r.dt;rw[<-e]at this;cases s<;>simp at this ⊢ <;>omega
theorem Red.thin (r:Red R R R F s G ps M h)(hn:ps.length<R):det R F=0:=by
 have hd:pm ps.length G (fun b=>ps.getD b 0)≠0:=by rw[<-r.hh];exact r.h0
 have e:det R G=0:=m_2 hn hd G (fun i=>(i_s hd i).choose) G fun i j hi hj=>by
  have h1:=(i_s hd i).choose_spec j;have h0:bc ps.length G (fun b=>ps.getD b 0) i j=0:=by
   rcases Nat.lt_or_ge i ps.length with h2|h2
   ·exact r_0 _ _ _ _ h2
   ·rw[<-r.low i j h2 hi hj];exact r.zero i j h2 hi hj
  rw[h0]at h1;omega
 have:=r.dt;rw[e]at this;cases s<;>simp at this<;>omega
end
end DT
end Go.Proofs.Ytlgjjnmmepgafaa
