/- Pq30 -/
import Derived.Test.YtfhbdlegkdbmfaaGreatPq29
import Derived.Test.YtfhbdlegkdbmfaaGreatPq23
set_option linter.unusedVariables false
set_option linter.unusedSimpArgs false
set_option linter.unusedSectionVars false
set_option maxRecDepth 100000
set_option maxHeartbeats 8000000
namespace Go.Proofs.YtfhbdlegkdbmfaaGreat
section
namespace RT
attribute [local instance] rdvd
open DT (Inc)
variable {α:Type}[CR α]
variable[Dom α]
attribute [local simp] a_t b_m b_7 b_i b_e b_v b_5
variable {R C:Nat}{M N H K:Mx α}{u v:Nat->α}
def Som (R:Nat)(M:Mx α)(k:Nat)(cols:Nat->Nat):Prop:=∃f,Inc k R f/\det k (fun i j=>M (f i) (cols j))≠0
theorem Som.ext {k:Nat}{c c':Nat->Nat}(e:∀j,j<k->c j=c' j)(h:Som R M k c):Som R M k c':=by
 obtain⟨f,hf,hd⟩:=h;exact⟨f,hf,by rwa [<-det_ext (M:=fun i j=>M (f i) (c j)) fun i j _ hj=>by rw[e j hj]]⟩
theorem Som.mat {k:Nat}{c:Nat->Nat}(e:∀i j,i<R->j<k->M i (c j)=N i (c j))(h:Som R M k c):Som R N k c:=by
 obtain⟨f,hf,hd⟩:=h;exact⟨f,hf,by rwa [<-det_ext (M:=fun i j=>M (f i) (c j)) fun i j hi hj=>e (f i) j (hf.lt i hi) hj]⟩
theorem Som.of {S k:Nat}{d:α}(hd:d≠0){X:Mx α}{c:Nat->Nat}(h:∀i j,i<R->j<k->d*M i (c j)=sumN S fun l=>X i l*N l (c j))(hs:Som R M k c):Som S N k c:=by
 obtain⟨f,hf,hne⟩:=hs;refine Classical.byContradiction fun hn=>hne ?_;have h1:(0:α)∣det k (mul S (fun i=>X (f i)) fun i j=>N i (c j)):=k_2 _ _ (i_z (fun i j=>N i (c j)) fun f' hf'=>by
  rw[Classical.byContradiction fun h2=>hn ⟨f',hf',h2⟩];exact o_4 0)
 have h2:det k (mul S (fun i=>X (f i)) fun i j=>N i (c j))=0:=rzero_dvd.mp h1;rw[<-det_ext (M:=fun i j=>d*M (f i) (c j)) (N:=mul S (fun i=>X (f i)) fun i j=>N i (c j)) fun i j hi hj=>h (f i) j (hf.lt i hi) hj,g_x]at h2;exact(rmul_eq_zero.mp h2).resolve_left (j_u hd k)
noncomputable def piv (R:Nat)(M:Mx α):Nat->List Nat
 |0=>[]
 |c+1=>open Classical in if Som R M (piv R M c).length.succ (fun j=>(piv R M c++[c]).getD j 0)then piv R M c++[c]else piv R M c
theorem d_p {c:Nat}(h:Som R M ((piv R M c).length+1) fun j=>(piv R M c++[c]).getD j 0):piv R M (c+1)=piv R M c++[c]:=by
 simp only[piv];rw[if_pos h]
theorem f_o {c:Nat}(h:¬Som R M ((piv R M c).length+1) fun j=>(piv R M c++[c]).getD j 0):piv R M (c+1)=piv R M c:=by
 simp only[piv];rw[if_neg h]
theorem piv_lt:∀(c:Nat),∀x∈piv R M c,x<c
 |0,x,h=>by simp[piv]at h
 |c+1,x,h=>by
  by_cases hs:Som R M ((piv R M c).length+1) fun j=>(piv R M c++[c]).getD j 0
  ·rw[d_p hs,List.mem_append]at h;rcases h with h|h
   ·have:=piv_lt c x h;(first|omega|grind)
   ·simp at h;(first|omega|grind)
  ·rw[f_o hs]at h;have:=piv_lt c x h;(first|omega|grind)
theorem p_u {l:List Nat}{c n:Nat}(h:∀x∈l,x<n)(hc:c<n)(j:Nat):(l++[c]).getD j 0<n:=by
 rw[List.getD_eq_getElem?_getD];rcases Nat.lt_or_ge j (l++[c]).length with h1|h1
 ·rw[List.getElem?_eq_getElem h1,Option.getD_some]
  have:=List.getElem_mem h1;rw[List.mem_append]at this;rcases this with h2|h2
  ·exact h _ h2
  ·simp at h2;(first|omega|grind)
 ·rw[List.getElem?_eq_none h1];simp;(first|omega|grind)
theorem m_i {S:Nat}(h:∀k c,(∀j,c j<C)->(Som R M k c↔Som S N k c)):∀c,c<=C->piv R M c=piv S N c:=by
 intro c;induction c with
 |zero=>intro _;rfl
 |succ c ih=>
  intro hc;have e:=ih (by(first|omega|grind));have h1:=h ((piv R M c).length+1) (fun j=>(piv R M c++[c]).getD j 0) fun j=>p_u (fun x hx=>by have:=piv_lt c x hx;(first|omega|grind)) (by(first|omega|grind)) j;by_cases hs:Som R M ((piv R M c).length+1) fun j=>(piv R M c++[c]).getD j 0
  ·rw[d_p hs,d_p (by rw[<-e];exact h1.mp hs),e]
  ·rw[f_o hs,f_o (by rw[<-e];exact fun h2=>hs (h1.mpr h2)),e]
theorem r_4 {S:Nat}{d e:α}{X Y:Mx α}(hd:d≠0)(he:e≠0)(h1:∀i j,i<R->j<C->d*M i j=sumN S fun l=>X i l*N l j)(h2:∀i j,i<S->j<C->e*N i j=sumN R fun l=>Y i l*M l j):piv R M C=piv S N C:=
 m_i (fun k c hc=>⟨Som.of hd fun i j hi _=>h1 i (c j) hi (hc j),Som.of he fun i j hi _=>h2 i (c j) hi (hc j)⟩) C (Nat.le_refl _)
noncomputable def heads (C:Nat)(M:Mx α)(s:Nat):List Nat:=(List.range s).map fun i=>fst C (M i)
theorem h_l (C:Nat)(M:Mx α)(s:Nat):heads C M (s+1)=heads C M s++[fst C (M s)]:=by
 unfold heads;rw[List.range_succ,List.map_append];rfl
theorem g_q (C:Nat)(M:Mx α)(s:Nat):(heads C M s).length=s:=by unfold heads;simp
theorem j_3 {s j:Nat}(h:j<s):(heads C M s).getD j 0=fst C (M j):=by
 unfold heads;rw[List.getD_eq_getElem?_getD,List.getElem?_map,List.getElem?_range h];rfl
theorem steps_piv' (h:Steps R C M):∀c,c<=C->∃s,s<=R/\piv R M c=heads C M s/\(∀i,i<s->fst C (M i)<c)/\∀i,s<=i->i<R->c<=fst C (M i):=by
 intro c;induction c with
 |zero=>intro _;exact⟨0,Nat.zero_le _,rfl,fun i hi=>by(first|omega|grind),fun i _ _=>Nat.zero_le _⟩
 |succ c ih=>
  intro hc;obtain⟨s,hs,e,h1,h2⟩:=ih (by(first|omega|grind));by_cases hp:s<R/\fst C (M s)=c
  ·refine⟨s+1,hp.1, ?_,fun i hi=>?_,fun i hi hR=>?_⟩
   ·rw[h_l,hp.2,<-e];refine d_p ?_;rw[e,g_q];refine Som.ext (c:=fun j=>fst C (M j)) (fun j hj=>?_) ⟨fun i=>i,⟨fun _ _=>by(first|omega|grind),fun _ _=>by(first|omega|grind)⟩,h.minor_ne (by(first|omega|grind)) fun i hi=>?_⟩
    ·show _=(heads C M s++[c]).getD j 0
     rw[<-hp.2,<-h_l,j_3 hj]
    ·rcases Nat.lt_or_ge i s with h3|h3
     ·have:=h1 i h3;(first|omega|grind)
     ·rw[show i=s by(first|omega|grind),hp.2];(first|omega|grind)
   ·rcases Nat.lt_or_ge i s with h3|h3
    ·have:=h1 i h3;(first|omega|grind)
    ·rw[show i=s by(first|omega|grind),hp.2];(first|omega|grind)
   ·by_cases h4:fst C (M i)<C
    ·have:=h s i (by(first|omega|grind)) hR h4;(first|omega|grind)
    ·(first|omega|grind)
  ·have h3:∀i,s<=i->i<R->c+1<=fst C (M i):=fun i hi hR=>by
    have h4:=h2 i hi hR;rcases Nat.lt_or_ge c (fst C (M i))with h5|h5
    ·exact h5
    ·exfalso
     by_cases h6:i=s
     ·subst h6;exact hp ⟨hR,by(first|omega|grind)⟩
     ·have:=h s i (by(first|omega|grind)) hR (by(first|omega|grind));have:=h2 s (Nat.le_refl _) (by(first|omega|grind));(first|omega|grind)
   refine⟨s,hs, ?_,fun i hi=>by have:=h1 i hi;(first|omega|grind),h3⟩;rw[<-e];refine f_o ?_;rw[e,g_q];rintro⟨f,hf,hne⟩;refine hne (h.minor_zero (r:=s) (by(first|omega|grind)) hf fun i j hi hR hj=>fst_zero (C:=C) ?_);have h4:=h3 i hi hR;have h5:(heads C M s++[c]).getD j 0<c+1:=p_u (fun x hx=>by
    obtain⟨a,ha,rfl⟩:=List.mem_map.mp hx
    have:=h1 a (List.mem_range.mp ha);(first|omega|grind)) (by(first|omega|grind)) j
   (first|omega|grind)
theorem j_a (h:Steps R C M){s:Nat}(hs:s<=R)(h1:∀i,i<s->fst C (M i)<C)(h2:∀i,s<=i->i<R->¬fst C (M i)<C):piv R M C=heads C M s:=by
 obtain⟨s',hs',e,h1',h2'⟩:=steps_piv' h C (Nat.le_refl _);have:s=s':=by
  rcases Nat.lt_trichotomy s s' with h3|h3|h3
  ·exact absurd (h1' s h3) (h2 s (Nat.le_refl _) (by(first|omega|grind)))
  ·exact h3
  ·have:=h1 s' h3;have:=h2' s' (Nat.le_refl _) (by(first|omega|grind));(first|omega|grind)
 rw[this];exact e
theorem u_h {n m:Nat}(h:n<=m)(f:Nat->α):sumN n f=sumN m fun a=>if a<n then f a else 0:=by
 rw[show m=n+(m - n) by(first|omega|grind),d_l,a_9 (n:=m - n) fun l hl=>by rw[if_neg (by(first|omega|grind))],b_e];exact sum_ext fun a ha=>by rw[if_pos ha]
end RT
end
section
namespace RT
attribute [local instance] rdvd
open DT (Inc)
class Fld (α:Type) [CR α]:Prop where
 ne:(1:α)≠0
 inv:∀a:α,a≠0->∃b,a*b=1
instance {α:Type}[CR α][Fld α]:Dom α where
 ne:=Fld.ne
 int:=fun a b h=>by
  by_cases ha:a=0
  ·exact Or.inl ha
  ·obtain⟨c,hc⟩:=Fld.inv a ha;right;have:b=c*(a*b):=by grind
   rw[this,h];grind
instance:Fld Rat where
 ne:=by decide
 inv:=fun a ha=>⟨a⁻¹,Rat.mul_inv_cancel a ha⟩
variable {α:Type}[CR α]
variable[Fld α]
attribute [local simp] a_t b_m b_7 b_i b_e b_v b_5
variable {R C:Nat}{M N H K A:Mx α}{u v:Nat->α}{p q:List Nat}
structure RedF (R C:Nat) (M:Mx α) (p:List Nat):Prop where
 le:p.length<=R
 inc:Inc p.length C fun r=>p.getD r 0
 zl:∀r,r<p.length->∀j,j<p.getD r 0->M r j=0
 on:∀r i,r<p.length->i<R->M i (p.getD r 0)=one i r
 zr:∀i j,p.length<=i->i<R->j<C->M i j=0
theorem RedF.fst (h:RedF R C M p){r:Nat}(hr:r<p.length):fst C (M r)=p.getD r 0:=
 t_1 (h.inc.lt r hr) (h.zl r hr) (by rw[h.on r r hr (Nat.lt_of_lt_of_le hr h.le),a_1];exact Fld.ne)
theorem RedF.none (h:RedF R C M p){i:Nat}(hi:p.length<=i)(hR:i<R):RT.fst C (M i)=C:=s_w fun j hj=>h.zr i j hi hR hj
theorem Inc.le_of {k n:Nat}{f:Nat->Nat}(h:Inc k n f){i l:Nat}(hil:i<l)(hl:l<k):f i<f l:=by
 induction l with
 |zero=>omega
 |succ l ih=>
  by_cases e:i=l
  ·subst e;exact h.up i hl
  ·exact Nat.lt_trans (ih (by omega) (by omega)) (h.up l hl)
theorem RedF.steps (h:RedF R C M p):Steps R C M:=fun i l hil hl hC=>by
 by_cases h1:l<p.length
 ·rw[h.fst h1,h.fst (by omega)];exact Inc.le_of h.inc hil h1
 ·rw[h.none (by omega) hl]at hC;omega
theorem RedF.heads (h:RedF R C M p):heads C M p.length=p:=by
 apply List.ext_getElem (g_q _ _ _);intro r h1 h2;have h3:=j_3 (C:=C) (M:=M) h2;rw[h.fst h2,List.getD_eq_getElem?_getD,List.getD_eq_getElem?_getD,List.getElem?_eq_getElem h1,List.getElem?_eq_getElem h2]at h3;exact h3
theorem RedF.piv (h:RedF R C M p):piv R M C=p:=by
 rw[j_a h.steps h.le (fun i hi=>by rw[h.fst hi];exact h.inc.lt i hi) (fun i hi hR=>by rw[h.none hi hR];omega),h.heads]
theorem RedF.herm (h:RedF R C M p):Herm (fun a:α=>a=1) (fun _ x=>x=0) R C M where
 up:=fun i hi hC=>h.steps i (i+1) (Nat.lt_succ_self i) hi hC
 pos:=fun i hi hC=>by
  by_cases h1:i<p.length
  ·rw[h.fst h1,h.on i i h1 hi,a_1]
  ·rw[h.none (by omega) hi]at hC;omega
 red:=fun i hi hC r hr=>by
  by_cases h1:i<p.length
  ·rw[h.fst h1,h.on i r h1 (by omega),b_x (by omega)]
  ·rw[h.none (by omega) hi]at hC;omega
theorem RedF.uniq (h:RedF R C H p)(h2:RedF R C K q)(e:∀v,Lat R C H v↔Lat R C K v):p=q/\∀i j,i<R->j<C->H i j=K i j:=by
 have e1:=p_s (fun a b ha hb _ _=>by rw[ha,hb]) (fun b x y _ hx hy _=>by rw[hx,hy]) h.herm h2.herm e;refine⟨?_,e1⟩;rw[<-h.piv,<-h2.piv];exact m_i (fun k c hc=>⟨Som.mat fun i j hi _=>e1 i (c j) hi (hc j),Som.mat fun i j hi _=>(e1 i (c j) hi (hc j)).symm⟩) C (Nat.le_refl _)
def Sp (R S C:Nat)(A B:Mx α):Prop:=∀v,Lat R C A v↔Lat S C B v
theorem Sp.refl:Sp R R C A A:=fun _=>Iff.rfl
theorem Sp.symm {S:Nat}{B:Mx α}(h:Sp R S C A B):Sp S R C B A:=fun v=>(h v).symm
theorem Sp.trans {S T:Nat}{B D:Mx α}(h:Sp R S C A B)(h2:Sp S T C B D):Sp R T C A D:=fun v=>(h v).trans (h2 v)
theorem Sp.of {S:Nat}{B:Mx α}(h:∀i,i<R->Lat S C B (A i))(h2:∀i,i<S->Lat R C A (B i)):Sp R S C A B:=fun v=>⟨Lat.within h,Lat.within h2⟩
theorem Sp.piv {S:Nat}{B:Mx α}(h:Sp R S C A B):piv R A C=piv S B C:=by
 have h1:∀i,∃x:Nat->α,i<R->∀j,j<C->A i j=sumN S fun l=>x l*B l j:=fun i=>by
  by_cases hi:i<R
  ·obtain⟨x,hx⟩:=(h (A i)).mp (Lat.row R C A hi);exact⟨x,fun _=>hx⟩
  ·exact⟨fun _=>0,fun h=>absurd h hi⟩
 have h2:∀i,∃x:Nat->α,i<S->∀j,j<C->B i j=sumN R fun l=>x l*A l j:=fun i=>by
  by_cases hi:i<S
  ·obtain⟨x,hx⟩:=(h (B i)).mpr (Lat.row S C B hi);exact⟨x,fun _=>hx⟩
  ·exact⟨fun _=>0,fun h=>absurd h hi⟩
 obtain⟨X,hX⟩:=Classical.axiomOfChoice h1;obtain⟨Y,hY⟩:=Classical.axiomOfChoice h2;exact r_4 (d:=1) (e:=1) (X:=X) (Y:=Y) Fld.ne Fld.ne (fun i j hi hj=>by rw[hX i hi j hj];simp) (fun i j hi hj=>by rw[hY i hi j hj];simp)
structure RedOf (R C:Nat) (A M:Mx α) (p:List Nat):Prop where
 shape:RedF R C M p
 sp:Sp R R C A M
theorem RedOf.piv (h:RedOf R C A M p):piv R A C=p:=by rw[h.sp.piv];exact h.shape.piv
theorem RedOf.uniq {B:Mx α}(h:RedOf R C A M p)(h2:RedOf R C B N q)(e:Sp R R C A B):p=q/\∀i j,i<R->j<C->M i j=N i j:=
 h.shape.uniq h2.shape (h.sp.symm.trans (e.trans h2.sp))
theorem q_3 {n C:Nat}{f:Nat->Nat}(h:Inc n C f)(g:Nat->α)(y:Nat->α):sumN C (fun c=>g c*sumN n fun r=>(if f r=c then 1 else 0)*y r)=sumN n fun r=>g (f r)*y r:=by
 rw[sum_ext (g:=fun c=>sumN n fun r=>g c*((if f r=c then 1 else 0)*y r)) fun c hc=>(a_0 n (g c) _).symm,e_n];refine sum_ext fun r hr=>?_;rw[a_4 (i:=f r) (h.lt r hr) fun k hk hne=>by rw[if_neg (Ne.symm hne)];simp,if_pos rfl];simp
end RT
end
section
namespace RT
open DT (Inc)
variable {α:Type}[CR α]
variable[Fld α]
attribute [local simp] a_t b_m b_7 b_i b_e b_v b_5
variable {R C c:Nat}{M N A:Mx α}{u v:Nat->α}{p q:List Nat}
theorem Sp.swap {i l:Nat}(hi:i<R)(hl:l<R)(h1:∀j,j<C->N i j=M l j)(h2:∀j,j<C->N l j=M i j)(h3:∀k j,k<R->k≠i->k≠l->j<C->N k j=M k j):Sp R R C M N:=
 Sp.of (fun k hk=>by
  by_cases e:k=i
  ·subst e;exact(Lat.row R C N hl).ext fun j hj=>(h2 j hj).symm
  ·by_cases e2:k=l
   ·subst e2;exact(Lat.row R C N hi).ext fun j hj=>(h1 j hj).symm
   ·exact(Lat.row R C N hk).ext fun j hj=>(h3 k j hk e e2 hj).symm) fun k hk=>by
  by_cases e:k=i
  ·subst e;exact(Lat.row R C M hl).ext fun j hj=>h1 j hj
  ·by_cases e2:k=l
   ·subst e2;exact(Lat.row R C M hi).ext fun j hj=>h2 j hj
   ·exact(Lat.row R C M hk).ext fun j hj=>h3 k j hk e e2 hj
theorem Sp.scale (d:Nat->α)(hd:∀i,i<R->d i≠0)(h:∀i j,i<R->j<C->N i j=d i*M i j):Sp R R C M N:=
 Sp.of (fun k hk=>by
  obtain⟨b,hb⟩:=Fld.inv _ (hd k hk);exact((Lat.row R C N hk).smul b).ext fun j hj=>by rw[h k j hk hj];grind) fun k hk=>((Lat.row R C M hk).smul (d k)).ext fun j hj=>h k j hk hj
theorem Sp.add {r:Nat}(hr:r<R)(d:Nat->α)(h1:∀j,j<C->N r j=M r j)(h:∀i j,i<R->i≠r->j<C->N i j=M i j+d i*M r j):Sp R R C M N:=
 Sp.of (fun k hk=>by
  by_cases e:k=r
  ·subst e;exact(Lat.row R C N hk).ext fun j hj=>(h1 j hj).symm
  ·exact((Lat.row R C N hk).sub ((Lat.row R C N hr).smul (d k))).ext fun j hj=>by rw[h k j hk e hj,h1 j hj];grind) fun k hk=>by
  by_cases e:k=r
  ·subst e;exact(Lat.row R C M hk).ext fun j hj=>h1 j hj
  ·exact((Lat.row R C M hk).add ((Lat.row R C M hr).smul (d k))).ext fun j hj=>h k j hk e hj
structure Mid (R C c:Nat) (A M:Mx α) (p:List Nat):Prop where
 le:p.length<=R
 cl:c<=C
 inc:Inc p.length c fun r=>p.getD r 0
 zl:∀r,r<p.length->∀j,j<p.getD r 0->M r j=0
 on:∀r i,r<p.length->i<R->M i (p.getD r 0)=one i r
 zr:∀i j,p.length<=i->i<R->j<c->M i j=0
 sp:Sp R R C A M
theorem Mid.start:Mid R C 0 A A []:=⟨by simp,by omega,⟨fun i hi=>by simp at hi,fun i hi=>by simp at hi⟩,fun r hr=>by simp at hr,fun r i hr=>by simp at hr,fun i j _ _ hj=>by omega,Sp.refl⟩
theorem Mid.no (h:Mid R C c A M p)(hc:c<C)(h0:∀i,p.length<=i->i<R->M i c=0):Mid R C (c+1) A M p:=
 ⟨h.le,hc,⟨h.inc.up,fun i hi=>by have:=h.inc.lt i hi;omega⟩,h.zl,h.on,fun i j hi hR hj=>by
  by_cases e:j=c
  ·rw[e];exact h0 i hi hR
  ·exact h.zr i j hi hR (by omega),h.sp⟩
theorem Mid.done (h:Mid R C c A M p)(hc:c=C\/p.length=R):RedOf R C A M p:=
 ⟨⟨h.le,⟨h.inc.up,fun i hi=>by have:=h.inc.lt i hi;have:=h.cl;omega⟩,h.zl,h.on,fun i j hi hR hj=>by
  rcases hc with e|e
  ·exact h.zr i j hi hR (by omega)
  ·omega⟩,h.sp⟩
theorem e_u {l:List Nat}{x a:Nat}(h:a<l.length):(l++[x]).getD a 0=l.getD a 0:=by
 rw[List.getD_eq_getElem?_getD,List.getD_eq_getElem?_getD,List.getElem?_append_left h]
theorem f_4 {l:List Nat}{x:Nat}:(l++[x]).getD l.length 0=x:=by
 rw[List.getD_eq_getElem?_getD,List.getElem?_append_right (Nat.le_refl _)];simp
theorem Mid.yes (h:Mid R C c A M p)(hc:c<C)(hR:p.length<R)(h1:∀i,i<R->M i c=one i p.length):Mid R C (c+1) A M (p++[c]) where
 le:=by simp;omega
 cl:=hc
 inc:=⟨fun i hi=>by
   rw[List.length_append,List.length_singleton]at hi;rw[e_u (by omega)];by_cases e:i+1<p.length
   ·rw[e_u e];exact h.inc.up i e
   ·rw[show i+1=p.length by omega,f_4];exact h.inc.lt i (by omega),
  fun i hi=>by
   rw[List.length_append,List.length_singleton]at hi;by_cases e:i<p.length
   ·rw[e_u e];have:=h.inc.lt i e;omega
   ·rw[show i=p.length by omega,f_4];omega⟩
 zl:=fun r hr j hj=>by
  rw[List.length_append,List.length_singleton]at hr;by_cases e:r<p.length
  ·rw[e_u e]at hj;exact h.zl r e j hj
  ·have e2:r=p.length:=by omega
   rw[e2,f_4]at hj;exact h.zr r j (by omega) (by omega) hj
 on:=fun r i hr hi=>by
  rw[List.length_append,List.length_singleton]at hr;by_cases e:r<p.length
  ·rw[e_u e];exact h.on r i e hi
  ·have e2:r=p.length:=by omega
   rw[e2,f_4];exact h1 i hi
 zr:=fun i j hi hR' hj=>by
  rw[List.length_append,List.length_singleton]at hi;by_cases e:j=c
  ·rw[e,h1 i hR',b_x (by omega)]
  ·exact h.zr i j (by omega) hR' (by omega)
 sp:=h.sp
theorem Mid.low (h:Mid R C c A M p)(h1:∀i j,i<p.length->j<C->N i j=M i j)(h2:∀i j,p.length<=i->i<R->j<c->N i j=0)(h3:Sp R R C M N):Mid R C c A N p where
 le:=h.le
 cl:=h.cl
 inc:=h.inc
 zl:=fun r hr j hj=>by rw[h1 r j hr (by have:=h.inc.lt r hr;have:=h.cl;omega)];exact h.zl r hr j hj
 on:=fun r i hr hi=>by
  have h4:=h.inc.lt r hr;have:=h.cl;by_cases e:i<p.length
  ·rw[h1 i _ e (by omega)];exact h.on r i hr hi
  ·rw[h2 i _ (by omega) hi h4,b_x (by omega)]
 zr:=h2
 sp:=h.sp.trans h3
theorem Mid.swap (h:Mid R C c A M p){i l:Nat}(hi:i<R)(hl:l<R)(hpi:p.length<=i)(hpl:p.length<=l)(h1:∀j,j<C->N i j=M l j)(h2:∀j,j<C->N l j=M i j)(h3:∀k j,k<R->k≠i->k≠l->j<C->N k j=M k j):Mid R C c A N p:=
 h.low (fun k j hk hj=>h3 k j (by have:=h.le;omega) (by omega) (by omega) hj) (fun k j hk hR hj=>by
  have:=h.cl;by_cases e:k=i
  ·rw[e,h1 j (by omega)];exact h.zr l j hpl hl hj
  ·by_cases e2:k=l
   ·rw[e2,h2 j (by omega)];exact h.zr i j hpi hi hj
   ·rw[h3 k j hR e e2 (by omega)];exact h.zr k j hk hR hj) (Sp.swap hi hl h1 h2 h3)
theorem Mid.scale (h:Mid R C c A M p){r:Nat}(hr:r<R)(hp:p.length<=r){d:α}(hd:d≠0)(h1:∀j,j<C->N r j=d*M r j)(h2:∀k j,k<R->k≠r->j<C->N k j=M k j):Mid R C c A N p:=
 h.low (fun k j hk hj=>h2 k j (by have:=h.le;omega) (by omega) hj) (fun k j hk hR hj=>by
  have:=h.cl;by_cases e:k=r
  ·rw[e,h1 j (by omega),h.zr r j hp hr hj];simp
  ·rw[h2 k j hR e (by omega)];exact h.zr k j hk hR hj) (Sp.scale (fun i=>if i=r then d else 1) (fun i _=>by split;exact hd;exact Fld.ne) fun i j hi hj=>by
  by_cases e:i=r
  ·rw[if_pos e,e,h1 j hj]
  ·rw[if_neg e,h2 i j hi e hj];simp)
theorem Mid.add (h:Mid R C c A M p){r:Nat}(hr:r<R)(hp:p.length<=r)(d:Nat->α)(h1:∀j,j<C->N r j=M r j)(h2:∀i j,i<R->i≠r->j<C->N i j=M i j+d i*M r j):Mid R C c A N p:=by
 have e:∀i j,i<R->j<c->N i j=M i j:=fun i j hi hj=>by
  have:=h.cl;by_cases e:i=r
  ·rw[e,h1 j (by omega)]
  ·rw[h2 i j hi e (by omega),h.zr r j hp hr hj];simp
 exact⟨h.le,h.cl,h.inc,fun s hs j hj=>by rw[e s j (by have:=h.le;omega) (by have:=h.inc.lt s hs;omega)];exact h.zl s hs j hj,
  fun s i hs hi=>by rw[e i _ hi (h.inc.lt s hs)];exact h.on s i hs hi,fun i j hi hR hj=>by rw[e i j hR hj];exact h.zr i j hi hR hj,h.sp.trans (Sp.add hr d h1 h2)⟩
theorem Mid.step (h:Mid R C c A M p)(hc:c<C)(hR:p.length<R){b:α}(hb:M p.length c*b=1)(h1:∀j,j<C->N p.length j=b*M p.length j)(h2:∀i j,i<R->i≠p.length->j<C->N i j=M i j - M i c*(b*M p.length j)):Mid R C (c+1) A N (p++[c]):=by
 have hbn:b≠0:=fun e=>Fld.ne (α:=α) (by rw[<-hb,e];simp);have hs:Mid R C c A (fun i j=>if i=p.length then b*M i j else M i j) p:=h.scale hR (Nat.le_refl _) hbn (fun j _=>by rw[if_pos rfl]) fun k j _ hk _=>by rw[if_neg hk]
 have ha:Mid R C c A N p:=hs.add hR (Nat.le_refl _) (fun i=>- M i c) (fun j hj=>by rw[if_pos rfl];exact h1 j hj) fun i j hi hne hj=>by rw[if_neg hne,if_pos rfl,h2 i j hi hne hj];grind
 refine ha.yes hc hR fun i hi=>?_;by_cases e:i=p.length
 ·rw[e,h1 c hc,a_1,c_l,hb]
 ·rw[h2 i c hi e hc,b_x e];have:M i c*(b*M p.length c)=M i c:=by rw[c_l b,hb];simp
  rw[this];grind
theorem cast_sum (n:Nat)(f:Nat->Int):((DT.sumN n f:Int):Rat)=sumN n fun k=>((f k:Int):Rat):=by
 induction n with
 |zero=>rfl
 |succ n ih=>show((DT.sumN n f+f n:Int):Rat)=sumN n (fun k=>((f k:Int):Rat))+_;rw[Rat.intCast_add,ih]
end RT
end
end Go.Proofs.YtfhbdlegkdbmfaaGreat
section
namespace Go.Proofs.YtfhbdlegkdbmfaaGreat.DT
theorem w_0 {n:Nat}{G:Mx}{p:Nat->Nat}(hd:pm n G p≠0)(j:Nat):∃x:Nat->Int,∀i,bc n G p i j=pm n G p*G i j - sumN n fun b=>x b*G i (p b):=by
 have e:det n (fun a b=>G b (if a<n then p a else j))=pm n G p:=(e_i n _).symm.trans (det_ext fun a b ha hb=>by rw[if_pos hb]);obtain⟨x,hx⟩:=t_7 n (fun a b=>G b (if a<n then p a else j)) n (by rw[e];exact hd);refine⟨x,fun i=>?_⟩;have h:=hx i;rw[e]at h;simp only[if_neg (Nat.lt_irrefl n)]at h;rw[sum_ext (g:=fun b=>x b*G i (p b)) fun a ha=>by rw[if_pos ha]]at h;rw[<-h];refine(e_i (n+1) _).symm.trans (det_ext fun a b ha hb=>?_);unfold bord;by_cases h1:a<n
 ·by_cases h2:b<n
  ·simp only[if_pos h1,if_pos h2]
  ·simp only[if_pos h1,if_neg h2,if_neg (Nat.lt_irrefl n)]
 ·by_cases h2:b<n
  ·simp only[if_neg h1,if_pos h2,if_neg (Nat.lt_irrefl n)]
  ·simp only[if_neg h1,if_neg h2,if_neg (Nat.lt_irrefl n)]
section
variable {R C k:Nat}{F G M:Mx}{s:Bool}{ps:List Nat}{h:Int}
theorem Red.inc (r:Red R C k F s G ps M h):Inc ps.length k fun j=>ps.getD j 0:=by
 have:=piv_inc (R:=R) (M:=F) k;rw[<-r.pv]at this;exact this
theorem Red.pmi (r:Red R C k F s G ps M h)(hk:k<=C){i:Nat}(hi:i<=ps.length):pm i G (fun b=>ps.getD b 0)≠0:=by
 cases i with
 |zero=>show(1:Int)≠0;decide
 |succ i=>
  rw[p_c,<-r.up i _ (by omega) (Nat.lt_of_lt_of_le (r.inc.lt i (by omega)) hk)];exact r.pz i (by omega)
structure Cols (C':Nat) (G M:Mx) (ps:List Nat) (h:Int) (X:Nat->Nat->Int):Prop where
 a:∀j i,bc ps.length G (fun b=>ps.getD b 0) i j=h*G i j - sumN ps.length fun b=>X j b*G i (ps.getD b 0)
 b:∀j,j<C'->∀i,i<ps.length->h*M i j=sumN ps.length fun b=>X j b*M i (ps.getD b 0)
theorem Red.colx (r:Red R C k F s G ps M h)(hk:k<=C)(j:Nat):∃x:Nat->Int,(∀i,bc ps.length G (fun b=>ps.getD b 0) i j=h*G i j - sumN ps.length fun b=>x b*G i (ps.getD b 0))/\(j<C->∀i,i<ps.length->h*M i j=sumN ps.length fun b=>x b*M i (ps.getD b 0)):=by
 obtain⟨x,hx⟩:=w_0 (p:=fun b=>ps.getD b 0) (r.pmi hk (Nat.le_refl _)) j;rw[<-r.hh]at hx;refine⟨x,hx,fun hj i hi=>?_⟩;obtain⟨y,hy⟩:=bc_row (r.pmi hk (Nat.le_of_lt hi)) i;have e0:∀a,a<ps.length->h*G a j=sumN ps.length fun b=>x b*G a (ps.getD b 0):=fun a ha=>by
  have:=hx a;rw[bc_at _ _ _ _ ha]at this;omega
 rw[r.up i j hi hj,hy j];rw[sum_ext (f:=fun b=>x b*M i (ps.getD b 0)) (g:=fun b=>pm i G (fun b=>ps.getD b 0)*(x b*G i (ps.getD b 0)) - sumN i fun a=>y a*(x b*G a (ps.getD b 0))) fun b hb=>by
  rw[r.up i _ hi (Nat.lt_of_lt_of_le (r.inc.lt b hb) hk),hy,Int.mul_sub,<-a_0,Int.mul_left_comm];congr 1
  exact sum_ext fun a _=>by rw[Int.mul_left_comm]]
 rw[e_0,a_0,<-e0 i hi,e_n,Int.mul_sub,Int.mul_left_comm];congr 1
 rw[<-a_0];exact sum_ext fun a ha=>by rw[a_0,<-e0 a (by omega),Int.mul_left_comm]
theorem Red.cols (r:Red R C k F s G ps M h)(hk:k<=C):∃X,Cols C G M ps h X:=by
 obtain⟨X,hX⟩:=Classical.axiomOfChoice (r.colx hk);exact⟨X,fun j=>(hX j).1,fun j=>(hX j).2⟩
theorem Red.split (r:Red R C k F s G ps M h){i:Nat}(hi:i<ps.length)(y:Nat->Int):(sumN ps.length fun b=>y b*M i (ps.getD b 0))=y i*M i (ps.getD i 0)+sumN (ps.length - (i+1)) fun l=>y (i+1+l)*M i (ps.getD (i+1+l) 0):=by
 obtain⟨m,hm⟩:∃m,ps.length=i+1+m:=⟨ps.length - (i+1),by omega⟩;rw[show ps.length - (i+1)=m by omega,hm,d_l];congr 1
 show sumN i _+_=_
 rw[a_9 fun b hb=>by rw[r.pl i _ hi (RT.Inc.le_of r.inc hb hi),Int.mul_zero],Int.zero_add]
theorem Red.back' (r:Red R C k F s G ps M h){X:Nat->Nat->Int}(hX:Cols C G M ps h X){i j:Nat}(hi:i<ps.length)(hj:j<C):X j i*M i (ps.getD i 0)=h*M i j - sumN (ps.length - (i+1)) fun l=>M i (ps.getD (i+1+l) 0)*X j (i+1+l):=by
 rw[hX.b j hj i hi,r.split hi,sum_ext (g:=fun l=>M i (ps.getD (i+1+l) 0)*X j (i+1+l)) fun l _=>Int.mul_comm _ _];omega
theorem Red.zeros (r:Red R C k F s G ps M h){y v:Nat->Int}(hy:∀i,i<ps.length->(sumN ps.length fun b=>y b*M i (ps.getD b 0))=v i){b0:Nat}(hv:∀i,b0<=i->i<ps.length->v i=0):∀d i,ps.length - i<=d->b0<=i->i<ps.length->y i=0:=by
 intro d;induction d with
 |zero=>intro i h1 h2 h3;omega
 |succ d ih=>
  intro i h1 h2 h3;have e:=hy i h3;rw[hv i h2 h3,r.split h3,a_9 fun l hl=>by rw[ih (i+1+l) (by omega) (by omega) (by omega),Int.zero_mul],Int.add_zero]at e;exact(Int.mul_eq_zero.mp e).resolve_right (r.pz i h3)
theorem Red.xz (r:Red R C k F s G ps M h){X:Nat->Nat->Int}(hX:Cols C G M ps h X){b j:Nat}(hb:b<ps.length)(hj:j<ps.getD b 0)(hC:j<C):X j b=0:=
 r.zeros (v:=fun i=>h*M i j) (fun i hi=>(hX.b j hC i hi).symm) (b0:=b) (fun i h1 h2=>by
  have:ps.getD b 0<=ps.getD i 0:=by
   rcases Nat.lt_or_ge b i with h3|h3
   ·exact Nat.le_of_lt (RT.Inc.le_of r.inc h3 h2)
   ·rw[show b=i by omega];exact Nat.le_refl _
  rw[r.pl i j h2 (by omega),Int.mul_zero]) _ b (Nat.le_refl _) (Nat.le_refl _) hb
theorem Red.xo (r:Red R C k F s G ps M h)(hk:k<=C){X:Nat->Nat->Int}(hX:Cols C G M ps h X){b i:Nat}(hb:b<ps.length)(hi:i<ps.length):X (ps.getD b 0) i=if i=b then h else 0:=by
 have e:=r.zeros (y:=fun i=>X (ps.getD b 0) i - if i=b then h else 0) (v:=fun _=>0) (fun i hi=>by
  rw[sum_ext (g:=fun a=>X (ps.getD b 0) a*M i (ps.getD a 0) - (if a=b then h else 0)*M i (ps.getD a 0)) fun a _=>Int.sub_mul _ _ _,e_0,<-hX.b _ (Nat.lt_of_lt_of_le (r.inc.lt b hb) hk) i hi,
   a_4 hb fun a _ hne=>by rw[if_neg hne,Int.zero_mul],if_pos rfl,Int.sub_self]) (b0:=0) (fun _ _ _=>rfl) _ i (Nat.le_refl _) (Nat.zero_le _) hi
 omega
end
end Go.Proofs.YtfhbdlegkdbmfaaGreat.DT
namespace Go.Proofs.YtfhbdlegkdbmfaaGreat.RT
open DT (Red Cols)
attribute [local simp] a_t b_m b_7 b_i b_e b_v b_5
section
variable {α:Type}[CR α][Fld α]{R C:Nat}{M A:Mx α}{p:List Nat}
theorem y_x (R C:Nat)(A:Mx α):∀c,c<=C->∃M p,Mid R C c A M p:=by
 intro c;induction c with
 |zero=>intro _;exact⟨A,[],by have:=Mid.start (R:=R) (C:=C) (A:=A);exact this⟩
 |succ c ih=>
  intro hc;obtain⟨M,p,h⟩:=ih (by omega);by_cases h0:∀i,p.length<=i->i<R->M i c=0
  ·exact⟨M,p,h.no hc h0⟩
  ·obtain⟨i,hi⟩:=Classical.not_forall.mp h0;have h1:p.length<=i:=Classical.byContradiction fun e=>hi fun e2=>absurd e2 e;have h2:i<R:=Classical.byContradiction fun e=>hi fun _ e2=>absurd e2 e;have h3:M i c≠0:=fun e=>hi fun _ _=>e;have hs:Mid R C c A (fun a j=>M (if a=p.length then i else if a=i then p.length else a) j) p:=h.swap (i:=p.length) (l:=i) (by omega) h2 (Nat.le_refl _) h1 (fun j _=>by rw[if_pos rfl]) (fun j _=>by
    by_cases e:i=p.length
    ·rw[if_pos e,e]
    ·rw[if_neg e,if_pos rfl]) fun k j _ hk1 hk2 _=>by rw[if_neg hk1,if_neg hk2]
   obtain⟨b,hb⟩:=Fld.inv _ h3;refine⟨_,_,hs.step (N:=fun a j=>if a=p.length then b*M i j else M (if a=i then p.length else a) j - M (if a=i then p.length else a) c*(b*M i j)) hc (by omega) (b:=b) (by rw[if_pos rfl];exact hb) (fun j _=>by rw[if_pos rfl,if_pos rfl]) fun a j _ hne _=>?_⟩;rw[if_neg hne,if_neg hne,if_pos rfl]
theorem t_3 (R C:Nat)(A:Mx α):∃M p,RedOf R C A M p:=by
 obtain⟨M,p,h⟩:=y_x R C A C (Nat.le_refl _);exact⟨M,p,h.done (Or.inl rfl)⟩
theorem Lat.sumv {m:Nat}{u:Nat->Nat->α}(y:Nat->α)(h:∀a,a<m->Lat R C A (u a)):Lat R C A fun j=>sumN m fun a=>y a*u a j:=by
 induction m with
 |zero=>exact(Lat.zero R C A).ext fun j _=>rfl
 |succ m ih=>exact((ih fun a ha=>h a (by omega)).add ((h m (by omega)).smul (y m))).ext fun j _=>rfl
end
section
variable {R C S C':Nat}{F G M:DT.Mx}{s:Bool}{ps:List Nat}{h:Int}{X:Nat->Nat->Int}{A B:Mx Rat}{c d:Nat->Rat}
def xr (n:Nat)(h:Int)(X:Nat->Nat->Int):Mx Rat:=fun b j=>if b<n then((X j b:Int):Rat)*(h:Rat)⁻¹ else 0
theorem hq {h:Int}(h0:h≠0):(h:Rat)≠0:=fun e=>h0 (by exact_mod_cast e)
theorem hq1 {h:Int}(h0:h≠0):(h:Rat)*(h:Rat)⁻¹=1:=Rat.mul_inv_cancel _ (hq h0)
theorem t_4 (r:Red R C' C F s G ps M h)(hX:Cols C' G M ps h X){j:Nat}(hz:∀i,ps.length<=i->i<R->M i j=0)(hj:j<C'){i:Nat}(hi:i<R):((F i j:Int):Rat)=sumN ps.length fun b=>((F i (ps.getD b 0):Int):Rat)*(((X j b:Int):Rat)*(h:Rat)⁻¹):=by
 obtain⟨f,hf⟩:=r.back;have e:=hX.a j (f i);have e0:DT.bc ps.length G (fun b=>ps.getD b 0) (f i) j=0:=by
  rcases Nat.lt_or_ge (f i) ps.length with h1|h1
  ·exact DT.bc_at _ _ _ _ h1
  ·rw[<-r.low _ j h1 (hf i hi).1 hj];exact hz _ h1 (hf i hi).1
 rw[e0,<-(hf i hi).2]at e;have e2:h*F i j=DT.sumN ps.length fun b=>X j b*F i (ps.getD b 0):=by omega
 have e3:(h:Rat)*(F i j:Rat)=sumN ps.length fun b=>((X j b:Int):Rat)*((F i (ps.getD b 0):Int):Rat):=by
  rw[<-Rat.intCast_mul,e2,cast_sum];exact sum_ext fun b _=>Rat.intCast_mul _ _
 have e4:((F i j:Int):Rat)=(h:Rat)⁻¹*((h:Rat)*(F i j:Rat)):=by have:=hq1 r.h0;grind
 rw[e4,e3,<-a_0];exact sum_ext fun b _=>by grind
theorem red_of (r:Red R C' C F s G ps M h)(hC:C<=C')(hX:Cols C' G M ps h X)(hc:∀i,i<R->c i≠0)(hA:∀i j,i<R->j<C->A i j=c i*((F i j:Int):Rat)):RedOf R C A (xr ps.length h X) ps where
 shape:={
  le:=r.nR
  inc:=r.inc
  zl:=fun b hb j hj=>by
   unfold xr;rw[if_pos hb,r.xz hX hb hj (by have:=r.inc.lt b hb;omega)];simp
  on:=fun b i hb hi=>by
   unfold xr;by_cases h1:i<ps.length
   ·rw[if_pos h1,r.xo hC hX hb h1];by_cases h2:i=b
    ·rw[if_pos h2,h2,a_1,hq1 r.h0]
    ·rw[if_neg h2,b_x h2];simp
   ·rw[if_neg h1,b_x (by omega)]
  zr:=fun i j hi _ _=>by unfold xr;rw[if_neg (by omega)] }
 sp:=Sp.of (fun i hi=>⟨fun b=>if b<ps.length then c i*((F i (ps.getD b 0):Int):Rat)else 0,fun j hj=>by
   rw[hA i j hi hj,t_4 r hX (fun a h1 h2=>r.zero a j h1 h2 hj) (by omega) hi,u_h r.nR,<-a_0];refine sum_ext fun b _=>?_;unfold xr;by_cases h1:b<ps.length
   ·simp only[if_pos h1];grind
   ·simp only[if_neg h1];simp⟩) fun i hi=>by
  have hG:∀a,a<R->Lat R C A fun j=>((G a j:Int):Rat):=fun a ha=>by
   obtain⟨f,hf⟩:=r.perm;obtain⟨b,hb⟩:=Fld.inv _ (hc _ (hf a ha).1);refine((Lat.row R C A (hf a ha).1).smul b).ext fun j hj=>?_;rw[hA _ j (hf a ha).1 hj,(hf a ha).2];grind
  have hM:∀a,a<ps.length->Lat R C A fun j=>((M a j:Int):Rat):=fun a ha=>by
   obtain⟨y,hy⟩:=DT.bc_row (r.pmi hC (Nat.le_of_lt ha)) a;have hR:=r.nR;refine(((hG a (by omega)).smul ((DT.pm a G (fun b=>ps.getD b 0):Int):Rat)).sub (Lat.sumv (m:=a) (u:=fun a j=>((G a j:Int):Rat)) (fun a=>((y a:Int):Rat)) fun l hl=>hG l (by omega))).ext fun j hj=>?_;rw[r.up a j ha (by omega),hy j,Rat.intCast_sub,Rat.intCast_mul,cast_sum];congr 1
   exact sum_ext fun l _=>Rat.intCast_mul _ _
  have key:∀d i,ps.length - i<=d->i<ps.length->Lat R C A (xr ps.length h X i):=by
   intro d;induction d with
   |zero=>intro i h1 h2;omega
   |succ d ih=>
    intro i h1 h2;have hne:=hq (r.pz i h2);refine(((hM i h2).sub (Lat.sumv (m:=ps.length - (i+1)) (u:=fun l=>xr ps.length h X (i+1+l)) (fun l=>((M i (ps.getD (i+1+l) 0):Int):Rat)) fun l hl=>ih _ (by omega) (by omega))).smul (((M i (ps.getD i 0):Int):Rat)⁻¹)).ext fun j hj=>?_;have e:=r.back' hX h2 (show j<C' by omega);have e1:((X j i:Int):Rat)*((M i (ps.getD i 0):Int):Rat)=(h:Rat)*((M i j:Int):Rat) - sumN (ps.length - (i+1)) fun l=>((M i (ps.getD (i+1+l) 0):Int):Rat)*((X j (i+1+l):Int):Rat):=by
     rw[<-Rat.intCast_mul,e,Rat.intCast_sub,Rat.intCast_mul,cast_sum];congr 1
     exact sum_ext fun l _=>Rat.intCast_mul _ _
    have e2:(sumN (ps.length - (i+1)) fun l=>((M i (ps.getD (i+1+l) 0):Int):Rat)*xr ps.length h X (i+1+l) j)=(h:Rat)⁻¹*sumN (ps.length - (i+1)) fun l=>((M i (ps.getD (i+1+l) 0):Int):Rat)*((X j (i+1+l):Int):Rat):=by
     rw[<-a_0];refine sum_ext fun l hl=>?_;unfold xr;rw[if_pos (by omega)];grind
    rw[e2];have e3:=hq1 r.h0;have e4:=Rat.mul_inv_cancel _ hne;unfold xr;rw[if_pos h2];grind
  by_cases h1:i<ps.length
  ·exact key _ i (Nat.le_refl _) h1
  ·exact(Lat.zero R C A).ext fun j _=>by unfold xr;rw[if_neg h1]
def sl (C:Nat)(ps:List Nat)(h:Int)(X:Nat->Nat->Int)(d:Nat->Rat):Mx Rat:=fun a k=>sumN ps.length fun r=>(if ps.getD r 0=a then 1 else 0)*(((X (C+k) r:Int):Rat)*(h:Rat)⁻¹*d k)
theorem sl_off {a k:Nat}(ha:¬a∈ps):sl C ps h X d a k=0:=a_9 fun r hr=>by
 rw[if_neg fun e=>ha (by rw[<-e];exact DT.lget_mem hr)];simp
theorem solves (r:Red R (C+S) C F s G ps M h)(hX:Cols (C+S) G M ps h X)(hl:∀i k,ps.length<=i->i<R->k<S->M i (C+k)=0)(hA:∀i j,i<R->j<C->A i j=c i*((F i j:Int):Rat))(hB:∀i k,i<R->k<S->B i k=c i*(d k*((F i (C+k):Int):Rat))){i k:Nat}(hi:i<R)(hk:k<S):mul C A (sl C ps h X d) i k=B i k:=by
 unfold mul sl;rw[q_3 r.inc (fun a=>A i a) fun b=>((X (C+k) b:Int):Rat)*(h:Rat)⁻¹*d k,hB i k hi hk,t_4 r hX (fun a h1 h2=>hl a k h1 h2 hk) (by omega) hi,<-a_0,<-a_0];refine sum_ext fun b hb=>?_;rw[hA i _ hi (r.inc.lt b hb)];grind
theorem never (r:Red R (C+S) C F s G ps M h)(hc:∀i,i<R->c i≠0)(hd:∀k,k<S->d k≠0){a k:Nat}(h1:ps.length<=a)(h2:a<R)(hk:k<S)(hne:M a (C+k)≠0)(hA:∀i j,i<R->j<C->A i j=c i*((F i j:Int):Rat))(hB:∀i k,i<R->k<S->B i k=c i*(d k*((F i (C+k):Int):Rat)))(Y:Mx Rat):¬∀i k,i<R->k<S->mul C A Y i k=B i k:=fun hY=>by
 obtain⟨y,hy⟩:=DT.bc_row (r.pmi (by omega) (Nat.le_refl _)) a;obtain⟨f,hf⟩:=r.perm;have hR:=r.nR;have e1:∀i,i<R->d k*((F i (C+k):Int):Rat)=sumN C fun j=>((F i j:Int):Rat)*Y j k:=fun i hi=>by
  have e:=hY i k hi hk;rw[hB i k hi hk]at e;unfold mul at e;rw[sum_ext (g:=fun j=>c i*(((F i j:Int):Rat)*Y j k)) fun j hj=>by rw[hA i j hi hj];grind,a_0]at e;have h0:=hc i hi
  have:=Rat.mul_inv_cancel _ h0;grind
 have hg:∀j,((DT.bc ps.length G (fun b=>ps.getD b 0) a j:Int):Rat)=((DT.pm ps.length G (fun b=>ps.getD b 0):Int):Rat)*((F (f a) j:Int):Rat) - sumN ps.length fun l=>((y l:Int):Rat)*((F (f l) j:Int):Rat):=fun j=>by
  rw[hy j,Rat.intCast_sub,Rat.intCast_mul,cast_sum,(hf a h2).2];congr 1
  exact sum_ext fun l hl=>by rw[Rat.intCast_mul,(hf l (by omega)).2]
 have e2:d k*((DT.bc ps.length G (fun b=>ps.getD b 0) a (C+k):Int):Rat)=sumN C fun j=>((DT.bc ps.length G (fun b=>ps.getD b 0) a j:Int):Rat)*Y j k:=by
  rw[hg (C+k),sum_ext (f:=fun j=>((DT.bc ps.length G (fun b=>ps.getD b 0) a j:Int):Rat)*Y j k) (g:=fun j=>((DT.pm ps.length G (fun b=>ps.getD b 0):Int):Rat)*(((F (f a) j:Int):Rat)*Y j k) - sumN ps.length fun l=>((y l:Int):Rat)*(((F (f l) j:Int):Rat)*Y j k)) fun j _=>by
   rw[hg j];have:(sumN ps.length fun l=>((y l:Int):Rat)*(((F (f l) j:Int):Rat)*Y j k))=(sumN ps.length fun l=>((y l:Int):Rat)*((F (f l) j:Int):Rat))*Y j k:=by
    rw[<-sum_mul'];exact sum_ext fun l _=>by grind
   rw[this];grind]
  rw[e_0,a_0,<-e1 _ (hf a h2).1,e_n];rw[sum_ext (f:=fun l=>sumN C fun j=>((y l:Int):Rat)*(((F (f l) j:Int):Rat)*Y j k)) (g:=fun l=>d k*(((y l:Int):Rat)*((F (f l) (C+k):Int):Rat))) fun l hl=>by
   rw[a_0,<-e1 _ (hf l (by omega)).1];grind]
  rw[a_0];grind
 have e3:((M a (C+k):Int):Rat)=0:=by
  rw[r.low a _ h1 h2 (by omega)];rw[a_9 fun j hj=>by rw[<-r.low a j h1 h2 (by omega),r.zero a j h1 h2 hj];simp]at e2
  have:=Rat.mul_inv_cancel _ (hd k hk);grind
 exact hq hne e3
end
end Go.Proofs.YtfhbdlegkdbmfaaGreat.RT
end
