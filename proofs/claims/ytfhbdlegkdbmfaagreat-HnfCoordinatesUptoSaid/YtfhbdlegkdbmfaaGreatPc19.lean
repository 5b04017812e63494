/- Pc19 -/
import Derived.Test.YtfhbdlegkdbmfaaGreatPc18
import Derived.StillTailTactics
import Derived.BigRegion
set_option linter.unusedVariables false
set_option linter.unusedSimpArgs false
set_option linter.unusedSectionVars false
set_option maxRecDepth 100000
set_option maxHeartbeats 8000000
namespace Go.Proofs.YtfhbdlegkdbmfaaGreat
section
namespace DT
variable {R C n W:Nat}{M N G A F F':Mx}{u v:Nat->Int}{p p':Nat->Option Nat}
def rl (p:Nat->Option Nat):Nat->List Nat
 |0=>[]
 |k+1=>rl p k++(match p k with|none=>[] |some a=>[a])
theorem rl_none {k:Nat}(h:p k=none):rl p (k+1)=rl p k:=by simp[rl,h]
theorem rl_some {k a:Nat}(h:p k=some a):rl p (k+1)=rl p k++[a]:=by simp[rl,h]
theorem rl_len_le (p:Nat->Option Nat):∀k,(rl p k).length<=k
 |0=>Nat.le_refl _
 |k+1=>by
  have:=rl_len_le p k;cases h:p k with
  |none=>rw[rl_none h];omega
  |some a=>rw[rl_some h];simp;omega
theorem rl_mem {p:Nat->Option Nat}{a m:Nat}:a∈rl p m↔∃k,k<m/\p k=some a:=by
 induction m with
 |zero=>simp[rl]
 |succ m ih=>
  cases h:p m with
  |none=>
   rw[rl_none h,ih];exact⟨fun⟨k,h1,h2⟩=>⟨k,by omega,h2⟩,fun⟨k,h1,h2⟩=>⟨k,(by
    rcases Nat.lt_or_ge k m with h3|h3
    ·exact h3
    ·rw[show k=m by omega,h]at h2;cases h2),h2⟩⟩
  |some b=>
   rw[rl_some h,List.mem_append,ih,List.mem_singleton];constructor
   ·rintro(⟨k,h1,h2⟩|rfl)
    ·exact⟨k,by omega,h2⟩
    ·exact⟨m,by omega,h⟩
   ·rintro⟨k,h1,h2⟩;rcases Nat.lt_or_ge k m with h3|h3
    ·exact .inl ⟨k,h3,h2⟩
    ·rw[show k=m by omega,h]at h2;exact .inr (Option.some.inj h2).symm
def srt (F:Mx)(p:Nat->Option Nat)(W:Nat):Mx:=fun i=>F ((rl p W).getD i 0)
theorem rl_at:∀ {m i:Nat},i<(rl p m).length->∃k,k<m/\p k=some ((rl p m).getD i 0)/\(rl p k).length=i
 |0,i,h=>by simp[rl]at h
 |m+1,i,h=>by
  cases e:p m with
  |none=>
   rw[rl_none e]at h ⊢;obtain⟨k,h1,h2,h3⟩:=rl_at h;exact⟨k,by omega,h2,h3⟩
  |some b=>
   rw[rl_some e]at h ⊢;rcases Nat.lt_or_ge i (rl p m).length with h4|h4
   ·obtain⟨k,h1,h2,h3⟩:=rl_at h4;refine⟨k,by omega, ?_,h3⟩;rw[h2];simp[List.getD,List.getElem?_append_left h4]
   ·simp at h;refine⟨m,by omega, ?_,by omega⟩;rw[e];simp[List.getD,show i=(rl p m).length by omega]
theorem k_k (p:Nat->Option Nat):∀d k,(rl p k).length<=(rl p (k+d)).length
 |0,k=>Nat.le_refl _
 |d+1,k=>by
  have:=k_k p d k;rw[<-Nat.add_assoc];cases h:p (k+d)with
  |none=>rw[rl_none h];exact this
  |some a=>rw[rl_some h];simp;omega
theorem s_e {k l a:Nat}(h:k<l)(e:p k=some a):(rl p k).length<(rl p l).length:=by
 have h1:=k_k p (l - (k+1)) (k+1);rw[show k+1+(l - (k+1))=l by omega,rl_some e]at h1;simp at h1;omega
theorem Tri.fst (h:Tri n W F p){k a:Nat}(hk:k<W)(ha:p k=some a):fst W (F a)=k:=
 fst_of hk (h.zero k a hk ha) (by have:=h.pos k a hk ha;omega)
theorem Tri.row (h:Tri n W F p){i:Nat}(hi:i<(rl p W).length):∃k a,k<W/\p k=some a/\(rl p k).length=i/\srt F p W i=F a/\DT.fst W (srt F p W i)=k:=by
 obtain⟨k,h1,h2,h3⟩:=rl_at hi;exact⟨k,_,h1,h2,h3,rfl,h.fst h1 h2⟩
theorem Tri.up (h:Tri n W F p){i l:Nat}(hil:i<l)(hl:l<(rl p W).length):DT.fst W (srt F p W i)<DT.fst W (srt F p W l):=by
 obtain⟨k,a,h1,h2,h3,-,h4⟩:=h.row (i:=i) (by omega);obtain⟨k',a',g1,g2,g3,-,g4⟩:=h.row hl;rw[h4,g4];rcases Nat.lt_trichotomy k k' with e|e|e
 ·exact e
 ·subst e;omega
 ·have:=s_e e g2;omega
theorem Tri.steps (h:Tri n W F p):Steps (rl p W).length W (srt F p W):=fun i l hil hl _=>h.up hil hl
theorem Tri.herm (h:Tri n W F p)(hr:Rdc 0 W F p):Herm (rl p W).length W (srt F p W) where
 up:=fun i hi _=>h.up (Nat.lt_succ_self i) hi
 pos:=fun i hi _=>by
  obtain⟨k,a,h1,h2,-,h3,h4⟩:=h.row hi;rw[h4,h3];exact h.pos k a h1 h2
 red:=fun i hi _ r hri=>by
  obtain⟨k,a,h1,h2,h5,h3,h4⟩:=h.row hi;obtain⟨l,b,g1,g2,g5,g3,g4⟩:=h.row (i:=r) (by omega);have hlk:=h.up hri hi;rw[g4,h4]at hlk;rw[h4,h3,g3];exact hr l k b a (Nat.zero_le _) hlk h1 g2 h2
theorem Tri.full (h:Tri n W F p){i:Nat}(hi:i<(rl p W).length):DT.fst W (srt F p W i)<W:=by
 obtain⟨k,a,h1,h2,-,h3,h4⟩:=h.row hi;rw[h4];exact h1
theorem Tri.lat (h:Tri n W F p)(hr:Rst n W F p)(v:Nat->Int):Lat (rl p W).length W (srt F p W) v↔Lat n W F v:=by
 refine lat_both (fun i hi=>?_) (fun a ha=>?_) v
 ·obtain⟨k,a,h1,h2,-,h3,h4⟩:=h.row hi;rw[h3];exact Lat.row n W F (h.lt k a h1 h2)
 ·by_cases e:∃k,k<W/\p k=some a
  ·have hm:=rl_mem.mpr e;obtain⟨i,hi,hi2⟩:=List.getElem_of_mem hm
   have:=Lat.row (rl p W).length W (srt F p W) hi;rw[show srt F p W i=F a by unfold srt;rw[show(rl p W).getD i 0=a by simp[List.getD,hi,hi2]]]at this;exact this
  ·exact(Lat.zero _ _ _).ext fun j hj=>hr a ha (fun k hk e2=>e ⟨k,hk,e2⟩) j hj
theorem Tri.left (h:Tri n W F p)(hr:Rst n W F p)(f:Nat->Int):Lat n W F f↔∀j,j<W->rd F p 0 W f j=0:=by
 have hs:=n_x (n:=n) (W:=W) (F:=F) (p:=p) (lo:=0) (f:=f) W fun k b _ hk hb=>h.lt k b (by omega) hb;constructor
 ·intro hf;refine Classical.byContradiction fun hn=>?_;have hl:Lat n W F (rd F p 0 W f):=(hf.sub hs).ext fun j _=>by omega
  have hlt:DT.fst W (rd F p 0 W f)<W:=by
   refine Classical.byContradiction fun h2=>hn fun j hj=>row_zero h2 hj
  obtain⟨x,hx⟩:=(h.lat hr _).mpr hl;obtain⟨i,hi,e1,hx0,e2⟩:=h.steps.lead hx hlt;obtain⟨k,a,h1,h2,-,h3,h4⟩:=h.row hi;have hk:DT.fst W (rd F p 0 W f)=k:=by rw[<-e1,h4]
  rw[hk,h3]at e2;have h5:=h.rd_red (lo:=0) (f:=f) W (by omega) k a (Nat.zero_le _) (by omega) h2;have h6:=fst_ne hlt;rw[hk]at h6;rw[e2]at h5 h6;have h7:=h.pos k a h1 h2;rcases Int.lt_trichotomy (x i) 0 with h8|h8|h8
  ·have:=Int.mul_neg_of_neg_of_pos h8 h7;omega
  ·exact hx0 h8
  ·have:=Int.mul_le_mul_of_nonneg_right (show(1:Int)<=x i by omega) (Int.le_of_lt h7);omega
 ·intro h0;exact hs.ext fun j hj=>by rw[h0 j hj];omega
structure Puts (n W:Nat) (F0 F:Mx) (p:Nat->Option Nat):Prop where
 tri:Tri n W F p
 rst:Rst n W F p
 lat:∀v,Lat (n+1) W F v↔Lat (n+1) W F0 v
 low:∀a,n<a->F a=F0 a
theorem Puts.start (h:Tri n W F p)(hr:Rst n W F p):Puts n W F F p:=⟨h,hr,fun _=>Iff.rfl,fun _ _=>rfl⟩
theorem Puts.ne (h:Puts n W F F' p){k a:Nat}(hk:k<W)(ha:p k=some a):a≠n:=by have:=h.tri.lt k a hk ha;omega
theorem Puts.red (h:Puts n W F F' p):Puts n W F (upd F' n (rd F' p 0 W (F' n))) p where
 tri:=h.tri.ext fun k a hk ha=>upd_ne (h.ne hk ha)
 rst:=fun a ha hn j hj=>by rw[upd_ne (by omega)];exact h.rst a ha hn j hj
 lat:=fun v=>by
  have h1:=i_l (n:=n+1) (W:=W) (F:=F') (p:=p) (a:=n) (lo:=0) (by omega) (F' n) W (fun k b _ hk hb=>⟨by have:=h.tri.lt k b (by omega) hb;omega,h.ne (by omega) hb⟩) v;rw[h1,upd_id,h.lat]
 low:=fun a ha=>by rw[upd_ne (by omega)];exact h.low a ha
theorem Puts.room (h:Puts n W F F' p){k:Nat}{f:Nat->Int}(hk:k<W)(h0:∀j,j<k->F' n j=0)(hf:(f=F' n\/f=fun j=>- F' n j))(hp:0<f k)(hn:p k=none)(he:p'=fun l=>if l=k then some n else p l):
  Tri (n+1) W (upd F' n f) p'/\Rst (n+1) W (upd F' n f) p'/\(∀v,Lat (n+1) W (upd F' n f) v↔Lat (n+1) W F v):=by
 subst he;have hz:∀j,j<k->f j=0:=fun j hj=>by
  rcases hf with e|e<;>rw[e]
  ·exact h0 j hj
  ·show - F' n j=0;rw[h0 j hj];rfl
 have hor:∀ {l a:Nat},l<W->(if l=k then some n else p l)=some a->(l=k/\a=n)\/(l≠k/\p l=some a/\a<n):=fun {l a} hl e=>by
  by_cases e2:l=k
  ·rw[if_pos e2]at e;exact .inl ⟨e2,(Option.some.inj e).symm⟩
  ·rw[if_neg e2]at e;exact .inr ⟨e2,e,h.tri.lt l a hl e⟩
 refine⟨⟨fun l a hl e=>?_,fun l l' a hl hl' e e'=>?_,fun l a hl e j hj=>?_,fun l a hl e=>?_⟩,fun a ha hno j hj=>?_,fun v=>?_⟩
 ·rcases hor hl e with⟨_,h2⟩|⟨_,_,h2⟩<;>omega
 ·rcases hor hl e with⟨h1,h2⟩|⟨h1,h2,h3⟩<;>rcases hor hl' e' with⟨g1,g2⟩|⟨g1,g2,g3⟩
  ·omega
  ·omega
  ·omega
  ·exact h.tri.inj l l' a hl hl' h2 g2
 ·rcases hor hl e with⟨h1,h2⟩|⟨h1,h2,h3⟩
  ·subst h2;rw[upd_self];exact hz j (by omega)
  ·rw[upd_ne (by omega)];exact h.tri.zero l a hl h2 j hj
 ·rcases hor hl e with⟨h1,h2⟩|⟨h1,h2,h3⟩
  ·subst h2 h1;rw[upd_self];exact hp
  ·rw[upd_ne (by omega)];exact h.tri.pos l a hl h2
 ·have hne:a≠n:=fun e=>by
   subst e;exact hno k hk (if_pos rfl)
  rw[upd_ne hne];refine h.rst a (by omega) (fun l hl e=>?_) j hj;refine hno l hl ?_;have e2:l≠k:=fun e2=>by subst e2;rw[hn]at e;cases e
  show(if l=k then some n else p l)=some a
  rw[if_neg e2];exact e
 ·rw[<-h.lat v];rcases hf with e|e
  ·rw[e,upd_id]
  ·rw[e];exact p_v (by omega) v
theorem Puts.join (h:Puts n W F F' p){k b:Nat}(hk:k<W)(h0:∀j,j<k->F' n j=0)(hb:p k=some b){x y s t g:Int}(hg:0<g)(h1:x*F' b k+y*F' n k=g)(h2:s*g=F' b k)(h3:t*g=F' n k):
  Puts n W F (upd (upd F' b fun j=>x*F' b j+y*F' n j) n fun j=>s*F' n j - t*F' b j) p/\(∀j,j<k+1->s*F' n j - t*F' b j=0):=by
 have hbn:=h.tri.lt k b hk hb;have hdet:x*s+y*t=1:=by
  have:(x*s+y*t)*g=1*g:=by rw[<-h2,<-h3]at h1;grind
  exact Int.eq_of_mul_eq_mul_right (by omega) this
 refine⟨⟨⟨h.tri.lt,h.tri.inj,fun l a hl ha j hj=>?_,fun l a hl ha=>?_⟩,fun a ha hno j hj=>?_,fun v=>?_,fun a ha=>?_⟩,fun j hj=>?_⟩
 ·have hne:=h.ne hl ha;rw[upd_ne hne];by_cases e:a=b
  ·subst e;obtain rfl:=h.tri.inj l k a hl hk ha hb;rw[upd_self,h.tri.zero l a hl ha j hj,h0 j hj];simp
  ·rw[upd_ne e];exact h.tri.zero l a hl ha j hj
 ·have hne:=h.ne hl ha;rw[upd_ne hne];by_cases e:a=b
  ·subst e;obtain rfl:=h.tri.inj l k a hl hk ha hb;rw[upd_self];show 0<x*F' a l+y*F' n l
   omega
  ·rw[upd_ne e];exact h.tri.pos l a hl ha
 ·rw[upd_ne (by omega),upd_ne (fun e=>by subst e;exact hno k hk hb)];exact h.rst a ha hno j hj
 ·rw[p_t (n:=n+1) (by omega) (by omega) (by omega) hdet,h.lat]
 ·rw[upd_ne (by omega),upd_ne (by omega)];exact h.low a ha
 ·rcases Nat.lt_or_ge j k with e|e
  ·rw[h0 j e,h.tri.zero k b hk hb j e];simp
  ·obtain rfl:j=k:=by omega
   rw[<-h2,<-h3];grind
theorem Puts.gone (h:Puts n W F F' p)(h0:∀j,j<W->F' n j=0):Tri (n+1) W F' p/\Rst (n+1) W F' p:=by
 refine⟨⟨fun k a hk ha=>by have:=h.tri.lt k a hk ha;omega,h.tri.inj,h.tri.zero,h.tri.pos⟩,fun a ha hn j hj=>?_⟩;by_cases e:a=n
 ·subst e;exact h0 j hj
 ·exact h.rst a (by omega) hn j hj
structure Sets (n W m:Nat) (F0 F:Mx) (p:Nat->Option Nat):Prop where
 tri:Tri n W F p
 rst:Rst n W F p
 rdc:Rdc m W F p
 lat:∀v,Lat n W F v↔Lat n W F0 v
 low:∀a,(∀k,k<W->p k≠some a)->F a=F0 a
 old:∀k a,k<m->k<W->p k=some a->F a=F0 a
theorem Sets.start (h:Tri n W F p)(hr:Rst n W F p):Sets n W W F F p:=⟨h,hr,fun k l a b h1 h2 h3 _ _=>by omega,fun _=>Iff.rfl,fun _ _=>rfl,fun _ _ _ _ _=>rfl⟩
theorem Sets.none {m:Nat}(h:Sets n W (m+1) F F' p)(e:p m=Option.none):Sets n W m F F' p:=
 { h with
   rdc:=fun k l a b h1 h2 h3 ha hb=>h.rdc k l a b (by
    rcases Nat.lt_or_ge m k with h4|h4
    ·exact h4
    ·rw[show k=m by omega,e]at ha;cases ha) h2 h3 ha hb
   old:=fun k a h1 h2 ha=>h.old k a (by omega) h2 ha }
theorem Sets.some {m a:Nat}(h:Sets n W (m+1) F F' p)(hm:m<W)(e:p m=Option.some a):Sets n W m F (upd F' a (rd F' p (m+1) (W - (m+1)) (F' a))) p:=by
 have hne:∀ {l b:Nat},m<l->l<W->p l=Option.some b->b≠a:=fun {l b} h1 h2 hb e2=>by
  subst e2
  have:=h.tri.inj l m b h2 hm hb e;omega
 have hlow:=h.tri.rd_low (lo:=m+1) (f:=F' a) (W - (m+1)) (by omega);refine⟨⟨h.tri.lt,h.tri.inj,fun l b hl hb j hj=>?_,fun l b hl hb=>?_⟩,fun b hb hno j hj=>?_,fun k l b c h1 h2 h3 hb hc=>?_,fun v=>?_,fun b hno=>?_,fun k b h1 h2 hb=>?_⟩
 ·by_cases e2:b=a
  ·subst e2;obtain rfl:=h.tri.inj l m b hl hm hb e;rw[upd_self,hlow j (by omega)];exact h.tri.zero l b hl hb j hj
  ·rw[upd_ne e2];exact h.tri.zero l b hl hb j hj
 ·by_cases e2:b=a
  ·subst e2;obtain rfl:=h.tri.inj l m b hl hm hb e;rw[upd_self,hlow l (by omega)];exact h.tri.pos l b hl hb
  ·rw[upd_ne e2];exact h.tri.pos l b hl hb
 ·rw[upd_ne (fun e2=>by subst e2;exact hno m hm e)];exact h.rst b hb hno j hj
 ·have hc2:=hne (by omega) h3 hc;rw[upd_ne hc2];by_cases e2:b=a
  ·subst e2;obtain rfl:=h.tri.inj k m b (by omega) hm hb e;rw[upd_self];exact h.tri.rd_red (lo:=k+1) _ (by omega) l c (by omega) (by omega) hc
  ·rw[upd_ne e2];refine h.rdc k l b c ?_ h2 h3 hb hc;rcases Nat.lt_or_ge m k with h4|h4
   ·exact h4
   ·rw[show k=m by omega,e]at hb;exact absurd (Option.some.inj hb).symm e2
 ·have h1:=i_l (n:=n) (W:=W) (F:=F') (p:=p) (a:=a) (lo:=m+1) (h.tri.lt m a hm e) (F' a) (W - (m+1)) (fun k b h1 h2 hb=>⟨h.tri.lt k b (by omega) hb,hne (by omega) (by omega) hb⟩) v;rw[h1,upd_id,h.lat]
 ·rw[upd_ne (fun e2=>by subst e2;exact hno m hm e)];exact h.low b hno
 ·rw[upd_ne (fun e2=>by
   subst e2
   have:=h.tri.inj k m b h2 hm hb e;omega)]
  exact h.old k b (by omega) h2 hb
end DT
end
section
open Go.RowKit
def MaPost (v x y:Nat)(w:World)(e:Ending)(w':World):Prop:=
 ∃lo hi:Nat,e= .returned (.tuple #[.int .u64 (lo:Int),.int .u64 (hi:Int)])/\lo+18446744073709551616*hi=v*x+y/\lo<18446744073709551616/\hi<18446744073709551616/\w=w'
theorem j_c (v x y:Nat)(hv:v<18446744073709551616)(hx:x<18446744073709551616)(hy:y<18446744073709551616)(w:World):
  Calls Tryz.prog 219 #[.int .u64 v,.int .u64 x,.int .u64 y] w (MaPost v x y w):=by
 go_enter Tryz.func219,Tryz.ntmps219
 go_wp2_with fail
 refine(b_5 _ _ hv hx _).mono ?_;rintro e w' ⟨hi,lo,rfl,h0,h1,h2,rfl⟩;obtain⟨s1,o1,f1,f2,f3,f4⟩:=b_x lo y h2 hy;have hsum:s1+18446744073709551616*(hi+o1)=v*x+y:=by omega
 have P:Hid (MaPost v x y w (.returned (.tuple #[.int .u64 (s1:Int),.int .u64 ((hi+o1:Nat):Int)])) w):=Lib.hid ⟨s1,hi+o1,rfl,hsum,f3,by omega,rfl⟩;clear h0 f2 hsum
 go_wp2_with fail
 go_ret2
 have:=P.out;simpa using this
theorem k_x (v x y:Nat)(hv:v<18446744073709551616)(hx:x<18446744073709551616)(hy:y<18446744073709551616):
  ∃lo hi:Nat,(∀w,Calls Tryz.prog 219 #[.int .u64 v,.int .u64 x,.int .u64 y] w fun e w'=>e= .returned (.tuple #[.int .u64 (lo:Int),.int .u64 (hi:Int)])/\w'=w)/\
   lo+18446744073709551616*hi=v*x+y/\lo<18446744073709551616/\hi<18446744073709551616:=by
 have h1:v*x<=18446744073709551615*18446744073709551615:=Nat.mul_le_mul (by omega) (by omega);refine⟨(v*x+y)%18446744073709551616,(v*x+y) / 18446744073709551616,fun w=>(j_c v x y hv hx hy w).mono ?_,by omega,by omega,by omega⟩;rintro e w' ⟨lo,hi,rfl,h2,h3,h4,rfl⟩;exact⟨by rw[<-h2,show(lo+18446744073709551616*hi)%18446744073709551616=lo by omega,show(lo+18446744073709551616*hi) / 18446744073709551616=hi by omega],rfl⟩
def NxPost (w:World)(h x y m l b v u:Nat)(e:Ending)(w':World):Prop:=
 ∃lo1 lo2 m' l':Nat,e= .returned (.tuple #[.int .u64 (lo1:Int),.int .u64 (lo2:Int)])/\lo1<18446744073709551616/\lo2<18446744073709551616/\Hid (lo1+18446744073709551616*m'=v*x+m)/\Hid (lo2+18446744073709551616*l'=u*y+l)/\m'<18446744073709551616/\l'<18446744073709551616/\
  Wb w' h 192 [x,y,m',l',b]/\Tch (fun a=>a.block=h) w w'/\w'.heap.size=w.heap.size
theorem e_6 (w:World)(h x y m l b v u:Nat)(hb:Wb w h 192 [x,y,m,l,b])(hv:v<18446744073709551616)(hu:u<18446744073709551616):
  Calls Tryz.prog 209 #[.pointer (some ⟨h,0,none⟩),.int .u64 v,.int .u64 u] w (NxPost w h x y m l b v u):=by
 have c0:=hb.1.cell (j:=0) (by simp);have c1:=hb.1.cell (j:=1) (by simp);have c2:=hb.1.cell (j:=2) (by simp);have c3:=hb.1.cell (j:=3) (by simp);have f2:=hb.1.free 2;simp only[nth,List.getD_cons_zero,List.getD_cons_succ]at c0 c1 c2 c3;have x1:x<18446744073709551616:=hb.2 0 (by simp);have x2:y<18446744073709551616:=hb.2 1 (by simp);have x3:m<18446744073709551616:=hb.2 2 (by simp);have x4:l<18446744073709551616:=hb.2 3 (by simp);go_enter Tryz.func209,Tryz.ntmps209
 obtain⟨lo1,hi1,M1,E1,y1,y2⟩:=k_x v x m hv x1 x3;obtain⟨lo2,hi2,M2,E2,y3,y4⟩:=k_x u y l hu x2 x4;have HE1:=Lib.hid E1;have HE2:=Lib.hid E2;clear E1 E2
 go_wp2_with fail
 go_still_tail 17,(by kernel_rfl)
 still_call (M1 _)
 repeat still_step
 refine wpStill_nil ?_;change wpList _ _ _ _ _ w.drew;have B1:=a_a w;have W1:Wb w.drew h 192 [x,y,m,l,b]:=hb;have Z1:w.drew.heap.size=w.heap.size:=rfl;obtain⟨w1,hw1⟩:∃w1,w1=w.drew:=⟨_,rfl⟩;rw[<-hw1]at B1 W1 Z1 ⊢;have c2':=W1.1.cell (j:=2) (by simp);have f2':=W1.1.free 2;obtain⟨T2,W2⟩:=Tch.store (S:=fun a=>a.block=h) W1 2 y2 rfl;simp only[List.set_cons_succ,List.set_cons_zero]at W2;clear hw1 c0 c1 c2 c3 f2 hb;have HW1:=Lib.hid W1;have HW2:=Lib.hid W2;have HT2:=Lib.hid T2;have HB1:=Lib.hid B1;have HZ1:=Lib.hid Z1;clear W1 W2 T2 B1 Z1
 go_wp2_with fail
 obtain⟨w2,hw2⟩:∃w2,w2=w1.setCell ⟨h,2,none⟩ (.int .u64 (hi1:Int)):=⟨_,rfl⟩;have W2:=HW2.out;have T2:=HT2.out;have Z2:w2.heap.size=w.heap.size:=by rw[hw2,<-HZ1.out];simp
 rw[<-hw2]at W2 T2 ⊢;have d1:=W2.1.cell (j:=1) (by simp);have d3:=W2.1.cell (j:=3) (by simp);have f3:=W2.1.free 3;simp only[nth,List.getD_cons_zero,List.getD_cons_succ]at d1 d3;have HW3:=Lib.hid W2;have HT3:=Lib.hid T2;have HZ2:=Lib.hid Z2;clear hw2 W2 T2 Z2 HW2 HT2 c2' f2';go_still_tail 17,(by kernel_rfl)
 still_call (M2 _)
 repeat still_step
 refine wpStill_nil ?_;change wpList _ _ _ _ _ w2.drew;have B3:=a_a w2;have W3:Wb w2.drew h 192 [x,y,hi1,l,b]:=HW3.out;have Z3:w2.drew.heap.size=w2.heap.size:=rfl;obtain⟨w3,hw3⟩:∃w3,w3=w2.drew:=⟨_,rfl⟩;rw[<-hw3]at B3 W3 Z3 ⊢;have c3':=W3.1.cell (j:=3) (by simp);have f3':=W3.1.free 3;obtain⟨T4,W4⟩:=Tch.store (S:=fun a=>a.block=h) W3 3 y4 rfl;simp only[List.set_cons_succ,List.set_cons_zero]at W4;have HT:Hid (Tch (fun a=>a.block=h) w (w3.setCell ⟨h,3,none⟩ (.int .u64 (hi2:Int)))):=
  Lib.hid (((Tch.of_below _ HB1.out).trans HT3.out).trans ((Tch.of_below _ B3).trans T4))
 have HW4:=Lib.hid W4;have HZ4:Hid ((w3.setCell ⟨h,3,none⟩ (.int .u64 (hi2:Int))).heap.size=w.heap.size):=Lib.hid (by simp;rw[Z3,HZ2.out]);clear hw3 W3 Z3 W4 T4 B3 d1 d3 f3
 go_wp2_with fail
 go_ret2
 exact⟨lo1,lo2,hi1,hi2,rfl,y1,y3,HE1,HE2,y2,y4,HW4.out,HT.out,HZ4.out⟩
def DfPost (w:World)(h x y m l b v u:Nat)(e:Ending)(w':World):Prop:=
 ∃z m' l' b':Nat,e= .returned (.int .u64 (z:Int))/\z<18446744073709551616/\Hid (z+u*y+l+b+18446744073709551616*m'=v*x+m+18446744073709551616*(l'+b'))/\m'<18446744073709551616/\l'<18446744073709551616/\b'<=1/\
  Wb w' h 192 [x,y,m',l',b']/\Tch (fun a=>a.block=h) w w'/\w'.heap.size=w.heap.size
theorem f_a (w:World)(h x y m l b v u:Nat)(hb:Wb w h 192 [x,y,m,l,b])(hb1:b<=1)(hv:v<18446744073709551616)(hu:u<18446744073709551616):
  Calls Tryz.prog 185 #[.pointer (some ⟨h,0,none⟩),.int .u64 v,.int .u64 u] w (DfPost w h x y m l b v u):=by
 go_enter Tryz.func185,Tryz.ntmps185
 go_wp2_with fail
 refine(e_6 w h x y m l b v u hb hv hu).mono ?_;rintro e w1 ⟨lo1,lo2,m',l',rfl,h1,h2,e1,e2,h3,h4,W1,T1,Z1⟩;obtain⟨z,o,s1,s2,s3,s4⟩:=b_z lo1 lo2 b h1 h2 hb1;have HS:=Lib.hid s2;have c4:=W1.1.cell (j:=4) (by simp);have f4:=W1.1.free 4;simp only[nth,List.getD_cons_zero,List.getD_cons_succ]at c4;obtain⟨T2,W2⟩:=Tch.store (S:=fun a=>a.block=h) W1 4 (n:=o) (by omega) rfl;simp only[List.set_cons_succ,List.set_cons_zero]at W2;have hsum:Hid (z+u*y+l+b+18446744073709551616*m'=v*x+m+18446744073709551616*(l'+o)):=Lib.hid (by have e1:=e1.out;have e2:=e2.out;have e3:=HS.out;generalize v*x=P at*;generalize u*y=Q at*;omega);have HP:Hid (DfPost w h x y m l b v u (.returned (.int .u64 (z:Int))) (w1.setCell ⟨h,4,none⟩ (.int .u64 (o:Int)))):=Lib.hid ⟨z,m',l',o,rfl,s3,hsum,h3,h4,s4,W2,T1.trans T2,by simp;exact Z1⟩;clear s2 W1 W2 T1 T2 Z1 hb e1 e2 hsum HS
 go_wp2_with fail
 go_ret
 exact HP.out
def SdPost (w:World)(h x y m l b v u:Nat)(e:Ending)(w':World):Prop:=
 ∃z m' l' b':Nat,e= .returned (.int .u64 (z:Int))/\z<18446744073709551616/\Hid (z+18446744073709551616*(m'+l'+b')=v*x+m+(u*y+l)+b)/\m'<18446744073709551616/\l'<18446744073709551616/\b'<=1/\
  Wb w' h 192 [x,y,m',l',b']/\Tch (fun a=>a.block=h) w w'/\w'.heap.size=w.heap.size
theorem f_8 (w:World)(h x y m l b v u:Nat)(hb:Wb w h 192 [x,y,m,l,b])(hb1:b<=1)(hv:v<18446744073709551616)(hu:u<18446744073709551616):
  Calls Tryz.prog 225 #[.pointer (some ⟨h,0,none⟩),.int .u64 v,.int .u64 u] w (SdPost w h x y m l b v u):=by
 go_enter Tryz.func225,Tryz.ntmps225
 go_wp2_with fail
 refine(e_6 w h x y m l b v u hb hv hu).mono ?_;rintro e w1 ⟨lo1,lo2,m',l',rfl,h1,h2,e1,e2,h3,h4,W1,T1,Z1⟩;obtain⟨z,o,s1,s2,s3,s4⟩:=d_q lo1 lo2 b h1 h2 hb1;have HS:=Lib.hid s2;have c4:=W1.1.cell (j:=4) (by simp);have f4:=W1.1.free 4;simp only[nth,List.getD_cons_zero,List.getD_cons_succ]at c4;obtain⟨T2,W2⟩:=Tch.store (S:=fun a=>a.block=h) W1 4 (n:=o) (by omega) rfl;simp only[List.set_cons_succ,List.set_cons_zero]at W2;have hsum:Hid (z+18446744073709551616*(m'+l'+o)=v*x+m+(u*y+l)+b):=Lib.hid (by have e1:=e1.out;have e2:=e2.out;have e3:=HS.out;generalize v*x=P at*;generalize u*y=Q at*;omega);have HP:Hid (SdPost w h x y m l b v u (.returned (.int .u64 (z:Int))) (w1.setCell ⟨h,4,none⟩ (.int .u64 (o:Int)))):=Lib.hid ⟨z,m',l',o,rfl,s3,hsum,h3,h4,s4,W2,T1.trans T2,by simp;exact Z1⟩;clear s2 W1 W2 T1 T2 Z1 hb e1 e2 hsum HS
 go_wp2_with fail
 go_ret
 exact HP.out
end
section
open Go.RowKit
def Diffing (b:Nat)(xs ys us:List Nat)(x y k m l o:Nat):Prop:=
 us.length=k/\Low b us/\ev b us+pre b ys k*y+b^k*m=pre b xs k*x+b^k*(l+o)
theorem Diffing.start (b:Nat)(xs ys:List Nat)(x y:Nat):Diffing b xs ys [] x y 0 0 0 0:=⟨rfl,Low.nil b,by simp[ev,a_0]⟩
theorem Diffing.step {b:Nat}{xs ys us:List Nat}{x y k m l o z m' l' o':Nat}(h:Diffing b xs ys us x y k m l o)(hz:z<b)(he:z+nth ys k*y+l+o+b*m'=nth xs k*x+m+b*(l'+o')):
  Diffing b xs ys (us++[z]) x y (k+1) m' l' o':=by
 obtain⟨h1,h2,h3⟩:=h;refine⟨by simp[h1],h2.snoc hz, ?_⟩;rw[b_g,a_c,a_c,h1,Nat.pow_succ];generalize b^k=P at *;have e:P*z+P*nth ys k*y+P*(l+o)+P*b*m'=P*nth xs k*x+P*m+P*b*(l'+o'):=by
  have:=congrArg (P* ·) he;grind
 grind
theorem Diffing.stop {b:Nat}{xs ys us:List Nat}{x y k m l o D:Nat}(h:Diffing b xs ys us x y k m l o)(hb:0<b)(hD:pre b xs k*x=pre b ys k*y+D)(hD2:D<b^k):ev b us=D:=by
 obtain⟨h1,h2,h3⟩:=h;have h4:=b_y h2;rw[h1]at h4;rw[hD]at h3;have h5:ev b us+b^k*m=D+b^k*(l+o):=by omega
 have h6:=congrArg (· %b^k) h5;simp only[Nat.add_mul_mod_self_left]at h6;rwa [Nat.mod_eq_of_lt h4,Nat.mod_eq_of_lt hD2]at h6
def TkCut (w:World)(p q r s:Nat)(v6 v7:Value)(wx:World):Prop:=
 ∃h1 h2:Nat,v6= .pointer (some ⟨h1,0,none⟩)/\v7= .pointer (some ⟨h2,0,none⟩)/\h1≠h2/\w.heap.size<=h1/\w.heap.size<=h2/\Wb wx h1 192 [p,q,0,0,0]/\Wb wx h2 192 [s,r,0,0,0]/\Below w.heap.size w wx
theorem low5 {p q:Nat}(hp:p<18446744073709551616)(hq:q<18446744073709551616):Low 18446744073709551616 [p,q,0,0,0]:=
 ((((((Low.nil _).cons (x:=0) (by omega)).cons (x:=0) (by omega)).cons (x:=0) (by omega)).cons hq).cons hp)
theorem n_u (w:World)(p q:Nat):Blk (w.alloc (.cells #[.int .u64 p,.int .u64 q,.int .u64 0,.int .u64 0,.int .u64 0] 192)) w.heap.size 192 .u64 [p,q,0,0,0]:=heap_alloc_new w _
theorem tk_a {w:World}{p q r s:Nat}(o:Obj)(hp:p<18446744073709551616)(hq:q<18446744073709551616)(hr:r<18446744073709551616)(hs:s<18446744073709551616):
  TkCut w p q r s (.pointer (some ⟨w.heap.size+1,0,none⟩)) (.pointer (some ⟨w.heap.size+1+1,0,none⟩)) (((w.alloc o).alloc (.cells #[.int .u64 p,.int .u64 q,.int .u64 0,.int .u64 0,.int .u64 0] 192)).alloc (.cells #[.int .u64 s,.int .u64 r,.int .u64 0,.int .u64 0,.int .u64 0] 192)).drew:=by
 have e1:(w.alloc o).heap.size=w.heap.size+1:=by simp
 have e2:((w.alloc o).alloc (.cells #[.int .u64 p,.int .u64 q,.int .u64 0,.int .u64 0,.int .u64 0] 192)).heap.size=w.heap.size+1+1:=by simp
 have b1:=(n_u (w.alloc o) p q).alloc (.cells #[.int .u64 s,.int .u64 r,.int .u64 0,.int .u64 0,.int .u64 0] 192);have b2:=n_u ((w.alloc o).alloc (.cells #[.int .u64 p,.int .u64 q,.int .u64 0,.int .u64 0,.int .u64 0] 192)) s r;rw[e1]at b1;rw[e2]at b2;exact⟨_,_,rfl,rfl,by omega,by omega,by omega,⟨b1.drew,low5 hp hq⟩,⟨b2.drew,low5 hs hr⟩,((((Below.refl _ _).alloc (Nat.le_refl _) _).alloc (by simp) _).alloc (by simp;omega) _).drew⟩
theorem tk_b {w:World}{p q r s:Nat}(o:Obj)(hp:p<18446744073709551616)(hq:q<18446744073709551616)(hr:r<18446744073709551616)(hs:s<18446744073709551616):
  TkCut w p q r s (.pointer (some ⟨w.heap.size+1+1,0,none⟩)) (.pointer (some ⟨w.heap.size+1,0,none⟩)) (((w.alloc o).alloc (.cells #[.int .u64 s,.int .u64 r,.int .u64 0,.int .u64 0,.int .u64 0] 192)).alloc (.cells #[.int .u64 p,.int .u64 q,.int .u64 0,.int .u64 0,.int .u64 0] 192)).drew:=by
 obtain⟨h1,h2,e1,e2,a1,a2,a3,a4,a5,a6⟩:=tk_a (w:=w) (p:=s) (q:=r) (r:=q) (s:=p) o hs hr hq hp;exact⟨h2,h1,e2,e1,fun h=>a1 h.symm,a3,a2,a5,a4,a6⟩
def Tk2 (w:World)(g1 g2:Nat)(a:Addr):Prop:=a.block=g1\/a.block=g2\/w.heap.size<=a.block
def TkPost (w:World)(base g1 g2 n D1 D2:Nat)(La Lb:List Nat)(e:Ending)(w':World):Prop:=
 ∃us1 us2:List Nat,e= .returned (.tuple #[])/\us1.length=n/\us2.length=n/\Hid (ev 18446744073709551616 us1=D1)/\Hid (ev 18446744073709551616 us2=D2)/\
  Wb w' g1 85 (us1++La.drop n)/\Wb w' g2 85 (us2++Lb.drop n)/\Below base w w'/\Tch (Tk2 w g1 g2) w w'
def TkRel (w:World)(base g1 g2 h1 h2 p q r s:Nat)(La Lb:List Nat)(k:Nat)(wr:World):Prop:=
 ∃(us1 us2:List Nat) (m1 l1 o1 m2 l2 o2:Nat),Diffing 18446744073709551616 La Lb us1 p q k m1 l1 o1/\Diffing 18446744073709551616 Lb La us2 s r k m2 l2 o2/\o1<=1/\o2<=1/\
  Wb wr g1 85 (us1++La.drop k)/\Wb wr g2 85 (us2++Lb.drop k)/\Wb wr h1 192 [p,q,m1,l1,o1]/\Wb wr h2 192 [s,r,m2,l2,o2]/\Tch (Tk2 w g1 g2) w wr
structure TkIn (w:World) (base g1 g2 h1 h2:Nat):Prop where
 b1:base<=g1
 b2:base<=g2
 b3:base<=h1
 b4:base<=h2
 d1:g1≠g2
 d2:g1≠h1
 d3:g1≠h2
 d4:g2≠h1
 d5:g2≠h2
 d6:h1≠h2
 s0:base<=w.heap.size
 s1:w.heap.size<=h1
 s2:w.heap.size<=h2
theorem TkIn.below {w w':World}{base g1 g2 h1 h2:Nat}(k:TkIn w base g1 g2 h1 h2)(h:Tch (Tk2 w g1 g2) w w'):Below base w w':=
 h.below k.s0 fun a ha=>by
  rcases ha with h|h|h
  ·rw[h];exact k.b1
  ·rw[h];exact k.b2
  ·exact Nat.le_trans k.s0 h
theorem h_j (w:World)(base g1 g2 n c1 c2 p q r s D1 D2:Nat)(La Lb:List Nat)(W1:Wb w g1 85 La)(W2:Wb w g2 85 Lb)(hg:g1≠g2)(hb1:base<=g1)(hb2:base<=g2)(n1:n<=La.length)(n2:n<=Lb.length)
  (hm:n<=1099511627776) (hp:p<18446744073709551616) (hq:q<18446744073709551616) (hr:r<18446744073709551616) (hs:s<18446744073709551616)
  (E1:pre 18446744073709551616 La n*p=pre 18446744073709551616 Lb n*q+D1) (F1:D1<18446744073709551616^n) (E2:pre 18446744073709551616 Lb n*s=pre 18446744073709551616 La n*r+D2) (F2:D2<18446744073709551616^n):
  Calls Tryz.prog 153 #[.agg #[.int .u64 p,.int .u64 q,.int .u64 r,.int .u64 s],.slice (some ⟨g1,0,none⟩) n c1,.slice (some ⟨g2,0,none⟩) n c2] w (TkPost w base g1 g2 n D1 D2 La Lb):=by
 have HE1:=Lib.hid E1;have HE2:=Lib.hid E2;have HF1:=Lib.hid F1;have HF2:=Lib.hid F2;clear E1 E2 F1 F2;go_enter Tryz.func153,Tryz.ntmps153
 go_upto_region 1 with fail
 go_cut [6,7] (TkCut w p q r s)
 case first=>
  clear HE1 HE2 HF1 HF2 W1 W2 hg hb1 hb2 n1 n2 hm;go_region
  all_goals
   go_wp2_with fail
   go_meet
   first
    |exact tk_a _ hp hq hr hs
    |exact tk_b _ hp hq hr hs
 case rest=>
  obtain⟨h1,h2,rfl,rfl,hh,hh1,hh2,V1,V2,B0⟩:=hcut;have lt1:=W1.1.lt;have lt2:=W2.1.lt;have I:=Lib.hid (show TkIn w base g1 g2 h1 h2 from⟨hb1,hb2,by omega,by omega,hg,by omega,by omega,by omega,by omega,hh,by omega,hh1,hh2⟩);have W1':Wb wc g1 85 La:=⟨W1.1.below B0 lt1,W1.2⟩;have W2':Wb wc g2 85 Lb:=⟨W2.1.below B0 lt2,W2.2⟩;have lLa:=W1.2;have lLb:=W2.2;have BB:Tch (Tk2 w g1 g2) w wc:=Tch.of_below _ B0;clear W1 W2 B0 hh hh1 hh2 hg lt1 lt2
  go_wp2_with fail
  go_loopw [23] (fun i wr=>∃k:Nat,k<=n/\i= .int .i64 k/\TkRel w base g1 g2 h1 h2 p q r s La Lb k wr) (fun i _=>n - (intOf i).toNat)
  case atStart=>exact⟨0,Nat.zero_le _,rfl,[],[],0,0,0,0,0,0,Diffing.start _ _ _ _ _,Diffing.start _ _ _ _ _,by omega,by omega,by simpa using W1',by simpa using W2',V1,V2,BB⟩
  case round=>
   clear W1' W2' V1 V2 BB;obtain⟨k,hk,rfl,us1,us2,m1,l1,o1,m2,l2,o2,d1,d2,ho1,ho2,W1,W2,V1,V2,BB⟩:=hrel;by_cases hlt:k<n
   ·have cs1:=W1.1.cell (j:=k) (by rw[a_g d1.1 (by omega)];omega);rw[a_u d1.1]at cs1;have cs2:=W2.1.cell (j:=k) (by rw[a_g d2.1 (by omega)];omega);rw[a_u d2.1]at cs2;have x1:=lLa.any (by omega) k;have x2:=lLb.any (by omega) k;have HW1:=Lib.hid W1;have HW2:=Lib.hid W2;have HD1:=Lib.hid d1;have HD2:=Lib.hid d2;have HBB:=Lib.hid BB;clear W1 W2 d1 d2 BB
    go_wp2_with fail
    refine(f_a _ h1 p q m1 l1 o1 _ _ V1 ho1 x1 x2).mono ?_;rintro e w2 ⟨z1,m1',l1',o1',rfl,hz1,he1,hm1,hl1,hoo1,V1',T1,Z1⟩;have V2':=V2.tch T1 fun j _ h=>I.out.d6 h.symm;have W1:=HW1.out.tch T1 fun j _ h=>I.out.d2 h;have W2:=HW2.out.tch T1 fun j _ h=>I.out.d4 h;have HT1:=Lib.hid T1;have HZ1:=Lib.hid Z1;have HWa:=Lib.hid W1;have HWb:=Lib.hid W2;clear V1 V2 cs1 cs2 T1 Z1 W1 W2 HW1 HW2
    go_wp2_with fail
    refine(f_a _ h2 s r m2 l2 o2 _ _ V2' ho2 x2 x1).mono ?_;rintro e w3 ⟨z2,m2',l2',o2',rfl,hz2,he2,hm2,hl2,hoo2,V2'',T2,Z2⟩;have V1'':=V1'.tch T2 fun j _ h=>I.out.d6 h;have W1:=HWa.out.tch T2 fun j _ h=>I.out.d3 h;have W2:=HWb.out.tch T2 fun j _ h=>I.out.d5 h;have cs1:=W1.1.cell (j:=k) (by rw[a_g HD1.out.1 (by omega)];omega);have cf1:=W1.1.free k;obtain⟨T3,X1⟩:=Tch.store (S:=fun a=>a.block=g1) W1 k hz1 rfl;rw[a_9 HD1.out.1 (by omega)]at X1;have X2:=W2.tch T3 fun j _ h=>I.out.d1 h.symm;have cs2:=X2.1.cell (j:=k) (by rw[a_g HD2.out.1 (by omega)];omega);have cf2:=X2.1.free k;obtain⟨T4,Y2⟩:=Tch.store (S:=fun a=>a.block=g2) X2 k hz2 rfl;rw[a_9 HD2.out.1 (by omega)]at Y2;have Y1:=X1.tch T4 fun j _ h=>I.out.d1 h;have U1:=(V1''.tch T3 fun j _ h=>I.out.d2 h.symm).tch T4 fun j _ h=>I.out.d4 h.symm;have U2:=(V2''.tch T3 fun j _ h=>I.out.d3 h.symm).tch T4 fun j _ h=>I.out.d5 h.symm;have BB2:Hid (Tch (Tk2 w g1 g2) w ((w3.setCell ⟨g1,k,none⟩ (.int .u64 (z1:Int))).setCell ⟨g2,k,none⟩ (.int .u64 (z2:Int)))):=Lib.hid (by
     have b1:=HT1.out.mono (S:=Tk2 w g1 g2) fun a _ h=>.inr (.inr (by rw[h];exact I.out.s1));have b2:=T2.mono (S:=Tk2 w g1 g2) fun a _ h=>.inr (.inr (by rw[h];exact I.out.s2));have b3:=T3.mono (S:=Tk2 w g1 g2) fun a _ h=>.inl h;have b4:=T4.mono (S:=Tk2 w g1 g2) fun a _ h=>.inr (.inl h);exact(((HBB.out.trans b1).trans b2).trans b3).trans b4)
    have R:Hid (TkRel w base g1 g2 h1 h2 p q r s La Lb (k+1) ((w3.setCell ⟨g1,k,none⟩ (.int .u64 (z1:Int))).setCell ⟨g2,k,none⟩ (.int .u64 (z2:Int)))):=
     Lib.hid ⟨_,_,_,_,_,_,_,_,HD1.out.step hz1 he1.out,HD2.out.step hz2 he2.out,hoo1,hoo2,Y1,Y2,U1,U2,BB2.out⟩
    clear V1' V2' V1'' V2'' W1 W2 X1 X2 Y1 Y2 U1 U2 T2 T3 T4 Z2
    go_wp2_with fail
    go_roundw
    case rel=>exact⟨k+1,by omega,by go_num,R.out⟩
    case measure=>simp[intOf];omega
   ·obtain rfl:k=n:=by omega
    have P:Hid (TkPost w base g1 g2 k D1 D2 La Lb (.returned (.tuple #[])) wr):=Lib.hid ⟨us1,us2,rfl,d1.1,d2.1,Lib.hid (d1.stop (by omega) HE1.out HF1.out),Lib.hid (d2.stop (by omega) HE2.out HF2.out),W1,W2,I.out.below BB,BB⟩;clear d1 d2 W1 W2 V1 V2 BB hlt
    go_wp2_with fail
    go_end0
    exact P.out
end
end Go.Proofs.YtfhbdlegkdbmfaaGreat
