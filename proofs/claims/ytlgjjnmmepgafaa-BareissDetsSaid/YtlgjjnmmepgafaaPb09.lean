/- Pb09 -/
import Derived.Test.YtlgjjnmmepgafaaPb08
import Derived.Test.YtlgjjnmmepgafaaRows
import Derived.Lib.SmallJoins
import Derived.ChangeSlices
import Derived.Deep.Slices
import Derived.Deep.Fields
import Derived.Deep.Matrix
import Derived.Laws.AppendOwn
import Derived.Lib.Hide
set_option linter.unusedVariables false
set_option linter.unusedSimpArgs false
set_option linter.unusedSectionVars false
set_option maxRecDepth 100000
set_option maxHeartbeats 8000000
namespace Go.Proofs.Ytlgjjnmmepgafaa
section
open Go.RowKit
structure Zr where
 s:Bool
 A:Option Addr
 n:Nat
 c:Nat
 z:Int
def nzr:Zr:=⟨false,none,0,0,0⟩
structure RL (w:World) (A:Option Addr) (n c:Nat) (R:List Zr):Prop where
 len:R.length=n
 le:n<=c
 cap:c<=9223372036854775807
 at':0<n->∃ad,A=some ad/\ad.block<w.heap.size/\∀j,j<n->w.cell? (ad.add (j*2))=some (.bool (R.getD j nzr).s)/\w.cell? ⟨(ad.add (j*2)).block,(ad.add (j*2)).off+1,none⟩=some (.slice (R.getD j nzr).A (R.getD j nzr).n (R.getD j nzr).c)
 num:∀x,x∈R->Zv w x.s x.A x.n x.c x.z
theorem RL.below {w w':World}{A:Option Addr}{n c:Nat}{R:List Zr}(h:RL w A n c R)(hb:Below w.heap.size w w'):RL w' A n c R:=⟨h.len,h.le,h.cap,fun h0=>by
 obtain⟨ad,rfl,h1,h2⟩:=h.at' h0;exact⟨ad,rfl,Nat.lt_of_lt_of_le h1 hb.size,fun j hj=>⟨(hb.cell (by rw[a_a];exact h1)).trans (h2 j hj).1,(hb.cell (p:=⟨(ad.add (j*2)).block,(ad.add (j*2)).off+1,none⟩) (by show(ad.add (j*2)).block<_;rw[a_a];exact h1)).trans (h2 j hj).2⟩⟩,fun x hx=>(h.num x hx).below hb⟩
def nums (R:List Zr):List Int:=R.map (·.z)
theorem RL.zl {w:World}{A:Option Addr}{n c k:Nat}{R:List Zr}(h:RL w A n c R)(hk:∀j,j<n->(R.getD j nzr).n<=k):ZL false w A n c k (nums R):=⟨by unfold nums;rw[List.length_map];exact h.len,h.le,h.cap,fun h0=>by
 obtain⟨ad,rfl,h1,h2⟩:=h.at' h0;refine⟨ad,rfl,h1,fun j hj=>?_⟩;have hl:j<R.length:=by rw[h.len];exact hj
 have e:R.getD j nzr=R[j]:=by simp[List.getD,hl]
 have e2:ith (nums R) j=R[j].z:=by simp[ith,nums,List.getD,hl]
 obtain⟨c1,c2⟩:=h2 j hj;refine⟨_,_,_,_,c1,c2,⟨?_,fun e=>nomatch e⟩,hk j hj⟩;rw[e,e2];exact h.num _ (List.getElem_mem hl)⟩
def Fw (R:List Zr)(N W:Nat):Prop:=R.length<=N/\∀j,j<R.length->j<100->(R.getD j nzr).n<=W
theorem r_m {R:List Zr}{N W:Nat}(h:Fw R N W)(hN:N<=100)(j:Nat)(hj:j<R.length):(R.getD j nzr).n<=W:=h.2 j hj (by have:=h.1;omega)
instance (R:List Zr)(N W:Nat):Decidable (Fw R N W):=by unfold Fw;infer_instance
def fwb (R:List Zr)(N W:Nat):Bool:=decide (Fw R N W)
theorem i_e {R:List Zr}{N W:Nat}(h:Fw R N W):fwb R N W=true:=by unfold fwb;exact decide_eq_true h
theorem e_o {R:List Zr}{N W:Nat}(h:¬Fw R N W):fwb R N W=false:=by unfold fwb;exact decide_eq_false h
theorem r_e {R:List Zr}{N W:Nat}(h:fwb R N W=true):Fw R N W:=by unfold fwb at h;exact of_decide_eq_true h
theorem l_3 {A:Option Addr}{n c N W:Nat}{R:List Zr}{b:Bool}{w:World}(hx:RL w A n c R)(hN:N<=1000)(hW':W<=1000)(hb:fwb R N W=b):
  Calls Try.prog 29 #[.slice A n c,.int .i64 (N:Int),.int .i64 (W:Int)] w (fun e w'=>e= .returned (.bool b)/\Below w.heap.size w w'):=by
 have HX0:=Lib.hid hx;have HN:=Lib.hid hx.len;have Hb:=Lib.hid hb;have hnc:=hx.le;have hcm:=hx.cap;clear hx hb;go_enter Try.func29,Try.ntmps29
 go_wp2_with fail
 go_loopw [7] (fun s7 wr=>∃j:Nat,s7= .int .i64 (j:Int)/\j<=n/\Hid (∀i,i<j->(R.getD i nzr).n<=W)/\wr=w) (fun s7 _=>n - (intOf s7).toNat)
 case atStart=>exact⟨0,rfl,Nat.zero_le _,Lib.hid fun i hi=>by omega,rfl⟩
 case round=>
  obtain⟨j,rfl,hj,HE,rfl⟩:=hrel;by_cases hlt:j<n
  ·have u2:(j:Int)<(n:Int):=by omega
   by_cases h100:j<100
   ·have u3:(j:Int)<100:=by omega
    have u1:(0:Int)<=(j:Int):=by omega
    obtain⟨ad,rfl,hab,hc⟩:=HX0.out.at' (by omega);obtain⟨c1,c2⟩:=hc j hlt;obtain⟨x,hx⟩:∃x,R.getD j nzr=x:=⟨_,rfl⟩;rw[hx]at c1 c2;have HX:=Lib.hid hx;clear hc hab hx;by_cases hw:x.n<=W
    ·have u4:¬(W:Int)<(x.n:Int):=by omega
     have HE2:Hid (∀i,i<j+1->(R.getD i nzr).n<=W):=Lib.hid fun i hi=>by
      rcases Nat.lt_or_ge i j with h|h
      ·exact HE.out i h
      ·rw[show i=j by omega,HX.out];exact hw
     clear hw
     go_wp2_with fail
     go_roundw
     case rel=>exact⟨j+1,by go_num,by omega,HE2,trivial⟩
     case measure=>first|(simp[intOf];done)|(simp[intOf];omega)
    ·have u4:(W:Int)<(x.n:Int):=by omega
     have hbf:b=false:=by
      rw[<-Hb.out];exact e_o fun h=>hw (by rw[<-HX.out];exact h.2 j (by rw[HN.out];exact hlt) h100)
     have HBF:=Lib.hid hbf;clear hbf hw
     go_wp2_with fail
     exact bodyPost_ret (v:=.bool false) (by simp[results,Try.results29,go_sem]) rfl ⟨by rw[HBF.out],Below.refl _ _⟩
   ·have u3:¬(j:Int)<100:=by omega
    obtain⟨t,ht⟩:∃t,decide ((n:Int)<=(N:Int))=t:=⟨_,rfl⟩;have hbt:b=t:=by
     rw[<-Hb.out,<-ht];by_cases hnN:n<=N
     ·rw[decide_eq_true (by omega)];exact i_e ⟨by rw[HN.out];exact hnN,fun i hi h1=>HE.out i (by omega)⟩
     ·rw[decide_eq_false (by omega)];exact e_o fun h=>hnN (by have:=h.1;rw[HN.out]at this;exact this)
    have HBT:=Lib.hid hbt;have HTT:=Lib.hid ht;clear hbt ht
    go_wp2_with fail
    exact bodyPost_ret (v:=.bool (decide ((n:Int)<=(N:Int)))) (by simp[results,Try.results29,go_sem]) rfl ⟨by rw[HBT.out,HTT.out],Below.refl _ _⟩
  ·obtain rfl:j=n:=by omega
   have u3:¬(j:Int)<(j:Int):=by omega
   obtain⟨t,ht⟩:∃t,decide ((j:Int)<=(N:Int))=t:=⟨_,rfl⟩;have hbt:b=t:=by
    rw[<-Hb.out,<-ht];by_cases hnN:j<=N
    ·rw[decide_eq_true (by omega)];exact i_e ⟨by rw[HN.out];exact hnN,fun i hi h1=>HE.out i (by rw[HN.out]at hi;exact hi)⟩
    ·rw[decide_eq_false (by omega)];exact e_o fun h=>hnN (by have:=h.1;rw[HN.out]at this;exact this)
   have HBT:=Lib.hid hbt;have HTT:=Lib.hid ht;clear hbt ht
   go_wp2_with fail
   exact bodyPost_ret (v:=.bool (decide ((j:Int)<=(N:Int)))) (by simp[results,Try.results29,go_sem]) rfl ⟨by rw[HBT.out,HTT.out],Below.refl _ _⟩
end
section
open Go.Joins Go.ChangeShapes Go.WideShapes Go.RowKit Go.Deep
section
variable {H:Type}{enc:TypeId × Value->H}{P:Program}{W:World}{base:Nat}{held:Bool}
theorem o_5 {t e:TypeId}{f0 f1:Field}{q:TypeId}{A:Option Addr}{n c:Nat}{d:DataW H}{ps:List MemPlace}(ht:P.underlying t=some (.slice e))(he:P.underlying e=some (.struct #[f0,f1]))(hone:oneCellFields P #[f0,f1]=true)(hC:P.cellsOf e=2)
  (hb:P.underlying f0.type=some .bool) (hs:P.underlying f1.type=some (.slice q)) (hq:P.underlying q=some (.int .u64)) (hc:P.cellsOf q=1)
  (h:DataW.Trod enc P W base (fun _=>true) held t (.slice A n c) d ps) (hlt:∀x∈ps,x.block<W.heap.size):
  ∃R:List Zr,RL W A n c R:=by
 obtain⟨fuel,hf⟩:=h;rcases open_slice ht hf with⟨hcs,hx⟩|⟨a,len,cap,m,n',D,Pl,hcs,hb0,hl,hm,hmm,hx,hi⟩
 ·simp[Value.cells]at hcs;obtain⟨rfl,rfl,rfl⟩:=hcs;exact⟨[],rfl,Nat.le_refl _,by omega,fun h=>by omega,fun x hx=>(by cases hx)⟩
 ·simp[Value.cells]at hcs;obtain⟨rfl,rfl,rfl⟩:=hcs;simp only[if_true]at hmm;subst hmm;rw[hC]at hi hx;have each:∀i,i<m->∃y:Zr,W.cell? (a.add (i*2))=some (.bool y.s)/\W.cell? ⟨(a.add (i*2)).block,(a.add (i*2)).off+1,none⟩=some (.slice y.A y.n y.c)/\Zv W y.s y.A y.n y.c y.z:=by
   intro i him;obtain⟨cs',h1,h2⟩:=hi i him;obtain⟨_,h3,h4⟩:=World.cells?_some h1;obtain⟨xs,n'',_,hy,_,hlen,hg⟩:=DataW.trod_struct he h2;obtain⟨o0,k0⟩:=hone_of hone 0 f0 rfl;obtain⟨o1,k1⟩:=hone_of hone 1 f1 rfl;match cs',h3 with
   | [v0,v1],_=>
    match xs,hlen with
    | [y0,y1],_=>
     have g0:=hg 0 f0 rfl;have g1:=hg 1 f1 rfl;rw[o0,k0]at g0;rw[o1,k1]at g1;simp at g0 g1;have c0:W.cell? (a.add (i*2))=some v0:=by have:=h4 0 (by omega);simpa [Addr.add] using this
     have c1:W.cell? ⟨(a.add (i*2)).block,(a.add (i*2)).off+1,none⟩=some v1:=by have:=h4 1 (by omega);simpa [Addr.add] using this
     simp only[Prod.mk.injEq]at hy;obtain⟨s,hs0,_⟩:=DataW.trod_bool hb g0;have hs0:v0= .bool s:=by simpa using hs0
     subst hs0;rcases open_ints hs hq hc g1 with⟨hcs,hz⟩|⟨x,l,c,zs,hcs,_,hl',hm',hz,hdat,hcell,hwz⟩
     ·have hcs:v1= .slice none 0 0:=by simpa using hcs
      subst hcs;obtain⟨v,hv⟩:=(show IsRow .u64 W none 0 0 []from .inl ⟨rfl,rfl,rfl,rfl⟩).nv;exact⟨⟨s,none,0,0,sg s v⟩,c0,c1,⟨v,hv,Lib.hid rfl⟩⟩
     ·have hcs:v1= .slice (some x) l c:=by simpa using hcs
      subst hcs;obtain⟨v,hv⟩:=(show IsRow .u64 W (some x) l c zs from .inr ⟨_,rfl,hl',hm',by simpa using hz,hcell,hwz⟩).nv;exact⟨⟨s,some x,l,c,sg s v⟩,c0,c1,⟨v,hv,Lib.hid rfl⟩⟩
  haveI:Inhabited Zr:=⟨nzr⟩
  obtain⟨y,hy⟩:=choose_lt each;have hg:∀j,j<n->((List.range n).map y).getD j nzr=y j:=fun j hj=>by simp[List.getD,hj]
  refine⟨(List.range n).map y,by simp,(by first|omega|(simp only[maxLen]at*;omega)),(by first|omega|(simp only[maxLen]at*;omega)),fun h0=>⟨a,rfl, ?_,fun j hj=>?_⟩,fun x hx=>?_⟩
  ·have h1:=(hy 0 (by omega)).1
   have:=World.block_lt_of_cell? W _ h1;rwa [a_a]at this
  ·rw[hg j hj]
   have:=hy j (by omega);exact⟨this.1,this.2.1⟩
  ·obtain⟨j,hj,rfl⟩:=List.mem_map.1 hx;exact(hy j (by have:=List.mem_range.1 hj;omega)).2.2
end
end
section
open Go.Joins Go.ChangeShapes Go.WideShapes Go.RowKit Go.Deep
section
variable {H:Type}{enc:TypeId × Value->H}{P:Program}{W:World}{base:Nat}{held:Bool}
theorem d_b {r:Reach}{b0:Nat}{t e:TypeId}{f0 f1 f2 g0 g1:Field}{q:TypeId}{v:Value}{d:DataW H}{ps:List MemPlace}(ht:P.underlying t=some (.struct #[f0,f1,f2]))(hone:oneCellFields P #[f0,f1,f2]=true)(hC:P.cellsOf t=3)
  (h0:P.underlying f0.type=some (.int .i64)) (h1:P.underlying f1.type=some (.int .i64)) (h2:P.underlying f2.type=some (.slice e)) (he:P.underlying e=some (.struct #[g0,g1])) (hone2:oneCellFields P #[g0,g1]=true) (hC2:P.cellsOf e=2)
  (hb:P.underlying g0.type=some .bool) (hs:P.underlying g1.type=some (.slice q)) (hq:P.underlying q=some (.int .u64)) (hc:P.cellsOf q=1)
  (hv:Value.okWide P W r b0 t v) (h:DataW.Trod enc P W base (fun _=>true) held t v d ps) (hlt:∀x∈ps,x.block<W.heap.size):
  ∃(x y:Int) (A:Option Addr) (n c:Nat) (R:List Zr),v= .agg #[.int .i64 x,.int .i64 y,.slice A n c]/\RL W A n c R:=by
 obtain⟨v0,v1,v2,y0,y1,y2,m,rfl,_,hp,k0,k1,k2⟩:=open_agg3 ht hone hC hv h;obtain⟨x,hx,_,_⟩:=DataW.trod_int h0 k0;obtain⟨y,hy,_,_⟩:=DataW.trod_int h1 k1;have hl2:∀x∈y2.2,x.block<W.heap.size:=fun x hx=>hlt x (by rw[hp];simp[hx]);have hsl:∃A n c,v2= .slice A n c:=by
  rcases open_slice h2 k2 with⟨hcs,_⟩|⟨a,len,cap,m,n',D,Pl,hcs,_⟩
  ·exact⟨none,0,0,by simpa using hcs⟩
  ·exact⟨some a,len,cap,by simpa using hcs⟩
 obtain⟨A,n,c,rfl⟩:=hsl;obtain⟨R,hR⟩:=o_5 (d:=y2.1) (ps:=y2.2) h2 he hone2 hC2 hb hs hq hc ⟨m,by simpa [Value.cells] using k2⟩ hl2;simp at hx hy;subst hx hy;exact⟨x,y,A,n,c,R,rfl,hR⟩
end
end
section
open Go.RowKit
def NWd (u:Value):Prop:=∀m:Int,u≠ .int .u64 m
section
variable {P:Program}(w:World)
end
structure Grew (w w':World) (v v':Value):Prop where
 by':w.grownBy w' v.ownBlock
 now:∀g,v.ownBlock=some g->Wless w g
 to':v'.ownBlock=v.ownBlock\/v'.ownBlock=some w.heap.size
theorem Grew.zc {w w':World}{v v':Value}(h:Grew w w' v v'){s:Bool}{A:Option Addr}{n c:Nat}{y:Int}(hy:Zc w s A n c y):Zc w' s A n c y:=by
 have h6:=h.by';cases hvb:v.ownBlock with
 |none=>rw[hvb]at h6;exact hy.below ⟨h6.os,h6.tape,h6.output,h6.size,fun k hk=>h6.block k hk (by simp)⟩
 |some g=>rw[hvb]at h6;exact hy.gro (h.now g hvb) h6
end
section
open Go.RowKit
structure Shut (p:Prop):Prop where
 out:p
end
end Go.Proofs.Ytlgjjnmmepgafaa
