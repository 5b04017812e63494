/- Pc07 -/
import Derived.Test.YtfhbdlegkdbmfaaGreatPc06
import Derived.Test.YtfhbdlegkdbmfaaGreatRows
import Derived.Lib.SmallJoins
import Derived.ChangeSlices
import Derived.Deep.Slices
import Derived.Deep.Fields
import Derived.Deep.Matrix
import Derived.Laws.AppendOwn
import Derived.Lib.Hide
set_option linter.unusedVariables false
set_option linter.unusedSimpArgs false
set_option linter.unusedSectionVars false
set_option maxRecDepth 100000
set_option maxHeartbeats 8000000
namespace Go.Proofs.YtfhbdlegkdbmfaaGreat
section
open Go.RowKit
structure Zr where
 s:Bool
 A:Option Addr
 n:Nat
 c:Nat
 z:Int
def nzr:Zr:=⟨false,none,0,0,0⟩
structure RL (w:World) (A:Option Addr) (n c:Nat) (R:List Zr):Prop where
 len:R.length=n
 le:n<=c
 cap:c<=9223372036854775807
 at':0<n->∃ad,A=some ad/\ad.block<w.heap.size/\∀j,j<n->w.cell? (ad.add (j*2))=some (.bool (R.getD j nzr).s)/\w.cell? ⟨(ad.add (j*2)).block,(ad.add (j*2)).off+1,none⟩=some (.slice (R.getD j nzr).A (R.getD j nzr).n (R.getD j nzr).c)
 num:∀x,x∈R->Zv w x.s x.A x.n x.c x.z
theorem RL.below {w w':World}{A:Option Addr}{n c:Nat}{R:List Zr}(h:RL w A n c R)(hb:Below w.heap.size w w'):RL w' A n c R:=⟨h.len,h.le,h.cap,fun h0=>by
 obtain⟨ad,rfl,h1,h2⟩:=h.at' h0;exact⟨ad,rfl,Nat.lt_of_lt_of_le h1 hb.size,fun j hj=>⟨(hb.cell (by rw[a_b];exact h1)).trans (h2 j hj).1,(hb.cell (p:=⟨(ad.add (j*2)).block,(ad.add (j*2)).off+1,none⟩) (by show(ad.add (j*2)).block<_;rw[a_b];exact h1)).trans (h2 j hj).2⟩⟩,fun x hx=>(h.num x hx).below hb⟩
def nums (R:List Zr):List Int:=R.map (·.z)
theorem RL.zl {w:World}{A:Option Addr}{n c k:Nat}{R:List Zr}(h:RL w A n c R)(hk:∀j,j<n->(R.getD j nzr).n<=k):ZL false w A n c k (nums R):=⟨by unfold nums;rw[List.length_map];exact h.len,h.le,h.cap,fun h0=>by
 obtain⟨ad,rfl,h1,h2⟩:=h.at' h0;refine⟨ad,rfl,h1,fun j hj=>?_⟩;have hl:j<R.length:=by rw[h.len];exact hj
 have e:R.getD j nzr=R[j]:=by simp[List.getD,hl]
 have e2:ith (nums R) j=R[j].z:=by simp[ith,nums,List.getD,hl]
 obtain⟨c1,c2⟩:=h2 j hj;refine⟨_,_,_,_,c1,c2,⟨?_,fun e=>nomatch e⟩,hk j hj⟩;rw[e,e2];exact h.num _ (List.getElem_mem hl)⟩
def Fw (R:List Zr)(N W:Nat):Prop:=R.length<=N/\∀j,j<R.length->j<100->(R.getD j nzr).n<=W
theorem r_w {R:List Zr}{N W:Nat}(h:Fw R N W)(hN:N<=100)(j:Nat)(hj:j<R.length):(R.getD j nzr).n<=W:=h.2 j hj (by have:=h.1;omega)
instance (R:List Zr)(N W:Nat):Decidable (Fw R N W):=by unfold Fw;infer_instance
def fwb (R:List Zr)(N W:Nat):Bool:=decide (Fw R N W)
theorem i_n {R:List Zr}{N W:Nat}(h:Fw R N W):fwb R N W=true:=by unfold fwb;exact decide_eq_true h
theorem e_m {R:List Zr}{N W:Nat}(h:¬Fw R N W):fwb R N W=false:=by unfold fwb;exact decide_eq_false h
theorem r_e {R:List Zr}{N W:Nat}(h:fwb R N W=true):Fw R N W:=by unfold fwb at h;exact of_decide_eq_true h
theorem m_l {A:Option Addr}{n c N W:Nat}{R:List Zr}{b:Bool}{w:World}(hx:RL w A n c R)(hN:N<=1000)(hW':W<=1000)(hb:fwb R N W=b):
  Calls Tryz.prog 42 #[.slice A n c,.int .i64 (N:Int),.int .i64 (W:Int)] w (fun e w'=>e= .returned (.bool b)/\Below w.heap.size w w'):=by
 have HX0:=Lib.hid hx;have HN:=Lib.hid hx.len;have Hb:=Lib.hid hb;have hnc:=hx.le;have hcm:=hx.cap;clear hx hb;go_enter Tryz.func42,Tryz.ntmps42
 go_wp2_with fail
 go_loopw [7] (fun s7 wr=>∃j:Nat,s7= .int .i64 (j:Int)/\j<=n/\Hid (∀i,i<j->(R.getD i nzr).n<=W)/\wr=w) (fun s7 _=>n - (intOf s7).toNat)
 case atStart=>exact⟨0,rfl,Nat.zero_le _,Lib.hid fun i hi=>by omega,rfl⟩
 case round=>
  obtain⟨j,rfl,hj,HE,rfl⟩:=hrel;by_cases hlt:j<n
  ·have u2:(j:Int)<(n:Int):=by omega
   by_cases h100:j<100
   ·have u3:(j:Int)<100:=by omega
    have u1:(0:Int)<=(j:Int):=by omega
    obtain⟨ad,rfl,hab,hc⟩:=HX0.out.at' (by omega);obtain⟨c1,c2⟩:=hc j hlt;obtain⟨x,hx⟩:∃x,R.getD j nzr=x:=⟨_,rfl⟩;rw[hx]at c1 c2;have HX:=Lib.hid hx;clear hc hab hx;by_cases hw:x.n<=W
    ·have u4:¬(W:Int)<(x.n:Int):=by omega
     have HE2:Hid (∀i,i<j+1->(R.getD i nzr).n<=W):=Lib.hid fun i hi=>by
      rcases Nat.lt_or_ge i j with h|h
      ·exact HE.out i h
      ·rw[show i=j by omega,HX.out];exact hw
     clear hw
     go_wp2_with fail
     go_roundw
     case rel=>exact⟨j+1,by go_num,by omega,HE2,trivial⟩
     case measure=>first|(simp[intOf];done)|(simp[intOf];omega)
    ·have u4:(W:Int)<(x.n:Int):=by omega
     have hbf:b=false:=by
      rw[<-Hb.out];exact e_m fun h=>hw (by rw[<-HX.out];exact h.2 j (by rw[HN.out];exact hlt) h100)
     have HBF:=Lib.hid hbf;clear hbf hw
     go_wp2_with fail
     exact bodyPost_ret (v:=.bool false) (by simp[results,Tryz.results42,go_sem]) rfl ⟨by rw[HBF.out],Below.refl _ _⟩
   ·have u3:¬(j:Int)<100:=by omega
    obtain⟨t,ht⟩:∃t,decide ((n:Int)<=(N:Int))=t:=⟨_,rfl⟩;have hbt:b=t:=by
     rw[<-Hb.out,<-ht];by_cases hnN:n<=N
     ·rw[decide_eq_true (by omega)];exact i_n ⟨by rw[HN.out];exact hnN,fun i hi h1=>HE.out i (by omega)⟩
     ·rw[decide_eq_false (by omega)];exact e_m fun h=>hnN (by have:=h.1;rw[HN.out]at this;exact this)
    have HBT:=Lib.hid hbt;have HTT:=Lib.hid ht;clear hbt ht
    go_wp2_with fail
    exact bodyPost_ret (v:=.bool (decide ((n:Int)<=(N:Int)))) (by simp[results,Tryz.results42,go_sem]) rfl ⟨by rw[HBT.out,HTT.out],Below.refl _ _⟩
  ·obtain rfl:j=n:=by omega
   have u3:¬(j:Int)<(j:Int):=by omega
   obtain⟨t,ht⟩:∃t,decide ((j:Int)<=(N:Int))=t:=⟨_,rfl⟩;have hbt:b=t:=by
    rw[<-Hb.out,<-ht];by_cases hnN:j<=N
    ·rw[decide_eq_true (by omega)];exact i_n ⟨by rw[HN.out];exact hnN,fun i hi h1=>HE.out i (by rw[HN.out]at hi;exact hi)⟩
    ·rw[decide_eq_false (by omega)];exact e_m fun h=>hnN (by have:=h.1;rw[HN.out]at this;exact this)
   have HBT:=Lib.hid hbt;have HTT:=Lib.hid ht;clear hbt ht
   go_wp2_with fail
   exact bodyPost_ret (v:=.bool (decide ((j:Int)<=(N:Int)))) (by simp[results,Tryz.results42,go_sem]) rfl ⟨by rw[HBT.out,HTT.out],Below.refl _ _⟩
end
section
open Go.Joins Go.ChangeShapes Go.WideShapes Go.RowKit Go.Deep
section
variable {H:Type}{enc:TypeId × Value->H}{P:Program}{W:World}{base:Nat}{held:Bool}
theorem k_q {t e:TypeId}{f0 f1:Field}{q:TypeId}{A:Option Addr}{n c:Nat}{d:DataW H}{ps:List MemPlace}(ht:P.underlying t=some (.slice e))(he:P.underlying e=some (.struct #[f0,f1]))(hone:oneCellFields P #[f0,f1]=true)(hC:P.cellsOf e=2)
  (hb:P.underlying f0.type=some .bool) (hs:P.underlying f1.type=some (.slice q)) (hq:P.underlying q=some (.int .u64)) (hc:P.cellsOf q=1)
  (h:DataW.Trod enc P W base (fun _=>true) held t (.slice A n c) d ps) (hlt:∀x∈ps,x.block<W.heap.size):
  ∃R:List Zr,RL W A n c R:=by
 obtain⟨fuel,hf⟩:=h;rcases open_slice ht hf with⟨hcs,hx⟩|⟨a,len,cap,m,n',D,Pl,hcs,hb0,hl,hm,hmm,hx,hi⟩
 ·simp[Value.cells]at hcs;obtain⟨rfl,rfl,rfl⟩:=hcs;exact⟨[],rfl,Nat.le_refl _,by omega,fun h=>by omega,fun x hx=>(by cases hx)⟩
 ·simp[Value.cells]at hcs;obtain⟨rfl,rfl,rfl⟩:=hcs;simp only[if_true]at hmm;subst hmm;rw[hC]at hi hx;have each:∀i,i<m->∃y:Zr,W.cell? (a.add (i*2))=some (.bool y.s)/\W.cell? ⟨(a.add (i*2)).block,(a.add (i*2)).off+1,none⟩=some (.slice y.A y.n y.c)/\Zv W y.s y.A y.n y.c y.z:=by
   intro i him;obtain⟨cs',h1,h2⟩:=hi i him;obtain⟨_,h3,h4⟩:=World.cells?_some h1;obtain⟨xs,n'',_,hy,_,hlen,hg⟩:=DataW.trod_struct he h2;obtain⟨o0,k0⟩:=hone_of hone 0 f0 rfl;obtain⟨o1,k1⟩:=hone_of hone 1 f1 rfl;match cs',h3 with
   | [v0,v1],_=>
    match xs,hlen with
    | [y0,y1],_=>
     have g0:=hg 0 f0 rfl;have g1:=hg 1 f1 rfl;rw[o0,k0]at g0;rw[o1,k1]at g1;simp at g0 g1;have c0:W.cell? (a.add (i*2))=some v0:=by have:=h4 0 (by omega);simpa [Addr.add] using this
     have c1:W.cell? ⟨(a.add (i*2)).block,(a.add (i*2)).off+1,none⟩=some v1:=by have:=h4 1 (by omega);simpa [Addr.add] using this
     simp only[Prod.mk.injEq]at hy;obtain⟨s,hs0,_⟩:=DataW.trod_bool hb g0;have hs0:v0= .bool s:=by simpa using hs0
     subst hs0;rcases open_ints hs hq hc g1 with⟨hcs,hz⟩|⟨x,l,c,zs,hcs,_,hl',hm',hz,hdat,hcell,hwz⟩
     ·have hcs:v1= .slice none 0 0:=by simpa using hcs
      subst hcs;obtain⟨v,hv⟩:=(show IsRow .u64 W none 0 0 []from .inl ⟨rfl,rfl,rfl,rfl⟩).nv;exact⟨⟨s,none,0,0,sg s v⟩,c0,c1,⟨v,hv,Lib.hid rfl⟩⟩
     ·have hcs:v1= .slice (some x) l c:=by simpa using hcs
      subst hcs;obtain⟨v,hv⟩:=(show IsRow .u64 W (some x) l c zs from .inr ⟨_,rfl,hl',hm',by simpa using hz,hcell,hwz⟩).nv;exact⟨⟨s,some x,l,c,sg s v⟩,c0,c1,⟨v,hv,Lib.hid rfl⟩⟩
  haveI:Inhabited Zr:=⟨nzr⟩
  obtain⟨y,hy⟩:=choose_lt each;have hg:∀j,j<n->((List.range n).map y).getD j nzr=y j:=fun j hj=>by simp[List.getD,hj]
  refine⟨(List.range n).map y,by simp,(by first|omega|(simp only[maxLen]at*;omega)),(by first|omega|(simp only[maxLen]at*;omega)),fun h0=>⟨a,rfl, ?_,fun j hj=>?_⟩,fun x hx=>?_⟩
  ·have h1:=(hy 0 (by omega)).1
   have:=World.block_lt_of_cell? W _ h1;rwa [a_b]at this
  ·rw[hg j hj]
   have:=hy j (by omega);exact⟨this.1,this.2.1⟩
  ·obtain⟨j,hj,rfl⟩:=List.mem_map.1 hx;exact(hy j (by have:=List.mem_range.1 hj;omega)).2.2
end
end
section
open Go.Joins Go.ChangeShapes Go.WideShapes Go.RowKit Go.Deep
section
variable {H:Type}{enc:TypeId × Value->H}{P:Program}{W:World}{base:Nat}{held:Bool}
theorem m_p {r:Reach}{b0:Nat}{t e:TypeId}{f0 f1 f2 g0 g1:Field}{q:TypeId}{v:Value}{d:DataW H}{ps:List MemPlace}(ht:P.underlying t=some (.struct #[f0,f1,f2]))(hone:oneCellFields P #[f0,f1,f2]=true)(hC:P.cellsOf t=3)
  (h0:P.underlying f0.type=some (.int .i64)) (h1:P.underlying f1.type=some (.int .i64)) (h2:P.underlying f2.type=some (.slice e)) (he:P.underlying e=some (.struct #[g0,g1])) (hone2:oneCellFields P #[g0,g1]=true) (hC2:P.cellsOf e=2)
  (hb:P.underlying g0.type=some .bool) (hs:P.underlying g1.type=some (.slice q)) (hq:P.underlying q=some (.int .u64)) (hc:P.cellsOf q=1)
  (hv:Value.okWide P W r b0 t v) (h:DataW.Trod enc P W base (fun _=>true) held t v d ps) (hlt:∀x∈ps,x.block<W.heap.size):
  ∃(x y:Int) (A:Option Addr) (n c:Nat) (R:List Zr),v= .agg #[.int .i64 x,.int .i64 y,.slice A n c]/\RL W A n c R:=by
 obtain⟨v0,v1,v2,y0,y1,y2,m,rfl,_,hp,k0,k1,k2⟩:=open_agg3 ht hone hC hv h;obtain⟨x,hx,_,_⟩:=DataW.trod_int h0 k0;obtain⟨y,hy,_,_⟩:=DataW.trod_int h1 k1;have hl2:∀x∈y2.2,x.block<W.heap.size:=fun x hx=>hlt x (by rw[hp];simp[hx]);have hsl:∃A n c,v2= .slice A n c:=by
  rcases open_slice h2 k2 with⟨hcs,_⟩|⟨a,len,cap,m,n',D,Pl,hcs,_⟩
  ·exact⟨none,0,0,by simpa using hcs⟩
  ·exact⟨some a,len,cap,by simpa using hcs⟩
 obtain⟨A,n,c,rfl⟩:=hsl;obtain⟨R,hR⟩:=k_q (d:=y2.1) (ps:=y2.2) h2 he hone2 hC2 hb hs hq hc ⟨m,by simpa [Value.cells] using k2⟩ hl2;simp at hx hy;subst hx hy;exact⟨x,y,A,n,c,R,rfl,hR⟩
end
end
section
open Go.Joins Go.ChangeShapes Go.WideShapes Go.RowKit Go.Deep
theorem e_x {H:Type}{k:IntKind}:∀zs:List Int,Rows.uptoBulkAll (H:=H) (lits k zs)=zs.length
 | []=>by simp[lits,Rows.uptoBulkAll]
 |z::zs=>by
  have:=e_x (H:=H) (k:=k) zs;simp only[lits,List.map_cons,Rows.uptoBulkAll,Rows.uptoBulk,List.length_cons]at this ⊢;omega
theorem i_w {H:Type}(D:Nat->DataW H){i:Nat}:∀l:List Nat,i∈l->Rows.uptoBulk (D i)<=Rows.uptoBulkAll (l.map D)
 | [],h=>by cases h
 |j::l,h=>by
  simp only[List.map_cons,Rows.uptoBulkAll];rcases List.mem_cons.1 h with e|e
  ·subst e;omega
  ·have:=i_w D l e;omega
section
variable {H:Type}{enc:TypeId × Value->H}{P:Program}{W:World}{base:Nat}{held:Bool}
theorem m_o {t e:TypeId}{f0 f1:Field}{q:TypeId}{A:Option Addr}{n c:Nat}{d:DataW H}{ps:List MemPlace}(ht:P.underlying t=some (.slice e))(he:P.underlying e=some (.struct #[f0,f1]))(hone:oneCellFields P #[f0,f1]=true)(hC:P.cellsOf e=2)
  (hb:P.underlying f0.type=some .bool) (hs:P.underlying f1.type=some (.slice q)) (hq:P.underlying q=some (.int .u64)) (hc:P.cellsOf q=1)
  (h:DataW.Trod enc P W base (fun _=>true) held t (.slice A n c) d ps) (hlt:∀x∈ps,x.block<W.heap.size):
  ∃R:List Zr,RL W A n c R/\∀j,j<n->(R.getD j nzr).n<=Rows.uptoBulk d:=by
 obtain⟨fuel,hf⟩:=h;rcases open_slice ht hf with⟨hcs,hx⟩|⟨a,len,cap,m,n',D,Pl,hcs,hb0,hl,hm,hmm,hx,hi⟩
 ·simp[Value.cells]at hcs;obtain⟨rfl,rfl,rfl⟩:=hcs;exact⟨[],⟨rfl,Nat.le_refl _,by omega,fun h=>by omega,fun x hx=>(by cases hx)⟩,fun j hj=>by omega⟩
 ·simp[Value.cells]at hcs;obtain⟨rfl,rfl,rfl⟩:=hcs;simp only[if_true]at hmm;subst hmm;rw[hC]at hi hx;have each:∀i,i<m->∃y:Zr,W.cell? (a.add (i*2))=some (.bool y.s)/\W.cell? ⟨(a.add (i*2)).block,(a.add (i*2)).off+1,none⟩=some (.slice y.A y.n y.c)/\Zv W y.s y.A y.n y.c y.z/\y.n<=Rows.uptoBulk (D i):=by
   intro i him;obtain⟨cs',h1,h2⟩:=hi i him;obtain⟨_,h3,h4⟩:=World.cells?_some h1;obtain⟨xs,n'',_,hy,_,hlen,hg⟩:=DataW.trod_struct he h2;obtain⟨o0,k0⟩:=hone_of hone 0 f0 rfl;obtain⟨o1,k1⟩:=hone_of hone 1 f1 rfl;match cs',h3 with
   | [v0,v1],_=>
    match xs,hlen with
    | [y0,y1],_=>
     have g0:=hg 0 f0 rfl;have g1:=hg 1 f1 rfl;rw[o0,k0]at g0;rw[o1,k1]at g1;simp at g0 g1;have c0:W.cell? (a.add (i*2))=some v0:=by have:=h4 0 (by omega);simpa [Addr.add] using this
     have c1:W.cell? ⟨(a.add (i*2)).block,(a.add (i*2)).off+1,none⟩=some v1:=by have:=h4 1 (by omega);simpa [Addr.add] using this
     simp only[Prod.mk.injEq]at hy;obtain⟨s,hs0,_⟩:=DataW.trod_bool hb g0;have hs0:v0= .bool s:=by simpa using hs0
     subst hs0;rcases open_ints hs hq hc g1 with⟨hcs,hz⟩|⟨x,l,c,zs,hcs,_,hl',hm',hz,hdat,hcell,hwz⟩
     ·have hcs:v1= .slice none 0 0:=by simpa using hcs
      subst hcs;obtain⟨v,hv⟩:=(show IsRow .u64 W none 0 0 []from .inl ⟨rfl,rfl,rfl,rfl⟩).nv;exact⟨⟨s,none,0,0,sg s v⟩,c0,c1,⟨v,hv,Lib.hid rfl⟩,Nat.zero_le _⟩
     ·have hcs:v1= .slice (some x) l c:=by simpa using hcs
      subst hcs;obtain⟨v,hv⟩:=(show IsRow .u64 W (some x) l c zs from .inr ⟨_,rfl,hl',hm',by simpa using hz,hcell,hwz⟩).nv;refine⟨⟨s,some x,l,c,sg s v⟩,c0,c1,⟨v,hv,Lib.hid rfl⟩, ?_⟩;show l<=_
      rw[hy.1];simp only[List.map_cons,List.map_nil,Rows.uptoBulk,Rows.uptoBulkAll];rw[hdat];simp only[Rows.uptoBulk];rw[e_x];simp only[if_true]at hz;have:(zs.take l).length=l:=by simp;omega
      omega
  haveI:Inhabited Zr:=⟨nzr⟩
  obtain⟨y,hy⟩:=choose_lt each;have hg:∀j,j<n->((List.range n).map y).getD j nzr=y j:=fun j hj=>by simp[List.getD,hj]
  refine⟨(List.range n).map y,⟨by simp,(by first|omega|(simp only[maxLen]at*;omega)),(by first|omega|(simp only[maxLen]at*;omega)),fun h0=>⟨a,rfl, ?_,fun j hj=>?_⟩,fun x hx=>?_⟩,fun j hj=>?_⟩
  ·have h1:=(hy 0 (by omega)).1
   have:=World.block_lt_of_cell? W _ h1;rwa [a_b]at this
  ·rw[hg j hj]
   have:=hy j (by omega);exact⟨this.1,this.2.1⟩
  ·obtain⟨j,hj,rfl⟩:=List.mem_map.1 hx;exact(hy j (by have:=List.mem_range.1 hj;omega)).2.2.1
  ·rw[hg j hj];simp only[Prod.mk.injEq]at hx;rw[hx.1];simp only[Rows.uptoBulk];have h1:=(hy j (by omega)).2.2.2;have h2:=i_w D (List.range n) (List.mem_range.2 hj);omega
end
end
section
open Go.RowKit
def NWd (u:Value):Prop:=∀m:Int,u≠ .int .u64 m
def OwnN (w:World)(base:Nat)(e:TypeId)(v:Value)(n:Nat)(xs:List Value):Prop:=
 w.ownsRow base e 2 v n xs/\∀g cs,v.ownBlock=some g->w.heap[g]? =some (.cells cs e (0,0))->∀u,u∈cs.toList->NWd u
theorem OwnN.wless {w:World}{base g:Nat}{e:TypeId}{v:Value}{n:Nat}{xs:List Value}(h:OwnN w base e v n xs)(hg:v.ownBlock=some g):Wless w g:=fun p m hp hc=>by
 rcases h.1.2 with⟨rfl,_⟩|⟨g',cap,cur,rfl,hb,hh,_⟩
 ·cases hg
 ·have e':g'=g:=by simpa [Value.ownBlock] using hg
  subst e';have e2:cur[p.off]? =some (.int .u64 m):=by
   unfold World.cell? at hc;rw[hp,hh]at hc;exact(by simpa using hc:p.spot=none/\cur[p.off]? =some (.int .u64 m)).2
  exact h.2 g' cur hg hh (.int .u64 m) (by rw[<-Array.getElem?_toList]at e2;exact List.mem_of_getElem? e2) m rfl
theorem l_0 {z:Array Value}(hs:z.size=2)(hz:∀u,u∈z.toList->NWd u)(k:Nat)(u:Value)(hu:u∈(Builtin.zeroCells z k).toList):NWd u:=by
 unfold Builtin.zeroCells at hu;rw[Array.toList_map,List.mem_map]at hu;obtain⟨i,hi,rfl⟩:=hu;have hlt:i%z.size<z.size:=Nat.mod_lt _ (by omega);rw[getElem!_pos z _ hlt];exact hz _ (Array.getElem_mem_toList hlt)
section
variable {P:Program}(w:World)
theorem d_u (base:Nat)(t ty e:TypeId)(i:TypeInfo)(z:Value)(bytes:Nat)(ht:P.underlying t=some (.slice e))(hi:P.info? e=some i)(hz:i.zero=some z)
  (hsize:i.size=2) (hby:i.bytes=bytes) (hzs:z.cells.size=2) (hzn:∀u,u∈z.cells.toList->NWd u)
  (v:Value) (n:Nat) (xs:List Value) (hown:OwnN w base e v n xs)
  (a:Addr) (c:Nat) (news:List Value) (hl:news.length=2) (hnews:∀j u,news[j]? =some u->w.cell? (a.add j)=some u) (h1:∀u∈news,u.oneCell'=true) (hn:∀u,u∈news->NWd u)
  (h63:n+1<=maxLen) (hbytes:(n+1)*bytes<=140737488355328) (hbase:base<=w.heap.size):
  ∃v' w',(Builtin.append_ #[t,t] ty #[v,.slice (some a) 1 c]).run P w= .ok v' w'/\OwnN w' base e v' (n+1) (xs++news)/\w.grownBy w' v.ownBlock/\(v'.ownBlock=v.ownBlock\/v'.ownBlock=some w.heap.size):=by
 obtain⟨v',w',hr,ho,hg,-⟩:=run_append_own (P:=P) w base t ty e i z 2 bytes ht hi hz hsize hby hzs (by omega) v n xs hown.1 a 1 c news (by omega) hnews h1 h63 hbytes hbase;suffices H:(∀g cs,v'.ownBlock=some g->w'.heap[g]? =some (.cells cs e (0,0))->∀u,u∈cs.toList->NWd u)/\(v'.ownBlock=v.ownBlock\/v'.ownBlock=some w.heap.size)from⟨v',w',hr,⟨ho,H.1⟩,hg,H.2⟩
 have hsmall:n+1<=9223372036854775807:=by simp only[maxLen]at h63;omega
 have zz:=l_0 hzs hzn;have fresh:∀(ys:List Value) (k:Nat) (cap:Nat),(∀u,u∈ys->NWd u)->v'= .slice (some ⟨w.heap.size,0,none⟩) (n+1) cap->w'=w.drew.alloc (.cells (ys.toArray++news.toArray++Builtin.zeroCells z.cells k) e)->
   ∀g cs,v'.ownBlock=some g->w'.heap[g]? =some (.cells cs e (0,0))->∀u,u∈cs.toList->NWd u:=fun ys k cap hys e1 e2 g cs h2 h3 u hu=>by
  subst e1 e2;have e3:w.heap.size=g:=by simpa [Value.ownBlock] using h2
  subst e3;have h9:(w.drew.alloc (.cells (ys.toArray++news.toArray++Builtin.zeroCells z.cells k) e)).heap[w.heap.size]? =some (.cells (ys.toArray++news.toArray++Builtin.zeroCells z.cells k) e (0,0)):=heap_alloc_new w.drew _;rw[h9]at h3;injection h3 with e4
  injection e4 with e5
  subst e5;simp only[Array.toList_append,List.mem_append]at hu;rcases hu with(hu|hu)|hu
  ·exact hys u hu
  ·exact hn u hu
  ·exact zz k u hu
 rcases hown.1.2 with⟨rfl,rfl⟩|⟨g,cap,cur,rfl,hbg,hh,hnc,hcm,hcs,htake⟩
 ·have hr2:=Go.run_append_nil (P:=P) w t ty e i z ht hi hz a 1 c news (by omega) hnews (by omega) (by omega) (by simp only[Nat.zero_add]at hbytes;omega);rw[hr]at hr2;injection hr2 with e1 e2
  exact⟨fresh [] (grownCap w 1 0 e - 1) (grownCap w 1 0 e) (fun u hu=>nomatch hu) e1 (by rw[e2];simp),.inr (by rw[e1];rfl)⟩
 ·have hcur:∀u,u∈cur.toList->NWd u:=hown.2 g cur rfl hh;have hxs:∀u,u∈xs->NWd u:=fun u hu=>hcur u (by rw[<-htake]at hu;exact List.mem_of_mem_take hu);by_cases hroom:n+1<=cap
  ·have hfit:n*i.size+news.length<=cur.size:=by rw[hl,hcs,hsize];omega
   have hr2:=run_append_room (P:=P) w t ty e i ht hi g n cap cur hh a 1 c news (by omega) hnews h1 hroom hfit;rw[hr]at hr2;injection hr2 with e1 e2
   refine⟨?_,.inl (by rw[e1];rfl)⟩;intro g' cs h2 h3 u hu;subst e1 e2;have e3:g=g':=by simpa [Value.ownBlock] using h2
   subst e3;rw[setRow_heap w g cur _ e _ hh]at h3;injection h3 with e4
   injection e4 with e5
   subst e5;simp only[List.mem_append]at hu;rcases hu with(hu|hu)|hu
   ·exact hcur u (List.mem_of_mem_take hu)
   ·exact hn u hu
   ·exact hcur u (List.mem_of_mem_drop hu)
  ·have holds:∀j u,xs[j]? =some u->w.cell? ((⟨g,0,none⟩:Addr).add j)=some u:=hown.1.cells (g:=g) rfl;have hr2:=run_append_grow (P:=P) w t ty e i z ht hi hz ⟨g,0,none⟩ n cap xs (by rw[hown.1.1,hsize]) holds a 1 c news (by omega) hnews (by omega) (by omega) (growslice_fits (by omega) (by rw[hby];exact hbytes));rw[hr]at hr2;injection hr2 with e1 e2
   exact⟨fresh xs _ _ hxs e1 e2,.inr (by rw[e1];rfl)⟩
end
structure OwnZ (w0 w:World) (k:Nat) (v:Value) (zs:List Int):Prop where
 row:∃vs:List Value,OwnN w w0.heap.size 31 v zs.length vs/\∀j,j<zs.length->∃s A n c,vs[j*2]? =some (.bool s)/\vs[j*2+1]? =some (.slice A n c)/\Zc w s A n c (ith zs j)/\n<=k
 old:Below w0.heap.size w0 w
theorem OwnZ.nil (w:World)(k:Nat):OwnZ w w k (.slice none 0 0) []:=⟨⟨[],⟨World.ownsRow_nil w _ _ _,fun g cs h=>nomatch h⟩,fun j hj=>by simp at hj⟩,Below.refl _ _⟩
theorem OwnZ.below {w0 w w':World}{k:Nat}{v:Value}{zs:List Int}(h:OwnZ w0 w k v zs)(hb:Below w.heap.size w w'):OwnZ w0 w' k v zs:=by
 obtain⟨⟨vs,⟨h1,h2⟩,h3⟩,h4⟩:=h;refine⟨⟨vs,⟨h1.kept (row:=none) ⟨hb.os,hb.tape,hb.output,hb.size,fun k hk _=>hb.block k hk⟩ (by cases hv:v.ownBlock<;>simp),fun g cs hg hc=>h2 g cs hg ?_⟩,fun j hj=>?_⟩,h4.trans (hb.mono h4.size)⟩
 ·rw[<-hb.block g (h1.lt g hg).2];exact hc
 ·obtain⟨s,A,n,c,c1,c2,c3,c4⟩:=h3 j hj;exact⟨s,A,n,c,c1,c2,c3.below hb,c4⟩
theorem OwnZ.form {w0 w:World}{k:Nat}{v:Value}{zs:List Int}(h:OwnZ w0 w k v zs):∃A c,v= .slice A zs.length c/\∀q,ZL q w A zs.length c k zs:=by
 obtain⟨⟨vs,⟨h1,h2⟩,h3⟩,h4⟩:=h;rcases h1.2 with⟨rfl,e⟩|⟨g,cap,cur,rfl,hb,hh,hn,hm,hcs,ht⟩
 ·rw[List.length_eq_zero_iff.1 e];exact⟨none,0,rfl,fun q=>ZL.nil _ _ _⟩
 ·refine⟨_,cap,rfl,fun q=>⟨rfl,hn,by unfold maxLen at hm;omega,fun h0=>⟨_,rfl,(Array.getElem?_eq_some_iff.1 hh).1,fun j hj=>?_⟩⟩⟩;obtain⟨s,A,n,c,c1,c2,c3,c4⟩:=h3 j hj;have hc:=h1.cells (g:=g) rfl;refine⟨s,A,n,c,hc _ _ c1, ?_,.of c3,c4⟩
  have:=hc _ _ c2;rw[b_i]at this;rw[b_i];exact this
structure Grew (w w':World) (v v':Value):Prop where
 by':w.grownBy w' v.ownBlock
 now:∀g,v.ownBlock=some g->Wless w g
 to':v'.ownBlock=v.ownBlock\/v'.ownBlock=some w.heap.size
theorem g_1 {P:Program}(w0 w1:World){ops:Array Oper}{rest:List Oper}{o:Oper}{a:Act}{Q:Exit->Act->World->Prop}(hgd:o.guard=none)(s x:Operand)(t:TypeId)
  (ho:o.op= .call { callee:=.builtin .append,args:=#[s,x],argTypes:=#[t,t] })
  (ht:P.underlying t=some (.slice 31)) (hinfo:(P.info? 31).map (fun i=>(i.zero,i.size,i.bytes))=some (some (.agg #[.bool false,.slice none 0 0]),2,32))
  (k:Nat) (v:Value) (zs:List Int) (hs:a.eval s=v) (hown:OwnZ w0 w1 k v zs) {sb:Bool} {A:Option Addr} {n c g:Nat} {z:Int} (hc0:w1.cell? ⟨g,0,none⟩=some (.bool sb)) (hc1:w1.cell? ⟨g,1,none⟩=some (.slice A n c)) (hz:Zc w1 sb A n c z) (hn:n<=k)
  (hx:a.eval x= .slice (some ⟨g,0,none⟩) 1 1) (hlen:zs.length<=1099511627776)
  (h:∀v' w',OwnZ w0 w' k v' (zs++[z])->Grew w1 w' v v'->wpList P ops Q rest (a.put o.dst v') w'):
  wpList P ops Q (o::rest) a w1:=by
 obtain⟨i,hi,hz0,hz1,hz2⟩:=info_parts hinfo;have hsz:=hown.old.size;have hzz:=hz;obtain⟨⟨vs,h1,h3⟩,h4⟩:=hown;obtain⟨v',w',hr,h5,h6,h8⟩:=d_u (P:=P) w1 w0.heap.size t o.type 31 i (.agg #[.bool false,.slice none 0 0]) 32 ht hi hz0 hz1 hz2 rfl (fun u hu=>by
   simp[Value.cells]at hu;rcases hu with rfl|rfl<;>exact fun m e=>nomatch e) v zs.length vs h1 ⟨g,0,none⟩ 1 [.bool sb,.slice A n c] rfl (fun j u hu=>by
   rw[b_i];match j,hu with
   |0,hu=>simp at hu;subst hu;exact hc0
   |1,hu=>simp at hu;subst hu;exact hc1) (fun u hu=>by
   simp at hu;rcases hu with rfl|rfl<;>rfl) (fun u hu=>by
   simp at hu;rcases hu with rfl|rfl<;>exact fun m e=>nomatch e) (by unfold maxLen;omega) (by omega) (by omega)
 refine wpList_plain hgd fun K hK'=>?_;unfold Oper.wp execOp;simp only[ho,resolve,invoke,builtin,Sem.run_bind,Sem.run_pure,Result.andThen_ok,List.map_toArray,List.map_cons,List.map_nil,hs,hx,hr];have keep:∀ {s':Bool} {A':Option Addr} {n' c':Nat} {y:Int},Zc w1 s' A' n' c' y->Zc w' s' A' n' c' y:=fun {s' A' n' c' y} hy=>by
  cases hvb:v.ownBlock with
  |none=>rw[hvb]at h6;exact hy.below ⟨h6.os,h6.tape,h6.output,h6.size,fun k hk=>h6.block k hk (by simp)⟩
  |some g=>rw[hvb]at h6;exact hy.gro (h1.wless hvb) h6
 have hvl:vs.length=zs.length*2:=h1.1.1;have hG:Grew w1 w' v v':=⟨h6,fun g hg=>h1.wless hg,h8⟩;refine hK' _ _ (h v' w' ⟨⟨_,by rw[List.length_append];exact h5,fun j hj=>?_⟩, ?_⟩ hG)
 ·rw[List.length_append,List.length_singleton]at hj;rcases Nat.lt_or_ge j zs.length with hlt|hge
  ·obtain⟨s',A',n',c',c1,c2,c3,c4⟩:=h3 j hlt;refine⟨s',A',n',c',by rw[List.getElem?_append_left (by omega)];exact c1,by rw[List.getElem?_append_left (by omega)];exact c2, ?_,c4⟩;rw[show ith (zs++[z]) j=ith zs j by simp[ith,List.getD,List.getElem?_append_left hlt]];exact keep c3
  ·obtain rfl:j=zs.length:=by omega
   refine⟨sb,A,n,c,by rw[List.getElem?_append_right (by omega),hvl,Nat.sub_self];rfl,by rw[List.getElem?_append_right (by omega),hvl,show zs.length*2+1 - zs.length*2=1 by omega];rfl, ?_,hn⟩;rw[show ith (zs++[z]) zs.length=z by simp[ith,List.getD]];exact keep hzz
 ·exact h4.grown h6 h4.size (fun k hk=>(h1.1.lt k hk).1)
theorem g_0 {P:Program}(w0 wr:World){ops:Array Oper}{rest:List Oper}{o:Oper}{a:Act}{Q:Exit->Act->World->Prop}(hgd:o.guard=none)(s x:Operand)(t:TypeId)
  (ho:o.op= .call { callee:=.builtin .append,args:=#[s,x],argTypes:=#[t,t] })
  (ht:P.underlying t=some (.slice 31)) (hinfo:(P.info? 31).map (fun i=>(i.zero,i.size,i.bytes))=some (some (.agg #[.bool false,.slice none 0 0]),2,32))
  (k:Nat) (v:Value) (zs:List Int) (hs:a.eval s=v) (hown:OwnZ w0 wr k v zs) (sb:Bool) (A:Option Addr) (n c:Nat) (z:Int) (hz:Zc wr sb A n c z) (hn:n<=k)
  (hx:a.eval x= .slice (some ⟨wr.heap.size,0,none⟩) 1 1) (hlen:zs.length<=1099511627776)
  (h:∀v' w',OwnZ w0 w' k v' (zs++[z])->wpList P ops Q rest (a.put o.dst v') w'):
  wpList P ops Q (o::rest) a (wr.alloc (.cells #[.bool sb,.slice A n c] 31)):=
 g_1 w0 _ hgd s x t ho ht hinfo k v zs hs (hown.below (zba wr _)) (by simp[go_sem]) (by simp[go_sem]) (hz.below (zba wr _)) hn hx hlen (fun v' w' h1 _=>h v' w' h1)
end
section
open Go.RowKit
structure Shut (p:Prop):Prop where
 out:p
end
end Go.Proofs.YtfhbdlegkdbmfaaGreat
