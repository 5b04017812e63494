/- PqX01 -/
import Derived.Test.YtfhbdlegkdbmfaaGreatPq34
import Derived.IntWalk
import Derived.Laws.AppendOwn
import Derived.Test.YtfhbdlegkdbmfaaGreatRows
import Derived.Lib.SmallJoins
import Derived.ChangeSlices
import Derived.Deep.Slices
import Derived.Deep.Fields
import Derived.Deep.Matrix
set_option linter.unusedVariables false
set_option linter.unusedSimpArgs false
set_option linter.unusedSectionVars false
set_option maxRecDepth 100000
set_option maxHeartbeats 8000000
namespace Go.Proofs.YtfhbdlegkdbmfaaGreat
section
open Go.RowKit
section
variable {w w':World}{g h:Nat}{T U:TypeId}{cs ds:List Value}
end
section
variable {g o:Nat}
end
section
variable {x y r:Int}{T:TypeId}{b:Bool}{X Y:Operand}{U:TypeId}
theorem opSub (h:x - y=r)(h1:-9223372036854775808<=r)(h2:r<=9223372036854775807)(w:World):RunTwo Tryz.prog (.binOp .sub T X Y U) w (.int .i64 x) (.int .i64 y) (.int .i64 r):=by unfold RunTwo;subst h;simp[go_sem,IntWalk.i64_in _ ⟨h1,h2⟩]
theorem opSubN (a b:Nat)(h:b<=a)(h2:a<=4611686018427387904)(w:World):RunTwo Tryz.prog (.binOp .sub T X Y U) w (.int .i64 (a:Int)) (.int .i64 (b:Int)) (.int .i64 ((a - b:Nat):Int)):=opSub (by omega) (by omega) (by omega) w
end
end
section
open Go.RowKit
theorem s_f {r c:Nat}{F G:Nat->Nat->Int}(h:∀i j,i<r->j<c->F i j=G i j):mk r c F=mk r c G:=by
 unfold mk;apply List.map_congr_left;intro m hm;obtain⟨h1,h2,_⟩:=at_of (List.mem_range.1 hm);exact h _ _ h1 h2
section
variable {q:Bool}{w w':World}{r c n d k k':Nat}{A:Option Addr}{F G:Nat->Nat->Int}
end
section
variable {u v:Value}{x y:Int}{n m k:Nat}{w:World}
theorem t_9 {b:Bool}(hx:IsV x n u w)(hy:IsV y m v w)(hn:n<=1099511627776)(hm:m<=1099511627776)(hb:decide (x=y)=b):Calls Tryz.prog 17 #[u,v] w (RetK (.k (.bool b)) w):=by
 obtain⟨s,A,a,c,rfl,h1,h2⟩:=hx;obtain⟨s',A',a',c',rfl,h1',h2'⟩:=hy;exact(n_6 h1 h1' (by omega) (by omega) hb).mono fun e w' h=>⟨_,h.1,rfl,h.2⟩
end
end
section
open Go.RowKit
theorem t_2 {A B:Option Addr}{n m c d:Nat}{s t b:Bool}{k:Nat}{w:World}(hn:n<=9223372036854775807)(hm:m<=9223372036854775807)(hk:k<=100)(hb:decide (n<=k/\m<=k)=b):
  Calls Tryz.prog 41 #[.agg #[.bool s,.slice A n c,.bool t,.slice B m d],.int .i64 (k:Int)] w fun e w'=>e= .returned (.bool b)/\Below w.heap.size w w':=by
 have HZ:=Lib.hid (zba w (.cells #[.bool s,.slice A n c,.bool t,.slice B m d] 42));by_cases h1:n<=k
 ·by_cases h2:m<=k
  ·obtain rfl:b=true:=by rw[<-hb,decide_eq_true_iff];exact⟨h1,h2⟩
   clear hb;go_enter Tryz.func41,Tryz.ntmps41
   go_wp2_with fail
   go_ret
   exact⟨rfl,HZ.out⟩
  ·obtain rfl:b=false:=by rw[<-hb,decide_eq_false_iff_not];omega
   clear hb;go_enter Tryz.func41,Tryz.ntmps41
   go_wp2_with fail
   go_ret
   exact⟨rfl,HZ.out⟩
 ·obtain rfl:b=false:=by rw[<-hb,decide_eq_false_iff_not];omega
  clear hb;go_enter Tryz.func41,Tryz.ntmps41
  go_wp2_with fail
  go_ret
  exact⟨rfl,HZ.out⟩
end
section
open Go.RowKit
section
variable {w w':World}{g:Nat}{s t s' t' s0 t0 u v:Bool}{A B A' B' A0 B0 C D':Option Addr}{n c m d n' c' m' d' n0 c0 m0 d0 l e' f' h' k:Nat}{p q:Rat}
theorem Qv.mk {N D:Int}(h:Zv w s A n c N)(h':Zv w t B m d D):Qv w s A n c t B m d (Rat.divInt N D):=⟨N,D,h,h',Lib.hid rfl⟩
end
end
section
open Go.RowKit
structure Qr where
 s:Bool
 A:Option Addr
 n:Nat
 c:Nat
 t:Bool
 B:Option Addr
 m:Nat
 d:Nat
 q:Rat
def nqr:Qr:=⟨false,none,0,0,false,none,0,0,0⟩
structure RQ (w:World) (A:Option Addr) (n c:Nat) (R:List Qr):Prop where
 len:R.length=n
 le:n<=c
 cap:c<=9223372036854775807
 at':0<n->∃ad,A=some ad/\ad.block<w.heap.size/\∀j,j<n->w.cell? (ad.add (j*4))=some (.bool (R.getD j nqr).s)/\w.cell? ⟨(ad.add (j*4)).block,(ad.add (j*4)).off+1,none⟩=some (.slice (R.getD j nqr).A (R.getD j nqr).n (R.getD j nqr).c)/\
  w.cell? ⟨(ad.add (j*4)).block,(ad.add (j*4)).off+2,none⟩=some (.bool (R.getD j nqr).t)/\w.cell? ⟨(ad.add (j*4)).block,(ad.add (j*4)).off+3,none⟩=some (.slice (R.getD j nqr).B (R.getD j nqr).m (R.getD j nqr).d)
 num:∀x,x∈R->Qv w x.s x.A x.n x.c x.t x.B x.m x.d x.q
theorem RQ.below {w w':World}{A:Option Addr}{n c:Nat}{R:List Qr}(h:RQ w A n c R)(hb:Below w.heap.size w w'):RQ w' A n c R:=⟨h.len,h.le,h.cap,fun h0=>by
 obtain⟨ad,rfl,h1,h2⟩:=h.at' h0;refine⟨ad,rfl,Nat.lt_of_lt_of_le h1 hb.size,fun j hj=>?_⟩;obtain⟨c0,c1,c2,c3⟩:=h2 j hj;have hl:(ad.add (j*4)).block<w.heap.size:=by rw[a_b];exact h1
 exact⟨(hb.cell hl).trans c0,(hb.cell (p:=⟨(ad.add (j*4)).block,(ad.add (j*4)).off+1,none⟩) hl).trans c1,(hb.cell (p:=⟨(ad.add (j*4)).block,(ad.add (j*4)).off+2,none⟩) hl).trans c2,(hb.cell (p:=⟨(ad.add (j*4)).block,(ad.add (j*4)).off+3,none⟩) hl).trans c3⟩,fun x hx=>(h.num x hx).below hb⟩
def qnums (R:List Qr):List Rat:=R.map (·.q)
theorem j_p (R:List Qr):(qnums R).length=R.length:=by simp[qnums]
theorem RQ.ql {w:World}{A:Option Addr}{n c k:Nat}{R:List Qr}(h:RQ w A n c R)(hk:∀j,j<n->(R.getD j nqr).n<=k/\(R.getD j nqr).m<=k):QL false w A n c k (qnums R):=⟨by rw[j_p];exact h.len,h.le,h.cap,fun h0=>by
 obtain⟨ad,rfl,h1,h2⟩:=h.at' h0;refine⟨ad,rfl,h1,fun j hj=>?_⟩;have hl:j<R.length:=by rw[h.len];exact hj
 have e:R.getD j nqr=R[j]:=by simp[List.getD,hl]
 have e2:rth (qnums R) j=R[j].q:=by simp[rth,qnums,List.getD,hl]
 obtain⟨c0,c1,c2,c3⟩:=h2 j hj;refine⟨_,_,_,_,_,_,_,_,c0,c1,c2,c3,⟨?_,fun e=>nomatch e⟩,(hk j hj).1,(hk j hj).2⟩;rw[e,e2];exact h.num _ (List.getElem_mem hl)⟩
end
section
open Go.Joins Go.ChangeShapes Go.WideShapes Go.RowKit Go.Deep
section
variable {H:Type}{enc:TypeId × Value->H}{P:Program}{W:World}{base:Nat}{held:Bool}
theorem g_7 {fuel:Nat}{t:TypeId}{g0 g1:Field}{e:TypeId}{c0 c1:Value}{x:DataW H × List MemPlace}(ht:P.underlying t=some (.struct #[g0,g1]))(hone:oneCellFields P #[g0,g1]=true)
  (hb:P.underlying g0.type=some .bool) (hs:P.underlying g1.type=some (.slice e)) (he:P.underlying e=some (.int .u64)) (hc:P.cellsOf e=1)
  (h:DataW.trod enc P W base (fun _=>true) held fuel t [c0,c1]=some x):
  ∃(s:Bool) (A:Option Addr) (n c:Nat) (zs:List Int),c0= .bool s/\c1= .slice A n c/\IsRow .u64 W A n c zs:=by
 obtain⟨y0,y1,m,rfl,_,h0,h1⟩:=trod_struct2 ht h;obtain⟨o0,k0⟩:=hone_of hone 0 g0 rfl;obtain⟨o1,k1⟩:=hone_of hone 1 g1 rfl;rw[o0,k0]at h0;rw[o1,k1]at h1;simp only[List.drop_zero,List.take_succ_cons,List.take_zero,List.drop_succ_cons]at h0 h1;obtain⟨s,hs0,_⟩:=DataW.trod_bool hb h0;rcases open_ints hs he hc h1 with⟨hcs,_⟩|⟨x,l,c,zs,hcs,_,hl,hm,hz,_,hcell,hwz⟩
 ·simp at hs0 hcs;subst hs0 hcs;exact⟨s,none,0,0,[],rfl,rfl,.inl ⟨rfl,rfl,rfl,rfl⟩⟩
 ·simp at hs0 hcs;subst hs0 hcs;exact⟨s,some x,l,c,zs,rfl,rfl,.inr ⟨_,rfl,hl,hm,by simpa using hz,hcell,hwz⟩⟩
end
end
section
open Go.Joins Go.ChangeShapes Go.WideShapes Go.RowKit Go.Deep
section
variable {H:Type}{enc:TypeId × Value->H}{P:Program}{W:World}{base:Nat}{held:Bool}
theorem v_u {t e:TypeId}{f0 f1 g0 g1:Field}{q:TypeId}{A:Option Addr}{n c:Nat}{d:DataW H}{ps:List MemPlace}(ht:P.underlying t=some (.slice e))(he:P.underlying e=some (.struct #[f0,f1]))(hC:P.cellsOf e=4)(ho:f0.offset=0/\f1.offset=2/\P.cellsOf f0.type=2/\P.cellsOf f1.type=2)
  (ht0:P.underlying f0.type=some (.struct #[g0,g1])) (ht1:P.underlying f1.type=some (.struct #[g0,g1])) (hone:oneCellFields P #[g0,g1]=true)
  (hb:P.underlying g0.type=some .bool) (hs:P.underlying g1.type=some (.slice q)) (hq:P.underlying q=some (.int .u64)) (hc:P.cellsOf q=1)
  (h:DataW.Trod enc P W base (fun _=>true) held t (.slice A n c) d ps) (hlt:∀x∈ps,x.block<W.heap.size):
  ∃R:List Qr,RQ W A n c R:=by
 obtain⟨fuel,hf⟩:=h;rcases open_slice ht hf with⟨hcs,hx⟩|⟨a,len,cap,m,n',D,Pl,hcs,hb0,hl,hm,hmm,hx,hi⟩
 ·simp[Value.cells]at hcs;obtain⟨rfl,rfl,rfl⟩:=hcs;exact⟨[],rfl,Nat.le_refl _,by omega,fun h=>by omega,fun x hx=>(by cases hx)⟩
 ·simp[Value.cells]at hcs;obtain⟨rfl,rfl,rfl⟩:=hcs;simp only[if_true]at hmm;subst hmm;rw[hC]at hi hx;have each:∀i,i<m->∃y:Qr,(W.cell? (a.add (i*4))=some (.bool y.s)/\W.cell? ⟨(a.add (i*4)).block,(a.add (i*4)).off+1,none⟩=some (.slice y.A y.n y.c)/\W.cell? ⟨(a.add (i*4)).block,(a.add (i*4)).off+2,none⟩=some (.bool y.t)/\W.cell? ⟨(a.add (i*4)).block,(a.add (i*4)).off+3,none⟩=some (.slice y.B y.m y.d))/\Qv W y.s y.A y.n y.c y.t y.B y.m y.d y.q:=by
   intro i him;obtain⟨cs',h1,h2⟩:=hi i him;obtain⟨_,h3,h4⟩:=World.cells?_some h1;match cs',h3 with
   | [v0,v1,v2,v3],_=>
    obtain⟨y0,y1,m',_,_,h5,h6⟩:=trod_struct2 he h2;obtain⟨o0,o1,k0,k1⟩:=ho;rw[o0,k0]at h5;rw[o1,k1]at h6;simp only[Value.cells,List.drop_zero,List.take_succ_cons,List.take_zero,List.drop_succ_cons]at h5 h6;obtain⟨s,A1,n1,c1,zs,rfl,rfl,w0⟩:=g_7 ht0 hone hb hs hq hc h5;obtain⟨t1,B1,m1,d1,zs',rfl,rfl,w1⟩:=g_7 ht1 hone hb hs hq hc h6;have e0:W.cell? (a.add (i*4))=some (.bool s):=by have:=h4 0 (by omega);simpa [Addr.add] using this
    have e1:W.cell? ⟨(a.add (i*4)).block,(a.add (i*4)).off+1,none⟩=some (.slice A1 n1 c1):=by have:=h4 1 (by omega);simpa [Addr.add] using this
    have e2:W.cell? ⟨(a.add (i*4)).block,(a.add (i*4)).off+2,none⟩=some (.bool t1):=by have:=h4 2 (by omega);simpa [Addr.add] using this
    have e3:W.cell? ⟨(a.add (i*4)).block,(a.add (i*4)).off+3,none⟩=some (.slice B1 m1 d1):=by have:=h4 3 (by omega);simpa [Addr.add] using this
    obtain⟨v,hv⟩:=w0.nv;obtain⟨u,hu⟩:=w1.nv;exact⟨⟨s,A1,n1,c1,t1,B1,m1,d1,Rat.divInt (sg s v) (sg t1 u)⟩,⟨e0,e1,e2,e3⟩,Qv.mk ⟨v,hv,Lib.hid rfl⟩ ⟨u,hu,Lib.hid rfl⟩⟩
  haveI:Inhabited Qr:=⟨nqr⟩
  obtain⟨y,hy⟩:=choose_lt each;have hg:∀j,j<n->((List.range n).map y).getD j nqr=y j:=fun j hj=>by simp[List.getD,hj]
  refine⟨(List.range n).map y,by simp,(by first|omega|(simp only[maxLen]at*;omega)),(by first|omega|(simp only[maxLen]at*;omega)),fun h0=>⟨a,rfl, ?_,fun j hj=>?_⟩,fun x hx=>?_⟩
  ·have h1:=(hy 0 (by omega)).1.1
   have:=World.block_lt_of_cell? W _ h1;rwa [a_b]at this
  ·rw[hg j hj];exact(hy j (by omega)).1
  ·obtain⟨j,hj,rfl⟩:=List.mem_map.1 hx;exact(hy j (by have:=List.mem_range.1 hj;omega)).2
theorem p_d {r:Reach}{b0:Nat}{t e:TypeId}{f0 f1 f2 h0 h1 g0 g1:Field}{q:TypeId}{v:Value}{d:DataW H}{ps:List MemPlace}(ht:P.underlying t=some (.struct #[f0,f1,f2]))(hone:oneCellFields P #[f0,f1,f2]=true)(hC:P.cellsOf t=3)
  (hi0:P.underlying f0.type=some (.int .i64)) (hi1:P.underlying f1.type=some (.int .i64)) (hi2:P.underlying f2.type=some (.slice e)) (he:P.underlying e=some (.struct #[h0,h1])) (hC2:P.cellsOf e=4) (ho:h0.offset=0/\h1.offset=2/\P.cellsOf h0.type=2/\P.cellsOf h1.type=2)
  (ht0:P.underlying h0.type=some (.struct #[g0,g1])) (ht1:P.underlying h1.type=some (.struct #[g0,g1])) (hone2:oneCellFields P #[g0,g1]=true)
  (hb:P.underlying g0.type=some .bool) (hs:P.underlying g1.type=some (.slice q)) (hq:P.underlying q=some (.int .u64)) (hc:P.cellsOf q=1)
  (hv:Value.okWide P W r b0 t v) (h:DataW.Trod enc P W base (fun _=>true) held t v d ps) (hlt:∀x∈ps,x.block<W.heap.size):
  ∃(x y:Int) (A:Option Addr) (n c:Nat) (R:List Qr),v= .agg #[.int .i64 x,.int .i64 y,.slice A n c]/\RQ W A n c R:=by
 obtain⟨v0,v1,v2,y0,y1,y2,m,rfl,_,hp,k0,k1,k2⟩:=open_agg3 ht hone hC hv h;obtain⟨x,hx,_,_⟩:=DataW.trod_int hi0 k0;obtain⟨y,hy,_,_⟩:=DataW.trod_int hi1 k1;have hl2:∀x∈y2.2,x.block<W.heap.size:=fun x hx=>hlt x (by rw[hp];simp[hx]);have hsl:∃A n c,v2= .slice A n c:=by
  rcases open_slice hi2 k2 with⟨hcs,_⟩|⟨a,len,cap,m,n',D,Pl,hcs,_⟩
  ·exact⟨none,0,0,by simpa using hcs⟩
  ·exact⟨some a,len,cap,by simpa using hcs⟩
 obtain⟨A,n,c,rfl⟩:=hsl;obtain⟨R,hR⟩:=v_u (d:=y2.1) (ps:=y2.2) hi2 he hC2 ho ht0 ht1 hone2 hb hs hq hc ⟨m,by simpa [Value.cells] using k2⟩ hl2;simp at hx hy;subst hx hy;exact⟨x,y,A,n,c,R,rfl,hR⟩
end
end
section
open Go.RowKit
section
variable {u v:Value}{x y:Rat}{n m K:Nat}{w:World}
end
theorem x_z {r c:Nat}{xs:List Rat}(h:xs.length=r*c):qmk r c (fun i j=>rth xs (i*c+j))=xs:=by
 apply List.ext_getElem
 ·rw[b_f,h]
 ·intro m h1 h2;obtain⟨e1,e2,e3⟩:=p_a (r:=r) (c:=c) (m:=m) (by rw[<-h];exact h2);simp[qmk,e3,rth,List.getD,h2]
section
variable {q:Bool}{w w':World}{r c n d k k':Nat}{A:Option Addr}{F G:Nat->Nat->Rat}
end
end
section
section
variable {f:Nat->Rat}{n i:Nat}
theorem k_b (f:Nat->Rat)(e:Nat):∀n,(∀i,i<n->(f i).den∣e)->blw f n∣e
 |0,_=>Nat.one_dvd e
 |n+1,h=>by rw[l_s];exact Nat.lcm_dvd (k_b f e n fun i hi=>h i (by omega)) (h n (by omega))
end
end
section
open Go.RowKit
theorem u_4 (w:World):Calls Tryz.prog 15 #[.agg #[.int .i64 0,.int .i64 0,.slice none 0 0]] w (RetK (.k (.bool true)) w):=by
 obtain⟨w1,hw1,b1,z1,s1⟩:=boxes1 w 27 [.int .i64 0,.int .i64 0,.slice none 0 0];have HW:=Lib.hid hw1;have HZ:=Lib.hid z1;clear hw1 z1 s1;go_enter Tryz.func15,Tryz.ntmps15
 go_upto_region 1 with fail
 rw[HW.out];refine Run.start 15 ?_;refine .fa .o (fM0 0) ?_;refine .ld (.i 0) (ldInt b1 0) ?_;refine .two (.i 1) .o (opEq (by decide:decide ((0:Int)=0)=true)) ?_;refine .mv (.i 2) ?_;refine .fa .o (fM1 1) ?_;refine .ld (.i 4) (ldInt b1 1) ?_;refine .two (.i 5) .o (opEq (by decide:decide ((0:Int)=0)=true)) ?_;refine .pk (.i 3) (.i 6) true ?_;refine .mv (.i 7) ?_;refine .fa .o (fM2 2) ?_;refine .ld (.i 9) (ldSl b1 2) ?_;refine .len (.i 10) Tryz.underlying25 ?_;refine .two (.i 11) .o (opEq (by decide:decide (((0:Nat):Int)=0)=true)) ?_;refine .pk (.i 8) (.i 12) true ?_;refine .mv (.i 13) ?_;refine .donep [some 3,some 4,some 5,some 6,some 7,some 8,some 9,some 10,some 11,some 12,some 13,some 14,some 15,some 16,some 2] ?_;intro w2 B2;refine sh [] ?_;simp only[Act.put,lS,lZ,lC]
 go_wp2_with fail
 exact bodyPost_ret (v:=.bool true) (by simp[results,Tryz.results15,go_sem]) rfl (a_x rfl (zup HZ.out B2))
end
section
open Go.RowKit
section
variable {w:World}
theorem fZa1 {p:Addr}(w:World):(Instr.fieldAt 31 (.pointer (some p)) 1).run Tryz.prog w= .ok (.pointer (some ⟨p.block,p.off+1,none⟩)) w:=by simp[go_sem,Addr.add]
theorem fZa0 {p:Addr}(w:World):(Instr.fieldAt 31 (.pointer (some p)) 0).run Tryz.prog w= .ok (.pointer (some p)) w:=by simp[go_sem,a_j]
theorem ldBa {p:Addr}{s:Bool}(hp:p.block<w.heap.size)(h:w.cell? p=some (.bool s)):∀w',Below w.heap.size w w'->(Instr.loadAt 4 (.pointer (some p))).run Tryz.prog w'= .ok (.bool s) w':=fun w' hb=>by
 have:=(hb.cell hp).trans h;simp[go_sem,a_j,this]
theorem ldWa {p:Addr}{x:Nat}(hp:p.block<w.heap.size)(h:w.cell? p=some (.int .u64 (x:Int))):∀w',Below w.heap.size w w'->(Instr.loadAt 85 (.pointer (some p))).run Tryz.prog w'= .ok (.int .u64 (x:Int)) w':=fun w' hb=>by
 have:=(hb.cell hp).trans h;simp[go_sem,a_j,this]
theorem opIxN {ad:Addr}{n c k:Nat}{X Y:Operand}(h:k<n)(w:World):RunTwo Tryz.prog (.indexAddr 29 X Y) w (.slice (some ad) n c) (.int .i64 (k:Int)) (.pointer (some (ad.add k))):=by
 unfold RunTwo;simp[go_sem,Tryz.underlying29,show Tryz.prog.cellsOf 85=1 by kernel_rfl];omega
theorem opEqU {x y:Int}{T U:TypeId}{X Y:Operand}{b:Bool}(h:decide (x=y)=b)(w:World):RunTwo Tryz.prog (.binOp .eql T X Y U) w (.int .u64 x) (.int .u64 y) (.bool b):=by unfold RunTwo;simp[go_sem,<-h];try rfl
theorem Zc.top {s:Bool}{A:Option Addr}{n c:Nat}{z:Int}(h:Zc w s A n c z):(n=0/\s=false)\/(0<n/\∃ad x,A=some ad/\ad.block<w.heap.size/\x≠0/\w.cell? (ad.add (n - 1))=some (.int .u64 ((x:Nat):Int))):=by
 obtain⟨⟨h1,h2,h3,h4⟩,h5⟩:=h;rcases Nat.eq_zero_or_pos n with h0|h0
 ·left;refine⟨h0, ?_⟩
  have:=(d_a 18446744073709551616 z.natAbs (by omega)).1 (by omega);rw[h5.out,decide_eq_false];omega
 ·right;have ht:=f_k (xs:=cn 18446744073709551616 z.natAbs) (by rw[n_d _ _ (by omega)];omega);rw[n_d _ _ (by omega),h2]at ht;obtain⟨ad,e,hb,hc⟩:=h1.at (k:=n - 1) (by omega);exact⟨h0,ad,_,e,hb,ht,hc⟩
end
theorem o_0 {r c n d k:Nat}{A:Option Addr}{F:Nat->Nat->Int}{w:World}(ha:Mt true w r c A n d k F)(hk:k<=1099511627776):Calls Tryz.prog 19 #[.agg #[.int .i64 (r:Int),.int .i64 (c:Int),.slice A n d]] w (RetK (.k (.bool true)) w):=by
 have h1:=ha.fmd;have hnd:=ha.zl.le;have hdm:=ha.zl.cap;have HX:=Lib.hid ha.zl;obtain⟨w1,hw1,b1,z1,s1⟩:=boxes1 w 27 [.int .i64 (r:Int),.int .i64 (c:Int),.slice A n d];have HW:=Lib.hid hw1;have HZ:=Lib.hid z1;have h1_:=Lib.hid h1;clear hw1 z1 h1 ha;go_enter Tryz.func19,Tryz.ntmps19
 go_upto_region 1 with fail
 rw[HW.out];have HB:Hid (Below w.heap.size w w1/\Bx w1 w.heap.size 27 [.int .i64 (r:Int),.int .i64 (c:Int),.slice A n d]):=Lib.hid ⟨HZ.out,b1⟩;clear b1 HW HZ s1
 go_wp2_with fail
 go_loopw [3] (fun s3 wr=>∃j:Nat,s3= .int .i64 (j:Int)/\j<=n/\Hid (Below w.heap.size w wr/\Bx wr w.heap.size 27 [.int .i64 (r:Int),.int .i64 (c:Int),.slice A n d])) (fun s3 _=>n - (intOf s3).toNat)
 case atStart=>exact⟨0,rfl,Nat.zero_le _,HB⟩
 case round=>
  clear HB;obtain⟨j,rfl,hj,HB⟩:=hrel;obtain⟨B0,b1⟩:=HB.out;clear HB;have i2:=b1.cell 2;simp only[List.getElem?_cons_succ,List.getElem?_cons_zero]at i2;by_cases hlt:j<n
  ·have u2:(j:Int)<(n:Int):=by omega
   obtain⟨ad,rfl,hab,hA⟩:=(HX.out.below B0).at hlt;obtain⟨s2,A2,n2,c2,e1,e2,ze,hk2⟩:=hA;have hz:=(ze.2 rfl).top;clear ze;go_upto_region 4 with fail
   clear i2;refine Run.start 8 ?_;refine .fa .o (fM2 2) ?_;refine .ld (.i 0) (ldSl b1 2) ?_;refine .mv .o ?_;refine .two (.i 1) (.i 2) (opIx hlt) ?_;refine .fa (.i 3) fZa1 ?_;refine .ld (.i 4) (ldNa (by show(ad.add (j*2)).block<_;rw[a_b];exact hab) e2) ?_;refine .len (.i 5) Tryz.underlying29 ?_;refine .mv (.i 6) ?_;refine .donep [some 12,some 13,some 14,some 15,some 16,some 17,some 18,some 4] ?_;intro w2 B2;refine sh [] ?_;simp only[Act.put,lS,lZ,lC];have hab2:=Nat.lt_of_lt_of_le hab B2.size;have f1:=(B2.cell (p:=ad.add (j*2)) (by rw[a_b];exact hab)).trans e1;have f2:=(B2.cell (p:=⟨(ad.add (j*2)).block,(ad.add (j*2)).off+1,none⟩) (by show(ad.add (j*2)).block<_;rw[a_b];exact hab)).trans e2;replace b1:=b1.below B2;go_upto_region 5 with fail
   clear e1 e2;rcases hz with⟨rfl,rfl⟩|⟨h0,wd,x,rfl,hwb,hx0,hcx⟩
   ·refine Run.start 27 ?_;refine .mv .o ?_;refine .two (.i 0) .o (opGt (by decide:decide ((0:Int)<((0:Nat):Int))=false)) ?_;refine .mv (.i 1) ?_;refine .no ?_;refine .no ?_;refine .no ?_;refine .no ?_;refine .no ?_;refine .no ?_;refine .no ?_;refine .no ?_;refine .no ?_;refine .no ?_;refine .no ?_;refine .pk (.i 2) .o false ?_;refine .mv (.i 14) ?_;refine .mv .o ?_;refine .two (.i 16) .o (opEq (by decide:decide (((0:Nat):Int)=0)=true)) ?_;refine .mv (.i 17) ?_;refine .fa .o (fM2 2) ?_;refine .ld (.i 19) (ldSl b1 2) ?_;refine .mv .o ?_;refine .two (.i 20) (.i 21) (opIx hlt) ?_;refine .fa (.i 22) fZa0 ?_;refine .ld (.i 23) (ldBa (by rw[a_b];exact hab2) f1) ?_;refine .pk (.i 18) (.i 24) true ?_;refine .pk (.i 15) (.i 25) false ?_;refine .donep [some 19,some 20,some 21,some 22,some 23,some 24,some 25,some 26,some 27,some 28,some 29,some 30,some 31,some 32,some 33,some 34,some 35,some 36,some 37,some 38,some 39,some 40,some 41,some 42,some 43,some 44,some 45] ?_;intro w3 B3;refine sh [] ?_;simp only[Act.put,lS,lZ,lC];have HN:Hid (Below w.heap.size w w3/\Bx w3 w.heap.size 27 [.int .i64 (r:Int),.int .i64 (c:Int),.slice (some ad) n d]):=Lib.hid ⟨zup (zup B0 B2) B3,b1.below B3⟩;clear b1 B0 B2 B3 f1 f2
    go_wp2_with fail
    go_roundw
    case rel=>exact⟨j+1,by go_num,by omega,HN⟩
    case measure=>first|(simp[intOf];done)|(simp[intOf];omega)
   ·have h1x:=B2.cell (p:=wd.add (n2 - 1)) (by rw[a_b];have:=B0.size;exact hwb);have hcx2:=h1x.trans hcx;have hwb2:=Nat.lt_of_lt_of_le hwb B2.size;refine Run.start 27 ?_;refine .mv .o ?_;refine .two (.i 0) .o (opGt (decide_eq_true (by omega:(0:Int)<(n2:Int)))) ?_;refine .mv (.i 1) ?_;refine .fa .o (fM2 2) ?_;refine .ld (.i 3) (ldSl b1 2) ?_;refine .mv .o ?_;refine .two (.i 4) (.i 5) (opIx hlt) ?_;refine .fa (.i 6) fZa1 ?_;refine .ld (.i 7) (ldNa (by show(ad.add (j*2)).block<_;rw[a_b];exact hab2) f2) ?_;refine .mv .o ?_;refine .two (.i 9) .o (opSubN n2 1 h0 (by omega)) ?_;refine .two (.i 8) (.i 10) (opIxN (by omega:n2 - 1<n2)) ?_;refine .ld (.i 11) (ldWa (by rw[a_b];exact hwb2) hcx2) ?_;refine .two (.i 12) .o (opEqU (decide_eq_false (by omega:¬((x:Int)=0)))) ?_;refine .pk (.i 2) (.i 13) true ?_;refine .mv (.i 14) ?_;refine .mv .o ?_;refine .two (.i 16) .o (opEq (decide_eq_false (by omega:¬((n2:Int)=0)))) ?_;refine .mv (.i 17) ?_;refine .no ?_;refine .no ?_;refine .no ?_;refine .no ?_;refine .no ?_;refine .no ?_;refine .pk (.i 18) .o false ?_;refine .pk (.i 15) (.i 25) false ?_;refine .donep [some 19,some 20,some 21,some 22,some 23,some 24,some 25,some 26,some 27,some 28,some 29,some 30,some 31,some 32,some 33,some 34,some 35,some 36,some 37,some 38,some 39,some 40,some 41,some 42,some 43,some 44,some 45] ?_;intro w3 B3;refine sh [] ?_;simp only[Act.put,lS,lZ,lC];have HN:Hid (Below w.heap.size w w3/\Bx w3 w.heap.size 27 [.int .i64 (r:Int),.int .i64 (c:Int),.slice (some ad) n d]):=Lib.hid ⟨zup (zup B0 B2) B3,b1.below B3⟩;clear b1 B0 B2 B3 f1 f2
    go_wp2_with fail
    go_roundw
    case rel=>exact⟨j+1,by go_num,by omega,HN⟩
    case measure=>first|(simp[intOf];done)|(simp[intOf];omega)
  ·obtain rfl:j=n:=by omega
   have u2:¬(j:Int)<(j:Int):=by omega
   go_upto_region 7 with fail
   clear i2;refine Run.start 3 ?_;refine .ld .o (ldM b1 0) ?_;refine .c1 (.i 0) (x:=.k (.bool true)) (by rintro u w2 hB rfl;exact b_w h1_.out w2) ?_;refine .mv (.i 1) ?_;refine .donep [some 46,some 47,some 2] ?_;intro w2 B2;refine sh [] ?_;simp only[Act.put,lS,lZ,lC]
   go_wp2_with fail
   exact bodyPost_ret (v:=.bool true) (by simp[results,Tryz.results19,go_sem]) rfl (a_x rfl (zup B0 B2))
end
section
open Go.RowKit
theorem t_y {r c m:Nat}{F:Nat->Nat->Int}(h:m<r*c):ith (mk r c F) m=F (m / c) (m%c):=by simp[ith,mk,List.getD,h]
end
section
open Go.RowKit
def kT3 (x y z:FK):FK:=.f (fun v w=>∃a b c,v= .tuple #[a,b,c]/\x.F a w/\y.F b w/\z.F c w) (fun v w w' ⟨a,b,c,e,h1,h2,h3⟩ hb=>⟨a,b,c,e,x.stays _ _ _ h1 hb,y.stays _ _ _ h2 hb,z.stays _ _ _ h3 hb⟩)
section
variable {ops:Array Oper}{Q:Exit->Act->World->Prop}{m i:Nat}{a0:Act}{w0:World}{l:List FK}{b:Bool}{id:Nat}
end
section
variable {ops:Array Oper}{Q:Exit->Act->World->Prop}{m i:Nat}{a0:Act}{w0:World}{l:List FK}{b:Bool}{id:Nat}
end
end
section
namespace RT
open DT (Inc)
variable {α:Type}[CR α]
variable[Fld α]
attribute [local simp] a_t b_m b_7 b_i b_e b_v b_5
variable {R C c:Nat}{M N A:Mx α}{u v:Nat->α}{p q:List Nat}
theorem clear_one {n:Nat}{den:Nat->Nat}{num m:Nat->Int}{d:Nat}(hd:0<d)(hl:∀e,(∀i,i<n->den i∣e)->d∣e)(hm:∀i,i<n->m i*den i=num i*d)(hc:∀i,i<n->Nat.gcd (num i).natAbs (den i)=1){g:Nat}(h1:g∣d)(h2:∀i,i<n->(g:Int)∣m i):g=1:=by
 obtain⟨d',rfl⟩:=h1;have hg:0<g:=Nat.pos_of_mul_pos_right hd;have hd':0<d':=Nat.pos_of_mul_pos_left hd;have h3:g*d'∣d':=hl d' fun i hi=>by
  obtain⟨t,ht⟩:=h2 i hi;have h4:=hm i hi;rw[ht]at h4;have h5:(g:Int)*(t*den i)=g*(num i*d'):=by rw[<-Int.mul_assoc,h4];simp only[Int.natCast_mul];rw[<-Int.mul_assoc,<-Int.mul_assoc,Int.mul_comm (g:Int) (num i)]
  have h6:t*den i=num i*d':=Int.eq_of_mul_eq_mul_left (by omega) h5;have h7:den i∣(num i).natAbs*d':=⟨t.natAbs,by
   have:=congrArg Int.natAbs h6;rw[Int.natAbs_mul,Int.natAbs_mul,Int.natAbs_natCast,Int.natAbs_natCast]at this;rw[<-this,Nat.mul_comm]⟩
  exact(Nat.Coprime.dvd_of_dvd_mul_left (Nat.Coprime.symm (hc i hi)) h7)
 have h8:=Nat.le_of_dvd hd' h3;have h9:¬2<=g:=fun h=>by have:=Nat.mul_le_mul_right d' h;omega
 omega
end RT
end
section
open Go.RowKit
theorem h_e {r c:Int}{A:Option Addr}{n d:Nat}{b:Bool}(hb:fmd r c n=b)(w:World):Calls Tryz.prog 14 #[.agg #[.int .i64 r,.int .i64 c,.slice A n d]] w (RetK (.k (.bool b)) w):=by
 obtain⟨w1,hw1,b1,z1,s1⟩:=boxes1 w 24 [.int .i64 r,.int .i64 c,.slice A n d];have HW:=Lib.hid hw1;have HZ:=Lib.hid z1;have hb_:=Lib.hid hb;clear hw1 z1 hb s1;go_enter Tryz.func14,Tryz.ntmps14
 go_upto_region 1 with fail
 rw[HW.out];by_cases g5:0<=r
 rotate_left
 ·refine Run.start 30 ?_;refine .fa .o (fQ0 0) ?_;refine .ld (.i 0) (ldInt b1 0) ?_;refine .two (.i 1) .o (opGe (decide_eq_false g5)) ?_;refine .mv (.i 2) ?_;refine .no ?_;refine .no ?_;refine .no ?_;refine .pk (.i 3) .o false ?_;refine .mv (.i 7) ?_;refine .no ?_;refine .no ?_;refine .no ?_;refine .pk (.i 8) .o false ?_;refine .mv (.i 12) ?_;refine .no ?_;refine .no ?_;refine .no ?_;refine .pk (.i 13) .o false ?_;refine .mv (.i 17) ?_;refine .no ?_;refine .no ?_;refine .no ?_;refine .no ?_;refine .no ?_;refine .no ?_;refine .no ?_;refine .no ?_;refine .no ?_;refine .pk (.i 18) .o false ?_;refine .mv (.i 28) ?_;refine .donep [some 3,some 4,some 5,some 6,some 7,some 8,some 9,some 10,some 11,some 12,some 13,some 14,some 15,some 16,some 17,some 18,some 19,some 20,some 21,some 22,some 23,some 24,some 25,some 26,some 27,some 28,some 29,some 30,some 31,some 2] ?_;intro w2 B2;refine sh [] ?_;simp only[Act.put,lS,lZ,lC];have e:b=false:=by rw[<-hb_.out];unfold fmd sd;simp;omega
  subst e
  go_wp2_with fail
  exact bodyPost_ret (v:=.bool false) (by simp[results,Tryz.results14,go_sem]) rfl (a_x rfl (zup HZ.out B2))
 ·skip
  by_cases g9:r<=64
  rotate_left
  ·refine Run.start 30 ?_;refine .fa .o (fQ0 0) ?_;refine .ld (.i 0) (ldInt b1 0) ?_;refine .two (.i 1) .o (opGe (decide_eq_true g5)) ?_;refine .mv (.i 2) ?_;refine .fa .o (fQ0 0) ?_;refine .ld (.i 4) (ldInt b1 0) ?_;refine .two (.i 5) .o (opLe (decide_eq_false g9)) ?_;refine .pk (.i 3) (.i 6) true ?_;refine .mv (.i 7) ?_;refine .no ?_;refine .no ?_;refine .no ?_;refine .pk (.i 8) .o false ?_;refine .mv (.i 12) ?_;refine .no ?_;refine .no ?_;refine .no ?_;refine .pk (.i 13) .o false ?_;refine .mv (.i 17) ?_;refine .no ?_;refine .no ?_;refine .no ?_;refine .no ?_;refine .no ?_;refine .no ?_;refine .no ?_;refine .no ?_;refine .no ?_;refine .pk (.i 18) .o false ?_;refine .mv (.i 28) ?_;refine .donep [some 3,some 4,some 5,some 6,some 7,some 8,some 9,some 10,some 11,some 12,some 13,some 14,some 15,some 16,some 17,some 18,some 19,some 20,some 21,some 22,some 23,some 24,some 25,some 26,some 27,some 28,some 29,some 30,some 31,some 2] ?_;intro w2 B2;refine sh [] ?_;simp only[Act.put,lS,lZ,lC];have e:b=false:=by rw[<-hb_.out];unfold fmd sd;simp;omega
   subst e
   go_wp2_with fail
   exact bodyPost_ret (v:=.bool false) (by simp[results,Tryz.results14,go_sem]) rfl (a_x rfl (zup HZ.out B2))
  ·skip
   by_cases g14:0<=c
   rotate_left
   ·refine Run.start 30 ?_;refine .fa .o (fQ0 0) ?_;refine .ld (.i 0) (ldInt b1 0) ?_;refine .two (.i 1) .o (opGe (decide_eq_true g5)) ?_;refine .mv (.i 2) ?_;refine .fa .o (fQ0 0) ?_;refine .ld (.i 4) (ldInt b1 0) ?_;refine .two (.i 5) .o (opLe (decide_eq_true g9)) ?_;refine .pk (.i 3) (.i 6) true ?_;refine .mv (.i 7) ?_;refine .fa .o (fQ1 1) ?_;refine .ld (.i 9) (ldInt b1 1) ?_;refine .two (.i 10) .o (opGe (decide_eq_false g14)) ?_;refine .pk (.i 8) (.i 11) true ?_;refine .mv (.i 12) ?_;refine .no ?_;refine .no ?_;refine .no ?_;refine .pk (.i 13) .o false ?_;refine .mv (.i 17) ?_;refine .no ?_;refine .no ?_;refine .no ?_;refine .no ?_;refine .no ?_;refine .no ?_;refine .no ?_;refine .no ?_;refine .no ?_;refine .pk (.i 18) .o false ?_;refine .mv (.i 28) ?_;refine .donep [some 3,some 4,some 5,some 6,some 7,some 8,some 9,some 10,some 11,some 12,some 13,some 14,some 15,some 16,some 17,some 18,some 19,some 20,some 21,some 22,some 23,some 24,some 25,some 26,some 27,some 28,some 29,some 30,some 31,some 2] ?_;intro w2 B2;refine sh [] ?_;simp only[Act.put,lS,lZ,lC];have e:b=false:=by rw[<-hb_.out];unfold fmd sd;simp;omega
    subst e
    go_wp2_with fail
    exact bodyPost_ret (v:=.bool false) (by simp[results,Tryz.results14,go_sem]) rfl (a_x rfl (zup HZ.out B2))
   ·skip
    by_cases g19:c<=64
    rotate_left
    ·refine Run.start 30 ?_;refine .fa .o (fQ0 0) ?_;refine .ld (.i 0) (ldInt b1 0) ?_;refine .two (.i 1) .o (opGe (decide_eq_true g5)) ?_;refine .mv (.i 2) ?_;refine .fa .o (fQ0 0) ?_;refine .ld (.i 4) (ldInt b1 0) ?_;refine .two (.i 5) .o (opLe (decide_eq_true g9)) ?_;refine .pk (.i 3) (.i 6) true ?_;refine .mv (.i 7) ?_;refine .fa .o (fQ1 1) ?_;refine .ld (.i 9) (ldInt b1 1) ?_;refine .two (.i 10) .o (opGe (decide_eq_true g14)) ?_;refine .pk (.i 8) (.i 11) true ?_;refine .mv (.i 12) ?_;refine .fa .o (fQ1 1) ?_;refine .ld (.i 14) (ldInt b1 1) ?_;refine .two (.i 15) .o (opLe (decide_eq_false g19)) ?_;refine .pk (.i 13) (.i 16) true ?_;refine .mv (.i 17) ?_;refine .no ?_;refine .no ?_;refine .no ?_;refine .no ?_;refine .no ?_;refine .no ?_;refine .no ?_;refine .no ?_;refine .no ?_;refine .pk (.i 18) .o false ?_;refine .mv (.i 28) ?_;refine .donep [some 3,some 4,some 5,some 6,some 7,some 8,some 9,some 10,some 11,some 12,some 13,some 14,some 15,some 16,some 17,some 18,some 19,some 20,some 21,some 22,some 23,some 24,some 25,some 26,some 27,some 28,some 29,some 30,some 31,some 2] ?_;intro w2 B2;refine sh [] ?_;simp only[Act.put,lS,lZ,lC];have e:b=false:=by rw[<-hb_.out];unfold fmd sd;simp;omega
     subst e
     go_wp2_with fail
     exact bodyPost_ret (v:=.bool false) (by simp[results,Tryz.results14,go_sem]) rfl (a_x rfl (zup HZ.out B2))
    ·skip
     refine Run.start 30 ?_;refine .fa .o (fQ0 0) ?_;refine .ld (.i 0) (ldInt b1 0) ?_;refine .two (.i 1) .o (opGe (decide_eq_true g5)) ?_;refine .mv (.i 2) ?_;refine .fa .o (fQ0 0) ?_;refine .ld (.i 4) (ldInt b1 0) ?_;refine .two (.i 5) .o (opLe (decide_eq_true g9)) ?_;refine .pk (.i 3) (.i 6) true ?_;refine .mv (.i 7) ?_;refine .fa .o (fQ1 1) ?_;refine .ld (.i 9) (ldInt b1 1) ?_;refine .two (.i 10) .o (opGe (decide_eq_true g14)) ?_;refine .pk (.i 8) (.i 11) true ?_;refine .mv (.i 12) ?_;refine .fa .o (fQ1 1) ?_;refine .ld (.i 14) (ldInt b1 1) ?_;refine .two (.i 15) .o (opLe (decide_eq_true g19)) ?_;refine .pk (.i 13) (.i 16) true ?_;refine .mv (.i 17) ?_;refine .fa .o (fQ2 2) ?_;refine .ld (.i 19) (ldQl b1 2) ?_;refine .len (.i 20) Tryz.underlying22 ?_;refine .fa .o (fQ0 0) ?_;refine .ld (.i 22) (ldInt b1 0) ?_;refine .fa .o (fQ1 1) ?_;refine .ld (.i 24) (ldInt b1 1) ?_;refine .two (.i 23) (.i 25) (opMul rfl (j_d (by unfold sd;exact decide_eq_true ⟨g5,g9⟩) (by unfold sd;exact decide_eq_true ⟨g14,g19⟩)).1 (j_d (by unfold sd;exact decide_eq_true ⟨g5,g9⟩) (by unfold sd;exact decide_eq_true ⟨g14,g19⟩)).2) ?_;refine .two (.i 21) (.i 26) (opEq rfl) ?_;refine .pk (.i 18) (.i 27) true ?_;refine .mv (.i 28) ?_;refine .donep [some 3,some 4,some 5,some 6,some 7,some 8,some 9,some 10,some 11,some 12,some 13,some 14,some 15,some 16,some 17,some 18,some 19,some 20,some 21,some 22,some 23,some 24,some 25,some 26,some 27,some 28,some 29,some 30,some 31,some 2] ?_;intro w2 B2;refine sh [] ?_;simp only[Act.put,lS,lZ,lC];have e:decide ((n:Int)=r*c)=b:=by rw[<-hb_.out];unfold fmd sd;simp[g5,g9,g14,g19]
     rw[e];clear e
     go_wp2_with fail
     exact bodyPost_ret (v:=.bool b) (by simp[results,Tryz.results14,go_sem]) rfl (a_x rfl (zup HZ.out B2))
end
section
open Go.RowKit
theorem IsQv.below' {x:Rat}{k:Nat}{v:Value}{w w':World}(h:IsQv x k v w)(hb:Below w.heap.size w w'):IsQv x k v w':=o_m x k _ _ _ h hb
theorem r_s {q q':Bool}{r c n d k n' d' k':Nat}{A A':Option Addr}{F G:Nat->Nat->Rat}{w:World}(ha:Mq q w r c A n d k F)(hb:Mq q' w r c A' n' d' k' G)(hF:∀i j,i<r->j<c->F i j=G i j)(hk:max 1 (max k k')<=1073741824):Calls Tryz.prog 20 #[.agg #[.int .i64 (r:Int),.int .i64 (c:Int),.slice A n d],.agg #[.int .i64 (r:Int),.int .i64 (c:Int),.slice A' n' d']] w (RetK (.k (.bool true)) w):=by
 have hn:=ha.len;have hn':=hb.len;obtain rfl:n=n':=by omega
 clear hn';have hnd:=ha.ql.le;have hdm:=ha.ql.cap;have HX:=Lib.hid ha.ql;have hb2:=hb.congr fun i j hi hj=>(hF i j hi hj).symm;have HY:=Lib.hid hb2.ql;obtain⟨w1,hw1,b2,b3,z1,s1⟩:=boxes2 w 24 24 [.int .i64 (r:Int),.int .i64 (c:Int),.slice A n d] [.int .i64 (r:Int),.int .i64 (c:Int),.slice A' n d'];have HW:=Lib.hid hw1;have HZ:=Lib.hid z1;clear hw1 z1 ha hb hb2 hF hn;go_enter Tryz.func20,Tryz.ntmps20
 go_upto_region 1 with fail
 rw[HW.out];refine Run.start 12 ?_;refine .fa .o (fQ0 0) ?_;refine .ld (.i 0) (ldInt b2 0) ?_;refine .fa .o (fQ0 0) ?_;refine .ld (.i 2) (ldInt b3 0) ?_;refine .two (.i 1) (.i 3) (opNe (by simp:decide ((r:Int)≠(r:Int))=false)) ?_;refine .mv (.i 4) ?_;refine .fa .o (fQ1 1) ?_;refine .ld (.i 6) (ldInt b2 1) ?_;refine .fa .o (fQ1 1) ?_;refine .ld (.i 8) (ldInt b3 1) ?_;refine .two (.i 7) (.i 9) (opNe (by simp:decide ((c:Int)≠(c:Int))=false)) ?_;refine .pk (.i 5) (.i 10) false ?_;refine .donep [some 6,some 7,some 8,some 9,some 10,some 11,some 12,some 13,some 14,some 15,some 16,some 17] ?_;intro w2 B2;refine sh [] ?_;simp only[Act.put,lS,lZ,lC];have HB:Hid (Below w.heap.size w w2/\Bx w2 (w.heap.size) 24 [.int .i64 (r:Int),.int .i64 (c:Int),.slice A n d]/\Bx w2 (w.heap.size+1) 24 [.int .i64 (r:Int),.int .i64 (c:Int),.slice A' n d']):=Lib.hid ⟨zup HZ.out B2,b2.below B2,b3.below B2⟩;clear b2 b3 HW HZ s1 B2
 go_wp2_with fail
 go_loopw [5] (fun s5 wr=>∃j:Nat,s5= .int .i64 (j:Int)/\j<=n/\Hid (Below w.heap.size w wr/\Bx wr (w.heap.size) 24 [.int .i64 (r:Int),.int .i64 (c:Int),.slice A n d]/\Bx wr (w.heap.size+1) 24 [.int .i64 (r:Int),.int .i64 (c:Int),.slice A' n d'])) (fun s5 _=>n - (intOf s5).toNat)
 case atStart=>exact⟨0,rfl,Nat.zero_le _,HB⟩
 case round=>
  clear HB;obtain⟨j,rfl,hj,HB⟩:=hrel;obtain⟨B0,b2,b3⟩:=HB.out;clear HB;have i2:=b2.cell 2;simp only[List.getElem?_cons_succ,List.getElem?_cons_zero]at i2;by_cases hlt:j<n
  ·have u2:(j:Int)<(n:Int):=by omega
   obtain⟨ad,rfl,hab,hA⟩:=(HX.out.below B0).at hlt;obtain⟨s_,A_,n_,c_,t_,B_,m_,d_,e0,e1,e2,e3,ze,hk1,hk2⟩:=hA;obtain⟨ad',rfl,hab',hA'⟩:=(HY.out.below B0).at hlt;obtain⟨s',A1,n1,c1,t',B1,m1,d1,e0',e1',e2',e3',ze',hk1',hk2'⟩:=hA';go_upto_region 6 with fail
   clear i2;refine Run.start 12 ?_;refine .fa .o (fQ2 2) ?_;refine .ld (.i 0) (ldQl b2 2) ?_;refine .mv .o ?_;refine .two (.i 1) (.i 2) (opIxQ hlt) ?_;refine .ld (.i 3) (ldQ (by rw[a_b];exact hab) e0 e1 e2 e3) ?_;refine .fa .o (fQ2 2) ?_;refine .ld (.i 5) (ldQl b3 2) ?_;refine .mv .o ?_;refine .two (.i 6) (.i 7) (opIxQ hlt) ?_;refine .ld (.i 8) (ldQ (by rw[a_b];exact hab') e0' e1' e2' e3') ?_;refine .c2 (.i 4) (.i 9) (x:=.k (.int .i64 0)) (by rintro u v w2 hB rfl rfl;exact o_8 (max 1 (max k k')) ((ze.1.is hk1 hk2).below' hB) ((ze'.1.is hk1' hk2').below' hB) (by omega) (by omega) (by omega) hk (rsg_sub_zero.2 rfl)) ?_;refine .two (.i 10) .o (opNe (by decide:decide ((0:Int)≠0)=false)) ?_;refine .done [some 25,some 26,some 27,some 28,some 29,some 30,some 31,some 32,some 33,some 34,some 35,some 36] ?_;intro w3 B3;refine sh [] ?_;simp only[Act.put,lS,lZ,lC];have HN2:Hid (Below w.heap.size w w3/\Bx w3 (w.heap.size) 24 [.int .i64 (r:Int),.int .i64 (c:Int),.slice (some ad) n d]/\Bx w3 (w.heap.size+1) 24 [.int .i64 (r:Int),.int .i64 (c:Int),.slice (some ad') n d']):=Lib.hid ⟨zup B0 B3,b2.below B3,b3.below B3⟩;clear b2 b3 B0 B3 e0 e1 e2 e3 ze e0' e1' e2' e3' ze'
   go_wp2_with fail
   go_roundw
   case rel=>exact⟨j+1,by go_num,by omega,HN2⟩
   case measure=>first|(simp[intOf];done)|(simp[intOf];omega)
  ·obtain rfl:j=n:=by omega
   have u2:¬(j:Int)<(j:Int):=by omega
   go_wp2_with fail
   exact bodyPost_ret (v:=.bool true) (by simp[results,Tryz.results20,go_sem]) rfl (a_x rfl B0)
end
section
open Go.RowKit
def Fwq (r c:Int)(R:List Qr)(S W:Nat):Prop:=(∀j,j<R.length->j<100->(R.getD j nqr).n<=W/\(R.getD j nqr).m<=W)/\r<=S/\c<=S/\R.length<=100
theorem Qv.caps {w:World}{s t:Bool}{A B:Option Addr}{n c m d:Nat}{x:Rat}(h:Qv w s A n c t B m d x):n<=9223372036854775807/\m<=9223372036854775807:=by
 obtain⟨N,D,⟨v,⟨xs,h1,h2,h3,h4,_⟩,_⟩,⟨u,⟨ys,i1,i2,i3,i4,_⟩,_⟩,_⟩:=h;omega
theorem x_t {R:List Qr}{j:Nat}(h:j<R.length):R.getD j nqr∈R:=by
 rw[show R.getD j nqr=R[j] by simp[List.getD,h]];exact List.getElem_mem h
theorem e_2 {r c:Int}{A:Option Addr}{n d S W:Nat}{R:List Qr}{b:Bool}{w:World}(hx:RQ w A n d R)(hb:b=true↔Fwq r c R S W)(hW':W<=100):Calls Tryz.prog 7 #[.agg #[.int .i64 r,.int .i64 c,.slice A n d],.int .i64 (S:Int),.int .i64 (W:Int)] w (RetK (.k (.bool b)) w):=by
 have hnd:=hx.le;have hdm:=hx.cap;have HN:=Lib.hid hx.len;have HX:=Lib.hid hx;obtain⟨w1,hw1,b3,z1,s1⟩:=boxes1 w 24 [.int .i64 r,.int .i64 c,.slice A n d];have HW:=Lib.hid hw1;have HZ:=Lib.hid z1;have hb_:=Lib.hid hb;clear hw1 z1 hb hx;go_enter Tryz.func7,Tryz.ntmps7
 go_upto_region 1 with fail
 rw[HW.out];have HB:Hid (Below w.heap.size w w1/\Bx w1 (w.heap.size) 24 [.int .i64 r,.int .i64 c,.slice A n d]):=Lib.hid ⟨HZ.out,b3⟩;clear b3 HW HZ s1
 go_wp2_with fail
 go_loopw [7] (fun s7 wr=>∃j:Nat,s7= .int .i64 (j:Int)/\j<=n/\Hid (∀i,i<j->(R.getD i nqr).n<=W/\(R.getD i nqr).m<=W)/\Hid (Below w.heap.size w wr/\Bx wr (w.heap.size) 24 [.int .i64 r,.int .i64 c,.slice A n d])) (fun s7 _=>n - (intOf s7).toNat)
 case atStart=>exact⟨0,rfl,Nat.zero_le _,Lib.hid fun i hi=>absurd hi (Nat.not_lt_zero i),HB⟩
 case round=>
  clear HB;obtain⟨j,rfl,hj,HE,HB⟩:=hrel;obtain⟨B0,b3⟩:=HB.out;clear HB;have i2:=b3.cell 2;simp only[List.getElem?_cons_succ,List.getElem?_cons_zero]at i2;have stop:(¬j<n\/¬j<100)->(b=true↔r<=(S:Int)/\c<=(S:Int)/\n<=100):=fun hs=>by
   rw[hb_.out];refine⟨fun h=>⟨h.2.1,h.2.2.1,by rw[<-HN.out];exact h.2.2.2⟩,fun h=>⟨fun i hi h1=>HE.out i ?_,h.1,h.2.1,by rw[HN.out];exact h.2.2⟩⟩;rw[HN.out]at hi;omega
  have HS:=Lib.hid stop;clear stop;by_cases hgo:j<n/\j<100
  ·obtain⟨hlt,h100⟩:=hgo;have u2:(j:Int)<(n:Int):=by omega
   have u3:(j:Int)<100:=by omega
   obtain⟨ad,rfl,hab,hA⟩:=(HX.out.below B0).at' (by omega);obtain⟨e0,e1,e2,e3⟩:=hA j hlt;have hcap:=(HX.out.num _ (x_t (R:=R) (j:=j) (by rw[HN.out];exact hlt))).caps;obtain⟨x,hx⟩:∃x,R.getD j nqr=x:=⟨_,rfl⟩;rw[hx]at e0 e1 e2 e3 hcap;obtain⟨hc1,hc2⟩:=hcap;have HXJ:=Lib.hid hx;clear hA hx;go_upto_region 4 with fail
   clear i2;by_cases hw:x.n<=W/\x.m<=W
   ·refine Run.start 8 ?_;refine .fa .o (fQ2 2) ?_;refine .ld (.i 0) (ldQl b3 2) ?_;refine .mv .o ?_;refine .two (.i 1) (.i 2) (opIxQ hlt) ?_;refine .ld (.i 3) (ldQ (by show(ad.add (j*4)).block<_;rw[a_b];exact hab) e0 e1 e2 e3) ?_;refine .mv .o ?_;refine .c2 (.i 4) (.i 5) (x:=.k (.bool true)) (by rintro u v w2 hB rfl rfl;exact(t_2 hc1 hc2 hW' (decide_eq_true hw)).mono fun e w' h=>⟨_,h.1,rfl,h.2⟩) ?_;refine .nt (.i 6) ?_;refine .donep [some 19,some 20,some 21,some 22,some 23,some 24,some 25,some 26] ?_;intro w2 B2;refine sh [] ?_;simp only[Act.put,lS,lZ,lC];have HN2:Hid (Below w.heap.size w w2/\Bx w2 (w.heap.size) 24 [.int .i64 r,.int .i64 c,.slice (some ad) n d]):=Lib.hid ⟨zup B0 B2,b3.below B2⟩;have HE2:Hid (∀i,i<j+1->(R.getD i nqr).n<=W/\(R.getD i nqr).m<=W):=Lib.hid fun i hi=>by
     rcases Nat.lt_or_ge i j with h|h
     ·exact HE.out i h
     ·rw[show i=j by omega,HXJ.out];exact hw
    clear b3 B0 B2 e0 e1 e2 e3 hw
    go_wp2_with fail
    go_roundw
    case rel=>exact⟨j+1,by go_num,by omega,HE2,HN2⟩
    case measure=>first|(simp[intOf];done)|(simp[intOf];omega)
   ·refine Run.start 8 ?_;refine .fa .o (fQ2 2) ?_;refine .ld (.i 0) (ldQl b3 2) ?_;refine .mv .o ?_;refine .two (.i 1) (.i 2) (opIxQ hlt) ?_;refine .ld (.i 3) (ldQ (by show(ad.add (j*4)).block<_;rw[a_b];exact hab) e0 e1 e2 e3) ?_;refine .mv .o ?_;refine .c2 (.i 4) (.i 5) (x:=.k (.bool false)) (by rintro u v w2 hB rfl rfl;exact(t_2 hc1 hc2 hW' (decide_eq_false hw)).mono fun e w' h=>⟨_,h.1,rfl,h.2⟩) ?_;refine .nf (.i 6) ?_;refine .donep [some 19,some 20,some 21,some 22,some 23,some 24,some 25,some 26] ?_;intro w2 B2;refine sh [] ?_;simp only[Act.put,lS,lZ,lC];have e:b=false:=by
     cases b with
     |false=>rfl
     |true=>exact absurd ((hb_.out.1 rfl).1 j (by rw[HN.out];exact hlt) h100) (by rw[HXJ.out];exact hw)
    subst e;clear hw e0 e1 e2 e3
    go_wp2_with fail
    exact bodyPost_ret (v:=.bool false) (by simp[results,Tryz.results7,go_sem]) rfl (a_x rfl (zup B0 B2))
  ·have hst:=HS.out (Classical.not_and_iff_not_or_not.1 hgo);clear HS;go_upto_region 2 with fail
   have W2:∃t,(decide ((j:Int)<(n:Int))=t):=⟨_,rfl⟩;obtain⟨t,ht⟩:=W2;cases t;case' false=>
    refine Run.start 9 ?_;refine .mv .o ?_;refine .fa .o (fQ2 2) ?_;refine .ld (.i 1) (ldQl b3 2) ?_;refine .len (.i 2) Tryz.underlying22 ?_;refine .two (.i 0) (.i 3) (opLt ht) ?_;refine .mv (.i 4) ?_;refine .no ?_;refine .no ?_;refine .pk (.i 5) .o false ?_
   case' true=>
    refine Run.start 9 ?_;refine .mv .o ?_;refine .fa .o (fQ2 2) ?_;refine .ld (.i 1) (ldQl b3 2) ?_;refine .len (.i 2) Tryz.underlying22 ?_;refine .two (.i 0) (.i 3) (opLt ht) ?_;refine .mv (.i 4) ?_;refine .mv .o ?_;refine .two (.i 6) .o (opLt (decide_eq_false (by have:=of_decide_eq_true ht;omega:¬(j:Int)<100))) ?_;refine .pk (.i 5) (.i 7) true ?_
   all_goals
    refine .donep [some 8,some 9,some 10,some 11,some 12,some 13,some 14,some 15,some 16] ?_;intro w2 B2;refine sh [] ?_;simp only[Act.put,lS,lZ,lC];replace b3:=b3.below B2;clear i2;go_upto_region 6 with fail
    by_cases g30:r<=(S:Int)
    rotate_left
    ·refine Run.start 17 ?_;refine .fa .o (fQ0 0) ?_;refine .ld (.i 0) (ldInt b3 0) ?_;refine .mv .o ?_;refine .two (.i 1) (.i 2) (opLe (decide_eq_false g30)) ?_;refine .mv (.i 3) ?_;refine .no ?_;refine .no ?_;refine .no ?_;refine .no ?_;refine .pk (.i 4) .o false ?_;refine .mv (.i 9) ?_;refine .no ?_;refine .no ?_;refine .no ?_;refine .no ?_;refine .pk (.i 10) .o false ?_;refine .mv (.i 15) ?_;refine .donep [some 27,some 28,some 29,some 30,some 31,some 32,some 33,some 34,some 35,some 36,some 37,some 38,some 39,some 40,some 41,some 42,some 6] ?_;intro w3 B3;refine sh [] ?_;simp only[Act.put,lS,lZ,lC];have e:b=false:=by
      cases b with
      |false=>rfl
      |true=>exact absurd (hst.1 rfl) (by simp[g30])
     subst e
     go_wp2_with fail
     exact bodyPost_ret (v:=.bool false) (by simp[results,Tryz.results7,go_sem]) rfl (a_x rfl (zup (zup B0 B2) B3))
    by_cases g35:c<=(S:Int)
    rotate_left
    ·refine Run.start 17 ?_;refine .fa .o (fQ0 0) ?_;refine .ld (.i 0) (ldInt b3 0) ?_;refine .mv .o ?_;refine .two (.i 1) (.i 2) (opLe (decide_eq_true g30)) ?_;refine .mv (.i 3) ?_;refine .fa .o (fQ1 1) ?_;refine .ld (.i 5) (ldInt b3 1) ?_;refine .mv .o ?_;refine .two (.i 6) (.i 7) (opLe (decide_eq_false g35)) ?_;refine .pk (.i 4) (.i 8) true ?_;refine .mv (.i 9) ?_;refine .no ?_;refine .no ?_;refine .no ?_;refine .no ?_;refine .pk (.i 10) .o false ?_;refine .mv (.i 15) ?_;refine .donep [some 27,some 28,some 29,some 30,some 31,some 32,some 33,some 34,some 35,some 36,some 37,some 38,some 39,some 40,some 41,some 42,some 6] ?_;intro w3 B3;refine sh [] ?_;simp only[Act.put,lS,lZ,lC];have e:b=false:=by
      cases b with
      |false=>rfl
      |true=>exact absurd (hst.1 rfl) (by simp[g35])
     subst e
     go_wp2_with fail
     exact bodyPost_ret (v:=.bool false) (by simp[results,Tryz.results7,go_sem]) rfl (a_x rfl (zup (zup B0 B2) B3))
    by_cases g41:n<=100
    rotate_left
    ·refine Run.start 17 ?_;refine .fa .o (fQ0 0) ?_;refine .ld (.i 0) (ldInt b3 0) ?_;refine .mv .o ?_;refine .two (.i 1) (.i 2) (opLe (decide_eq_true g30)) ?_;refine .mv (.i 3) ?_;refine .fa .o (fQ1 1) ?_;refine .ld (.i 5) (ldInt b3 1) ?_;refine .mv .o ?_;refine .two (.i 6) (.i 7) (opLe (decide_eq_true g35)) ?_;refine .pk (.i 4) (.i 8) true ?_;refine .mv (.i 9) ?_;refine .fa .o (fQ2 2) ?_;refine .ld (.i 11) (ldQl b3 2) ?_;refine .len (.i 12) Tryz.underlying22 ?_;refine .two (.i 13) .o (opLe (decide_eq_false (by omega:¬(n:Int)<=100))) ?_;refine .pk (.i 10) (.i 14) true ?_;refine .mv (.i 15) ?_;refine .donep [some 27,some 28,some 29,some 30,some 31,some 32,some 33,some 34,some 35,some 36,some 37,some 38,some 39,some 40,some 41,some 42,some 6] ?_;intro w3 B3;refine sh [] ?_;simp only[Act.put,lS,lZ,lC];have e:b=false:=by
      cases b with
      |false=>rfl
      |true=>exact absurd (hst.1 rfl) (by simp[g41])
     subst e
     go_wp2_with fail
     exact bodyPost_ret (v:=.bool false) (by simp[results,Tryz.results7,go_sem]) rfl (a_x rfl (zup (zup B0 B2) B3))
    refine Run.start 17 ?_;refine .fa .o (fQ0 0) ?_;refine .ld (.i 0) (ldInt b3 0) ?_;refine .mv .o ?_;refine .two (.i 1) (.i 2) (opLe (decide_eq_true g30)) ?_;refine .mv (.i 3) ?_;refine .fa .o (fQ1 1) ?_;refine .ld (.i 5) (ldInt b3 1) ?_;refine .mv .o ?_;refine .two (.i 6) (.i 7) (opLe (decide_eq_true g35)) ?_;refine .pk (.i 4) (.i 8) true ?_;refine .mv (.i 9) ?_;refine .fa .o (fQ2 2) ?_;refine .ld (.i 11) (ldQl b3 2) ?_;refine .len (.i 12) Tryz.underlying22 ?_;refine .two (.i 13) .o (opLe (decide_eq_true (by omega:(n:Int)<=100))) ?_;refine .pk (.i 10) (.i 14) true ?_;refine .mv (.i 15) ?_;refine .donep [some 27,some 28,some 29,some 30,some 31,some 32,some 33,some 34,some 35,some 36,some 37,some 38,some 39,some 40,some 41,some 42,some 6] ?_;intro w3 B3;refine sh [] ?_;simp only[Act.put,lS,lZ,lC];have e:b=true:=hst.2 ⟨g30,g35,g41⟩;subst e
    go_wp2_with fail
    exact bodyPost_ret (v:=.bool true) (by simp[results,Tryz.results7,go_sem]) rfl (a_x rfl (zup (zup B0 B2) B3))
end
section
open Go.RowKit
def qf (R:List Qr)(c:Nat):RT.Mx Rat:=fun i j=>rth (qnums R) (i*c+j)
theorem RQ.mq {w:World}{r c:Int}{n d S W:Nat}{A:Option Addr}{R:List Qr}(ha:RQ w A n d R)(hf:fmd r c n=true)(h:Fwq r c R S W):∃r' c':Nat,r=(r':Int)/\c=(c':Int)/\r'<=S/\c'<=S/\Mq false w r' c' A n d W (qf R c'):=by
 unfold fmd sd at hf;simp only[Bool.and_eq_true,decide_eq_true_eq]at hf;obtain⟨⟨⟨h1,h2⟩,h3,h4⟩,h5⟩:=hf;obtain⟨h6,h7,h8,h9⟩:=h;obtain⟨r',rfl⟩:=Int.eq_ofNat_of_zero_le h1;obtain⟨c',rfl⟩:=Int.eq_ofNat_of_zero_le h3;have hn:n=r'*c':=by
  have:((n:Nat):Int)=((r'*c':Nat):Int):=by rw[h5];simp
  omega
 have hl:=ha.len;refine⟨r',c',rfl,rfl,by omega,by omega,⟨?_,by omega,by omega⟩⟩;have hq:=ha.ql (k:=W) fun j hj=>h6 j (by omega) (by omega);rw[<-x_z (r:=r') (c:=c') (xs:=qnums R) (by rw[j_p,hl,hn])]at hq;exact hq
end
end Go.Proofs.YtfhbdlegkdbmfaaGreat
