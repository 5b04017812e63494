/- Pc09 -/
import Derived.Test.YtfhbdlegkdbmfaaGreatPc08
import Derived.IntWalk
set_option linter.unusedVariables false
set_option linter.unusedSimpArgs false
set_option linter.unusedSectionVars false
set_option maxRecDepth 100000
set_option maxHeartbeats 8000000
namespace Go.Proofs.YtfhbdlegkdbmfaaGreat
section
open Go.RowKit
section
variable {w:World}{g g' n c n0 c0 n' c':Nat}{s s0 s':Bool}{A A0 A':Option Addr}
theorem Ib.entry {T:TypeId}(h:w.heap[g]? =some (.cells #[.bool s,.slice A n c] T)):Ib w g s A n c:=
 ⟨cell_of_row w g 0 _ _ _ h,cell_of_row w g 1 _ _ _ h,frozen_of_row w g 0 _ _ h,frozen_of_row w g 1 _ _ h,(Array.getElem?_eq_some_iff.1 h).1⟩
end
end
section
open Go.RowKit
theorem open2 (w:World)(s t:Bool)(A B:Option Addr)(n c m d:Nat):
  ∃w3,w3=((w.alloc (.cells #[.bool s,.slice A n c] 31)).alloc (.cells #[.bool t,.slice B m d] 31))/\
   Ib w3 w.heap.size s A n c/\Ib w3 (w.heap.size+1) t B m d/\Below w.heap.size w w3:=by
 refine⟨_,rfl, ?_, ?_,zba2 _ _ _⟩
 ·exact(Ib.new w s A n c _).below (zba _ _)
 ·have:=Ib.new (w.alloc (.cells #[.bool s,.slice A n c] 31)) t B m d 31;simpa using this
theorem i_4 {X Y:Int}(h:X.sign≠Y.sign):(X.sign - Y.sign).sign=(X - Y).sign:=by
 rcases Int.lt_trichotomy X 0 with h1|h1|h1
 ·rw[Int.sign_eq_neg_one_of_neg h1]at *;rcases Int.lt_trichotomy Y 0 with h2|h2|h2
  ·rw[Int.sign_eq_neg_one_of_neg h2]at h;omega
  ·subst h2;simp;rw[Int.sign_eq_neg_one_of_neg h1]
  ·rw[Int.sign_eq_one_of_pos h2,Int.sign_eq_neg_one_of_neg (a:=X - Y) (by omega)];rfl
 ·subst h1;rcases Int.lt_trichotomy Y 0 with h2|h2|h2
  ·rw[Int.sign_eq_neg_one_of_neg h2,Int.sign_eq_one_of_pos (a:=0 - Y) (by omega)];rfl
  ·subst h2;simp at h
  ·rw[Int.sign_eq_one_of_pos h2,Int.sign_eq_neg_one_of_neg (a:=0 - Y) (by omega)];rfl
 ·rw[Int.sign_eq_one_of_pos h1]at *;rcases Int.lt_trichotomy Y 0 with h2|h2|h2
  ·rw[Int.sign_eq_neg_one_of_neg h2,Int.sign_eq_one_of_pos (a:=X - Y) (by omega)];rfl
  ·subst h2;simp;rw[Int.sign_eq_one_of_pos h1]
  ·rw[Int.sign_eq_one_of_pos h2]at h;omega
theorem h_9 {X:Int}(h:X.sign<0):X<0:=by
 rcases Int.lt_trichotomy X 0 with h1|h1|h1
 ·exact h1
 ·subst h1;simp at h
 ·rw[Int.sign_eq_one_of_pos h1]at h;omega
theorem e_g {X:Int}(h:¬X.sign<0):0<=X:=by
 rcases Int.lt_trichotomy X 0 with h1|h1|h1
 ·rw[Int.sign_eq_neg_one_of_neg h1]at h;omega
 ·omega
 ·omega
theorem n_p {A B:Option Addr}{n m c d:Nat}{s t:Bool}{x y r:Int}{w:World}(hx:Zv w s A n c x)(hy:Zv w t B m d y)(hn:n<=1099511627776)(hm:m<=1099511627776)(hr:(x - y).sign=r):
  Calls Tryz.prog 49 #[.agg #[.bool s,.slice A n c],.agg #[.bool t,.slice B m d]] w (IPost r w):=by
 obtain⟨w3,hw3,IA,IB,z0⟩:=open2 w s t A B n c m d;have hX:=Lib.hid (hx.below z0);have hY:=Lib.hid (hy.below z0);have HZ:=Lib.hid z0;have HW:=Lib.hid hw3.symm;obtain⟨r1,hr1⟩:∃r1,x.sign=r1:=⟨_,rfl⟩;obtain⟨r2,hr2⟩:∃r2,y.sign=r2:=⟨_,rfl⟩;have HR:=Lib.hid hr;have HR1:=Lib.hid hr1;have HR2:=Lib.hid hr2;clear hx hy z0 hw3 hr hr1 hr2;have HA:=Lib.hid IA;have HB:=Lib.hid IB;obtain⟨a1,a2,a3,a4,a5⟩:=IA;obtain⟨b1,b2,b3,b4,b5⟩:=IB;go_enter Tryz.func49,Tryz.ntmps49
 go_wp2_with fail
 rw[HW.out]
 go_region_held3 (fun w'=>w'.cell? ⟨w.heap.size,0,none⟩=some (.bool s)/\w'.cell? ⟨w.heap.size,1,none⟩=some (.slice A n c)/\w'.cell? ⟨w.heap.size+1,0,none⟩=some (.bool t)/\w'.cell? ⟨w.heap.size+1,1,none⟩=some (.slice B m d)) (go_keep) (first
  |(go_at_call 11;(with_reducible refine(f_c (z:=x) (hX.out.below (a_a _)) hn HR1.out).mono ?_);rintro e w4 ⟨rfl,B4⟩;have Q4:=zup (a_a _) B4;obtain⟨u1,u2,_⟩:=HA.out.below Q4;obtain⟨u3,u4,_⟩:=HB.out.below Q4)
  |(go_at_call 11;(with_reducible refine(f_c (z:=y) (hY.out.below Q4) hm HR2.out).mono ?_);rintro e w5 ⟨rfl,B5⟩;have Q5:=zup Q4 B5;obtain⟨v1,v2,_⟩:=HA.out.below Q5;obtain⟨v3,v4,_⟩:=HB.out.below Q5))
 clear u1 u2 u3 u4 a1 a2 a3 a4 a5 b1 b2 b3 b4 b5;have HQ:=Lib.hid (zup HZ.out Q5);have XQ:=Lib.hid (hX.out.below Q5).abs;have YQ:=Lib.hid (hY.out.below Q5).abs;clear Q4 Q5 B4 B5;by_cases h:r1=r2
 ·subst h;by_cases h0:r1<0
  ·have e1:s=true:=by
    have:=h_9 (X:=x) (by rw[HR1.out];exact h0);have e:=XQ.out.2.out;cases s
    ·simp[sg]at e;omega
    ·rfl
   have e2:t=true:=by
    have:=h_9 (X:=y) (by rw[HR2.out];exact h0);have e:=YQ.out.2.out;cases t
    ·simp[sg]at e;omega
    ·rfl
   have hc:cmpN y.natAbs x.natAbs=r:=by
    rw[<-HR.out,f_2 true (by rw[<-e1];exact XQ.out.2.out) (by rw[<-e2];exact YQ.out.2.out)];rfl
   have HC:=Lib.hid hc;clear e1 e2 hc
   go_wp2_with fail
   refine(l_r YQ.out.1 XQ.out.1 HC.out).mono ?_;rintro e w6 ⟨rfl,B6⟩;have HQ2:=Lib.hid (zup HQ.out B6);clear B6
   go_wp2_with fail
   go_ret
   exact⟨rfl,HQ2.out⟩
  ·have hc:cmpN x.natAbs y.natAbs=r:=by
    have h1:=e_g (X:=x) (by rw[HR1.out];exact h0);have h2:=e_g (X:=y) (by rw[HR2.out];exact h0);rw[<-HR.out,f_2 (X:=x) (Y:=y) (x:=x.natAbs) (y:=y.natAbs) false (by simp[sg];omega) (by simp[sg];omega)];rfl
   have HC:=Lib.hid hc;clear hc
   go_wp2_with fail
   refine(l_r XQ.out.1 YQ.out.1 HC.out).mono ?_;rintro e w6 ⟨rfl,B6⟩;have HQ2:=Lib.hid (zup HQ.out B6);clear B6
   go_wp2_with fail
   go_ret
   exact⟨rfl,HQ2.out⟩
 ·have q1:(r1==r2)=false:=by rw[beq_eq_false_iff_ne];exact h
  have q2:(r1 != r2)=true:=by rw[bne_iff_ne];exact h
  have hc:(r1 - r2).sign=r:=by
   rw[<-HR1.out,<-HR2.out,<-HR.out];exact i_4 (by rw[HR1.out,HR2.out];exact h)
  have HC:=Lib.hid hc;clear hc h
  go_wp2_with fail
  refine(f_y r1 r2 r HC.out _).mono ?_;rintro e w' ⟨rfl,rfl⟩
  go_wp2_with fail
  go_ret
  exact⟨rfl,HQ.out⟩
theorem o_e {A B:Option Addr}{n m c d:Nat}{s t b:Bool}{x y:Int}{w:World}(hx:Zv w s A n c x)(hy:Zv w t B m d y)(hn:n<=1099511627776)(hm:m<=1099511627776)(hb:decide (x=y)=b):
  Calls Tryz.prog 17 #[.agg #[.bool s,.slice A n c],.agg #[.bool t,.slice B m d]] w fun e w'=>e= .returned (.bool b)/\Below w.heap.size w w':=by
 obtain⟨w3,hw3,IA,IB,z0⟩:=open2 w s t A B n c m d;have hX:=hx.below z0;have hY:=hy.below z0;have HZ:=Lib.hid z0;have HW:=Lib.hid hw3.symm;obtain⟨r,hr⟩:∃r,(x - y).sign=r:=⟨_,rfl⟩;have HR:=Lib.hid hr;have q1:(r==0)=b:=by
  rw[<-hb,<-hr,Bool.eq_iff_iff,beq_iff_eq,decide_eq_true_iff,Int.sign_eq_zero_iff_zero];omega
 clear hx hy z0 hw3 hr hb;obtain⟨a1,a2,a3,a4,a5⟩:=IA;obtain⟨b1,b2,b3,b4,b5⟩:=IB;go_enter Tryz.func17,Tryz.ntmps17
 go_wp2_with fail
 rw[HW.out];refine(n_p hX hY hn hm HR.out).mono ?_;rintro e w4 ⟨rfl,B4⟩;have HQ:=Lib.hid (zup HZ.out B4);clear B4 a1 a2 a3 a4 a5 b1 b2 b3 b4 b5 hX hY
 go_wp2_with fail
 go_ret
 exact⟨rfl,HQ.out⟩
def ZPowPost (z:Int)(k:Nat)(w:World)(e:Ending)(w':World):Prop:=
 ∃s A n c,e= .returned (.tuple #[.agg #[.bool s,.slice A n c],.bool true])/\Zc w' s A n c z/\n<=k/\Below w.heap.size w w'
theorem zfin2 {w w2:World}{A B:Option Addr}{n c g k m d:Nat}{s t:Bool}{z:Int}(h:Zc w2 s A n c z)(hi:Ib w2 g t B m d)(hk:n<=k)(hg:w.heap.size<=g)(hB:Below w.heap.size w w2):
  ZPowPost z k w (.returned (.tuple #[.agg #[.bool s,.slice A n c],.bool true])) ((w2.setCell ⟨g,0,none⟩ (.bool s)).setCell ⟨g,1,none⟩ (.slice A n c)):=
 ⟨s,A,n,c,rfl,h.put hi,hk,a_l hB hg⟩
end
section
open Go.RowKit
def Bx (w:World)(g:Nat)(T:TypeId)(cs:List Value):Prop:=w.heap[g]? =some (.cells cs.toArray T (0,0))
section
variable {w w':World}{g h:Nat}{T U:TypeId}{cs ds:List Value}
theorem Bx.lt (b:Bx w g T cs):g<w.heap.size:=(Array.getElem?_eq_some_iff.1 b).1
theorem Bx.below (b:Bx w g T cs)(hb:Below w.heap.size w w'):Bx w' g T cs:=(hb.block g b.lt).trans b
theorem Bx.cell (b:Bx w g T cs)(o:Nat):w.cell? ⟨g,o,none⟩=cs[o]? :=by
 rw[cell_of_row w g o _ _ _ b];simp
theorem Bx.free (b:Bx w g T cs)(o:Nat):w.frozen? ⟨g,o,none⟩=false:=frozen_of_row w g o _ _ b
theorem Bx.new (w:World)(T:TypeId)(cs:List Value):Bx (w.alloc (.cells cs.toArray T)) w.heap.size T cs:=heap_alloc_new w _
theorem Bx.set (b:Bx w g T cs)(o:Nat)(v:Value):Bx (w.setCell ⟨g,o,none⟩ v) g T (cs.set o v):=by
 unfold Bx;rw[heap_setCell_same w g _ _ _ _ b];simp
theorem Bx.off (b:Bx w g T cs)(hn:g≠h)(o:Nat)(v:Value):Bx (w.setCell ⟨h,o,none⟩ v) g T cs:=(Below.heap_setCell _ _ _ _ (fun e=>hn (by rw[e]))).trans b
theorem a_t (b:Bx w g T cs)(hg:w.grownBy w' (some h))(hn:g≠h):Bx w' g T cs:=(hg.block g b.lt (fun e=>hn (Option.some.inj e))).trans b
theorem boxes1 (w:World)(T:TypeId)(cs:List Value):∃w1,w.alloc (.cells cs.toArray T)=w1/\Bx w1 w.heap.size T cs/\Below w.heap.size w w1/\w1.heap.size=w.heap.size+1:=⟨_,rfl,Bx.new _ _ _,zba _ _,by simp⟩
theorem boxes2 (w:World)(T U:TypeId)(cs ds:List Value):∃w1,(w.alloc (.cells cs.toArray T)).alloc (.cells ds.toArray U)=w1/\Bx w1 w.heap.size T cs/\Bx w1 (w.heap.size+1) U ds/\Below w.heap.size w w1/\w1.heap.size=w.heap.size+1+1:=
 ⟨_,rfl,(Bx.new _ _ _).below (zba _ _),by have:=Bx.new (w.alloc (.cells cs.toArray T)) U ds;simpa using this,zba2 _ _ _,by simp⟩
theorem boxes3 (w:World)(T U V:TypeId)(cs ds es:List Value):∃w1,((w.alloc (.cells cs.toArray T)).alloc (.cells ds.toArray U)).alloc (.cells es.toArray V)=w1/\Bx w1 w.heap.size T cs/\Bx w1 (w.heap.size+1) U ds/\Bx w1 (w.heap.size+1+1) V es/\Below w.heap.size w w1/\w1.heap.size=w.heap.size+1+1+1:=by
 obtain⟨w1,h1,a,b,hb,hs⟩:=boxes2 w T U cs ds;rw[h1];obtain⟨w2,h2,c,hb2,hs2⟩:=boxes1 w1 V es;rw[hs]at c;exact⟨w2,h2,a.below hb2,b.below hb2,c,zup hb hb2,by omega⟩
theorem ldInt (b:Bx w g T cs)(o:Nat){x:Int}(hc:cs[o]? =some (.int .i64 x):=by rfl):∀w',Below w.heap.size w w'->(Instr.loadAt 3 (.pointer (some ⟨g,o,none⟩))).run Tryz.prog w'= .ok (.int .i64 x) w':=fun w' hb=>by
 have h:=(b.below hb).cell o;rw[hc]at h;simp[go_sem,a_y,h]
theorem ldSl (b:Bx w g T cs)(o:Nat){A:Option Addr}{n c:Nat}(hc:cs[o]? =some (.slice A n c):=by rfl):∀w',Below w.heap.size w w'->(Instr.loadAt 25 (.pointer (some ⟨g,o,none⟩))).run Tryz.prog w'= .ok (.slice A n c) w':=fun w' hb=>by
 have h:=(b.below hb).cell o;rw[hc]at h;simp[go_sem,a_y,h]
theorem ldNat (b:Bx w g T cs)(o:Nat){A:Option Addr}{n c:Nat}(hc:cs[o]? =some (.slice A n c):=by rfl):∀w',Below w.heap.size w w'->(Instr.loadAt 29 (.pointer (some ⟨g,o,none⟩))).run Tryz.prog w'= .ok (.slice A n c) w':=fun w' hb=>by
 have h:=(b.below hb).cell o;rw[hc]at h;simp[go_sem,a_y,h]
theorem ldBool (b:Bx w g T cs)(o:Nat){s:Bool}(hc:cs[o]? =some (.bool s):=by rfl):∀w',Below w.heap.size w w'->(Instr.loadAt 4 (.pointer (some ⟨g,o,none⟩))).run Tryz.prog w'= .ok (.bool s) w':=fun w' hb=>by
 have h:=(b.below hb).cell o;rw[hc]at h;simp[go_sem,a_y,h]
theorem ldZ (b:Bx w g T cs)(o:Nat){s:Bool}{A:Option Addr}{n c:Nat}(h0:cs[o]? =some (.bool s):=by rfl)(h1:cs[o+1]? =some (.slice A n c):=by rfl):∀w',Below w.heap.size w w'->(Instr.loadAt 31 (.pointer (some ⟨g,o,none⟩))).run Tryz.prog w'= .ok (.agg #[.bool s,.slice A n c]) w':=fun w' hb=>by
 have e0:=(b.below hb).cell o;have e1:=(b.below hb).cell (o+1);rw[h0]at e0;rw[h1]at e1;exact o_8 e0 e1
theorem ldM (b:Bx w g T cs)(o:Nat){r c:Int}{A:Option Addr}{n d:Nat}(h0:cs[o]? =some (.int .i64 r):=by rfl)(h1:cs[o+1]? =some (.int .i64 c):=by rfl)(h2:cs[o+2]? =some (.slice A n d):=by rfl):∀w',Below w.heap.size w w'->(Instr.loadAt 27 (.pointer (some ⟨g,o,none⟩))).run Tryz.prog w'= .ok (.agg #[.int .i64 r,.int .i64 c,.slice A n d]) w':=fun w' hb=>by
 have e0:=(b.below hb).cell o;have e1:=(b.below hb).cell (o+1);have e2:=(b.below hb).cell (o+2);rw[h0]at e0;rw[h1]at e1;rw[h2]at e2;simp[go_sem,e0,e1,e2]
theorem ldP (b:Bx w g T cs){r c r' c':Int}{A A':Option Addr}{n d n' d':Nat}(h0:cs=[.int .i64 r,.int .i64 c,.slice A n d,.int .i64 r',.int .i64 c',.slice A' n' d']:=by rfl):∀w',Below w.heap.size w w'->(Instr.loadAt 87 (.pointer (some ⟨g,0,none⟩))).run Tryz.prog w'= .ok (.agg #[.int .i64 r,.int .i64 c,.slice A n d,.int .i64 r',.int .i64 c',.slice A' n' d']) w':=fun w' hb=>by
 subst h0;have e0:=(b.below hb).cell 0;have e1:=(b.below hb).cell 1;have e2:=(b.below hb).cell 2;have e3:=(b.below hb).cell 3;have e4:=(b.below hb).cell 4;have e5:=(b.below hb).cell 5;simp at e0 e1 e2 e3 e4 e5;simp[go_sem,e0,e1,e2,e3,e4,e5]
end
section
variable {g o:Nat}
theorem fM0 (o':Nat)(h:o+0=o':=by rfl)(w:World):(Instr.fieldAt 27 (.pointer (some ⟨g,o,none⟩)) 0).run Tryz.prog w= .ok (.pointer (some ⟨g,o',none⟩)) w:=by subst h;simp[go_sem]
theorem fM1 (o':Nat)(h:o+1=o':=by rfl)(w:World):(Instr.fieldAt 27 (.pointer (some ⟨g,o,none⟩)) 1).run Tryz.prog w= .ok (.pointer (some ⟨g,o',none⟩)) w:=by subst h;simp[go_sem]
theorem fM2 (o':Nat)(h:o+2=o':=by rfl)(w:World):(Instr.fieldAt 27 (.pointer (some ⟨g,o,none⟩)) 2).run Tryz.prog w= .ok (.pointer (some ⟨g,o',none⟩)) w:=by subst h;simp[go_sem]
theorem fP0 (o':Nat)(h:o+0=o':=by rfl)(w:World):(Instr.fieldAt 87 (.pointer (some ⟨g,o,none⟩)) 0).run Tryz.prog w= .ok (.pointer (some ⟨g,o',none⟩)) w:=by subst h;simp[go_sem]
theorem fP1 (o':Nat)(h:o+3=o':=by rfl)(w:World):(Instr.fieldAt 87 (.pointer (some ⟨g,o,none⟩)) 1).run Tryz.prog w= .ok (.pointer (some ⟨g,o',none⟩)) w:=by subst h;simp[go_sem]
theorem fZ0 (o':Nat)(h:o+0=o':=by rfl)(w:World):(Instr.fieldAt 31 (.pointer (some ⟨g,o,none⟩)) 0).run Tryz.prog w= .ok (.pointer (some ⟨g,o',none⟩)) w:=by subst h;simp[go_sem]
theorem fZ1 (o':Nat)(h:o+1=o':=by rfl)(w:World):(Instr.fieldAt 31 (.pointer (some ⟨g,o,none⟩)) 1).run Tryz.prog w= .ok (.pointer (some ⟨g,o',none⟩)) w:=by subst h;simp[go_sem]
end
section
variable {x y r:Int}{T:TypeId}{b:Bool}{X Y:Operand}{U:TypeId}
theorem opLt (h:decide (x<y)=b)(w:World):RunTwo Tryz.prog (.binOp .lss T X Y U) w (.int .i64 x) (.int .i64 y) (.bool b):=by unfold RunTwo;simp[go_sem,<-h];try rfl
theorem opLe (h:decide (x<=y)=b)(w:World):RunTwo Tryz.prog (.binOp .leq T X Y U) w (.int .i64 x) (.int .i64 y) (.bool b):=by unfold RunTwo;simp[go_sem,<-h];try rfl
theorem opGt (h:decide (y<x)=b)(w:World):RunTwo Tryz.prog (.binOp .gtr T X Y U) w (.int .i64 x) (.int .i64 y) (.bool b):=by unfold RunTwo;simp[go_sem,<-h];try rfl
theorem opGe (h:decide (y<=x)=b)(w:World):RunTwo Tryz.prog (.binOp .geq T X Y U) w (.int .i64 x) (.int .i64 y) (.bool b):=by unfold RunTwo;simp[go_sem,<-h];try rfl
theorem opEq (h:decide (x=y)=b)(w:World):RunTwo Tryz.prog (.binOp .eql T X Y U) w (.int .i64 x) (.int .i64 y) (.bool b):=by unfold RunTwo;simp[go_sem,<-h];try rfl
theorem opNe (h:decide (x≠y)=b)(w:World):RunTwo Tryz.prog (.binOp .neq T X Y U) w (.int .i64 x) (.int .i64 y) (.bool b):=by unfold RunTwo;simp[go_sem,<-h];try rfl
theorem opAdd (h:x+y=r)(h1:-9223372036854775808<=r)(h2:r<=9223372036854775807)(w:World):RunTwo Tryz.prog (.binOp .add T X Y U) w (.int .i64 x) (.int .i64 y) (.int .i64 r):=by unfold RunTwo;subst h;simp[go_sem,IntWalk.i64_in _ ⟨h1,h2⟩]
theorem opSub (h:x - y=r)(h1:-9223372036854775808<=r)(h2:r<=9223372036854775807)(w:World):RunTwo Tryz.prog (.binOp .sub T X Y U) w (.int .i64 x) (.int .i64 y) (.int .i64 r):=by unfold RunTwo;subst h;simp[go_sem,IntWalk.i64_in _ ⟨h1,h2⟩]
theorem opMul (h:x*y=r)(h1:-9223372036854775808<=r)(h2:r<=9223372036854775807)(w:World):RunTwo Tryz.prog (.binOp .mul T X Y U) w (.int .i64 x) (.int .i64 y) (.int .i64 r):=by unfold RunTwo;subst h;simp[go_sem,IntWalk.i64_in _ ⟨h1,h2⟩]
theorem opAddN (a b:Nat)(h:a+b<=4611686018427387904)(w:World):RunTwo Tryz.prog (.binOp .add T X Y U) w (.int .i64 (a:Int)) (.int .i64 (b:Int)) (.int .i64 ((a+b:Nat):Int)):=opAdd (by omega) (by omega) (by omega) w
theorem opSubN (a b:Nat)(h:b<=a)(h2:a<=4611686018427387904)(w:World):RunTwo Tryz.prog (.binOp .sub T X Y U) w (.int .i64 (a:Int)) (.int .i64 (b:Int)) (.int .i64 ((a - b:Nat):Int)):=opSub (by omega) (by omega) (by omega) w
theorem opMulN (a b:Nat)(h:a*b<=4611686018427387904)(w:World):RunTwo Tryz.prog (.binOp .mul T X Y U) w (.int .i64 (a:Int)) (.int .i64 (b:Int)) (.int .i64 ((a*b:Nat):Int)):=opMul (by simp) (by omega) (by omega) w
end
end
section
open Go.RowKit
def sd (x:Int):Bool:=decide (0<=x/\x<=64)
def fmd (r c:Int)(n:Nat):Bool:=sd r&&sd c&&decide ((n:Int)=r*c)
theorem b_k {v:Value}{w w':World}{e:Ending}(h:e= .returned v)(hb:Below w.heap.size w w'):RetK (.k v) w e w':=⟨v,h,rfl,hb⟩
theorem d_t (x:Int){b:Bool}(hb:sd x=b)(w:World):Calls Tryz.prog 95 #[.int .i64 x] w (RetK (.k (.bool b)) w):=by
 have HB:=Lib.hid hb;by_cases h0:0<=x
 ·obtain⟨t,ht⟩:∃t,decide (x<=64)=t:=⟨_,rfl⟩;have hbt:b=t:=by rw[<-hb,<-ht];unfold sd;simp[h0]
  have HT:=Lib.hid hbt;clear hb hbt HB;go_enter Tryz.func95,Tryz.ntmps95
  go_wp2_with fail
  exact bodyPost_ret (v:=.bool t) (by simp[results,Tryz.results95,go_sem,ht]) rfl (b_k (by rw[HT.out]) (Below.refl _ _))
 ·have hbt:b=false:=by rw[<-hb];unfold sd;simp[h0]
  subst hbt;clear hb HB;go_enter Tryz.func95,Tryz.ntmps95
  go_wp2_with fail
  exact bodyPost_ret (v:=.bool false) (by simp[results,Tryz.results95,go_sem]) rfl (b_k rfl (Below.refl _ _))
theorem m_g {x:Int}(h:sd x=true):0<=x/\x<=64:=by unfold sd at h;exact of_decide_eq_true h
theorem k_d {r c:Int}(hr:sd r=true)(hc:sd c=true):-9223372036854775808<=r*c/\r*c<=9223372036854775807:=by
 obtain⟨a,b⟩:=m_g hr;obtain⟨e,f⟩:=m_g hc;have h1:0<=r*c:=Int.mul_nonneg a e;have h2:r*c<=64*c:=Int.mul_le_mul_of_nonneg_right b e;omega
theorem k_8 {r c:Int}{n:Nat}{b:Bool}(hb:fmd r c n=b)(w:World):Calls Tryz.prog 103 #[.int .i64 r,.int .i64 c,.int .i64 (n:Int)] w (RetK (.k (.bool b)) w):=by
 obtain⟨t1,h1⟩:∃t,sd r=t:=⟨_,rfl⟩;obtain⟨t2,h2⟩:∃t,sd c=t:=⟨_,rfl⟩;obtain⟨t3,h3⟩:∃t,decide ((n:Int)=r*c)=t:=⟨_,rfl⟩;have hb':b=(t1&&t2&&t3):=by rw[<-hb,fmd,h1,h2,h3]
 have hbb:=Lib.hid hb';have h4:t1=true->t2=true-> -9223372036854775808<=r*c/\r*c<=9223372036854775807:=fun e1 e2=>by
  rw[e1]at h1;rw[e2]at h2;exact k_d h1 h2
 have h1_:=Lib.hid h1;have h2_:=Lib.hid h2;have h3_:=Lib.hid h3;have h4_:=Lib.hid h4;clear h1 h2 h3 h4 hb hb';go_enter Tryz.func103,Tryz.ntmps103
 go_upto_region 1 with fail
 cases t1
 ·refine Run.start 14 ?_;refine .mv .o ?_;refine .c1 (.i 0) (x:=.k (.bool false)) (by rintro u w2 hB rfl;exact d_t _ h1_.out w2) ?_;refine .mv (.i 1) ?_;refine .no ?_;refine .no ?_;refine .pk (.i 2) .o false ?_;refine .mv (.i 5) ?_;refine .no ?_;refine .no ?_;refine .no ?_;refine .no ?_;refine .no ?_;refine .pk (.i 6) .o false ?_;refine .mv (.i 12) ?_;refine .donep [some 7,some 8,some 9,some 10,some 11,some 12,some 13,some 14,some 15,some 16,some 17,some 18,some 19,some 6] ?_;intro w2 B2;refine sh [] ?_;simp only[Act.put,lS,lZ,lC];cases hbb.out
  go_wp2_with fail
  exact bodyPost_ret (v:=.bool false) (by simp[results,Tryz.results103,go_sem]) rfl (b_k rfl B2)
 cases t2
 ·refine Run.start 14 ?_;refine .mv .o ?_;refine .c1 (.i 0) (x:=.k (.bool true)) (by rintro u w2 hB rfl;exact d_t _ h1_.out w2) ?_;refine .mv (.i 1) ?_;refine .mv .o ?_;refine .c1 (.i 3) (x:=.k (.bool false)) (by rintro u w2 hB rfl;exact d_t _ h2_.out w2) ?_;refine .pk (.i 2) (.i 4) true ?_;refine .mv (.i 5) ?_;refine .no ?_;refine .no ?_;refine .no ?_;refine .no ?_;refine .no ?_;refine .pk (.i 6) .o false ?_;refine .mv (.i 12) ?_;refine .donep [some 7,some 8,some 9,some 10,some 11,some 12,some 13,some 14,some 15,some 16,some 17,some 18,some 19,some 6] ?_;intro w2 B2;refine sh [] ?_;simp only[Act.put,lS,lZ,lC];cases hbb.out
  go_wp2_with fail
  exact bodyPost_ret (v:=.bool false) (by simp[results,Tryz.results103,go_sem]) rfl (b_k rfl B2)
 ·refine Run.start 14 ?_;refine .mv .o ?_;refine .c1 (.i 0) (x:=.k (.bool true)) (by rintro u w2 hB rfl;exact d_t _ h1_.out w2) ?_;refine .mv (.i 1) ?_;refine .mv .o ?_;refine .c1 (.i 3) (x:=.k (.bool true)) (by rintro u w2 hB rfl;exact d_t _ h2_.out w2) ?_;refine .pk (.i 2) (.i 4) true ?_;refine .mv (.i 5) ?_;refine .mv .o ?_;refine .mv .o ?_;refine .mv .o ?_;refine .two (.i 8) (.i 9) (opMul rfl (h4_.out rfl rfl).1 (h4_.out rfl rfl).2) ?_;refine .two (.i 7) (.i 10) (opEq h3_.out) ?_;refine .pk (.i 6) (.i 11) true ?_;refine .mv (.i 12) ?_;refine .donep [some 7,some 8,some 9,some 10,some 11,some 12,some 13,some 14,some 15,some 16,some 17,some 18,some 19,some 6] ?_;intro w2 B2;refine sh [] ?_;simp only[Act.put,lS,lZ,lC];cases hbb.out
  go_wp2_with fail
  exact bodyPost_ret (v:=.bool t3) (by simp[results,Tryz.results103,go_sem]) rfl (b_k rfl B2)
theorem b_f {r c:Int}{A:Option Addr}{n d:Nat}{b:Bool}(hb:fmd r c n=b)(w:World):Calls Tryz.prog 43 #[.agg #[.int .i64 r,.int .i64 c,.slice A n d]] w (RetK (.k (.bool b)) w):=by
 obtain⟨w1,hw1,b1,z1,s1⟩:=boxes1 w 27 [.int .i64 r,.int .i64 c,.slice A n d];have HW:=Lib.hid hw1;have HZ:=Lib.hid z1;have hb_:=Lib.hid hb;clear hw1 z1 hb s1;go_enter Tryz.func43,Tryz.ntmps43
 go_upto_region 1 with fail
 rw[HW.out];refine Run.start 9 ?_;refine .fa .o (fM0 0) ?_;refine .ld (.i 0) (ldInt b1 0) ?_;refine .fa .o (fM1 1) ?_;refine .ld (.i 2) (ldInt b1 1) ?_;refine .fa .o (fM2 2) ?_;refine .ld (.i 4) (ldSl b1 2) ?_;refine .len (.i 5) Tryz.underlying25 ?_;refine .c3 (.i 1) (.i 3) (.i 6) (x:=.k (.bool b)) (by rintro u v x w2 hB rfl rfl rfl;exact k_8 hb_.out w2) ?_;refine .mv (.i 7) ?_;refine .donep [some 3,some 4,some 5,some 6,some 7,some 8,some 9,some 10,some 2] ?_;intro w2 B2;refine sh [] ?_;simp only[Act.put,lS,lZ,lC]
 go_wp2_with fail
 exact bodyPost_ret (v:=.bool b) (by simp[results,Tryz.results43,go_sem]) rfl (b_k rfl (zup HZ.out B2))
theorem s_n {r c i k:Int}{b:Bool}(hb:(decide (0<=i)&&decide (i<r)&&decide (0<=k)&&decide (k<c))=b)(w:World):Calls Tryz.prog 101 #[.int .i64 r,.int .i64 c,.int .i64 i,.int .i64 k] w (RetK (.k (.bool b)) w):=by
 obtain⟨t1,h1⟩:∃t,decide (0<=i)=t:=⟨_,rfl⟩;obtain⟨t2,h2⟩:∃t,decide (i<r)=t:=⟨_,rfl⟩;obtain⟨t3,h3⟩:∃t,decide (0<=k)=t:=⟨_,rfl⟩;obtain⟨t4,h4⟩:∃t,decide (k<c)=t:=⟨_,rfl⟩;have hb':b=(t1&&t2&&t3&&t4):=by rw[<-hb,h1,h2,h3,h4]
 have hbb:=Lib.hid hb';have h1_:=Lib.hid h1;have h2_:=Lib.hid h2;have h3_:=Lib.hid h3;have h4_:=Lib.hid h4;clear h1 h2 h3 h4 hb hb';go_enter Tryz.func101,Tryz.ntmps101
 go_upto_region 1 with fail
 cases t1
 ·refine Run.start 17 ?_;refine .mv .o ?_;refine .two .o (.i 0) (opLe h1_.out) ?_;refine .mv (.i 1) ?_;refine .no ?_;refine .no ?_;refine .no ?_;refine .pk (.i 2) .o false ?_;refine .mv (.i 6) ?_;refine .no ?_;refine .no ?_;refine .pk (.i 7) .o false ?_;refine .mv (.i 10) ?_;refine .no ?_;refine .no ?_;refine .no ?_;refine .pk (.i 11) .o false ?_;refine .mv (.i 15) ?_;refine .donep [some 9,some 10,some 11,some 12,some 13,some 14,some 15,some 16,some 17,some 18,some 19,some 20,some 21,some 22,some 23,some 24,some 8] ?_;intro w2 B2;refine sh [] ?_;simp only[Act.put,lS,lZ,lC];cases hbb.out
  go_wp2_with fail
  exact bodyPost_ret (v:=.bool false) (by simp[results,Tryz.results101,go_sem]) rfl (b_k rfl B2)
 cases t2
 ·refine Run.start 17 ?_;refine .mv .o ?_;refine .two .o (.i 0) (opLe h1_.out) ?_;refine .mv (.i 1) ?_;refine .mv .o ?_;refine .mv .o ?_;refine .two (.i 3) (.i 4) (opLt h2_.out) ?_;refine .pk (.i 2) (.i 5) true ?_;refine .mv (.i 6) ?_;refine .no ?_;refine .no ?_;refine .pk (.i 7) .o false ?_;refine .mv (.i 10) ?_;refine .no ?_;refine .no ?_;refine .no ?_;refine .pk (.i 11) .o false ?_;refine .mv (.i 15) ?_;refine .donep [some 9,some 10,some 11,some 12,some 13,some 14,some 15,some 16,some 17,some 18,some 19,some 20,some 21,some 22,some 23,some 24,some 8] ?_;intro w2 B2;refine sh [] ?_;simp only[Act.put,lS,lZ,lC];cases hbb.out
  go_wp2_with fail
  exact bodyPost_ret (v:=.bool false) (by simp[results,Tryz.results101,go_sem]) rfl (b_k rfl B2)
 cases t3
 ·refine Run.start 17 ?_;refine .mv .o ?_;refine .two .o (.i 0) (opLe h1_.out) ?_;refine .mv (.i 1) ?_;refine .mv .o ?_;refine .mv .o ?_;refine .two (.i 3) (.i 4) (opLt h2_.out) ?_;refine .pk (.i 2) (.i 5) true ?_;refine .mv (.i 6) ?_;refine .mv .o ?_;refine .two .o (.i 8) (opLe h3_.out) ?_;refine .pk (.i 7) (.i 9) true ?_;refine .mv (.i 10) ?_;refine .no ?_;refine .no ?_;refine .no ?_;refine .pk (.i 11) .o false ?_;refine .mv (.i 15) ?_;refine .donep [some 9,some 10,some 11,some 12,some 13,some 14,some 15,some 16,some 17,some 18,some 19,some 20,some 21,some 22,some 23,some 24,some 8] ?_;intro w2 B2;refine sh [] ?_;simp only[Act.put,lS,lZ,lC];cases hbb.out
  go_wp2_with fail
  exact bodyPost_ret (v:=.bool false) (by simp[results,Tryz.results101,go_sem]) rfl (b_k rfl B2)
 ·refine Run.start 17 ?_;refine .mv .o ?_;refine .two .o (.i 0) (opLe h1_.out) ?_;refine .mv (.i 1) ?_;refine .mv .o ?_;refine .mv .o ?_;refine .two (.i 3) (.i 4) (opLt h2_.out) ?_;refine .pk (.i 2) (.i 5) true ?_;refine .mv (.i 6) ?_;refine .mv .o ?_;refine .two .o (.i 8) (opLe h3_.out) ?_;refine .pk (.i 7) (.i 9) true ?_;refine .mv (.i 10) ?_;refine .mv .o ?_;refine .mv .o ?_;refine .two (.i 12) (.i 13) (opLt h4_.out) ?_;refine .pk (.i 11) (.i 14) true ?_;refine .mv (.i 15) ?_;refine .donep [some 9,some 10,some 11,some 12,some 13,some 14,some 15,some 16,some 17,some 18,some 19,some 20,some 21,some 22,some 23,some 24,some 8] ?_;intro w2 B2;refine sh [] ?_;simp only[Act.put,lS,lZ,lC];cases hbb.out
  go_wp2_with fail
  exact bodyPost_ret (v:=.bool t4) (by simp[results,Tryz.results101,go_sem]) rfl (b_k rfl B2)
theorem k_p {r c r' c':Int}{A A':Option Addr}{n d n' d':Nat}{b:Bool}(hb:(fmd r c n&&fmd r' c' n')=b)(w:World):Calls Tryz.prog 63 #[.agg #[.int .i64 r,.int .i64 c,.slice A n d,.int .i64 r',.int .i64 c',.slice A' n' d']] w (RetK (.k (.bool b)) w):=by
 obtain⟨t1,h1⟩:∃t,fmd r c n=t:=⟨_,rfl⟩;obtain⟨t2,h2⟩:∃t,fmd r' c' n'=t:=⟨_,rfl⟩;have hb':b=(t1&&t2):=by rw[<-hb,h1,h2]
 have hbb:=Lib.hid hb';obtain⟨w1,hw1,b1,z1,s1⟩:=boxes1 w 87 [.int .i64 r,.int .i64 c,.slice A n d,.int .i64 r',.int .i64 c',.slice A' n' d'];have HW:=Lib.hid hw1;have HZ:=Lib.hid z1;have h1_:=Lib.hid h1;have h2_:=Lib.hid h2;clear hw1 z1 h1 h2 hb hb' s1;go_enter Tryz.func63,Tryz.ntmps63
 go_upto_region 1 with fail
 rw[HW.out];cases t1
 ·refine Run.start 9 ?_;refine .fa .o (fP0 0) ?_;refine .ld (.i 0) (ldM b1 0) ?_;refine .c1 (.i 1) (x:=.k (.bool false)) (by rintro u w2 hB rfl;exact b_f h1_.out w2) ?_;refine .mv (.i 2) ?_;refine .no ?_;refine .no ?_;refine .no ?_;refine .pk (.i 3) .o false ?_;refine .mv (.i 7) ?_;refine .donep [some 3,some 4,some 5,some 6,some 7,some 8,some 9,some 10,some 2] ?_;intro w2 B2;refine sh [] ?_;simp only[Act.put,lS,lZ,lC];cases hbb.out
  go_wp2_with fail
  exact bodyPost_ret (v:=.bool false) (by simp[results,Tryz.results63,go_sem]) rfl (b_k rfl (zup HZ.out B2))
 ·refine Run.start 9 ?_;refine .fa .o (fP0 0) ?_;refine .ld (.i 0) (ldM b1 0) ?_;refine .c1 (.i 1) (x:=.k (.bool true)) (by rintro u w2 hB rfl;exact b_f h1_.out w2) ?_;refine .mv (.i 2) ?_;refine .fa .o (fP1 3) ?_;refine .ld (.i 4) (ldM b1 3) ?_;refine .c1 (.i 5) (x:=.k (.bool t2)) (by rintro u w2 hB rfl;exact b_f h2_.out w2) ?_;refine .pk (.i 3) (.i 6) true ?_;refine .mv (.i 7) ?_;refine .donep [some 3,some 4,some 5,some 6,some 7,some 8,some 9,some 10,some 2] ?_;intro w2 B2;refine sh [] ?_;simp only[Act.put,lS,lZ,lC];cases hbb.out
  go_wp2_with fail
  exact bodyPost_ret (v:=.bool t2) (by simp[results,Tryz.results63,go_sem]) rfl (b_k rfl (zup HZ.out B2))
end
end Go.Proofs.YtfhbdlegkdbmfaaGreat
