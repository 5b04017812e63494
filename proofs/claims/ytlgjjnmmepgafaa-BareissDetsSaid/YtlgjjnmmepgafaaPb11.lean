/- Pb11 -/
import Derived.Test.YtlgjjnmmepgafaaPb10
import Derived.IntWalk
set_option linter.unusedVariables false
set_option linter.unusedSimpArgs false
set_option linter.unusedSectionVars false
set_option maxRecDepth 100000
set_option maxHeartbeats 8000000
namespace Go.Proofs.Ytlgjjnmmepgafaa
section
open Go.RowKit
section
variable {w:World}{g g' n c n0 c0 n' c':Nat}{s s0 s':Bool}{A A0 A':Option Addr}
theorem Ib.entry {T:TypeId}(h:w.heap[g]? =some (.cells #[.bool s,.slice A n c] T)):Ib w g s A n c:=
 ⟨cell_of_row w g 0 _ _ _ h,cell_of_row w g 1 _ _ _ h,frozen_of_row w g 0 _ _ h,frozen_of_row w g 1 _ _ h,(Array.getElem?_eq_some_iff.1 h).1⟩
end
end
section
open Go.RowKit
theorem open2 (w:World)(s t:Bool)(A B:Option Addr)(n c m d:Nat):
  ∃w3,w3=((w.alloc (.cells #[.bool s,.slice A n c] 30)).alloc (.cells #[.bool t,.slice B m d] 30))/\
   Ib w3 w.heap.size s A n c/\Ib w3 (w.heap.size+1) t B m d/\Below w.heap.size w w3:=by
 refine⟨_,rfl, ?_, ?_,zba2 _ _ _⟩
 ·exact(Ib.new w s A n c _).below (zba _ _)
 ·have:=Ib.new (w.alloc (.cells #[.bool s,.slice A n c] 30)) t B m d 30;simpa using this
theorem i_0 {X Y:Int}(h:X.sign≠Y.sign):(X.sign - Y.sign).sign=(X - Y).sign:=by
 rcases Int.lt_trichotomy X 0 with h1|h1|h1
 ·rw[Int.sign_eq_neg_one_of_neg h1]at *;rcases Int.lt_trichotomy Y 0 with h2|h2|h2
  ·rw[Int.sign_eq_neg_one_of_neg h2]at h;omega
  ·subst h2;simp;rw[Int.sign_eq_neg_one_of_neg h1]
  ·rw[Int.sign_eq_one_of_pos h2,Int.sign_eq_neg_one_of_neg (a:=X - Y) (by omega)];rfl
 ·subst h1;rcases Int.lt_trichotomy Y 0 with h2|h2|h2
  ·rw[Int.sign_eq_neg_one_of_neg h2,Int.sign_eq_one_of_pos (a:=0 - Y) (by omega)];rfl
  ·subst h2;simp at h
  ·rw[Int.sign_eq_one_of_pos h2,Int.sign_eq_neg_one_of_neg (a:=0 - Y) (by omega)];rfl
 ·rw[Int.sign_eq_one_of_pos h1]at *;rcases Int.lt_trichotomy Y 0 with h2|h2|h2
  ·rw[Int.sign_eq_neg_one_of_neg h2,Int.sign_eq_one_of_pos (a:=X - Y) (by omega)];rfl
  ·subst h2;simp;rw[Int.sign_eq_one_of_pos h1]
  ·rw[Int.sign_eq_one_of_pos h2]at h;omega
theorem h_3 {X:Int}(h:X.sign<0):X<0:=by
 rcases Int.lt_trichotomy X 0 with h1|h1|h1
 ·exact h1
 ·subst h1;simp at h
 ·rw[Int.sign_eq_one_of_pos h1]at h;omega
theorem e_d {X:Int}(h:¬X.sign<0):0<=X:=by
 rcases Int.lt_trichotomy X 0 with h1|h1|h1
 ·rw[Int.sign_eq_neg_one_of_neg h1]at h;omega
 ·omega
 ·omega
theorem n_e {A B:Option Addr}{n m c d:Nat}{s t:Bool}{x y r:Int}{w:World}(hx:Zv w s A n c x)(hy:Zv w t B m d y)(hn:n<=1099511627776)(hm:m<=1099511627776)(hr:(x - y).sign=r):
  Calls Try.prog 24 #[.agg #[.bool s,.slice A n c],.agg #[.bool t,.slice B m d]] w (IPost r w):=by
 obtain⟨w3,hw3,IA,IB,z0⟩:=open2 w s t A B n c m d;have hX:=Lib.hid (hx.below z0);have hY:=Lib.hid (hy.below z0);have HZ:=Lib.hid z0;have HW:=Lib.hid hw3.symm;obtain⟨r1,hr1⟩:∃r1,x.sign=r1:=⟨_,rfl⟩;obtain⟨r2,hr2⟩:∃r2,y.sign=r2:=⟨_,rfl⟩;have HR:=Lib.hid hr;have HR1:=Lib.hid hr1;have HR2:=Lib.hid hr2;clear hx hy z0 hw3 hr hr1 hr2;have HA:=Lib.hid IA;have HB:=Lib.hid IB;obtain⟨a1,a2,a3,a4,a5⟩:=IA;obtain⟨b1,b2,b3,b4,b5⟩:=IB;go_enter Try.func24,Try.ntmps24
 go_wp2_with fail
 rw[HW.out]
 go_region_held3 (fun w'=>w'.cell? ⟨w.heap.size,0,none⟩=some (.bool s)/\w'.cell? ⟨w.heap.size,1,none⟩=some (.slice A n c)/\w'.cell? ⟨w.heap.size+1,0,none⟩=some (.bool t)/\w'.cell? ⟨w.heap.size+1,1,none⟩=some (.slice B m d)) (go_keep) (first
  |(go_at_call 11;(with_reducible refine(g_y (z:=x) (hX.out.below (a_j _)) hn HR1.out).mono ?_);rintro e w4 ⟨rfl,B4⟩;have Q4:=zup (a_j _) B4;obtain⟨u1,u2,_⟩:=HA.out.below Q4;obtain⟨u3,u4,_⟩:=HB.out.below Q4)
  |(go_at_call 11;(with_reducible refine(g_y (z:=y) (hY.out.below Q4) hm HR2.out).mono ?_);rintro e w5 ⟨rfl,B5⟩;have Q5:=zup Q4 B5;obtain⟨v1,v2,_⟩:=HA.out.below Q5;obtain⟨v3,v4,_⟩:=HB.out.below Q5))
 clear u1 u2 u3 u4 a1 a2 a3 a4 a5 b1 b2 b3 b4 b5;have HQ:=Lib.hid (zup HZ.out Q5);have XQ:=Lib.hid (hX.out.below Q5).abs;have YQ:=Lib.hid (hY.out.below Q5).abs;clear Q4 Q5 B4 B5;by_cases h:r1=r2
 ·subst h;by_cases h0:r1<0
  ·have e1:s=true:=by
    have:=h_3 (X:=x) (by rw[HR1.out];exact h0);have e:=XQ.out.2.out;cases s
    ·simp[sg]at e;omega
    ·rfl
   have e2:t=true:=by
    have:=h_3 (X:=y) (by rw[HR2.out];exact h0);have e:=YQ.out.2.out;cases t
    ·simp[sg]at e;omega
    ·rfl
   have hc:cmpN y.natAbs x.natAbs=r:=by
    rw[<-HR.out,f_1 true (by rw[<-e1];exact XQ.out.2.out) (by rw[<-e2];exact YQ.out.2.out)];rfl
   have HC:=Lib.hid hc;clear e1 e2 hc
   go_wp2_with fail
   refine(n_x YQ.out.1 XQ.out.1 HC.out).mono ?_;rintro e w6 ⟨rfl,B6⟩;have HQ2:=Lib.hid (zup HQ.out B6);clear B6
   go_wp2_with fail
   go_ret
   exact⟨rfl,HQ2.out⟩
  ·have hc:cmpN x.natAbs y.natAbs=r:=by
    have h1:=e_d (X:=x) (by rw[HR1.out];exact h0);have h2:=e_d (X:=y) (by rw[HR2.out];exact h0);rw[<-HR.out,f_1 (X:=x) (Y:=y) (x:=x.natAbs) (y:=y.natAbs) false (by simp[sg];omega) (by simp[sg];omega)];rfl
   have HC:=Lib.hid hc;clear hc
   go_wp2_with fail
   refine(n_x XQ.out.1 YQ.out.1 HC.out).mono ?_;rintro e w6 ⟨rfl,B6⟩;have HQ2:=Lib.hid (zup HQ.out B6);clear B6
   go_wp2_with fail
   go_ret
   exact⟨rfl,HQ2.out⟩
 ·have q1:(r1==r2)=false:=by rw[beq_eq_false_iff_ne];exact h
  have q2:(r1 != r2)=true:=by rw[bne_iff_ne];exact h
  have hc:(r1 - r2).sign=r:=by
   rw[<-HR1.out,<-HR2.out,<-HR.out];exact i_0 (by rw[HR1.out,HR2.out];exact h)
  have HC:=Lib.hid hc;clear hc h
  go_wp2_with fail
  refine(f_t r1 r2 r HC.out _).mono ?_;rintro e w' ⟨rfl,rfl⟩
  go_wp2_with fail
  go_ret
  exact⟨rfl,HQ.out⟩
theorem n_3 {A B:Option Addr}{n m c d:Nat}{s t b:Bool}{x y:Int}{w:World}(hx:Zv w s A n c x)(hy:Zv w t B m d y)(hn:n<=1099511627776)(hm:m<=1099511627776)(hb:decide (x=y)=b):
  Calls Try.prog 12 #[.agg #[.bool s,.slice A n c],.agg #[.bool t,.slice B m d]] w fun e w'=>e= .returned (.bool b)/\Below w.heap.size w w':=by
 obtain⟨w3,hw3,IA,IB,z0⟩:=open2 w s t A B n c m d;have hX:=hx.below z0;have hY:=hy.below z0;have HZ:=Lib.hid z0;have HW:=Lib.hid hw3.symm;obtain⟨r,hr⟩:∃r,(x - y).sign=r:=⟨_,rfl⟩;have HR:=Lib.hid hr;have q1:(r==0)=b:=by
  rw[<-hb,<-hr,Bool.eq_iff_iff,beq_iff_eq,decide_eq_true_iff,Int.sign_eq_zero_iff_zero];omega
 clear hx hy z0 hw3 hr hb;obtain⟨a1,a2,a3,a4,a5⟩:=IA;obtain⟨b1,b2,b3,b4,b5⟩:=IB;go_enter Try.func12,Try.ntmps12
 go_wp2_with fail
 rw[HW.out];refine(n_e hX hY hn hm HR.out).mono ?_;rintro e w4 ⟨rfl,B4⟩;have HQ:=Lib.hid (zup HZ.out B4);clear B4 a1 a2 a3 a4 a5 b1 b2 b3 b4 b5 hX hY
 go_wp2_with fail
 go_ret
 exact⟨rfl,HQ.out⟩
def ZPowPost (z:Int)(k:Nat)(w:World)(e:Ending)(w':World):Prop:=
 ∃s A n c,e= .returned (.tuple #[.agg #[.bool s,.slice A n c],.bool true])/\Zc w' s A n c z/\n<=k/\Below w.heap.size w w'
theorem zfin2 {w w2:World}{A B:Option Addr}{n c g k m d:Nat}{s t:Bool}{z:Int}(h:Zc w2 s A n c z)(hi:Ib w2 g t B m d)(hk:n<=k)(hg:w.heap.size<=g)(hB:Below w.heap.size w w2):
  ZPowPost z k w (.returned (.tuple #[.agg #[.bool s,.slice A n c],.bool true])) ((w2.setCell ⟨g,0,none⟩ (.bool s)).setCell ⟨g,1,none⟩ (.slice A n c)):=
 ⟨s,A,n,c,rfl,h.put hi,hk,a_e hB hg⟩
end
section
open Go.RowKit
def Bx (w:World)(g:Nat)(T:TypeId)(cs:List Value):Prop:=w.heap[g]? =some (.cells cs.toArray T (0,0))
section
variable {w w':World}{g h:Nat}{T U:TypeId}{cs ds:List Value}
theorem Bx.lt (b:Bx w g T cs):g<w.heap.size:=(Array.getElem?_eq_some_iff.1 b).1
theorem Bx.below (b:Bx w g T cs)(hb:Below w.heap.size w w'):Bx w' g T cs:=(hb.block g b.lt).trans b
theorem Bx.cell (b:Bx w g T cs)(o:Nat):w.cell? ⟨g,o,none⟩=cs[o]? :=by
 rw[cell_of_row w g o _ _ _ b];simp
theorem Bx.free (b:Bx w g T cs)(o:Nat):w.frozen? ⟨g,o,none⟩=false:=frozen_of_row w g o _ _ b
theorem Bx.new (w:World)(T:TypeId)(cs:List Value):Bx (w.alloc (.cells cs.toArray T)) w.heap.size T cs:=heap_alloc_new w _
theorem Bx.set (b:Bx w g T cs)(o:Nat)(v:Value):Bx (w.setCell ⟨g,o,none⟩ v) g T (cs.set o v):=by
 unfold Bx;rw[heap_setCell_same w g _ _ _ _ b];simp
theorem Bx.off (b:Bx w g T cs)(hn:g≠h)(o:Nat)(v:Value):Bx (w.setCell ⟨h,o,none⟩ v) g T cs:=(Below.heap_setCell _ _ _ _ (fun e=>hn (by rw[e]))).trans b
theorem c_x (b:Bx w g T cs)(hg:w.grownBy w' (some h))(hn:g≠h):Bx w' g T cs:=(hg.block g b.lt (fun e=>hn (Option.some.inj e))).trans b
theorem boxes1 (w:World)(T:TypeId)(cs:List Value):∃w1,w.alloc (.cells cs.toArray T)=w1/\Bx w1 w.heap.size T cs/\Below w.heap.size w w1/\w1.heap.size=w.heap.size+1:=⟨_,rfl,Bx.new _ _ _,zba _ _,by simp⟩
theorem boxes2 (w:World)(T U:TypeId)(cs ds:List Value):∃w1,(w.alloc (.cells cs.toArray T)).alloc (.cells ds.toArray U)=w1/\Bx w1 w.heap.size T cs/\Bx w1 (w.heap.size+1) U ds/\Below w.heap.size w w1/\w1.heap.size=w.heap.size+1+1:=
 ⟨_,rfl,(Bx.new _ _ _).below (zba _ _),by have:=Bx.new (w.alloc (.cells cs.toArray T)) U ds;simpa using this,zba2 _ _ _,by simp⟩
theorem boxes3 (w:World)(T U V:TypeId)(cs ds es:List Value):∃w1,((w.alloc (.cells cs.toArray T)).alloc (.cells ds.toArray U)).alloc (.cells es.toArray V)=w1/\Bx w1 w.heap.size T cs/\Bx w1 (w.heap.size+1) U ds/\Bx w1 (w.heap.size+1+1) V es/\Below w.heap.size w w1/\w1.heap.size=w.heap.size+1+1+1:=by
 obtain⟨w1,h1,a,b,hb,hs⟩:=boxes2 w T U cs ds;rw[h1];obtain⟨w2,h2,c,hb2,hs2⟩:=boxes1 w1 V es;rw[hs]at c;exact⟨w2,h2,a.below hb2,b.below hb2,c,zup hb hb2,by omega⟩
theorem ldInt (b:Bx w g T cs)(o:Nat){x:Int}(hc:cs[o]? =some (.int .i64 x):=by rfl):∀w',Below w.heap.size w w'->(Instr.loadAt 3 (.pointer (some ⟨g,o,none⟩))).run Try.prog w'= .ok (.int .i64 x) w':=fun w' hb=>by
 have h:=(b.below hb).cell o;rw[hc]at h;simp[go_sem,a_u,h]
theorem ldSl (b:Bx w g T cs)(o:Nat){A:Option Addr}{n c:Nat}(hc:cs[o]? =some (.slice A n c):=by rfl):∀w',Below w.heap.size w w'->(Instr.loadAt 22 (.pointer (some ⟨g,o,none⟩))).run Try.prog w'= .ok (.slice A n c) w':=fun w' hb=>by
 have h:=(b.below hb).cell o;rw[hc]at h;simp[go_sem,a_u,h]
theorem ldNat (b:Bx w g T cs)(o:Nat){A:Option Addr}{n c:Nat}(hc:cs[o]? =some (.slice A n c):=by rfl):∀w',Below w.heap.size w w'->(Instr.loadAt 28 (.pointer (some ⟨g,o,none⟩))).run Try.prog w'= .ok (.slice A n c) w':=fun w' hb=>by
 have h:=(b.below hb).cell o;rw[hc]at h;simp[go_sem,a_u,h]
theorem ldBool (b:Bx w g T cs)(o:Nat){s:Bool}(hc:cs[o]? =some (.bool s):=by rfl):∀w',Below w.heap.size w w'->(Instr.loadAt 4 (.pointer (some ⟨g,o,none⟩))).run Try.prog w'= .ok (.bool s) w':=fun w' hb=>by
 have h:=(b.below hb).cell o;rw[hc]at h;simp[go_sem,a_u,h]
theorem ldZ (b:Bx w g T cs)(o:Nat){s:Bool}{A:Option Addr}{n c:Nat}(h0:cs[o]? =some (.bool s):=by rfl)(h1:cs[o+1]? =some (.slice A n c):=by rfl):∀w',Below w.heap.size w w'->(Instr.loadAt 30 (.pointer (some ⟨g,o,none⟩))).run Try.prog w'= .ok (.agg #[.bool s,.slice A n c]) w':=fun w' hb=>by
 have e0:=(b.below hb).cell o;have e1:=(b.below hb).cell (o+1);rw[h0]at e0;rw[h1]at e1;exact o_o e0 e1
theorem ldM (b:Bx w g T cs)(o:Nat){r c:Int}{A:Option Addr}{n d:Nat}(h0:cs[o]? =some (.int .i64 r):=by rfl)(h1:cs[o+1]? =some (.int .i64 c):=by rfl)(h2:cs[o+2]? =some (.slice A n d):=by rfl):∀w',Below w.heap.size w w'->(Instr.loadAt 24 (.pointer (some ⟨g,o,none⟩))).run Try.prog w'= .ok (.agg #[.int .i64 r,.int .i64 c,.slice A n d]) w':=fun w' hb=>by
 have e0:=(b.below hb).cell o;have e1:=(b.below hb).cell (o+1);have e2:=(b.below hb).cell (o+2);rw[h0]at e0;rw[h1]at e1;rw[h2]at e2;simp[go_sem,e0,e1,e2]
end
section
variable {g o:Nat}
theorem fM0 (o':Nat)(h:o+0=o':=by rfl)(w:World):(Instr.fieldAt 24 (.pointer (some ⟨g,o,none⟩)) 0).run Try.prog w= .ok (.pointer (some ⟨g,o',none⟩)) w:=by subst h;simp[go_sem]
theorem fM1 (o':Nat)(h:o+1=o':=by rfl)(w:World):(Instr.fieldAt 24 (.pointer (some ⟨g,o,none⟩)) 1).run Try.prog w= .ok (.pointer (some ⟨g,o',none⟩)) w:=by subst h;simp[go_sem]
theorem fM2 (o':Nat)(h:o+2=o':=by rfl)(w:World):(Instr.fieldAt 24 (.pointer (some ⟨g,o,none⟩)) 2).run Try.prog w= .ok (.pointer (some ⟨g,o',none⟩)) w:=by subst h;simp[go_sem]
theorem fZ0 (o':Nat)(h:o+0=o':=by rfl)(w:World):(Instr.fieldAt 30 (.pointer (some ⟨g,o,none⟩)) 0).run Try.prog w= .ok (.pointer (some ⟨g,o',none⟩)) w:=by subst h;simp[go_sem]
theorem fZ1 (o':Nat)(h:o+1=o':=by rfl)(w:World):(Instr.fieldAt 30 (.pointer (some ⟨g,o,none⟩)) 1).run Try.prog w= .ok (.pointer (some ⟨g,o',none⟩)) w:=by subst h;simp[go_sem]
end
section
variable {x y r:Int}{T:TypeId}{b:Bool}{X Y:Operand}{U:TypeId}
theorem opLt (h:decide (x<y)=b)(w:World):RunTwo Try.prog (.binOp .lss T X Y U) w (.int .i64 x) (.int .i64 y) (.bool b):=by unfold RunTwo;simp[go_sem,<-h];try rfl
theorem opLe (h:decide (x<=y)=b)(w:World):RunTwo Try.prog (.binOp .leq T X Y U) w (.int .i64 x) (.int .i64 y) (.bool b):=by unfold RunTwo;simp[go_sem,<-h];try rfl
theorem opGe (h:decide (y<=x)=b)(w:World):RunTwo Try.prog (.binOp .geq T X Y U) w (.int .i64 x) (.int .i64 y) (.bool b):=by unfold RunTwo;simp[go_sem,<-h];try rfl
theorem opEq (h:decide (x=y)=b)(w:World):RunTwo Try.prog (.binOp .eql T X Y U) w (.int .i64 x) (.int .i64 y) (.bool b):=by unfold RunTwo;simp[go_sem,<-h];try rfl
theorem opNe (h:decide (x≠y)=b)(w:World):RunTwo Try.prog (.binOp .neq T X Y U) w (.int .i64 x) (.int .i64 y) (.bool b):=by unfold RunTwo;simp[go_sem,<-h];try rfl
theorem opAdd (h:x+y=r)(h1:-9223372036854775808<=r)(h2:r<=9223372036854775807)(w:World):RunTwo Try.prog (.binOp .add T X Y U) w (.int .i64 x) (.int .i64 y) (.int .i64 r):=by unfold RunTwo;subst h;simp[go_sem,IntWalk.i64_in _ ⟨h1,h2⟩]
theorem opMul (h:x*y=r)(h1:-9223372036854775808<=r)(h2:r<=9223372036854775807)(w:World):RunTwo Try.prog (.binOp .mul T X Y U) w (.int .i64 x) (.int .i64 y) (.int .i64 r):=by unfold RunTwo;subst h;simp[go_sem,IntWalk.i64_in _ ⟨h1,h2⟩]
theorem opAddN (a b:Nat)(h:a+b<=4611686018427387904)(w:World):RunTwo Try.prog (.binOp .add T X Y U) w (.int .i64 (a:Int)) (.int .i64 (b:Int)) (.int .i64 ((a+b:Nat):Int)):=opAdd (by omega) (by omega) (by omega) w
theorem opMulN (a b:Nat)(h:a*b<=4611686018427387904)(w:World):RunTwo Try.prog (.binOp .mul T X Y U) w (.int .i64 (a:Int)) (.int .i64 (b:Int)) (.int .i64 ((a*b:Nat):Int)):=opMul (by simp) (by omega) (by omega) w
end
end
end Go.Proofs.Ytlgjjnmmepgafaa
