/- PqX02 -/
import Derived.Test.YtfhbdlegkdbmfaaGreatPq34
import Derived.IntWalk
import Derived.Laws.AppendOwn
set_option linter.unusedVariables false
set_option linter.unusedSimpArgs false
set_option linter.unusedSectionVars false
set_option maxRecDepth 100000
set_option maxHeartbeats 8000000
namespace Go.Proofs.YtfhbdlegkdbmfaaGreat
section
open Go.RowKit
theorem x_g (z:Int)(k:Nat):Stays (IsV z k):=fun v w w' ⟨s,A,n,c,e,h,hk⟩ hb=>⟨s,A,n,c,e,h.below hb,hk⟩
end
section
open Go.RowKit
section
variable {w w':World}{g h:Nat}{T U:TypeId}{cs ds:List Value}
theorem ldP (b:Bx w g T cs){r c r' c':Int}{A A':Option Addr}{n d n' d':Nat}(h0:cs=[.int .i64 r,.int .i64 c,.slice A n d,.int .i64 r',.int .i64 c',.slice A' n' d']:=by rfl):∀w',Below w.heap.size w w'->(Instr.loadAt 87 (.pointer (some ⟨g,0,none⟩))).run Tryz.prog w'= .ok (.agg #[.int .i64 r,.int .i64 c,.slice A n d,.int .i64 r',.int .i64 c',.slice A' n' d']) w':=fun w' hb=>by
 subst h0;have e0:=(b.below hb).cell 0;have e1:=(b.below hb).cell 1;have e2:=(b.below hb).cell 2;have e3:=(b.below hb).cell 3;have e4:=(b.below hb).cell 4;have e5:=(b.below hb).cell 5;simp at e0 e1 e2 e3 e4 e5;simp[go_sem,e0,e1,e2,e3,e4,e5]
end
section
variable {g o:Nat}
theorem fP0 (o':Nat)(h:o+0=o':=by rfl)(w:World):(Instr.fieldAt 87 (.pointer (some ⟨g,o,none⟩)) 0).run Tryz.prog w= .ok (.pointer (some ⟨g,o',none⟩)) w:=by subst h;simp[go_sem]
theorem fP1 (o':Nat)(h:o+3=o':=by rfl)(w:World):(Instr.fieldAt 87 (.pointer (some ⟨g,o,none⟩)) 1).run Tryz.prog w= .ok (.pointer (some ⟨g,o',none⟩)) w:=by subst h;simp[go_sem]
theorem fZ0 (o':Nat)(h:o+0=o':=by rfl)(w:World):(Instr.fieldAt 31 (.pointer (some ⟨g,o,none⟩)) 0).run Tryz.prog w= .ok (.pointer (some ⟨g,o',none⟩)) w:=by subst h;simp[go_sem]
end
section
variable {x y r:Int}{T:TypeId}{b:Bool}{X Y:Operand}{U:TypeId}
end
end
section
open Go.RowKit
theorem o_p {r c r' c':Int}{A A':Option Addr}{n d n' d':Nat}{b:Bool}(hb:(decide (r=r')&&decide (c=c'))=b)(w:World):Calls Tryz.prog 120 #[.agg #[.int .i64 r,.int .i64 c,.slice A n d],.agg #[.int .i64 r',.int .i64 c',.slice A' n' d']] w (RetK (.k (.bool b)) w):=by
 obtain⟨t1,h1⟩:∃t,decide (r=r')=t:=⟨_,rfl⟩;obtain⟨t2,h2⟩:∃t,decide (c=c')=t:=⟨_,rfl⟩;have hb':b=(t1&&t2):=by rw[<-hb,h1,h2]
 have hbb:=Lib.hid hb';obtain⟨w1,hw1,b2,b3,z1,s1⟩:=boxes2 w 27 27 [.int .i64 r,.int .i64 c,.slice A n d] [.int .i64 r',.int .i64 c',.slice A' n' d'];have HW:=Lib.hid hw1;have HZ:=Lib.hid z1;have h1_:=Lib.hid h1;have h2_:=Lib.hid h2;clear hw1 z1 h1 h2 hb hb' s1;go_enter Tryz.func120,Tryz.ntmps120
 go_upto_region 1 with fail
 rw[HW.out];cases t1
 ·refine Run.start 13 ?_;refine .fa .o (fM0 0) ?_;refine .ld (.i 0) (ldInt b2 0) ?_;refine .fa .o (fM0 0) ?_;refine .ld (.i 2) (ldInt b3 0) ?_;refine .two (.i 1) (.i 3) (opEq h1_.out) ?_;refine .mv (.i 4) ?_;refine .no ?_;refine .no ?_;refine .no ?_;refine .no ?_;refine .no ?_;refine .pk (.i 5) .o false ?_;refine .mv (.i 11) ?_;refine .donep [some 5,some 6,some 7,some 8,some 9,some 10,some 11,some 12,some 13,some 14,some 15,some 16,some 4] ?_;intro w2 B2;refine sh [] ?_;simp only[Act.put,lS,lZ,lC];cases hbb.out
  go_wp2_with fail
  exact bodyPost_ret (v:=.bool false) (by simp[results,Tryz.results120,go_sem]) rfl (a_x rfl (zup HZ.out B2))
 ·refine Run.start 13 ?_;refine .fa .o (fM0 0) ?_;refine .ld (.i 0) (ldInt b2 0) ?_;refine .fa .o (fM0 0) ?_;refine .ld (.i 2) (ldInt b3 0) ?_;refine .two (.i 1) (.i 3) (opEq h1_.out) ?_;refine .mv (.i 4) ?_;refine .fa .o (fM1 1) ?_;refine .ld (.i 6) (ldInt b2 1) ?_;refine .fa .o (fM1 1) ?_;refine .ld (.i 8) (ldInt b3 1) ?_;refine .two (.i 7) (.i 9) (opEq h2_.out) ?_;refine .pk (.i 5) (.i 10) true ?_;refine .mv (.i 11) ?_;refine .donep [some 5,some 6,some 7,some 8,some 9,some 10,some 11,some 12,some 13,some 14,some 15,some 16,some 4] ?_;intro w2 B2;refine sh [] ?_;simp only[Act.put,lS,lZ,lC];cases hbb.out
  go_wp2_with fail
  exact bodyPost_ret (v:=.bool t2) (by simp[results,Tryz.results120,go_sem]) rfl (a_x rfl (zup HZ.out B2))
theorem c_8 {r c r' c':Int}{A A':Option Addr}{n d n' d':Nat}{b:Bool}(hb:(fmd r c n&&fmd r' c' n')=b)(w:World):Calls Tryz.prog 63 #[.agg #[.int .i64 r,.int .i64 c,.slice A n d,.int .i64 r',.int .i64 c',.slice A' n' d']] w (RetK (.k (.bool b)) w):=by
 obtain⟨t1,h1⟩:∃t,fmd r c n=t:=⟨_,rfl⟩;obtain⟨t2,h2⟩:∃t,fmd r' c' n'=t:=⟨_,rfl⟩;have hb':b=(t1&&t2):=by rw[<-hb,h1,h2]
 have hbb:=Lib.hid hb';obtain⟨w1,hw1,b1,z1,s1⟩:=boxes1 w 87 [.int .i64 r,.int .i64 c,.slice A n d,.int .i64 r',.int .i64 c',.slice A' n' d'];have HW:=Lib.hid hw1;have HZ:=Lib.hid z1;have h1_:=Lib.hid h1;have h2_:=Lib.hid h2;clear hw1 z1 h1 h2 hb hb' s1;go_enter Tryz.func63,Tryz.ntmps63
 go_upto_region 1 with fail
 rw[HW.out];cases t1
 ·refine Run.start 9 ?_;refine .fa .o (fP0 0) ?_;refine .ld (.i 0) (ldM b1 0) ?_;refine .c1 (.i 1) (x:=.k (.bool false)) (by rintro u w2 hB rfl;exact c_z h1_.out w2) ?_;refine .mv (.i 2) ?_;refine .no ?_;refine .no ?_;refine .no ?_;refine .pk (.i 3) .o false ?_;refine .mv (.i 7) ?_;refine .donep [some 3,some 4,some 5,some 6,some 7,some 8,some 9,some 10,some 2] ?_;intro w2 B2;refine sh [] ?_;simp only[Act.put,lS,lZ,lC];cases hbb.out
  go_wp2_with fail
  exact bodyPost_ret (v:=.bool false) (by simp[results,Tryz.results63,go_sem]) rfl (a_x rfl (zup HZ.out B2))
 ·refine Run.start 9 ?_;refine .fa .o (fP0 0) ?_;refine .ld (.i 0) (ldM b1 0) ?_;refine .c1 (.i 1) (x:=.k (.bool true)) (by rintro u w2 hB rfl;exact c_z h1_.out w2) ?_;refine .mv (.i 2) ?_;refine .fa .o (fP1 3) ?_;refine .ld (.i 4) (ldM b1 3) ?_;refine .c1 (.i 5) (x:=.k (.bool t2)) (by rintro u w2 hB rfl;exact c_z h2_.out w2) ?_;refine .pk (.i 3) (.i 6) true ?_;refine .mv (.i 7) ?_;refine .donep [some 3,some 4,some 5,some 6,some 7,some 8,some 9,some 10,some 2] ?_;intro w2 B2;refine sh [] ?_;simp only[Act.put,lS,lZ,lC];cases hbb.out
  go_wp2_with fail
  exact bodyPost_ret (v:=.bool t2) (by simp[results,Tryz.results63,go_sem]) rfl (a_x rfl (zup HZ.out B2))
end
section
open Go.RowKit
def kV (z:Int)(k:Nat):FK:=.f (IsV z k) (x_g z k)
section
variable {q:Bool}{w w':World}{r c n d k k':Nat}{A:Option Addr}{F G:Nat->Nat->Int}
theorem Mt.elem (h:Mt q w r c A n d k F){i j:Nat}(hi:i<r)(hj:j<c):∃ad,A=some ad/\ad.block<w.heap.size/\i*c+j<n/\ZAt q w (ad.add ((i*c+j)*2)) k (F i j):=by
 have hl:i*c+j<n:=by rw[h.len];exact q_p hi hj
 obtain⟨ad,e,h1,h2⟩:=h.zl.at hl;rw[v_6 hi hj]at h2;exact⟨ad,e,h1,hl,h2⟩
end
section
variable {u v:Value}{x y:Int}{n m k:Nat}{w:World}
end
theorem retV {w w2:World}{A B:Option Addr}{n c g k m d:Nat}{s t:Bool}{z:Int}(h:Zv w2 s A n c z)(hi:Ib w2 g t B m d)(hk:n<=k)(hg:w.heap.size<=g)(hB:Below w.heap.size w w2):
  RetK (kV z k) w (.returned (.agg #[.bool s,.slice A n c])) ((w2.setCell ⟨g,0,none⟩ (.bool s)).setCell ⟨g,1,none⟩ (.slice A n c)):=
 ⟨_,rfl,⟨s,A,n,c,rfl,h.put hi,hk⟩,a_8 hB hg⟩
end
section
open Go.RowKit
theorem e_4 {q:Bool}{r c n d k i j:Nat}{A:Option Addr}{F:Nat->Nat->Int}{w:World}(h:Mt q w r c A n d k F)(hi:i<r)(hj:j<c):Calls Tryz.prog 75 #[.agg #[.int .i64 (r:Int),.int .i64 (c:Int),.slice A n d],.int .i64 (i:Int),.int .i64 (j:Int)] w (RetK (kV (F i j) k) w):=by
 have h1:=h.hr;have h2:=h.hc;have h5:i*c<=64*64:=Nat.mul_le_mul (by omega) h2;obtain⟨w1,hw1,b3,b6,z1,s1⟩:=boxes2 w 27 31 [.int .i64 (r:Int),.int .i64 (c:Int),.slice A n d] [.bool false,.slice none 0 0];have HW:=Lib.hid hw1;have HZ:=Lib.hid z1;obtain⟨ad,rfl,hab,hlt,s_,A_,n_,c_,c0,c1,ze,hk⟩:=(h.below z1).elem hi hj;have hz:=ze.1;clear ze h;clear hw1 z1 s1;go_enter Tryz.func75,Tryz.ntmps75
 go_upto_region 1 with fail
 rw[HW.out];refine Run.start 10 ?_;refine .fa .o (fM2 2) ?_;refine .ld (.i 0) (ldSl b3 2) ?_;refine .mv .o ?_;refine .fa .o (fM1 1) ?_;refine .ld (.i 3) (ldInt b3 1) ?_;refine .two (.i 2) (.i 4) (opMulN i c (by omega)) ?_;refine .mv .o ?_;refine .two (.i 5) (.i 6) (opAddN (i*c) j (by omega)) ?_;refine .two (.i 1) (.i 7) (opIx hlt) ?_;refine .ld (.i 8) (ldE (by rw[a_b];exact hab) c0 c1) ?_;refine .donep [some 7,some 8,some 9,some 10,some 11,some 12,some 13,some 14,some 15,some 16] ?_;intro w2 B2;refine sh [_] ?_;simp only[Act.put,lS,lZ,lC];replace hz:=hz.below B2;clear c0 c1;have I:=Ib.entry (b6.below B2);have P:=Lib.hid (retV hz I (k:=k) (by omega) (by omega) (zup HZ.out B2));obtain⟨i1,i2,i3,i4,i5⟩:=I;clear hz
 go_wp2_with fail
 exact bodyPost_ret (v:=.agg #[.bool s_,.slice A_ n_ c_]) (by simp[results,Tryz.results75,go_sem,i1,i2]) rfl P.out
theorem r_5 {q:Bool}{r c n d k i j:Nat}{A:Option Addr}{F:Nat->Nat->Int}{w:World}(h:Mt q w r c A n d k F)(hi:i<r)(hj:j<c)(hk:k<=1099511627776):Calls Tryz.prog 71 #[.agg #[.int .i64 (r:Int),.int .i64 (c:Int),.slice A n d],.int .i64 (i:Int),.int .i64 (j:Int)] w (RetK (kC (F i j) k) w):=by
 obtain⟨w1,hw1,b3,b6,z1,s1⟩:=boxes2 w 27 31 [.int .i64 (r:Int),.int .i64 (c:Int),.slice A n d] [.bool false,.slice none 0 0];have HW:=Lib.hid hw1;have HZ:=Lib.hid z1;replace h:=h.below z1;clear hw1 z1;go_enter Tryz.func71,Tryz.ntmps71
 go_upto_region 1 with fail
 rw[HW.out];refine Run.start 5 ?_;refine .ld .o (ldM b3 0) ?_;refine .mv .o ?_;refine .mv .o ?_;refine .c3 (.i 0) (.i 1) (.i 2) (x:=kV (F i j) k) (by rintro u v x w2 hB rfl rfl rfl;exact e_4 (h.below hB) hi hj) ?_;refine .al ?_;refine .donep [some 8,some 9,some 10,some 11,some 7] ?_;intro w2 B2;rintro v7 ⟨s_,A_,n_,c_,rfl,hz,hk1⟩;intro g7 hg7 hl7 hc7 ha7;refine sh [_] ?_;simp only[Act.put,lS,lZ,lC];have b7:Bx w2 g7 31 [.bool false,.slice none 0 0]:=hc7.trans (congrArg some (by kernel_rfl));obtain⟨w3,hw3⟩:∃w3,(w2.setCell ⟨g7,0,none⟩ (.bool s_)).setCell ⟨g7,1,none⟩ (.slice A_ n_ c_)=w3:=⟨_,rfl⟩;have hs1:=s1;obtain⟨i1,i2,i3,i4,i5⟩:=Ib.entry b7;have hz3:Zv w3 s_ A_ n_ c_ (F i j):=by rw[<-hw3];exact hz.put (Ib.entry b7)
 have b7':Bx w3 g7 31 [.bool s_,.slice A_ n_ c_]:=by rw[<-hw3];exact(b7.set 0 _).set 1 _
 have b6':Bx w3 (w.heap.size+1) 31 [.bool false,.slice none 0 0]:=by rw[<-hw3];exact((b6.below B2).off (by omega) _ _).off (by omega) _ _
 have B3:Below w.heap.size w w3:=by rw[<-hw3];exact((zup HZ.out B2).setCell (by show w.heap.size<=g7;omega) _).setCell (by show w.heap.size<=g7;omega) _
 have HW3:=Lib.hid hw3;clear hw3 hz b7 hc7 hg7 hl7 ha7 hs1;go_upto_region 2 with fail
 rw[HW3.out];clear i1 i2 i3 i4 i5 HW3;refine Run.start 5 ?_;refine .fa .o (fZ1 1) ?_;refine .ld (.i 0) (ldNat b7' 1) ?_;refine .fa .o (fZ0 0) ?_;refine .ld (.i 2) (ldBool b7' 0) ?_;refine .c2 (.i 1) (.i 3) (x:=kC (F i j) k) (by rintro u v w2 hB rfl rfl;exact n_8 (hz3.below hB) hk1 hk) ?_;refine .donep [some 12,some 13,some 14,some 15,some 16] ?_;intro w4 B4;rintro v8 ⟨s8,A8,n8,c8,rfl,hz,hk8⟩;refine sh [_] ?_;simp only[Act.put,lS,lZ,lC];have I:=Ib.entry (b6'.below B4);have P:=Lib.hid (retC hz I (k:=k) (by omega) (by omega) (zup B3 B4));obtain⟨i1,i2,i3,i4,i5⟩:=I;clear hz
 go_wp2_with fail
 exact bodyPost_ret (v:=.agg #[.bool s8,.slice A8 n8 c8]) (by simp[results,Tryz.results71,go_sem,i1,i2]) rfl P.out
end
section
open Go.RowKit
theorem x_6 {q q':Bool}{r c n d k r' c' n' d' k' i j:Nat}{A A':Option Addr}{F G:Nat->Nat->Int}{w:World}(ha:Mt q w r c A n d k F)(hb:Mt q' w r' c' A' n' d' k' G)(hi:i<r)(hj:j<c)(hi':i<r')(hj':j<c')(hk:k<=1099511627776)(hk':k'<=1099511627776):Calls Tryz.prog 57 #[.agg #[.int .i64 (r:Int),.int .i64 (c:Int),.slice A n d,.int .i64 (r':Int),.int .i64 (c':Int),.slice A' n' d'],.int .i64 (i:Int),.int .i64 (j:Int)] w (RetK (kC (F i j+G i j) (max k k'+1)) w):=by
 obtain⟨w1,hw1,b3,b6,z1,s1⟩:=boxes2 w 87 31 [.int .i64 (r:Int),.int .i64 (c:Int),.slice A n d,.int .i64 (r':Int),.int .i64 (c':Int),.slice A' n' d'] [.bool false,.slice none 0 0];have HW:=Lib.hid hw1;have HZ:=Lib.hid z1;replace ha:=ha.below z1;replace hb:=hb.below z1;clear hw1 z1 s1;go_enter Tryz.func57,Tryz.ntmps57
 go_upto_region 1 with fail
 rw[HW.out];refine Run.start 11 ?_;refine .fa .o (fP0 0) ?_;refine .ld (.i 0) (ldM b3 0) ?_;refine .mv .o ?_;refine .mv .o ?_;refine .c3 (.i 1) (.i 2) (.i 3) (x:=kV (F i j) k) (by rintro u v x w2 hB rfl rfl rfl;exact e_4 (ha.below hB) hi hj) ?_;refine .fa .o (fP1 3) ?_;refine .ld (.i 5) (ldM b3 3) ?_;refine .mv .o ?_;refine .mv .o ?_;refine .c3 (.i 6) (.i 7) (.i 8) (x:=kV (G i j) k') (by rintro u v x w2 hB rfl rfl rfl;exact e_4 (hb.below hB) hi' hj') ?_;refine .c2 (.i 4) (.i 9) (x:=kC (F i j+G i j) (max k k'+1)) (by intro u v w2 hB h1 h2;exact l_z h1 h2 hk hk' (Nat.le_refl _)) ?_;refine .done [some 7,some 8,some 9,some 10,some 11,some 12,some 13,some 14,some 15,some 16,some 17] ?_;intro w2 B2;rintro v0 -;rintro v1 -;rintro v ⟨s_,A_,n_,c_,rfl,hz,hk_⟩;refine sh [_] ?_;simp only[Act.put,lS,lZ,lC];have I:=Ib.entry (b6.below B2);have P:=Lib.hid (retC hz I (k:=max k k'+1) (by omega) (by omega) (zup HZ.out B2));obtain⟨i1,i2,i3,i4,i5⟩:=I;clear hz
 go_wp2_with fail
 exact bodyPost_ret (v:=.agg #[.bool s_,.slice A_ n_ c_]) (by simp[results,Tryz.results57,go_sem,i1,i2]) rfl P.out
theorem q_7 {q:Bool}{r c n d k i j:Nat}{A:Option Addr}{F:Nat->Nat->Int}{g g' m e:Nat}{s:Bool}{D:Option Addr}{z:Int}{w:World}(b2:Bx w g 31 [.bool s,.slice D m e])(b3:Bx w g' 27 [.int .i64 (r:Int),.int .i64 (c:Int),.slice A n d])(ha:Mt q w r c A n d k F)(hz0:Zv w s D m e z)(hi:i<r)(hj:j<c)(hk:k<=1099511627776)(hm:m<=1099511627776):Calls Tryz.prog 74 #[.int .i64 (i:Int),.int .i64 (j:Int),.pointer (some ⟨g,0,none⟩),.pointer (some ⟨g',0,none⟩)] w (RetK (kC (z*F i j) (m+k)) w):=by
 obtain⟨w1,hw1,b6,z1,s1⟩:=boxes1 w 31 [.bool false,.slice none 0 0];have HW:=Lib.hid hw1;have HZ:=Lib.hid z1;replace b2:=b2.below z1;replace b3:=b3.below z1;replace ha:=ha.below z1;replace hz0:=hz0.below z1;clear hw1 z1 s1;go_enter Tryz.func74,Tryz.ntmps74
 go_upto_region 1 with fail
 rw[HW.out];refine Run.start 6 ?_;refine .ld .o (ldZ b2 0) ?_;refine .ld .o (ldM b3 0) ?_;refine .mv .o ?_;refine .mv .o ?_;refine .c3 (.i 1) (.i 2) (.i 3) (x:=kV (F i j) k) (by rintro u v x w2 hB rfl rfl rfl;exact e_4 (ha.below hB) hi hj) ?_;refine .c2 (.i 0) (.i 4) (x:=kC (z*F i j) (m+k)) (by rintro u v w2 hB rfl h2;exact b_u ⟨_,_,_,_,rfl,hz0.below hB,Nat.le_refl _⟩ h2 hm hk (Nat.le_refl _)) ?_;refine .done [some 7,some 8,some 9,some 10,some 11,some 12] ?_;intro w2 B2;rintro v0 -;rintro v ⟨s_,A_,n_,c_,rfl,hz,hk_⟩;refine sh [_] ?_;simp only[Act.put,lS,lZ,lC];have I:=Ib.entry (b6.below B2);have P:=Lib.hid (retC hz I (k:=m+k) (by omega) (by omega) (zup HZ.out B2));obtain⟨i1,i2,i3,i4,i5⟩:=I;clear hz
 go_wp2_with fail
 exact bodyPost_ret (v:=.agg #[.bool s_,.slice A_ n_ c_]) (by simp[results,Tryz.results74,go_sem,i1,i2]) rfl P.out
theorem i_6 {q:Bool}{r c n d k i j:Nat}{A:Option Addr}{F:Nat->Nat->Int}{g:Nat}{w:World}(b2:Bx w g 27 [.int .i64 (r:Int),.int .i64 (c:Int),.slice A n d])(ha:Mt q w r c A n d k F)(hi:i<c)(hj:j<r)(hk:k<=1099511627776):Calls Tryz.prog 70 #[.int .i64 (i:Int),.int .i64 (j:Int),.pointer (some ⟨g,0,none⟩)] w (RetK (kC (F j i) k) w):=by
 obtain⟨w1,hw1,b5,z1,s1⟩:=boxes1 w 31 [.bool false,.slice none 0 0];have HW:=Lib.hid hw1;have HZ:=Lib.hid z1;replace b2:=b2.below z1;replace ha:=ha.below z1;clear hw1 z1 s1;go_enter Tryz.func70,Tryz.ntmps70
 go_upto_region 1 with fail
 rw[HW.out];refine Run.start 4 ?_;refine .ld .o (ldM b2 0) ?_;refine .mv .o ?_;refine .mv .o ?_;refine .c3 (.i 0) (.i 1) (.i 2) (x:=kC (F j i) k) (by rintro u v x w2 hB rfl rfl rfl;exact r_5 (ha.below hB) hj hi hk) ?_;refine .donep [some 6,some 7,some 8,some 9] ?_;intro w2 B2;rintro v ⟨s_,A_,n_,c_,rfl,hz,hk_⟩;refine sh [_] ?_;simp only[Act.put,lS,lZ,lC];have I:=Ib.entry (b5.below B2);have P:=Lib.hid (retC hz I (k:=k) (by omega) (by omega) (zup HZ.out B2));obtain⟨i1,i2,i3,i4,i5⟩:=I;clear hz
 go_wp2_with fail
 exact bodyPost_ret (v:=.agg #[.bool s_,.slice A_ n_ c_]) (by simp[results,Tryz.results70,go_sem,i1,i2]) rfl P.out
end
section
open Go.RowKit
def dot (F G:Nat->Nat->Int)(i j:Nat):Nat->Int
 |0=>0
 |m+1=>dot F G i j m+F i m*G m j
section
variable {w:World}{g h:Nat}{T:TypeId}{cs:List Value}{s t:Bool}{A B:Option Addr}{n c m d:Nat}{z:Int}
end
theorem n_p {q q':Bool}{r c n d k r' c' n' d' k' i j:Nat}{A A':Option Addr}{F G:Nat->Nat->Int}{w:World}(ha:Mt q w r c A n d k F)(hb:Mt q' w r' c' A' n' d' k' G)(hcr:c=r')(hi:i<r)(hj:j<c')(hk:k+k'<=549755813888):Calls Tryz.prog 65 #[.agg #[.int .i64 (r:Int),.int .i64 (c:Int),.slice A n d,.int .i64 (r':Int),.int .i64 (c':Int),.slice A' n' d'],.int .i64 (i:Int),.int .i64 (j:Int)] w (RetK (kC (dot F G i j c) (k+k'+c)) w):=by
 have hc1:=ha.hc;have HC:=Lib.hid hcr;clear hcr;obtain⟨w1,hw1,b3,b6,z1,s1⟩:=boxes2 w 87 31 [.int .i64 (r:Int),.int .i64 (c:Int),.slice A n d,.int .i64 (r':Int),.int .i64 (c':Int),.slice A' n' d'] [.bool false,.slice none 0 0];have HW:=Lib.hid hw1;have HZ:=Lib.hid z1;clear hw1 z1;go_enter Tryz.func65,Tryz.ntmps65
 go_upto_region 1 with fail
 rw[HW.out];obtain⟨w2,hw2,b7,z2,s2⟩:=boxes1 w1 31 [.bool false,.slice none 0 0];have HW2:=Lib.hid hw2;clear hw2;go_upto_region 2 with fail
 rw[s1]at b7;rw[HW2.out];have HB:Hid (Below w.heap.size w w2/\Bx w2 w.heap.size 87 [.int .i64 (r:Int),.int .i64 (c:Int),.slice A n d,.int .i64 (r':Int),.int .i64 (c':Int),.slice A' n' d']/\Bx w2 (w.heap.size+1) 31 [.bool false,.slice none 0 0]/\∃s A n d,Bx w2 (w.heap.size+1+1) 31 [.bool s,.slice A n d]/\Zc w2 s A n d (dot F G i j (0))/\n<=k+k'+(0)):=Lib.hid ⟨zup HZ.out z2,b3.below z2,b6.below z2,_,_,_,_,b7,Zc.nought _,Nat.zero_le _⟩;have c1:=(b3.below z2).cell 1;simp only[List.getElem?_cons_succ,List.getElem?_cons_zero]at c1;clear b3 b6 b7 z2 s1 s2 HW2 HZ HW
 go_wp2_with fail
 clear c1;go_loopw [15] (fun s15 wr=>∃t:Nat,s15= .int .i64 (t:Int)/\t<=c/\Hid (Below w.heap.size w wr/\Bx wr w.heap.size 87 [.int .i64 (r:Int),.int .i64 (c:Int),.slice A n d,.int .i64 (r':Int),.int .i64 (c':Int),.slice A' n' d']/\Bx wr (w.heap.size+1) 31 [.bool false,.slice none 0 0]/\∃s A n d,Bx wr (w.heap.size+1+1) 31 [.bool s,.slice A n d]/\Zc wr s A n d (dot F G i j (t))/\n<=k+k'+(t))) (fun s15 _=>c - (intOf s15).toNat)
 case atStart=>exact⟨0,rfl,Nat.zero_le _,HB⟩
 case round=>
  clear HB;obtain⟨t,rfl,ht,HB⟩:=hrel;by_cases hlt:t<c
  ·have u1:(t:Int)<(c:Int):=by omega
   go_wp2_with fail
   obtain⟨B0,b3,b6,s7,A7,n7,d7,b7,hz7,hk7⟩:=HB.out;clear HB;refine Run.start 12 ?_;refine .fa .o (fP0 0) ?_;refine .ld (.i 0) (ldM b3 0) ?_;refine .mv .o ?_;refine .mv .o ?_;refine .c3 (.i 1) (.i 2) (.i 3) (x:=kV (F i t) k) (by rintro u v x w2 hB rfl rfl rfl;exact e_4 (ha.below (zup B0 hB)) hi hlt) ?_;refine .fa .o (fP1 3) ?_;refine .ld (.i 5) (ldM b3 3) ?_;refine .mv .o ?_;refine .mv .o ?_;refine .c3 (.i 6) (.i 7) (.i 8) (x:=kV (G t j) k') (by rintro u v x w2 hB rfl rfl rfl;exact e_4 (hb.below (zup B0 hB)) (by have:=HC.out;omega) hj) ?_;refine .al ?_;refine .al ?_;refine .done [some 18,some 19,some 20,some 21,some 22,some 23,some 24,some 25,some 26,some 27,some 9,some 10] ?_;intro w3 B3;rintro v0 ⟨s9,A9,n9,d9,rfl,hx,hk9⟩;rintro v1 ⟨s10,A10,n10,d10,rfl,hy,hk10⟩;rintro g9 hg9 hl9 hc9 -;rintro g10 hg10 hl10 hc10 ⟨n910,-⟩;refine sh [_,_] ?_;simp only[Act.put,lS,lZ,lC];have b9:=zeroZ (T:=0) hc9;have b10:=zeroZ (T:=0) hc10;have hl7:=b7.lt;have hl3:=b3.lt;have hl6:=b6.lt;obtain⟨w4,hw4⟩:∃w4,zput (zput w3 g9 s9 A9 n9 d9) g10 s10 A10 n10 d10=w4:=⟨_,rfl⟩;have e4:=hw4;have f9:=Ib.entry b9;have f10:=Ib.entry b10;have b10':=b10.zo (s:=s9) (A:=A9) (n:=n9) (c:=d9) (g:=g9) (Ne.symm n910);have B4:Below w.heap.size w w4:=by rw[<-hw4];exact a_8 (a_8 (zup B0 B3) (by omega)) (by omega)
   have k3:=((b3.below B3).zo (g:=g9) (s:=s9) (A:=A9) (n:=n9) (c:=d9) (by omega)).zo (g:=g10) (s:=s10) (A:=A10) (n:=n10) (c:=d10) (by omega);rw[hw4]at k3;have k6:=((b6.below B3).zo (g:=g9) (s:=s9) (A:=A9) (n:=n9) (c:=d9) (by omega)).zo (g:=g10) (s:=s10) (A:=A10) (n:=n10) (c:=d10) (by omega);rw[hw4]at k6;have k7:=((b7.below B3).zo (g:=g9) (s:=s9) (A:=A9) (n:=n9) (c:=d9) (by omega)).zo (g:=g10) (s:=s10) (A:=A10) (n:=n10) (c:=d10) (by omega);rw[hw4]at k7;have k9:=(b9.zp (s:=s9) (A:=A9) (n:=n9) (c:=d9)).zo (g:=g10) (s:=s10) (A:=A10) (n:=n10) (c:=d10) n910;rw[hw4]at k9;have k10:=b10'.zp (s:=s10) (A:=A10) (n:=n10) (c:=d10);rw[hw4]at k10;have hz4:Zc w4 s7 A7 n7 d7 (dot F G i j t):=by rw[<-hw4];exact((hz7.below B3).zp b9).zp b10'
   have hx4:Zv w4 s9 A9 n9 d9 (F i t):=by rw[<-hw4];exact(hx.zp b9).zp b10'
   have hy4:Zv w4 s10 A10 n10 d10 (G t j):=by rw[<-hw4];exact(hy.zp b9).zp b10'
   have HW4:Hid (_=w4):=Lib.hid e4;unfold zput at HW4;clear hw4 e4 b3 b6 b7 b9 b10 b10' hz7 hx hy B0 B3 hc9 hc10 hg9 hg10;obtain⟨f1,f2,f3,f4,f5⟩:=f9;obtain⟨h1,h2,h3,h4,h5⟩:=f10;have n109:¬(g10=g9):=Ne.symm n910;have n910':¬(g9=g10):=n910;go_upto_region 6 with fail
   rw[HW4.out];clear f1 f2 f3 f4 f5 h1 h2 h3 h4 h5 HW4;obtain⟨rx,hrx⟩:∃r,(F i t).sign=r:=⟨_,rfl⟩;obtain⟨ry,hry⟩:∃r,(G t j).sign=r:=⟨_,rfl⟩;have HRX:=Lib.hid hrx;have HRY:=Lib.hid hry;clear hrx hry;by_cases hx0:rx=0
   ·have ex:F i t=0:=by have:=HRX.out;rw[hx0]at this;exact Int.sign_eq_zero_iff_zero.1 this
    refine Run.start 8 ?_;refine .ld .o (ldZ k9 0) ?_;refine .c1 (.i 0) (x:=.k (.int .i64 rx)) (by rintro u w2 hB rfl;exact a_z ⟨_,_,_,_,rfl,hx4.below hB,Nat.le_refl _⟩ (by omega) HRX.out) ?_;refine .two (.i 1) .o (opNe (decide_eq_false (by omega:¬(rx≠0)))) ?_;refine .mv (.i 2) ?_;refine .no ?_;refine .no ?_;refine .no ?_;refine .pk (.i 3) .o false ?_;refine .donep [some 28,some 29,some 30,some 31,some 32,some 33,some 34,some 35] ?_;intro w5 B5;refine sh [] ?_;simp only[Act.put,lS,lZ,lC];have ed:dot F G i j (t+1)=dot F G i j t:=by show _+F i t*_=_;rw[ex];simp
    have HN:Hid (Below w.heap.size w w5/\Bx w5 w.heap.size 87 [.int .i64 (r:Int),.int .i64 (c:Int),.slice A n d,.int .i64 (r':Int),.int .i64 (c':Int),.slice A' n' d']/\Bx w5 (w.heap.size+1) 31 [.bool false,.slice none 0 0]/\∃s A n d,Bx w5 (w.heap.size+1+1) 31 [.bool s,.slice A n d]/\Zc w5 s A n d (dot F G i j (t+1))/\n<=k+k'+(t+1)):=Lib.hid ⟨zup B4 B5,k3.below B5,k6.below B5,_,_,_,_,k7.below B5,by rw[ed];exact hz4.below B5,by omega⟩;clear k3 k6 k7 hz4 B4
    go_wp2_with fail
    go_roundw
    case rel=>exact⟨t+1,by go_num,by omega,HN⟩
    case measure=>first|(simp[intOf];done)|(simp[intOf];omega)
   ·have ux:rx≠0:=hx0;by_cases hy0:ry=0
    ·have ey:G t j=0:=by have:=HRY.out;rw[hy0]at this;exact Int.sign_eq_zero_iff_zero.1 this
     refine Run.start 8 ?_;refine .ld .o (ldZ k9 0) ?_;refine .c1 (.i 0) (x:=.k (.int .i64 rx)) (by rintro u w2 hB rfl;exact a_z ⟨_,_,_,_,rfl,hx4.below hB,Nat.le_refl _⟩ (by omega) HRX.out) ?_;refine .two (.i 1) .o (opNe (decide_eq_true ux)) ?_;refine .mv (.i 2) ?_;refine .ld .o (ldZ k10 0) ?_;refine .c1 (.i 4) (x:=.k (.int .i64 ry)) (by rintro u w2 hB rfl;exact a_z ⟨_,_,_,_,rfl,hy4.below hB,Nat.le_refl _⟩ (by omega) HRY.out) ?_;refine .two (.i 5) .o (opNe (decide_eq_false (by omega:¬(ry≠0)))) ?_;refine .pk (.i 3) (.i 6) true ?_;refine .donep [some 28,some 29,some 30,some 31,some 32,some 33,some 34,some 35] ?_;intro w5 B5;refine sh [] ?_;simp only[Act.put,lS,lZ,lC];have ed:dot F G i j (t+1)=dot F G i j t:=by show _+F i t*G t j=_;rw[ey];simp
     have HN:Hid (Below w.heap.size w w5/\Bx w5 w.heap.size 87 [.int .i64 (r:Int),.int .i64 (c:Int),.slice A n d,.int .i64 (r':Int),.int .i64 (c':Int),.slice A' n' d']/\Bx w5 (w.heap.size+1) 31 [.bool false,.slice none 0 0]/\∃s A n d,Bx w5 (w.heap.size+1+1) 31 [.bool s,.slice A n d]/\Zc w5 s A n d (dot F G i j (t+1))/\n<=k+k'+(t+1)):=Lib.hid ⟨zup B4 B5,k3.below B5,k6.below B5,_,_,_,_,k7.below B5,by rw[ed];exact hz4.below B5,by omega⟩;clear k3 k6 k7 hz4 B4
     go_wp2_with fail
     go_roundw
     case rel=>exact⟨t+1,by go_num,by omega,HN⟩
     case measure=>first|(simp[intOf];done)|(simp[intOf];omega)
    ·have uy:ry≠0:=hy0;refine Run.start 8 ?_;refine .ld .o (ldZ k9 0) ?_;refine .c1 (.i 0) (x:=.k (.int .i64 rx)) (by rintro u w2 hB rfl;exact a_z ⟨_,_,_,_,rfl,hx4.below hB,Nat.le_refl _⟩ (by omega) HRX.out) ?_;refine .two (.i 1) .o (opNe (decide_eq_true ux)) ?_;refine .mv (.i 2) ?_;refine .ld .o (ldZ k10 0) ?_;refine .c1 (.i 4) (x:=.k (.int .i64 ry)) (by rintro u w2 hB rfl;exact a_z ⟨_,_,_,_,rfl,hy4.below hB,Nat.le_refl _⟩ (by omega) HRY.out) ?_;refine .two (.i 5) .o (opNe (decide_eq_true uy)) ?_;refine .pk (.i 3) (.i 6) true ?_;refine .donep [some 28,some 29,some 30,some 31,some 32,some 33,some 34,some 35] ?_;intro w5 B5;refine sh [] ?_;simp only[Act.put,lS,lZ,lC];replace k3:=k3.below B5;replace k6:=k6.below B5;replace k7:=k7.below B5;replace k9:=k9.below B5;replace k10:=k10.below B5;replace hz4:=hz4.below B5;replace hx4:=hx4.below B5;replace hy4:=hy4.below B5;replace B4:=zup B4 B5;clear B5;go_upto_region 7 with fail
     refine Run.start 5 ?_;refine .ld .o (ldZ k7 0) ?_;refine .ld .o (ldZ k9 0) ?_;refine .ld .o (ldZ k10 0) ?_;refine .c2 (.i 1) (.i 2) (x:=kC (F i t*G t j) (k+k')) (by rintro u v w2 hB rfl rfl;exact b_u ⟨_,_,_,_,rfl,hx4.below hB,hk9⟩ ⟨_,_,_,_,rfl,hy4.below hB,hk10⟩ (by omega) (by omega) (Nat.le_refl _)) ?_;refine .c2 (.i 0) (.i 3) (x:=kC (dot F G i j (t+1)) (k+k'+(t+1))) (by rintro u v w2 hB rfl h2;exact l_z ⟨_,_,_,_,rfl,(hz4.below hB).zv,hk7⟩ h2.v (by omega) (by omega) (by omega)) ?_;refine .done [some 36,some 37,some 38,some 39,some 40] ?_;intro w6 B6;rintro v2 -;rintro v3 ⟨s11,A11,n11,d11,rfl,hs,hk11⟩;refine sh [_] ?_;simp only[Act.put,lS,lZ,lC];replace k7:=k7.below B6;obtain⟨w7,hw7⟩:∃w7,zput w6 (w.heap.size+1+1) s11 A11 n11 d11=w7:=⟨_,rfl⟩;have HN:Hid (Below w.heap.size w w7/\Bx w7 w.heap.size 87 [.int .i64 (r:Int),.int .i64 (c:Int),.slice A n d,.int .i64 (r':Int),.int .i64 (c':Int),.slice A' n' d']/\Bx w7 (w.heap.size+1) 31 [.bool false,.slice none 0 0]/\∃s A n d,Bx w7 (w.heap.size+1+1) 31 [.bool s,.slice A n d]/\Zc w7 s A n d (dot F G i j (t+1))/\n<=k+k'+(t+1)):=Lib.hid ⟨by rw[<-hw7];exact a_8 (zup B4 B6) (by omega),by rw[<-hw7];exact(k3.below B6).zo (by omega),by rw[<-hw7];exact(k6.below B6).zo (by omega),s11,A11,n11,d11,by rw[<-hw7];exact k7.zp,by rw[<-hw7];exact hs.zp k7,hk11⟩;have HW7:=Lib.hid hw7;unfold zput at HW7;obtain⟨f1,f2,f3,f4,f5⟩:=Ib.entry k7;clear k3 k6 k7 k9 k10 hz4 hx4 hy4 hs B4 B6 hw7
     go_wp2_with fail
     rw[HW7.out];go_roundw
     case rel=>exact⟨t+1,by go_num,by omega,HN⟩
     case measure=>first|(simp[intOf];done)|(simp[intOf];omega)
  ·obtain rfl:t=c:=by omega
   have u1:¬(t:Int)<(t:Int):=by omega
   obtain⟨B0,b3,b6,s7,A7,n7,d7,b7,hz7,hk7⟩:=HB.out;have I:=Ib.entry b6;have J:=Ib.entry b7;have P:=Lib.hid (retC hz7 I (k:=k+k'+t) hk7 (by omega) B0);obtain⟨i1,i2,i3,i4,i5⟩:=I;obtain⟨j1,j2,j3,j4,j5⟩:=J;clear b3 b6 b7 hz7 HB B0
   go_wp2_with fail
   exact bodyPost_ret (v:=.agg #[.bool s7,.slice A7 n7 d7]) (by simp[results,Tryz.results65,go_sem,i1,i2]) rfl P.out
end
section
open Go.RowKit
section
variable {w w':World}{g:Nat}{s t s' t' s0 t0 u v:Bool}{A B A' B' A0 B0 C D':Option Addr}{n c m d n' c' m' d' n0 c0 m0 d0 l e' f' h' k:Nat}{p q:Rat}
theorem mul_q (ha:Qv w s A n c t B m d p)(hb:Qv w u C l e' v D' f' h' q)(k:Nat)(hnk:n<=k)(hmk:m<=k)(hlk:l<=k)(hfk:f'<=k)(h1:1<=k)(hk:k<=1073741824):
  Calls Tryz.prog 77 #[.agg #[.bool s,.slice A n c,.bool t,.slice B m d],.agg #[.bool u,.slice C l e',.bool v,.slice D' f' h']] w (QPost (p*q) (2*k) w):=by
 obtain⟨N,D,a1,a2,a3⟩:=ha;obtain⟨M,E,b1,b2,b3⟩:=hb;rw[<-a3.out,<-b3.out];exact x_x a1 a2 b1 b2 hnk hmk hlk hfk h1 hk
end
end
section
open Go.RowKit
section
variable {q:Bool}{w w':World}{s t:Bool}{A B:Option Addr}{n c m d g:Nat}{x:Rat}
end
section
variable {q:Bool}{w w':World}{A:Option Addr}{n c k g:Nat}{xs:List Rat}
theorem QL.elem {ad:Addr}(h:QL q w (some ad) n c k xs){j:Nat}(hj:j<n):QAt q w (ad.add (j*4)) k (rth xs j):=by
 obtain⟨ad',e,h1,h2⟩:=h.at' (by omega);cases e;exact h2 j hj
end
section
variable {w w':World}{g k b:Nat}{f:Nat->Bool}{xs:List Rat}
end
end
section
open Go.RowKit
section
variable {u v:Value}{x y:Rat}{n m K:Nat}{w:World}
theorem x_y (k:Nat)(hx:IsQv x n u w)(hy:IsQv y m v w)(hn:n<=k)(hm:m<=k)(h1:1<=k)(hk:k<=1073741824)(hK:2*k<=K):Calls Tryz.prog 77 #[u,v] w (RetK (kQ (x*y) K) w):=by
 obtain⟨s,A,a,c,t,B,b,d,rfl,g1,g2,g3⟩:=hx;obtain⟨s',A',a',c',t',B',b',d',rfl,i1,i2,i3⟩:=hy;exact(mul_q g1 i1 k (by omega) (by omega) (by omega) (by omega) h1 hk).mono fun e w' h=>h.q hK
end
section
variable {q:Bool}{w w':World}{r c n d k k':Nat}{A:Option Addr}{F G:Nat->Nat->Rat}
end
def IsMq (q:Bool)(r c k:Nat)(F:Nat->Nat->Rat):FVal:=fun v w=>∃A n d,v= .agg #[.int .i64 (r:Int),.int .i64 (c:Int),.slice A n d]/\Mq q w r c A n d k F
def kMq (q:Bool)(r c k:Nat)(F:Nat->Nat->Rat):FK:=.f (IsMq q r c k F) (fun v w w' ⟨A,n,d,e,h⟩ hb=>⟨A,n,d,e,h.below hb⟩)
end
section
open Go.RowKit
theorem retNo {w w2:World}{B:Option Addr}{g m e':Nat}{x y e:Int}(b:Bx w2 g 27 [.int .i64 x,.int .i64 y,.slice B m e'])(hg:w.heap.size<=g)(hB:Below w.heap.size w w2):
  RetK (noM e) w (.returned (.tuple #[.agg #[.int .i64 0,.int .i64 0,.slice none 0 0],.int .i64 e])) (mput w2 g 0 0 none 0 0):=⟨_,rfl,rfl,b_4 hB hg⟩
theorem exK {vs:Array Value}{u:Value}{j:Nat}(h:vs[j]? =some u):∀v w,(FK.k (.tuple vs)).F v w->∃vs:Array Value,∃u',v= .tuple vs/\vs[j]? =some u'/\(FK.k u).F u' w:=fun v w e=>⟨vs,u,e,h,rfl⟩
theorem argsM (p i j:Value):#[p]++ #[i,j]++ #[]= #[p,i,j]:=rfl
theorem argsC1 (i j a:Value):#[]++ #[i,j]++ #[a]= #[i,j,a]:=rfl
theorem q_s {q q':Bool}{r c n d k n' d' k' K:Nat}{A A':Option Addr}{F G H:Nat->Nat->Int}{f:FuncId}{first captured:Array Value}{w:World}(ha:Mt q w r c A n d k F)(hb:Mt q' w r c A' n' d' k' G)(hgo:goes f=true)
  (hF:∀i j W,i<r->j<c->Below w.heap.size w W->Calls Tryz.prog f (first++ #[.int .i64 (i:Int),.int .i64 (j:Int)]++captured) W (RetK (kC (H i j) K) W)):Calls Tryz.prog 56 #[.agg #[.int .i64 (r:Int),.int .i64 (c:Int),.slice A n d,.int .i64 (r:Int),.int .i64 (c:Int),.slice A' n' d'],.func (.func f) first captured] w (RetK (kT (kM true r c (K) (H)) (.k (.int .i64 0))) w):=by
 have h1:=ha.fmd;have h2:=hb.fmd;have h3:=ha.hr;have h4:=ha.hc;have HF:=Lib.hid hF;clear ha hb hF;obtain⟨w1,hw1,b2,b4,z1,s1⟩:=boxes2 w 87 27 [.int .i64 (r:Int),.int .i64 (c:Int),.slice A n d,.int .i64 (r:Int),.int .i64 (c:Int),.slice A' n' d'] [.int .i64 0,.int .i64 0,.slice none 0 0];have HW:=Lib.hid hw1;have HZ:=Lib.hid z1;have h1_:=Lib.hid h1;have h2_:=Lib.hid h2;clear hw1 z1 h1 h2 s1;go_enter Tryz.func56,Tryz.ntmps56
 go_upto_region 1 with fail
 rw[HW.out];refine Run.start 11 ?_;refine .ld .o (ldP b2) ?_;refine .c1 (.i 0) (x:=.k (.bool true)) (by rintro u w2 hB rfl;exact c_8 (by rw[h1_.out,h2_.out];rfl) w2) ?_;refine .nt (.i 1) ?_;refine .mv (.i 2) ?_;refine .fa .o (fP0 0) ?_;refine .ld (.i 4) (ldM b2 0) ?_;refine .fa .o (fP1 3) ?_;refine .ld (.i 6) (ldM b2 3) ?_;refine .c2 (.i 5) (.i 7) (x:=.k (.bool true)) (by rintro u v w2 hB rfl rfl;exact o_p (by simp) w2) ?_;refine .nt (.i 8) ?_;refine .pk (.i 3) (.i 9) false ?_;refine .donep [some 6,some 7,some 8,some 9,some 10,some 11,some 12,some 13,some 14,some 15,some 16] ?_;intro w2 B2;refine sh [] ?_;simp only[Act.put,lS,lZ,lC];replace b2:=b2.below B2;replace b4:=b4.below B2;have HZ2:=Lib.hid (zup HZ.out B2);clear B2 HZ;go_upto_region 3 with fail
 refine Run.start 8 ?_;refine .fa .o (fP0 0) ?_;refine .fa (.i 0) (fM0 0) ?_;refine .ld (.i 1) (ldInt b2 0) ?_;refine .fa .o (fP0 0) ?_;refine .fa (.i 3) (fM1 1) ?_;refine .ld (.i 4) (ldInt b2 1) ?_;refine .mv .o ?_;refine .c3 (.i 2) (.i 5) (.i 6) (x:=kM true r c K H) (by rintro u v x w3 hB rfl rfl rfl;exact h_o h3 h4 hgo (fun i j W hi hj hW=>HF.out i j W hi hj (zup (zup HZ2.out hB) hW))) ?_;refine .donep [some 18,some 19,some 20,some 21,some 22,some 23,some 24,some 25] ?_;intro w3 B3;rintro v ⟨A_,n_,d_,rfl,hM⟩;refine sh [_,_] ?_;simp only[Act.put,lS,lZ,lC];have P:=Lib.hid (retME hM (b4.below B3) (by omega) (zup HZ2.out B3));unfold mput at P;obtain⟨i0,i1,i2,i3,i4,i5,i6⟩:=(b4.below B3).m3;clear hM
 go_wp2_with fail
 exact bodyPost_ret (v:=.tuple #[.agg #[.int .i64 (r:Int),.int .i64 (c:Int),.slice A_ n_ d_],.int .i64 0]) (by simp[results,Tryz.results56,go_sem,i0,i1,i2]) rfl P.out
theorem t_g {r c r' c':Int}{A A':Option Addr}{n d n' d':Nat}{g:Value}{w:World}(h:(fmd r c n&&fmd r' c' n'&&(decide (r=r')&&decide (c=c')))=false):Calls Tryz.prog 56 #[.agg #[.int .i64 r,.int .i64 c,.slice A n d,.int .i64 r',.int .i64 c',.slice A' n' d'],g] w (RetK (noM 2) w):=by
 obtain⟨t1,h1⟩:∃t,(fmd r c n&&fmd r' c' n')=t:=⟨_,rfl⟩;obtain⟨t2,h2⟩:∃t,(decide (r=r')&&decide (c=c'))=t:=⟨_,rfl⟩;rw[h1,h2]at h;have h_:=Lib.hid h;clear h;obtain⟨w1,hw1,b2,b4,z1,s1⟩:=boxes2 w 87 27 [.int .i64 r,.int .i64 c,.slice A n d,.int .i64 r',.int .i64 c',.slice A' n' d'] [.int .i64 0,.int .i64 0,.slice none 0 0];have HW:=Lib.hid hw1;have HZ:=Lib.hid z1;have h1_:=Lib.hid h1;have h2_:=Lib.hid h2;clear hw1 z1 h1 h2 s1;go_enter Tryz.func56,Tryz.ntmps56
 go_upto_region 1 with fail
 rw[HW.out];cases t1
 ·refine Run.start 11 ?_;refine .ld .o (ldP b2) ?_;refine .c1 (.i 0) (x:=.k (.bool false)) (by rintro u w2 hB rfl;exact c_8 h1_.out w2) ?_;refine .nf (.i 1) ?_;refine .mv (.i 2) ?_;refine .no ?_;refine .no ?_;refine .no ?_;refine .no ?_;refine .no ?_;refine .no ?_;refine .pk (.i 3) .o true ?_;refine .donep [some 6,some 7,some 8,some 9,some 10,some 11,some 12,some 13,some 14,some 15,some 16] ?_;intro w2 B2;refine sh [] ?_;simp only[Act.put,lS,lZ,lC];have P:=Lib.hid (retNo (e:=2) (b4.below B2) (by omega) (zup HZ.out B2));unfold mput at P;obtain⟨i0,i1,i2,i3,i4,i5,i6⟩:=(b4.below B2).m3
  go_wp2_with fail
  exact bodyPost_ret (v:=.tuple #[.agg #[.int .i64 0,.int .i64 0,.slice none 0 0],.int .i64 2]) (by simp[results,Tryz.results56,go_sem,i0,i1,i2]) rfl P.out
 ·cases t2;case true=>exact absurd h_.out (by simp)
  case false=>
   refine Run.start 11 ?_;refine .ld .o (ldP b2) ?_;refine .c1 (.i 0) (x:=.k (.bool true)) (by rintro u w2 hB rfl;exact c_8 h1_.out w2) ?_;refine .nt (.i 1) ?_;refine .mv (.i 2) ?_;refine .fa .o (fP0 0) ?_;refine .ld (.i 4) (ldM b2 0) ?_;refine .fa .o (fP1 3) ?_;refine .ld (.i 6) (ldM b2 3) ?_;refine .c2 (.i 5) (.i 7) (x:=.k (.bool false)) (by rintro u v w2 hB rfl rfl;exact o_p h2_.out w2) ?_;refine .nf (.i 8) ?_;refine .pk (.i 3) (.i 9) false ?_;refine .donep [some 6,some 7,some 8,some 9,some 10,some 11,some 12,some 13,some 14,some 15,some 16] ?_;intro w2 B2;refine sh [] ?_;simp only[Act.put,lS,lZ,lC];have P:=Lib.hid (retNo (e:=2) (b4.below B2) (by omega) (zup HZ.out B2));unfold mput at P;obtain⟨i0,i1,i2,i3,i4,i5,i6⟩:=(b4.below B2).m3
   go_wp2_with fail
   exact bodyPost_ret (v:=.tuple #[.agg #[.int .i64 0,.int .i64 0,.slice none 0 0],.int .i64 2]) (by simp[results,Tryz.results56,go_sem,i0,i1,i2]) rfl P.out
theorem s_j {q q':Bool}{r c n d k n' d' k':Nat}{A A':Option Addr}{F G:Nat->Nat->Int}{w:World}(ha:Mt q w r c A n d k F)(hb:Mt q' w r c A' n' d' k' G)(hk:k<=1099511627776)(hk':k'<=1099511627776):Calls Tryz.prog 22 #[.agg #[.int .i64 (r:Int),.int .i64 (c:Int),.slice A n d],.agg #[.int .i64 (r:Int),.int .i64 (c:Int),.slice A' n' d']] w (RetK (kT (kM true r c (max k k'+1) (fun i j=>F i j+G i j)) (.k (.int .i64 0))) w):=by
 obtain⟨w1,hw1,b2,b3,b4,z1,s1⟩:=boxes3 w 27 27 27 [.int .i64 (r:Int),.int .i64 (c:Int),.slice A n d] [.int .i64 (r:Int),.int .i64 (c:Int),.slice A' n' d'] [.int .i64 0,.int .i64 0,.slice none 0 0];have HW:=Lib.hid hw1;have HZ:=Lib.hid z1;clear hw1 z1;go_enter Tryz.func22,Tryz.ntmps22
 go_upto_region 1 with fail
 rw[HW.out];obtain⟨w2,hw2,b6,z2,s2⟩:=boxes1 w1 87 [.int .i64 (r:Int),.int .i64 (c:Int),.slice A n d,.int .i64 (r:Int),.int .i64 (c:Int),.slice A' n' d'];rw[s1]at b6;have HW2:=Lib.hid hw2;clear hw2 s2;obtain⟨i0,i1,i2,i3,i4,i5,i6⟩:=b2.m3;obtain⟨j0,j1,j2,j3,j4,j5,j6⟩:=b3.m3;go_upto_region 2 with fail
 rw[HW2.out];clear i0 i1 i2 i3 i4 i5 i6 j0 j1 j2 j3 j4 j5 j6 HW2 HW s1;replace b2:=b2.below z2;replace b3:=b3.below z2;replace b4:=b4.below z2;have HZ2:=Lib.hid (zup HZ.out z2);clear z2 HZ;refine Run.start 6 ?_;refine .ld .o (ldP b6) ?_;refine .ld .o (ldP b6) ?_;refine .fn [(.i 1)] [] [_] [] (⟨rfl,trivial⟩) (trivial) ?_;refine .c2 (.i 0) (.i 2) (x:=kT (kM true r c (max k k'+1) (fun i j=>F i j+G i j)) (.k (.int .i64 0))) (by rintro u v w4 hB rfl rfl;exact q_s (ha.below (zup HZ2.out hB)) (hb.below (zup HZ2.out hB)) (by kernel_rfl) (fun i j W hi hj hW=>by rw[argsM];exact x_6 (ha.below (zup (zup HZ2.out hB) hW)) (hb.below (zup (zup HZ2.out hB) hW)) hi hj hi hj hk hk')) ?_;refine .ex (.i 3) 0 kT_0 ?_;refine .ex (.i 3) 1 kT_1 ?_;refine .donep [some 10,some 11,some 12,some 13,some 14,some 15] ?_;intro w3 B3;rintro v0 -;rintro v ⟨A_,n_,d_,rfl,hM⟩;refine sh [_,_] ?_;simp only[Act.put,lS,lZ,lC];have P:=Lib.hid (retME hM (b4.below B3) (by omega) (zup HZ2.out B3));unfold mput at P;obtain⟨i0,i1,i2,i3,i4,i5,i6⟩:=(b4.below B3).m3;clear hM
 go_wp2_with fail
 exact bodyPost_ret (v:=.tuple #[.agg #[.int .i64 (r:Int),.int .i64 (c:Int),.slice A_ n_ d_],.int .i64 0]) (by simp[results,Tryz.results22,go_sem,i0,i1,i2]) rfl P.out
theorem k_6 {r c r' c':Int}{A A':Option Addr}{n d n' d':Nat}{w:World}(h:(fmd r c n&&fmd r' c' n'&&(decide (r=r')&&decide (c=c')))=false):Calls Tryz.prog 22 #[.agg #[.int .i64 r,.int .i64 c,.slice A n d],.agg #[.int .i64 r',.int .i64 c',.slice A' n' d']] w (RetK (noM 2) w):=by
 obtain⟨w1,hw1,b2,b3,b4,z1,s1⟩:=boxes3 w 27 27 27 [.int .i64 r,.int .i64 c,.slice A n d] [.int .i64 r',.int .i64 c',.slice A' n' d'] [.int .i64 0,.int .i64 0,.slice none 0 0];have HW:=Lib.hid hw1;have HZ:=Lib.hid z1;have h_:=Lib.hid h;clear hw1 z1 h;go_enter Tryz.func22,Tryz.ntmps22
 go_upto_region 1 with fail
 rw[HW.out];obtain⟨w2,hw2,b6,z2,s2⟩:=boxes1 w1 87 [.int .i64 r,.int .i64 c,.slice A n d,.int .i64 r',.int .i64 c',.slice A' n' d'];rw[s1]at b6;have HW2:=Lib.hid hw2;clear hw2 s2;obtain⟨i0,i1,i2,i3,i4,i5,i6⟩:=b2.m3;obtain⟨j0,j1,j2,j3,j4,j5,j6⟩:=b3.m3;go_upto_region 2 with fail
 rw[HW2.out];clear i0 i1 i2 i3 i4 i5 i6 j0 j1 j2 j3 j4 j5 j6 HW2 HW s1;replace b2:=b2.below z2;replace b3:=b3.below z2;replace b4:=b4.below z2;have HZ2:=Lib.hid (zup HZ.out z2);clear z2 HZ;refine Run.start 6 ?_;refine .ld .o (ldP b6) ?_;refine .ld .o (ldP b6) ?_;refine .fn [(.i 1)] [] [_] [] (⟨rfl,trivial⟩) (trivial) ?_;refine .c2 (.i 0) (.i 2) (x:=noM 2) (by rintro u v w4 hB rfl rfl;exact t_g h_.out) ?_;refine .ex (.i 3) 0 (exK rfl) ?_;refine .ex (.i 3) 1 (exK rfl) ?_;refine .donep [some 10,some 11,some 12,some 13,some 14,some 15] ?_;intro w3 B3;refine sh [_,_] ?_;simp only[Act.put,lS,lZ,lC];have P:=Lib.hid (retNo (e:=2) (b4.below B3) (by omega) (zup HZ2.out B3));unfold mput at P;obtain⟨i0,i1,i2,i3,i4,i5,i6⟩:=(b4.below B3).m3
 go_wp2_with fail
 exact bodyPost_ret (v:=.tuple #[.agg #[.int .i64 0,.int .i64 0,.slice none 0 0],.int .i64 2]) (by simp[results,Tryz.results22,go_sem,i0,i1,i2]) rfl P.out
theorem s_d {q q':Bool}{r c n d k r' c' n' d' k':Nat}{A A':Option Addr}{F G:Nat->Nat->Int}{w:World}(ha:Mt q w r c A n d k F)(hb:Mt q' w r' c' A' n' d' k' G)(hcr:c=r')(hk:k+k'<=549755813888):Calls Tryz.prog 24 #[.agg #[.int .i64 (r:Int),.int .i64 (c:Int),.slice A n d],.agg #[.int .i64 (r':Int),.int .i64 (c':Int),.slice A' n' d']] w (RetK (kT (kM true r c' (k+k'+c) (fun i j=>dot F G i j c)) (.k (.int .i64 0))) w):=by
 have h1:=ha.fmd;have h2:=hb.fmd;have h3:=ha.hr;have h4:=hb.hc;obtain⟨w1,hw1,b2,b3,b4,z1,s1⟩:=boxes3 w 27 27 27 [.int .i64 (r:Int),.int .i64 (c:Int),.slice A n d] [.int .i64 (r':Int),.int .i64 (c':Int),.slice A' n' d'] [.int .i64 0,.int .i64 0,.slice none 0 0];have HW:=Lib.hid hw1;have HZ:=Lib.hid z1;have h1_:=Lib.hid h1;have h2_:=Lib.hid h2;have hcr_:=Lib.hid hcr;clear hw1 z1 h1 h2 hcr;go_enter Tryz.func24,Tryz.ntmps24
 go_upto_region 1 with fail
 rw[HW.out];obtain⟨w2,hw2,b6,z2,s2⟩:=boxes1 w1 87 [.int .i64 (r:Int),.int .i64 (c:Int),.slice A n d,.int .i64 (r':Int),.int .i64 (c':Int),.slice A' n' d'];rw[s1]at b6;have HW2:=Lib.hid hw2;clear hw2 s2;obtain⟨i0,i1,i2,i3,i4,i5,i6⟩:=b2.m3;obtain⟨j0,j1,j2,j3,j4,j5,j6⟩:=b3.m3;go_upto_region 2 with fail
 rw[HW2.out];clear i0 i1 i2 i3 i4 i5 i6 j0 j1 j2 j3 j4 j5 j6 HW2 HW s1;replace b2:=b2.below z2;replace b3:=b3.below z2;replace b4:=b4.below z2;have HZ2:=Lib.hid (zup HZ.out z2);clear z2 HZ;refine Run.start 10 ?_;refine .ld .o (ldP b6) ?_;refine .c1 (.i 0) (x:=.k (.bool true)) (by rintro u w2 hB rfl;exact c_8 (by rw[h1_.out,h2_.out];rfl) w2) ?_;refine .nt (.i 1) ?_;refine .mv (.i 2) ?_;refine .fa .o (fM1 1) ?_;refine .ld (.i 4) (ldInt b2 1) ?_;refine .fa .o (fM0 0) ?_;refine .ld (.i 6) (ldInt b3 0) ?_;refine .two (.i 5) (.i 7) (opNe (decide_eq_false (by have:=hcr_.out;omega:¬((c:Int)≠(r':Int))))) ?_;refine .pk (.i 3) (.i 8) false ?_;refine .donep [some 10,some 11,some 12,some 13,some 14,some 15,some 16,some 17,some 18,some 19] ?_;intro w3 B3;refine sh [] ?_;simp only[Act.put,lS,lZ,lC];replace b2:=b2.below B3;replace b3:=b3.below B3;replace b4:=b4.below B3;replace b6:=b6.below B3;have HZ3:=Lib.hid (zup HZ2.out B3);clear B3 HZ2;go_upto_region 4 with fail
 refine Run.start 7 ?_;refine .fa .o (fM0 0) ?_;refine .ld (.i 0) (ldInt b2 0) ?_;refine .fa .o (fM1 1) ?_;refine .ld (.i 2) (ldInt b3 1) ?_;refine .ld .o (ldP b6) ?_;refine .fn [(.i 4)] [] [_] [] (⟨rfl,trivial⟩) (trivial) ?_;refine .c3 (.i 1) (.i 3) (.i 5) (x:=kM true r c' (k+k'+c) (fun i j=>dot F G i j c)) (by rintro u v x w4 hB rfl rfl rfl;exact h_o h3 h4 (by kernel_rfl) (fun i j W hi hj hW=>by rw[argsM];exact n_p (ha.below (zup (zup HZ3.out hB) hW)) (hb.below (zup (zup HZ3.out hB) hW)) hcr_.out hi hj hk)) ?_;refine .donep [some 21,some 22,some 23,some 24,some 25,some 26,some 27] ?_;intro w4 B4;rintro v ⟨A_,n_,d_,rfl,hM⟩;refine sh [_,_] ?_;simp only[Act.put,lS,lZ,lC];have P:=Lib.hid (retME hM (b4.below B4) (by omega) (zup HZ3.out B4));unfold mput at P;obtain⟨i0,i1,i2,i3,i4,i5,i6⟩:=(b4.below B4).m3;clear hM
 go_wp2_with fail
 exact bodyPost_ret (v:=.tuple #[.agg #[.int .i64 (r:Int),.int .i64 (c':Int),.slice A_ n_ d_],.int .i64 0]) (by simp[results,Tryz.results24,go_sem,i0,i1,i2]) rfl P.out
theorem k_4 {r c r' c':Int}{A A':Option Addr}{n d n' d':Nat}{w:World}(h:(fmd r c n&&fmd r' c' n'&&decide (c=r'))=false):Calls Tryz.prog 24 #[.agg #[.int .i64 r,.int .i64 c,.slice A n d],.agg #[.int .i64 r',.int .i64 c',.slice A' n' d']] w (RetK (noM 2) w):=by
 obtain⟨t1,h1⟩:∃t,(fmd r c n&&fmd r' c' n')=t:=⟨_,rfl⟩;rw[h1]at h;have h_:=Lib.hid h;clear h;obtain⟨w1,hw1,b2,b3,b4,z1,s1⟩:=boxes3 w 27 27 27 [.int .i64 r,.int .i64 c,.slice A n d] [.int .i64 r',.int .i64 c',.slice A' n' d'] [.int .i64 0,.int .i64 0,.slice none 0 0];have HW:=Lib.hid hw1;have HZ:=Lib.hid z1;have h1_:=Lib.hid h1;clear hw1 z1 h1;go_enter Tryz.func24,Tryz.ntmps24
 go_upto_region 1 with fail
 rw[HW.out];obtain⟨w2,hw2,b6,z2,s2⟩:=boxes1 w1 87 [.int .i64 r,.int .i64 c,.slice A n d,.int .i64 r',.int .i64 c',.slice A' n' d'];rw[s1]at b6;have HW2:=Lib.hid hw2;clear hw2 s2;obtain⟨i0,i1,i2,i3,i4,i5,i6⟩:=b2.m3;obtain⟨j0,j1,j2,j3,j4,j5,j6⟩:=b3.m3;go_upto_region 2 with fail
 rw[HW2.out];clear i0 i1 i2 i3 i4 i5 i6 j0 j1 j2 j3 j4 j5 j6 HW2 HW s1;replace b2:=b2.below z2;replace b3:=b3.below z2;replace b4:=b4.below z2;have HZ2:=Lib.hid (zup HZ.out z2);clear z2 HZ;cases t1
 ·refine Run.start 10 ?_;refine .ld .o (ldP b6) ?_;refine .c1 (.i 0) (x:=.k (.bool false)) (by rintro u w2 hB rfl;exact c_8 h1_.out w2) ?_;refine .nf (.i 1) ?_;refine .mv (.i 2) ?_;refine .no ?_;refine .no ?_;refine .no ?_;refine .no ?_;refine .no ?_;refine .pk (.i 3) .o true ?_;refine .donep [some 10,some 11,some 12,some 13,some 14,some 15,some 16,some 17,some 18,some 19] ?_;intro w3 B3;refine sh [] ?_;simp only[Act.put,lS,lZ,lC];have P:=Lib.hid (retNo (e:=2) (b4.below B3) (by omega) (zup HZ2.out B3));unfold mput at P;obtain⟨i0,i1,i2,i3,i4,i5,i6⟩:=(b4.below B3).m3
  go_wp2_with fail
  exact bodyPost_ret (v:=.tuple #[.agg #[.int .i64 0,.int .i64 0,.slice none 0 0],.int .i64 2]) (by simp[results,Tryz.results24,go_sem,i0,i1,i2]) rfl P.out
 ·have u1:c≠r':=by have:=h_.out;simpa using this
  refine Run.start 10 ?_;refine .ld .o (ldP b6) ?_;refine .c1 (.i 0) (x:=.k (.bool true)) (by rintro u w2 hB rfl;exact c_8 h1_.out w2) ?_;refine .nt (.i 1) ?_;refine .mv (.i 2) ?_;refine .fa .o (fM1 1) ?_;refine .ld (.i 4) (ldInt b2 1) ?_;refine .fa .o (fM0 0) ?_;refine .ld (.i 6) (ldInt b3 0) ?_;refine .two (.i 5) (.i 7) (opNe (decide_eq_true u1)) ?_;refine .pk (.i 3) (.i 8) false ?_;refine .donep [some 10,some 11,some 12,some 13,some 14,some 15,some 16,some 17,some 18,some 19] ?_;intro w3 B3;refine sh [] ?_;simp only[Act.put,lS,lZ,lC];have P:=Lib.hid (retNo (e:=2) (b4.below B3) (by omega) (zup HZ2.out B3));unfold mput at P;obtain⟨i0,i1,i2,i3,i4,i5,i6⟩:=(b4.below B3).m3
  go_wp2_with fail
  exact bodyPost_ret (v:=.tuple #[.agg #[.int .i64 0,.int .i64 0,.slice none 0 0],.int .i64 2]) (by simp[results,Tryz.results24,go_sem,i0,i1,i2]) rfl P.out
theorem n_u {q:Bool}{r c n d k m e:Nat}{A D:Option Addr}{s:Bool}{z:Int}{F:Nat->Nat->Int}{w:World}(ha:Mt q w r c A n d k F)(hz:Zv w s D m e z)(hk:k<=1099511627776)(hm:m<=1099511627776):Calls Tryz.prog 28 #[.agg #[.int .i64 (r:Int),.int .i64 (c:Int),.slice A n d],.agg #[.bool s,.slice D m e]] w (RetK (kT (kM true r c (m+k) (fun i j=>z*F i j)) (.k (.int .i64 0))) w):=by
 have h1:=ha.fmd;have h3:=ha.hr;have h4:=ha.hc;obtain⟨w1,hw1,b2,b3,b4,z1,s1⟩:=boxes3 w 27 31 27 [.int .i64 (r:Int),.int .i64 (c:Int),.slice A n d] [.bool s,.slice D m e] [.int .i64 0,.int .i64 0,.slice none 0 0];have HW:=Lib.hid hw1;have HZ:=Lib.hid z1;have h1_:=Lib.hid h1;clear hw1 z1 h1 s1;go_enter Tryz.func28,Tryz.ntmps28
 go_upto_region 1 with fail
 rw[HW.out];refine Run.start 3 ?_;refine .ld .o (ldM b2 0) ?_;refine .c1 (.i 0) (x:=.k (.bool true)) (by rintro u w2 hB rfl;exact c_z h1_.out w2) ?_;refine .nt (.i 1) ?_;refine .donep [some 6,some 7,some 8] ?_;intro w2 B2;refine sh [] ?_;simp only[Act.put,lS,lZ,lC];replace b2:=b2.below B2;replace b3:=b3.below B2;replace b4:=b4.below B2;have HZ2:=Lib.hid (zup HZ.out B2);clear B2 HZ;go_upto_region 3 with fail
 refine Run.start 6 ?_;refine .fa .o (fM0 0) ?_;refine .ld (.i 0) (ldInt b2 0) ?_;refine .fa .o (fM1 1) ?_;refine .ld (.i 2) (ldInt b2 1) ?_;refine .fn [] [.o,.o] [] [_,_] (trivial) (⟨rfl,rfl,trivial⟩) ?_;refine .c3 (.i 1) (.i 3) (.i 4) (x:=kM true r c (m+k) (fun i j=>z*F i j)) (by rintro u v x w4 hB rfl rfl rfl;exact h_o h3 h4 (by kernel_rfl) (fun i j W hi hj hW=>by rw[argsC2];exact q_7 ((b3.below hB).below hW) ((b2.below hB).below hW) (ha.below (zup (zup HZ2.out hB) hW)) (hz.below (zup (zup HZ2.out hB) hW)) hi hj hk hm)) ?_;refine .donep [some 10,some 11,some 12,some 13,some 14,some 15] ?_;intro w3 B3;rintro v ⟨A_,n_,d_,rfl,hM⟩;refine sh [_,_] ?_;simp only[Act.put,lS,lZ,lC];have P:=Lib.hid (retME hM (b4.below B3) (by omega) (zup HZ2.out B3));unfold mput at P;obtain⟨i0,i1,i2,i3,i4,i5,i6⟩:=(b4.below B3).m3;clear hM
 go_wp2_with fail
 exact bodyPost_ret (v:=.tuple #[.agg #[.int .i64 (r:Int),.int .i64 (c:Int),.slice A_ n_ d_],.int .i64 0]) (by simp[results,Tryz.results28,go_sem,i0,i1,i2]) rfl P.out
theorem n_t {q:Bool}{r c n d k:Nat}{A:Option Addr}{F:Nat->Nat->Int}{w:World}(ha:Mt q w r c A n d k F)(hk:k<=1099511627776):Calls Tryz.prog 26 #[.agg #[.int .i64 (r:Int),.int .i64 (c:Int),.slice A n d]] w (RetK (kT (kM true c r (k) (fun i j=>F j i)) (.k (.int .i64 0))) w):=by
 have h1:=ha.fmd;have h3:=ha.hr;have h4:=ha.hc;obtain⟨w1,hw1,b1,b2,z1,s1⟩:=boxes2 w 27 27 [.int .i64 (r:Int),.int .i64 (c:Int),.slice A n d] [.int .i64 0,.int .i64 0,.slice none 0 0];have HW:=Lib.hid hw1;have HZ:=Lib.hid z1;have h1_:=Lib.hid h1;clear hw1 z1 h1 s1;go_enter Tryz.func26,Tryz.ntmps26
 go_upto_region 1 with fail
 rw[HW.out];refine Run.start 3 ?_;refine .ld .o (ldM b1 0) ?_;refine .c1 (.i 0) (x:=.k (.bool true)) (by rintro u w2 hB rfl;exact c_z h1_.out w2) ?_;refine .nt (.i 1) ?_;refine .donep [some 4,some 5,some 6] ?_;intro w2 B2;refine sh [] ?_;simp only[Act.put,lS,lZ,lC];replace b1:=b1.below B2;replace b2:=b2.below B2;have HZ2:=Lib.hid (zup HZ.out B2);clear B2 HZ;go_upto_region 3 with fail
 refine Run.start 6 ?_;refine .fa .o (fM1 1) ?_;refine .ld (.i 0) (ldInt b1 1) ?_;refine .fa .o (fM0 0) ?_;refine .ld (.i 2) (ldInt b1 0) ?_;refine .fn [] [.o] [] [_] (trivial) (⟨rfl,trivial⟩) ?_;refine .c3 (.i 1) (.i 3) (.i 4) (x:=kM true c r k (fun i j=>F j i)) (by rintro u v x w4 hB rfl rfl rfl;exact h_o h4 h3 (by kernel_rfl) (fun i j W hi hj hW=>by rw[argsC1];exact i_6 ((b1.below hB).below hW) (ha.below (zup (zup HZ2.out hB) hW)) hi hj hk)) ?_;refine .donep [some 8,some 9,some 10,some 11,some 12,some 13] ?_;intro w3 B3;rintro v ⟨A_,n_,d_,rfl,hM⟩;refine sh [_,_] ?_;simp only[Act.put,lS,lZ,lC];have P:=Lib.hid (retME hM (b2.below B3) (by omega) (zup HZ2.out B3));unfold mput at P;obtain⟨i0,i1,i2,i3,i4,i5,i6⟩:=(b2.below B3).m3;clear hM
 go_wp2_with fail
 exact bodyPost_ret (v:=.tuple #[.agg #[.int .i64 (c:Int),.int .i64 (r:Int),.slice A_ n_ d_],.int .i64 0]) (by simp[results,Tryz.results26,go_sem,i0,i1,i2]) rfl P.out
end
section
open Go.RowKit
section
variable {w w':World}{g h:Nat}{T U:TypeId}{cs ds:List Value}
end
section
variable {g o:Nat}
end
theorem QL.apart {q:Bool}{w:World}{ad:Addr}{n c k g:Nat}{xs:List Rat}{T:TypeId}{cs:List Value}(h:QL q w (some ad) n c k xs)(h0:0<n)(b:Bx w g T cs)(hb:∀v,v∈cs->∀s,v≠ .bool s):ad.block≠g:=fun e=>by
 obtain⟨s,A,m,d,t,B,m',d',h1,_⟩:=h.elem h0;rw[Nat.zero_mul,a_j]at h1;have e1:w.cell? ad=cs[ad.off]? \/w.cell? ad=none:=by
  unfold World.cell?;rw[e,b];by_cases hs:ad.spot=none
  ·left;simp[hs]
  ·right;simp[hs]
 rcases e1 with e1|e1
 ·rw[e1]at h1;exact hb _ (List.mem_of_getElem? h1) s rfl
 ·rw[e1]at h1;cases h1
theorem QL.box {q:Bool}{w w':World}{A:Option Addr}{n c k g:Nat}{xs:List Rat}{T:TypeId}{cs:List Value}(h:QL q w A n c k xs)(b:Bx w g T cs)(hb:∀v,v∈cs->∀s,v≠ .bool s)(hw:∀v,v∈cs->∀m:Int,v≠ .int .u64 m)(hg:w.grownBy w' (some g)):QL q w' A n c k xs:=by
 by_cases h0:0<n
 ·obtain⟨ad,e,_⟩:=h.at' h0;subst e;exact h.gro (fun a ha=>by cases ha;exact h.apart h0 b hb) (b.now hw) hg
 ·exact⟨h.len,h.le,h.cap,fun h1=>absurd h1 h0⟩
theorem Mq.box {q:Bool}{w w':World}{A:Option Addr}{r c n d k g:Nat}{F:Nat->Nat->Rat}{T:TypeId}{cs:List Value}(h:Mq q w r c A n d k F)(b:Bx w g T cs)(hb:∀v,v∈cs->∀s,v≠ .bool s)(hw:∀v,v∈cs->∀m:Int,v≠ .int .u64 m)(hg:w.grownBy w' (some g)):Mq q w' r c A n d k F:=⟨h.ql.box b hb hw hg,h.hr,h.hc⟩
section
variable {q:Bool}{w w2:World}{A B C:Option Addr}{r c n d k g m e n' d':Nat}{x y r' c':Int}{F:Nat->Nat->Rat}{T:TypeId}
end
section
variable {w w2:World}{s t s0 t0 s' t':Bool}{A B A0 B0 A' B':Option Addr}{n c m d n0 c0 m0 d0 n' c' m' d' g h:Nat}{T U:TypeId}{cs:List Value}
end
end
section
open Go.RowKit
theorem argsO1 (i j a:Value):#[]++ #[i,j]++ #[a]= #[i,j,a]:=rfl
theorem i_j {r c r' c':Int}{A A':Option Addr}{n d n' d':Nat}{b:Bool}(hb:(decide (r=r')&&decide (c=c'))=b)(w:World):Calls Tryz.prog 59 #[.agg #[.int .i64 r,.int .i64 c,.slice A n d],.agg #[.int .i64 r',.int .i64 c',.slice A' n' d']] w (RetK (.k (.bool b)) w):=by
 obtain⟨t1,h1⟩:∃t,decide (r=r')=t:=⟨_,rfl⟩;obtain⟨t2,h2⟩:∃t,decide (c=c')=t:=⟨_,rfl⟩;have hb':b=(t1&&t2):=by rw[<-hb,h1,h2]
 have hbb:=Lib.hid hb';obtain⟨w1,hw1,b2,b3,z1,s1⟩:=boxes2 w 24 24 [.int .i64 r,.int .i64 c,.slice A n d] [.int .i64 r',.int .i64 c',.slice A' n' d'];have HW:=Lib.hid hw1;have HZ:=Lib.hid z1;have h1_:=Lib.hid h1;have h2_:=Lib.hid h2;clear hw1 z1 h1 h2 hb hb' s1;go_enter Tryz.func59,Tryz.ntmps59
 go_upto_region 1 with fail
 rw[HW.out];cases t1
 ·refine Run.start 13 ?_;refine .fa .o (fQ0 0) ?_;refine .ld (.i 0) (ldInt b2 0) ?_;refine .fa .o (fQ0 0) ?_;refine .ld (.i 2) (ldInt b3 0) ?_;refine .two (.i 1) (.i 3) (opEq h1_.out) ?_;refine .mv (.i 4) ?_;refine .no ?_;refine .no ?_;refine .no ?_;refine .no ?_;refine .no ?_;refine .pk (.i 5) .o false ?_;refine .mv (.i 11) ?_;refine .donep [some 5,some 6,some 7,some 8,some 9,some 10,some 11,some 12,some 13,some 14,some 15,some 16,some 4] ?_;intro w2 B2;refine sh [] ?_;simp only[Act.put,lS,lZ,lC];cases hbb.out
  go_wp2_with fail
  exact bodyPost_ret (v:=.bool false) (by simp[results,Tryz.results59,go_sem]) rfl (a_x rfl (zup HZ.out B2))
 ·refine Run.start 13 ?_;refine .fa .o (fQ0 0) ?_;refine .ld (.i 0) (ldInt b2 0) ?_;refine .fa .o (fQ0 0) ?_;refine .ld (.i 2) (ldInt b3 0) ?_;refine .two (.i 1) (.i 3) (opEq h1_.out) ?_;refine .mv (.i 4) ?_;refine .fa .o (fQ1 1) ?_;refine .ld (.i 6) (ldInt b2 1) ?_;refine .fa .o (fQ1 1) ?_;refine .ld (.i 8) (ldInt b3 1) ?_;refine .two (.i 7) (.i 9) (opEq h2_.out) ?_;refine .pk (.i 5) (.i 10) true ?_;refine .mv (.i 11) ?_;refine .donep [some 5,some 6,some 7,some 8,some 9,some 10,some 11,some 12,some 13,some 14,some 15,some 16,some 4] ?_;intro w2 B2;refine sh [] ?_;simp only[Act.put,lS,lZ,lC];cases hbb.out
  go_wp2_with fail
  exact bodyPost_ret (v:=.bool t2) (by simp[results,Tryz.results59,go_sem]) rfl (a_x rfl (zup HZ.out B2))
end
section
open Go.RowKit
theorem i_k {r c:Int}{n d:Nat}{A:Option Addr}{w:World}(h1:fmd r c n=false):Calls Tryz.prog 21 #[.agg #[.int .i64 r,.int .i64 c,.slice A n d]] w (RetK (noM 2) w):=by
 obtain⟨w1,hw1,b1,b2,z1,s1⟩:=boxes2 w 27 24 [.int .i64 r,.int .i64 c,.slice A n d] [.int .i64 0,.int .i64 0,.slice none 0 0];have HW:=Lib.hid hw1;have HZ:=Lib.hid z1;have h1_:=Lib.hid h1;clear hw1 z1 h1 s1;go_enter Tryz.func21,Tryz.ntmps21
 go_upto_region 1 with fail
 rw[HW.out];refine Run.start 5 ?_;refine .ld .o (ldM b1 0) ?_;refine .c1 .o (x:=kC 1 1) (by rintro u w4 hB rfl;exact h_x (by omega) (by omega) w4) ?_;refine .c2 (.i 0) (.i 1) (x:=noM 2) (by rintro u v w4 hB rfl ⟨s_,A_,n_,c_,rfl,hz,hk1⟩;exact m_g h1_.out) ?_;refine .ex (.i 2) 0 (x:=.k (.agg #[.int .i64 0,.int .i64 0,.slice none 0 0])) (fun v w h=>⟨_,_,h,rfl,rfl⟩) ?_;refine .ex (.i 2) 1 (x:=.k (.int .i64 2)) (fun v w h=>⟨_,_,h,rfl,rfl⟩) ?_;refine .done [some 4,some 5,some 6,some 7,some 8] ?_;intro w2 B2;rintro v5 -;refine sh [_,_] ?_;simp only[Act.put,lS,lZ,lC];have P:=Lib.hid (retNoT (e':=2) (b2.below B2) (by omega) (zup HZ.out B2));unfold mput at P;obtain⟨i0,i1,i2,i3,i4,i5,i6⟩:=(b2.below B2).m3
 go_wp2_with fail
 exact bodyPost_ret (v:=.tuple #[.agg #[.int .i64 0,.int .i64 0,.slice none 0 0],.int .i64 2]) (by simp[results,Tryz.results21,go_sem,i0,i1,i2]) rfl P.out
end
section
open Go.RowKit
theorem o_6 {q:Bool}{r c n d k i j g g' m e m' e':Nat}{A B B':Option Addr}{F:Nat->Nat->Rat}{s t:Bool}{x:Rat}{w:World}(b2:Bx w g 42 [.bool s,.slice B m e,.bool t,.slice B' m' e'])(b3:Bx w g' 24 [.int .i64 (r:Int),.int .i64 (c:Int),.slice A n d])(h:Mq q w r c A n d k F)(hx:Qv w s B m e t B' m' e' x)(hm:m<=k)(hm':m'<=k)(hi:i<r)(hj:j<c)(hk0:1<=k)(hk:k<=1073741824):Calls Tryz.prog 76 #[.int .i64 (i:Int),.int .i64 (j:Int),.pointer (some ⟨g,0,none⟩),.pointer (some ⟨g',0,none⟩)] w (RetK (kQ (x*F i j) (2*k)) w):=by
 obtain⟨w1,hw1,b6,z1,s1⟩:=boxes1 w 42 [.bool false,.slice none 0 0,.bool false,.slice none 0 0];have HW:=Lib.hid hw1;have HZ:=Lib.hid z1;replace b2:=b2.below z1;replace b3:=b3.below z1;replace hx:=hx.below z1;replace h:=h.below z1;clear hw1 z1 s1;go_enter Tryz.func76,Tryz.ntmps76
 go_upto_region 1 with fail
 rw[HW.out];refine Run.start 6 ?_;refine .ld .o (ldQr b2) ?_;refine .ld .o (ldQm b3 0) ?_;refine .mv .o ?_;refine .mv .o ?_;refine .c3 (.i 1) (.i 2) (.i 3) (x:=kQv (F i j) k) (by rintro u v x w3 hB rfl rfl rfl;exact e_q (h.below hB) hi hj) ?_;refine .c2 (.i 0) (.i 4) (x:=kQ (x*F i j) (2*k)) (by rintro u v w3 hB rfl hv;exact x_y k ⟨_,_,_,_,_,_,_,_,rfl,hx.below hB,hm,hm'⟩ hv (Nat.le_refl _) (Nat.le_refl _) hk0 hk (Nat.le_refl _)) ?_;refine .done [some 7,some 8,some 9,some 10,some 11,some 12] ?_;intro w2 B2;rintro v11 -;rintro v ⟨s_,A_,n_,c_,t_,B_,m_,d_,rfl,hz,hk1,hk2⟩;refine sh [_] ?_;simp only[Act.put,lS,lZ,lC];have I:=(b6.below B2).rb;have P:=Lib.hid (retQ hz I (k:=2*k) hk1 hk2 (by omega) (zup HZ.out B2));unfold rput at P;obtain⟨i1,i2,i3,i4,i5,i6,i7,i8,i9⟩:=I;clear hz
 go_wp2_with fail
 exact bodyPost_ret (v:=.agg #[.bool s_,.slice A_ n_ c_,.bool t_,.slice B_ m_ d_]) (by simp[results,Tryz.results76,go_sem,i1,i2,i3,i4]) rfl P.out
theorem n_k {q:Bool}{r c n d k m e m' e':Nat}{A B B':Option Addr}{F:Nat->Nat->Rat}{s t:Bool}{x:Rat}{w:World}(h:Mq q w r c A n d k F)(hx:Qv w s B m e t B' m' e' x)(hm:m<=k)(hm':m'<=k)(hk0:1<=k)(hk:k<=1073741824):Calls Tryz.prog 29 #[.agg #[.int .i64 (r:Int),.int .i64 (c:Int),.slice A n d],.agg #[.bool s,.slice B m e,.bool t,.slice B' m' e']] w (RetK (kT (kMw w.heap.size r c (2*k) fun i j=>x*F i j) (.k (.int .i64 0))) w):=by
 have h1:=h.fmd;have hr:=h.hr;have hc:=h.hc;obtain⟨w1,hw1,b2,b3,b4,z1,s1⟩:=boxes3 w 24 42 24 [.int .i64 (r:Int),.int .i64 (c:Int),.slice A n d] [.bool s,.slice B m e,.bool t,.slice B' m' e'] [.int .i64 0,.int .i64 0,.slice none 0 0];have HW:=Lib.hid hw1;have HZ:=Lib.hid z1;have h1_:=Lib.hid h1;clear hw1 z1 h1 s1;go_enter Tryz.func29,Tryz.ntmps29
 go_upto_region 1 with fail
 rw[HW.out];refine Run.start 3 ?_;refine .ld .o (ldQm b2 0) ?_;refine .c1 (.i 0) (x:=.k (.bool true)) (by rintro u w2 hB rfl;exact b_g h1_.out w2) ?_;refine .nt (.i 1) ?_;refine .donep [some 6,some 7,some 8] ?_;intro w2 B2;refine sh [] ?_;simp only[Act.put,lS,lZ,lC];replace b2:=b2.below B2;replace b3:=b3.below B2;replace b4:=b4.below B2;have HZ2:=Lib.hid (zup HZ.out B2);clear B2 HZ;go_upto_region 3 with fail
 refine Run.start 6 ?_;refine .fa .o (fQ0 0) ?_;refine .ld (.i 0) (ldInt b2 0) ?_;refine .fa .o (fQ1 1) ?_;refine .ld (.i 2) (ldInt b2 1) ?_;refine .fn [] [.o,.o] [] [_,_] (trivial) (⟨rfl,rfl,trivial⟩) ?_;refine .c3 (.i 1) (.i 3) (.i 4) (x:=kMw w.heap.size r c (2*k) fun i j=>x*F i j) (by rintro u v x_ w4 hB rfl rfl rfl;exact(e_3 hr hc (by kernel_rfl) (fun i j W hi hj hW=>by rw[argsO];exact o_6 ((b3.below hB).below hW) ((b2.below hB).below hW) (h.below (zup (zup HZ2.out hB) hW)) (hx.below (zup (zup HZ2.out hB) hW)) hm hm' hi hj hk0 hk)).mono fun e_ w' h=>h.mono fun v w2 ⟨A,n,d,e,h1⟩=>⟨A,n,d,e,h1.low (zup HZ2.out hB).size⟩) ?_;refine .donep [some 10,some 11,some 12,some 13,some 14,some 15] ?_;intro w3 B3;rintro v ⟨A_,n_,d_,rfl,hM⟩;refine sh [_,_] ?_;simp only[Act.put,lS,lZ,lC];have P:=Lib.hid (retMwE hM (b4.below B3) (by omega) (zup HZ2.out B3));unfold mput at P;obtain⟨i0,i1,i2,i3,i4,i5,i6⟩:=(b4.below B3).m3;clear hM
 go_wp2_with fail
 exact bodyPost_ret (v:=.tuple #[.agg #[.int .i64 (r:Int),.int .i64 (c:Int),.slice A_ n_ d_],.int .i64 0]) (by simp[results,Tryz.results29,go_sem,i0,i1,i2]) rfl P.out
theorem qscale_no {r c:Int}{n d m e m' e':Nat}{A B B':Option Addr}{s t:Bool}{w:World}(h1:fmd r c n=false):Calls Tryz.prog 29 #[.agg #[.int .i64 r,.int .i64 c,.slice A n d],.agg #[.bool s,.slice B m e,.bool t,.slice B' m' e']] w (RetK (noM 2) w):=by
 obtain⟨w1,hw1,b2,b3,b4,z1,s1⟩:=boxes3 w 24 42 24 [.int .i64 r,.int .i64 c,.slice A n d] [.bool s,.slice B m e,.bool t,.slice B' m' e'] [.int .i64 0,.int .i64 0,.slice none 0 0];have HW:=Lib.hid hw1;have HZ:=Lib.hid z1;have h1_:=Lib.hid h1;clear hw1 z1 h1 s1;go_enter Tryz.func29,Tryz.ntmps29
 go_upto_region 1 with fail
 rw[HW.out];refine Run.start 3 ?_;refine .ld .o (ldQm b2 0) ?_;refine .c1 (.i 0) (x:=.k (.bool false)) (by rintro u w2 hB rfl;exact b_g h1_.out w2) ?_;refine .nf (.i 1) ?_;refine .donep [some 6,some 7,some 8] ?_;intro w2 B2;refine sh [] ?_;simp only[Act.put,lS,lZ,lC];have P:=Lib.hid (retNoT (e':=2) (b4.below B2) (by omega) (zup HZ.out B2));unfold mput at P;obtain⟨i0,i1,i2,i3,i4,i5,i6⟩:=(b4.below B2).m3
 go_wp2_with fail
 exact bodyPost_ret (v:=.tuple #[.agg #[.int .i64 0,.int .i64 0,.slice none 0 0],.int .i64 2]) (by simp[results,Tryz.results29,go_sem,i0,i1,i2]) rfl P.out
theorem r_z {q q':Bool}{r c n d k n' d':Nat}{A A':Option Addr}{F G:Nat->Nat->Rat}{w:World}(h:Mq q w r c A n d k F)(h':Mq q' w r c A' n' d' k G)(hk0:1<=k)(hk:k<=1073741824):Calls Tryz.prog 23 #[.agg #[.int .i64 (r:Int),.int .i64 (c:Int),.slice A n d],.agg #[.int .i64 (r:Int),.int .i64 (c:Int),.slice A' n' d']] w (RetK (kT (kMw w.heap.size r c (2*k+1) fun i j=>F i j+G i j) (.k (.int .i64 0))) w):=by
 have h1:(fmd (r:Int) (c:Int) n&&fmd (r:Int) (c:Int) n')=true:=by rw[h.fmd,h'.fmd];rfl
 have hr:=h.hr;have hc:=h.hc;obtain⟨w1,hw1,b2,b3,b4,z1,s1⟩:=boxes3 w 24 24 24 [.int .i64 (r:Int),.int .i64 (c:Int),.slice A n d] [.int .i64 (r:Int),.int .i64 (c:Int),.slice A' n' d'] [.int .i64 0,.int .i64 0,.slice none 0 0];have HW:=Lib.hid hw1;have HZ:=Lib.hid z1;have h1_:=Lib.hid h1;clear hw1 z1 h1 s1;go_enter Tryz.func23,Tryz.ntmps23
 go_upto_region 1 with fail
 rw[HW.out];refine Run.start 10 ?_;refine .ld .o (ldQm b2 0) ?_;refine .ld .o (ldQm b3 0) ?_;refine .c2 (.i 0) (.i 1) (x:=.k (.bool true)) (by rintro u v w2 hB rfl rfl;exact e_b h1_.out w2) ?_;refine .nt (.i 2) ?_;refine .mv (.i 3) ?_;refine .ld .o (ldQm b2 0) ?_;refine .ld .o (ldQm b3 0) ?_;refine .c2 (.i 5) (.i 6) (x:=.k (.bool true)) (by rintro u v w2 hB rfl rfl;exact i_j (by simp) w2) ?_;refine .nt (.i 7) ?_;refine .pk (.i 4) (.i 8) false ?_;refine .donep [some 6,some 7,some 8,some 9,some 10,some 11,some 12,some 13,some 14,some 15] ?_;intro w2 B2;refine sh [] ?_;simp only[Act.put,lS,lZ,lC];replace b2:=b2.below B2;replace b3:=b3.below B2;replace b4:=b4.below B2;have HZ2:=Lib.hid (zup HZ.out B2);clear B2 HZ;go_upto_region 3 with fail
 refine Run.start 6 ?_;refine .fa .o (fQ0 0) ?_;refine .ld (.i 0) (ldInt b2 0) ?_;refine .fa .o (fQ1 1) ?_;refine .ld (.i 2) (ldInt b2 1) ?_;refine .fn [] [.o,.o] [] [_,_] (trivial) (⟨rfl,rfl,trivial⟩) ?_;refine .c3 (.i 1) (.i 3) (.i 4) (x:=kMw w.heap.size r c (2*k+1) fun i j=>F i j+G i j) (by rintro u v x_ w4 hB rfl rfl rfl;exact(e_3 hr hc (by kernel_rfl) (fun i j W hi hj hW=>by rw[argsO];exact v_m ((b2.below hB).below hW) ((b3.below hB).below hW) (h.below (zup (zup HZ2.out hB) hW)) (h'.below (zup (zup HZ2.out hB) hW)) hi hj hk0 hk)).mono fun e_ w' h=>h.mono fun v w2 ⟨A,n,d,e,h1⟩=>⟨A,n,d,e,h1.low (zup HZ2.out hB).size⟩) ?_;refine .donep [some 17,some 18,some 19,some 20,some 21,some 22] ?_;intro w3 B3;rintro v ⟨A_,n_,d_,rfl,hM⟩;refine sh [_,_] ?_;simp only[Act.put,lS,lZ,lC];have P:=Lib.hid (retMwE hM (b4.below B3) (by omega) (zup HZ2.out B3));unfold mput at P;obtain⟨i0,i1,i2,i3,i4,i5,i6⟩:=(b4.below B3).m3;clear hM
 go_wp2_with fail
 exact bodyPost_ret (v:=.tuple #[.agg #[.int .i64 (r:Int),.int .i64 (c:Int),.slice A_ n_ d_],.int .i64 0]) (by simp[results,Tryz.results23,go_sem,i0,i1,i2]) rfl P.out
theorem v_l {r c r' c':Int}{n d n' d':Nat}{A A':Option Addr}{w:World}(h:(fmd r c n&&fmd r' c' n'&&(decide (r=r')&&decide (c=c')))=false):Calls Tryz.prog 23 #[.agg #[.int .i64 r,.int .i64 c,.slice A n d],.agg #[.int .i64 r',.int .i64 c',.slice A' n' d']] w (RetK (noM 2) w):=by
 obtain⟨t1,h1⟩:∃t,(fmd r c n&&fmd r' c' n')=t:=⟨_,rfl⟩;obtain⟨w1,hw1,b2,b3,b4,z1,s1⟩:=boxes3 w 24 24 24 [.int .i64 r,.int .i64 c,.slice A n d] [.int .i64 r',.int .i64 c',.slice A' n' d'] [.int .i64 0,.int .i64 0,.slice none 0 0];have HW:=Lib.hid hw1;have HZ:=Lib.hid z1;have h1_:=Lib.hid h1;have h_:=Lib.hid h;clear hw1 z1 h1 h s1;go_enter Tryz.func23,Tryz.ntmps23
 go_upto_region 1 with fail
 rw[HW.out];cases t1
 ·refine Run.start 10 ?_;refine .ld .o (ldQm b2 0) ?_;refine .ld .o (ldQm b3 0) ?_;refine .c2 (.i 0) (.i 1) (x:=.k (.bool false)) (by rintro u v w2 hB rfl rfl;exact e_b h1_.out w2) ?_;refine .nf (.i 2) ?_;refine .mv (.i 3) ?_;refine .no ?_;refine .no ?_;refine .no ?_;refine .no ?_;refine .pk (.i 4) .o true ?_;refine .donep [some 6,some 7,some 8,some 9,some 10,some 11,some 12,some 13,some 14,some 15] ?_;intro w2 B2;refine sh [] ?_;simp only[Act.put,lS,lZ,lC];have P:=Lib.hid (retNoT (e':=2) (b4.below B2) (by omega) (zup HZ.out B2));unfold mput at P;obtain⟨i0,i1,i2,i3,i4,i5,i6⟩:=(b4.below B2).m3
  go_wp2_with fail
  exact bodyPost_ret (v:=.tuple #[.agg #[.int .i64 0,.int .i64 0,.slice none 0 0],.int .i64 2]) (by simp[results,Tryz.results23,go_sem,i0,i1,i2]) rfl P.out
 ·have h2:(decide (r=r')&&decide (c=c'))=false:=by have:=h_.out;rw[h1_.out]at this;simpa using this
  refine Run.start 10 ?_;refine .ld .o (ldQm b2 0) ?_;refine .ld .o (ldQm b3 0) ?_;refine .c2 (.i 0) (.i 1) (x:=.k (.bool true)) (by rintro u v w2 hB rfl rfl;exact e_b h1_.out w2) ?_;refine .nt (.i 2) ?_;refine .mv (.i 3) ?_;refine .ld .o (ldQm b2 0) ?_;refine .ld .o (ldQm b3 0) ?_;refine .c2 (.i 5) (.i 6) (x:=.k (.bool false)) (by rintro u v w2 hB rfl rfl;exact i_j h2 w2) ?_;refine .nf (.i 7) ?_;refine .pk (.i 4) (.i 8) false ?_;refine .donep [some 6,some 7,some 8,some 9,some 10,some 11,some 12,some 13,some 14,some 15] ?_;intro w2 B2;refine sh [] ?_;simp only[Act.put,lS,lZ,lC];have P:=Lib.hid (retNoT (e':=2) (b4.below B2) (by omega) (zup HZ.out B2));unfold mput at P;obtain⟨i0,i1,i2,i3,i4,i5,i6⟩:=(b4.below B2).m3
  go_wp2_with fail
  exact bodyPost_ret (v:=.tuple #[.agg #[.int .i64 0,.int .i64 0,.slice none 0 0],.int .i64 2]) (by simp[results,Tryz.results23,go_sem,i0,i1,i2]) rfl P.out
theorem tr1_q {q:Bool}{r c n d k i j g:Nat}{A:Option Addr}{F:Nat->Nat->Rat}{w:World}(b2:Bx w g 24 [.int .i64 (r:Int),.int .i64 (c:Int),.slice A n d])(h:Mq q w r c A n d k F)(hi:i<c)(hj:j<r)(hk0:1<=k)(hk:k<=1073741824):Calls Tryz.prog 72 #[.int .i64 (i:Int),.int .i64 (j:Int),.pointer (some ⟨g,0,none⟩)] w (RetK (kQ (F j i) k) w):=by
 obtain⟨w1,hw1,b5,z1,s1⟩:=boxes1 w 42 [.bool false,.slice none 0 0,.bool false,.slice none 0 0];have HW:=Lib.hid hw1;have HZ:=Lib.hid z1;replace b2:=b2.below z1;replace h:=h.below z1;clear hw1 z1 s1;go_enter Tryz.func72,Tryz.ntmps72
 go_upto_region 1 with fail
 rw[HW.out];refine Run.start 4 ?_;refine .ld .o (ldQm b2 0) ?_;refine .mv .o ?_;refine .mv .o ?_;refine .c3 (.i 0) (.i 1) (.i 2) (x:=kQ (F j i) k) (by rintro u v x w3 hB rfl rfl rfl;exact j_q (h.below hB) hj hi hk0 hk) ?_;refine .donep [some 6,some 7,some 8,some 9] ?_;intro w2 B2;rintro v ⟨s_,A_,n_,c_,t_,B_,m_,d_,rfl,hz,hk1,hk2⟩;refine sh [_] ?_;simp only[Act.put,lS,lZ,lC];have I:=(b5.below B2).rb;have P:=Lib.hid (retQ hz I (k:=k) hk1 hk2 (by omega) (zup HZ.out B2));unfold rput at P;obtain⟨i1,i2,i3,i4,i5,i6,i7,i8,i9⟩:=I;clear hz
 go_wp2_with fail
 exact bodyPost_ret (v:=.agg #[.bool s_,.slice A_ n_ c_,.bool t_,.slice B_ m_ d_]) (by simp[results,Tryz.results72,go_sem,i1,i2,i3,i4]) rfl P.out
theorem v_a {q:Bool}{r c n d k:Nat}{A:Option Addr}{F:Nat->Nat->Rat}{w:World}(h:Mq q w r c A n d k F)(hk0:1<=k)(hk:k<=1073741824):Calls Tryz.prog 27 #[.agg #[.int .i64 (r:Int),.int .i64 (c:Int),.slice A n d]] w (RetK (kT (kMw w.heap.size c r k fun i j=>F j i) (.k (.int .i64 0))) w):=by
 have h1:=h.fmd;have hr:=h.hr;have hc:=h.hc;obtain⟨w1,hw1,b1,b2,z1,s1⟩:=boxes2 w 24 24 [.int .i64 (r:Int),.int .i64 (c:Int),.slice A n d] [.int .i64 0,.int .i64 0,.slice none 0 0];have HW:=Lib.hid hw1;have HZ:=Lib.hid z1;have h1_:=Lib.hid h1;clear hw1 z1 h1 s1;go_enter Tryz.func27,Tryz.ntmps27
 go_upto_region 1 with fail
 rw[HW.out];refine Run.start 3 ?_;refine .ld .o (ldQm b1 0) ?_;refine .c1 (.i 0) (x:=.k (.bool true)) (by rintro u w2 hB rfl;exact b_g h1_.out w2) ?_;refine .nt (.i 1) ?_;refine .donep [some 4,some 5,some 6] ?_;intro w2 B2;refine sh [] ?_;simp only[Act.put,lS,lZ,lC];replace b1:=b1.below B2;replace b2:=b2.below B2;have HZ2:=Lib.hid (zup HZ.out B2);clear B2 HZ;go_upto_region 3 with fail
 refine Run.start 6 ?_;refine .fa .o (fQ1 1) ?_;refine .ld (.i 0) (ldInt b1 1) ?_;refine .fa .o (fQ0 0) ?_;refine .ld (.i 2) (ldInt b1 0) ?_;refine .fn [] [.o] [] [_] (trivial) (⟨rfl,trivial⟩) ?_;refine .c3 (.i 1) (.i 3) (.i 4) (x:=kMw w.heap.size c r k fun i j=>F j i) (by rintro u v x_ w4 hB rfl rfl rfl;exact(e_3 hc hr (by kernel_rfl) (fun i j W hi hj hW=>by rw[argsO1];exact tr1_q ((b1.below hB).below hW) (h.below (zup (zup HZ2.out hB) hW)) hi hj hk0 hk)).mono fun e_ w' h=>h.mono fun v w2 ⟨A,n,d,e,h1⟩=>⟨A,n,d,e,h1.low (zup HZ2.out hB).size⟩) ?_;refine .donep [some 8,some 9,some 10,some 11,some 12,some 13] ?_;intro w3 B3;rintro v ⟨A_,n_,d_,rfl,hM⟩;refine sh [_,_] ?_;simp only[Act.put,lS,lZ,lC];have P:=Lib.hid (retMwE hM (b2.below B3) (by omega) (zup HZ2.out B3));unfold mput at P;obtain⟨i0,i1,i2,i3,i4,i5,i6⟩:=(b2.below B3).m3;clear hM
 go_wp2_with fail
 exact bodyPost_ret (v:=.tuple #[.agg #[.int .i64 (c:Int),.int .i64 (r:Int),.slice A_ n_ d_],.int .i64 0]) (by simp[results,Tryz.results27,go_sem,i0,i1,i2]) rfl P.out
end
section
open Go.RowKit
section
variable {ops:Array Oper}{Q:Exit->Act->World->Prop}{m i:Nat}{a0:Act}{w0:World}{l:List FK}{b:Bool}{id:Nat}
end
theorem u_l {x:Rat}{n m:Nat}{u v:Value}{w:World}(k:Nat)(hx:IsQv x n u w)(hy:IsQv x m v w)(hn:n<=k)(hm:m<=k)(h1:1<=k)(hk:k<=1073741824):Calls Tryz.prog 80 #[u,v] w (RetK (.k (.bool true)) w):=by
 obtain⟨s,A,a,c,t,B,b,d,rfl,hx1,hx2,hx3⟩:=hx;obtain⟨s',A',a',c',t',B',b',d',rfl,hy1,hy2,hy3⟩:=hy;obtain⟨w1,hw1,b2,b3,z1,s1⟩:=boxes2 w 42 42 [.bool s,.slice A a c,.bool t,.slice B b d] [.bool s',.slice A' a' c',.bool t',.slice B' b' d'];have HW:=Lib.hid hw1;have HZ:=Lib.hid z1;replace hx1:=hx1.below z1;replace hy1:=hy1.below z1;clear hw1 z1 s1;go_enter Tryz.func80,Tryz.ntmps80
 go_upto_region 1 with fail
 rw[HW.out];refine Run.start 5 ?_;refine .ld .o (ldQr b2) ?_;refine .ld .o (ldQr b3) ?_;refine .c2 (.i 0) (.i 1) (x:=.k (.int .i64 0)) (by rintro u v w4 hB rfl rfl;exact o_8 k ⟨_,_,_,_,_,_,_,_,rfl,hx1.below hB,Nat.le_trans hx2 hn,Nat.le_trans hx3 hn⟩ ⟨_,_,_,_,_,_,_,_,rfl,hy1.below hB,Nat.le_trans hy2 hm,Nat.le_trans hy3 hm⟩ (Nat.le_refl _) (Nat.le_refl _) h1 hk (rsg_sub_zero.2 rfl)) ?_;refine .two (.i 2) .o (opEq (by decide:decide ((0:Int)=0)=true)) ?_;refine .mv (.i 3) ?_;refine .donep [some 5,some 6,some 7,some 8,some 4] ?_;intro w2 B2;refine sh [] ?_;simp only[Act.put,lS,lZ,lC]
 go_wp2_with fail
 exact bodyPost_ret (v:=.bool true) (by simp[results,Tryz.results80,go_sem]) rfl (a_x rfl (zup HZ.out B2))
theorem eqq_q {q q':Bool}{n d k n' d' k':Nat}{A A':Option Addr}{xs ys:List Rat}{w:World}(hx:QL q w A n d k xs)(hy:QL q' w A' n' d' k' ys)(hn:n=n')(he:∀j,j<n->rth xs j=rth ys j)(hk:max 1 (max k k')<=1073741824):Calls Tryz.prog 79 #[.slice A n d,.slice A' n' d',.func (.func 80) #[] #[]] w (RetK (.k (.bool true)) w):=by
 subst hn;have HE:=Lib.hid he;have HX:=Lib.hid hx;have HY:=Lib.hid hy;have hnd:=hx.le;have hdm:=hx.cap;clear he hx hy;go_enter Tryz.func79,Tryz.ntmps79
 go_wp2_with fail
 go_loopw [17] (fun s17 wr=>∃j:Nat,s17= .int .i64 (j:Int)/\j<=n/\Hid (Below w.heap.size w wr)) (fun s17 _=>n - (intOf s17).toNat)
 case atStart=>exact⟨0,rfl,Nat.zero_le _,Lib.hid (Below.refl _ _)⟩
 case round=>
  obtain⟨j,rfl,hj,HB⟩:=hrel;by_cases hlt:j<n
  ·have u2:(j:Int)<(n:Int):=by omega
   have B0:=HB.out;have hs0:=B0.size;clear HB;obtain⟨ad,rfl,hab,hA⟩:=(HX.out.below B0).at hlt;obtain⟨s_,A_,n_,c_,t_,B_,m_,d_,e0,e1,e2,e3,ze,hk1,hk2⟩:=hA;have hz:=ze.1;clear ze;go_upto_region 5 with fail
   refine Run.start 5 ?_;refine .mv .o ?_;refine .two .o .o (opIxQ hlt) ?_;refine .ld (.i 1) (ldQ (by rw[a_b];exact hab) e0 e1 e2 e3) ?_;refine .al ?_;refine .mv (.i 0) ?_;refine .donep [some 19,some 20,some 21,some 8,some 7] ?_;intro w2 B2;rintro g8 hg8 hl8 hc8 -;refine sh [_] ?_;simp only[Act.put,lS,lZ,lC];have b8:=zeroQ hc8;replace B0:=zup B0 B2;replace hz:=hz.below B2;clear e0 e1 e2 e3 hab hc8 B2;obtain⟨w3,hw3⟩:∃x,rput w2 g8 s_ A_ n_ c_ t_ B_ m_ d_=x:=⟨_,rfl⟩;obtain⟨f1_,f2_,f3_,f4_,f5_,f6_,f7_,f8_,f9_⟩:=b8.rb;have hgr_:=c_i w2 g8 s_ A_ n_ c_ t_ B_ m_ d_;have hno_:Wless w2 g8:=b8.now (by simp);rw[hw3]at hgr_;replace hz:=hz.gro hno_ hgr_;replace B0:=a_c B0 hgr_ (by omega);replace b8:=b8.rp (s':=s_) (A':=A_) (n':=n_) (c':=c_) (t':=t_) (B':=B_) (m':=m_) (d':=d_);rw[hw3]at b8;have Hw3:=Lib.hid hw3;unfold rput at Hw3;clear hw3 hgr_ hno_;go_upto_region 6 with fail
   rw[Hw3.out];clear f1_ f2_ f3_ f4_ f5_ f6_ f7_ f8_ f9_ Hw3;obtain⟨ad',rfl,hab',hA'⟩:=(HY.out.below B0).at hlt;obtain⟨s',A1,n1,c1,t',B1,m1,d1,e0',e1',e2',e3',ze',hk1',hk2'⟩:=hA';have hy:=ze'.1;rw[<-HE.out j hlt]at hy;clear ze';refine Run.start 5 ?_;refine .mv .o ?_;refine .mv .o ?_;refine .two (.i 0) (.i 1) (opIxQ hlt) ?_;refine .ld (.i 2) (ldQ (by rw[a_b];exact hab') e0' e1' e2' e3') ?_;refine .al ?_;refine .donep [some 22,some 23,some 24,some 25,some 9] ?_;intro w4 B4;rintro g9 hg9 hl9 hc9 -;refine sh [_] ?_;simp only[Act.put,lS,lZ,lC];have b9:=zeroQ hc9;have hl8':=b8.lt;replace B0:=zup B0 B4;replace hz:=hz.below B4;replace hy:=hy.below B4;replace b8:=b8.below B4;clear e0' e1' e2' e3' hab' hc9 B4;obtain⟨w5,hw5⟩:∃x,rput w4 g9 s' A1 n1 c1 t' B1 m1 d1=x:=⟨_,rfl⟩;obtain⟨f1_,f2_,f3_,f4_,f5_,f6_,f7_,f8_,f9_⟩:=b9.rb;have hgr_:=c_i w4 g9 s' A1 n1 c1 t' B1 m1 d1;have hno_:Wless w4 g9:=b9.now (by simp);rw[hw5]at hgr_;replace b8:=a_a b8 hgr_ (by omega);replace hz:=hz.gro hno_ hgr_;replace hy:=hy.gro hno_ hgr_;replace B0:=a_c B0 hgr_ (by omega);replace b9:=b9.rp (s':=s') (A':=A1) (n':=n1) (c':=c1) (t':=t') (B':=B1) (m':=m1) (d':=d1);rw[hw5]at b9;have Hw5:=Lib.hid hw5;unfold rput at Hw5;clear hw5 hgr_ hno_;go_upto_region 7 with fail
   rw[Hw5.out];clear f1_ f2_ f3_ f4_ f5_ f6_ f7_ f8_ f9_ Hw5;refine Run.start 5 ?_;refine .mv .o ?_;refine .ld .o (ldQr b8) ?_;refine .ld .o (ldQr b9) ?_;refine .cv2 (.i 0) (.i 1) (.i 2) (x:=.k (.bool true)) rfl (by kernel_rfl) (by rintro u v w6 hB rfl rfl;rw[argsO0];exact u_l (max 1 (max k k')) ⟨_,_,_,_,_,_,_,_,rfl,hz.below hB,hk1,hk2⟩ ⟨_,_,_,_,_,_,_,_,rfl,hy.below hB,hk1',hk2'⟩ (by omega) (by omega) (by omega) hk) ?_;refine .nt (.i 3) ?_;refine .donep [some 26,some 27,some 28,some 29,some 30] ?_;intro w6 B6;refine sh [] ?_;simp only[Act.put,lS,lZ,lC];have HN:Hid (Below w.heap.size w w6):=Lib.hid (zup B0 B6);clear b8 b9 hz hy B6 B0
   go_wp2_with fail
   go_roundw
   case rel=>exact⟨j+1,by go_num,by omega,HN⟩
   case measure=>first|(simp[intOf];done)|(simp[intOf];omega)
  ·obtain rfl:j=n:=by omega
   have u2:¬(j:Int)<(j:Int):=by omega
   have B0:=HB.out;clear HB
   go_wp2_with fail
   exact bodyPost_ret (v:=.bool true) (by simp[results,Tryz.results79,go_sem]) rfl (a_x rfl B0)
theorem v_c {q q':Bool}{r c n d k n' d' k':Nat}{A A':Option Addr}{F G:Nat->Nat->Rat}{w:World}(h:Mq q w r c A n d k F)(h':Mq q' w r c A' n' d' k' G)(he:∀i j,i<r->j<c->F i j=G i j)(hk:max 1 (max k k')<=1073741824):Calls Tryz.prog 31 #[.agg #[.int .i64 (r:Int),.int .i64 (c:Int),.slice A n d],.agg #[.int .i64 (r:Int),.int .i64 (c:Int),.slice A' n' d']] w (RetK (.k (.bool true)) w):=by
 have h1:=h.fmd;have h2:=h'.fmd;have hn:n=n':=h.len.trans h'.len.symm;obtain⟨w1,hw1,b2,b3,z1,s1⟩:=boxes2 w 24 24 [.int .i64 (r:Int),.int .i64 (c:Int),.slice A n d] [.int .i64 (r:Int),.int .i64 (c:Int),.slice A' n' d'];have HW:=Lib.hid hw1;have HZ:=Lib.hid z1;have h1_:=Lib.hid h1;have h2_:=Lib.hid h2;have hn_:=Lib.hid hn;clear hw1 z1 h1 h2 hn s1;go_enter Tryz.func31,Tryz.ntmps31
 go_upto_region 1 with fail
 rw[HW.out];refine Run.start 19 ?_;refine .ld .o (ldQm b2 0) ?_;refine .c1 (.i 0) (x:=.k (.bool true)) (by rintro u w2 hB rfl;exact b_g h1_.out w2) ?_;refine .mv (.i 1) ?_;refine .ld .o (ldQm b3 0) ?_;refine .c1 (.i 3) (x:=.k (.bool true)) (by rintro u w2 hB rfl;exact b_g h2_.out w2) ?_;refine .pk (.i 2) (.i 4) true ?_;refine .mv (.i 5) ?_;refine .ld .o (ldQm b2 0) ?_;refine .ld .o (ldQm b3 0) ?_;refine .c2 (.i 7) (.i 8) (x:=.k (.bool true)) (by rintro u v w2 hB rfl rfl;exact i_j (by simp) w2) ?_;refine .pk (.i 6) (.i 9) true ?_;refine .mv (.i 10) ?_;refine .fa .o (fQ2 2) ?_;refine .ld (.i 12) (ldQl b2 2) ?_;refine .fa .o (fQ2 2) ?_;refine .ld (.i 14) (ldQl b3 2) ?_;refine .c3 (.i 13) (.i 15) .o (x:=.k (.bool true)) (by rintro u v x w2 hB rfl rfl rfl;exact eqq_q (h.below (zup HZ.out hB)).ql (h'.below (zup HZ.out hB)).ql hn_.out (fun j hj=>by rw[c_7 he]) hk) ?_;refine .pk (.i 11) (.i 16) true ?_;refine .mv (.i 17) ?_;refine .donep [some 5,some 6,some 7,some 8,some 9,some 10,some 11,some 12,some 13,some 14,some 15,some 16,some 17,some 18,some 19,some 20,some 21,some 22,some 4] ?_;intro w2 B2;refine sh [] ?_;simp only[Act.put,lS,lZ,lC]
 go_wp2_with fail
 exact bodyPost_ret (v:=.bool true) (by simp[results,Tryz.results31,go_sem]) rfl (a_x rfl (zup HZ.out B2))
end
section
open Go.RowKit
def blkV (v:Value):Option Nat:=match v with| .slice (some a) _ _=>some a.block|_=>none
section
variable {P:Program}{ops:Array Oper}{Q:Exit->Act->World->Prop}
def LateB (P:Program)(ops:Array Oper)(m:Nat)(a0:Act)(w0:World)(Fs:List FVal)(kx ky i:Nat)(o:Oper):Prop:=
 ∀(a:Act) (w:World),Below w0.heap.size w0 w->(∀t,(List.range m).all (fun k=>slotOf ops k != some t)=true->a.eval (.tmp t)=a0.eval (.tmp t))->
  (∀k d,((predsOf ops i).contains k&&slotOf ops k==some d&&((ops[k]?).bind isAlloc).isNone&&decide (k<m))=true->nthF Fs k (a.eval (.tmp d)) w)->
  ∃(x:Value) (w':World),nthF Fs i x w'/\Below w.heap.size w w'/\(∀g v,w0.heap.size<=g->g<w.heap.size->(execOp a.eval o).run P (w.setCell ⟨g,0,none⟩ v)= .ok (.value x) (w'.setCell ⟨g,0,none⟩ v))/\(i=kx\/i=ky->blkV x=some w.heap.size)
theorem LateAt.b {a0:Act}{w0:World}{m kx ky i:Nat}{Fs:List FVal}{o:Oper}(h:LateAt P ops m a0 w0 Fs i o)(h1:i≠kx)(h2:i≠ky):LateB P ops m a0 w0 Fs kx ky i o:=fun a w k1 k2 k3=>by
 obtain⟨x,w',e1,e2,e3⟩:=h a w k1 k2 k3;exact⟨x,w',e1,e2,e3,fun h=>by rcases h with h|h;exact absurd h h1;exact absurd h h2⟩
def MakeAt (P:Program)(ops:Array Oper)(m:Nat)(a0:Act)(w0:World)(Fs:List FVal)(i:Nat)(o:Oper):Prop:=
 ∀(a:Act) (w:World),Below w0.heap.size w0 w->(∀t,(List.range m).all (fun k=>slotOf ops k != some t)=true->a.eval (.tmp t)=a0.eval (.tmp t))->
  (∀k d,((predsOf ops i).contains k&&slotOf ops k==some d&&((ops[k]?).bind isAlloc).isNone&&decide (k<m))=true->nthF Fs k (a.eval (.tmp d)) w)->
  ∃(v:Value) (w':World),(execOp a.eval o).run P w= .ok (.value v) w'/\nthF Fs i v w'/\Below w.heap.size w w'/\blkV v=some w.heap.size
theorem w_1 {a0:Act}{w0:World}(fl:List Nat)(m:Nat)(Fs:List FVal)(Z:TypeId->Obj)
  (hQ:∀c a d v w,Q (.panic c) (a.put d v) w->Q (.panic c) a w)
  (hok:regionOk ops fl m a0.tmps.size=true)
  (ok:TypeId->Bool) (hzl:(allocTs ops m).all ok=true) (hz:∀T,ok T=true->∀w:World,(Instr.alloc T true (.tuple #[])).run P w= .ok (.pointer (some ⟨w.heap.size,0,none⟩)) (w.alloc (Z T)))
  (hg:(List.range m).all (fun k=>((ops[k]?).bind isAlloc).isNone || ((ops[k]?).map (·.guard))==some none)=true)
  (hs:StayAll Fs) (hops:HopAll P ops Q [] m a0 w0 Fs 0 (ops.toList.take m))
  (hcv:∀i,m<i->i<ops.size->covers ops [] i=true)
  {kx ky dx dy:Nat} (late:∀i o,i∈fl->ops[i]? =some o->o.guard=none/\LateB P ops m a0 w0 Fs kx ky i o)
  {ka ke d e:Nat} {om:Oper} {Ta:TypeId} (hom:ops[m]? =some om) (hog:om.guard=none) (hod0:om.dst=none) (hna:¬LetsOut Q) (hka:ka<m) (hke:ke<m) (hska:slotOf ops ka=some d) (hske:slotOf ops ke=some e) (hpa:ka∈predsOf ops m) (hpe:ke∈predsOf ops m) (haA:(ops[ka]?).bind isAlloc=some Ta) (heA:(ops[ke]?).bind isAlloc=none)
  (hst:∀(a:Act) (w:World) (g:Nat),a.eval (.tmp d)= .pointer (some ⟨g,0,none⟩)->w.heap[g]? =some (Z Ta)->nthF Fs ke (a.eval (.tmp e)) w->(execOp a.eval om).run P w= .ok .skip (w.setCell ⟨g,0,none⟩ (a.eval (.tmp e))))
  (G:Nat->Nat->List FVal) (hkx:kx<m) (hky:ky<m) (hxy:kx≠ky) (hdx:slotOf ops kx=some dx) (hdy:slotOf ops ky=some dy) (hxA:(ops[kx]?).bind isAlloc=none) (hyA:(ops[ky]?).bind isAlloc=none)
  (hbx:∀v w,nthF Fs kx v w->∃g,blkV v=some g/\g<w.heap.size) (hby:∀v w,nthF Fs ky v w->∃g,blkV v=some g/\g<w.heap.size)
  (hGo:∀gx gy k,k≠kx->k≠ky->nthF (G gx gy) k=nthF Fs k) (hGx:∀gx gy v w,nthF Fs kx v w->blkV v=some gx->nthF (G gx gy) kx v w) (hGy:∀gx gy v w,nthF Fs ky v w->blkV v=some gy->nthF (G gx gy) ky v w)
  (mk:∀i o,i=kx\/i=ky->ops[i]? =some o->o.guard=none/\MakeAt P ops m a0 w0 Fs i o)
  (hend:∀w gx gy,Below w0.heap.size w0 w->gx≠gy->EndAll P ops Q m w0 Z (G gx gy) w [] 0 (ops.toList.take m) a0):
  wpAny P .any ops Q ops.size (Array.replicate ops.size false) a0 { w0 with drawn:=w0.drawn+1 }:=by
 obtain⟨hm,hsl,htl,hlt,hfl,hnos⟩:=b_s hok;have hmn:m<ops.size:=(Array.getElem?_eq_some_iff.1 hom).1;have uniq:∀j k x,j<m->k<m->j≠k->slotOf ops j=some x->slotOf ops k≠some x:=fun j k x hj hk hne ej ek=>by
  rcases Nat.lt_or_gt_of_ne hne with h|h
  ·obtain⟨y,e,-,h3⟩:=hsl k hk;rw[ek]at e;cases e;exact h3 j h ej
  ·obtain⟨y,e,-,h3⟩:=hsl j hj;rw[ej]at e;cases e;exact h3 k h ek
 let E:Array Bool->Act->Prop:=fun L a=>L.getD kx false=true->L.getD ky false=true->blkV (a.eval (.tmp dx))≠blkV (a.eval (.tmp dy))
 let J:Array Bool->Act->World->Prop:=fun listed a w=>
  ((∀k,m<=k->listed.getD k false=false)/\Inv ops m a0 w0 Z Fs listed a w/\E listed a)\/
  (∃(L:Array Bool) (wg:World) (g:Nat),L.size=ops.size/\(∀k,k≠m->L.getD k false=listed.getD k false)/\L.getD m false=false/\listed.getD m false=true/\(∀k,m<k->listed.getD k false=false)/\(∀k,k<m->k ∉ fl->listed.getD k false=true)/\listed.getD ka false=true/\listed.getD ke false=true/\(Inv ops m a0 w0 Z Fs L a wg/\E L a)/\a.eval (.tmp d)= .pointer (some ⟨g,0,none⟩)/\w0.heap.size<=g/\g<wg.heap.size/\w=wg.setCell ⟨g,0,none⟩ (a.eval (.tmp e)))\/
  (∃r,m<r/\r<=ops.size/\(∀k,k<ops.size->(listed.getD k false=true↔k<r))/\wpOps P ops Q (List.range' r (ops.size - r)) a w)
 have cls:∀(listed L:Array Bool) (a:Act) (wg:World) (g:Nat),(∀k,k≠m->L.getD k false=listed.getD k false)->(Inv ops m a0 w0 Z Fs L a wg/\E L a)->a.eval (.tmp d)= .pointer (some ⟨g,0,none⟩)->(∀k,k<m->listed.getD k false=true)->wpOps P ops Q (List.range' (m+1) (ops.size - (m+1))) a (wg.setCell ⟨g,0,none⟩ (a.eval (.tmp e))):=fun listed L a wg g hLk ⟨H,hE⟩ hgp hall=>by
  have hL:∀k,k<m->L.getD k false=true:=fun k hk=>by rw[hLk k (by omega)];exact hall k hk
  have fx:=H.facts kx hkx (hL kx hkx) dx hdx;have fy:=H.facts ky hky (hL ky hky) dy hdy;unfold FOf at fx fy;rw[hxA]at fx;rw[hyA]at fy;obtain⟨gx,hgx,-⟩:=hbx _ _ fx;obtain⟨gy,hgy,-⟩:=hby _ _ fy;have hne:gx≠gy:=fun e=>hE (hL kx hkx) (hL ky hky) (by rw[hgx,hgy,e]);have hG:∀k,k<m->L.getD k false=true->∀d,slotOf ops k=some d->FOf w0 Z ops (G gx gy) k (a.eval (.tmp d)) wg:=fun k hk hl d hd=>by
   have h2:=H.facts k hk hl d hd;by_cases e1:k=kx
   ·subst e1;rw[hdx]at hd;cases hd;unfold FOf;rw[hxA];exact hGx gx gy _ _ fx hgx
   ·by_cases e2:k=ky
    ·subst e2;rw[hdy]at hd;cases hd;unfold FOf;rw[hyA];exact hGy gx gy _ _ fy hgy
    ·unfold FOf at h2 ⊢;rw[hGo gx gy k e1 e2];exact h2
  have h1:=g_j (P:=P) (Q:=Q) (Z:=Z) hok (fun w hw=>hend w gx gy hw hne) L a wg ⟨H.size,H.defers,H.off,H.below,hG,H.apart⟩ hL;have fa:=H.facts ka hka (hL ka hka) d hska;have fe:=H.facts ke hke (hL ke hke) e hske;unfold FOf at fa fe;rw[haA]at fa;rw[heA]at fe;obtain⟨g',e1,-,-,e4⟩:=fa;rw[hgp]at e1;injection e1 with e1;injection e1 with e1;injection e1 with e1
  subst e1;have hrun:=hst a wg g hgp e4 fe;rw[show ops.size - m=(ops.size - (m+1))+1 by omega,List.range'_succ,wpOps_cons]at h1;unfold wpOp at h1;rw[hom]at h1;simp only[Region.wanted,hog,if_true]at h1;rcases h1 with h1|h1
  ·unfold Oper.wp at h1;rw[hrun,Oper.upon_skip,hod0]at h1;exact h1
  ·exact absurd h1.2 hna
 refine e_l J hnos hQ ?_ ?_ _ _ _ _ ?_ (by simp) (fun i hi=>?_) (.inl ⟨fun k _=>?_, ?_,fun h=>?_⟩)
 ·
  intro listed a w hsz hd hj;have hto:∀i o,i<m->ops[i]? =some o->(ops.toList.take m)[i]? =some o:=fun i o him ho=>by
   rw[List.getElem?_take_of_lt him];simpa using ho
  refine .inr fun i hi=>?_;obtain⟨hu,hin,hpre⟩:=b_a hi;have keepE:∀(L0:Array Bool) (x:Value) (d':Nat),E L0 a->i<m->i≠kx->i≠ky->slotOf ops i=some d'->E (L0.setIfInBounds i true) (a.put (some d') x):=fun L0 x d' h him h1 h2 hs e1 e2=>by
   rw[c_e L0 (Ne.symm h1)]at e1;rw[c_e L0 (Ne.symm h2)]at e2;rw[b_l fun e=>uniq i kx _ him hkx h1 hs (by rw[e];exact hdx),b_l fun e=>uniq i ky _ him hky h2 hs (by rw[e];exact hdy)];exact h e1 e2
  have newE:∀(L0:Array Bool) (v:Value) (d':Nat) (ww:World),Inv ops m a0 w0 Z Fs L0 a ww->slotOf ops i=some d'->d'<a.tmps.size->i=kx\/i=ky->blkV v=some ww.heap.size->E (L0.setIfInBounds i true) (a.put (some d') v):=fun L0 v d' ww H hdst hdl hik hv e1 e2=>by
   rcases hik with hk|hk
   ·subst hk;rw[hdx]at hdst;cases hdst;rw[c_e L0 (Ne.symm hxy)]at e2;have fy:=H.facts ky hky e2 dy hdy;unfold FOf at fy;rw[hyA]at fy;obtain⟨gy,hgy,hlt'⟩:=hby _ _ fy;rw[b_1 hdl,b_l fun e=>uniq i ky _ hkx hky hxy hdx (by rw[e];exact hdy),hv,hgy];intro e;injection e with e;omega
   ·subst hk;rw[hdy]at hdst;cases hdst;rw[c_e L0 hxy]at e1;have fx:=H.facts kx hkx e1 dx hdx;unfold FOf at fx;rw[hxA]at fx;obtain⟨gx,hgx,hlt'⟩:=hbx _ _ fx;rw[b_1 hdl,b_l fun e=>uniq i kx _ hky hkx (Ne.symm hxy) hdy (by rw[e];exact hdx),hv,hgx];intro e;injection e with e;omega
  have stepC:∀r,m<r->(∀k,k<ops.size->(listed.getD k false=true↔k<r))->wpOps P ops Q (List.range' r (ops.size - r)) a w->wpOp P ops Q i (J (listed.setIfInBounds i true)) a w:=fun r hmr hlr hwp=>by
   have hri:r<=i:=by
    rcases Nat.lt_or_ge i r with h|h
    ·have:=(hlr i hin).2 h;rw[b_h hu]at this;cases this
    ·exact h
   have hcov:=a_w hd hi (hcv i (by omega) hin);have him':i=r:=by
    rcases Nat.lt_or_ge r i with h|h
    ·have:=(hlr r (by omega)).1 (hcov r h (by simp));omega
    ·omega
   subst him';rw[show ops.size - i=(ops.size - i - 1)+1 by omega,List.range'_succ,wpOps_cons]at hwp;refine wpOp_mono (fun a' w' h'=>?_) hwp;refine .inr (.inr ⟨i+1,by omega,hin,fun k hk=>⟨fun h=>?_,fun h=>?_⟩, ?_⟩)
   ·rcases b_0 listed i k h with e|e
    ·omega
    ·have:=(hlr k hk).1 e;omega
   ·rcases Nat.lt_or_eq_of_le (Nat.le_of_lt_succ h)with h1|h1
    ·exact a_o ((hlr k hk).2 h1)
    ·subst h1;exact b_n (by omega)
   ·rw[show ops.size - (i+1)=ops.size - i - 1 by omega];exact h'
  rcases hj with⟨htail,H,hE⟩|⟨L,wg,g,hLs,hLk,hLm,hlm,htl2,hnf,hla,hle,⟨H,hE⟩,hgp,hg1,hg2,rfl⟩|⟨r,hmr,hrn,hlr,hwp⟩
  ·have htail':i<m->∀k,m<=k->(listed.setIfInBounds i true).getD k false=false:=fun him k hk=>by
    rw[c_e listed (by omega)];exact htail k hk
   have hpr:∀k d,((predsOf ops i).contains k&&slotOf ops k==some d&&((ops[k]?).bind isAlloc).isNone&&decide (k<m))=true->nthF Fs k (a.eval (.tmp d)) w:=by
    intro k d' hkd;simp only[Bool.and_eq_true,decide_eq_true_iff,beq_iff_eq,List.contains_iff_mem]at hkd;obtain⟨⟨⟨h1,h2⟩,h3⟩,h4⟩:=hkd
    have:=H.facts k h4 (hpre k h1) d' h2;unfold FOf at this;rw[Option.isNone_iff_eq_none.1 h3]at this;exact this
   have hoff:∀t,(List.range m).all (fun k=>slotOf ops k != some t)=true->a.eval (.tmp t)=a0.eval (.tmp t):=fun t ht=>H.off t (fun k hk=>by
    rw[List.all_eq_true]at ht;simpa using ht k (List.mem_range.2 hk))
   by_cases him:i<m
   ·obtain⟨d',hdst,hdlt,-⟩:=hsl i him;obtain⟨o,ho⟩:∃o,ops[i]? =some o:=⟨ops[i],by simp[hin]⟩;have hod:o.dst=some d':=by unfold slotOf at hdst;rw[ho]at hdst;exact hdst
    cases ha:isAlloc o with
    |some T=>
     have hop:o.op= .alloc T:=by
      unfold isAlloc at ha;split at ha
      ·cases ha;assumption
      ·cases ha
     have hgd:o.guard=none:=by
      rw[List.all_eq_true]at hg
      have:=hg i (List.mem_range.2 him);rw[ho]at this;simp[ha]at this;exact this
     unfold wpOp;rw[ho];simp only[Region.wanted,hgd,if_true];refine .inl ?_;unfold Oper.wp;have hrun:(execOp a.eval o).run P w= .ok (.value (.pointer (some ⟨w.heap.size,0,none⟩))) (w.alloc (Z T)):=by
      have hr:=hz T (List.all_eq_true.1 hzl T (List.mem_filterMap.2 ⟨i,List.mem_range.2 him,by rw[ho];simp[ha]⟩)) w;unfold execOp;rw[hop];simp[hr]
     rw[hrun,Oper.upon_value,hod];have hna2:∀k,(ops[k]?).bind isAlloc=none->i≠k:=fun k hk e=>by subst e;rw[ho,Option.bind_some,ha]at hk;cases hk
     refine .inl ⟨htail' him,Inv.step hok hs H hsz him hu hdst ?_ ((Below.refl _ _).alloc (Nat.le_refl _) _) (fun _=>⟨_,rfl,Nat.le_refl _⟩),keepE _ _ _ hE him (hna2 kx hxA) (hna2 ky hyA) hdst⟩;unfold FOf;rw[ho,Option.bind_some,ha];refine⟨w.heap.size,rfl,H.below.size,by simp, ?_⟩;show(w.heap.push (Z T))[w.heap.size]? =_
     simp
    |none=>
     by_cases hik:i=kx\/i=ky
     ·obtain⟨hgd,hmk⟩:=mk i o hik ho;obtain⟨v,w',hrun,hF,hb,hv⟩:=hmk a w H.below hoff hpr;unfold wpOp;rw[ho];simp only[Region.wanted,hgd,if_true];refine .inl ?_;unfold Oper.wp;rw[hrun,Oper.upon_value,hod];refine Or.inl ⟨htail' him,Inv.step hok hs H hsz him hu hdst ?_ hb (fun hc=>by rw[ho,Option.bind_some,ha]at hc;cases hc),newE _ _ _ _ H hdst (by rw[H.size];exact hdlt) hik hv⟩;unfold FOf;rw[ho,Option.bind_some,ha];exact hF
     ·have hop:=HopAll.at hops i o (hto i o him ho) ha;rw[Nat.zero_add,if_neg (by simp)]at hop;have hK:∀v w',nthF Fs i v w'->Below w.heap.size w w'->J (listed.setIfInBounds i true) (a.put o.dst v) w':=by
       intro v w' hF hb;rw[hod];refine Or.inl ⟨htail' him,Inv.step hok hs H hsz him hu hdst ?_ hb (fun hc=>by rw[ho,Option.bind_some,ha]at hc;cases hc),keepE _ _ _ hE him (fun e=>hik (.inl e)) (fun e=>hik (.inr e)) hdst⟩;unfold FOf;rw[ho,Option.bind_some,ha];exact hF
      have:=hop a w H.below hoff hpr _ hK;unfold wpOp;rw[ho];simp only;split
      ·rename_i hw;rw[if_pos hw]at this;exact .inl this
      ·rename_i hw;rw[if_neg hw]at this;exact this
   ·rcases(by omega:i=m\/m<i)with e1|e1
    ·subst e1;have hnf:=a_w hd hi (htl i (Nat.le_refl _) hin);have fa:=H.facts ka hka (hpre ka hpa) d hska;have fe:=H.facts ke hke (hpre ke hpe) e hske;unfold FOf at fa fe;rw[haA]at fa;rw[heA]at fe;obtain⟨g,e1,e2,e3,e4⟩:=fa;have hrun:=hst a w g e1 e4 fe;unfold wpOp;rw[hom];simp only[Region.wanted,hog,if_true];refine .inl ?_;unfold Oper.wp;rw[hrun,Oper.upon_skip,hod0];exact .inr (.inl ⟨listed,w,g,hsz,fun k hk=>(c_e listed hk).symm,htail i (Nat.le_refl _),b_n (by omega),fun k hk=>by rw[c_e listed (by omega)];exact htail k (by omega),fun k hk hf=>a_o (hnf k hk hf),a_o (hpre ka hpa),a_o (hpre ke hpe),⟨H,hE⟩,e1,e2,e3,rfl⟩)
    ·exfalso
     have:=a_w hd hi (hcv i e1 hin) m e1 (by simp);rw[htail m (Nat.le_refl _)]at this;cases this
  ·rcases(by omega:i<m\/i=m\/m<i)with him|him|him
   ·have hif:i∈fl:=Classical.byContradiction fun h=>by
     have:=hnf i him h;rw[b_h hu]at this;cases this
    obtain⟨d',hdst,hdlt,-⟩:=hsl i him;obtain⟨o,ho⟩:∃o,ops[i]? =some o:=⟨ops[i],by simp[hin]⟩;have hod:o.dst=some d':=by unfold slotOf at hdst;rw[ho]at hdst;exact hdst
    have hni:(ops[i]?).bind isAlloc=none:=(hfl i hif).2.2;obtain⟨hgd,hla2⟩:=late i o hif ho;have hLu:L.getD i true=false:=by
     have h1:=hLk i (by omega);rw[b_h hu]at h1;have h2:i<L.size:=by omega
     simp[h2]at h1 ⊢;exact h1
    have hpr:∀k d,((predsOf ops i).contains k&&slotOf ops k==some d&&((ops[k]?).bind isAlloc).isNone&&decide (k<m))=true->nthF Fs k (a.eval (.tmp d)) wg:=by
     intro k d' hkd;simp only[Bool.and_eq_true,decide_eq_true_iff,beq_iff_eq,List.contains_iff_mem]at hkd;obtain⟨⟨⟨h1,h2⟩,h3⟩,h4⟩:=hkd
     have:=H.facts k h4 (by rw[hLk k (by omega)];exact hpre k h1) d' h2;unfold FOf at this;rw[Option.isNone_iff_eq_none.1 h3]at this;exact this
    have hoff:∀t,(List.range m).all (fun k=>slotOf ops k != some t)=true->a.eval (.tmp t)=a0.eval (.tmp t):=fun t ht=>H.off t (fun k hk=>by
     rw[List.all_eq_true]at ht;simpa using ht k (List.mem_range.2 hk))
    obtain⟨x,w',h2,h3,h4,h5⟩:=hla2 a wg H.below hoff hpr;have hE2:E (L.setIfInBounds i true) (a.put (some d') x):=by
     by_cases hik:i=kx\/i=ky
     ·exact newE _ _ _ _ H hdst (by rw[H.size];exact hdlt) hik (h5 hik)
     ·exact keepE _ _ _ hE him (fun e=>hik (.inl e)) (fun e=>hik (.inr e)) hdst
    have nd:∀k y,k<m->slotOf ops k=some y->listed.getD k false=true->(a.put (some d') x).eval (.tmp y)=a.eval (.tmp y):=fun k y hk hy hl=>b_l fun e1=>by
     have hne:k≠i:=fun e2=>by subst e2;rw[b_h hu]at hl;cases hl
     exact uniq k i y hk him hne hy (by rw[<-e1];exact hdst)
    unfold wpOp;rw[ho];simp only[Region.wanted,hgd,if_true];refine .inl ?_;unfold Oper.wp;rw[h4 g _ hg1 hg2,Oper.upon_value,hod];refine .inr (.inl ⟨L.setIfInBounds i true,w',g,by simpa using hLs,fun k hk=>?_,by rw[c_e L (by omega)];exact hLm,a_o hlm,fun k hk=>by rw[c_e listed (by omega)];exact htl2 k hk,fun k hk hf=>a_o (hnf k hk hf),a_o hla,a_o hle,⟨Inv.step hok hs H hLs him hLu hdst ?_ h3 (fun hc=>by rw[hni]at hc;cases hc),hE2⟩,by rw[nd ka d hka hska hla];exact hgp,hg1,Nat.lt_of_lt_of_le hg2 h3.size,by rw[nd ke e hke hske hle]⟩)
    ·by_cases e1:k=i
     ·subst e1;rw[b_n (by omega),b_n (by omega)]
     ·rw[c_e L e1,c_e listed e1];exact hLk k hk
    ·unfold FOf;rw[hni];exact h2
   ·subst him;rw[b_h hu]at hlm;cases hlm
   ·have hcov:=a_w hd hi (hcv i him hin);have hall:∀k,k<m->listed.getD k false=true:=fun k hk=>hcov k (by omega) (by simp);refine stepC (m+1) (by omega) (fun k hk=>⟨fun h=>?_,fun h=>?_⟩) (cls listed L a wg g hLk ⟨H,hE⟩ hgp hall)
    ·rcases Nat.lt_or_ge m k with h1|h1
     ·rw[htl2 k h1]at h;cases h
     ·omega
    ·rcases Nat.lt_or_eq_of_le (Nat.le_of_lt_succ h)with h1|h1
     ·exact hall k h1
     ·subst h1;exact hlm
  ·exact stepC r hmr hlr hwp
 ·
  intro listed a w hsz hd hj hr;have hall:∀k,k<ops.size->listed.getD k false=true:=by
   intro k;induction k using Nat.strongRecOn with
   |ind k ih=>
    intro hk;cases hc:listed.getD k false with
    |true=>rfl
    |false=>
     exfalso
     have hmem:k∈Region.ready .any ops listed:=d_w hsz hk hc (fun j hj=>by have:=hlt k hk j hj;exact ih j this (by omega));rw[hr]at hmem;cases hmem
  have endC:∀r,r<=ops.size->(∀k,k<ops.size->(listed.getD k false=true↔k<r))->wpOps P ops Q (List.range' r (ops.size - r)) a w->Q .normal a w:=fun r hrn hlr hwp=>by
   have hsr:ops.size=r:=by
    rcases Nat.lt_or_ge r ops.size with h|h
    ·have:=(hlr r h).1 (hall r h);omega
    ·omega
   rw[hsr,Nat.sub_self]at hwp;simpa [wpOps] using hwp
  rcases hj with⟨htail,H,hE⟩|⟨L,wg,g,hLs,hLk,hLm,hlm,htl2,hnf,hla,hle,⟨H,hE⟩,hgp,hg1,hg2,rfl⟩|⟨r,hmr,hrn,hlr,hwp⟩
  ·have:=hall m hmn;rw[htail m (Nat.le_refl _)]at this;cases this
  ·refine endC (m+1) (by omega) (fun k hk=>⟨fun h=>?_,fun h=>hall k hk⟩) (cls listed L a wg g hLk ⟨H,hE⟩ hgp fun k hk=>hall k (by omega));rcases Nat.lt_or_ge m k with h1|h1
   ·rw[htl2 k h1]at h;cases h
   ·omega
  ·exact endC r hrn hlr hwp
 ·unfold openOf;simp
 ·simp[Array.getD]at hi
 ·simp[Array.getD]
 ·refine⟨rfl,rfl,fun _ _=>rfl,(Below.refl _ _).drew,fun k _ hl=>?_,fun j k _ _ _ _ hl=>?_⟩
  ·simp[Array.getD]at hl
  ·simp[Array.getD]at hl
 ·simp[Array.getD]at h
end
def kAt (x:FK)(g:Nat):FK:=.f (fun v w=>x.F v w/\blkV v=some g) (fun v w w' ⟨h1,h2⟩ hb=>⟨x.stays _ _ _ h1 hb,h2⟩)
theorem nthK_set:∀(l:List FK) (i k:Nat) (x:FK),i<l.length->nthK (l.set i x) k=if k=i then x else nthK l k
 |y::l,0,0,x,_=>rfl
 |y::l,0,k+1,x,_=>rfl
 |y::l,i+1,0,x,_=>rfl
 |y::l,i+1,k+1,x,h=>by
  have:=nthK_set l i k x (by simpa using h);show nthK (l.set i x) k=_
  rw[this];by_cases e:k=i
  ·rw[if_pos e,if_pos (by omega)]
  ·rw[if_neg e,if_neg (by omega)];rfl
theorem k_0 {F:FVal}{hF:Stays F}:∀(os:List Oper) (l:List FK) (i:Nat),okL os l->(os[i]?).bind isAlloc=none->okL os (l.set i (.f F hF))
 | [],[],i,h,_=>by simpa using h
 | [],_::_,i,h,_=>by cases h
 |_::_,[],i,h,_=>by cases h
 |o::os,x::l,0,h,e=>⟨by simpa using e,h.2⟩
 |o::os,x::l,i+1,h,e=>⟨h.1,k_0 os l i h.2 (by simpa using e)⟩
section
variable {ops:Array Oper}{Q:Exit->Act->World->Prop}{m i:Nat}{a0 a:Act}{w0 w:World}{l:List FK}{b:Bool}{id:Nat}
theorem Run.donet (fl:List Nat)(ka ke d e:Nat)(Ta:TypeId)(kx ky dx dy:Nat)(ds:List (Option Nat))
  (late:∀i,i∈fl->(opAt ops i).guard=none/\LateB Tryz.prog ops m a0 w0 (fsOf l.reverse) kx ky i (opAt ops i))
  (hst:∀(a:Act) (w:World) (g:Nat),a.eval (.tmp d)= .pointer (some ⟨g,0,none⟩)->w.heap[g]? =some (zeroObj Ta)->nthF (fsOf l.reverse) ke (a.eval (.tmp e)) w->(execOp a.eval (opAt ops m)).run Tryz.prog w= .ok .skip (w.setCell ⟨g,0,none⟩ (a.eval (.tmp e))))
  (hbx:∀v w,nthF (fsOf l.reverse) kx v w->∃g,blkV v=some g/\g<w.heap.size) (hby:∀v w,nthF (fsOf l.reverse) ky v w->∃g,blkV v=some g/\g<w.heap.size)
  (mk:∀i,i=kx\/i=ky->(opAt ops i).guard=none/\MakeAt Tryz.prog ops m a0 w0 (fsOf l.reverse) i (opAt ops i))
  (hlo:¬LetsOut Q) (hend:∀w gx gy,Below w0.heap.size w0 w->gx≠gy->EndQ ops Q m w0 w [] ((l.reverse.set kx (kAt (nthK l.reverse kx) gx)).set ky (kAt (nthK l.reverse ky) gy)) ds a0) (hok:okEy ops fl m a0.tmps.size ka ke d e Ta=true:=by kernel_rfl)
  (hxy:(decide (kx<m)&&decide (ky<m)&&decide (kx≠ky)&&(slotOf ops kx==some dx)&&(slotOf ops ky==some dy)&&((ops[kx]?).bind isAlloc).isNone&&((ops[ky]?).bind isAlloc).isNone )=true:=by kernel_rfl) (hds:(ops.toList.take m).map (·.dst)=ds:=by rfl) (hi:i=m:=by rfl) (hQ:∀c a d v w,Q (.panic c) (a.put d v) w->Q (.panic c) a w:=by(intro _ _ d _ _ h;cases d<;>exact h)):R ops Q m a0 w0 true id l i:=fun hl hall=>by
 unfold okEy at hok;simp only[Bool.and_eq_true,decide_eq_true_iff,List.all_eq_true,beq_iff_eq,List.contains_iff_mem]at hok;obtain⟨⟨⟨⟨⟨⟨⟨⟨⟨⟨⟨⟨⟨h1,h2,h3⟩,h4⟩,h5⟩,h6⟩,h7⟩,h8⟩,h9⟩,h10⟩,h11⟩,h12⟩,h13⟩,h14⟩,h15⟩:=hok;simp only[Bool.and_eq_true,decide_eq_true_iff,beq_iff_eq,Option.isNone_iff_eq_none]at hxy;obtain⟨⟨⟨⟨⟨⟨x1,x2⟩,x3⟩,x4⟩,x5⟩,x6⟩,x7⟩:=hxy;subst hi;have h:=g_p (b_s h1).1 hl hall i 0 rfl;have hom:ops[i]? =some (opAt ops i):=by rw[d_x h5];simp[h5]
 have hlr:l.reverse.length=i:=by simp[hl]
 have same:∀j o,ops[j]? =some o->o=opAt ops j:=fun j o ho=>by
  have hjl:=(Array.getElem?_eq_some_iff.1 ho).1;rw[d_x hjl];exact(Array.getElem?_eq_some_iff.1 ho).2.symm
 have tk:∀k,k<i->((ops.toList.take i)[k]?).bind isAlloc=(ops[k]?).bind isAlloc:=fun k hk=>by rw[List.getElem?_take_of_lt hk,Array.getElem?_toList]
 refine wp_region_any (by kernel_rfl) (w_1 fl i (fsOf l.reverse) zeroObj hQ h1 okZ (List.all_eq_true.2 h2) (fun T h w=>c_r h w) h3 (fsOf_stay l.reverse) h.1 (fun j hj hjn=>h4 j (List.mem_range'.2 ⟨j - (i+1),by omega,by omega⟩)) (fun j o hj ho=>?_) hom (Option.isNone_iff_eq_none.1 h6) (Option.isNone_iff_eq_none.1 h7) hlo h8 h9 h10 h11 h12 h13 h14 (Option.isNone_iff_eq_none.1 h15) hst
  (fun gx gy=>fsOf ((l.reverse.set kx (kAt (nthK l.reverse kx) gx)).set ky (kAt (nthK l.reverse ky) gy))) x1 x2 x3 x4 x5 x6 x7 hbx hby (fun gx gy k e1 e2=>?_) (fun gx gy v w hv e=>?_) (fun gx gy v w hv e=>?_) (fun j o hj ho=>?_) (fun w gx gy hw hne=>?_))
 ·have:=same j o ho;subst this;exact late j hj
 ·rw[nthF_of,nthF_of,nthK_set _ _ _ _ (by simpa [hl] using x2),if_neg e2,nthK_set _ _ _ _ (by rw[hlr];exact x1),if_neg e1]
 ·rw[nthF_of,nthK_set _ _ _ _ (by simpa [hl] using x2),if_neg x3,nthK_set _ _ _ _ (by rw[hlr];exact x1),if_pos rfl];rw[nthF_of]at hv;exact⟨hv,e⟩
 ·rw[nthF_of,nthK_set _ _ _ _ (by simpa [hl] using x2),if_pos rfl];rw[nthF_of]at hv;exact⟨hv,e⟩
 ·have:=same j o ho;subst this;exact mk j hj
 ·exact c_0 (ops.toList.take i) ((l.reverse.set kx (kAt (nthK l.reverse kx) gx)).set ky (kAt (nthK l.reverse ky) gy)) _ [] 0 a0 (k_0 _ _ _ (k_0 _ _ _ h.2 (by rw[tk _ x1];exact x6)) (by rw[tk _ x2];exact x7)) (fun j _=>by rw[Nat.zero_add]) (by rw[hds];exact hend w gx gy hw hne)
end
end
section
open Go.RowKit
structure PM where
 r:Nat
 c:Nat
 F:Nat->Nat->Int
def pz:PM:=⟨0,0,fun _ _=>0⟩
def vP (o:Option PM):PM:=match o with|some p=>p|none=>pz
def vE (o:Option PM):Int:=match o with|some _=>0|none=>2
def oMul (x y:Option PM):Option PM:=match x,y with
 |some a,some b=>if a.c=b.r then some ⟨a.r,b.c,fun i j=>dot a.F b.F i j a.c⟩else none
 |_,_=>none
def oAdd (x y:Option PM):Option PM:=match x,y with
 |some a,some b=>if a.r=b.r/\a.c=b.c then some ⟨a.r,a.c,fun i j=>a.F i j+b.F i j⟩else none
 |_,_=>none
def Raw (w:World)(r c:Int)(A:Option Addr)(n d k:Nat)(o:Option PM):Prop:=match o with
 |none=>fmd r c n=false
 |some p=>r=p.r/\c=p.c/\Mt false w p.r p.c A n d k p.F
section
variable {w w':World}{r c r' c':Int}{A A':Option Addr}{n d k n' d' k':Nat}{x y:Option PM}
theorem Mt.raw {q:Bool}{p:PM}(h:Mt q w p.r p.c A n d k p.F):Raw w p.r p.c A n d k (some p):=⟨rfl,rfl,h.weak⟩
theorem Raw.fmd (h:Raw w r c A n d k x):fmd r c n=x.isSome:=by
 cases x with
 |none=>exact h
 |some p=>obtain⟨rfl,rfl,h⟩:=h;exact h.fmd
theorem Mt.zero (w:World)(K:Nat):Mt true w 0 0 none 0 0 K (fun _ _=>0):=⟨ZL.nil true w K,by omega,by omega⟩
theorem h_h {p:PM}{e:Int}{K:Nat}(hp:pz=p)(he:2=e){E:Ending}(h:RetK (noM 2) w E w'):RetK (kT (kM true p.r p.c K p.F) (.k (.int .i64 e))) w E w':=by
 obtain⟨u,rfl,rfl,hB⟩:=h;subst hp he;exact⟨_,rfl,⟨_,_,rfl,⟨none,0,0,rfl,Mt.zero w' K⟩,rfl⟩,hB⟩
theorem o_d {r c K K':Nat}{F:Nat->Nat->Int}{p:PM}{e:Int}(hp:(⟨r,c,F⟩:PM)=p)(he:0=e)(hk:K<=K'){E:Ending}(h:RetK (kT (kM true r c K F) (.k (.int .i64 0))) w E w'):RetK (kT (kM true p.r p.c K' p.F) (.k (.int .i64 e))) w E w':=by
 obtain⟨u,rfl,⟨a,b,rfl,⟨A,n,d,rfl,hM⟩,h2⟩,hB⟩:=h;subst hp he;exact⟨_,rfl,⟨_,_,rfl,⟨A,n,d,rfl,hM.mono hk⟩,h2⟩,hB⟩
theorem s_e {p:PM}{e:Int}{K:Nat}(ha:Raw w r c A n d k x)(hb:Raw w r' c' A' n' d' k' y)(hp:vP (oMul x y)=p)(he:vE (oMul x y)=e)(hK:k+k'+64<=K)(hk:k+k'<=549755813888):Calls Tryz.prog 24 #[.agg #[.int .i64 r,.int .i64 c,.slice A n d],.agg #[.int .i64 r',.int .i64 c',.slice A' n' d']] w (RetK (kT (kM true p.r p.c K p.F) (.k (.int .i64 e))) w):=by
 have f1:=ha.fmd;have f2:=hb.fmd;cases x with
 |none=>exact(k_4 (by rw[f1];rfl)).mono fun E w' h=>h_h hp he h
 |some a=>
  cases y with
  |none=>exact(k_4 (by rw[f1,f2];rfl)).mono fun E w' h=>h_h hp he h
  |some b=>
   obtain⟨rfl,rfl,hA⟩:=ha;obtain⟨rfl,rfl,hB⟩:=hb;by_cases hcr:a.c=b.r
   ·have ho:oMul (some a) (some b)=some ⟨a.r,b.c,fun i j=>dot a.F b.F i j a.c⟩:=if_pos hcr;rw[ho]at hp he
    have:=hA.hc;exact(s_d hA hB hcr hk).mono fun E w' h=>o_d hp he (by omega) h
   ·have ho:oMul (some a) (some b)=none:=if_neg hcr;rw[ho]at hp he;exact(k_4 (by rw[decide_eq_false (by omega:¬(a.c:Int)=b.r)];simp)).mono fun E w' h=>h_h hp he h
theorem s_k {p:PM}{e:Int}{K:Nat}(ha:Raw w r c A n d k x)(hb:Raw w r' c' A' n' d' k' y)(hp:vP (oAdd x y)=p)(he:vE (oAdd x y)=e)(hK:max k k'+1<=K)(hk:k<=1099511627776)(hk':k'<=1099511627776):Calls Tryz.prog 22 #[.agg #[.int .i64 r,.int .i64 c,.slice A n d],.agg #[.int .i64 r',.int .i64 c',.slice A' n' d']] w (RetK (kT (kM true p.r p.c K p.F) (.k (.int .i64 e))) w):=by
 have f1:=ha.fmd;have f2:=hb.fmd;cases x with
 |none=>exact(k_6 (by rw[f1];rfl)).mono fun E w' h=>h_h hp he h
 |some a=>
  cases y with
  |none=>exact(k_6 (by rw[f1,f2];rfl)).mono fun E w' h=>h_h hp he h
  |some b=>
   obtain⟨rfl,rfl,hA⟩:=ha;obtain⟨rfl,rfl,hB⟩:=hb;by_cases hcr:a.r=b.r/\a.c=b.c
   ·have ho:oAdd (some a) (some b)=some ⟨a.r,a.c,fun i j=>a.F i j+b.F i j⟩:=if_pos hcr;rw[ho]at hp he;obtain⟨e1,e2⟩:=hcr;rw[<-e1,<-e2]at hB ⊢;exact(s_j hA hB hk hk').mono fun E w' h=>o_d hp he hK h
   ·have ho:oAdd (some a) (some b)=none:=if_neg hcr;rw[ho]at hp he;refine(k_6 ?_).mono fun E w' h=>h_h hp he h;by_cases e1:(a.r:Int)=b.r
    ·rw[decide_eq_false (by omega:¬(a.c:Int)=b.c)];simp
    ·rw[decide_eq_false e1];simp
end
end
end Go.Proofs.YtfhbdlegkdbmfaaGreat
