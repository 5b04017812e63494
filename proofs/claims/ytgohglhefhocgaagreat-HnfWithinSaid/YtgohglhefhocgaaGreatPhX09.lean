/- PhX09 -/
import Derived.Test.YtgohglhefhocgaaGreatPhX02
import Derived.Test.YtgohglhefhocgaaGreatPhX03
import Derived.IntWalk
set_option linter.unusedVariables false
set_option linter.unusedSimpArgs false
set_option linter.unusedSectionVars false
set_option maxRecDepth 100000
set_option maxHeartbeats 8000000
namespace Go.Proofs.YtgohglhefhocgaaGreat
section
open Go.RowKit
section
variable {w w':World}{g h:Nat}{T U:TypeId}{cs ds:List Value}
end
section
variable {g o:Nat}
theorem fP0 (o':Nat)(h:o+0=o':=by rfl)(w:World):(Instr.fieldAt 84 (.pointer (some ⟨g,o,none⟩)) 0).run Tryz.prog w= .ok (.pointer (some ⟨g,o',none⟩)) w:=by subst h;simp[go_sem]
theorem fP1 (o':Nat)(h:o+3=o':=by rfl)(w:World):(Instr.fieldAt 84 (.pointer (some ⟨g,o,none⟩)) 1).run Tryz.prog w= .ok (.pointer (some ⟨g,o',none⟩)) w:=by subst h;simp[go_sem]
end
section
variable {x y r:Int}{T:TypeId}{b:Bool}{X Y:Operand}{U:TypeId}
end
end
section
open Go.RowKit
def noM (e:Int):FK:=.k (.tuple #[.agg #[.int .i64 0,.int .i64 0,.slice none 0 0],.int .i64 e])
end
section
open Go.RowKit
theorem k_a {q q':Bool}{r c n d k r' c' n' d' k' i j:Nat}{A A':Option Addr}{F G:Nat→Nat→Int}{w:World}(ha:Mt q w r c A n d k F)(hb:Mt q' w r' c' A' n' d' k' G)(hi:i<r+r')(hj:j<c)(hj':j<c')(hk:k≤1099511627776)(hk':k'≤1099511627776):Calls Tryz.prog 65 #[.agg #[.int .i64 (r:Int),.int .i64 (c:Int),.slice A n d,.int .i64 (r':Int),.int .i64 (c':Int),.slice A' n' d'],.int .i64 (i:Int),.int .i64 (j:Int)] w (RetK (kC (if i<r then F i j else G (i - r) j) (max k k')) w):=by
 have hr1:=ha.hr;have hc1:=ha.hc;have hr2:=hb.hr;have hc2:=hb.hc;obtain⟨z,hz0⟩:∃z:Int,(if i<r then F i j else G (i - r) j)=z:=⟨_,rfl⟩;have Hz:=Lib.hid hz0;rw[hz0];obtain⟨w1,hw1,b3,b6,z1,s1⟩:=boxes2 w 84 37 [.int .i64 (r:Int),.int .i64 (c:Int),.slice A n d,.int .i64 (r':Int),.int .i64 (c':Int),.slice A' n' d'] [.bool false,.slice none 0 0];have HW:=Lib.hid hw1;have HZ:=Lib.hid z1;replace ha:=ha.below z1;replace hb:=hb.below z1;clear hw1 z1 s1 hz0;go_enter Tryz.func65,Tryz.ntmps65
 go_upto_region 1 with fail
 rw[HW.out];by_cases ht:i<r
 ·have u1:(i:Int)<(r:Int):=by omega
  have ez:=Hz.out;rw[if_pos ht]at ez;clear Hz;refine Run.start 5 ?_;refine .mv .o ?_;refine .fa .o (fP0 0) ?_;refine .fa (.i 1) (fM0 0) ?_;refine .ld (.i 2) (ldInt b3 0) ?_;refine .two (.i 0) (.i 3) (opLt (decide_eq_true u1)) ?_;refine .donep [some 7,some 8,some 9,some 10,some 11] ?_;intro w2 B2;change Shut (wpList _ _ _ [] _ _);refine⟨?_⟩;simp only[Act.put,lS,lZ,lC];replace ha:=ha.below B2;replace b3:=b3.below B2;replace b6:=b6.below B2;have HZ2:=Lib.hid (zup HZ.out B2);clear B2 HZ;go_upto_region 2 with fail
  refine Run.start 5 ?_;refine .fa .o (fP0 0) ?_;refine .ld (.i 0) (ldM b3 0) ?_;refine .mv .o ?_;refine .mv .o ?_;refine .c3 (.i 1) (.i 2) (.i 3) (x:=kC z (max k k')) (by rintro u v x w3 hB rfl rfl rfl;rw[←ez];exact(b_o (ha.below hB) ht hj hk).mono fun e w' h=>h.mono fun v w ⟨s,A,n,c,e,h1,h2⟩=>⟨s,A,n,c,e,h1,by omega⟩) ?_;refine .donep [some 12,some 13,some 14,some 15,some 16] ?_;intro w3 B3;rintro v ⟨s_,A_,n_,c_,rfl,hz,hk_⟩;change Shut (wpList _ _ _ [_] _ _);refine⟨?_⟩;simp only[Act.put,lS,lZ,lC];have I:=Ib.entry (b6.below B3);have P:=Lib.hid (retC hz I (k:=max k k') (by omega) (by omega) (zup HZ2.out B3));obtain⟨i1,i2,i3,i4,i5⟩:=I;clear hz
  go_wp2_with fail
  exact bodyPost_ret (v:=.agg #[.bool s_,.slice A_ n_ c_]) (by simp[results,Tryz.results65,go_sem,i1,i2]) rfl P.out
 ·have u1:¬(i:Int)<(r:Int):=by omega
  have ez:=Hz.out;rw[if_neg ht]at ez;clear Hz;refine Run.start 5 ?_;refine .mv .o ?_;refine .fa .o (fP0 0) ?_;refine .fa (.i 1) (fM0 0) ?_;refine .ld (.i 2) (ldInt b3 0) ?_;refine .two (.i 0) (.i 3) (opLt (decide_eq_false u1)) ?_;refine .donep [some 7,some 8,some 9,some 10,some 11] ?_;intro w2 B2;change Shut (wpList _ _ _ [] _ _);refine⟨?_⟩;simp only[Act.put,lS,lZ,lC];replace hb:=hb.below B2;replace b3:=b3.below B2;replace b6:=b6.below B2;have HZ2:=Lib.hid (zup HZ.out B2);clear B2 HZ;go_upto_region 3 with fail
  refine Run.start 9 ?_;refine .fa .o (fP1 3) ?_;refine .ld (.i 0) (ldM b3 3) ?_;refine .mv .o ?_;refine .fa .o (fP0 0) ?_;refine .fa (.i 3) (fM0 0) ?_;refine .ld (.i 4) (ldInt b3 0) ?_;refine .two (.i 2) (.i 5) (opSubN i r (by omega) (by omega)) ?_;refine .mv .o ?_;refine .c3 (.i 1) (.i 6) (.i 7) (x:=kC z (max k k')) (by rintro u v x w3 hB rfl rfl rfl;rw[←ez];exact(b_o (hb.below hB) (by omega) hj' hk').mono fun e w' h=>h.mono fun v w ⟨s,A,n,c,e,h1,h2⟩=>⟨s,A,n,c,e,h1,by omega⟩) ?_;refine .donep [some 17,some 18,some 19,some 20,some 21,some 22,some 23,some 24,some 25] ?_;intro w3 B3;rintro v ⟨s_,A_,n_,c_,rfl,hz,hk_⟩;change Shut (wpList _ _ _ [_] _ _);refine⟨?_⟩;simp only[Act.put,lS,lZ,lC];have I:=Ib.entry (b6.below B3);have P:=Lib.hid (retC hz I (k:=max k k') (by omega) (by omega) (zup HZ2.out B3));obtain⟨i1,i2,i3,i4,i5⟩:=I;clear hz
  go_wp2_with fail
  exact bodyPost_ret (v:=.agg #[.bool s_,.slice A_ n_ c_]) (by simp[results,Tryz.results65,go_sem,i1,i2]) rfl P.out
theorem m_1 {q:Bool}{r c n d k i j:Nat}{A:Option Addr}{F:Nat→Nat→Int}{g g' g2 g3 a p m e:Nat}{s:Bool}{D:Option Addr}{y:Int}{w:World}(b2:Bx w g 3 [.int .i64 (a:Int)])(b3:Bx w g' 24 [.int .i64 (r:Int),.int .i64 (c:Int),.slice A n d])(b4:Bx w g2 37 [.bool s,.slice D m e])(b5:Bx w g3 3 [.int .i64 (p:Int)])(ha:Mt q w r c A n d k F)(hz0:Zv w s D m e y)(hi:i<r)(hp:p<r)(hj:j<c)(hk:m+k≤549755813888):Calls Tryz.prog 84 #[.int .i64 (i:Int),.int .i64 (j:Int),.pointer (some ⟨g,0,none⟩),.pointer (some ⟨g',0,none⟩),.pointer (some ⟨g2,0,none⟩),.pointer (some ⟨g3,0,none⟩)] w (RetK (kC (if i=a then F i j+y*F p j else F i j) (m+k+1)) w):=by
 obtain⟨z,hz1⟩:∃z:Int,(if i=a then F i j+y*F p j else F i j)=z:=⟨_,rfl⟩;have Hz:=Lib.hid hz1;rw[hz1];clear hz1;obtain⟨w1,hw1,b8,z1,s1⟩:=boxes1 w 37 [.bool false,.slice none 0 0];have HW:=Lib.hid hw1;have HZ:=Lib.hid z1;replace b2:=b2.below z1;replace b3:=b3.below z1;replace b4:=b4.below z1;replace b5:=b5.below z1;replace ha:=ha.below z1;replace hz0:=hz0.below z1;clear hw1 z1 s1;go_enter Tryz.func84,Tryz.ntmps84
 go_upto_region 1 with fail
 rw[HW.out];by_cases ht:i=a
 ·have u1:(i:Int)=(a:Int):=by omega
  have ez:=Hz.out;rw[if_pos ht]at ez;clear Hz;refine Run.start 3 ?_;refine .mv .o ?_;refine .ld .o (ldInt b2 0) ?_;refine .two (.i 0) (.i 1) (opNe (decide_eq_false (by omega:¬((i:Int)≠(a:Int))))) ?_;refine .donep [some 9,some 10,some 11] ?_;intro w2 B2;change Shut (wpList _ _ _ [] _ _);refine⟨?_⟩;simp only[Act.put,lS,lZ,lC];replace ha:=ha.below B2;replace hz0:=hz0.below B2;replace b2:=b2.below B2;replace b3:=b3.below B2;replace b4:=b4.below B2;replace b5:=b5.below B2;replace b8:=b8.below B2;have HZ2:=Lib.hid (zup HZ.out B2);clear B2 HZ;subst ht;go_upto_region 3 with fail
  refine Run.start 11 ?_;refine .ld .o (ldM b3 0) ?_;refine .ld .o (ldInt b2 0) ?_;refine .mv .o ?_;refine .c3 (.i 0) (.i 1) (.i 2) (x:=kV (F i j) k) (by rintro u v x w2 hB rfl rfl rfl;exact d_q (ha.below hB) hi hj) ?_;refine .ld .o (ldZ b4 0) ?_;refine .ld .o (ldM b3 0) ?_;refine .ld .o (ldInt b5 0) ?_;refine .mv .o ?_;refine .c3 (.i 5) (.i 6) (.i 7) (x:=kV (F p j) k) (by rintro u v x w2 hB rfl rfl rfl;exact d_q (ha.below hB) hp hj) ?_;refine .c2 (.i 4) (.i 8) (x:=kC (y*F p j) (m+k)) (by rintro u v w2 hB rfl h2;exact c_5 ⟨_,_,_,_,rfl,hz0.below hB,Nat.le_refl _⟩ h2 (by omega) (by omega) (Nat.le_refl _)) ?_;refine .c2 (.i 3) (.i 9) (x:=kC z (m+k+1)) (by intro u v w3 hB h1 h2;rw[←ez];exact f_d h1 h2.v (by omega) (by omega) (by omega)) ?_;refine .done [some 16,some 17,some 18,some 19,some 20,some 21,some 22,some 23,some 24,some 25,some 26] ?_;intro w3 B3;rintro v0 -;rintro v1 -;rintro v2 -;rintro v ⟨s_,A_,n_,c_,rfl,hz,hk_⟩;change Shut (wpList _ _ _ [_] _ _);refine⟨?_⟩;simp only[Act.put,lS,lZ,lC];have I:=Ib.entry (b8.below B3);have P:=Lib.hid (retC hz I (k:=m+k+1) (by omega) (by omega) (zup HZ2.out B3));obtain⟨i1,i2,i3,i4,i5⟩:=I;clear hz
  go_wp2_with fail
  exact bodyPost_ret (v:=.agg #[.bool s_,.slice A_ n_ c_]) (by simp[results,Tryz.results84,go_sem,i1,i2]) rfl P.out
 ·have u1:¬(i:Int)=(a:Int):=by omega
  have ez:=Hz.out;rw[if_neg ht]at ez;clear Hz;refine Run.start 3 ?_;refine .mv .o ?_;refine .ld .o (ldInt b2 0) ?_;refine .two (.i 0) (.i 1) (opNe (decide_eq_true (by omega:(i:Int)≠(a:Int)))) ?_;refine .donep [some 9,some 10,some 11] ?_;intro w2 B2;change Shut (wpList _ _ _ [] _ _);refine⟨?_⟩;simp only[Act.put,lS,lZ,lC];replace ha:=ha.below B2;replace hz0:=hz0.below B2;replace b2:=b2.below B2;replace b3:=b3.below B2;replace b4:=b4.below B2;replace b5:=b5.below B2;replace b8:=b8.below B2;have HZ2:=Lib.hid (zup HZ.out B2);clear B2 HZ;go_upto_region 2 with fail
  refine Run.start 4 ?_;refine .ld .o (ldM b3 0) ?_;refine .mv .o ?_;refine .mv .o ?_;refine .c3 (.i 0) (.i 1) (.i 2) (x:=kC z (m+k+1)) (by rintro u v x w3 hB rfl rfl rfl;rw[←ez];exact(b_o (ha.below hB) hi hj (by omega)).mono fun e w' h=>h.mono fun v w ⟨s,A,n,c,e,h1,h2⟩=>⟨s,A,n,c,e,h1,by omega⟩) ?_;refine .donep [some 12,some 13,some 14,some 15] ?_;intro w3 B3;rintro v ⟨s_,A_,n_,c_,rfl,hz,hk_⟩;change Shut (wpList _ _ _ [_] _ _);refine⟨?_⟩;simp only[Act.put,lS,lZ,lC];have I:=Ib.entry (b8.below B3);have P:=Lib.hid (retC hz I (k:=m+k+1) (by omega) (by omega) (zup HZ2.out B3));obtain⟨i1,i2,i3,i4,i5⟩:=I;clear hz
  go_wp2_with fail
  exact bodyPost_ret (v:=.agg #[.bool s_,.slice A_ n_ c_]) (by simp[results,Tryz.results84,go_sem,i1,i2]) rfl P.out
theorem h_z {q:Bool}{r c n d k i j:Nat}{A:Option Addr}{F:Nat→Nat→Int}{g g' g2 a p:Nat}{w:World}(b2:Bx w g 3 [.int .i64 (a:Int)])(b3:Bx w g' 3 [.int .i64 (p:Int)])(b4:Bx w g2 24 [.int .i64 (r:Int),.int .i64 (c:Int),.slice A n d])(ha:Mt q w r c A n d k F)(hi:i<r)(hai:a<r)(hp:p<r)(hj:j<c)(hk:k≤1099511627776):Calls Tryz.prog 83 #[.int .i64 (i:Int),.int .i64 (j:Int),.pointer (some ⟨g,0,none⟩),.pointer (some ⟨g',0,none⟩),.pointer (some ⟨g2,0,none⟩)] w (RetK (kC (if i=a then F p j else if i=p then F a j else F i j) k) w):=by
 obtain⟨z,hz1⟩:∃z:Int,(if i=a then F p j else if i=p then F a j else F i j)=z:=⟨_,rfl⟩;have Hz:=Lib.hid hz1;rw[hz1];clear hz1;obtain⟨w1,hw1,b7,z1,s1⟩:=boxes1 w 37 [.bool false,.slice none 0 0];have HW:=Lib.hid hw1;have HZ:=Lib.hid z1;replace b2:=b2.below z1;replace b3:=b3.below z1;replace b4:=b4.below z1;replace ha:=ha.below z1;clear hw1 z1 s1;go_enter Tryz.func83,Tryz.ntmps83
 go_upto_region 1 with fail
 rw[HW.out];have c2:=b2.cell 0;have c3:=b3.cell 0;simp only[List.getElem?_cons_zero]at c2 c3;by_cases ht:i=a
 ·have u1:(i:Int)=(a:Int):=by omega
  have ez:=Hz.out;rw[if_pos ht]at ez;clear Hz;subst ht;go_upto_region 6 with fail
  clear c2 c3;refine Run.start 4 ?_;refine .ld .o (ldM b4 0) ?_;refine .mv .o ?_;refine .mv .o ?_;refine .c3 (.i 0) (.i 1) (.i 2) (x:=kC z k) (by rintro u v x w3 hB rfl rfl rfl;rw[←ez];exact b_o (ha.below hB) hp hj hk) ?_;refine .donep [some 17,some 18,some 19,some 20] ?_;intro w2 B2;rintro v ⟨s_,A_,n_,c_,rfl,hz,hk_⟩;change Shut (wpList _ _ _ [_] _ _);refine⟨?_⟩;simp only[Act.put,lS,lZ,lC];have I:=Ib.entry (b7.below B2);have P:=Lib.hid (retC hz I (k:=k) (by omega) (by omega) (zup HZ.out B2));obtain⟨i1,i2,i3,i4,i5⟩:=I;clear hz
  go_wp2_with fail
  exact bodyPost_ret (v:=.agg #[.bool s_,.slice A_ n_ c_]) (by simp[results,Tryz.results83,go_sem,i1,i2]) rfl P.out
 ·have u1:¬(i:Int)=(a:Int):=by omega
  have ez:=Hz.out;rw[if_neg ht]at ez;clear Hz;by_cases ht2:i=p
  ·have u2:(i:Int)=(p:Int):=by omega
   rw[if_pos ht2]at ez;skip
   go_upto_region 6 with fail
   clear c2 c3;refine Run.start 4 ?_;refine .ld .o (ldM b4 0) ?_;refine .mv .o ?_;refine .mv .o ?_;refine .c3 (.i 0) (.i 1) (.i 2) (x:=kC z k) (by rintro u v x w3 hB rfl rfl rfl;rw[←ez];exact b_o (ha.below hB) hai hj hk) ?_;refine .donep [some 17,some 18,some 19,some 20] ?_;intro w2 B2;rintro v ⟨s_,A_,n_,c_,rfl,hz,hk_⟩;change Shut (wpList _ _ _ [_] _ _);refine⟨?_⟩;simp only[Act.put,lS,lZ,lC];have I:=Ib.entry (b7.below B2);have P:=Lib.hid (retC hz I (k:=k) (by omega) (by omega) (zup HZ.out B2));obtain⟨i1,i2,i3,i4,i5⟩:=I;clear hz
   go_wp2_with fail
   exact bodyPost_ret (v:=.agg #[.bool s_,.slice A_ n_ c_]) (by simp[results,Tryz.results83,go_sem,i1,i2]) rfl P.out
  ·have u2:¬(i:Int)=(p:Int):=by omega
   rw[if_neg ht2]at ez;skip
   go_upto_region 6 with fail
   clear c2 c3;refine Run.start 4 ?_;refine .ld .o (ldM b4 0) ?_;refine .mv .o ?_;refine .mv .o ?_;refine .c3 (.i 0) (.i 1) (.i 2) (x:=kC z k) (by rintro u v x w3 hB rfl rfl rfl;rw[←ez];exact b_o (ha.below hB) hi hj hk) ?_;refine .donep [some 17,some 18,some 19,some 20] ?_;intro w2 B2;rintro v ⟨s_,A_,n_,c_,rfl,hz,hk_⟩;change Shut (wpList _ _ _ [_] _ _);refine⟨?_⟩;simp only[Act.put,lS,lZ,lC];have I:=Ib.entry (b7.below B2);have P:=Lib.hid (retC hz I (k:=k) (by omega) (by omega) (zup HZ.out B2));obtain⟨i1,i2,i3,i4,i5⟩:=I;clear hz
   go_wp2_with fail
   exact bodyPost_ret (v:=.agg #[.bool s_,.slice A_ n_ c_]) (by simp[results,Tryz.results83,go_sem,i1,i2]) rfl P.out
end
section
open Go.RowKit
theorem retNo {w w2:World}{B:Option Addr}{g m e':Nat}{x y e:Int}(b:Bx w2 g 24 [.int .i64 x,.int .i64 y,.slice B m e'])(hg:w.heap.size≤g)(hB:Below w.heap.size w w2):
  RetK (noM e) w (.returned (.tuple #[.agg #[.int .i64 0,.int .i64 0,.slice none 0 0],.int .i64 e])) (mput w2 g 0 0 none 0 0):=⟨_,rfl,rfl,a_c hB hg⟩
theorem argsC3 (i j a b c:Value):#[]++ #[i,j]++ #[a,b,c]= #[i,j,a,b,c]:=rfl
end
section
open Go.RowKit
def crw (b:Bool)(r:Int)(xs:List Int):Int:=if b=false then 2 else if xs.all (fun x=>decide (0≤x)&&decide (x<r))then 0 else 1
theorem q_n {w:World}{g n d k:Nat}(h:k<n):(Instr.indexAt 44 (.slice (some ⟨g,0,none⟩) n d) (.int .i64 (k:Int))).run Tryz.prog w= .ok (.pointer (some ⟨g,k,none⟩)) w:=by
 simp[go_sem,Tryz.underlying44,show Tryz.prog.cellsOf 3=1 by kernel_rfl];omega
theorem opIxI {g n d k:Nat}{X Y:Operand}(h:k<n)(w:World):RunTwo Tryz.prog (.indexAddr 44 X Y) w (.slice (some ⟨g,0,none⟩) n d) (.int .i64 (k:Int)) (.pointer (some ⟨g,k,none⟩)):=q_n h
theorem o_f {xs:List Int}{j:Nat}(h:j<xs.length):(ilist xs)[j]? =some (.int .i64 (xs.getD j 0)):=by simp[ilist,List.getD,h]
theorem j_z {xs:List Int}{p:Int→Bool}{j:Nat}(hj:j<xs.length)(h:p (xs.getD j 0)=false):xs.all p=false:=by
 rw[List.all_eq_false];exact⟨xs.getD j 0,by simp[List.getD,hj],by rw[h];simp⟩
theorem r_7 {xs:List Int}{p:Int→Bool}(h:∀j,j<xs.length→p (xs.getD j 0)=true):xs.all p=true:=by
 rw[List.all_eq_true];intro x hx;obtain⟨j,hj,e⟩:=List.mem_iff_getElem.1 hx
 have:=h j hj;simp[List.getD,hj]at this;rw[←e];exact this
theorem c_3 {r c:Int}{A:Option Addr}{n d g:Nat}{b:Bool}{xs:List Int}{e:Int}{w:World}(hb:fmd r c n=b)(hx:Bx w g 3 (ilist xs))(he:crw b r xs=e)(hl:xs.length≤4096):Calls Tryz.prog 82 #[.agg #[.int .i64 r,.int .i64 c,.slice A n d],.slice (some ⟨g,0,none⟩) xs.length xs.length] w (RetK (.k (.int .i64 e)) w):=by
 obtain⟨L,hL⟩:∃L,xs.length=L:=⟨_,rfl⟩;rw[hL]at hl ⊢;obtain⟨w1,hw1,b2,z1,s1⟩:=boxes1 w 24 [.int .i64 r,.int .i64 c,.slice A n d];have HW:=Lib.hid hw1;have HZ:=Lib.hid z1;have hb_:=Lib.hid hb;have he_:=Lib.hid he;have hL_:=Lib.hid hL;replace hx:=hx.below z1;clear hw1 z1 hb he hL s1;go_enter Tryz.func82,Tryz.ntmps82
 go_upto_region 1 with fail
 rw[HW.out];cases b
 ·refine Run.start 3 ?_;refine .ld .o (ldM b2 0) ?_;refine .c1 (.i 0) (x:=.k (.bool false)) (by rintro u w2 hB rfl;exact a_n hb_.out w2) ?_;refine .nf (.i 1) ?_;refine .donep [some 7,some 8,some 9] ?_;intro w2 B2;change Shut (wpList _ _ _ [] _ _);refine⟨?_⟩;simp only[Act.put,lS,lZ,lC];have e2:e=2:=by rw[←he_.out];rfl
  subst e2
  go_wp2_with fail
  exact bodyPost_ret (v:=.int .i64 2) (by simp[results,Tryz.results82,go_sem]) rfl (a_r rfl (zup HZ.out B2))
 ·refine Run.start 3 ?_;refine .ld .o (ldM b2 0) ?_;refine .c1 (.i 0) (x:=.k (.bool true)) (by rintro u w2 hB rfl;exact a_n hb_.out w2) ?_;refine .nt (.i 1) ?_;refine .donep [some 7,some 8,some 9] ?_;intro w2 B2;change Shut (wpList _ _ _ [] _ _);refine⟨?_⟩;simp only[Act.put,lS,lZ,lC];have HB:Hid (Below w.heap.size w w2∧Bx w2 w.heap.size 24 [.int .i64 r,.int .i64 c,.slice A n d]∧Bx w2 g 3 (ilist xs)∧∀j,j<0→(decide (0≤xs.getD j 0)&&decide (xs.getD j 0<r))=true):=Lib.hid ⟨zup HZ.out B2,b2.below B2,hx.below B2,fun j hj=>by omega⟩;clear b2 hx B2 HZ HW
  go_wp2_with fail
  go_loopw [12] (fun s12 wr=>∃j:Nat,s12= .int .i64 (j:Int)∧j≤L∧Hid (Below w.heap.size w wr∧Bx wr w.heap.size 24 [.int .i64 r,.int .i64 c,.slice A n d]∧Bx wr g 3 (ilist xs)∧∀i,i<j→(decide (0≤xs.getD i 0)&&decide (xs.getD i 0<r))=true)) (fun s12 _=>L - (intOf s12).toNat)
  case atStart=>exact⟨0,rfl,Nat.zero_le _,HB⟩
  case round=>
   clear HB;obtain⟨j,rfl,hj,HB⟩:=hrel;by_cases hlt:j<L
   ·have u1:(j:Int)<(L:Int):=by omega
    obtain⟨B0,b2,hx,hall⟩:=HB.out;obtain⟨x,hxj⟩:∃x,xs.getD j 0=x:=⟨_,rfl⟩;have hcell:=o_f (xs:=xs) (j:=j) (by rw[hL_.out];exact hlt);rw[hxj]at hcell;have HXJ:=Lib.hid hxj;have HA:=Lib.hid hall;clear HB hxj hall;go_upto_region 5 with fail
    refine Run.start 3 ?_;refine .two .o .o (opIxI hlt) ?_;refine .ld (.i 0) (ldInt hx j hcell) ?_;refine .mv (.i 1) ?_;refine .donep [some 14,some 15,some 6] ?_;intro w3 B3;change Shut (wpList _ _ _ [] _ _);refine⟨?_⟩;simp only[Act.put,lS,lZ,lC];replace b2:=b2.below B3;replace hx:=hx.below B3;replace B0:=zup B0 B3;clear B3 hcell;go_upto_region 6 with fail
    by_cases h0:x<0
    ·refine Run.start 8 ?_;refine .mv .o ?_;refine .two (.i 0) .o (opLt (decide_eq_true h0)) ?_;refine .mv (.i 1) ?_;refine .no ?_;refine .no ?_;refine .no ?_;refine .no ?_;refine .pk (.i 2) .o true ?_;refine .donep [some 16,some 17,some 18,some 19,some 20,some 21,some 22,some 23] ?_;intro w4 B4;change Shut (wpList _ _ _ [] _ _);refine⟨?_⟩;simp only[Act.put,lS,lZ,lC];have e1:e=1:=by
      rw[←he_.out,crw,if_neg (by simp),j_z (j:=j) (by rw[hL_.out];exact hlt) (by rw[HXJ.out];simp;omega)];rfl
     subst e1
     go_wp2_with fail
     exact bodyPost_ret (v:=.int .i64 1) (by simp[results,Tryz.results82,go_sem]) rfl (a_r rfl (zup B0 B4))
    ·by_cases h1:r≤x
     ·refine Run.start 8 ?_;refine .mv .o ?_;refine .two (.i 0) .o (opLt (decide_eq_false h0)) ?_;refine .mv (.i 1) ?_;refine .mv .o ?_;refine .fa .o (fM0 0) ?_;refine .ld (.i 4) (ldInt b2 0) ?_;refine .two (.i 3) (.i 5) (opGe (decide_eq_true h1)) ?_;refine .pk (.i 2) (.i 6) false ?_;refine .donep [some 16,some 17,some 18,some 19,some 20,some 21,some 22,some 23] ?_;intro w4 B4;change Shut (wpList _ _ _ [] _ _);refine⟨?_⟩;simp only[Act.put,lS,lZ,lC];have e1:e=1:=by
       rw[←he_.out,crw,if_neg (by simp),j_z (j:=j) (by rw[hL_.out];exact hlt) (by rw[HXJ.out];simp;omega)];rfl
      subst e1
      go_wp2_with fail
      exact bodyPost_ret (v:=.int .i64 1) (by simp[results,Tryz.results82,go_sem]) rfl (a_r rfl (zup B0 B4))
     ·refine Run.start 8 ?_;refine .mv .o ?_;refine .two (.i 0) .o (opLt (decide_eq_false h0)) ?_;refine .mv (.i 1) ?_;refine .mv .o ?_;refine .fa .o (fM0 0) ?_;refine .ld (.i 4) (ldInt b2 0) ?_;refine .two (.i 3) (.i 5) (opGe (decide_eq_false h1)) ?_;refine .pk (.i 2) (.i 6) false ?_;refine .donep [some 16,some 17,some 18,some 19,some 20,some 21,some 22,some 23] ?_;intro w4 B4;change Shut (wpList _ _ _ [] _ _);refine⟨?_⟩;simp only[Act.put,lS,lZ,lC];have HN:Hid (Below w.heap.size w w4∧Bx w4 w.heap.size 24 [.int .i64 r,.int .i64 c,.slice A n d]∧Bx w4 g 3 (ilist xs)∧∀i,i<j+1→(decide (0≤xs.getD i 0)&&decide (xs.getD i 0<r))=true):=Lib.hid ⟨zup B0 B4,b2.below B4,hx.below B4,fun i hi=>by
       rcases Nat.lt_or_ge i j with h|h
       ·exact HA.out i h
       ·rw[show i=j by omega,HXJ.out];simp;omega⟩
      clear b2 hx B0 B4 HA HXJ
      go_wp2_with fail
      go_roundw
      case rel=>exact⟨j+1,by go_num,by omega,HN⟩
      case measure=>first|(simp[intOf];done)|(simp[intOf];omega)
   ·obtain rfl:j=L:=by omega
    have u1:¬(j:Int)<(j:Int):=by omega
    obtain⟨B0,b2,hx,hall⟩:=HB.out;have e0:e=0:=by
     rw[←he_.out,crw,if_neg (by simp),if_pos];exact r_7 (fun i hi=>hall i (by rw[hL_.out]at hi;exact hi))
    subst e0;clear HB b2 hx hall
    go_wp2_with fail
    exact bodyPost_ret (v:=.int .i64 0) (by simp[results,Tryz.results82,go_sem]) rfl (a_r rfl B0)
theorem boxes4 (w:World)(T U V X:TypeId)(cs ds es fs:List Value):∃w1,(((w.alloc (.cells cs.toArray T)).alloc (.cells ds.toArray U)).alloc (.cells es.toArray V)).alloc (.cells fs.toArray X)=w1∧Bx w1 w.heap.size T cs∧Bx w1 (w.heap.size+1) U ds∧Bx w1 (w.heap.size+1+1) V es∧Bx w1 (w.heap.size+1+1+1) X fs∧Below w.heap.size w w1∧w1.heap.size=w.heap.size+1+1+1+1:=by
 obtain⟨w1,h1,a,b,c,hb,hs⟩:=boxes3 w T U V cs ds es;rw[h1];obtain⟨w2,h2,d,hb2,hs2⟩:=boxes1 w1 X fs;rw[hs]at d;exact⟨w2,h2,a.below hb2,b.below hb2,c.below hb2,d,zup hb hb2,by omega⟩
section
variable {ops:Array Oper}{Q:Exit→Act→World→Prop}{m i:Nat}{a0:Act}{w0:World}{l:List FK}{b:Bool}{id:Nat}
end
theorem p_n {r x y:Nat}(hx:x<r)(hy:y<r):crw true (r:Int) [(x:Int),(y:Int)]=0:=by unfold crw;rw[if_neg (by simp),if_pos];simp;omega
theorem l_u {q:Bool}{r c n d k i p:Nat}{A:Option Addr}{F:Nat→Nat→Int}{w:World}(ha:Mt q w r c A n d k F)(hi:i<r)(hp:p<r)(hk:k≤1099511627776):Calls Tryz.prog 46 #[.agg #[.int .i64 (r:Int),.int .i64 (c:Int),.slice A n d],.int .i64 (i:Int),.int .i64 (p:Int)] w (RetK (kT (kM true r c (k) (fun a j=>if a=i then F p j else if a=p then F i j else F a j)) (.k (.int .i64 0))) w):=by
 have h1:=ha.fmd;have h3:=ha.hr;have h4:=ha.hc;obtain⟨w1,hw1,b3,b4,b5,b6,z1,s1⟩:=boxes4 w 24 3 3 24 [.int .i64 (r:Int),.int .i64 (c:Int),.slice A n d] [.int .i64 (i:Int)] [.int .i64 (p:Int)] [.int .i64 0,.int .i64 0,.slice none 0 0];have HW:=Lib.hid hw1;have HZ:=Lib.hid z1;have h1_:=Lib.hid h1;clear hw1 z1 h1 s1;go_enter Tryz.func46,Tryz.ntmps46
 go_upto_region 1 with fail
 rw[HW.out];refine Run.start 6 ?_;refine .ld .o (ldM b3 0) ?_;refine .ld .o (ldInt b4 0) ?_;refine .ld .o (ldInt b5 0) ?_;refine .bsI2 (.i 1) (.i 2) (Nat.le_refl _) ?_;refine .c2 (.i 0) (.i 3) (x:=.k (.int .i64 0)) (by rintro u v w2 hB rfl ⟨g,rfl,hx,_⟩;exact c_3 h1_.out hx (p_n hi hp) (by simp)) ?_;refine .mv (.i 4) ?_;refine .donep [some 9,some 10,some 11,some 12,some 13,some 8] ?_;intro w2 B2;rintro v0 -;change Shut (wpList _ _ _ [] _ _);refine⟨?_⟩;simp only[Act.put,lS,lZ,lC];replace b3:=b3.below B2;replace b4:=b4.below B2;replace b5:=b5.below B2;replace b6:=b6.below B2;have HZ2:=Lib.hid (zup HZ.out B2);clear B2 HZ;go_upto_region 4 with fail
 refine Run.start 6 ?_;refine .fa .o (fM0 0) ?_;refine .ld (.i 0) (ldInt b3 0) ?_;refine .fa .o (fM1 1) ?_;refine .ld (.i 2) (ldInt b3 1) ?_;refine .fn [] [.o,.o,.o] [] [_,_,_] (trivial) (⟨rfl,rfl,rfl,trivial⟩) ?_;refine .c3 (.i 1) (.i 3) (.i 4) (x:=kM true r c k (fun a j=>if a=i then F p j else if a=p then F i j else F a j)) (by rintro u v x w4 hB rfl rfl rfl;exact e_z h3 h4 (by kernel_rfl) (fun a j W ha' hj hW=>by rw[argsC3];exact h_z ((b4.below hB).below hW) ((b5.below hB).below hW) ((b3.below hB).below hW) (ha.below (zup (zup HZ2.out hB) hW)) ha' hi hp hj hk)) ?_;refine .donep [some 18,some 19,some 20,some 21,some 22,some 23] ?_;intro w3 B3;rintro v ⟨A_,n_,d_,rfl,hM⟩;change Shut (wpList _ _ _ [_,_] _ _);refine⟨?_⟩;simp only[Act.put,lS,lZ,lC];have P:=Lib.hid (retME hM (b6.below B3) (by omega) (zup HZ2.out B3));unfold mput at P;obtain⟨i0,i1,i2,i3,i4,i5,i6⟩:=(b6.below B3).m3;clear hM
 go_wp2_with fail
 exact bodyPost_ret (v:=.tuple #[.agg #[.int .i64 (r:Int),.int .i64 (c:Int),.slice A_ n_ d_],.int .i64 0]) (by simp[results,Tryz.results46,go_sem,i0,i1,i2]) rfl P.out
end
end Go.Proofs.YtgohglhefhocgaaGreat
