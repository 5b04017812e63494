/- Pm34 -/
import Derived.Test.YtkgghhklbbfdiaaGreatPm33
import Derived.Deep.AppendLies
import Derived.RegionTactic
import Derived.BigRegion
set_option linter.unusedVariables false
set_option linter.unusedSimpArgs false
set_option linter.unusedSectionVars false
set_option maxRecDepth 100000
set_option maxHeartbeats 8000000
namespace Go.Proofs.YtkgghhklbbfdiaaGreat
section
open Go.RowKit
theorem a_y {r c:Int}{A:Option Addr}{n d:Nat}{b:Bool}(hb:fmd r c n=b)(w:World):Calls Tryz.prog 13 #[.agg #[.int .i64 r,.int .i64 c,.slice A n d]] w (RetK (.k (.bool b)) w):=by
 obtain⟨w1,hw1,b1,z1,s1⟩:=boxes1 w 24 [.int .i64 r,.int .i64 c,.slice A n d];have HW:=Lib.hid hw1;have HZ:=Lib.hid z1;have hb_:=Lib.hid hb;clear hw1 z1 hb s1;go_enter Tryz.func13,Tryz.ntmps13
 go_upto_region 1 with fail
 rw[HW.out];by_cases g5:0≤r
 rotate_left
 ·refine Run.start 30 ?_;refine .fa .o (fQ0 0) ?_;refine .ld (.i 0) (ldInt b1 0) ?_;refine .two (.i 1) .o (opGe (decide_eq_false g5)) ?_;refine .mv (.i 2) ?_;refine .no ?_;refine .no ?_;refine .no ?_;refine .pk (.i 3) .o false ?_;refine .mv (.i 7) ?_;refine .no ?_;refine .no ?_;refine .no ?_;refine .pk (.i 8) .o false ?_;refine .mv (.i 12) ?_;refine .no ?_;refine .no ?_;refine .no ?_;refine .pk (.i 13) .o false ?_;refine .mv (.i 17) ?_;refine .no ?_;refine .no ?_;refine .no ?_;refine .no ?_;refine .no ?_;refine .no ?_;refine .no ?_;refine .no ?_;refine .no ?_;refine .pk (.i 18) .o false ?_;refine .mv (.i 28) ?_;refine .donep [some 3,some 4,some 5,some 6,some 7,some 8,some 9,some 10,some 11,some 12,some 13,some 14,some 15,some 16,some 17,some 18,some 19,some 20,some 21,some 22,some 23,some 24,some 25,some 26,some 27,some 28,some 29,some 30,some 31,some 2] ?_;intro w2 B2;change Shut (wpList _ _ _ [] _ _);refine⟨?_⟩;simp only[Act.put,lS,lZ,lC];have e:b=false:=by rw[←hb_.out];unfold fmd sd;simp;omega
  subst e
  go_wp2_with fail
  exact bodyPost_ret (v:=.bool false) (by simp[results,Tryz.results13,go_sem]) rfl (a_9 rfl (zup HZ.out B2))
 ·skip
  by_cases g9:r≤64
  rotate_left
  ·refine Run.start 30 ?_;refine .fa .o (fQ0 0) ?_;refine .ld (.i 0) (ldInt b1 0) ?_;refine .two (.i 1) .o (opGe (decide_eq_true g5)) ?_;refine .mv (.i 2) ?_;refine .fa .o (fQ0 0) ?_;refine .ld (.i 4) (ldInt b1 0) ?_;refine .two (.i 5) .o (opLe (decide_eq_false g9)) ?_;refine .pk (.i 3) (.i 6) true ?_;refine .mv (.i 7) ?_;refine .no ?_;refine .no ?_;refine .no ?_;refine .pk (.i 8) .o false ?_;refine .mv (.i 12) ?_;refine .no ?_;refine .no ?_;refine .no ?_;refine .pk (.i 13) .o false ?_;refine .mv (.i 17) ?_;refine .no ?_;refine .no ?_;refine .no ?_;refine .no ?_;refine .no ?_;refine .no ?_;refine .no ?_;refine .no ?_;refine .no ?_;refine .pk (.i 18) .o false ?_;refine .mv (.i 28) ?_;refine .donep [some 3,some 4,some 5,some 6,some 7,some 8,some 9,some 10,some 11,some 12,some 13,some 14,some 15,some 16,some 17,some 18,some 19,some 20,some 21,some 22,some 23,some 24,some 25,some 26,some 27,some 28,some 29,some 30,some 31,some 2] ?_;intro w2 B2;change Shut (wpList _ _ _ [] _ _);refine⟨?_⟩;simp only[Act.put,lS,lZ,lC];have e:b=false:=by rw[←hb_.out];unfold fmd sd;simp;omega
   subst e
   go_wp2_with fail
   exact bodyPost_ret (v:=.bool false) (by simp[results,Tryz.results13,go_sem]) rfl (a_9 rfl (zup HZ.out B2))
  ·skip
   by_cases g14:0≤c
   rotate_left
   ·refine Run.start 30 ?_;refine .fa .o (fQ0 0) ?_;refine .ld (.i 0) (ldInt b1 0) ?_;refine .two (.i 1) .o (opGe (decide_eq_true g5)) ?_;refine .mv (.i 2) ?_;refine .fa .o (fQ0 0) ?_;refine .ld (.i 4) (ldInt b1 0) ?_;refine .two (.i 5) .o (opLe (decide_eq_true g9)) ?_;refine .pk (.i 3) (.i 6) true ?_;refine .mv (.i 7) ?_;refine .fa .o (fQ1 1) ?_;refine .ld (.i 9) (ldInt b1 1) ?_;refine .two (.i 10) .o (opGe (decide_eq_false g14)) ?_;refine .pk (.i 8) (.i 11) true ?_;refine .mv (.i 12) ?_;refine .no ?_;refine .no ?_;refine .no ?_;refine .pk (.i 13) .o false ?_;refine .mv (.i 17) ?_;refine .no ?_;refine .no ?_;refine .no ?_;refine .no ?_;refine .no ?_;refine .no ?_;refine .no ?_;refine .no ?_;refine .no ?_;refine .pk (.i 18) .o false ?_;refine .mv (.i 28) ?_;refine .donep [some 3,some 4,some 5,some 6,some 7,some 8,some 9,some 10,some 11,some 12,some 13,some 14,some 15,some 16,some 17,some 18,some 19,some 20,some 21,some 22,some 23,some 24,some 25,some 26,some 27,some 28,some 29,some 30,some 31,some 2] ?_;intro w2 B2;change Shut (wpList _ _ _ [] _ _);refine⟨?_⟩;simp only[Act.put,lS,lZ,lC];have e:b=false:=by rw[←hb_.out];unfold fmd sd;simp;omega
    subst e
    go_wp2_with fail
    exact bodyPost_ret (v:=.bool false) (by simp[results,Tryz.results13,go_sem]) rfl (a_9 rfl (zup HZ.out B2))
   ·skip
    by_cases g19:c≤64
    rotate_left
    ·refine Run.start 30 ?_;refine .fa .o (fQ0 0) ?_;refine .ld (.i 0) (ldInt b1 0) ?_;refine .two (.i 1) .o (opGe (decide_eq_true g5)) ?_;refine .mv (.i 2) ?_;refine .fa .o (fQ0 0) ?_;refine .ld (.i 4) (ldInt b1 0) ?_;refine .two (.i 5) .o (opLe (decide_eq_true g9)) ?_;refine .pk (.i 3) (.i 6) true ?_;refine .mv (.i 7) ?_;refine .fa .o (fQ1 1) ?_;refine .ld (.i 9) (ldInt b1 1) ?_;refine .two (.i 10) .o (opGe (decide_eq_true g14)) ?_;refine .pk (.i 8) (.i 11) true ?_;refine .mv (.i 12) ?_;refine .fa .o (fQ1 1) ?_;refine .ld (.i 14) (ldInt b1 1) ?_;refine .two (.i 15) .o (opLe (decide_eq_false g19)) ?_;refine .pk (.i 13) (.i 16) true ?_;refine .mv (.i 17) ?_;refine .no ?_;refine .no ?_;refine .no ?_;refine .no ?_;refine .no ?_;refine .no ?_;refine .no ?_;refine .no ?_;refine .no ?_;refine .pk (.i 18) .o false ?_;refine .mv (.i 28) ?_;refine .donep [some 3,some 4,some 5,some 6,some 7,some 8,some 9,some 10,some 11,some 12,some 13,some 14,some 15,some 16,some 17,some 18,some 19,some 20,some 21,some 22,some 23,some 24,some 25,some 26,some 27,some 28,some 29,some 30,some 31,some 2] ?_;intro w2 B2;change Shut (wpList _ _ _ [] _ _);refine⟨?_⟩;simp only[Act.put,lS,lZ,lC];have e:b=false:=by rw[←hb_.out];unfold fmd sd;simp;omega
     subst e
     go_wp2_with fail
     exact bodyPost_ret (v:=.bool false) (by simp[results,Tryz.results13,go_sem]) rfl (a_9 rfl (zup HZ.out B2))
    ·skip
     refine Run.start 30 ?_;refine .fa .o (fQ0 0) ?_;refine .ld (.i 0) (ldInt b1 0) ?_;refine .two (.i 1) .o (opGe (decide_eq_true g5)) ?_;refine .mv (.i 2) ?_;refine .fa .o (fQ0 0) ?_;refine .ld (.i 4) (ldInt b1 0) ?_;refine .two (.i 5) .o (opLe (decide_eq_true g9)) ?_;refine .pk (.i 3) (.i 6) true ?_;refine .mv (.i 7) ?_;refine .fa .o (fQ1 1) ?_;refine .ld (.i 9) (ldInt b1 1) ?_;refine .two (.i 10) .o (opGe (decide_eq_true g14)) ?_;refine .pk (.i 8) (.i 11) true ?_;refine .mv (.i 12) ?_;refine .fa .o (fQ1 1) ?_;refine .ld (.i 14) (ldInt b1 1) ?_;refine .two (.i 15) .o (opLe (decide_eq_true g19)) ?_;refine .pk (.i 13) (.i 16) true ?_;refine .mv (.i 17) ?_;refine .fa .o (fQ2 2) ?_;refine .ld (.i 19) (ldQl b1 2) ?_;refine .len (.i 20) Tryz.underlying22 ?_;refine .fa .o (fQ0 0) ?_;refine .ld (.i 22) (ldInt b1 0) ?_;refine .fa .o (fQ1 1) ?_;refine .ld (.i 24) (ldInt b1 1) ?_;refine .two (.i 23) (.i 25) (opMul rfl (o_4 (by unfold sd;exact decide_eq_true ⟨g5,g9⟩) (by unfold sd;exact decide_eq_true ⟨g14,g19⟩)).1 (o_4 (by unfold sd;exact decide_eq_true ⟨g5,g9⟩) (by unfold sd;exact decide_eq_true ⟨g14,g19⟩)).2) ?_;refine .two (.i 21) (.i 26) (opEq rfl) ?_;refine .pk (.i 18) (.i 27) true ?_;refine .mv (.i 28) ?_;refine .donep [some 3,some 4,some 5,some 6,some 7,some 8,some 9,some 10,some 11,some 12,some 13,some 14,some 15,some 16,some 17,some 18,some 19,some 20,some 21,some 22,some 23,some 24,some 25,some 26,some 27,some 28,some 29,some 30,some 31,some 2] ?_;intro w2 B2;change Shut (wpList _ _ _ [] _ _);refine⟨?_⟩;simp only[Act.put,lS,lZ,lC];have e:decide ((n:Int)=r*c)=b:=by rw[←hb_.out];unfold fmd sd;simp[g5,g9,g14,g19]
     rw[e];clear e
     go_wp2_with fail
     exact bodyPost_ret (v:=.bool b) (by simp[results,Tryz.results13,go_sem]) rfl (a_9 rfl (zup HZ.out B2))
theorem c_s (w:World):Calls Tryz.prog 14 #[.agg #[.int .i64 0,.int .i64 0,.slice none 0 0]] w (RetK (.k (.bool true)) w):=by
 obtain⟨w1,hw1,b1,z1,s1⟩:=boxes1 w 24 [.int .i64 0,.int .i64 0,.slice none 0 0];have HW:=Lib.hid hw1;have HZ:=Lib.hid z1;clear hw1 z1 s1;go_enter Tryz.func14,Tryz.ntmps14
 go_upto_region 1 with fail
 rw[HW.out];refine Run.start 15 ?_;refine .fa .o (fQ0 0) ?_;refine .ld (.i 0) (ldInt b1 0) ?_;refine .two (.i 1) .o (opEq (by decide:decide ((0:Int)=0)=true)) ?_;refine .mv (.i 2) ?_;refine .fa .o (fQ1 1) ?_;refine .ld (.i 4) (ldInt b1 1) ?_;refine .two (.i 5) .o (opEq (by decide:decide ((0:Int)=0)=true)) ?_;refine .pk (.i 3) (.i 6) true ?_;refine .mv (.i 7) ?_;refine .fa .o (fQ2 2) ?_;refine .ld (.i 9) (ldQl b1 2) ?_;refine .len (.i 10) Tryz.underlying22 ?_;refine .two (.i 11) .o (opEq (by decide:decide (((0:Nat):Int)=0)=true)) ?_;refine .pk (.i 8) (.i 12) true ?_;refine .mv (.i 13) ?_;refine .donep [some 3,some 4,some 5,some 6,some 7,some 8,some 9,some 10,some 11,some 12,some 13,some 14,some 15,some 16,some 2] ?_;intro w2 B2;change Shut (wpList _ _ _ [] _ _);refine⟨?_⟩;simp only[Act.put,lS,lZ,lC]
 go_wp2_with fail
 exact bodyPost_ret (v:=.bool true) (by simp[results,Tryz.results14,go_sem]) rfl (a_9 rfl (zup HZ.out B2))
theorem c_4 {q:Bool}{r c n d k i j:Nat}{A:Option Addr}{F:Nat→Nat→Rat}{w:World}(h:Mq q w r c A n d k F)(hi:i<r)(hj:j<c):Calls Tryz.prog 28 #[.agg #[.int .i64 (r:Int),.int .i64 (c:Int),.slice A n d],.int .i64 (i:Int),.int .i64 (j:Int)] w (RetK (kQv (F i j) k) w):=by
 have h1:=h.hr;have h2:=h.hc;have h5:i*c≤64*64:=Nat.mul_le_mul (by omega) h2;obtain⟨w1,hw1,b3,b6,z1,s1⟩:=boxes2 w 24 46 [.int .i64 (r:Int),.int .i64 (c:Int),.slice A n d] [.bool false,.slice none 0 0,.bool false,.slice none 0 0];have HW:=Lib.hid hw1;have HZ:=Lib.hid z1;obtain⟨ad,rfl,hab,hlt,s_,A_,n_,c_,t_,B_,m_,d_,c0,c1,c2,c3,ze,hk,hk2⟩:=(h.below z1).elem hi hj;have hz:=ze.1;clear ze h;clear hw1 z1 s1;go_enter Tryz.func28,Tryz.ntmps28
 go_upto_region 1 with fail
 rw[HW.out];refine Run.start 10 ?_;refine .fa .o (fQ2 2) ?_;refine .ld (.i 0) (ldQl b3 2) ?_;refine .mv .o ?_;refine .fa .o (fQ1 1) ?_;refine .ld (.i 3) (ldInt b3 1) ?_;refine .two (.i 2) (.i 4) (opMulN i c (by omega)) ?_;refine .mv .o ?_;refine .two (.i 5) (.i 6) (opAddN (i*c) j (by omega)) ?_;refine .two (.i 1) (.i 7) (opIxQ hlt) ?_;refine .ld (.i 8) (ldQ (by rw[a_b];exact hab) c0 c1 c2 c3) ?_;refine .donep [some 7,some 8,some 9,some 10,some 11,some 12,some 13,some 14,some 15,some 16] ?_;intro w2 B2;change Shut (wpList _ _ _ [_] _ _);refine⟨?_⟩;simp only[Act.put,lS,lZ,lC];replace hz:=hz.below B2;clear c0 c1 c2 c3;have I:=(b6.below B2).rb;have P:=Lib.hid (retQv hz I (k:=k) hk hk2 (by omega) (zup HZ.out B2));unfold rput at P;obtain⟨i1,i2,i3,i4,i5,i6,i7,i8,i9⟩:=I;clear hz
 go_wp2_with fail
 exact bodyPost_ret (v:=.agg #[.bool s_,.slice A_ n_ c_,.bool t_,.slice B_ m_ d_]) (by simp[results,Tryz.results28,go_sem,i1,i2,i3,i4]) rfl P.out
end
section
open Go.RowKit
theorem d_5 {r c n d k:Nat}{A:Option Addr}{F:Nat→Nat→Rat}{w:World}(ha:Mq true w r c A n d k F)(hk:k≤1073741824):Calls Tryz.prog 15 #[.agg #[.int .i64 (r:Int),.int .i64 (c:Int),.slice A n d]] w (RetK (.k (.bool true)) w):=by
 have h1:=ha.fmd;have hn:=ha.len;have hnd:=ha.ql.le;have hdm:=ha.ql.cap;have HX:=Lib.hid ha;have HN:=Lib.hid hn;clear hn;obtain⟨w1,hw1,b1,z1,s1⟩:=boxes1 w 24 [.int .i64 (r:Int),.int .i64 (c:Int),.slice A n d];have HW:=Lib.hid hw1;have HZ:=Lib.hid z1;have h1_:=Lib.hid h1;clear hw1 z1 h1 ha;go_enter Tryz.func15,Tryz.ntmps15
 go_upto_region 1 with fail
 rw[HW.out];have HB:Hid (Below w.heap.size w w1∧Bx w1 (w.heap.size) 24 [.int .i64 (r:Int),.int .i64 (c:Int),.slice A n d]):=Lib.hid ⟨HZ.out,b1⟩;clear b1 HW HZ s1
 go_wp2_with fail
 go_loopw [3] (fun s3 wr=>∃j:Nat,s3= .int .i64 (j:Int)∧j≤n∧Hid (Below w.heap.size w wr∧Bx wr (w.heap.size) 24 [.int .i64 (r:Int),.int .i64 (c:Int),.slice A n d])) (fun s3 _=>n - (intOf s3).toNat)
 case atStart=>exact⟨0,rfl,Nat.zero_le _,HB⟩
 case round=>
  clear HB;obtain⟨j,rfl,hj,HB⟩:=hrel;obtain⟨B0,b1⟩:=HB.out;clear HB;have i2:=b1.cell 2;simp only[List.getElem?_cons_succ,List.getElem?_cons_zero]at i2;by_cases hlt:j<n
  ·have u2:(j:Int)<(n:Int):=by omega
   obtain⟨ad,rfl,hab,hA⟩:=(HX.out.ql.below B0).at hlt;obtain⟨s_,A_,n_,c_,t_,B_,m_,d_,e0,e1,e2,e3,ze,hk1,hk2⟩:=hA;go_upto_region 4 with fail
   clear i2;refine Run.start 7 ?_;refine .fa .o (fQ2 2) ?_;refine .ld (.i 0) (ldQl b1 2) ?_;refine .mv .o ?_;refine .two (.i 1) (.i 2) (opIxQ hlt) ?_;refine .ld (.i 3) (ldQ (by rw[a_b];exact hab) e0 e1 e2 e3) ?_;refine .c1 (.i 4) (x:=.k (.bool true)) (by rintro u w2 hB rfl;exact(p_t ((ze.2 rfl).below hB) (by omega) (by omega)).mono fun e w' h=>⟨_,h.1,rfl,h.2⟩) ?_;refine .nt (.i 5) ?_;refine .donep [some 11,some 12,some 13,some 14,some 15,some 16,some 17] ?_;intro w2 B2;change Shut (wpList _ _ _ [] _ _);refine⟨?_⟩;simp only[Act.put,lS,lZ,lC];have HN2:Hid (Below w.heap.size w w2∧Bx w2 (w.heap.size) 24 [.int .i64 (r:Int),.int .i64 (c:Int),.slice (some ad) n d]):=Lib.hid ⟨zup B0 B2,b1.below B2⟩;clear b1 B0 B2 e0 e1 e2 e3 ze
   go_wp2_with fail
   go_roundw
   case rel=>exact⟨j+1,by go_num,by omega,HN2⟩
   case measure=>first|(simp[intOf];done)|(simp[intOf];omega)
  ·obtain rfl:j=n:=by omega
   have u2:¬(j:Int)<(j:Int):=by omega
   go_upto_region 6 with fail
   clear i2;refine Run.start 3 ?_;refine .ld .o (ldQm b1 0) ?_;refine .c1 (.i 0) (x:=.k (.bool true)) (by rintro u w2 hB rfl;exact a_y h1_.out w2) ?_;refine .mv (.i 1) ?_;refine .donep [some 18,some 19,some 2] ?_;intro w2 B2;change Shut (wpList _ _ _ [] _ _);refine⟨?_⟩;simp only[Act.put,lS,lZ,lC]
   go_wp2_with fail
   exact bodyPost_ret (v:=.bool true) (by simp[results,Tryz.results15,go_sem]) rfl (a_9 rfl (zup B0 B2))
end
section
open Go.RowKit
def EL (q:Bool)(w:World)(k:Nat)(vs:List Value)(xs:List Rat):Prop:=vs.length=xs.length*4∧∀j,j<xs.length→∃s A n c t B m d,vs[j*4]? =some (.bool s)∧vs[j*4+1]? =some (.slice A n c)∧vs[j*4+2]? =some (.bool t)∧vs[j*4+3]? =some (.slice B m d)∧Qe q w s A n c t B m d (rth xs j)∧n≤k∧m≤k
end
section
open Go.RowKit Go.Shelf
def IsSl (b R C S k:Nat)(F G:Nat→Nat→Rat):FVal:=fun v w=>∃X:RT.Mx Rat,IsMw b C S k X v w∧(∀i l,i<R→l<S→RT.mul C F X i l=G i l)∧∀a l,¬a∈RT.rdP R C F→X a l=0
def kSl (b R C S k:Nat)(F G:Nat→Nat→Rat):FK:=.f (IsSl b R C S k F G) (fun v w w' ⟨X,h,h2⟩ hb=>⟨X,(kMw b C S k X).stays _ _ _ h hb,h2⟩)
def Solv (R C S:Nat)(F G:Nat→Nat→Rat):Prop:=∃Y:RT.Mx Rat,∀i l,i<R→l<S→RT.mul C F Y i l=G i l
theorem m_1 {R C S:Nat}{F G:Nat→Nat→Rat}{s:Bool}{Gm:DT.Mx}{ps:List Nat}{M:DT.Mx}{hh:Int}{X:Nat→Nat→Int}(hr:DT.Red R (C+S) C (qwr R C F G) s Gm ps M hh)(hX:DT.Cols (C+S) Gm M ps hh X):((List.range (R - ps.length)).any fun j=>(List.range (C+S)).any fun i=>decide (M (ps.length+j) i≠0))=true↔¬Solv R C S F G:=by
 constructor
 ·intro h ⟨Y,hY⟩;rw[List.any_eq_true]at h;obtain⟨j,hj,h⟩:=h;rw[List.any_eq_true]at h;obtain⟨i,hi,h⟩:=h;have hne:=of_decide_eq_true h;have hj:=List.mem_range.1 hj;have hi:=List.mem_range.1 hi;by_cases hc:i<C
  ·exact hne (hr.zero _ i (by omega) (by omega) hc)
  ·obtain⟨l,rfl⟩:∃l,i=C+l:=⟨i - C,by omega⟩;exact RT.never hr (fun i _=>f_t (F i) C) (fun l _=>t_0 (R:=R) (C:=C) (F:=F) (G:=G) l) (by omega) (by omega) (by omega) hne (fun i j _ hj=>qF hj) (fun i l hi _=>qG hi) Y hY
 ·intro h;refine Classical.byContradiction fun h2=>h ⟨_,fun i l hi hl=>RT.solves (c:=fun i=>pct (F i) C) (d:=qdc R C F G) hr hX (fun i k h3 h4 h5=>?_) (fun i j _ hj=>qF hj) (fun i l hi _=>qG hi) hi hl⟩;refine Classical.byContradiction fun h6=>h2 ?_;rw[List.any_eq_true];refine⟨i - ps.length,List.mem_range.2 (by omega), ?_⟩;rw[List.any_eq_true];exact⟨C+k,List.mem_range.2 (by omega),decide_eq_true (by rw[show ps.length+(i - ps.length)=i by omega];exact h6)⟩
theorem j_5 {q q':Bool}{R C S n d n' d' k KF:Nat}{A A':Option Addr}{F G:Nat→Nat→Rat}{w:World}(ha:Mq q w R C A n d k F)(hb:Mq q' w R S A' n' d' k G)(hs:¬Solv R C S F G)(hk0:1≤k)(hK:kb (kq1 R C k) R≤549755813888)(hKF:kqf R C k≤KF)(hKF2:KF≤1073741824):Calls Tryz.prog 24 #[.agg #[.int .i64 (R:Int),.int .i64 (C:Int),.slice A n d],.agg #[.int .i64 (R:Int),.int .i64 (S:Int),.slice A' n' d']] w (RetK (noM 10) w):=by
 have hR:=ha.hr;have hC:=ha.hc;have h1:=ha.fmd;obtain⟨Kx,hKx⟩:∃Kx,kb (kq1 R C k) (min R C)=Kx:=⟨_,rfl⟩;have hk1:kq1 R C k≤Kx:=by rw[←hKx];exact s_s
 obtain⟨K3,hK3⟩:∃K3,pc R (2*pc C k)=K3:=⟨_,rfl⟩;obtain⟨K1,hK1⟩:∃K1,kq1 R C k=K1:=⟨_,rfl⟩;have hf2:(R+2)*(Kx+R)+K3+Kx+1≤KF:=by unfold kqf at hKF;rw[hKx,hK3]at hKF;exact hKF
 have hb1:Kx+R≤(R+2)*(Kx+R):=Nat.le_mul_of_pos_left _ (by omega);rw[hK1]at hk1 hK hKx;have hK1b:K1≤1073741824:=by omega
 have hkf1:1≤KF:=by omega
 have hKxF:Kx≤KF:=by omega
 have hKS:Hid (pk C k+pk R (2*pc C k)=K1):=Lib.hid hK1;have HF2:=Lib.hid hf2;have HA:=Lib.hid ha;have h1':(fmd (R:Int) (C:Int) n&&fmd (R:Int) (S:Int) n')=true:=by rw[h1,hb.fmd];rfl
 have hS:=hb.hc;have HB_:=Lib.hid hb;obtain⟨w1,hw1,b2,b3,b4,z1,s1⟩:=boxes3 w 24 24 24 [.int .i64 (R:Int),.int .i64 (C:Int),.slice A n d] [.int .i64 (R:Int),.int .i64 (S:Int),.slice A' n' d'] [.int .i64 0,.int .i64 0,.slice none 0 0];have HW:=Lib.hid hw1;have HZ:=Lib.hid z1;have h1'_:=Lib.hid h1';have hK3_:=Lib.hid hK3;have hKx_:=Lib.hid hKx;clear hw1 z1 h1' hK3 hKx s1 hK1 ha hb hKF hf2 hb1 h1;go_enter Tryz.func24,Tryz.ntmps24
 go_upto_region 1 with fail
 rw[HW.out];refine Run.start 11 ?_;refine .ld .o (ldQm b2 0) ?_;refine .ld .o (ldQm b3 0) ?_;refine .c2 (.i 0) (.i 1) (x:=.k (.bool true)) (by rintro u v w2 hB rfl rfl;exact g_z h1'_.out w2) ?_;refine .nt (.i 2) ?_;refine .mv (.i 3) ?_;refine .fa .o (fQ0 0) ?_;refine .ld (.i 5) (ldInt b2 0) ?_;refine .fa .o (fQ0 0) ?_;refine .ld (.i 7) (ldInt b3 0) ?_;refine .two (.i 6) (.i 8) (opNe (by simp:decide ((R:Int)≠(R:Int))=false)) ?_;refine .pk (.i 4) (.i 9) false ?_;refine .donep [some 11,some 12,some 13,some 14,some 15,some 16,some 17,some 18,some 19,some 20,some 21] ?_;intro w2 B2;change Shut (wpList _ _ _ [] _ _);refine⟨?_⟩;simp only[Act.put,lS,lZ,lC];have B0:=zup HZ.out B2;replace b2:=b2.below B2;replace b3:=b3.below B2;replace b4:=b4.below B2;have hl4:=b4.lt;clear B2 HZ;go_upto_region 3 with fail
 refine Run.start 4 ?_;refine .ld .o (ldQm b2 0) ?_;refine .ld .o (ldQm b3 0) ?_;refine .c2 (.i 0) (.i 1) (x:=kRq w2.heap.size R C S K1 K3 F G) (by rintro u v w4 hB rfl rfl;exact(m_u (HA.out.below (zup B0 hB)) (HB_.out.below (zup B0 hB)) hk0 rfl rfl rfl hK3_.out rfl hKS.out hK hK1b).mono fun e w' h=>h.k.mono fun v w2 ⟨g,A,c,e,h1⟩=>⟨g,A,c,e,h1.low hB.size⟩) ?_;refine .mf (.i 2) ?_;refine .donep [some 23,some 24,some 25,some 6] ?_;intro w3 B3;rintro v25 -;rintro v6 ⟨g,Aq,cq,rfl,hrs⟩;change Shut (wpList _ _ _ [] _ _);refine⟨?_⟩;simp only[Act.put,lS,lZ,lC];replace B0:=zup B0 B3;replace b2:=b2.below B3;replace b3:=b3.below B3;replace b4:=b4.below B3;clear B3;obtain⟨s,Gm,ps,M,hh,X,H,vp,sa,A1,n1,c1,rows,hr,hX,hnR,hnC,r⟩:=m_s hrs hKx_.out;obtain⟨Ap,cp,rfl⟩:=r.vpf;have bx:=r.bx;have HR:=Lib.hid r;have HRD:=Lib.hid hr;have HXC:=Lib.hid hX;obtain⟨np,hnp⟩:∃np,ps.length=np:=⟨_,rfl⟩;rw[hnp]at hnR hnC bx;have HNP:=Lib.hid hnp;obtain⟨nys,hnys⟩:∃nys,(qcs R C S F G).length=nys:=⟨_,rfl⟩;change Bx w3 g 84 [.slice (some ⟨H,0,none⟩) R R,.slice Ap np cp,.bool sa,.slice A1 n1 c1,.bool s,.slice Aq (qcs R C S F G).length cq]at bx;rw[hnys]at bx;clear hrs r hr hX hnp hnys;obtain⟨pl,hpl⟩:∃pl,((List.range (R - ps.length)).any fun j=>(List.range (C+S)).any fun i=>decide (M (ps.length+j) i≠0))=pl:=⟨_,rfl⟩;have HPL:=Lib.hid hpl;have hple:pl=true:=by
  have h:=m_1 HRD.out HXC.out;rw[hpl]at h;rcases pl with _|_<;>simp_all
 subst hple;clear hpl;go_upto_region 4 with fail
 refine Run.start 2 ?_;refine .mv .o ?_;refine .c1 (.i 0) (x:=.k (.bool true)) (by rintro u w4 hB rfl;have h:=u_a (HR.out.below hB) (by rw[HNP.out];omega) hR (by omega) (by omega);rw[HPL.out]at h;exact h) ?_;refine .donep [some 26,some 27] ?_;intro w4 B4;change Shut (wpList _ _ _ [] _ _);refine⟨?_⟩;simp only[Act.put,lS,lZ,lC];replace B0:=zup B0 B4;replace b2:=b2.below B4;replace b3:=b3.below B4;replace b4:=b4.below B4;replace bx:=bx.below B4;replace HR:=Lib.hid (HR.out.below B4);have B5:=Below.refl w4.heap.size w4;have P:=Lib.hid (retNoT (e':=10) (b4.below B5) (by omega) (zup B0 B5));unfold mput at P;obtain⟨i0,i1,i2,i3,i4,i5,i6⟩:=(b4.below B5).m3
 go_wp2_with fail
 exact bodyPost_ret (v:=.tuple #[.agg #[.int .i64 0,.int .i64 0,.slice none 0 0],.int .i64 10]) (by simp[results,Tryz.results24,go_sem,i0,i1,i2]) rfl P.out
theorem m_t {q q':Bool}{R C S n d n' d' k KF:Nat}{A A':Option Addr}{F G:Nat→Nat→Rat}{w:World}(ha:Mq q w R C A n d k F)(hb:Mq q' w R S A' n' d' k G)(hs:Solv R C S F G)(hk0:1≤k)(hK:kb (kq1 R C k) R≤549755813888)(hKF:kqf R C k≤KF)(hKF2:KF≤1073741824):Calls Tryz.prog 24 #[.agg #[.int .i64 (R:Int),.int .i64 (C:Int),.slice A n d],.agg #[.int .i64 (R:Int),.int .i64 (S:Int),.slice A' n' d']] w (RetK (kT (kSl w.heap.size R C S KF F G) (.k (.int .i64 0))) w):=by
 have hR:=ha.hr;have hC:=ha.hc;have h1:=ha.fmd;obtain⟨Kx,hKx⟩:∃Kx,kb (kq1 R C k) (min R C)=Kx:=⟨_,rfl⟩;have hk1:kq1 R C k≤Kx:=by rw[←hKx];exact s_s
 obtain⟨K3,hK3⟩:∃K3,pc R (2*pc C k)=K3:=⟨_,rfl⟩;obtain⟨K1,hK1⟩:∃K1,kq1 R C k=K1:=⟨_,rfl⟩;have hf2:(R+2)*(Kx+R)+K3+Kx+1≤KF:=by unfold kqf at hKF;rw[hKx,hK3]at hKF;exact hKF
 have hb1:Kx+R≤(R+2)*(Kx+R):=Nat.le_mul_of_pos_left _ (by omega);rw[hK1]at hk1 hK hKx;have hK1b:K1≤1073741824:=by omega
 have hkf1:1≤KF:=by omega
 have hKxF:Kx≤KF:=by omega
 have hKS:Hid (pk C k+pk R (2*pc C k)=K1):=Lib.hid hK1;have HF2:=Lib.hid hf2;have HA:=Lib.hid ha;have h1':(fmd (R:Int) (C:Int) n&&fmd (R:Int) (S:Int) n')=true:=by rw[h1,hb.fmd];rfl
 have hS:=hb.hc;have HB_:=Lib.hid hb;obtain⟨w1,hw1,b2,b3,b4,z1,s1⟩:=boxes3 w 24 24 24 [.int .i64 (R:Int),.int .i64 (C:Int),.slice A n d] [.int .i64 (R:Int),.int .i64 (S:Int),.slice A' n' d'] [.int .i64 0,.int .i64 0,.slice none 0 0];have HW:=Lib.hid hw1;have HZ:=Lib.hid z1;have h1'_:=Lib.hid h1';have hK3_:=Lib.hid hK3;have hKx_:=Lib.hid hKx;clear hw1 z1 h1' hK3 hKx s1 hK1 ha hb hKF hf2 hb1 h1;go_enter Tryz.func24,Tryz.ntmps24
 go_upto_region 1 with fail
 rw[HW.out];refine Run.start 11 ?_;refine .ld .o (ldQm b2 0) ?_;refine .ld .o (ldQm b3 0) ?_;refine .c2 (.i 0) (.i 1) (x:=.k (.bool true)) (by rintro u v w2 hB rfl rfl;exact g_z h1'_.out w2) ?_;refine .nt (.i 2) ?_;refine .mv (.i 3) ?_;refine .fa .o (fQ0 0) ?_;refine .ld (.i 5) (ldInt b2 0) ?_;refine .fa .o (fQ0 0) ?_;refine .ld (.i 7) (ldInt b3 0) ?_;refine .two (.i 6) (.i 8) (opNe (by simp:decide ((R:Int)≠(R:Int))=false)) ?_;refine .pk (.i 4) (.i 9) false ?_;refine .donep [some 11,some 12,some 13,some 14,some 15,some 16,some 17,some 18,some 19,some 20,some 21] ?_;intro w2 B2;change Shut (wpList _ _ _ [] _ _);refine⟨?_⟩;simp only[Act.put,lS,lZ,lC];have B0:=zup HZ.out B2;replace b2:=b2.below B2;replace b3:=b3.below B2;replace b4:=b4.below B2;have hl4:=b4.lt;clear B2 HZ;go_upto_region 3 with fail
 refine Run.start 4 ?_;refine .ld .o (ldQm b2 0) ?_;refine .ld .o (ldQm b3 0) ?_;refine .c2 (.i 0) (.i 1) (x:=kRq w2.heap.size R C S K1 K3 F G) (by rintro u v w4 hB rfl rfl;exact(m_u (HA.out.below (zup B0 hB)) (HB_.out.below (zup B0 hB)) hk0 rfl rfl rfl hK3_.out rfl hKS.out hK hK1b).mono fun e w' h=>h.k.mono fun v w2 ⟨g,A,c,e,h1⟩=>⟨g,A,c,e,h1.low hB.size⟩) ?_;refine .mf (.i 2) ?_;refine .donep [some 23,some 24,some 25,some 6] ?_;intro w3 B3;rintro v25 -;rintro v6 ⟨g,Aq,cq,rfl,hrs⟩;change Shut (wpList _ _ _ [] _ _);refine⟨?_⟩;simp only[Act.put,lS,lZ,lC];replace B0:=zup B0 B3;replace b2:=b2.below B3;replace b3:=b3.below B3;replace b4:=b4.below B3;clear B3;obtain⟨s,Gm,ps,M,hh,X,H,vp,sa,A1,n1,c1,rows,hr,hX,hnR,hnC,r⟩:=m_s hrs hKx_.out;obtain⟨Ap,cp,rfl⟩:=r.vpf;have bx:=r.bx;have HR:=Lib.hid r;have HRD:=Lib.hid hr;have HXC:=Lib.hid hX;obtain⟨np,hnp⟩:∃np,ps.length=np:=⟨_,rfl⟩;rw[hnp]at hnR hnC bx;have HNP:=Lib.hid hnp;obtain⟨nys,hnys⟩:∃nys,(qcs R C S F G).length=nys:=⟨_,rfl⟩;change Bx w3 g 84 [.slice (some ⟨H,0,none⟩) R R,.slice Ap np cp,.bool sa,.slice A1 n1 c1,.bool s,.slice Aq (qcs R C S F G).length cq]at bx;rw[hnys]at bx;clear hrs r hr hX hnp hnys;obtain⟨pl,hpl⟩:∃pl,((List.range (R - ps.length)).any fun j=>(List.range (C+S)).any fun i=>decide (M (ps.length+j) i≠0))=pl:=⟨_,rfl⟩;have HPL:=Lib.hid hpl;have hple:pl=false:=by
  have h:=m_1 HRD.out HXC.out;rw[hpl]at h;rcases pl with _|_<;>simp_all
 subst hple;clear hpl;go_upto_region 4 with fail
 refine Run.start 2 ?_;refine .mv .o ?_;refine .c1 (.i 0) (x:=.k (.bool false)) (by rintro u w4 hB rfl;have h:=u_a (HR.out.below hB) (by rw[HNP.out];omega) hR (by omega) (by omega);rw[HPL.out]at h;exact h) ?_;refine .donep [some 26,some 27] ?_;intro w4 B4;change Shut (wpList _ _ _ [] _ _);refine⟨?_⟩;simp only[Act.put,lS,lZ,lC];replace B0:=zup B0 B4;replace b2:=b2.below B4;replace b3:=b3.below B4;replace b4:=b4.below B4;replace bx:=bx.below B4;replace HR:=Lib.hid (HR.out.below B4);go_upto_region 6 with fail
 clear B4;refine Run.start 6 ?_;refine .fa .o (fQ1 1) ?_;refine .ld (.i 0) (ldInt b2 1) ?_;refine .fa .o (fQ1 1) ?_;refine .ld (.i 2) (ldInt b3 1) ?_;refine .c2 (.i 1) (.i 3) (x:=kMw w4.heap.size C S 1 fun _ _=>0) (by rintro u v w9 hB rfl rfl;exact(v_2 hC hS).mono fun e w' h=>h.mono fun v w2 ⟨A,n,d,e,h1⟩=>⟨A,n,d,e,h1.low hB.size⟩) ?_;refine .al ?_;refine .donep [some 29,some 30,some 31,some 32,some 33,some 7] ?_;intro w5 B5;rintro v ⟨A_,n_,d_,rfl,hM⟩;rintro g7 hg7 hl7 hc7 -;change Shut (wpList _ _ _ [_] _ _);refine⟨?_⟩;simp only[Act.put,lS,lZ,lC];obtain⟨gO,rfl,rfl,rfl,hO,hgO,-,-⟩:=hM;have b7:=zeroMq hc7;have neO:gO≠g7:=p_m hO b7 (by decide);have l_b2:=b2.lt;replace b2:=b2.below B5;have l_b3:=b3.lt;replace b3:=b3.below B5;have l_b4:=b4.lt;replace b4:=b4.below B5;have lbx:=bx.lt;replace bx:=bx.below B5;have hgr_:=a_k w5 g7 (C:Int) (S:Int) (some ⟨gO,0,none⟩) (C*S) (C*S);have hno_:Wless w5 g7:=b7.now (by simp);obtain⟨w6,hw6⟩:∃x,mput w5 g7 (C:Int) (S:Int) (some ⟨gO,0,none⟩) (C*S) (C*S)=x:=⟨_,rfl⟩;obtain⟨f0_,f1_,f2_,f3_,f4_,f5_,f6_⟩:=b7.m3T;rw[hw6]at hgr_;have hB0s:=B0.size;have B35:=a_c B5 hgr_ hg7;replace hO:=hO.gro neO hno_ hgr_;replace b2:=a_a b2 hgr_ (by omega);replace b3:=a_a b3 hgr_ (by omega);replace b4:=a_a b4 hgr_ (by omega);replace bx:=a_a bx hgr_ (by omega);replace b7:=b7.mpT (r':=(C:Int)) (c':=(S:Int)) (C:=some ⟨gO,0,none⟩) (n':=C*S) (d':=C*S);rw[hw6]at b7;have Hw6:=Lib.hid hw6;unfold mput at Hw6;have lO:=hO.lt;have l7:=b7.lt;have neO':g7≠gO:=Ne.symm neO;clear hw6 hgr_ hno_ B5 hc7 hl7;go_upto_region 7 with fail
 rw[Hw6.out];clear f0_ f1_ f2_ f3_ f4_ f5_ f6_ Hw6;have HI:Hid (0<np→∃gp,Ap=some ⟨gp,0,none⟩∧gp<w4.heap.size∧∀j,j<np→w4.cell? ⟨gp,j,none⟩=some (.int .i64 ((ps.getD j 0:Nat):Int))):=Lib.hid fun h0=>by
  have h:=HR.out.own;rw[HNP.out]at h;obtain⟨A',c',e,h2⟩:=m_z h HNP.out;injection e with e1 e2 e3
  subst e1;rw[HNP.out]at h2;obtain⟨g,h3,-,h4,h5⟩:=h2 h0;exact⟨g,h3,h4,h5⟩
 obtain⟨i0,i1,i2,i3,i4,i5,i6⟩:=b3.m3T;have H0:Hid (w6.grownBy w6 (some gO)∧QB w6 gO KF (fun _=>true) (qmk C S fun a b=>if b<0 then(RT.sl C ps hh X (qdc R C F G)) a b else 0)):=Lib.hid ⟨a_u _ _,by
  have h:=hO.mono hkf1;rw[b_l (G:=fun a b=>if b<0 then(RT.sl C ps hh X (qdc R C F G)) a b else 0) fun a b _ _=>by rw[if_neg (by omega)]]at h;exact h⟩
 clear hO
 go_wp2_with fail
 clear i0 i1 i2 i3 i4 i5 i6;go_loopw [36] (fun s36 wr=>∃kk:Nat,s36= .int .i64 (kk:Int)∧kk≤S∧Hid (w6.grownBy wr (some gO)∧QB wr gO KF (fun _=>true) (qmk C S fun a b=>if b<kk then(RT.sl C ps hh X (qdc R C F G)) a b else 0))) (fun s36 _=>S - (intOf s36).toNat)
 case atStart=>exact⟨0,rfl,Nat.zero_le _,H0⟩
 case round=>
  clear H0;obtain⟨kk,rfl,hkk,HB⟩:=hrel;obtain⟨hG,hQ⟩:=HB.out;clear HB;have BR:=a_c B35 hG hgO;have r':=HR.out.below BR;have hBRs:=BR.size;have hGs:=hG.size;have b2r:=a_a b2 hG (by omega);have b4r:=a_a b4 hG (by omega);have b7r:=a_a b7 hG neO';have lOr:=hQ.lt;by_cases hlt:kk<S
  ·have u1:(kk:Int)<(S:Int):=by omega
   obtain⟨y,hy⟩:∃y:Nat→Rat,(fun i=>((X (C+kk) i:Int):Rat)*(hh:Rat)⁻¹*rth (qcs R C S F G) (C+kk))=y:=⟨_,rfl⟩;have HY:=Lib.hid hy;obtain⟨ck,hck⟩:∃ck,C+kk=ck:=⟨_,rfl⟩;rw[hck]at HY;have hckl:ck<C+S:=by omega
   have hcke:(C:Int)+(kk:Int)=(ck:Int):=by omega
   have hcku:ck≤128:=by omega
   have HCK:=Lib.hid hck;clear hy hck;go_upto_region 10 with fail
   refine Run.start 8 ?_;refine .mv .o ?_;refine .fa .o (fQ1 1) ?_;refine .ld (.i 1) (ldInt b2r 1) ?_;refine .mv .o ?_;refine .two (.i 2) (.i 3) (opAdd (r:=(ck:Int)) (by omega) (by omega) (by omega)) ?_;refine .c2 (.i 0) (.i 4) (x:=kQw true wr.heap.size np KF (qrw np y)) (by rintro u v w4 hB rfl rfl;have h:=w_t (kk:=ck) HRD.out HXC.out (r'.below hB) (g_x ..) hckl (Nat.le_add_right _ _) (Nat.le_refl _) hR HF2.out hKF2;rw[HNP.out,HY.out]at h;exact h.mono fun e w' h=>h.mono fun v w2 ⟨g,e,h1,h2⟩=>⟨g,e,h1,Nat.le_trans hB.size h2⟩) ?_;refine .lnf (.i 5) (fun v w ⟨_,e,_⟩=>⟨_,_,e⟩) Tryz.underlying22 ?_;refine .mv .o ?_;refine .donep [some 39,some 40,some 41,some 42,some 43,some 44,some 45,some 46] ?_;intro w7 B7;rintro v ⟨gc,rfl,hc,hgc⟩;change Shut (wpList _ _ _ [] _ _);refine⟨?_⟩;simp only[Act.put,lS,lZ,lC];have hQ7:=hQ.below B7;have b7q:=b7r.below B7;have lc:=hc.lt;have necO:gc≠gO:=by omega
   have H0:Hid (w7.grownBy w7 (some gO)∧QB w7 gO KF (fun _=>true) (qmk C S (RT.ptm (RT.sl C ps hh X (qdc R C F G)) (fun r=>ps.getD r 0) y kk 0))):=Lib.hid ⟨a_u _ _,by
    have h:=hQ7;rw[b_l (G:=RT.ptm (RT.sl C ps hh X (qdc R C F G)) (fun r=>ps.getD r 0) y kk 0) fun a b _ _=>(RT.ptm_zero a b).symm]at h;exact h⟩
   have HC:=Lib.hid hc;clear hc
   go_wp2_with fail
   go_loopw [46] (fun s46 wi=>∃i:Nat,s46= .int .i64 (i:Int)∧i≤np∧Hid (w7.grownBy wi (some gO)∧QB wi gO KF (fun _=>true) (qmk C S (RT.ptm (RT.sl C ps hh X (qdc R C F G)) (fun r=>ps.getD r 0) y kk i)))) (fun s46 _=>np - (intOf s46).toNat)
   case atStart=>exact⟨0,rfl,Nat.zero_le _,H0⟩
   case round=>
    clear H0;obtain⟨i,rfl,hi,HB⟩:=hrel;obtain⟨hGi,hQi⟩:=HB.out;clear HB;by_cases hil:i<np
    ·have u2:(i:Int)<(np:Int):=by omega
     have hci:=HC.out.gro necO hQ7.now hGi;have hcl:=hci.lt;have b6i:=a_a b7q hGi neO';have BRi:=a_c (zup BR B7) hGi hgO;obtain⟨gp,rfl,hgp,hcp⟩:=HI.out (by omega);obtain⟨pp,hpp⟩:∃pp,ps.getD i 0=pp:=⟨_,rfl⟩;have hppC:pp<C:=by rw[←hpp];exact HRD.out.inc.lt i (by rw[HNP.out];exact hil)
     have hcp:=hcp i hil;rw[hpp]at hcp;have HPP:=Lib.hid hpp;obtain⟨s_,A_,n_,c_,t_,B_,m_,d_,x1,x2,x3,x4,zq,hz1,hz2⟩:=hci.cells (j:=i) (by rw[b_5];exact hil);rw[e_z hil]at zq;have hx:=zq.2 rfl;have hGis:=hGi.size;have hlOi:=hQi.lt;have hl6i:=b6i.lt;have hBRi:=BRi.size;clear zq hpp;go_upto_region 12 with fail
     refine Run.start 5 ?_;refine .mv .o ?_;refine .two .o .o (opIxQB hil) ?_;refine .ld (.i 1) (ldQ (p:=⟨gc,i*4,none⟩) hcl x1 x2 x3 x4) ?_;refine .al ?_;refine .mv (.i 0) ?_;refine .donep [some 48,some 49,some 50,some 10,some 9] ?_;intro w8 B8;rintro g10 hg10 hl10 hc10 -;change Shut (wpList _ _ _ [_] _ _);refine⟨?_⟩;simp only[Act.put,lS,lZ,lC];have b10:=zeroQ hc10;replace hx:=hx.below B8;replace hQi:=hQi.below B8;have b6j:=b6i.below B8;clear hc10 hl10 x1 x2 x3 x4;obtain⟨w9,hw9⟩:∃x,rput w8 g10 s_ A_ n_ c_ t_ B_ m_ d_=x:=⟨_,rfl⟩;obtain⟨f1_,f2_,f3_,f4_,f5_,f6_,f7_,f8_,f9_⟩:=b10.rb;have hgr_:=b_p w8 g10 s_ A_ n_ c_ t_ B_ m_ d_;have hno_:Wless w8 g10:=b10.now (by simp);rw[hw9]at hgr_;replace b6j:=a_a b6j hgr_ (by omega);replace hx:=hx.gro hno_ hgr_;replace hQi:=hQi.gro (by omega) hno_ hgr_;replace B8:=a_c B8 hgr_ (by omega);replace b10:=b10.rp (s':=s_) (A':=A_) (n':=n_) (c':=c_) (t':=t_) (B':=B_) (m':=m_) (d':=d_);rw[hw9]at b10;have Hw9:=Lib.hid hw9;unfold rput at Hw9;clear hw9 hgr_ hno_;have HBi:=Lib.hid B8;clear B8;go_upto_region 13 with fail
     rw[Hw9.out];clear f1_ f2_ f3_ f4_ f5_ f6_ f7_ f8_ f9_ Hw9;have BRj:=zup BRi HBi.out;have bxj:=(HR.out.below BRj).bx;change Bx w9 g 84 [.slice (some ⟨H,0,none⟩) R R,.slice (some ⟨gp,0,none⟩) ps.length cp,.bool sa,.slice A1 n1 c1,.bool s,.slice Aq (qcs R C S F G).length cq]at bxj;rw[HNP.out]at bxj;have cpj:=(BRj.cell (p:=⟨gp,i,none⟩) hgp).trans hcp;have hgpj:=Nat.lt_of_lt_of_le hgp BRj.size;refine Run.start 11 ?_;refine .ld .o (ldQm b6j 0) ?_;refine .mv .o ?_;refine .nc (.i 1) ?_;refine .fa (.i 2) (fW0 0) ?_;refine .fa (.i 3) (fE1 1) ?_;refine .ld (.i 4) (ldIs bxj 1) ?_;refine .mv .o ?_;refine .two (.i 5) (.i 6) (opIxI hil) ?_;refine .ld (.i 7) (ldIn (p:=⟨gp,i,none⟩) hgpj cpj) ?_;refine .mv .o ?_;refine .ld .o (ldQr b10) ?_;refine .done [some 51,some 52,some 53,some 54,some 55,some 56,some 57,some 58,some 59,some 60,some 61] ?_;intro w10 B10;change Shut (wpList _ _ _ [_] _ _);refine⟨?_⟩;simp only[Act.put,lS,lZ,lC];replace hx:=hx.below B10;replace hQi:=hQi.below B10;have HGF:Hid (w7.grownBy w10 (some gO)):=Lib.hid (b_e hGi (e_1 (zup HBi.out B10) _));clear B10 HBi b6i b6j b10 hci bxj BRj BRi cpj hcp
     go_wp2_with fail
     refine(s_a (s1:=0) (n1:=0) (m1:=0) hQi hC hS hppC hlt hx hz1 hz2).mono ?_;intro e w11 hp;obtain⟨rfl,hg,hq⟩:=l_h (rw:=fun r=>ps.getD r 0) (y:=y) HPP.out rfl hp;have HN:Hid (w7.grownBy w11 (some gO)∧QB w11 gO KF (fun _=>true) (qmk C S (RT.ptm (RT.sl C ps hh X (qdc R C F G)) (fun r=>ps.getD r 0) y kk (i+1)))):=Lib.hid ⟨b_e HGF.out hg,hq⟩;clear hQi hx hp hg hq HGF
     go_wp2_with fail
     go_roundw
     case rel=>exact⟨i+1,by go_num,by omega,HN⟩
     case measure=>first|(simp[intOf];done)|(simp[intOf];omega)
    ·obtain rfl:i=np:=by omega
     have u2:¬(i:Int)<(i:Int):=by omega
     have HN:Hid (w6.grownBy wr (some gO)∧QB wr gO KF (fun _=>true) (qmk C S fun a b=>if b<kk+1 then(RT.sl C ps hh X (qdc R C F G)) a b else 0)):=Lib.hid ⟨b_e (b_e hG (e_1 B7 _)) hGi,by
      have h:=hQi;rw[b_l (G:=fun a b=>if b<kk+1 then(RT.sl C ps hh X (qdc R C F G)) a b else 0) fun a b _ _=>RT.ptm_end b (by
       rw[RT.pt_sum (f:=fun r=>ps.getD r 0) (n:=i) (C:=C) (by have h:=HRD.out.inc;rw[HNP.out]at h;exact h) y a i (Nat.le_refl _),←HY.out,←HCK.out];unfold RT.sl;rw[HNP.out];exact RT.sum_ext fun r hr=>by rw[x_7 hlt])]at h
      exact h⟩
     clear hG hGi hQi hQ hQ7 HC B7
     go_wp2_with fail
     go_roundw
     case rel=>exact⟨kk+1,by go_num,by omega,HN⟩
     case measure=>first|(simp[intOf];done)|(simp[intOf];omega)
  ·obtain rfl:kk=S:=by omega
   have u1:¬(kk:Int)<(kk:Int):=by omega
   have hp0:=RT.red_of HRD.out (Nat.le_add_right _ _) HXC.out (A:=F) (c:=fun i=>pct (F i) C) (fun i _=>f_t _ _) (fun i j _ hj=>qF hj);obtain⟨e1,e2⟩:=RT.rd_eq hp0;have hQF:QB wr gO KF (fun _=>true) (qmk C kk (RT.sl C ps hh X (qdc R C F G))):=by
    have h:=hQ;rw[b_l (G:=(RT.sl C ps hh X (qdc R C F G))) fun a b ha hb=>by rw[if_pos hb]]at h;exact h
   have hBw:=zup B0 BR;have hMW:Mw w.heap.size wr C kk (some ⟨gO,0,none⟩) (C*kk) (C*kk) KF (RT.sl C ps hh X (qdc R C F G)):=⟨gO,rfl,rfl,rfl,hQF,by omega,hC,hS⟩;have HSL:Hid ((∀i l,i<R→l<kk→RT.mul C F (RT.sl C ps hh X (qdc R C F G)) i l=G i l)∧∀a l,¬a∈RT.rdP R C F→(RT.sl C ps hh X (qdc R C F G)) a l=0):=Lib.hid ⟨fun i l hi hl=>by
    refine RT.solves (c:=fun i=>pct (F i) C) (d:=qdc R C F G) HRD.out HXC.out (fun i l h3 h4 h5=>Classical.byContradiction fun h6=>?_) (fun i j _ hj=>qF hj) (fun i l hi _=>qG hi) hi hl;obtain⟨Y,hY⟩:=hs;exact RT.never HRD.out (fun i _=>f_t (F i) C) (fun l _=>t_0 (R:=R) (C:=C) (F:=F) (G:=G) l) h3 h4 h5 h6 (fun i j _ hj=>qF hj) (fun i l hi _=>qG hi) Y hY,fun a l ha=>RT.sl_off (by rw[e1];exact ha)⟩
   obtain⟨MX,hMX⟩:∃MX,(RT.sl C ps hh X (qdc R C F G))=MX:=⟨_,rfl⟩;rw[hMX]at hMW HSL;clear hQ hG hQF r' hp0 e1 e2 hMX b2r;go_upto_region 16 with fail
   refine Run.start 1 ?_;refine .ld .o (ldQm b7r 0) ?_;refine .donep [some 65] ?_;intro w12 B12;change Shut (wpList _ _ _ [_,_] _ _);refine⟨?_⟩;simp only[Act.put,lS,lZ,lC];replace hMW:=hMW.below B12;replace b4r:=b4r.below B12;have hgr:=a_k w12 (w.heap.size+1+1) (C:Int) (kk:Int) (some ⟨gO,0,none⟩) (C*kk) (C*kk);have hMV:=hMW.box b4r (by decide) (by simp) hgr;have P:Hid (RetK (kT (kSl w.heap.size R C kk KF F G) (.k (.int .i64 0))) w (.returned (.tuple #[.agg #[.int .i64 (C:Int),.int .i64 (kk:Int),.slice (some ⟨gO,0,none⟩) (C*kk) (C*kk)],.int .i64 0])) (mput w12 (w.heap.size+1+1) (C:Int) (kk:Int) (some ⟨gO,0,none⟩) (C*kk) (C*kk))):=Lib.hid ⟨_,rfl,⟨_,_,rfl,⟨MX,⟨_,_,_,rfl,hMV⟩,HSL.out⟩,rfl⟩,a_c (zup hBw B12) hgr (by omega)⟩;unfold mput at P;obtain⟨i0,i1,i2,i3,i4,i5,i6⟩:=b4r.m3T;clear hMW hMV hgr hBw B12 b7r b4r HSL
   go_wp2_with fail
   exact bodyPost_ret (v:=.tuple #[.agg #[.int .i64 (C:Int),.int .i64 (kk:Int),.slice (some ⟨gO,0,none⟩) (C*kk) (C*kk)],.int .i64 0]) (by simp[results,Tryz.results24,go_sem,i0,i1,i2]) rfl P.out
end
end Go.Proofs.YtkgghhklbbfdiaaGreat
