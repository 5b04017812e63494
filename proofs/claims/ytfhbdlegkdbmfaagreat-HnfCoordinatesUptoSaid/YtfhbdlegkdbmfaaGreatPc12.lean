/- Pc12 -/
import Derived.Test.YtfhbdlegkdbmfaaGreatPc11
import Derived.Deep.AppendLies
set_option linter.unusedVariables false
set_option linter.unusedSimpArgs false
set_option linter.unusedSectionVars false
set_option maxRecDepth 100000
set_option maxHeartbeats 8000000
namespace Go.Proofs.YtfhbdlegkdbmfaaGreat
section
open Go.RowKit
theorem e_i {r c:Int}{A:Option Addr}{n d:Nat}{b:Bool}(hb:fmd r c n=b)(w:World):Calls Tryz.prog 10 #[.agg #[.int .i64 r,.int .i64 c,.slice A n d]] w (RetK (.k (.bool b)) w):=by
 obtain⟨w1,hw1,b1,z1,s1⟩:=boxes1 w 27 [.int .i64 r,.int .i64 c,.slice A n d];have HW:=Lib.hid hw1;have HZ:=Lib.hid z1;have hb_:=Lib.hid hb;clear hw1 z1 hb s1;go_enter Tryz.func10,Tryz.ntmps10
 go_upto_region 1 with fail
 rw[HW.out];by_cases g5:0<=r
 rotate_left
 ·refine Run.start 30 ?_;refine .fa .o (fM0 0) ?_;refine .ld (.i 0) (ldInt b1 0) ?_;refine .two (.i 1) .o (opGe (decide_eq_false g5)) ?_;refine .mv (.i 2) ?_;refine .no ?_;refine .no ?_;refine .no ?_;refine .pk (.i 3) .o false ?_;refine .mv (.i 7) ?_;refine .no ?_;refine .no ?_;refine .no ?_;refine .pk (.i 8) .o false ?_;refine .mv (.i 12) ?_;refine .no ?_;refine .no ?_;refine .no ?_;refine .pk (.i 13) .o false ?_;refine .mv (.i 17) ?_;refine .no ?_;refine .no ?_;refine .no ?_;refine .no ?_;refine .no ?_;refine .no ?_;refine .no ?_;refine .no ?_;refine .no ?_;refine .pk (.i 18) .o false ?_;refine .mv (.i 28) ?_;refine .donep [some 3,some 4,some 5,some 6,some 7,some 8,some 9,some 10,some 11,some 12,some 13,some 14,some 15,some 16,some 17,some 18,some 19,some 20,some 21,some 22,some 23,some 24,some 25,some 26,some 27,some 28,some 29,some 30,some 31,some 2] ?_;intro w2 B2;refine sh [] ?_;simp only[Act.put,lS,lZ,lC];have e:b=false:=by rw[<-hb_.out];unfold fmd sd;simp;omega
  subst e
  go_wp2_with fail
  exact bodyPost_ret (v:=.bool false) (by simp[results,Tryz.results10,go_sem]) rfl (b_k rfl (zup HZ.out B2))
 ·skip
  by_cases g9:r<=64
  rotate_left
  ·refine Run.start 30 ?_;refine .fa .o (fM0 0) ?_;refine .ld (.i 0) (ldInt b1 0) ?_;refine .two (.i 1) .o (opGe (decide_eq_true g5)) ?_;refine .mv (.i 2) ?_;refine .fa .o (fM0 0) ?_;refine .ld (.i 4) (ldInt b1 0) ?_;refine .two (.i 5) .o (opLe (decide_eq_false g9)) ?_;refine .pk (.i 3) (.i 6) true ?_;refine .mv (.i 7) ?_;refine .no ?_;refine .no ?_;refine .no ?_;refine .pk (.i 8) .o false ?_;refine .mv (.i 12) ?_;refine .no ?_;refine .no ?_;refine .no ?_;refine .pk (.i 13) .o false ?_;refine .mv (.i 17) ?_;refine .no ?_;refine .no ?_;refine .no ?_;refine .no ?_;refine .no ?_;refine .no ?_;refine .no ?_;refine .no ?_;refine .no ?_;refine .pk (.i 18) .o false ?_;refine .mv (.i 28) ?_;refine .donep [some 3,some 4,some 5,some 6,some 7,some 8,some 9,some 10,some 11,some 12,some 13,some 14,some 15,some 16,some 17,some 18,some 19,some 20,some 21,some 22,some 23,some 24,some 25,some 26,some 27,some 28,some 29,some 30,some 31,some 2] ?_;intro w2 B2;refine sh [] ?_;simp only[Act.put,lS,lZ,lC];have e:b=false:=by rw[<-hb_.out];unfold fmd sd;simp;omega
   subst e
   go_wp2_with fail
   exact bodyPost_ret (v:=.bool false) (by simp[results,Tryz.results10,go_sem]) rfl (b_k rfl (zup HZ.out B2))
  ·skip
   by_cases g14:0<=c
   rotate_left
   ·refine Run.start 30 ?_;refine .fa .o (fM0 0) ?_;refine .ld (.i 0) (ldInt b1 0) ?_;refine .two (.i 1) .o (opGe (decide_eq_true g5)) ?_;refine .mv (.i 2) ?_;refine .fa .o (fM0 0) ?_;refine .ld (.i 4) (ldInt b1 0) ?_;refine .two (.i 5) .o (opLe (decide_eq_true g9)) ?_;refine .pk (.i 3) (.i 6) true ?_;refine .mv (.i 7) ?_;refine .fa .o (fM1 1) ?_;refine .ld (.i 9) (ldInt b1 1) ?_;refine .two (.i 10) .o (opGe (decide_eq_false g14)) ?_;refine .pk (.i 8) (.i 11) true ?_;refine .mv (.i 12) ?_;refine .no ?_;refine .no ?_;refine .no ?_;refine .pk (.i 13) .o false ?_;refine .mv (.i 17) ?_;refine .no ?_;refine .no ?_;refine .no ?_;refine .no ?_;refine .no ?_;refine .no ?_;refine .no ?_;refine .no ?_;refine .no ?_;refine .pk (.i 18) .o false ?_;refine .mv (.i 28) ?_;refine .donep [some 3,some 4,some 5,some 6,some 7,some 8,some 9,some 10,some 11,some 12,some 13,some 14,some 15,some 16,some 17,some 18,some 19,some 20,some 21,some 22,some 23,some 24,some 25,some 26,some 27,some 28,some 29,some 30,some 31,some 2] ?_;intro w2 B2;refine sh [] ?_;simp only[Act.put,lS,lZ,lC];have e:b=false:=by rw[<-hb_.out];unfold fmd sd;simp;omega
    subst e
    go_wp2_with fail
    exact bodyPost_ret (v:=.bool false) (by simp[results,Tryz.results10,go_sem]) rfl (b_k rfl (zup HZ.out B2))
   ·skip
    by_cases g19:c<=64
    rotate_left
    ·refine Run.start 30 ?_;refine .fa .o (fM0 0) ?_;refine .ld (.i 0) (ldInt b1 0) ?_;refine .two (.i 1) .o (opGe (decide_eq_true g5)) ?_;refine .mv (.i 2) ?_;refine .fa .o (fM0 0) ?_;refine .ld (.i 4) (ldInt b1 0) ?_;refine .two (.i 5) .o (opLe (decide_eq_true g9)) ?_;refine .pk (.i 3) (.i 6) true ?_;refine .mv (.i 7) ?_;refine .fa .o (fM1 1) ?_;refine .ld (.i 9) (ldInt b1 1) ?_;refine .two (.i 10) .o (opGe (decide_eq_true g14)) ?_;refine .pk (.i 8) (.i 11) true ?_;refine .mv (.i 12) ?_;refine .fa .o (fM1 1) ?_;refine .ld (.i 14) (ldInt b1 1) ?_;refine .two (.i 15) .o (opLe (decide_eq_false g19)) ?_;refine .pk (.i 13) (.i 16) true ?_;refine .mv (.i 17) ?_;refine .no ?_;refine .no ?_;refine .no ?_;refine .no ?_;refine .no ?_;refine .no ?_;refine .no ?_;refine .no ?_;refine .no ?_;refine .pk (.i 18) .o false ?_;refine .mv (.i 28) ?_;refine .donep [some 3,some 4,some 5,some 6,some 7,some 8,some 9,some 10,some 11,some 12,some 13,some 14,some 15,some 16,some 17,some 18,some 19,some 20,some 21,some 22,some 23,some 24,some 25,some 26,some 27,some 28,some 29,some 30,some 31,some 2] ?_;intro w2 B2;refine sh [] ?_;simp only[Act.put,lS,lZ,lC];have e:b=false:=by rw[<-hb_.out];unfold fmd sd;simp;omega
     subst e
     go_wp2_with fail
     exact bodyPost_ret (v:=.bool false) (by simp[results,Tryz.results10,go_sem]) rfl (b_k rfl (zup HZ.out B2))
    ·skip
     refine Run.start 30 ?_;refine .fa .o (fM0 0) ?_;refine .ld (.i 0) (ldInt b1 0) ?_;refine .two (.i 1) .o (opGe (decide_eq_true g5)) ?_;refine .mv (.i 2) ?_;refine .fa .o (fM0 0) ?_;refine .ld (.i 4) (ldInt b1 0) ?_;refine .two (.i 5) .o (opLe (decide_eq_true g9)) ?_;refine .pk (.i 3) (.i 6) true ?_;refine .mv (.i 7) ?_;refine .fa .o (fM1 1) ?_;refine .ld (.i 9) (ldInt b1 1) ?_;refine .two (.i 10) .o (opGe (decide_eq_true g14)) ?_;refine .pk (.i 8) (.i 11) true ?_;refine .mv (.i 12) ?_;refine .fa .o (fM1 1) ?_;refine .ld (.i 14) (ldInt b1 1) ?_;refine .two (.i 15) .o (opLe (decide_eq_true g19)) ?_;refine .pk (.i 13) (.i 16) true ?_;refine .mv (.i 17) ?_;refine .fa .o (fM2 2) ?_;refine .ld (.i 19) (ldSl b1 2) ?_;refine .len (.i 20) Tryz.underlying25 ?_;refine .fa .o (fM0 0) ?_;refine .ld (.i 22) (ldInt b1 0) ?_;refine .fa .o (fM1 1) ?_;refine .ld (.i 24) (ldInt b1 1) ?_;refine .two (.i 23) (.i 25) (opMul rfl (k_d (by unfold sd;exact decide_eq_true ⟨g5,g9⟩) (by unfold sd;exact decide_eq_true ⟨g14,g19⟩)).1 (k_d (by unfold sd;exact decide_eq_true ⟨g5,g9⟩) (by unfold sd;exact decide_eq_true ⟨g14,g19⟩)).2) ?_;refine .two (.i 21) (.i 26) (opEq rfl) ?_;refine .pk (.i 18) (.i 27) true ?_;refine .mv (.i 28) ?_;refine .donep [some 3,some 4,some 5,some 6,some 7,some 8,some 9,some 10,some 11,some 12,some 13,some 14,some 15,some 16,some 17,some 18,some 19,some 20,some 21,some 22,some 23,some 24,some 25,some 26,some 27,some 28,some 29,some 30,some 31,some 2] ?_;intro w2 B2;refine sh [] ?_;simp only[Act.put,lS,lZ,lC];have e:decide ((n:Int)=r*c)=b:=by rw[<-hb_.out];unfold fmd sd;simp[g5,g9,g14,g19]
     rw[e];clear e
     go_wp2_with fail
     exact bodyPost_ret (v:=.bool b) (by simp[results,Tryz.results10,go_sem]) rfl (b_k rfl (zup HZ.out B2))
theorem e_k {q:Bool}{r c n d k i j:Nat}{A:Option Addr}{F:Nat->Nat->Int}{w:World}(h:Mt q w r c A n d k F)(hi:i<r)(hj:j<c):Calls Tryz.prog 94 #[.agg #[.int .i64 (r:Int),.int .i64 (c:Int),.slice A n d],.int .i64 (i:Int),.int .i64 (j:Int)] w (RetK (kV (F i j) k) w):=by
 have h1:=h.hr;have h2:=h.hc;have h5:i*c<=64*64:=Nat.mul_le_mul (by omega) h2;obtain⟨w1,hw1,b3,b6,z1,s1⟩:=boxes2 w 27 31 [.int .i64 (r:Int),.int .i64 (c:Int),.slice A n d] [.bool false,.slice none 0 0];have HW:=Lib.hid hw1;have HZ:=Lib.hid z1;obtain⟨ad,rfl,hab,hlt,s_,A_,n_,c_,c0,c1,ze,hk⟩:=(h.below z1).elem hi hj;have hz:=ze.1;clear ze h;clear hw1 z1 s1;go_enter Tryz.func94,Tryz.ntmps94
 go_upto_region 1 with fail
 rw[HW.out];refine Run.start 10 ?_;refine .fa .o (fM2 2) ?_;refine .ld (.i 0) (ldSl b3 2) ?_;refine .mv .o ?_;refine .fa .o (fM1 1) ?_;refine .ld (.i 3) (ldInt b3 1) ?_;refine .two (.i 2) (.i 4) (opMulN i c (by omega)) ?_;refine .mv .o ?_;refine .two (.i 5) (.i 6) (opAddN (i*c) j (by omega)) ?_;refine .two (.i 1) (.i 7) (opIx hlt) ?_;refine .ld (.i 8) (ldE (by rw[a_b];exact hab) c0 c1) ?_;refine .donep [some 7,some 8,some 9,some 10,some 11,some 12,some 13,some 14,some 15,some 16] ?_;intro w2 B2;refine sh [_] ?_;simp only[Act.put,lS,lZ,lC];replace hz:=hz.below B2;clear c0 c1;have I:=Ib.entry (b6.below B2);have P:=Lib.hid (retV hz I (k:=k) (by omega) (by omega) (zup HZ.out B2));obtain⟨i1,i2,i3,i4,i5⟩:=I;clear hz
 go_wp2_with fail
 exact bodyPost_ret (v:=.agg #[.bool s_,.slice A_ n_ c_]) (by simp[results,Tryz.results94,go_sem,i1,i2]) rfl P.out
def fewb (r c:Int)(R:List Zr)(N W:Nat):Bool:=decide (r<=N)&&decide (c<=N)&&fwb R 100 W
theorem e_2 {r c:Int}{A:Option Addr}{n d N W:Nat}{R:List Zr}{b:Bool}{w:World}(hx:RL w A n d R)(hb:fewb r c R N W=b)(hW':W<=1000):Calls Tryz.prog 8 #[.agg #[.int .i64 r,.int .i64 c,.slice A n d],.int .i64 (N:Int),.int .i64 (W:Int)] w (RetK (.k (.bool b)) w):=by
 obtain⟨t,ht⟩:∃t,fwb R 100 W=t:=⟨_,rfl⟩;obtain⟨w1,hw1,b3,z1,s1⟩:=boxes1 w 27 [.int .i64 r,.int .i64 c,.slice A n d];have HW:=Lib.hid hw1;have HZ:=Lib.hid z1;have hb_:=Lib.hid hb;have ht_:=Lib.hid ht;clear hw1 z1 hb ht s1;go_enter Tryz.func8,Tryz.ntmps8
 go_upto_region 1 with fail
 rw[HW.out];by_cases g10:r<=(N:Int)
 rotate_left
 ·refine Run.start 17 ?_;refine .fa .o (fM0 0) ?_;refine .ld (.i 0) (ldInt b3 0) ?_;refine .mv .o ?_;refine .two (.i 1) (.i 2) (opLe (decide_eq_false g10)) ?_;refine .mv (.i 3) ?_;refine .no ?_;refine .no ?_;refine .no ?_;refine .no ?_;refine .pk (.i 4) .o false ?_;refine .mv (.i 9) ?_;refine .no ?_;refine .no ?_;refine .no ?_;refine .no ?_;refine .pk (.i 10) .o false ?_;refine .mv (.i 15) ?_;refine .donep [some 7,some 8,some 9,some 10,some 11,some 12,some 13,some 14,some 15,some 16,some 17,some 18,some 19,some 20,some 21,some 22,some 6] ?_;intro w2 B2;refine sh [] ?_;simp only[Act.put,lS,lZ,lC];have e:b=false:=by rw[<-hb_.out];unfold fewb;simp[g10]
  subst e
  go_wp2_with fail
  exact bodyPost_ret (v:=.bool false) (by simp[results,Tryz.results8,go_sem]) rfl (b_k rfl (zup HZ.out B2))
 ·skip
  by_cases g15:c<=(N:Int)
  rotate_left
  ·refine Run.start 17 ?_;refine .fa .o (fM0 0) ?_;refine .ld (.i 0) (ldInt b3 0) ?_;refine .mv .o ?_;refine .two (.i 1) (.i 2) (opLe (decide_eq_true g10)) ?_;refine .mv (.i 3) ?_;refine .fa .o (fM1 1) ?_;refine .ld (.i 5) (ldInt b3 1) ?_;refine .mv .o ?_;refine .two (.i 6) (.i 7) (opLe (decide_eq_false g15)) ?_;refine .pk (.i 4) (.i 8) true ?_;refine .mv (.i 9) ?_;refine .no ?_;refine .no ?_;refine .no ?_;refine .no ?_;refine .pk (.i 10) .o false ?_;refine .mv (.i 15) ?_;refine .donep [some 7,some 8,some 9,some 10,some 11,some 12,some 13,some 14,some 15,some 16,some 17,some 18,some 19,some 20,some 21,some 22,some 6] ?_;intro w2 B2;refine sh [] ?_;simp only[Act.put,lS,lZ,lC];have e:b=false:=by rw[<-hb_.out];unfold fewb;simp[g15]
   subst e
   go_wp2_with fail
   exact bodyPost_ret (v:=.bool false) (by simp[results,Tryz.results8,go_sem]) rfl (b_k rfl (zup HZ.out B2))
  ·skip
   refine Run.start 17 ?_;refine .fa .o (fM0 0) ?_;refine .ld (.i 0) (ldInt b3 0) ?_;refine .mv .o ?_;refine .two (.i 1) (.i 2) (opLe (decide_eq_true g10)) ?_;refine .mv (.i 3) ?_;refine .fa .o (fM1 1) ?_;refine .ld (.i 5) (ldInt b3 1) ?_;refine .mv .o ?_;refine .two (.i 6) (.i 7) (opLe (decide_eq_true g15)) ?_;refine .pk (.i 4) (.i 8) true ?_;refine .mv (.i 9) ?_;refine .fa .o (fM2 2) ?_;refine .ld (.i 11) (ldSl b3 2) ?_;refine .mv .o ?_;refine .c3 (.i 12) .o (.i 13) (x:=.k (.bool t)) (by rintro u v x w2 hB rfl rfl rfl;exact(m_l (hx.below (zup HZ.out hB)) (by omega) hW' ht_.out).mono fun e w' h=>⟨_,h.1,rfl,h.2⟩) ?_;refine .pk (.i 10) (.i 14) true ?_;refine .mv (.i 15) ?_;refine .donep [some 7,some 8,some 9,some 10,some 11,some 12,some 13,some 14,some 15,some 16,some 17,some 18,some 19,some 20,some 21,some 22,some 6] ?_;intro w2 B2;refine sh [] ?_;simp only[Act.put,lS,lZ,lC];have e:b=t:=by rw[<-hb_.out,<-ht_.out];unfold fewb;simp[g10,g15]
   subst e
   go_wp2_with fail
   exact bodyPost_ret (v:=.bool b) (by simp[results,Tryz.results8,go_sem]) rfl (b_k rfl (zup HZ.out B2))
end
section
open Go.RowKit
section
variable {w:World}
theorem fZa1 {p:Addr}(w:World):(Instr.fieldAt 31 (.pointer (some p)) 1).run Tryz.prog w= .ok (.pointer (some ⟨p.block,p.off+1,none⟩)) w:=by simp[go_sem,Addr.add]
theorem ldNa {p:Addr}{A:Option Addr}{n c:Nat}(hp:p.block<w.heap.size)(h:w.cell? p=some (.slice A n c)):∀w',Below w.heap.size w w'->(Instr.loadAt 29 (.pointer (some p))).run Tryz.prog w'= .ok (.slice A n c) w':=fun w' hb=>by
 have:=(hb.cell hp).trans h;simp[go_sem,a_y,this]
end
end
section
open Go.RowKit
theorem m_a {l:List Int}{m:Nat}(h:m<l.length):l.take m++[ith l m]=l.take (m+1):=by
 rw[List.take_succ_eq_append_getElem h];simp[ith,List.getD,h]
theorem Zc.zero_len {w:World}{s:Bool}{A:Option Addr}{n c:Nat}(h:Zc w s A n c 0):n=0:=by
 have:=h.1.2.1;rw[<-this];rfl
theorem OwnZ.fresh {w0 w:World}{k g:Nat}{v:Value}{zs:List Int}(h:OwnZ w0 w k v zs)(hg:w.heap.size<=g):v.ownBlock≠some g:=fun e=>by
 obtain⟨⟨vs,⟨h1,_⟩,_⟩,_⟩:=h
 have:=(h1.lt g e).2;omega
theorem OwnZ.zp {w0 w:World}{k g m d n c:Nat}{v:Value}{zs:List Int}{s t:Bool}{A B:Option Addr}(h:OwnZ w0 w k v zs)(b:Bx w g 31 [.bool t,.slice B m d])(hg:w0.heap.size<=g)(hne:v.ownBlock≠some g):OwnZ w0 (Go.Proofs.YtfhbdlegkdbmfaaGreat.zput w g s A n c) k v zs:=by
 obtain⟨⟨vs,⟨h1,h2⟩,h3⟩,h4⟩:=h;have hgr:w.grownBy (Go.Proofs.YtfhbdlegkdbmfaaGreat.zput w g s A n c) (some g):=a_8 (q:=⟨g,1,none⟩) (a_8 (q:=⟨g,0,none⟩) (a_6 w (some g)) rfl _) rfl _;refine⟨⟨vs,⟨h1.kept hgr (.inr hne),fun g' cs hg' hc=>h2 g' cs hg' ?_⟩,fun j hj=>?_⟩,a_l h4 hg⟩
 ·rw[<-hgr.block g' (h1.lt g' hg').2 (by rw[<-hg'];exact hne)];exact hc
 ·obtain⟨s',A',n',c',c1,c2,c3,c4⟩:=h3 j hj;exact⟨s',A',n',c',c1,c2,Zc.zp c3 b,c4⟩
def IsZs (k:Nat)(zs:List Int):FVal:=fun v w=>∃A n d,v= .slice A n d/\ZL true w A n d k zs
def kZs (k:Nat)(zs:List Int):FK:=.f (IsZs k zs) (fun v w w' ⟨A,n,d,e,h⟩ hb=>⟨A,n,d,e,h.below hb⟩)
theorem retZs {w0 w w2:World}{k:Nat}{v:Value}{zs:List Int}(h:OwnZ w0 w2 k v zs)(hB:Below w.heap.size w w2):RetK (kZs k zs) w (.returned v) w2:=by
 obtain⟨A,c,rfl,h1⟩:=h.form;exact⟨_,rfl,⟨A,_,c,rfl,h1 true⟩,hB⟩
theorem q_8 {q q':Bool}{r c n d k r' c' n' d' k':Nat}{A A':Option Addr}{F G:Nat->Nat->Int}{w:World}(ha:Mt q w r c A n d k F)(hb:Mt q' w r' c' A' n' d' k' G)(hcr:c=r')(hk:k+k'<=549755813888):Calls Tryz.prog 92 #[.agg #[.int .i64 (r:Int),.int .i64 (c:Int),.slice A n d],.agg #[.int .i64 (r':Int),.int .i64 (c':Int),.slice A' n' d']] w (RetK (kZs (k+k'+c) (mk r c' (fun i j=>dot F G i j c))) w):=by
 have hr1:=ha.hr;have hc1:=ha.hc;have hc2:=hb.hc;obtain⟨L,hL⟩:∃L,mk r c' (fun i j=>dot F G i j c)=L:=⟨_,rfl⟩;have hlen:L.length=r*c':=by rw[<-hL,a_1]
 have hat:∀i j,i<r->j<c'->ith L (i*c'+j)=dot F G i j c:=fun i j hi hj=>by rw[<-hL,g_m hi hj]
 have hbig:r*c'<=64*64:=Nat.mul_le_mul hr1 hc2;rw[hL];obtain⟨w1,hw1,b2,b3,z1,s1⟩:=boxes2 w 27 27 [.int .i64 (r:Int),.int .i64 (c:Int),.slice A n d] [.int .i64 (r':Int),.int .i64 (c':Int),.slice A' n' d'];have HW:=Lib.hid hw1;have HZ:=Lib.hid z1;have hlen_:=Lib.hid hlen;have hat_:=Lib.hid hat;have hcr_:=Lib.hid hcr;clear hw1 z1 hlen hat hcr hL s1;go_enter Tryz.func92,Tryz.ntmps92
 go_upto_region 1 with fail
 rw[HW.out];have HO:Hid (OwnZ w1 w1 (k+k'+c) (.slice none 0 0) (L.take (0*c'))):=Lib.hid (by rw[Nat.zero_mul];exact OwnZ.nil _ _)
 go_wp2_with fail
 go_loopw [6,5] (fun s6 s5 wr=>∃i:Nat,s6= .int .i64 (i:Int)/\i<=r/\Hid (OwnZ w1 wr (k+k'+c) s5 (L.take (i*c')))) (fun s6 _ _=>r - (intOf s6).toNat)
 case atStart=>exact⟨0,rfl,Nat.zero_le _,HO⟩
 case round=>
  clear HO;obtain⟨i,rfl,hi,HO⟩:=hrel;have Bq:=HO.out.old;obtain⟨i0,i1,i2,i3,i4,i5,i6⟩:=(b2.below Bq).m3;obtain⟨j0,j1,j2,j3,j4,j5,j6⟩:=(b3.below Bq).m3;clear Bq;by_cases hlt:i<r
  ·have u1:(i:Int)<(r:Int):=by omega
   go_wp2_with fail
   clear i0 i1 i2 i3 i4 i5 i6 j0 j1 j2 j3 j4 j5 j6;go_loopw [7,5] (fun s7 s5 wr=>∃j:Nat,s7= .int .i64 (j:Int)/\j<=c'/\Hid (OwnZ w1 wr (k+k'+c) s5 (L.take (i*c'+j)))) (fun s7 _ _=>c' - (intOf s7).toNat)
   case atStart=>exact⟨0,rfl,Nat.zero_le _,HO⟩
   case round=>
    clear HO;obtain⟨j,rfl,hj,HO⟩:=hrel;have Bq:=HO.out.old;obtain⟨i0,i1,i2,i3,i4,i5,i6⟩:=(b2.below Bq).m3;obtain⟨j0,j1,j2,j3,j4,j5,j6⟩:=(b3.below Bq).m3;clear Bq;by_cases hjl:j<c'
    ·have u2:(j:Int)<(c':Int):=by omega
     go_upto_region 8 with fail
     clear i0 i1 i2 i3 i4 i5 i6 j0 j1 j2 j3 j4 j5 j6;have ho:=HO.out;have hs0:=ho.old.size;clear HO;refine Run.start 2 ?_;refine .c1 .o (x:=kC 0 1) (by rintro u w2 hB rfl;exact j_r (by decide) (by decide) w2) ?_;refine .al ?_;refine .donep [some 22,some 8] ?_;intro w2 B2;rintro v0 ⟨s8,A8,n8,d8,rfl,hz8,hk8⟩;rintro g8 hg8 hl8 hc8 -;refine sh [_] ?_;simp only[Act.put,lS,lZ,lC];have b8:=zeroZ (T:=0) hc8;have hne:=ho.fresh hg8;replace ho:=ho.below B2;have hn8:=hz8.zero_len;subst hn8;clear B2 hc8 hk8;replace ho:=ho.zp (s:=s8) (A:=A8) (n:=0) (c:=d8) b8 (by omega) hne;have B0:=Below.refl w2.heap.size w2;have hs2:=B0.size;obtain⟨w3,hw3⟩:∃x,zput w2 g8 s8 A8 0 d8=x:=⟨_,rfl⟩;obtain⟨f1_,f2_,f3_,f4_,f5_⟩:=Ib.entry b8;replace hz8:=hz8.zp (s':=s8) (A':=A8) (n':=0) (c':=d8) b8;rw[hw3]at hz8 ho;replace b8:=b8.zp (s:=s8) (A:=A8) (n:=0) (c:=d8);rw[hw3]at b8;have Hw3:=Lib.hid hw3;unfold zput at Hw3;clear hw3 B0 hs2;have HT:Hid (OwnZ w1 w3 (k+k'+c) u5 (L.take (i*c'+j))/\∃s A n d,Bx w3 g8 31 [.bool s,.slice A n d]/\Zc w3 s A n d (dot F G i j (0))/\n<=k+k'+(0)):=Lib.hid ⟨ho,_,_,_,_,b8,hz8,Nat.zero_le _⟩;clear ho b8 hz8
     go_wp2_with fail
     rw[Hw3.out];clear f1_ f2_ f3_ f4_ f5_ Hw3;go_loopw [9] (fun s9 wr=>∃t:Nat,s9= .int .i64 (t:Int)/\t<=c/\Hid (OwnZ w1 wr (k+k'+c) u5 (L.take (i*c'+j))/\∃s A n d,Bx wr g8 31 [.bool s,.slice A n d]/\Zc wr s A n d (dot F G i j (t))/\n<=k+k'+(t))) (fun s9 _=>c - (intOf s9).toNat)
     case atStart=>exact⟨0,rfl,Nat.zero_le _,HT⟩
     case round=>
      clear HT;obtain⟨t,rfl,ht,HT⟩:=hrel;obtain⟨ho,s8,A8,n8,d8,b8,hz8,hk8⟩:=HT.out;clear HT;have Bq:=ho.old;have k2:=b2.below Bq;have k3:=b3.below Bq;obtain⟨i0,i1,i2,i3,i4,i5,i6⟩:=k2.m3;by_cases htl:t<c
      ·have u3:(t:Int)<(c:Int):=by omega
       go_upto_region 12 with fail
       clear i0 i1 i2 i3 i4 i5 i6;refine Run.start 11 ?_;refine .ld .o (ldZ b8 0) ?_;refine .ld .o (ldM k2 0) ?_;refine .mv .o ?_;refine .mv .o ?_;refine .c3 (.i 1) (.i 2) (.i 3) (x:=kV (F i t) k) (by rintro u v x w2 hB rfl rfl rfl;exact e_k (ha.below (zup HZ.out (zup Bq hB))) hlt htl) ?_;refine .ld .o (ldM k3 0) ?_;refine .mv .o ?_;refine .mv .o ?_;refine .c3 (.i 5) (.i 6) (.i 7) (x:=kV (G t j) k') (by rintro u v x w2 hB rfl rfl rfl;exact e_k (hb.below (zup HZ.out (zup Bq hB))) (by have:=hcr_.out;omega) hjl) ?_;refine .c2 (.i 4) (.i 8) (x:=kC (F i t*G t j) (k+k')) (by intro u v w2 hB h1 h2;exact d_r h1 h2 (by omega) (by omega) (Nat.le_refl _)) ?_;refine .c2 (.i 0) (.i 9) (x:=kC (dot F G i j (t+1)) (k+k'+(t+1))) (by rintro u v w2 hB rfl h2;exact j_w ⟨_,_,_,_,rfl,(hz8.below hB).zv,hk8⟩ h2.v (by omega) (by omega) (by omega)) ?_;refine .done [some 29,some 30,some 31,some 32,some 33,some 34,some 35,some 36,some 37,some 38,some 39] ?_;intro w4 B4;rintro v0 -;rintro v1 -;rintro v2 -;rintro v3 ⟨s9,A9,n9,d9,rfl,hz9,hk9⟩;refine sh [_] ?_;simp only[Act.put,lS,lZ,lC];replace ho:=ho.below B4;replace b8:=b8.below B4;obtain⟨w5,hw5⟩:∃x,zput w4 g8 s9 A9 n9 d9=x:=⟨_,rfl⟩;obtain⟨f1_,f2_,f3_,f4_,f5_⟩:=Ib.entry b8;replace ho:=ho.zp (s:=s9) (A:=A9) (n:=n9) (c:=d9) b8 (by omega) hne;replace hz9:=hz9.zp (s':=s9) (A':=A9) (n':=n9) (c':=d9) b8;replace b8:=b8.zp (s:=s9) (A:=A9) (n:=n9) (c:=d9);rw[hw5]at ho hz9 b8;have Hw5:=Lib.hid hw5;unfold zput at Hw5;have HN:Hid (OwnZ w1 w5 (k+k'+c) u5 (L.take (i*c'+j))/\∃s A n d,Bx w5 g8 31 [.bool s,.slice A n d]/\Zc w5 s A n d (dot F G i j (t+1))/\n<=k+k'+(t+1)):=Lib.hid ⟨ho,_,_,_,_,b8,hz9,hk9⟩;clear ho b8 hz8 hz9 k2 k3 B4 Bq hw5
       go_wp2_with fail
       rw[Hw5.out];go_roundw
       case rel=>exact⟨t+1,by go_num,by omega,HN⟩
       case measure=>first|(simp[intOf];done)|(simp[intOf];omega)
      ·obtain rfl:t=c:=by omega
       have u3:¬(t:Int)<(t:Int):=by omega
       have hlt2:=g_x hlt hjl;have HT:Hid (L.take (i*c'+j)++[dot F G i j t]=L.take (i*c'+(j+1))):=Lib.hid (by rw[<-hat_.out i j hlt hjl,m_a (by rw[hlen_.out];exact hlt2)];rfl);obtain⟨f1_,f2_,f3_,f4_,f5_⟩:=Ib.entry b8;have hlen3:(L.take (i*c'+j)).length<=1099511627776:=by rw[List.length_take,hlen_.out];omega
       have H3:=Lib.hid hlen3;clear b8 k2 k3 Bq hlen3
       go_wp2_with (at_builtin;refine g_0 w1 wr rfl _ _ 25 rfl Tryz.underlying25 info_zint _ _ _ (by rfl) ho _ _ _ _ _ hz8 hk8 (by rfl) H3.out ?_)
       intro v1 w10 ho1;rw[HT.out]at ho1;have HN:=Lib.hid ho1;clear ho hz8 ho1 f1_ f2_ f3_ f4_ f5_ i0 i1 i2 i3 i4 i5 i6
       go_wp2_with fail
       go_roundw
       case rel=>exact⟨j+1,by go_num,by omega,HN⟩
       case measure=>first|(simp[intOf];done)|(simp[intOf];omega)
    ·obtain rfl:j=c':=by omega
     have u2:¬(j:Int)<(j:Int):=by omega
     rw[show i*j+j=(i+1)*j by rw[Nat.succ_mul]]at HO
     go_wp2_with fail
     go_roundw
     case rel=>exact⟨i+1,by go_num,by omega,HO⟩
     case measure=>first|(simp[intOf];done)|(simp[intOf];omega)
  ·obtain rfl:i=r:=by omega
   have u1:¬(i:Int)<(i:Int):=by omega
   have P:=Lib.hid (retZs HO.out (zup HZ.out HO.out.old));rw[List.take_of_length_le (by rw[hlen_.out];exact Nat.le_refl _)]at P;obtain⟨A5,c5,rfl,_⟩:=HO.out.form;clear HO
   go_wp2_with fail
   exact bodyPost_ret (v:=.slice A5 _ c5) (by simp[results,Tryz.results92,go_sem]) rfl P.out
end
section
open Go.RowKit
def kAny:FK:=.f (fun _ _=>True) (fun _ _ _ _ _=>trivial)
def Weak:List FK->List FK->Prop
 | [],[]=>True
 | .a T::l,.a U::l0=>T=U/\Weak l l0
 | .k v::l,.k u::l0=>v=u/\Weak l l0
 | .k v::l,.f F _::l0=>(∀w,F v w)/\Weak l l0
 | .f F _::l,.f G _::l0=>(∀v w,F v w->G v w)/\Weak l l0
 |_,_=>False
section
variable {ops:Array Oper}{Q:Exit->Act->World->Prop}{m:Nat}{a0 a:Act}{w0 w:World}{b:Bool}{id:Nat}
theorem EndQ.weak:∀ {l l0:List FK} {acc:List Nat} {ds:List (Option Nat)} {a:Act},Weak l l0->EndQ ops Q m w0 w acc l0 ds a->EndQ ops Q m w0 w acc l ds a
 | [],[],acc,ds,a,_,h=>h
 | .a T::l,.a U::l0,acc,[],a,hw,h=>h
 | .a T::l,.a U::l0,acc,d::ds,a,hw,h=>fun g e1 e2 e3 e4=>EndQ.weak hw.2 (h g e1 e2 (by rw[<-hw.1];exact e3) e4)
 | .k v::l,.k u::l0,acc,[],a,hw,h=>h
 | .k v::l,.k u::l0,acc,d::ds,a,hw,h=>by
  obtain⟨rfl,hw⟩:=hw;exact EndQ.weak (l:=l) (a:=a.put d v) hw h
 | .k v::l,.f F hF::l0,acc,[],a,hw,h=>h
 | .k v::l,.f F hF::l0,acc,d::ds,a,hw,h=>EndQ.weak (l:=l) (a:=a.put d v) hw.2 (h v (hw.1 w))
 | .f F hF::l,.f G hG::l0,acc,[],a,hw,h=>h
 | .f F hF::l,.f G hG::l0,acc,d::ds,a,hw,h=>fun u hu=>EndQ.weak hw.2 (h u (hw.1 u w hu))
 | .f _ _::_,.k _::_,_,_,_,hw,_=>hw.elim
 | .f _ _::_,.a _::_,_,_,_,hw,_=>hw.elim
 | .k _::_,.a _::_,_,_,_,hw,_=>hw.elim
 | .a _::_,.k _::_,_,_,_,hw,_=>hw.elim
 | .a _::_,.f _ _::_,_,_,_,hw,_=>hw.elim
 | [],_::_,_,_,_,hw,_=>hw.elim
 | .k _::_,[],_,_,_,hw,_=>hw.elim
 | .f _ _::_,[],_,_,_,hw,_=>hw.elim
 | .a _::_,[],_,_,_,hw,_=>hw.elim
theorem Run.merge (m:Nat)(l0:List FK)(ds:List (Option Nat))(ways:(∀w,Below w0.heap.size w0 w->EndQ ops Q m w0 w [] l0 ds a0)->R ops Q m a0 w0 b id [] 0)(hend:∀w,Below w0.heap.size w0 w->EndQ ops Q m w0 w [] l0 ds a0):(Code.region id ops b).wp Tryz.prog Q a0 w0:=Run.start m (ways hend)
end
section
variable {w:World}{g h:Nat}{T:TypeId}{cs:List Value}{s t:Bool}{A B:Option Addr}{n c m d e:Nat}{r c' x y z:Int}
theorem Bx.mo {c:Int}{n d:Nat}(b:Bx w h T cs)(hn:h≠g):Bx (mput w g r c A n d) h T cs:=((b.off hn _ _).off hn _ _).off hn _ _
theorem Bx.mp {c:Int}{n d:Nat}(b:Bx w g 27 [.int .i64 x,.int .i64 y,.slice B m e]):Bx (mput w g r c A n d) g 27 [.int .i64 r,.int .i64 c,.slice A n d]:=((b.set 0 _).set 1 _).set 2 _
theorem zeroM (h:w.heap[g]? =some (zeroObj 27)):Bx w g 27 [.int .i64 0,.int .i64 0,.slice none 0 0]:=h.trans (congrArg some (by kernel_rfl))
end
def IsIJ (xs:List Int):FVal:=fun v w=>∃g,v= .slice (some ⟨g,0,none⟩) xs.length xs.length/\Il w (some ⟨g,0,none⟩) xs.length xs.length xs
def kIJ (xs:List Int):FK:=.f (IsIJ xs) (fun v w w' ⟨g,e,h⟩ hb=>⟨g,e,h.below hb⟩)
def okBsJ (ops:Array Oper)(m i:Nat)(ss:List Src):Bool:=okH ops m i&&(match(opAt ops i).op with| .buildSlice T n xs=>T==110&&n==ss.length&&xs.toList.map (·.1)==List.range ss.length&&okSrcs ops m i (xs.toList.map (·.2)) ss|_=>false)
end
section
open Go.RowKit
def mf (R:List Zr)(c:Nat):Nat->Nat->Int:=fun i j=>ith (nums R) (i*c+j)
theorem s_k {R:List Zr}{r c n:Nat}(hl:R.length=n)(hn:n=r*c):mk r c (mf R c)=nums R:=r_k (by unfold nums;rw[List.length_map,hl,hn])
theorem g_t {r c:Int}{R:List Zr}{N W:Nat}(h:fewb r c R N W=true):r<=N/\c<=N/\Fw R 100 W:=by
 unfold fewb at h;simp only[Bool.and_eq_true,decide_eq_true_eq]at h;exact⟨h.1.1,h.1.2,r_e h.2⟩
theorem RL.few {w:World}{A:Option Addr}{n d:Nat}{R:List Zr}{r c:Int}{N W:Nat}(h:RL w A n d R)(hw:fewb r c R N W=true):ZL false w A n d W (nums R):=
 h.zl fun j hj=>r_w (g_t hw).2.2 (by omega) j (by rw[h.len];exact hj)
theorem RL.mt {w:World}{A:Option Addr}{n d:Nat}{R:List Zr}{r c:Int}{N W:Nat}(h:RL w A n d R)(hf:fmd r c n=true)(hw:fewb r c R N W=true):∃r' c':Nat,r=r'/\c=c'/\r'<=N/\c'<=N/\n=r'*c'/\Mt false w r' c' A n d W (mf R c'):=by
 unfold fmd at hf;simp only[Bool.and_eq_true,decide_eq_true_eq]at hf;obtain⟨⟨h1,h2⟩,h3⟩:=hf;obtain⟨a1,a2⟩:=m_g h1;obtain⟨b1,b2⟩:=m_g h2;obtain⟨e1,e2,_⟩:=g_t hw;obtain⟨r',rfl⟩:=Int.eq_ofNat_of_zero_le a1;obtain⟨c',rfl⟩:=Int.eq_ofNat_of_zero_le b1;have hn:n=r'*c':=by
  have:(n:Int)=((r'*c':Nat):Int):=by rw[h3];simp
  omega
 refine⟨r',c',rfl,rfl,by omega,by omega,hn, ?_,by omega,by omega⟩;rw[s_k h.len hn];exact h.few hw
theorem EndQ.weaker {ops:Array Oper}{Q:Exit->Act->World->Prop}{m:Nat}{w0 w:World}{l l0:List FK}{acc:List Nat}{ds:List (Option Nat)}{a:Act}(h:EndQ ops Q m w0 w acc l0 ds a)(hw:Weak l l0):EndQ ops Q m w0 w acc l ds a:=EndQ.weak hw h
end
section
open Go.RowKit
def OwnI (w:World)(base:Nat)(e:TypeId)(v:Value)(n:Nat)(xs:List Value):Prop:=
 w.ownsRow base e 1 v n xs/\∀g cs,v.ownBlock=some g->w.heap[g]? =some (.cells cs e (0,0))->∀u,u∈cs.toList->NWd u
theorem j_u {z:Array Value}(hs:z.size=1)(hz:∀u,u∈z.toList->NWd u)(k:Nat)(u:Value)(hu:u∈(Builtin.zeroCells z k).toList):NWd u:=by
 unfold Builtin.zeroCells at hu;rw[Array.toList_map,List.mem_map]at hu;obtain⟨i,hi,rfl⟩:=hu;have hlt:i%z.size<z.size:=Nat.mod_lt _ (by omega);rw[getElem!_pos z _ hlt];exact hz _ (Array.getElem_mem_toList hlt)
section
variable {P:Program}(w:World)
theorem g_f (base:Nat)(t ty e:TypeId)(i:TypeInfo)(z:Value)(bytes:Nat)(ht:P.underlying t=some (.slice e))(hi:P.info? e=some i)(hz:i.zero=some z)
  (hsize:i.size=1) (hby:i.bytes=bytes) (hzs:z.cells.size=1) (hzn:∀u,u∈z.cells.toList->NWd u)
  (v:Value) (n:Nat) (xs:List Value) (hown:OwnI w base e v n xs)
  (a:Addr) (c:Nat) (news:List Value) (hl:news.length=1) (hnews:∀j u,news[j]? =some u->w.cell? (a.add j)=some u) (h1:∀u∈news,u.oneCell'=true) (hn:∀u,u∈news->NWd u)
  (h63:n+1<=maxLen) (hbytes:(n+1)*bytes<=140737488355328) (hbase:base<=w.heap.size):
  ∃v' w',(Builtin.append_ #[t,t] ty #[v,.slice (some a) 1 c]).run P w= .ok v' w'/\OwnI w' base e v' (n+1) (xs++news)/\w.grownBy w' v.ownBlock/\(v'.ownBlock=v.ownBlock\/v'.ownBlock=some w.heap.size):=by
 obtain⟨v',w',hr,ho,hg,-⟩:=run_append_own (P:=P) w base t ty e i z 1 bytes ht hi hz hsize hby hzs (by omega) v n xs hown.1 a 1 c news (by omega) hnews h1 h63 hbytes hbase;suffices H:(∀g cs,v'.ownBlock=some g->w'.heap[g]? =some (.cells cs e (0,0))->∀u,u∈cs.toList->NWd u)/\(v'.ownBlock=v.ownBlock\/v'.ownBlock=some w.heap.size)from⟨v',w',hr,⟨ho,H.1⟩,hg,H.2⟩
 have hsmall:n+1<=9223372036854775807:=by simp only[maxLen]at h63;omega
 have zz:=j_u hzs hzn;have fresh:∀(ys:List Value) (k:Nat) (cap:Nat),(∀u,u∈ys->NWd u)->v'= .slice (some ⟨w.heap.size,0,none⟩) (n+1) cap->w'=w.drew.alloc (.cells (ys.toArray++news.toArray++Builtin.zeroCells z.cells k) e)->
   ∀g cs,v'.ownBlock=some g->w'.heap[g]? =some (.cells cs e (0,0))->∀u,u∈cs.toList->NWd u:=fun ys k cap hys e1 e2 g cs h2 h3 u hu=>by
  subst e1 e2;have e3:w.heap.size=g:=by simpa [Value.ownBlock] using h2
  subst e3;have h9:(w.drew.alloc (.cells (ys.toArray++news.toArray++Builtin.zeroCells z.cells k) e)).heap[w.heap.size]? =some (.cells (ys.toArray++news.toArray++Builtin.zeroCells z.cells k) e (0,0)):=heap_alloc_new w.drew _;rw[h9]at h3;injection h3 with e4
  injection e4 with e5
  subst e5;simp only[Array.toList_append,List.mem_append]at hu;rcases hu with(hu|hu)|hu
  ·exact hys u hu
  ·exact hn u hu
  ·exact zz k u hu
 rcases hown.1.2 with⟨rfl,rfl⟩|⟨g,cap,cur,rfl,hbg,hh,hnc,hcm,hcs,htake⟩
 ·have hr2:=Go.run_append_nil (P:=P) w t ty e i z ht hi hz a 1 c news (by omega) hnews (by omega) (by omega) (by simp only[Nat.zero_add]at hbytes;omega);rw[hr]at hr2;injection hr2 with e1 e2
  exact⟨fresh [] (grownCap w 1 0 e - 1) (grownCap w 1 0 e) (fun u hu=>nomatch hu) e1 (by rw[e2];simp),.inr (by rw[e1];rfl)⟩
 ·have hcur:∀u,u∈cur.toList->NWd u:=hown.2 g cur rfl hh;have hxs:∀u,u∈xs->NWd u:=fun u hu=>hcur u (by rw[<-htake]at hu;exact List.mem_of_mem_take hu);by_cases hroom:n+1<=cap
  ·have hfit:n*i.size+news.length<=cur.size:=by rw[hl,hcs,hsize];omega
   have hr2:=run_append_room (P:=P) w t ty e i ht hi g n cap cur hh a 1 c news (by omega) hnews h1 hroom hfit;rw[hr]at hr2;injection hr2 with e1 e2
   refine⟨?_,.inl (by rw[e1];rfl)⟩;intro g' cs h2 h3 u hu;subst e1 e2;have e3:g=g':=by simpa [Value.ownBlock] using h2
   subst e3;rw[setRow_heap w g cur _ e _ hh]at h3;injection h3 with e4
   injection e4 with e5
   subst e5;simp only[List.mem_append]at hu;rcases hu with(hu|hu)|hu
   ·exact hcur u (List.mem_of_mem_take hu)
   ·exact hn u hu
   ·exact hcur u (List.mem_of_mem_drop hu)
  ·have holds:∀j u,xs[j]? =some u->w.cell? ((⟨g,0,none⟩:Addr).add j)=some u:=hown.1.cells (g:=g) rfl;have hr2:=run_append_grow (P:=P) w t ty e i z ht hi hz ⟨g,0,none⟩ n cap xs (by rw[hown.1.1,hsize]) holds a 1 c news (by omega) hnews (by omega) (by omega) (growslice_fits (by omega) (by rw[hby];exact hbytes));rw[hr]at hr2;injection hr2 with e1 e2
   exact⟨fresh xs _ _ hxs e1 e2,.inr (by rw[e1];rfl)⟩
end
theorem OwnI.lt {w:World}{base:Nat}{e:TypeId}{v:Value}{n:Nat}{xs:List Value}(h:OwnI w base e v n xs){g:Nat}(hg:v.ownBlock=some g):base<=g/\g<w.heap.size:=h.1.lt g hg
theorem OwnI.below {w w':World}{base:Nat}{e:TypeId}{v:Value}{n:Nat}{xs:List Value}(h:OwnI w base e v n xs)(hb:Below w.heap.size w w'):OwnI w' base e v n xs:=by
 refine⟨h.1.kept (row:=none) ⟨hb.os,hb.tape,hb.output,hb.size,fun k hk _=>hb.block k hk⟩ (by cases hv:v.ownBlock<;>simp),fun g cs hv hc=>h.2 g cs hv ?_⟩;rw[<-hb.block g (h.lt hv).2];exact hc
theorem OwnI.nil (w:World)(base:Nat)(e:TypeId):OwnI w base e (.slice none 0 0) 0 []:=⟨World.ownsRow_nil w _ _ _,fun g cs h=>nomatch h⟩
theorem OwnI.form {w:World}{base:Nat}{e:TypeId}{v:Value}{n:Nat}{xs:List Value}(h:OwnI w base e v n xs):∃A c,v= .slice A n c/\n<=c/\c<=9223372036854775807/\(0<n->∃g,A=some ⟨g,0,none⟩/\g<w.heap.size/\∀j u,xs[j]? =some u->w.cell? ⟨g,j,none⟩=some u):=by
 rcases h.1.2 with⟨rfl,rfl⟩|⟨g,cap,cur,rfl,hb,hh,hn,hm,hcs,ht⟩
 ·exact⟨none,0,rfl,Nat.le_refl _,by omega,fun h=>by omega⟩
 ·refine⟨_,cap,rfl,hn,by unfold maxLen at hm;omega,fun h0=>⟨g,rfl,(Array.getElem?_eq_some_iff.1 hh).1,fun j u hu=>?_⟩⟩
  have:=h.1.cells (g:=g) rfl j u hu;rwa [b_i]at this
theorem i_z {P:Program}{w:World}{ops:Array Oper}{rest:List Oper}{o:Oper}{a:Act}{Q:Exit->Act->World->Prop}(hgd:o.guard=none)(s x:Operand)(t:TypeId)
  (ho:o.op= .call { callee:=.builtin .append,args:=#[s,x],argTypes:=#[t,t] }) (base:Nat) (e:TypeId) (bytes:Nat) (zv:Value)
  (ht:P.underlying t=some (.slice e)) (hinfo:(P.info? e).map (fun i=>(i.zero,i.size,i.bytes))=some (some zv,1,bytes)) (hzs:zv.cells.size=1) (hzn:∀u,u∈zv.cells.toList->NWd u) (hby:bytes<=64)
  (v:Value) (n:Nat) (xs:List Value) (hs:a.eval s=v) (hown:OwnI w base e v n xs) {g:Nat} {T:TypeId} {u:Value} (hone:Bx w g T [u]) (h1:u.oneCell'=true) (hnw:NWd u)
  (hx:a.eval x= .slice (some ⟨g,0,none⟩) 1 1) (hlen:n<=1099511627776) (hbase:base<=w.heap.size)
  (h:∀v' w',OwnI w' base e v' (n+1) (xs++[u])->Grew w w' v v'->wpList P ops Q rest (a.put o.dst v') w'):wpList P ops Q (o::rest) a w:=by
 obtain⟨i,hi,hz0,hz1,hz2⟩:=info_parts hinfo;obtain⟨v',w',hr,h2,h3,h4⟩:=g_f (P:=P) w base t o.type e i zv bytes ht hi hz0 hz1 hz2 hzs hzn v n xs hown ⟨g,0,none⟩ 1 [u] rfl (fun j y hy=>by
  rw[b_i];match j,hy with
  |0,hy=>simp at hy;subst hy;exact hone.cell 0) (by simpa using h1) (by simpa using hnw) (by unfold maxLen;omega) (by have:(n+1)*bytes<=(1099511627776+1)*64:=Nat.mul_le_mul (by omega) hby;omega) hbase
 refine wpList_plain hgd fun K' hK'=>?_;unfold Oper.wp execOp;simp only[ho,resolve,invoke,builtin,Sem.run_bind,Sem.run_pure,Result.andThen_ok,List.map_toArray,List.map_cons,List.map_nil,hs,hx,hr];exact hK' _ _ (h v' w' h2 ⟨h3,fun g hg=>by
  intro p m hp hc;rcases hown.1.2 with⟨rfl,_⟩|⟨g',cap,cur,rfl,hb,hh,_⟩
  ·cases hg
  ·have e':g'=g:=by simpa [Value.ownBlock] using hg
   subst e';have e2:cur[p.off]? =some (.int .u64 m):=by
    unfold World.cell? at hc;rw[hp,hh]at hc;exact(by simpa using hc:p.spot=none/\cur[p.off]? =some (.int .u64 m)).2
   exact hown.2 g' cur hg hh (.int .u64 m) (by rw[<-Array.getElem?_toList]at e2;exact List.mem_of_getElem? e2) m rfl,h4⟩)
theorem p_9 {w0 w w':World}{v v':Value}(hb:Below w0.heap.size w0 w)(hG:Grew w w' v v')(hv:∀g,v.ownBlock=some g->w0.heap.size<=g):Below w0.heap.size w0 w':=by
 have h:=hG.by';cases e:v.ownBlock with
 |none=>rw[e]at h;exact zup hb ⟨h.os,h.tape,h.output,h.size,fun k hk=>h.block k hk (by simp)⟩
 |some g=>rw[e]at h;exact g_s hb h (hv g e)
theorem OwnI.up {w0 w w':World}{base n:Nat}{e:TypeId}{v v':Value}{xs:List Value}(h:OwnI w base e v n xs)(hb:Below w0.heap.size w0 w)(hG:Grew w w' v v')(h0:w0.heap.size<=base):Below w0.heap.size w0 w':=p_9 hb hG fun g hg=>Nat.le_trans h0 (h.lt hg).1
end
end Go.Proofs.YtfhbdlegkdbmfaaGreat
