/-
  The law HnfIs.
-/
import Derived.Test.YtgohglhefhocgaaGreatPhX11
set_option linter.unusedVariables false
set_option linter.unusedSimpArgs false
set_option linter.unusedSectionVars false
set_option maxRecDepth 100000
set_option maxHeartbeats 8000000
namespace Go.Proofs.YtgohglhefhocgaaGreat
open Go.RowKit
theorem o_k {r c:Nat}{F G:Nat→Nat→Int}(h:DT.Herm r c F)(e:∀i j,i<r→j<c→F i j=G i j):DT.Herm r c G:=by
 rw[e_w]at h ⊢;intro i hi hc;have ei:∀x,x<r→DT.fst c (G x)=DT.fst c (F x):=fun x hx=>DT.fst_ext fun j hj=>(e x j hx hj).symm;rw[ei i hi]at hc ⊢;obtain⟨h1,h2,h3⟩:=h i hi hc;refine⟨fun h0=>by rw[ei (i - 1) (by omega)];exact h1 h0,by rw[←e i _ hi hc];exact h2,fun x hx=>?_⟩;rw[←e x _ (by omega) hc,←e i _ hi hc];exact h3 x hx
theorem m_a {r c:Nat}{F H U:Nat→Nat→Int}(h:HermOk r c F H U):DT.Herm r c F↔(r=r∧c=c∧∀i j,i<r→j<c→H i j=F i j):=
 ⟨fun h2=>⟨rfl,rfl,DT.herm_uniq h.hm h2 h.lat⟩,fun h2=>o_k h.hm h2.2.2⟩
theorem l_2 (c:Nat)(F:Nat→Nat→Int){i:Nat}:∀ {r:Nat},i≤r→∃l,lds c F r=lds c F i++l
 |0,h=>⟨[],by rw[show i=0 by omega];simp⟩
 |r+1,h=>by
  by_cases e:i=r+1
  ·exact⟨[],by rw[e];simp⟩
  ·obtain⟨l,hl⟩:=l_2 c F (i:=i) (r:=r) (by omega);by_cases h2:DT.fst c (F r)<c
   ·exact⟨l++[DT.fst c (F r)],by rw[show lds c F (r+1)=lds c F r++[DT.fst c (F r)] by show(if _ then _ else _)=_;rw[if_pos h2],hl,List.append_assoc]⟩
   ·exact⟨l,by rw[show lds c F (r+1)=lds c F r by show(if _ then _ else _)=_;rw[if_neg h2],hl]⟩
theorem q_7 {c r i:Nat}{F:Nat→Nat→Int}(hi:i<r)(h:DT.fst c (F i)<c):(lds c F i).length<(lds c F r).length∧(ints (lds c F r))[(lds c F i).length]? =some (.int .i64 (DT.fst c (F i):Int))∧(lds c F (i+1)).length=(lds c F i).length+1:=by
 obtain⟨l,hl⟩:=l_2 c F (i:=i+1) (r:=r) hi;have e:lds c F (i+1)=lds c F i++[DT.fst c (F i)]:=by show(if _ then _ else _)=_;rw[if_pos h]
 rw[hl,e];refine⟨by simp,by simp[ints],by simp⟩
theorem q_6 {c i:Nat}{F:Nat→Nat→Int}(h:¬DT.fst c (F i)<c):lds c F (i+1)=lds c F i:=by show(if _ then _ else _)=_;rw[if_neg h]
theorem hbd_two:∀ {V:Nat},V≤10→hbd 2 V:=fun {V} h=>⟨by decide,by decide,by
 have:∀V,V<11→t1 2 V*(V+3)≤68719476736:=by decide
 exact this V (by omega)⟩
theorem l_h {w:World}{g k n c:Nat}(h:k<n):(Instr.indexAt 44 (.slice (some ⟨g,0,none⟩) n c) (.int .i64 (k:Int))).run Tryz.prog w= .ok (.pointer (some ⟨g,k,none⟩)) w:=by
 simp[go_sem,Tryz.underlying44,show Tryz.prog.cellsOf 3=1 by kernel_rfl];omega
theorem opIxI14 {g n c k:Nat}{X Y:Operand}(h:k<n)(w:World):RunTwo Tryz.prog (.indexAddr 44 X Y) w (.slice (some ⟨g,0,none⟩) n c) (.int .i64 (k:Int)) (.pointer (some ⟨g,k,none⟩)):=l_h h
theorem ldI14 {w:World}{p:Addr}{x:Int}(hp:p.block<w.heap.size)(h:w.cell? p=some (.int .i64 x)):∀w',Below w.heap.size w w'→(Instr.loadAt 3 (.pointer (some p))).run Tryz.prog w'= .ok (.int .i64 x) w':=fun w' hb=>by
 have h:=(hb.cell hp).trans h;simp[go_sem,a_p,h]
theorem i_k (p:Prop):∃b:Bool,b=true↔p:=⟨@decide p (Classical.propDecidable p),@decide_eq_true_iff p (Classical.propDecidable p)⟩
theorem o_d {r c:Int}{A:Option Addr}{n d:Nat}{R:List Zr}{w:World}(ha:RL w A n d R)(h:fewb r c R 5 2=false):Calls Tryz.prog 5 #[.agg #[.int .i64 r,.int .i64 c,.slice A n d]] w (RetK (.k (.bool true)) w):=by
 obtain⟨w1,hw1,b1,z1,s1⟩:=boxes1 w 24 [.int .i64 r,.int .i64 c,.slice A n d];have HW:=Lib.hid hw1;have HZ:=Lib.hid z1;have h_:=Lib.hid h;clear hw1 z1 h s1;go_enter Tryz.func5,Tryz.ntmps5
 go_upto_region 1 with fail
 rw[HW.out];refine Run.start 7 ?_;refine .c0 (x:=.k (.bool true)) (fun w2 hB=>a_k w2) ?_;refine .nt (.i 0) ?_;refine .mv (.i 1) ?_;refine .ld .o (ldM b1 0) ?_;refine .c3 (.i 3) .o .o (x:=.k (.bool false)) (by rintro u v x_ w2 hB rfl rfl rfl;exact a_o (N:=5) (W:=2) (ha.below (zup HZ.out hB)) h_.out (by decide)) ?_;refine .nf (.i 4) ?_;refine .pk (.i 2) (.i 5) false ?_;refine .donep [some 10,some 11,some 12,some 13,some 14,some 15,some 16] ?_;intro w2 B2;change Shut (wpList _ _ _ [] _ _);refine⟨?_⟩;simp only[Act.put,lS,lZ,lC];have B0:=zup HZ.out B2;clear b1 B2;go_upto_region 2 with fail
 refine Run.start 2 ?_;refine .c0 (x:=.k (.bool true)) (fun w2 hB=>a_k w2) ?_;refine .mv (.i 0) ?_;refine .donep [some 17,some 2] ?_;intro w3 B3;change Shut (wpList _ _ _ [] _ _);refine⟨?_⟩;simp only[Act.put,lS,lZ,lC]
 go_wp2_with fail
 exact bodyPost_ret (v:=.bool true) (by simp[results,Tryz.results5,go_sem]) rfl (a_r rfl (zup B0 B3))
theorem r_l {r c:Int}{A:Option Addr}{n d:Nat}{R:List Zr}{w:World}(ha:RL w A n d R)(h:fewb r c R 5 2=true)(hf:fmd r c n=false):Calls Tryz.prog 5 #[.agg #[.int .i64 r,.int .i64 c,.slice A n d]] w (RetK (.k (.bool true)) w):=by
 obtain⟨w1,hw1,b1,z1,s1⟩:=boxes1 w 24 [.int .i64 r,.int .i64 c,.slice A n d];have HW:=Lib.hid hw1;have HZ:=Lib.hid z1;have h_:=Lib.hid h;have hf_:=Lib.hid hf;clear hw1 z1 h hf s1;go_enter Tryz.func5,Tryz.ntmps5
 go_upto_region 1 with fail
 rw[HW.out];refine Run.start 7 ?_;refine .c0 (x:=.k (.bool true)) (fun w2 hB=>a_k w2) ?_;refine .nt (.i 0) ?_;refine .mv (.i 1) ?_;refine .ld .o (ldM b1 0) ?_;refine .c3 (.i 3) .o .o (x:=.k (.bool true)) (by rintro u v x_ w2 hB rfl rfl rfl;exact a_o (N:=5) (W:=2) (ha.below (zup HZ.out hB)) h_.out (by decide)) ?_;refine .nt (.i 4) ?_;refine .pk (.i 2) (.i 5) false ?_;refine .donep [some 10,some 11,some 12,some 13,some 14,some 15,some 16] ?_;intro w2 B2;change Shut (wpList _ _ _ [] _ _);refine⟨?_⟩;simp only[Act.put,lS,lZ,lC];have B0:=zup HZ.out B2;replace b1:=b1.below B2;clear B2 HZ;go_upto_region 3 with fail
 refine Run.start 3 ?_;refine .ld .o (ldM b1 0) ?_;refine .c1 (.i 0) (x:=.k (.slice none 0 0)) (by rintro u_ w2 hB rfl;exact q_t hf_.out) ?_;refine .mv (.i 1) ?_;refine .donep [some 18,some 19,some 3] ?_;intro w3 B3;change Shut (wpList _ _ _ [] _ _);refine⟨?_⟩;simp only[Act.put,lS,lZ,lC];replace B0:=zup B0 B3;replace b1:=b1.below B3;clear B3;go_upto_region 4 with fail
 refine Run.start 3 ?_;refine .ld .o (ldM b1 0) ?_;refine .c1 (.i 0) (x:=.k (.bool false)) (by rintro u_ w2 hB rfl;exact a_h hf_.out w2) ?_;refine .nf (.i 1) ?_;refine .donep [some 20,some 21,some 22] ?_;intro w4 B4;change Shut (wpList _ _ _ [] _ _);refine⟨?_⟩;simp only[Act.put,lS,lZ,lC];replace B0:=zup B0 B4;replace b1:=b1.below B4;clear B4;go_upto_region 5 with fail
 refine Run.start 9 ?_;refine .ld .o (ldM b1 0) ?_;refine .c1 (.i 0) (x:=.k (.bool false)) (by rintro u_ w2 hB rfl;exact u_d hf_.out) ?_;refine .nf (.i 1) ?_;refine .mv (.i 2) ?_;refine .mv .o ?_;refine .len (.i 4) Tryz.underlying44 ?_;refine .two (.i 5) .o (opEq (by decide:decide ((0:Int)=0)=true)) ?_;refine .pk (.i 3) (.i 6) true ?_;refine .mv (.i 7) ?_;refine .donep [some 23,some 24,some 25,some 26,some 27,some 28,some 29,some 30,some 2] ?_;intro w5 B5;change Shut (wpList _ _ _ [] _ _);refine⟨?_⟩;simp only[Act.put,lS,lZ,lC]
 go_wp2_with fail
 exact bodyPost_ret (v:=.bool true) (by simp[results,Tryz.results5,go_sem]) rfl (a_r rfl (zup B0 B5))
theorem o_c {r c:Nat}{A:Option Addr}{n d:Nat}{R:List Zr}{w:World}{F:Nat→Nat→Int}(ha:RL w A n d R)(h:fewb (r:Int) (c:Int) R 5 2=true)(hr:r≤5)(hc:c≤5)(hM:Mt false w r c A n d 2 F):Calls Tryz.prog 5 #[.agg #[.int .i64 (r:Int),.int .i64 (c:Int),.slice A n d]] w (RetK (.k (.bool true)) w):=by
 have hf:=hM.fmd;have HM:=Lib.hid hM;obtain⟨K,hK⟩:∃K,tm 2 (c+r)=K:=⟨_,rfl⟩;have hKb:K≤31:=by rw[←hK];unfold tm;omega
 have HK:=Lib.hid hK;obtain⟨bh,hbh⟩:=i_k (DT.Herm r c F);have HBH:=Lib.hid hbh;clear hM hK hbh;obtain⟨w1,hw1,b1,z1,s1⟩:=boxes1 w 24 [.int .i64 (r:Int),.int .i64 (c:Int),.slice A n d];have HW:=Lib.hid hw1;have HZ:=Lib.hid z1;have h_:=Lib.hid h;have hf_:=Lib.hid hf;clear hw1 z1 h hf s1;go_enter Tryz.func5,Tryz.ntmps5
 go_upto_region 1 with fail
 rw[HW.out];refine Run.start 7 ?_;refine .c0 (x:=.k (.bool true)) (fun w2 hB=>a_k w2) ?_;refine .nt (.i 0) ?_;refine .mv (.i 1) ?_;refine .ld .o (ldM b1 0) ?_;refine .c3 (.i 3) .o .o (x:=.k (.bool true)) (by rintro u v x_ w2 hB rfl rfl rfl;exact a_o (N:=5) (W:=2) (ha.below (zup HZ.out hB)) h_.out (by decide)) ?_;refine .nt (.i 4) ?_;refine .pk (.i 2) (.i 5) false ?_;refine .donep [some 10,some 11,some 12,some 13,some 14,some 15,some 16] ?_;intro w2 B2;change Shut (wpList _ _ _ [] _ _);refine⟨?_⟩;simp only[Act.put,lS,lZ,lC];have B0:=zup HZ.out B2;replace b1:=b1.below B2;clear B2 HZ HW ha h_;go_upto_region 3 with fail
 refine Run.start 3 ?_;refine .ld .o (ldM b1 0) ?_;refine .c1 (.i 0) (x:=kIs (lds c F r)) (by rintro u_ w2 hB rfl;exact s_x (HM.out.below (zup B0 hB)) (by decide)) ?_;refine .mf (.i 1) ?_;refine .donep [some 18,some 19,some 3] ?_;intro w3 B3;rintro v19 -;rintro v ⟨bs,ho⟩;change Shut (wpList _ _ _ [] _ _);refine⟨?_⟩;simp only[Act.put,lS,lZ,lC];obtain⟨A3,c3,rfl,hle3,hcap3,hI3⟩:=ho.form;obtain⟨m,hm⟩:∃m,(lds c F r).length=m:=⟨_,rfl⟩;have hm5:m≤5:=by rw[←hm];have:=j_e c F r;omega
 rw[hm]at hle3 hI3;have HI:=Lib.hid hI3;have HMM:=Lib.hid hm;replace B0:=zup B0 B3;replace b1:=b1.below B3;rw[hm];clear B3 ho hI3 hm;go_upto_region 4 with fail
 refine Run.start 3 ?_;refine .ld .o (ldM b1 0) ?_;refine .c1 (.i 0) (x:=.k (.bool true)) (by rintro u_ w2 hB rfl;exact a_h hf_.out w2) ?_;refine .nt (.i 1) ?_;refine .donep [some 20,some 21,some 22] ?_;intro w4 B4;change Shut (wpList _ _ _ [] _ _);refine⟨?_⟩;simp only[Act.put,lS,lZ,lC];have H0:Hid (Below w.heap.size w w4∧Below w3.heap.size w3 w4∧Bx w4 w.heap.size 24 [.int .i64 (r:Int),.int .i64 (c:Int),.slice A n d]):=Lib.hid ⟨zup B0 B4,B4,b1.below B4⟩;clear B0 B4 b1
 go_wp2_with fail
 go_loopw [5,4] (fun s5 s4 wr=>∃i k:Nat,s5= .int .i64 (i:Int)∧s4= .int .i64 (k:Int)∧i≤r∧Hid ((lds c F i).length=k)∧Hid (Below w.heap.size w wr∧Below w3.heap.size w3 wr∧Bx wr w.heap.size 24 [.int .i64 (r:Int),.int .i64 (c:Int),.slice A n d])) (fun s5 _ _=>r - (intOf s5).toNat)
 case atStart=>exact⟨0,0,rfl,rfl,Nat.zero_le _,Lib.hid rfl,H0⟩
 case round=>
  obtain⟨i,k,rfl,rfl,hir,HLK,HB⟩:=hrel;clear H0;obtain⟨B0,B1,b1⟩:=HB.out;clear HB;have hk5:k≤5:=by rw[←HLK.out];have:=j_e c F i;omega
  by_cases hi:i<r
  ·have u2:decide ((i:Int)<(r:Int))=true:=decide_eq_true (by omega);go_upto_region 8 with fail
   refine Run.start 4 ?_;refine .mv .o ?_;refine .fa .o (fM0 0) ?_;refine .ld (.i 1) (ldInt b1 0) ?_;refine .two (.i 0) (.i 2) (opLt u2) ?_;refine .donep [some 31,some 32,some 33,some 34] ?_;intro w5 B5;change Shut (wpList _ _ _ [] _ _);refine⟨?_⟩;simp only[Act.put,lS,lZ,lC];replace B0:=zup B0 B5;replace B1:=zup B1 B5;replace b1:=b1.below B5;clear B5;obtain⟨f,hf⟩:∃f,DT.fst c (F i)=f:=⟨_,rfl⟩;have hfc:f≤c:=by rw[←hf];exact DT.fst_le _ _
   have HF:=Lib.hid hf;clear hf;go_upto_region 10 with fail
   refine Run.start 4 ?_;refine .ld .o (ldM b1 0) ?_;refine .mv .o ?_;refine .c2 (.i 0) (.i 1) (x:=.k (.int .i64 (f:Int))) (by rintro u_ v_ w2 hB rfl rfl;rw[←HF.out];exact d_a (HM.out.below (zup B0 hB)) hi (by decide)) ?_;refine .mv (.i 2) ?_;refine .donep [some 37,some 38,some 39,some 6] ?_;intro w6 B6;change Shut (wpList _ _ _ [] _ _);refine⟨?_⟩;simp only[Act.put,lS,lZ,lC];replace B0:=zup B0 B6;replace B1:=zup B1 B6;replace b1:=b1.below B6;clear B6;by_cases gc:f=c
   ·go_upto_region 11 with fail
    refine Run.start 4 ?_;refine .mv .o ?_;refine .fa .o (fM1 1) ?_;refine .ld (.i 1) (ldInt b1 1) ?_;refine .two (.i 0) (.i 2) (opEq (decide_eq_true (by omega):decide ((f:Int)=(c:Int))=true)) ?_;refine .donep [some 40,some 41,some 42,some 43] ?_;intro w7 B7;change Shut (wpList _ _ _ [] _ _);refine⟨?_⟩;simp only[Act.put,lS,lZ,lC];replace B0:=zup B0 B7;replace B1:=zup B1 B7;replace b1:=b1.below B7;clear B7;have HS:Hid (Below w.heap.size w w7∧Below w3.heap.size w3 w7∧Bx w7 w.heap.size 24 [.int .i64 (r:Int),.int .i64 (c:Int),.slice A n d]):=Lib.hid ⟨B0,B1,b1⟩;have HS1:Hid ((lds c F (i+1)).length=k):=Lib.hid (by rw[q_6 (by rw[HF.out];omega)];exact HLK.out);clear B0 B1 b1 HLK;clear hk5
    go_wp2_with fail
    go_roundw
    case rel=>exact⟨i+1,k,by go_num,rfl,by omega,HS1,HS⟩
    case measure=>first|(simp[intOf];done)|(simp[intOf];omega)
   ·go_upto_region 11 with fail
    refine Run.start 4 ?_;refine .mv .o ?_;refine .fa .o (fM1 1) ?_;refine .ld (.i 1) (ldInt b1 1) ?_;refine .two (.i 0) (.i 2) (opEq (decide_eq_false (by omega):decide ((f:Int)=(c:Int))=false)) ?_;refine .donep [some 40,some 41,some 42,some 43] ?_;intro w7 B7;change Shut (wpList _ _ _ [] _ _);refine⟨?_⟩;simp only[Act.put,lS,lZ,lC];replace B0:=zup B0 B7;replace B1:=zup B1 B7;replace b1:=b1.below B7;clear B7;obtain⟨g1,g2,g3⟩:=q_7 (c:=c) (F:=F) hi (by rw[HF.out];omega);rw[HLK.out]at g1 g2 g3;rw[HMM.out]at g1;obtain⟨g,hA3,hg,hcell⟩:=HI.out (by omega);have c1:w7.cell? ⟨g,k,none⟩=some (.int .i64 (f:Int)):=(B1.cell (p:=⟨g,k,none⟩) hg).trans (by rw[←HF.out];exact hcell k _ g2);have hg7:g<w7.heap.size:=by have:=B1.size;omega
    have HS1:Hid ((lds c F (i+1)).length=k+1):=Lib.hid g3;subst hA3;clear g2 g3 hcell;go_upto_region 12 with fail
    refine Run.start 12 ?_;refine .mv .o ?_;refine .mv .o ?_;refine .len (.i 1) Tryz.underlying44 ?_;refine .two (.i 0) (.i 2) (opGe (by simp;omega:decide ((m:Int)≤(k:Int))=false)) ?_;refine .mv (.i 3) ?_;refine .mv .o ?_;refine .mv .o ?_;refine .two (.i 5) (.i 6) (opIxI14 g1) ?_;refine .ld (.i 7) (ldI14 hg7 c1) ?_;refine .mv .o ?_;refine .two (.i 8) (.i 9) (opNe (by simp:decide ((f:Int)≠(f:Int))=false)) ?_;refine .pk (.i 4) (.i 10) false ?_;refine .donep [some 44,some 45,some 46,some 47,some 48,some 49,some 50,some 51,some 52,some 53,some 54,some 55] ?_;intro w8 B8;change Shut (wpList _ _ _ [] _ _);refine⟨?_⟩;simp only[Act.put,lS,lZ,lC];replace B0:=zup B0 B8;replace B1:=zup B1 B8;replace b1:=b1.below B8;clear B8;have HS:Hid (Below w.heap.size w w8∧Below w3.heap.size w3 w8∧Bx w8 w.heap.size 24 [.int .i64 (r:Int),.int .i64 (c:Int),.slice A n d]):=Lib.hid ⟨B0,B1,b1⟩;clear B0 B1 b1 HLK c1 hg7 hg;clear hk5
    go_wp2_with fail
    go_roundw
    case rel=>exact⟨i+1,k+1,by go_num,by go_num,by omega,HS1,HS⟩
    case measure=>first|(simp[intOf];done)|(simp[intOf];omega)
  ·obtain rfl:i=r:=by omega
   have u2:decide ((i:Int)<(i:Int))=false:=decide_eq_false (by omega);obtain rfl:m=k:=by rw[←HMM.out,HLK.out]
   go_upto_region 8 with fail
   refine Run.start 4 ?_;refine .mv .o ?_;refine .fa .o (fM0 0) ?_;refine .ld (.i 1) (ldInt b1 0) ?_;refine .two (.i 0) (.i 2) (opLt u2) ?_;refine .donep [some 31,some 32,some 33,some 34] ?_;intro w5 B5;change Shut (wpList _ _ _ [] _ _);refine⟨?_⟩;simp only[Act.put,lS,lZ,lC];replace B0:=zup B0 B5;replace B1:=zup B1 B5;replace b1:=b1.below B5;clear B5;clear B1 HI HLK HMM;go_upto_region 15 with fail
   refine Run.start 8 ?_;refine .ld .o (ldM b1 0) ?_;refine .c1 (.i 0) (x:=kHm i c K F) (by rintro u w2 hB rfl;rw[←HK.out];exact d_f (HM.out.below (zup B0 hB)) (hbd_two (by omega))) ?_;refine .mf (.i 1) ?_;refine .ex (.i 2) 0 h_b ?_;refine .ex (.i 2) 1 f_c ?_;refine .ex (.i 2) 2 f_b ?_;refine .al ?_;refine .al ?_;refine .donep [some 59,some 60,some 58,some 61,some 62,some 63,some 7,some 8] ?_;intro w6 B6;rintro v1 -;rintro v2 -;rintro v3 ⟨⟨A7,n7,d7,rfl,m7⟩,hx⟩;rintro v3 ⟨A8,n8,d8,rfl,m8⟩;rintro g7 hg7 hl7 hc7 -;rintro g8 hg8 hl8 hc8 ⟨ne1_0,-⟩;change Shut (wpList _ _ _ [_,_,_] _ _);refine⟨?_⟩;simp only[Act.put,lS,lZ,lC];have b7:=zeroM hc7;have b8:=zeroM hc8;have hsz_:=B0.size;have hl_b1:=b1.lt;replace B0:=zup B0 B6;replace b1:=b1.below B6;clear B6 hc7 hc8;obtain⟨w7,hw7⟩:∃x,mput w6 g7 (i:Int) (c:Int) A7 n7 d7=x:=⟨_,rfl⟩;obtain⟨fa00_,fa01_,fa02_,fa03_,fa04_,fa05_,fa06_⟩:=b7.m3;replace b1:=b1.mo (g:=g7) (r:=(i:Int)) (c:=(c:Int)) (A:=A7) (n:=n7) (d:=d7) (by omega);rw[hw7]at b1;replace b8:=b8.mo (g:=g7) (r:=(i:Int)) (c:=(c:Int)) (A:=A7) (n:=n7) (d:=d7) (by omega);rw[hw7]at b8;replace m7:=m7.put (r':=(i:Int)) (c':=(c:Int)) (C:=A7) (n':=n7) (d':=d7) b7;rw[hw7]at m7;replace m8:=m8.put (r':=(i:Int)) (c':=(c:Int)) (C:=A7) (n':=n7) (d':=d7) b7;rw[hw7]at m8;replace B0:=a_c (g:=g7) (r:=(i:Int)) (c:=(c:Int)) (A:=A7) (n:=n7) (d:=d7) B0 (by omega);rw[hw7]at B0;replace b7:=b7.mp (g:=g7) (r:=(i:Int)) (c:=(c:Int)) (A:=A7) (n:=n7) (d:=d7);rw[hw7]at b7;have Hw7:=Lib.hid hw7;unfold mput at Hw7;clear hw7;obtain⟨w8,hw8⟩:∃x,mput w7 g8 (i:Int) (i:Int) A8 n8 d8=x:=⟨_,rfl⟩;obtain⟨fa10_,fa11_,fa12_,fa13_,fa14_,fa15_,fa16_⟩:=b8.m3;replace b1:=b1.mo (g:=g8) (r:=(i:Int)) (c:=(i:Int)) (A:=A8) (n:=n8) (d:=d8) (by omega);rw[hw8]at b1;replace b7:=b7.mo (g:=g8) (r:=(i:Int)) (c:=(i:Int)) (A:=A8) (n:=n8) (d:=d8) (by omega);rw[hw8]at b7;replace m7:=m7.put (r':=(i:Int)) (c':=(i:Int)) (C:=A8) (n':=n8) (d':=d8) b8;rw[hw8]at m7;replace m8:=m8.put (r':=(i:Int)) (c':=(i:Int)) (C:=A8) (n':=n8) (d':=d8) b8;rw[hw8]at m8;replace B0:=a_c (g:=g8) (r:=(i:Int)) (c:=(i:Int)) (A:=A8) (n:=n8) (d:=d8) B0 (by omega);rw[hw8]at B0;replace b8:=b8.mp (g:=g8) (r:=(i:Int)) (c:=(i:Int)) (A:=A8) (n:=n8) (d:=d8);rw[hw8]at b8;have Hw8:=Lib.hid hw8;unfold mput at Hw8;clear hw8;rw[←Hw7.out]at fa10_ fa11_ fa12_ fa13_ fa14_ fa15_ fa16_ Hw8;go_upto_region 16 with fail
   rw[Hw8.out];clear fa00_ fa01_ fa02_ fa03_ fa04_ fa05_ fa06_ fa10_ fa11_ fa12_ fa13_ fa14_ fa15_ fa16_ Hw7 Hw8 hsz_ hl_b1;have HX:=Lib.hid hx;clear m8 b8 hx;refine Run.start 24 ?_;refine .mv .o ?_;refine .mv .o ?_;refine .len (.i 1) Tryz.underlying44 ?_;refine .two (.i 0) (.i 2) (opEq (decide_eq_true rfl:decide ((m:Int)=(m:Int))=true)) ?_;refine .mv (.i 3) ?_;refine .ld .o (ldM b1 0) ?_;refine .c1 (.i 5) (x:=.k (.bool bh)) (by rintro u_ w2 hB rfl;exact is_q (HM.out.below (zup B0 hB)) (by decide) HBH.out) ?_;refine .ld .o (ldM b1 0) ?_;refine .c1 (.i 7) (x:=.k (.bool bh)) (by rintro u_ w2 hB rfl;exact l_l (HM.out.below (zup B0 hB)) (by decide) HBH.out) ?_;refine .two (.i 6) (.i 8) (opEqB (by cases bh<;>rfl:(bh==bh)=true)) ?_;refine .pk (.i 4) (.i 9) true ?_;refine .mv (.i 10) ?_;refine .ld .o (ldM b1 0) ?_;refine .c1 (.i 12) (x:=.k (.bool bh)) (by rintro u_ w2 hB rfl;exact is_q (HM.out.below (zup B0 hB)) (by decide) HBH.out) ?_;refine .ld .o (ldM b7 0) ?_;refine .ld .o (ldM b1 0) ?_;refine .c2 (.i 14) (.i 15) (x:=.k (.bool bh)) (by rintro u_ v_ w2 hB rfl rfl;exact f_9 (m7.below hB) (HM.out.below (zup B0 hB)) (HBH.out.trans (m_a HX.out)) (by omega) (by decide)) ?_;refine .two (.i 13) (.i 16) (opEqB (by cases bh<;>rfl:(bh==bh)=true)) ?_;refine .pk (.i 11) (.i 17) true ?_;refine .mv (.i 18) ?_;refine .ld .o (ldM b7 0) ?_;refine .c1 (.i 20) (x:=.k (.bool true)) (by rintro u_ w2 hB rfl;exact is_q (m7.below hB) (by omega) ⟨fun _=>HX.out.hm,fun _=>rfl⟩) ?_;refine .pk (.i 19) (.i 21) true ?_;refine .mv (.i 22) ?_;refine .done [some 64,some 65,some 66,some 67,some 68,some 69,some 70,some 71,some 72,some 73,some 74,some 75,some 76,some 77,some 78,some 79,some 80,some 81,some 82,some 83,some 84,some 85,some 86,some 2] ?_;intro w9 B9;change Shut (wpList _ _ _ [] _ _);refine⟨?_⟩;simp only[Act.put,lS,lZ,lC]
   go_wp2_with fail
   exact bodyPost_ret (v:=.bool true) (by simp[results,Tryz.results5,go_sem]) rfl (a_r rfl (zup B0 B9))
theorem o_e {r c:Int}{A:Option Addr}{n d:Nat}{R:List Zr}{w:World}(ha:RL w A n d R):Calls Tryz.prog 5 #[.agg #[.int .i64 r,.int .i64 c,.slice A n d]] w (RetK (.k (.bool true)) w):=by
 cases h:fewb r c R 5 2 with
 |false=>exact o_d ha h
 |true=>
  cases hf:fmd r c n with
  |false=>exact r_l ha h hf
  |true=>
   obtain⟨r',c',rfl,rfl,hr,hc,hn,hM⟩:=ha.mt hf h;exact o_c ha h hr hc hM
end Go.Proofs.YtgohglhefhocgaaGreat
