/- Pq19 -/
import Derived.Test.YtfhbdlegkdbmfaaGreatPq18
set_option linter.unusedVariables false
set_option linter.unusedSimpArgs false
set_option linter.unusedSectionVars false
set_option maxRecDepth 100000
set_option maxHeartbeats 8000000
namespace Go.Proofs.YtfhbdlegkdbmfaaGreat
section
open Go.RowKit
structure Il (w:World) (A:Option Addr) (n d:Nat) (xs:List Int):Prop where
 len:xs.length=n
 le:n<=d
 cap:d<=9223372036854775807
 at':0<n->∃ad,A=some ad/\ad.block<w.heap.size/\∀j,j<n->w.cell? (ad.add j)=some (.int .i64 (xs.getD j 0))
 bd:∀j,j<n-> -9223372036854775808<=xs.getD j 0/\xs.getD j 0<=9223372036854775807
theorem Il.below {w w':World}{A:Option Addr}{n d:Nat}{xs:List Int}(h:Il w A n d xs)(hb:Below w.heap.size w w'):Il w' A n d xs:=⟨h.len,h.le,h.cap,fun h0=>by
 obtain⟨ad,e,h1,h2⟩:=h.at' h0;exact⟨ad,e,Nat.lt_of_lt_of_le h1 hb.size,fun j hj=>(hb.cell (p:=ad.add j) (by rw[a_b];exact h1)).trans (h2 j hj)⟩,h.bd⟩
theorem u_y {w:World}{ad:Addr}{n d k:Nat}(h:k<n):(Instr.indexAt 110 (.slice (some ad) n d) (.int .i64 (k:Int))).run Tryz.prog w= .ok (.pointer (some (ad.add k))) w:=by
 simp[go_sem,Tryz.underlying110,show Tryz.prog.cellsOf 2=1 by kernel_rfl];omega
theorem opIxJ {ad:Addr}{n d k:Nat}{X Y:Operand}(h:k<n)(w:World):RunTwo Tryz.prog (.indexAddr 110 X Y) w (.slice (some ad) n d) (.int .i64 (k:Int)) (.pointer (some (ad.add k))):=u_y h
theorem ldJ {w:World}{p:Addr}{x:Int}(hp:p.block<w.heap.size)(h:w.cell? p=some (.int .i64 x)):∀w',Below w.heap.size w w'->(Instr.loadAt 2 (.pointer (some p))).run Tryz.prog w'= .ok (.int .i64 x) w':=fun w' hb=>by
 have:=(hb.cell hp).trans h;simp[go_sem,a_j,this]
theorem ldIL {w:World}{g:Nat}{T:TypeId}{cs:List Value}(b:Bx w g T cs)(o:Nat){A:Option Addr}{n c:Nat}(hc:cs[o]? =some (.slice A n c):=by rfl):∀w',Below w.heap.size w w'->(Instr.loadAt 110 (.pointer (some ⟨g,o,none⟩))).run Tryz.prog w'= .ok (.slice A n c) w':=fun w' hb=>by
 have h:=(b.below hb).cell o;rw[hc]at h;simp[go_sem,a_j,h]
theorem of1_q {i j n d r c g g':Nat}{A:Option Addr}{xs:List Int}{w:World}(b2:Bx w g 110 [.slice A n d])(b3:Bx w g' 3 [.int .i64 (c:Int)])(hl:Il w A n d xs)(hn:n=r*c)(hr:r<=64)(hc:c<=64)(hi:i<r)(hj:j<c):Calls Tryz.prog 96 #[.int .i64 (i:Int),.int .i64 (j:Int),.pointer (some ⟨g,0,none⟩),.pointer (some ⟨g',0,none⟩)] w (RetK (kC (xs.getD (i*c+j) 0) 1) w):=by
 have h5:i*c<=64*64:=Nat.mul_le_mul (by omega) hc;have hlt:i*c+j<n:=by rw[hn];exact q_p hi hj
 obtain⟨x,hx⟩:∃x,xs.getD (i*c+j) 0=x:=⟨_,rfl⟩;rw[hx];obtain⟨w1,hw1,b6,z1,s1⟩:=boxes1 w 31 [.bool false,.slice none 0 0];have HW:=Lib.hid hw1;have HZ:=Lib.hid z1;replace b2:=b2.below z1;replace b3:=b3.below z1;obtain⟨ad,rfl,hab,hcell⟩:=(hl.below z1).at' (by omega);have hce:=hcell _ hlt;have hbd:=hl.bd _ hlt;rw[hx]at hce hbd;clear hcell hl;clear hw1 z1 s1 hx hn;go_enter Tryz.func96,Tryz.ntmps96
 go_upto_region 1 with fail
 rw[HW.out];refine Run.start 9 ?_;refine .ld .o (ldIL b2 0) ?_;refine .mv .o ?_;refine .ld .o (ldInt b3 0) ?_;refine .two (.i 1) (.i 2) (opMulN i c (by omega)) ?_;refine .mv .o ?_;refine .two (.i 3) (.i 4) (opAddN (i*c) j (by omega)) ?_;refine .two (.i 0) (.i 5) (opIxJ hlt) ?_;refine .ld (.i 6) (ldJ (by rw[a_b];exact hab) hce) ?_;refine .c1 (.i 7) (x:=kC x 1) (by rintro u w2 hB rfl;exact h_x hbd.1 hbd.2 w2) ?_;refine .donep [some 7,some 8,some 9,some 10,some 11,some 12,some 13,some 14,some 15] ?_;intro w2 B2;rintro v ⟨s_,A_,n_,c_,rfl,hz,hk_⟩;refine sh [_] ?_;simp only[Act.put,lS,lZ,lC];have I:=Ib.entry (b6.below B2);have P:=Lib.hid (retC hz I (k:=1) (by omega) (by omega) (zup HZ.out B2));obtain⟨i1,i2,i3,i4,i5⟩:=I;clear hz
 go_wp2_with fail
 exact bodyPost_ret (v:=.agg #[.bool s_,.slice A_ n_ c_]) (by simp[results,Tryz.results96,go_sem,i1,i2]) rfl P.out
theorem v_4 {r c n d:Nat}{A:Option Addr}{xs:List Int}{w:World}(hl:Il w A n d xs)(hn:n=r*c)(hr:r<=64)(hc:c<=64):Calls Tryz.prog 37 #[.int .i64 (r:Int),.int .i64 (c:Int),.slice A n d] w (RetK (kT (kM true r c (1) (fun i j=>xs.getD (i*c+j) 0)) (.k (.int .i64 0))) w):=by
 have h1:sd (r:Int)=true:=by unfold sd;exact decide_eq_true (by omega)
 have h2:sd (c:Int)=true:=by unfold sd;exact decide_eq_true (by omega)
 have hrc:r*c<=64*64:=Nat.mul_le_mul hr hc;obtain⟨w1,hw1,b4,b5,b6,z1,s1⟩:=boxes3 w 3 110 27 [.int .i64 (c:Int)] [.slice A n d] [.int .i64 0,.int .i64 0,.slice none 0 0];have HW:=Lib.hid hw1;have HZ:=Lib.hid z1;have h1_:=Lib.hid h1;have h2_:=Lib.hid h2;have hn_:=Lib.hid hn;clear hw1 z1 h1 h2 hn s1;go_enter Tryz.func37,Tryz.ntmps37
 go_upto_region 1 with fail
 rw[HW.out];refine Run.start 9 ?_;refine .mv .o ?_;refine .c1 (.i 0) (x:=.k (.bool true)) (by rintro u w2 hB rfl;exact f_m _ h1_.out w2) ?_;refine .nt (.i 1) ?_;refine .mv (.i 2) ?_;refine .ld .o (ldInt b4 0) ?_;refine .c1 (.i 4) (x:=.k (.bool true)) (by rintro u w2 hB rfl;exact f_m _ h2_.out w2) ?_;refine .nt (.i 5) ?_;refine .pk (.i 3) (.i 6) false ?_;refine .mv (.i 7) ?_;refine .donep [some 9,some 10,some 11,some 12,some 13,some 14,some 15,some 16,some 8] ?_;intro w2 B2;refine sh [] ?_;simp only[Act.put,lS,lZ,lC];replace b4:=b4.below B2;replace b5:=b5.below B2;replace b6:=b6.below B2;have HZ2:=Lib.hid (zup HZ.out B2);clear B2 HZ;go_upto_region 3 with fail
 refine Run.start 7 ?_;refine .ld .o (ldIL b5 0) ?_;refine .len (.i 0) Tryz.underlying110 ?_;refine .mv .o ?_;refine .ld .o (ldInt b4 0) ?_;refine .two (.i 2) (.i 3) (opMulN r c (by omega)) ?_;refine .two (.i 1) (.i 4) (opNe (decide_eq_false (by have:=hn_.out;omega:¬((n:Int)≠((r*c:Nat):Int))))) ?_;refine .mv (.i 5) ?_;refine .donep [some 19,some 20,some 21,some 22,some 23,some 24,some 18] ?_;intro w3 B3;refine sh [] ?_;simp only[Act.put,lS,lZ,lC];replace b4:=b4.below B3;replace b5:=b5.below B3;replace b6:=b6.below B3;have HZ3:=Lib.hid (zup HZ2.out B3);clear B3 HZ2;go_upto_region 5 with fail
 refine Run.start 4 ?_;refine .mv .o ?_;refine .ld .o (ldInt b4 0) ?_;refine .fn [] [.o,.o] [] [_,_] (trivial) (⟨rfl,rfl,trivial⟩) ?_;refine .c3 (.i 0) (.i 1) (.i 2) (x:=kM true r c 1 (fun i j=>xs.getD (i*c+j) 0)) (by rintro u v x w4 hB rfl rfl rfl;exact h_o hr hc (by kernel_rfl) (fun i j W hi hj hW=>by rw[argsC2];exact of1_q ((b5.below hB).below hW) ((b4.below hB).below hW) (hl.below (zup (zup HZ3.out hB) hW)) hn_.out hr hc hi hj)) ?_;refine .donep [some 26,some 27,some 28,some 29] ?_;intro w4 B4;rintro v ⟨A_,n_,d_,rfl,hM⟩;refine sh [_,_] ?_;simp only[Act.put,lS,lZ,lC];have P:=Lib.hid (retME hM (b6.below B4) (by omega) (zup HZ3.out B4));unfold mput at P;obtain⟨i0,i1,i2,i3,i4,i5,i6⟩:=(b6.below B4).m3;clear hM
 go_wp2_with fail
 exact bodyPost_ret (v:=.tuple #[.agg #[.int .i64 (r:Int),.int .i64 (c:Int),.slice A_ n_ d_],.int .i64 0]) (by simp[results,Tryz.results37,go_sem,i0,i1,i2]) rfl P.out
theorem v_7 {r:Nat}{w:World}(hr:r<=64):Calls Tryz.prog 127 #[.int .i64 (r:Int)] w (RetK (kT (kM true r r (1) (fun i j=>if i=j then 1 else 0)) (.k (.int .i64 0))) w):=by
 have h1:sd (r:Int)=true:=by unfold sd;exact decide_eq_true (by omega)
 obtain⟨w1,hw1,b2,z1,s1⟩:=boxes1 w 27 [.int .i64 0,.int .i64 0,.slice none 0 0];have HW:=Lib.hid hw1;have HZ:=Lib.hid z1;have h1_:=Lib.hid h1;clear hw1 z1 h1 s1;go_enter Tryz.func127,Tryz.ntmps127
 go_upto_region 1 with fail
 rw[HW.out];refine Run.start 3 ?_;refine .mv .o ?_;refine .c1 (.i 0) (x:=.k (.bool true)) (by rintro u w2 hB rfl;exact f_m _ h1_.out w2) ?_;refine .nt (.i 1) ?_;refine .donep [some 4,some 5,some 6] ?_;intro w2 B2;refine sh [] ?_;simp only[Act.put,lS,lZ,lC];replace b2:=b2.below B2;have HZ2:=Lib.hid (zup HZ.out B2);clear B2 HZ;go_upto_region 3 with fail
 refine Run.start 3 ?_;refine .mv .o ?_;refine .mv .o ?_;refine .c3 (.i 0) (.i 1) .o (x:=kM true r r 1 (fun i j=>if i=j then 1 else 0)) (by rintro u v x w4 hB rfl rfl rfl;exact h_o hr hr (by kernel_rfl) (fun i j W hi hj hW=>by rw[argsF];exact w_8 W)) ?_;refine .donep [some 8,some 9,some 10] ?_;intro w3 B3;rintro v ⟨A_,n_,d_,rfl,hM⟩;refine sh [_,_] ?_;simp only[Act.put,lS,lZ,lC];have P:=Lib.hid (retME hM (b2.below B3) (by omega) (zup HZ2.out B3));unfold mput at P;obtain⟨i0,i1,i2,i3,i4,i5,i6⟩:=(b2.below B3).m3;clear hM
 go_wp2_with fail
 exact bodyPost_ret (v:=.tuple #[.agg #[.int .i64 (r:Int),.int .i64 (r:Int),.slice A_ n_ d_],.int .i64 0]) (by simp[results,Tryz.results127,go_sem,i0,i1,i2]) rfl P.out
end
section
open Go.RowKit
theorem v_k {N D:Int}{n m K:Nat}{u v:Value}{w:World}(k:Nat)(hx:IsV N n u w)(hy:IsV D m v w)(hn:n<=k)(hm:m<=k)(h1:1<=k)(hk:k<=1073741824)(hK:k<=K){b:Bool}(hb:decide (D≠0)=b):Calls Tryz.prog 105 #[u,v] w (RetK (kT (kQ (Rat.divInt N D) K) (.k (.bool b))) w):=by
 obtain⟨s,A,a,c,rfl,h1',h2⟩:=hx;obtain⟨s',A',a',c',rfl,h1'',h2'⟩:=hy;refine(y_j h1' h1'' (Nat.le_trans h2 hn) (Nat.le_trans h2' hm) h1 hk hb).mono fun e w' h=>?_;obtain⟨s,A,n,c,t,B,m,d,rfl,hq,h3,h4,hB⟩:=h;exact⟨_,rfl,⟨_,_,rfl,⟨s,A,n,c,t,B,m,d,rfl,hq,Nat.le_trans h3 hK,Nat.le_trans h4 hK⟩,rfl⟩,hB⟩
theorem v_e {z:Int}{n:Nat}{u:Value}{w:World}(k:Nat)(hx:IsV z n u w)(hn:n<=k)(h1:1<=k)(hk:k<=1073741824):Calls Tryz.prog 30 #[u] w (RetK (kQ (z:Rat) k) w):=by
 obtain⟨s,A,a,c,rfl,g1,g2⟩:=hx;exact(qof_v g1 (Nat.le_trans g2 hn) h1 hk).mono fun e w' h=>h.q (Nat.le_refl _)
theorem zeroQ {w:World}{g:Nat}(h:w.heap[g]? =some (zeroObj 42)):Bx w g 42 [.bool false,.slice none 0 0,.bool false,.slice none 0 0]:=h.trans (congrArg some (by kernel_rfl))
theorem zeroMq {w:World}{g:Nat}(h:w.heap[g]? =some (zeroObj 24)):Bx w g 24 [.int .i64 0,.int .i64 0,.slice none 0 0]:=h.trans (congrArg some (by kernel_rfl))
theorem retMwE {b:Nat}{w w2:World}{r c n d k g m e:Nat}{A B:Option Addr}{F:Nat->Nat->Rat}{x y:Int}(h:Mw b w2 r c A n d k F)(bx:Bx w2 g 24 [.int .i64 x,.int .i64 y,.slice B m e])(hg:w.heap.size<=g)(hB:Below w.heap.size w w2):
  RetK (kT (kMw b r c k F) (.k (.int .i64 0))) w (.returned (.tuple #[.agg #[.int .i64 (r:Int),.int .i64 (c:Int),.slice A n d],.int .i64 0])) (mput w2 g (r:Int) (c:Int) A n d):=⟨_,rfl,⟨_,_,rfl,⟨A,n,d,rfl,h.box bx (by decide) (by simp) (a_h _ _ _ _ _ _ _)⟩,rfl⟩,b_4 hB hg⟩
theorem argsO (i j a b:Value):#[]++ #[i,j]++ #[a,b]= #[i,j,a,b]:=rfl
theorem argsO0 (i j:Value):#[]++ #[i,j]++ #[]= #[i,j]:=rfl
theorem j_6 {N D:Int}{n m K:Nat}{u v:Value}{w:World}(k:Nat)(hx:IsV N n u w)(hy:IsV D m v w)(hn:n<=k)(hm:m<=k)(h1:1<=k)(hk:k<=1073741824)(hK:k<=K):Calls Tryz.prog 46 #[u,v] w (RetK (kQ (Rat.divInt N D) K) w):=by
 obtain⟨s,A,a,c,rfl,hx1,hx2⟩:=hx;obtain⟨s',A',a',c',rfl,hy1,hy2⟩:=hy;obtain⟨w1,hw1,b2,b3,b4,z1,s1⟩:=boxes3 w 31 31 42 [.bool s,.slice A a c] [.bool s',.slice A' a' c'] [.bool false,.slice none 0 0,.bool false,.slice none 0 0];have HW:=Lib.hid hw1;have HZ:=Lib.hid z1;replace hx1:=hx1.below z1;replace hy1:=hy1.below z1;clear hw1 z1;go_enter Tryz.func46,Tryz.ntmps46
 go_upto_region 1 with fail
 rw[HW.out];refine Run.start 7 ?_;refine .ld .o (ldZ b2 0) ?_;refine .ld .o (ldZ b3 0) ?_;refine .c2 (.i 0) (.i 1) (x:=kT (kQ (Rat.divInt N D) K) (.k (.bool (decide (D≠0))))) (by rintro u v w3 hB rfl rfl;exact v_k k ⟨_,_,_,_,rfl,hx1.below hB,hx2⟩ ⟨_,_,_,_,rfl,hy1.below hB,hy2⟩ hn hm h1 hk hK rfl) ?_;refine .mf (.i 2) ?_;refine .ex (.i 3) 0 kT_0 ?_;refine .ex (.i 3) 1 kT_1 ?_;refine .al ?_;refine .donep [some 8,some 9,some 10,some 7,some 11,some 12,some 5] ?_;intro w2 B2;rintro v10 -;rintro v7 -;rintro v ⟨s_,A_,n_,c_,t_,B_,m_,d_,rfl,hz,hk1,hk2⟩;rintro g5 hg5 hl5 hc5 -;refine sh [_,_] ?_;simp only[Act.put,lS,lZ,lC];have b5:=zeroQ hc5;have B0:=zup HZ.out B2;have hl4:=b4.lt;replace b4:=b4.below B2;clear b2 b3 B2 hc5 HZ hx1 hy1 s1;obtain⟨w3,hw3⟩:∃x,rput w2 g5 s_ A_ n_ c_ t_ B_ m_ d_=x:=⟨_,rfl⟩;obtain⟨f1_,f2_,f3_,f4_,f5_,f6_,f7_,f8_,f9_⟩:=b5.rb;have hgr_:=c_i w2 g5 s_ A_ n_ c_ t_ B_ m_ d_;have hno_:Wless w2 g5:=b5.now (by simp);rw[hw3]at hgr_;replace b4:=a_a b4 hgr_ (by omega);replace hz:=hz.gro hno_ hgr_;replace B0:=a_c B0 hgr_ (by omega);replace b5:=b5.rp (s':=s_) (A':=A_) (n':=n_) (c':=c_) (t':=t_) (B':=B_) (m':=m_) (d':=d_);rw[hw3]at b5;have Hw3:=Lib.hid hw3;unfold rput at Hw3;clear hw3 hgr_ hno_;go_upto_region 2 with fail
 rw[Hw3.out];clear f1_ f2_ f3_ f4_ f5_ f6_ f7_ f8_ f9_ Hw3;refine Run.start 1 ?_;refine .ld .o (ldQr b5) ?_;refine .donep [some 13] ?_;intro w4 B4;refine sh [_] ?_;simp only[Act.put,lS,lZ,lC];have I:=(b4.below B4).rb;have P:=Lib.hid (retQ (hz.below B4) I (k:=K) hk1 hk2 (by omega) (zup B0 B4));unfold rput at P;obtain⟨i1,i2,i3,i4,i5,i6,i7,i8,i9⟩:=I;clear hz
 go_wp2_with fail
 exact bodyPost_ret (v:=.agg #[.bool s_,.slice A_ n_ c_,.bool t_,.slice B_ m_ d_]) (by simp[results,Tryz.results46,go_sem,i1,i2,i3,i4]) rfl P.out
theorem u_9 (w:World):Calls Tryz.prog 102 #[] w (RetK (kQ 0 1) w):=by
 obtain⟨w1,hw1,b0,z1,s1⟩:=boxes1 w 42 [.bool false,.slice none 0 0,.bool false,.slice none 0 0];have HW:=Lib.hid hw1;have HZ:=Lib.hid z1;clear hw1 z1 s1;go_enter Tryz.func102,Tryz.ntmps102
 go_upto_region 1 with fail
 rw[HW.out];refine Run.start 2 ?_;refine .run (v:=.agg #[.bool false,.slice none 0 0]) (fun a w _=>by kernel_rfl) ?_;refine .c1 (.i 0) (x:=kQ 0 1) (by rintro u w2 hB rfl;exact v_e (z:=0) 1 ⟨false,none,0,0,rfl,(Zc.nought w2).zv,Nat.zero_le _⟩ (Nat.zero_le _) (Nat.le_refl _) (by omega)) ?_;refine .donep [some 1,some 2] ?_;intro w2 B2;rintro v ⟨s_,A_,n_,c_,t_,B_,m_,d_,rfl,hz,hk1,hk2⟩;refine sh [_] ?_;simp only[Act.put,lS,lZ,lC];have I:=(b0.below B2).rb;have P:=Lib.hid (retQ hz I (k:=1) hk1 hk2 (by omega) (zup HZ.out B2));unfold rput at P;obtain⟨i1,i2,i3,i4,i5,i6,i7,i8,i9⟩:=I;clear hz
 go_wp2_with fail
 exact bodyPost_ret (v:=.agg #[.bool s_,.slice A_ n_ c_,.bool t_,.slice B_ m_ d_]) (by simp[results,Tryz.results102,go_sem,i1,i2,i3,i4]) rfl P.out
theorem b_g {r c:Int}{A:Option Addr}{n d:Nat}{b:Bool}(hb:fmd r c n=b)(w:World):Calls Tryz.prog 51 #[.agg #[.int .i64 r,.int .i64 c,.slice A n d]] w (RetK (.k (.bool b)) w):=by
 obtain⟨w1,hw1,b1,z1,s1⟩:=boxes1 w 24 [.int .i64 r,.int .i64 c,.slice A n d];have HW:=Lib.hid hw1;have HZ:=Lib.hid z1;have hb_:=Lib.hid hb;clear hw1 z1 hb s1;go_enter Tryz.func51,Tryz.ntmps51
 go_upto_region 1 with fail
 rw[HW.out];refine Run.start 9 ?_;refine .fa .o (fQ0 0) ?_;refine .ld (.i 0) (ldInt b1 0) ?_;refine .fa .o (fQ1 1) ?_;refine .ld (.i 2) (ldInt b1 1) ?_;refine .fa .o (fQ2 2) ?_;refine .ld (.i 4) (ldQl b1 2) ?_;refine .len (.i 5) Tryz.underlying22 ?_;refine .c3 (.i 1) (.i 3) (.i 6) (x:=.k (.bool b)) (by rintro u v x w2 hB rfl rfl rfl;exact j_5 hb_.out w2) ?_;refine .mv (.i 7) ?_;refine .donep [some 3,some 4,some 5,some 6,some 7,some 8,some 9,some 10,some 2] ?_;intro w2 B2;refine sh [] ?_;simp only[Act.put,lS,lZ,lC]
 go_wp2_with fail
 exact bodyPost_ret (v:=.bool b) (by simp[results,Tryz.results51,go_sem]) rfl (a_x rfl (zup HZ.out B2))
theorem e_b {r c r' c':Int}{A A':Option Addr}{n d n' d':Nat}{b:Bool}(hb:(fmd r c n&&fmd r' c' n')=b)(w:World):Calls Tryz.prog 58 #[.agg #[.int .i64 r,.int .i64 c,.slice A n d],.agg #[.int .i64 r',.int .i64 c',.slice A' n' d']] w (RetK (.k (.bool b)) w):=by
 obtain⟨t1,h1⟩:∃t,fmd r c n=t:=⟨_,rfl⟩;obtain⟨t2,h2⟩:∃t,fmd r' c' n'=t:=⟨_,rfl⟩;have hb':b=(t1&&t2):=by rw[<-hb,h1,h2]
 have hbb:=Lib.hid hb';obtain⟨w1,hw1,b2,b3,z1,s1⟩:=boxes2 w 24 24 [.int .i64 r,.int .i64 c,.slice A n d] [.int .i64 r',.int .i64 c',.slice A' n' d'];have HW:=Lib.hid hw1;have HZ:=Lib.hid z1;have h1_:=Lib.hid h1;have h2_:=Lib.hid h2;clear hw1 z1 h1 h2 hb hb' s1;go_enter Tryz.func58,Tryz.ntmps58
 go_upto_region 1 with fail
 rw[HW.out];cases t1
 ·refine Run.start 7 ?_;refine .ld .o (ldQm b2 0) ?_;refine .c1 (.i 0) (x:=.k (.bool false)) (by rintro u w2 hB rfl;exact b_g h1_.out w2) ?_;refine .mv (.i 1) ?_;refine .no ?_;refine .no ?_;refine .pk (.i 2) .o false ?_;refine .mv (.i 5) ?_;refine .donep [some 5,some 6,some 7,some 8,some 9,some 10,some 4] ?_;intro w2 B2;refine sh [] ?_;simp only[Act.put,lS,lZ,lC];cases hbb.out
  go_wp2_with fail
  exact bodyPost_ret (v:=.bool false) (by simp[results,Tryz.results58,go_sem]) rfl (a_x rfl (zup HZ.out B2))
 ·refine Run.start 7 ?_;refine .ld .o (ldQm b2 0) ?_;refine .c1 (.i 0) (x:=.k (.bool true)) (by rintro u w2 hB rfl;exact b_g h1_.out w2) ?_;refine .mv (.i 1) ?_;refine .ld .o (ldQm b3 0) ?_;refine .c1 (.i 3) (x:=.k (.bool t2)) (by rintro u w2 hB rfl;exact b_g h2_.out w2) ?_;refine .pk (.i 2) (.i 4) true ?_;refine .mv (.i 5) ?_;refine .donep [some 5,some 6,some 7,some 8,some 9,some 10,some 4] ?_;intro w2 B2;refine sh [] ?_;simp only[Act.put,lS,lZ,lC];cases hbb.out
  go_wp2_with fail
  exact bodyPost_ret (v:=.bool t2) (by simp[results,Tryz.results58,go_sem]) rfl (a_x rfl (zup HZ.out B2))
theorem e_q {q:Bool}{r c n d k i j:Nat}{A:Option Addr}{F:Nat->Nat->Rat}{w:World}(h:Mq q w r c A n d k F)(hi:i<r)(hj:j<c):Calls Tryz.prog 62 #[.agg #[.int .i64 (r:Int),.int .i64 (c:Int),.slice A n d],.int .i64 (i:Int),.int .i64 (j:Int)] w (RetK (kQv (F i j) k) w):=by
 have h1:=h.hr;have h2:=h.hc;have h5:i*c<=64*64:=Nat.mul_le_mul (by omega) h2;obtain⟨w1,hw1,b3,b6,z1,s1⟩:=boxes2 w 24 42 [.int .i64 (r:Int),.int .i64 (c:Int),.slice A n d] [.bool false,.slice none 0 0,.bool false,.slice none 0 0];have HW:=Lib.hid hw1;have HZ:=Lib.hid z1;obtain⟨ad,rfl,hab,hlt,s_,A_,n_,c_,t_,B_,m_,d_,c0,c1,c2,c3,ze,hk1,hk2⟩:=(h.below z1).elem hi hj;have hz:=ze.1;clear ze h;clear hw1 z1 s1;go_enter Tryz.func62,Tryz.ntmps62
 go_upto_region 1 with fail
 rw[HW.out];refine Run.start 10 ?_;refine .fa .o (fQ2 2) ?_;refine .ld (.i 0) (ldQl b3 2) ?_;refine .mv .o ?_;refine .fa .o (fQ1 1) ?_;refine .ld (.i 3) (ldInt b3 1) ?_;refine .two (.i 2) (.i 4) (opMulN i c (by omega)) ?_;refine .mv .o ?_;refine .two (.i 5) (.i 6) (opAddN (i*c) j (by omega)) ?_;refine .two (.i 1) (.i 7) (opIxQ hlt) ?_;refine .ld (.i 8) (ldQ (by rw[a_b];exact hab) c0 c1 c2 c3) ?_;refine .donep [some 7,some 8,some 9,some 10,some 11,some 12,some 13,some 14,some 15,some 16] ?_;intro w2 B2;refine sh [_] ?_;simp only[Act.put,lS,lZ,lC];replace hz:=hz.below B2;clear c0 c1 c2 c3;have I:=(b6.below B2).rb;have P:=Lib.hid (retQv hz I (k:=k) hk1 hk2 (by omega) (zup HZ.out B2));unfold rput at P;obtain⟨i1,i2,i3,i4,i5,i6,i7,i8,i9⟩:=I;clear hz
 go_wp2_with fail
 exact bodyPost_ret (v:=.agg #[.bool s_,.slice A_ n_ c_,.bool t_,.slice B_ m_ d_]) (by simp[results,Tryz.results62,go_sem,i1,i2,i3,i4]) rfl P.out
theorem j_q {q:Bool}{r c n d k i j:Nat}{A:Option Addr}{F:Nat->Nat->Rat}{w:World}(h:Mq q w r c A n d k F)(hi:i<r)(hj:j<c)(hk0:1<=k)(hk:k<=1073741824):Calls Tryz.prog 73 #[.agg #[.int .i64 (r:Int),.int .i64 (c:Int),.slice A n d],.int .i64 (i:Int),.int .i64 (j:Int)] w (RetK (kQ (F i j) k) w):=by
 obtain⟨w1,hw1,b3,b6,z1,s1⟩:=boxes2 w 24 42 [.int .i64 (r:Int),.int .i64 (c:Int),.slice A n d] [.bool false,.slice none 0 0,.bool false,.slice none 0 0];have HW:=Lib.hid hw1;have HZ:=Lib.hid z1;clear hw1 z1;go_enter Tryz.func73,Tryz.ntmps73
 go_upto_region 1 with fail
 rw[HW.out];refine Run.start 5 ?_;refine .ld .o (ldQm b3 0) ?_;refine .mv .o ?_;refine .mv .o ?_;refine .c3 (.i 0) (.i 1) (.i 2) (x:=kQv (F i j) k) (by rintro u v x w3 hB rfl rfl rfl;exact e_q (h.below (zup HZ.out hB)) hi hj) ?_;refine .al ?_;refine .donep [some 8,some 9,some 10,some 11,some 7] ?_;intro w2 B2;rintro v ⟨s_,A_,n_,c_,t_,B_,m_,d_,rfl,hz,hk1,hk2⟩;rintro g7 hg7 hl7 hc7 -;refine sh [_] ?_;simp only[Act.put,lS,lZ,lC];have b7:=zeroQ hc7;have B0:=zup HZ.out B2;replace b6:=b6.below B2;have hl6:=b6.lt;clear b3 B2 hc7 HZ h;obtain⟨w3,hw3⟩:∃x,rput w2 g7 s_ A_ n_ c_ t_ B_ m_ d_=x:=⟨_,rfl⟩;obtain⟨f1_,f2_,f3_,f4_,f5_,f6_,f7_,f8_,f9_⟩:=b7.rb;have hgr_:=c_i w2 g7 s_ A_ n_ c_ t_ B_ m_ d_;have hno_:Wless w2 g7:=b7.now (by simp);rw[hw3]at hgr_;replace b6:=a_a b6 hgr_ (by omega);replace hz:=hz.gro hno_ hgr_;replace B0:=a_c B0 hgr_ (by omega);replace b7:=b7.rp (s':=s_) (A':=A_) (n':=n_) (c':=c_) (t':=t_) (B':=B_) (m':=m_) (d':=d_);rw[hw3]at b7;have Hw3:=Lib.hid hw3;unfold rput at Hw3;clear hw3 hgr_ hno_;go_upto_region 2 with fail
 rw[Hw3.out];clear f1_ f2_ f3_ f4_ f5_ f6_ f7_ f8_ f9_ Hw3;obtain⟨N,D,hzn,hzd,hq⟩:=hz;refine Run.start 5 ?_;refine .fa .o (fR0 0) ?_;refine .ld (.i 0) (ldZ b7 0) ?_;refine .fa .o (fR1 2) ?_;refine .ld (.i 2) (ldZ b7 2) ?_;refine .c2 (.i 1) (.i 3) (x:=kQ (F i j) k) (by rintro u v w4 hB rfl rfl;rw[<-hq.out];exact j_6 k ⟨_,_,_,_,rfl,hzn.below hB,hk1⟩ ⟨_,_,_,_,rfl,hzd.below hB,hk2⟩ (Nat.le_refl _) (Nat.le_refl _) hk0 hk (Nat.le_refl _)) ?_;refine .donep [some 12,some 13,some 14,some 15,some 16] ?_;intro w4 B4;rintro v ⟨s1,A1,n1,c1,t1,B1,m1,d1,rfl,hy,hk3,hk4⟩;refine sh [_] ?_;simp only[Act.put,lS,lZ,lC];have I:=(b6.below B4).rb;have P:=Lib.hid (retQ hy I (k:=k) hk3 hk4 (by omega) (zup B0 B4));unfold rput at P;obtain⟨i1,i2,i3,i4,i5,i6,i7,i8,i9⟩:=I;clear hy
 go_wp2_with fail
 exact bodyPost_ret (v:=.agg #[.bool s1,.slice A1 n1 c1,.bool t1,.slice B1 m1 d1]) (by simp[results,Tryz.results73,go_sem,i1,i2,i3,i4]) rfl P.out
theorem y_b (i j:Nat)(w:World):Calls Tryz.prog 173 #[.int .i64 (i:Int),.int .i64 (j:Int)] w (RetK (kQ 0 1) w):=by
 obtain⟨w1,hw1,b4,z1,s1⟩:=boxes1 w 42 [.bool false,.slice none 0 0,.bool false,.slice none 0 0];have HW:=Lib.hid hw1;have HZ:=Lib.hid z1;clear hw1 z1 s1;go_enter Tryz.func173,Tryz.ntmps173
 go_upto_region 1 with fail
 rw[HW.out];refine Run.start 1 ?_;refine .c0 (x:=kQ 0 1) (by rintro w3 hB;exact u_9 w3) ?_;refine .donep [some 5] ?_;intro w2 B2;rintro v ⟨s_,A_,n_,c_,t_,B_,m_,d_,rfl,hz,hk1,hk2⟩;refine sh [_] ?_;simp only[Act.put,lS,lZ,lC];have I:=(b4.below B2).rb;have P:=Lib.hid (retQ hz I (k:=1) hk1 hk2 (by omega) (zup HZ.out B2));unfold rput at P;obtain⟨i1,i2,i3,i4,i5,i6,i7,i8,i9⟩:=I;clear hz
 go_wp2_with fail
 exact bodyPost_ret (v:=.agg #[.bool s_,.slice A_ n_ c_,.bool t_,.slice B_ m_ d_]) (by simp[results,Tryz.results173,go_sem,i1,i2,i3,i4]) rfl P.out
theorem nou_q {r c:Nat}{w:World}(hr:r<=64)(hc:c<=64):Calls Tryz.prog 137 #[.int .i64 (r:Int),.int .i64 (c:Int)] w (RetK (kMw w.heap.size r c 1 fun _ _=>0) w):=by
 obtain⟨w1,hw1,b4,z1,s1⟩:=boxes1 w 24 [.int .i64 0,.int .i64 0,.slice none 0 0];have HW:=Lib.hid hw1;have HZ:=Lib.hid z1;clear hw1 z1 s1;go_enter Tryz.func137,Tryz.ntmps137
 go_upto_region 1 with fail
 rw[HW.out];refine Run.start 3 ?_;refine .mv .o ?_;refine .mv .o ?_;refine .c3 (.i 0) (.i 1) .o (x:=kMw w.heap.size r c 1 fun _ _=>0) (by rintro u v x w3 hB rfl rfl rfl;exact(e_3 (F:=fun _ _=>0) (k:=1) hr hc (by kernel_rfl) (fun i j W _ _ _=>by rw[argsO0];exact y_b i j W)).mono fun e w' h=>h.mono fun v w2 ⟨A,n,d,e,h1⟩=>⟨A,n,d,e,h1.low (zup HZ.out hB).size⟩) ?_;refine .donep [some 5,some 6,some 7] ?_;intro w2 B2;rintro v ⟨A_,n_,d_,rfl,hM⟩;refine sh [_] ?_;simp only[Act.put,lS,lZ,lC];have P:=Lib.hid (retMw hM (b4.below B2) (by omega) (zup HZ.out B2));unfold mput at P;obtain⟨i0,i1,i2,i3,i4,i5,i6⟩:=(b4.below B2).m3;clear hM
 go_wp2_with fail
 exact bodyPost_ret (v:=.agg #[.int .i64 (r:Int),.int .i64 (c:Int),.slice A_ n_ d_]) (by simp[results,Tryz.results137,go_sem,i0,i1,i2]) rfl P.out
end
section
open Go.RowKit
theorem b_w {r c:Int}{A:Option Addr}{n d:Nat}{b:Bool}(hb:fmd r c n=b)(w:World):Calls Tryz.prog 10 #[.agg #[.int .i64 r,.int .i64 c,.slice A n d]] w (RetK (.k (.bool b)) w):=by
 obtain⟨w1,hw1,b1,z1,s1⟩:=boxes1 w 27 [.int .i64 r,.int .i64 c,.slice A n d];have HW:=Lib.hid hw1;have HZ:=Lib.hid z1;have hb_:=Lib.hid hb;clear hw1 z1 hb s1;go_enter Tryz.func10,Tryz.ntmps10
 go_upto_region 1 with fail
 rw[HW.out];by_cases g5:0<=r
 rotate_left
 ·refine Run.start 30 ?_;refine .fa .o (fM0 0) ?_;refine .ld (.i 0) (ldInt b1 0) ?_;refine .two (.i 1) .o (opGe (decide_eq_false g5)) ?_;refine .mv (.i 2) ?_;refine .no ?_;refine .no ?_;refine .no ?_;refine .pk (.i 3) .o false ?_;refine .mv (.i 7) ?_;refine .no ?_;refine .no ?_;refine .no ?_;refine .pk (.i 8) .o false ?_;refine .mv (.i 12) ?_;refine .no ?_;refine .no ?_;refine .no ?_;refine .pk (.i 13) .o false ?_;refine .mv (.i 17) ?_;refine .no ?_;refine .no ?_;refine .no ?_;refine .no ?_;refine .no ?_;refine .no ?_;refine .no ?_;refine .no ?_;refine .no ?_;refine .pk (.i 18) .o false ?_;refine .mv (.i 28) ?_;refine .donep [some 3,some 4,some 5,some 6,some 7,some 8,some 9,some 10,some 11,some 12,some 13,some 14,some 15,some 16,some 17,some 18,some 19,some 20,some 21,some 22,some 23,some 24,some 25,some 26,some 27,some 28,some 29,some 30,some 31,some 2] ?_;intro w2 B2;refine sh [] ?_;simp only[Act.put,lS,lZ,lC];have e:b=false:=by rw[<-hb_.out];unfold fmd sd;simp;omega
  subst e
  go_wp2_with fail
  exact bodyPost_ret (v:=.bool false) (by simp[results,Tryz.results10,go_sem]) rfl (a_x rfl (zup HZ.out B2))
 ·skip
  by_cases g9:r<=64
  rotate_left
  ·refine Run.start 30 ?_;refine .fa .o (fM0 0) ?_;refine .ld (.i 0) (ldInt b1 0) ?_;refine .two (.i 1) .o (opGe (decide_eq_true g5)) ?_;refine .mv (.i 2) ?_;refine .fa .o (fM0 0) ?_;refine .ld (.i 4) (ldInt b1 0) ?_;refine .two (.i 5) .o (opLe (decide_eq_false g9)) ?_;refine .pk (.i 3) (.i 6) true ?_;refine .mv (.i 7) ?_;refine .no ?_;refine .no ?_;refine .no ?_;refine .pk (.i 8) .o false ?_;refine .mv (.i 12) ?_;refine .no ?_;refine .no ?_;refine .no ?_;refine .pk (.i 13) .o false ?_;refine .mv (.i 17) ?_;refine .no ?_;refine .no ?_;refine .no ?_;refine .no ?_;refine .no ?_;refine .no ?_;refine .no ?_;refine .no ?_;refine .no ?_;refine .pk (.i 18) .o false ?_;refine .mv (.i 28) ?_;refine .donep [some 3,some 4,some 5,some 6,some 7,some 8,some 9,some 10,some 11,some 12,some 13,some 14,some 15,some 16,some 17,some 18,some 19,some 20,some 21,some 22,some 23,some 24,some 25,some 26,some 27,some 28,some 29,some 30,some 31,some 2] ?_;intro w2 B2;refine sh [] ?_;simp only[Act.put,lS,lZ,lC];have e:b=false:=by rw[<-hb_.out];unfold fmd sd;simp;omega
   subst e
   go_wp2_with fail
   exact bodyPost_ret (v:=.bool false) (by simp[results,Tryz.results10,go_sem]) rfl (a_x rfl (zup HZ.out B2))
  ·skip
   by_cases g14:0<=c
   rotate_left
   ·refine Run.start 30 ?_;refine .fa .o (fM0 0) ?_;refine .ld (.i 0) (ldInt b1 0) ?_;refine .two (.i 1) .o (opGe (decide_eq_true g5)) ?_;refine .mv (.i 2) ?_;refine .fa .o (fM0 0) ?_;refine .ld (.i 4) (ldInt b1 0) ?_;refine .two (.i 5) .o (opLe (decide_eq_true g9)) ?_;refine .pk (.i 3) (.i 6) true ?_;refine .mv (.i 7) ?_;refine .fa .o (fM1 1) ?_;refine .ld (.i 9) (ldInt b1 1) ?_;refine .two (.i 10) .o (opGe (decide_eq_false g14)) ?_;refine .pk (.i 8) (.i 11) true ?_;refine .mv (.i 12) ?_;refine .no ?_;refine .no ?_;refine .no ?_;refine .pk (.i 13) .o false ?_;refine .mv (.i 17) ?_;refine .no ?_;refine .no ?_;refine .no ?_;refine .no ?_;refine .no ?_;refine .no ?_;refine .no ?_;refine .no ?_;refine .no ?_;refine .pk (.i 18) .o false ?_;refine .mv (.i 28) ?_;refine .donep [some 3,some 4,some 5,some 6,some 7,some 8,some 9,some 10,some 11,some 12,some 13,some 14,some 15,some 16,some 17,some 18,some 19,some 20,some 21,some 22,some 23,some 24,some 25,some 26,some 27,some 28,some 29,some 30,some 31,some 2] ?_;intro w2 B2;refine sh [] ?_;simp only[Act.put,lS,lZ,lC];have e:b=false:=by rw[<-hb_.out];unfold fmd sd;simp;omega
    subst e
    go_wp2_with fail
    exact bodyPost_ret (v:=.bool false) (by simp[results,Tryz.results10,go_sem]) rfl (a_x rfl (zup HZ.out B2))
   ·skip
    by_cases g19:c<=64
    rotate_left
    ·refine Run.start 30 ?_;refine .fa .o (fM0 0) ?_;refine .ld (.i 0) (ldInt b1 0) ?_;refine .two (.i 1) .o (opGe (decide_eq_true g5)) ?_;refine .mv (.i 2) ?_;refine .fa .o (fM0 0) ?_;refine .ld (.i 4) (ldInt b1 0) ?_;refine .two (.i 5) .o (opLe (decide_eq_true g9)) ?_;refine .pk (.i 3) (.i 6) true ?_;refine .mv (.i 7) ?_;refine .fa .o (fM1 1) ?_;refine .ld (.i 9) (ldInt b1 1) ?_;refine .two (.i 10) .o (opGe (decide_eq_true g14)) ?_;refine .pk (.i 8) (.i 11) true ?_;refine .mv (.i 12) ?_;refine .fa .o (fM1 1) ?_;refine .ld (.i 14) (ldInt b1 1) ?_;refine .two (.i 15) .o (opLe (decide_eq_false g19)) ?_;refine .pk (.i 13) (.i 16) true ?_;refine .mv (.i 17) ?_;refine .no ?_;refine .no ?_;refine .no ?_;refine .no ?_;refine .no ?_;refine .no ?_;refine .no ?_;refine .no ?_;refine .no ?_;refine .pk (.i 18) .o false ?_;refine .mv (.i 28) ?_;refine .donep [some 3,some 4,some 5,some 6,some 7,some 8,some 9,some 10,some 11,some 12,some 13,some 14,some 15,some 16,some 17,some 18,some 19,some 20,some 21,some 22,some 23,some 24,some 25,some 26,some 27,some 28,some 29,some 30,some 31,some 2] ?_;intro w2 B2;refine sh [] ?_;simp only[Act.put,lS,lZ,lC];have e:b=false:=by rw[<-hb_.out];unfold fmd sd;simp;omega
     subst e
     go_wp2_with fail
     exact bodyPost_ret (v:=.bool false) (by simp[results,Tryz.results10,go_sem]) rfl (a_x rfl (zup HZ.out B2))
    ·skip
     refine Run.start 30 ?_;refine .fa .o (fM0 0) ?_;refine .ld (.i 0) (ldInt b1 0) ?_;refine .two (.i 1) .o (opGe (decide_eq_true g5)) ?_;refine .mv (.i 2) ?_;refine .fa .o (fM0 0) ?_;refine .ld (.i 4) (ldInt b1 0) ?_;refine .two (.i 5) .o (opLe (decide_eq_true g9)) ?_;refine .pk (.i 3) (.i 6) true ?_;refine .mv (.i 7) ?_;refine .fa .o (fM1 1) ?_;refine .ld (.i 9) (ldInt b1 1) ?_;refine .two (.i 10) .o (opGe (decide_eq_true g14)) ?_;refine .pk (.i 8) (.i 11) true ?_;refine .mv (.i 12) ?_;refine .fa .o (fM1 1) ?_;refine .ld (.i 14) (ldInt b1 1) ?_;refine .two (.i 15) .o (opLe (decide_eq_true g19)) ?_;refine .pk (.i 13) (.i 16) true ?_;refine .mv (.i 17) ?_;refine .fa .o (fM2 2) ?_;refine .ld (.i 19) (ldSl b1 2) ?_;refine .len (.i 20) Tryz.underlying25 ?_;refine .fa .o (fM0 0) ?_;refine .ld (.i 22) (ldInt b1 0) ?_;refine .fa .o (fM1 1) ?_;refine .ld (.i 24) (ldInt b1 1) ?_;refine .two (.i 23) (.i 25) (opMul rfl (j_d (by unfold sd;exact decide_eq_true ⟨g5,g9⟩) (by unfold sd;exact decide_eq_true ⟨g14,g19⟩)).1 (j_d (by unfold sd;exact decide_eq_true ⟨g5,g9⟩) (by unfold sd;exact decide_eq_true ⟨g14,g19⟩)).2) ?_;refine .two (.i 21) (.i 26) (opEq rfl) ?_;refine .pk (.i 18) (.i 27) true ?_;refine .mv (.i 28) ?_;refine .donep [some 3,some 4,some 5,some 6,some 7,some 8,some 9,some 10,some 11,some 12,some 13,some 14,some 15,some 16,some 17,some 18,some 19,some 20,some 21,some 22,some 23,some 24,some 25,some 26,some 27,some 28,some 29,some 30,some 31,some 2] ?_;intro w2 B2;refine sh [] ?_;simp only[Act.put,lS,lZ,lC];have e:decide ((n:Int)=r*c)=b:=by rw[<-hb_.out];unfold fmd sd;simp[g5,g9,g14,g19]
     rw[e];clear e
     go_wp2_with fail
     exact bodyPost_ret (v:=.bool b) (by simp[results,Tryz.results10,go_sem]) rfl (a_x rfl (zup HZ.out B2))
def fewb (r c:Int)(R:List Zr)(N W:Nat):Bool:=decide (r<=N)&&decide (c<=N)&&fwb R 100 W
theorem c_n {r c:Int}{A:Option Addr}{n d N W:Nat}{R:List Zr}{b:Bool}{w:World}(hx:RL w A n d R)(hb:fewb r c R N W=b)(hW':W<=1000):Calls Tryz.prog 8 #[.agg #[.int .i64 r,.int .i64 c,.slice A n d],.int .i64 (N:Int),.int .i64 (W:Int)] w (RetK (.k (.bool b)) w):=by
 obtain⟨t,ht⟩:∃t,fwb R 100 W=t:=⟨_,rfl⟩;obtain⟨w1,hw1,b3,z1,s1⟩:=boxes1 w 27 [.int .i64 r,.int .i64 c,.slice A n d];have HW:=Lib.hid hw1;have HZ:=Lib.hid z1;have hb_:=Lib.hid hb;have ht_:=Lib.hid ht;clear hw1 z1 hb ht s1;go_enter Tryz.func8,Tryz.ntmps8
 go_upto_region 1 with fail
 rw[HW.out];by_cases g10:r<=(N:Int)
 rotate_left
 ·refine Run.start 17 ?_;refine .fa .o (fM0 0) ?_;refine .ld (.i 0) (ldInt b3 0) ?_;refine .mv .o ?_;refine .two (.i 1) (.i 2) (opLe (decide_eq_false g10)) ?_;refine .mv (.i 3) ?_;refine .no ?_;refine .no ?_;refine .no ?_;refine .no ?_;refine .pk (.i 4) .o false ?_;refine .mv (.i 9) ?_;refine .no ?_;refine .no ?_;refine .no ?_;refine .no ?_;refine .pk (.i 10) .o false ?_;refine .mv (.i 15) ?_;refine .donep [some 7,some 8,some 9,some 10,some 11,some 12,some 13,some 14,some 15,some 16,some 17,some 18,some 19,some 20,some 21,some 22,some 6] ?_;intro w2 B2;refine sh [] ?_;simp only[Act.put,lS,lZ,lC];have e:b=false:=by rw[<-hb_.out];unfold fewb;simp[g10]
  subst e
  go_wp2_with fail
  exact bodyPost_ret (v:=.bool false) (by simp[results,Tryz.results8,go_sem]) rfl (a_x rfl (zup HZ.out B2))
 ·skip
  by_cases g15:c<=(N:Int)
  rotate_left
  ·refine Run.start 17 ?_;refine .fa .o (fM0 0) ?_;refine .ld (.i 0) (ldInt b3 0) ?_;refine .mv .o ?_;refine .two (.i 1) (.i 2) (opLe (decide_eq_true g10)) ?_;refine .mv (.i 3) ?_;refine .fa .o (fM1 1) ?_;refine .ld (.i 5) (ldInt b3 1) ?_;refine .mv .o ?_;refine .two (.i 6) (.i 7) (opLe (decide_eq_false g15)) ?_;refine .pk (.i 4) (.i 8) true ?_;refine .mv (.i 9) ?_;refine .no ?_;refine .no ?_;refine .no ?_;refine .no ?_;refine .pk (.i 10) .o false ?_;refine .mv (.i 15) ?_;refine .donep [some 7,some 8,some 9,some 10,some 11,some 12,some 13,some 14,some 15,some 16,some 17,some 18,some 19,some 20,some 21,some 22,some 6] ?_;intro w2 B2;refine sh [] ?_;simp only[Act.put,lS,lZ,lC];have e:b=false:=by rw[<-hb_.out];unfold fewb;simp[g15]
   subst e
   go_wp2_with fail
   exact bodyPost_ret (v:=.bool false) (by simp[results,Tryz.results8,go_sem]) rfl (a_x rfl (zup HZ.out B2))
  ·skip
   refine Run.start 17 ?_;refine .fa .o (fM0 0) ?_;refine .ld (.i 0) (ldInt b3 0) ?_;refine .mv .o ?_;refine .two (.i 1) (.i 2) (opLe (decide_eq_true g10)) ?_;refine .mv (.i 3) ?_;refine .fa .o (fM1 1) ?_;refine .ld (.i 5) (ldInt b3 1) ?_;refine .mv .o ?_;refine .two (.i 6) (.i 7) (opLe (decide_eq_true g15)) ?_;refine .pk (.i 4) (.i 8) true ?_;refine .mv (.i 9) ?_;refine .fa .o (fM2 2) ?_;refine .ld (.i 11) (ldSl b3 2) ?_;refine .mv .o ?_;refine .c3 (.i 12) .o (.i 13) (x:=.k (.bool t)) (by rintro u v x w2 hB rfl rfl rfl;exact(r_l (hx.below (zup HZ.out hB)) (by omega) hW' ht_.out).mono fun e w' h=>⟨_,h.1,rfl,h.2⟩) ?_;refine .pk (.i 10) (.i 14) true ?_;refine .mv (.i 15) ?_;refine .donep [some 7,some 8,some 9,some 10,some 11,some 12,some 13,some 14,some 15,some 16,some 17,some 18,some 19,some 20,some 21,some 22,some 6] ?_;intro w2 B2;refine sh [] ?_;simp only[Act.put,lS,lZ,lC];have e:b=t:=by rw[<-hb_.out,<-ht_.out];unfold fewb;simp[g10,g15]
   subst e
   go_wp2_with fail
   exact bodyPost_ret (v:=.bool b) (by simp[results,Tryz.results8,go_sem]) rfl (a_x rfl (zup HZ.out B2))
end
section
open Go.RowKit
section
variable {w:World}
theorem ldNa {p:Addr}{A:Option Addr}{n c:Nat}(hp:p.block<w.heap.size)(h:w.cell? p=some (.slice A n c)):∀w',Below w.heap.size w w'->(Instr.loadAt 29 (.pointer (some p))).run Tryz.prog w'= .ok (.slice A n c) w':=fun w' hb=>by
 have:=(hb.cell hp).trans h;simp[go_sem,a_j,this]
end
end
section
open Go.RowKit
theorem exM0 {e:Int}:∀v w,(noM e).F v w->∃vs:Array Value,∃u',v= .tuple vs/\vs[0]? =some u'/\(FK.k (.agg #[.int .i64 0,.int .i64 0,.slice none 0 0])).F u' w:=fun v w e=>⟨_,_,e,rfl,rfl⟩
theorem exM1 {e:Int}:∀v w,(noM e).F v w->∃vs:Array Value,∃u',v= .tuple vs/\vs[1]? =some u'/\(FK.k (.int .i64 e)).F u' w:=fun v w e=>⟨_,_,e,rfl,rfl⟩
section
variable {ops:Array Oper}{Q:Exit->Act->World->Prop}{m:Nat}{a0 a:Act}{w0 w:World}{b:Bool}{id:Nat}
end
section
variable {w:World}{g h:Nat}{T:TypeId}{cs:List Value}{s t:Bool}{A B:Option Addr}{n c m d e:Nat}{r c' x y z:Int}
theorem Bx.mo {c:Int}{n d:Nat}(b:Bx w h T cs)(hn:h≠g):Bx (mput w g r c A n d) h T cs:=((b.off hn _ _).off hn _ _).off hn _ _
theorem Bx.mp {c:Int}{n d:Nat}(b:Bx w g 27 [.int .i64 x,.int .i64 y,.slice B m e]):Bx (mput w g r c A n d) g 27 [.int .i64 r,.int .i64 c,.slice A n d]:=((b.set 0 _).set 1 _).set 2 _
theorem zeroM (h:w.heap[g]? =some (zeroObj 27)):Bx w g 27 [.int .i64 0,.int .i64 0,.slice none 0 0]:=h.trans (congrArg some (by kernel_rfl))
end
def IsIJ (xs:List Int):FVal:=fun v w=>∃g,v= .slice (some ⟨g,0,none⟩) xs.length xs.length/\Il w (some ⟨g,0,none⟩) xs.length xs.length xs
def kIJ (xs:List Int):FK:=.f (IsIJ xs) (fun v w w' ⟨g,e,h⟩ hb=>⟨g,e,h.below hb⟩)
def okBsJ (ops:Array Oper)(m i:Nat)(ss:List Src):Bool:=okH ops m i&&(match(opAt ops i).op with| .buildSlice T n xs=>T==110&&n==ss.length&&xs.toList.map (·.1)==List.range ss.length&&okSrcs ops m i (xs.toList.map (·.2)) ss|_=>false)
theorem r_f {w:World}{x y z u:Int}:(Instr.buildSlice 110 4 #[(0,.int .i64 x),(1,.int .i64 y),(2,.int .i64 z),(3,.int .i64 u)]).run Tryz.prog w= .ok (.slice (some ⟨w.heap.size,0,none⟩) 4 4) (w.alloc (.cells #[.int .i64 x,.int .i64 y,.int .i64 z,.int .i64 u] 2)):=by kernel_rfl
theorem Run.bsJ4 {ops:Array Oper}{Q:Exit->Act->World->Prop}{m i:Nat}{a0:Act}{w0:World}{l:List FK}{b:Bool}{id:Nat}(s t p q:Src){x y z u:Int}(hb:∀v,v∈[x,y,z,u]-> -9223372036854775808<=v/\v<=9223372036854775807)(rest:R ops Q m a0 w0 b id (kIJ [x,y,z,u]::l) (i+1))(hx:srcsK l i a0 (bsL (opAt ops i).op) [s,t,p,q] [.int .i64 x,.int .i64 y,.int .i64 z,.int .i64 u]:=by exact⟨rfl,rfl,rfl,rfl,trivial⟩)(hc:okBsJ ops m i [s,t,p,q]=true:=by kernel_rfl)(hg:Gd l i (opAt ops i):=by first|exact trivial|exact rfl):R ops Q m a0 w0 b id l i:=by
 unfold okBsJ at hc;rw[Bool.and_eq_true]at hc;obtain⟨h1,h2⟩:=hc;refine Run.mem (x:=kIJ [x,y,z,u]) (fun a w h=>?_) rest (FK.fne _) h1 hg;split at h2
 ·rename_i T n xs e;rw[e]at hx;simp only[Bool.and_eq_true,beq_iff_eq]at h2;obtain⟨⟨⟨rfl,rfl⟩,h3⟩,h4⟩:=h2;have hv:=h.srcs h4 hx;have hp:(xs.map fun(i,y)=>(i,a.eval y))= #[(0,.int .i64 x),(1,.int .i64 y),(2,.int .i64 z),(3,.int .i64 u)]:=by
   obtain⟨ys⟩:=xs;match ys,h3,hv with
   | [(k0,x0),(k1,x1),(k2,x2),(k3,x3)],h3,hv=>
    have h3':[k0,k1,k2,k3]=[0,1,2,3]:=h3;have hv':[a.eval x0,a.eval x1,a.eval x2,a.eval x3]=[.int .i64 x,.int .i64 y,.int .i64 z,.int .i64 u]:=hv;simp only[List.cons.injEq,and_true]at h3' hv';simp[h3'.1,h3'.2.1,h3'.2.2.1,h3'.2.2.2,hv'.1,hv'.2.1,hv'.2.2.1,hv'.2.2.2]
  have B:=zba w (.cells #[.int .i64 x,.int .i64 y,.int .i64 z,.int .i64 u] 2);have b4:=Bx.new w 2 [.int .i64 x,.int .i64 y,.int .i64 z,.int .i64 u];refine⟨_,_, ?_,⟨w.heap.size,rfl,rfl,Nat.le_refl _,by show 4<=9223372036854775807;decide,fun _=>⟨_,rfl,b4.lt,fun j hj=>?_⟩,fun j hj=>?_⟩,B⟩
  ·unfold execOp;rw[e];simp only[hp];simp[r_f]
  ·rw[a_5];refine(b4.cell j).trans ?_;match j,hj with
   |0,_=>rfl
   |1,_=>rfl
   |2,_=>rfl
   |3,_=>rfl
  ·match j,hj with
   |0,_=>exact hb x (by simp)
   |1,_=>exact hb y (by simp)
   |2,_=>exact hb z (by simp)
   |3,_=>exact hb u (by simp)
 ·cases h2
end
end Go.Proofs.YtfhbdlegkdbmfaaGreat
