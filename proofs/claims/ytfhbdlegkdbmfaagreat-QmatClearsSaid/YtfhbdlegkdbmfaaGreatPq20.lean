/- Pq20 -/
import Derived.Test.YtfhbdlegkdbmfaaGreatPq19
set_option linter.unusedVariables false
set_option linter.unusedSimpArgs false
set_option linter.unusedSectionVars false
set_option maxRecDepth 100000
set_option maxHeartbeats 8000000
namespace Go.Proofs.YtfhbdlegkdbmfaaGreat
section
open Go.RowKit
theorem Bx.m3T {w:World}{g:Nat}{T:TypeId}{v0 v1 v2:Value}(b:Bx w g T [v0,v1,v2]):w.cell? ⟨g,0,none⟩=some v0/\w.cell? ⟨g,1,none⟩=some v1/\w.cell? ⟨g,2,none⟩=some v2/\w.frozen? ⟨g,0,none⟩=false/\w.frozen? ⟨g,1,none⟩=false/\w.frozen? ⟨g,2,none⟩=false/\g<w.heap.size:=⟨b.cell 0,b.cell 1,b.cell 2,b.free 0,b.free 1,b.free 2,b.lt⟩
theorem r_u {q:Bool}{r c n d k i j g g' m e:Nat}{A B:Option Addr}{F:Nat->Nat->Int}{s:Bool}{D:Int}{w:World}(b2:Bx w g 27 [.int .i64 (r:Int),.int .i64 (c:Int),.slice A n d])(b3:Bx w g' 31 [.bool s,.slice B m e])(h:Mt q w r c A n d k F)(hd:Zv w s B m e D)(hm:m<=k)(hi:i<r)(hj:j<c)(hk0:1<=k)(hk:k<=1073741824):Calls Tryz.prog 45 #[.int .i64 (i:Int),.int .i64 (j:Int),.pointer (some ⟨g,0,none⟩),.pointer (some ⟨g',0,none⟩)] w (RetK (kQ (Rat.divInt (F i j) D) k) w):=by
 have h1:=h.hr;have h2:=h.hc;have h5:i*c<=64*64:=Nat.mul_le_mul (by omega) h2;have hlt:i*c+j<n:=by rw[h.len];exact q_p hi hj
 obtain⟨w1,hw1,b6,z1,s1⟩:=boxes1 w 42 [.bool false,.slice none 0 0,.bool false,.slice none 0 0];have HW:=Lib.hid hw1;have HZ:=Lib.hid z1;replace b2:=b2.below z1;replace b3:=b3.below z1;replace hd:=hd.below z1;obtain⟨ad,rfl,hab,hA⟩:=(h.below z1).zl.at hlt;obtain⟨sA,A1,n1,c1,e1,e2,ze,hk1⟩:=hA;rw[show ith (mk r c F) (i*c+j)=F i j from v_6 hi hj]at ze;have hz1:=ze.1;clear ze h;clear hw1 z1 s1;go_enter Tryz.func45,Tryz.ntmps45
 go_upto_region 1 with fail
 rw[HW.out];refine Run.start 12 ?_;refine .fa .o (fM2 2) ?_;refine .ld (.i 0) (ldSl b2 2) ?_;refine .mv .o ?_;refine .fa .o (fM1 1) ?_;refine .ld (.i 3) (ldInt b2 1) ?_;refine .two (.i 2) (.i 4) (opMulN i c (by omega)) ?_;refine .mv .o ?_;refine .two (.i 5) (.i 6) (opAddN (i*c) j (by omega)) ?_;refine .two (.i 1) (.i 7) (opIx hlt) ?_;refine .ld (.i 8) (ldE (by rw[a_b];exact hab) e1 e2) ?_;refine .ld .o (ldZ b3 0) ?_;refine .c2 (.i 9) (.i 10) (x:=kQ (Rat.divInt (F i j) D) k) (by rintro u v w3 hB rfl rfl;exact j_6 k ⟨_,_,_,_,rfl,hz1.below hB,hk1⟩ ⟨_,_,_,_,rfl,hd.below hB,Nat.le_refl _⟩ (Nat.le_refl _) hm hk0 hk (Nat.le_refl _)) ?_;refine .done [some 7,some 8,some 9,some 10,some 11,some 12,some 13,some 14,some 15,some 16,some 17,some 18] ?_;intro w2 B2;rintro v ⟨s_,A_,n_,c_,t_,B_,m_,d_,rfl,hz,hk3,hk4⟩;refine sh [_] ?_;simp only[Act.put,lS,lZ,lC];clear e1 e2 hz1 hd;have I:=(b6.below B2).rb;have P:=Lib.hid (retQ hz I (k:=k) hk3 hk4 (by omega) (zup HZ.out B2));unfold rput at P;obtain⟨i1,i2,i3,i4,i5,i6,i7,i8,i9⟩:=I;clear hz
 go_wp2_with fail
 exact bodyPost_ret (v:=.agg #[.bool s_,.slice A_ n_ c_,.bool t_,.slice B_ m_ d_]) (by simp[results,Tryz.results45,go_sem,i1,i2,i3,i4]) rfl P.out
theorem g_l {q:Bool}{r c n d k m e:Nat}{A B:Option Addr}{F:Nat->Nat->Int}{s:Bool}{D:Int}{w:World}(h:Mt q w r c A n d k F)(hd:Zv w s B m e D)(hm:m<=k)(hD:D≠0)(hk0:1<=k)(hk:k<=1073741824):Calls Tryz.prog 9 #[.agg #[.int .i64 (r:Int),.int .i64 (c:Int),.slice A n d],.agg #[.bool s,.slice B m e]] w (RetK (kT (kMw w.heap.size r c k fun i j=>Rat.divInt (F i j) D) (.k (.int .i64 0))) w):=by
 have h1:=h.fmd;have hr:=h.hr;have hc:=h.hc;obtain⟨w1,hw1,b2,b3,b4,z1,s1⟩:=boxes3 w 27 31 24 [.int .i64 (r:Int),.int .i64 (c:Int),.slice A n d] [.bool s,.slice B m e] [.int .i64 0,.int .i64 0,.slice none 0 0];have HW:=Lib.hid hw1;have HZ:=Lib.hid z1;have h1_:=Lib.hid h1;clear hw1 z1 h1 s1;go_enter Tryz.func9,Tryz.ntmps9
 go_upto_region 1 with fail
 rw[HW.out];refine Run.start 4 ?_;refine .ld .o (ldM b2 0) ?_;refine .c1 (.i 0) (x:=.k (.bool true)) (by rintro u w2 hB rfl;exact c_z h1_.out w2) ?_;refine .nt (.i 1) ?_;refine .mv (.i 2) ?_;refine .donep [some 7,some 8,some 9,some 6] ?_;intro w2 B2;refine sh [] ?_;simp only[Act.put,lS,lZ,lC];replace b2:=b2.below B2;replace b3:=b3.below B2;replace b4:=b4.below B2;have HZ2:=Lib.hid (zup HZ.out B2);clear B2 HZ;go_upto_region 3 with fail
 refine Run.start 4 ?_;refine .ld .o (ldZ b3 0) ?_;refine .c1 (.i 0) (x:=.k (.int .i64 D.sign)) (by rintro u w4 hB rfl;exact a_z ⟨_,_,_,_,rfl,hd.below (zup HZ2.out hB),hm⟩ (by omega) rfl) ?_;refine .two (.i 1) .o (opEq (decide_eq_false (fun e=>hD (Int.sign_eq_zero_iff_zero.1 e)))) ?_;refine .mv (.i 2) ?_;refine .donep [some 12,some 13,some 14,some 11] ?_;intro w3 B3;refine sh [] ?_;simp only[Act.put,lS,lZ,lC];replace b2:=b2.below B3;replace b3:=b3.below B3;replace b4:=b4.below B3;replace HZ2:=Lib.hid (zup HZ2.out B3);clear B3;go_upto_region 5 with fail
 refine Run.start 6 ?_;refine .fa .o (fM0 0) ?_;refine .ld (.i 0) (ldInt b2 0) ?_;refine .fa .o (fM1 1) ?_;refine .ld (.i 2) (ldInt b2 1) ?_;refine .fn [] [.o,.o] [] [_,_] (trivial) (⟨rfl,rfl,trivial⟩) ?_;refine .c3 (.i 1) (.i 3) (.i 4) (x:=kMw w.heap.size r c k fun i j=>Rat.divInt (F i j) D) (by rintro u v x w4 hB rfl rfl rfl;exact(e_3 hr hc (by kernel_rfl) (fun i j W hi hj hW=>by rw[argsO];exact r_u ((b2.below hB).below hW) ((b3.below hB).below hW) (h.below (zup (zup HZ2.out hB) hW)) (hd.below (zup (zup HZ2.out hB) hW)) hm hi hj hk0 hk)).mono fun e w' h=>h.mono fun v w2 ⟨A,n,d,e,h1⟩=>⟨A,n,d,e,h1.low (zup HZ2.out hB).size⟩) ?_;refine .donep [some 16,some 17,some 18,some 19,some 20,some 21] ?_;intro w5 B5;rintro v ⟨A_,n_,d_,rfl,hM⟩;refine sh [_,_] ?_;simp only[Act.put,lS,lZ,lC];have P:=Lib.hid (retMwE hM (b4.below B5) (by omega) (zup HZ2.out B5));unfold mput at P;obtain⟨i0,i1,i2,i3,i4,i5,i6⟩:=(b4.below B5).m3;clear hM
 go_wp2_with fail
 exact bodyPost_ret (v:=.tuple #[.agg #[.int .i64 (r:Int),.int .i64 (c:Int),.slice A_ n_ d_],.int .i64 0]) (by simp[results,Tryz.results9,go_sem,i0,i1,i2]) rfl P.out
theorem m_g {r c:Int}{n d m e:Nat}{A B:Option Addr}{s:Bool}{w:World}(h1:fmd r c n=false):Calls Tryz.prog 9 #[.agg #[.int .i64 r,.int .i64 c,.slice A n d],.agg #[.bool s,.slice B m e]] w (RetK (noM 2) w):=by
 obtain⟨w1,hw1,b2,b3,b4,z1,s1⟩:=boxes3 w 27 31 24 [.int .i64 r,.int .i64 c,.slice A n d] [.bool s,.slice B m e] [.int .i64 0,.int .i64 0,.slice none 0 0];have HW:=Lib.hid hw1;have HZ:=Lib.hid z1;have h1_:=Lib.hid h1;clear hw1 z1 h1 s1;go_enter Tryz.func9,Tryz.ntmps9
 go_upto_region 1 with fail
 rw[HW.out];refine Run.start 4 ?_;refine .ld .o (ldM b2 0) ?_;refine .c1 (.i 0) (x:=.k (.bool false)) (by rintro u w2 hB rfl;exact c_z h1_.out w2) ?_;refine .nf (.i 1) ?_;refine .mv (.i 2) ?_;refine .donep [some 7,some 8,some 9,some 6] ?_;intro w2 B2;refine sh [] ?_;simp only[Act.put,lS,lZ,lC];have P:=Lib.hid (retNoT (e':=2) (b4.below B2) (by omega) (zup HZ.out B2));unfold mput at P;obtain⟨i0,i1,i2,i3,i4,i5,i6⟩:=(b4.below B2).m3
 go_wp2_with fail
 exact bodyPost_ret (v:=.tuple #[.agg #[.int .i64 0,.int .i64 0,.slice none 0 0],.int .i64 2]) (by simp[results,Tryz.results9,go_sem,i0,i1,i2]) rfl P.out
theorem n_n {q:Bool}{r c n d k m e:Nat}{A B:Option Addr}{F:Nat->Nat->Int}{s:Bool}{w:World}(h:Mt q w r c A n d k F)(hd:Zv w s B m e 0)(hm:m<=1073741824):Calls Tryz.prog 9 #[.agg #[.int .i64 (r:Int),.int .i64 (c:Int),.slice A n d],.agg #[.bool s,.slice B m e]] w (RetK (noM 3) w):=by
 have h1:=h.fmd;obtain⟨w1,hw1,b2,b3,b4,z1,s1⟩:=boxes3 w 27 31 24 [.int .i64 (r:Int),.int .i64 (c:Int),.slice A n d] [.bool s,.slice B m e] [.int .i64 0,.int .i64 0,.slice none 0 0];have HW:=Lib.hid hw1;have HZ:=Lib.hid z1;have h1_:=Lib.hid h1;clear hw1 z1 h1 s1;go_enter Tryz.func9,Tryz.ntmps9
 go_upto_region 1 with fail
 rw[HW.out];refine Run.start 4 ?_;refine .ld .o (ldM b2 0) ?_;refine .c1 (.i 0) (x:=.k (.bool true)) (by rintro u w2 hB rfl;exact c_z h1_.out w2) ?_;refine .nt (.i 1) ?_;refine .mv (.i 2) ?_;refine .donep [some 7,some 8,some 9,some 6] ?_;intro w2 B2;refine sh [] ?_;simp only[Act.put,lS,lZ,lC];replace b2:=b2.below B2;replace b3:=b3.below B2;replace b4:=b4.below B2;have HZ2:=Lib.hid (zup HZ.out B2);clear B2 HZ;go_upto_region 3 with fail
 refine Run.start 4 ?_;refine .ld .o (ldZ b3 0) ?_;refine .c1 (.i 0) (x:=.k (.int .i64 0)) (by rintro u w4 hB rfl;exact a_z ⟨_,_,_,_,rfl,hd.below (zup HZ2.out hB),hm⟩ (by omega) (by decide)) ?_;refine .two (.i 1) .o (opEq (by decide:decide ((0:Int)=0)=true)) ?_;refine .mv (.i 2) ?_;refine .donep [some 12,some 13,some 14,some 11] ?_;intro w3 B3;refine sh [] ?_;simp only[Act.put,lS,lZ,lC];have P:=Lib.hid (retNoT (e':=3) (b4.below B3) (by omega) (zup HZ2.out B3));unfold mput at P;obtain⟨i0,i1,i2,i3,i4,i5,i6⟩:=(b4.below B3).m3
 go_wp2_with fail
 exact bodyPost_ret (v:=.tuple #[.agg #[.int .i64 0,.int .i64 0,.slice none 0 0],.int .i64 3]) (by simp[results,Tryz.results9,go_sem,i0,i1,i2]) rfl P.out
theorem c_s {q:Bool}{r c n d k:Nat}{A:Option Addr}{F:Nat->Nat->Int}{w:World}(h:Mt q w r c A n d k F)(hk0:1<=k)(hk:k<=1073741824):Calls Tryz.prog 21 #[.agg #[.int .i64 (r:Int),.int .i64 (c:Int),.slice A n d]] w (RetK (kT (kMw w.heap.size r c k fun i j=>((F i j:Int):Rat)) (.k (.int .i64 0))) w):=by
 have e:(fun i j=>Rat.divInt (F i j) 1)=fun i j=>((F i j:Int):Rat):=by funext i j;exact o_y _
 obtain⟨w1,hw1,b1,b2,z1,s1⟩:=boxes2 w 27 24 [.int .i64 (r:Int),.int .i64 (c:Int),.slice A n d] [.int .i64 0,.int .i64 0,.slice none 0 0];have HW:=Lib.hid hw1;have HZ:=Lib.hid z1;have e_:=Lib.hid e;clear hw1 z1 e s1;go_enter Tryz.func21,Tryz.ntmps21
 go_upto_region 1 with fail
 rw[HW.out];refine Run.start 5 ?_;refine .ld .o (ldM b1 0) ?_;refine .c1 .o (x:=kC 1 1) (by rintro u w4 hB rfl;exact h_x (by omega) (by omega) w4) ?_;refine .c2 (.i 0) (.i 1) (x:=kT (kMw w.heap.size r c k fun i j=>((F i j:Int):Rat)) (.k (.int .i64 0))) (by rintro u v w4 hB rfl ⟨s_,A_,n_,c_,rfl,hz,hk1⟩;rw[<-e_.out];exact(g_l (h.below (zup HZ.out hB)) hz.zv (by omega) (by decide) hk0 hk).mono fun e w' h=>h.mono fun v w2 ⟨a,b,e,⟨A,n,d,e2,h1⟩,h2⟩=>⟨a,b,e,⟨A,n,d,e2,h1.low (zup HZ.out hB).size⟩,h2⟩) ?_;refine .ex (.i 2) 0 kT_0 ?_;refine .ex (.i 2) 1 kT_1 ?_;refine .done [some 4,some 5,some 6,some 7,some 8] ?_;intro w2 B2;rintro v5 -;rintro v6 -;rintro v ⟨A_,n_,d_,rfl,hM⟩;refine sh [_,_] ?_;simp only[Act.put,lS,lZ,lC];have P:=Lib.hid (retMwE hM (b2.below B2) (by omega) (zup HZ.out B2));unfold mput at P;obtain⟨i0,i1,i2,i3,i4,i5,i6⟩:=(b2.below B2).m3;clear hM
 go_wp2_with fail
 exact bodyPost_ret (v:=.tuple #[.agg #[.int .i64 (r:Int),.int .i64 (c:Int),.slice A_ n_ d_],.int .i64 0]) (by simp[results,Tryz.results21,go_sem,i0,i1,i2]) rfl P.out
theorem x_1 {r:Nat}{w:World}(hr:r<=64):Calls Tryz.prog 98 #[.int .i64 (r:Int)] w (RetK (kMw w.heap.size r r 1 fun i j=>(((if i=j then 1 else 0:Int)):Rat)) w):=by
 obtain⟨w1,hw1,b2,z1,s1⟩:=boxes1 w 24 [.int .i64 0,.int .i64 0,.slice none 0 0];have HW:=Lib.hid hw1;have HZ:=Lib.hid z1;clear hw1 z1;go_enter Tryz.func98,Tryz.ntmps98
 go_upto_region 1 with fail
 rw[HW.out];refine Run.start 6 ?_;refine .mv .o ?_;refine .c1 (.i 0) (x:=kT (kM true r r 1 (fun i j=>if i=j then 1 else 0)) (.k (.int .i64 0))) (by rintro u w2 hB rfl;exact v_7 hr) ?_;refine .mf (.i 1) ?_;refine .ex (.i 2) 0 kT_0 ?_;refine .ex (.i 2) 1 kT_1 ?_;refine .al ?_;refine .donep [some 8,some 9,some 7,some 10,some 11,some 3] ?_;intro w2 B2;rintro v9 -;rintro v7 -;rintro v ⟨A1,n1,d1,rfl,hM⟩;rintro g3 hg3 hl3 hc3 -;refine sh [_,_] ?_;simp only[Act.put,lS,lZ,lC];have b3:=zeroM hc3;have B0:=zup HZ.out B2;have hl2:=b2.lt;replace b2:=b2.below B2;clear B2 hc3 HZ;obtain⟨w3,hw3⟩:∃x,mput w2 g3 (r:Int) (r:Int) A1 n1 d1=x:=⟨_,rfl⟩;obtain⟨f0_,f1_,f2_,f3_,f4_,f5_,f6_⟩:=b3.m3;replace b2:=b2.mo (g:=g3) (r:=(r:Int)) (c:=(r:Int)) (A:=A1) (n:=n1) (d:=d1) (by omega);rw[hw3]at b2;replace hM:=hM.put (r':=(r:Int)) (c':=(r:Int)) (C:=A1) (n':=n1) (d':=d1) b3;rw[hw3]at hM;replace B0:=b_4 (g:=g3) (r:=(r:Int)) (c:=(r:Int)) (A:=A1) (n:=n1) (d:=d1) B0 (by omega);rw[hw3]at B0;replace b3:=b3.mp (g:=g3) (r:=(r:Int)) (c:=(r:Int)) (A:=A1) (n:=n1) (d:=d1);rw[hw3]at b3;have Hw3:=Lib.hid hw3;unfold mput at Hw3;clear hw3;go_upto_region 2 with fail
 rw[Hw3.out];clear f0_ f1_ f2_ f3_ f4_ f5_ f6_ Hw3;refine Run.start 6 ?_;refine .ld .o (ldM b3 0) ?_;refine .c1 (.i 0) (x:=kT (kMw w.heap.size r r 1 fun i j=>(((if i=j then 1 else 0:Int)):Rat)) (.k (.int .i64 0))) (by rintro u w5 hB rfl;exact(c_s (hM.below hB) (Nat.le_refl _) (by omega)).mono fun e w' h=>h.mono fun v w2 ⟨a,b,e,⟨A,n,d,e2,h1⟩,h2⟩=>⟨a,b,e,⟨A,n,d,e2,h1.low (Nat.le_trans B0.size hB.size)⟩,h2⟩) ?_;refine .mf (.i 1) ?_;refine .ex (.i 2) 0 kT_0 ?_;refine .ex (.i 2) 1 kT_1 ?_;refine .al ?_;refine .donep [some 13,some 14,some 12,some 15,some 16,some 5] ?_;intro w4 B4;rintro v14 -;rintro v12 -;rintro v ⟨A_,n_,d_,rfl,hN⟩;rintro g5 hg5 hl5 hc5 -;refine sh [_,_] ?_;simp only[Act.put,lS,lZ,lC];have b5:=zeroMq hc5;have hs3:=B0.size;replace B0:=zup B0 B4;have hl2':=b2.lt;replace b2:=b2.below B4;clear B4 hc5 b3 hM;obtain⟨w5,hw5⟩:∃x,mput w4 g5 (r:Int) (r:Int) A_ n_ d_=x:=⟨_,rfl⟩;obtain⟨f0_,f1_,f2_,f3_,f4_,f5_,f6_⟩:=b5.m3T;have hgr_:=a_h w4 g5 (r:Int) (r:Int) A_ n_ d_;have hM:=hN.box b5 (by decide) (by simp) hgr_;replace b2:=a_a b2 hgr_ (by omega);replace B0:=a_c B0 hgr_ (by omega);replace b5:=b5.mpT (r':=(r:Int)) (c':=(r:Int)) (C:=A_) (n':=n_) (d':=d_);rw[hw5]at hM b2 B0 b5;have Hw5:=Lib.hid hw5;unfold mput at Hw5;clear hw5 hgr_ hN;go_upto_region 3 with fail
 rw[Hw5.out];clear f0_ f1_ f2_ f3_ f4_ f5_ f6_ Hw5;refine Run.start 1 ?_;refine .ld .o (ldQm b5 0) ?_;refine .donep [some 17] ?_;intro w6 B6;refine sh [_] ?_;simp only[Act.put,lS,lZ,lC];replace hM:=hM.below B6;have P:=Lib.hid (retMw hM (b2.below B6) (by omega) (zup B0 B6));unfold mput at P;obtain⟨i0,i1,i2,i3,i4,i5,i6⟩:=(b2.below B6).m3;clear hM
 go_wp2_with fail
 exact bodyPost_ret (v:=.agg #[.int .i64 (r:Int),.int .i64 (r:Int),.slice A_ n_ d_]) (by simp[results,Tryz.results98,go_sem,i0,i1,i2]) rfl P.out
end
section
open Go.RowKit
theorem v_m {q q':Bool}{r c n d k n' d' i j g g':Nat}{A A':Option Addr}{F G:Nat->Nat->Rat}{w:World}(b2:Bx w g 24 [.int .i64 (r:Int),.int .i64 (c:Int),.slice A n d])(b3:Bx w g' 24 [.int .i64 (r:Int),.int .i64 (c:Int),.slice A' n' d'])(h:Mq q w r c A n d k F)(h':Mq q' w r c A' n' d' k G)(hi:i<r)(hj:j<c)(hk0:1<=k)(hk:k<=1073741824):Calls Tryz.prog 60 #[.int .i64 (i:Int),.int .i64 (j:Int),.pointer (some ⟨g,0,none⟩),.pointer (some ⟨g',0,none⟩)] w (RetK (kQ (F i j+G i j) (2*k+1)) w):=by
 obtain⟨w1,hw1,b6,z1,s1⟩:=boxes1 w 42 [.bool false,.slice none 0 0,.bool false,.slice none 0 0];have HW:=Lib.hid hw1;have HZ:=Lib.hid z1;replace b2:=b2.below z1;replace b3:=b3.below z1;replace h:=h.below z1;replace h':=h'.below z1;clear hw1 z1 s1;go_enter Tryz.func60,Tryz.ntmps60
 go_upto_region 1 with fail
 rw[HW.out];refine Run.start 9 ?_;refine .ld .o (ldQm b2 0) ?_;refine .mv .o ?_;refine .mv .o ?_;refine .c3 (.i 0) (.i 1) (.i 2) (x:=kQv (F i j) k) (by rintro u v x w3 hB rfl rfl rfl;exact e_q (h.below hB) hi hj) ?_;refine .ld .o (ldQm b3 0) ?_;refine .mv .o ?_;refine .mv .o ?_;refine .c3 (.i 4) (.i 5) (.i 6) (x:=kQv (G i j) k) (by rintro u v x w3 hB rfl rfl rfl;exact e_q (h'.below hB) hi hj) ?_;refine .c2 (.i 3) (.i 7) (x:=kQ (F i j+G i j) (2*k+1)) (by rintro u v w3 hB hu hv;exact x_5 k hu hv (Nat.le_refl _) (Nat.le_refl _) hk0 hk (Nat.le_refl _)) ?_;refine .done [some 7,some 8,some 9,some 10,some 11,some 12,some 13,some 14,some 15] ?_;intro w2 B2;rintro v10 -;rintro v14 -;rintro v ⟨s_,A_,n_,c_,t_,B_,m_,d_,rfl,hz,hk1,hk2⟩;refine sh [_] ?_;simp only[Act.put,lS,lZ,lC];have I:=(b6.below B2).rb;have P:=Lib.hid (retQ hz I (k:=2*k+1) hk1 hk2 (by omega) (zup HZ.out B2));unfold rput at P;obtain⟨i1,i2,i3,i4,i5,i6,i7,i8,i9⟩:=I;clear hz
 go_wp2_with fail
 exact bodyPost_ret (v:=.agg #[.bool s_,.slice A_ n_ c_,.bool t_,.slice B_ m_ d_]) (by simp[results,Tryz.results60,go_sem,i1,i2,i3,i4]) rfl P.out
theorem qat_q {q:Bool}{r c n d k i j:Nat}{A:Option Addr}{F:Nat->Nat->Rat}{w:World}(h:Mq q w r c A n d k F)(hi:i<r)(hj:j<c)(hk0:1<=k)(hk:k<=1073741824):Calls Tryz.prog 40 #[.agg #[.int .i64 (r:Int),.int .i64 (c:Int),.slice A n d],.int .i64 (i:Int),.int .i64 (j:Int)] w (RetK (kQ (F i j) k) w):=by
 have h1:=h.fmd;obtain⟨w1,hw1,b3,b6,z1,s1⟩:=boxes2 w 24 42 [.int .i64 (r:Int),.int .i64 (c:Int),.slice A n d] [.bool false,.slice none 0 0,.bool false,.slice none 0 0];have HW:=Lib.hid hw1;have HZ:=Lib.hid z1;have h1_:=Lib.hid h1;clear hw1 z1 h1 s1;go_enter Tryz.func40,Tryz.ntmps40
 go_upto_region 1 with fail
 rw[HW.out];refine Run.start 13 ?_;refine .ld .o (ldQm b3 0) ?_;refine .c1 (.i 0) (x:=.k (.bool true)) (by rintro u w2 hB rfl;exact b_g h1_.out w2) ?_;refine .nt (.i 1) ?_;refine .mv (.i 2) ?_;refine .fa .o (fQ0 0) ?_;refine .ld (.i 4) (ldInt b3 0) ?_;refine .fa .o (fQ1 1) ?_;refine .ld (.i 6) (ldInt b3 1) ?_;refine .mv .o ?_;refine .mv .o ?_;refine .c4 (.i 5) (.i 7) (.i 8) (.i 9) (x:=.k (.bool true)) (by rintro u v x y w2 hB rfl rfl rfl rfl;exact has_q (by simp;omega) w2) ?_;refine .nt (.i 10) ?_;refine .pk (.i 3) (.i 11) false ?_;refine .donep [some 7,some 8,some 9,some 10,some 11,some 12,some 13,some 14,some 15,some 16,some 17,some 18,some 19] ?_;intro w2 B2;refine sh [] ?_;simp only[Act.put,lS,lZ,lC];replace b3:=b3.below B2;replace b6:=b6.below B2;have HZ2:=Lib.hid (zup HZ.out B2);clear B2 HZ;go_upto_region 3 with fail
 refine Run.start 4 ?_;refine .ld .o (ldQm b3 0) ?_;refine .mv .o ?_;refine .mv .o ?_;refine .c3 (.i 0) (.i 1) (.i 2) (x:=kQ (F i j) k) (by rintro u v x w3 hB rfl rfl rfl;exact j_q (h.below (zup HZ2.out hB)) hi hj hk0 hk) ?_;refine .donep [some 21,some 22,some 23,some 24] ?_;intro w3 B3;rintro v ⟨s_,A_,n_,c_,t_,B_,m_,d_,rfl,hz,hk1,hk2⟩;refine sh [_] ?_;simp only[Act.put,lS,lZ,lC];have I:=(b6.below B3).rb;have P:=Lib.hid (retQ hz I (k:=k) hk1 hk2 (by omega) (zup HZ2.out B3));unfold rput at P;obtain⟨i1,i2,i3,i4,i5,i6,i7,i8,i9⟩:=I;clear hz
 go_wp2_with fail
 exact bodyPost_ret (v:=.agg #[.bool s_,.slice A_ n_ c_,.bool t_,.slice B_ m_ d_]) (by simp[results,Tryz.results40,go_sem,i1,i2,i3,i4]) rfl P.out
end
section
open Go.RowKit
theorem q_9 {A:Option Addr}{n cap l h:Nat}(h1:l<=h)(h2:h<=cap)(w:World):(Instr.sliceAt 22 (.slice A n cap) (some (.int .i64 (l:Int))) (some (.int .i64 (h:Int))) none).run Tryz.prog w= .ok (.slice (if cap=l then A else A.map (·.add (l*4))) (h - l) (cap - l)) w:=by
 have a1:(0:Int)<=(l:Int):=by omega
 have a2:(l:Int)<=(h:Int):=by omega
 have a4:(h:Int)<=(cap:Int):=by omega
 simp[go_sem,Tryz.underlying22,qp_cells,h1,h2]
section
variable {ops:Array Oper}{Q:Exit->Act->World->Prop}{m i:Nat}{a0:Act}{w0:World}{l:List FK}{b:Bool}{id:Nat}
def slOq (o:Op):List Operand:=match o with| .slice _ x (some l) (some h) (some m)=>[x,l,h,m] | .slice _ x (some l) (some h) none=>[x,l,h] |_=>[]
def okSlq2 (ops:Array Oper)(m i:Nat)(s t u:Src):Bool:=okH ops m i&&(match(opAt ops i).op with| .slice T x (some l) (some h) none=>T==22&&s.ok ops m i x&&t.ok ops m i l&&u.ok ops m i h|_=>false)
theorem Run.slq2 (s t u:Src){A:Option Addr}{n cap x y:Nat}(h1:x<=y)(h2:y<=cap)(rest:R ops Q m a0 w0 b id (.k (.slice (if cap=x then A else A.map (·.add (x*4))) (y - x) (cap - x))::l) (i+1))(hx:srcsK l i a0 (slOq (opAt ops i).op) [s,t,u] [.slice A n cap,.int .i64 (x:Int),.int .i64 (y:Int)]:=by exact⟨rfl,rfl,rfl,trivial⟩)(hc:okSlq2 ops m i s t u=true:=by kernel_rfl)(hg:Gd l i (opAt ops i):=by first|exact trivial|exact rfl):R ops Q m a0 w0 b id l i:=by
 unfold okSlq2 at hc;rw[Bool.and_eq_true]at hc;obtain⟨hh,h4⟩:=hc;refine Run.run (fun a w h=>?_) rest hh hg;split at h4
 ·rename_i T X L H e;simp only[Bool.and_eq_true,beq_iff_eq]at h4;obtain⟨⟨⟨rfl,k1⟩,k2⟩,k3⟩:=h4;rw[e]at hx;obtain⟨e1,e2,e3,-⟩:=hx;unfold execOp;rw[e];simp only[Option.map_some,Option.map_none,h.srcK k1 e1,h.srcK k2 e2,h.srcK k3 e3];simp[q_9 h1 h2 w]
 ·cases h4
end
def IsQl (q:Bool)(n k:Nat)(xs:List Rat):FVal:=fun v w=>∃A d,v= .slice A n d/\QL q w A n d k xs
def kQl (q:Bool)(n k:Nat)(xs:List Rat):FK:=.f (IsQl q n k xs) (fun v w w' ⟨A,d,e,h⟩ hb=>⟨A,d,e,h.below hb⟩)
def qrw (C:Nat)(f:Nat->Rat):List Rat:=(List.range C).map f
theorem c_f (C:Nat)(f:Nat->Rat):(qrw C f).length=C:=by simp[qrw]
theorem h_d {C j:Nat}{f:Nat->Rat}(h:j<C):rth (qrw C f) j=f j:=by simp[rth,qrw,List.getD,h]
theorem v_i {r c i:Nat}{F:Nat->Nat->Rat}(hi:i<r):((qmk r c F).drop (i*c)).take c=qrw c (F i):=by
 have hb:i*c+c<=r*c:=by rw[<-Nat.succ_mul];exact Nat.mul_le_mul_right c hi
 apply List.ext_getElem
 ·rw[List.length_take,List.length_drop,b_f,c_f];omega
 ·intro j h1 h2;rw[c_f]at h2;have e:=j_r (F:=F) hi h2;have hlt:i*c+j<(qmk r c F).length:=by rw[b_f];exact h_f hi h2
  simp[rth,List.getD,hlt]at e;simp[qrw,e]
theorem v_j (r:Nat)(F:Nat->Nat->Rat)(k:Nat):qmk r 1 (fun i _=>F i k)=qrw r (fun i=>F i k):=by
 unfold qmk qrw;rw[Nat.mul_one];exact List.map_congr_left fun m _=>by rw[Nat.div_one]
theorem Mq.row {q:Bool}{w:World}{r c n d k:Nat}{A:Option Addr}{F:Nat->Nat->Rat}(h:Mq q w r c A n d k F){i:Nat}(hi:i<r):QL q w (if d=i*c then A else A.map (·.add (i*c*4))) c (d - i*c) k (qrw c (F i)):=by
 have hb:i*c+c<=r*c:=by rw[<-Nat.succ_mul];exact Nat.mul_le_mul_right c hi
 have hn:=h.len;have hcp:=h.ql.cap;have hle:=h.ql.le;rcases Nat.eq_zero_or_pos c with h0|h0
 ·subst h0;exact⟨by simp[qrw],by omega,by omega,fun h=>by omega⟩
 ·obtain⟨ad,rfl,-⟩:=h.ql.at' (by omega);rw[if_neg (by omega),Option.map_some,<-v_i hi];have hd2:=h.ql.drop (m:=i*c) (d:=d - i*c) (by omega) (by omega) (by omega);exact hd2.take (by omega) (by omega) (by omega)
theorem v_h {r c i j:Nat}{F:Nat->Nat->Rat}{x:Rat}(hi:i<r)(hj:j<c):(qmk r c F).set (i*c+j) x=qmk r c fun a b=>if a=i/\b=j then x else F a b:=by
 apply List.ext_getElem
 ·rw[List.length_set,b_f,b_f]
 ·intro m h1 h2;rw[b_f]at h2;obtain⟨e1,e2,e3⟩:=p_a h2;rw[List.getElem_set];by_cases e:i*c+j=m
  ·subst e;have h3:(i*c+j) / c=i:=by rw[Nat.mul_comm,Nat.mul_add_div (by omega),Nat.div_eq_of_lt hj];omega
   have h4:(i*c+j)%c=j:=by rw[Nat.mul_comm,Nat.mul_add_mod,Nat.mod_eq_of_lt hj]
   simp[qmk,h3,h4]
  ·rw[if_neg e];simp only[qmk,List.getElem_map,List.getElem_range];rw[if_neg];rintro⟨h5,h6⟩;rw[h5,h6]at e3;exact e e3
theorem opIxQB {G n c k:Nat}{X Y:Operand}(h:k<n)(w:World):RunTwo Tryz.prog (.indexAddr 22 X Y) w (.slice (some ⟨G,0,none⟩) n c) (.int .i64 (k:Int)) (.pointer (some ⟨G,k*4,none⟩)):=by
 have:=opIxQ (ad:=⟨G,0,none⟩) (c:=c) (X:=X) (Y:=Y) h w;rwa [a_5]at this
theorem y_6 {q:Bool}{r c n d k i j l g g':Nat}{A:Option Addr}{F:Nat->Nat->Rat}{w:World}(b2:Bx w g 24 [.int .i64 (r:Int),.int .i64 (c:Int),.slice A n d])(b3:Bx w g' 3 [.int .i64 (l:Int)])(h:Mq q w r c A n d k F)(hi:i<r)(hl:l<c):Calls Tryz.prog 123 #[.int .i64 (i:Int),.int .i64 (j:Int),.pointer (some ⟨g,0,none⟩),.pointer (some ⟨g',0,none⟩)] w (RetK (kQv (F i l) k) w):=by
 obtain⟨w1,hw1,b6,z1,s1⟩:=boxes1 w 42 [.bool false,.slice none 0 0,.bool false,.slice none 0 0];have HW:=Lib.hid hw1;have HZ:=Lib.hid z1;replace b2:=b2.below z1;replace b3:=b3.below z1;replace h:=h.below z1;clear hw1 z1 s1;go_enter Tryz.func123,Tryz.ntmps123
 go_upto_region 1 with fail
 rw[HW.out];refine Run.start 4 ?_;refine .ld .o (ldQm b2 0) ?_;refine .mv .o ?_;refine .ld .o (ldInt b3 0) ?_;refine .c3 (.i 0) (.i 1) (.i 2) (x:=kQv (F i l) k) (by rintro u v x w3 hB rfl rfl rfl;exact e_q (h.below hB) hi hl) ?_;refine .donep [some 7,some 8,some 9,some 10] ?_;intro w2 B2;rintro v ⟨s_,A_,n_,c_,t_,B_,m_,d_,rfl,hz,hk1,hk2⟩;refine sh [_] ?_;simp only[Act.put,lS,lZ,lC];have I:=(b6.below B2).rb;have P:=Lib.hid (retQv hz I (k:=k) hk1 hk2 (by omega) (zup HZ.out B2));unfold rput at P;obtain⟨i1,i2,i3,i4,i5,i6,i7,i8,i9⟩:=I;clear hz
 go_wp2_with fail
 exact bodyPost_ret (v:=.agg #[.bool s_,.slice A_ n_ c_,.bool t_,.slice B_ m_ d_]) (by simp[results,Tryz.results123,go_sem,i1,i2,i3,i4]) rfl P.out
theorem m_1 {q:Bool}{r c n d k l:Nat}{A:Option Addr}{F:Nat->Nat->Rat}{w:World}(h:Mq q w r c A n d k F)(hl:l<c):Calls Tryz.prog 67 #[.agg #[.int .i64 (r:Int),.int .i64 (c:Int),.slice A n d],.int .i64 (l:Int)] w (RetK (kQl false r k (qrw r fun i=>F i l)) w):=by
 have hr:=h.hr;obtain⟨w1,hw1,b2,b3,z1,s1⟩:=boxes2 w 24 3 [.int .i64 (r:Int),.int .i64 (c:Int),.slice A n d] [.int .i64 (l:Int)];have HW:=Lib.hid hw1;have HZ:=Lib.hid z1;clear hw1 z1 s1;go_enter Tryz.func67,Tryz.ntmps67
 go_upto_region 1 with fail
 rw[HW.out];refine Run.start 5 ?_;refine .fa .o (fQ0 0) ?_;refine .ld (.i 0) (ldInt b2 0) ?_;refine .fn [] [.o,.o] [] [_,_] (trivial) (⟨rfl,rfl,trivial⟩) ?_;refine .c3 (.i 1) .o (.i 2) (x:=kQw false w.heap.size (r*1) k (qmk r 1 fun i _=>F i l)) (by rintro u v x w4 hB rfl rfl rfl;exact(m_o (q:=false) (c:=1) (F:=fun i _=>F i l) hr (by omega) (by kernel_rfl) (fun i j W hi hj hW=>by rw[argsO];exact(y_6 ((b2.below hB).below hW) ((b3.below hB).below hW) (h.below (zup (zup HZ.out hB) hW)) hi hl).mono fun e w' h=>u_5 h)).mono fun e w' h=>h.mono fun v w2 ⟨g,e,h1,h2⟩=>⟨g,e,h1,Nat.le_trans (zup HZ.out hB).size h2⟩) ?_;refine .mf (.i 3) ?_;refine .donep [some 5,some 6,some 7,some 8,some 4] ?_;intro w2 B2;rintro v8 -;rintro v ⟨g_,rfl,hb,hg⟩;refine sh [] ?_;simp only[Act.put,lS,lZ,lC];have hq:=hb.ql0 false (n:=r) (c:=r) (fun e=>nomatch e) (by rw[b_f];omega) (Nat.le_refl _) (by omega);rw[List.take_of_length_le (by rw[b_f];omega),v_j]at hq;have P:Hid (RetK (kQl false r k (qrw r fun i=>F i l)) w (.returned (.slice (some ⟨g_,0,none⟩) (r*1) (r*1))) w2):=Lib.hid ⟨_,rfl,⟨_,_,by rw[Nat.mul_one],hq⟩,zup HZ.out B2⟩;obtain⟨V,hV⟩:∃V,Value.slice (some ⟨g_,0,none⟩) (r*1) (r*1)=V:=⟨_,rfl⟩;rw[hV]at P;rw[hV];clear hV hq hb
 go_wp2_with fail
 exact bodyPost_ret (v:=V) (by simp[results,Tryz.results67,go_sem]) rfl P.out
def PutPost (w:World)(g k r c:Nat)(G:Nat->Nat->Rat)(e:Ending)(w':World):Prop:=e= .returned (.tuple #[])/\w.grownBy w' (some g)/\QB w' g k (fun _=>true) (qmk r c G)
theorem put_q {r c k i j g s1 n1 m1:Nat}{F:Nat->Nat->Rat}{s t:Bool}{A B:Option Addr}{n a m b:Nat}{x:Rat}{w:World}(h:QB w g k (fun _=>true) (qmk r c F))(hr:r<=64)(hc:c<=64)(hi:i<r)(hj:j<c)(hx:Qc w s A n a t B m b x)(hn:n<=k)(hm:m<=k):
  Calls Tryz.prog 139 #[.agg #[.int .i64 (r:Int),.int .i64 (c:Int),.slice (some ⟨g,0,none⟩) (r*c) (r*c)],.int .i64 (i:Int),.int .i64 (j:Int),.agg #[.bool s,.slice A n a,.bool t,.slice B m b]] w (PutPost w g k r c fun a b=>if a=i/\b=j then x else F a b):=by
 obtain⟨N,hN⟩:∃N,r*c=N:=⟨_,rfl⟩;have hlt:i*c+j<N:=by rw[<-hN];exact h_f hi hj
 have h5:i*c<=64*64:=Nat.mul_le_mul (by omega) hc;have HN:=Lib.hid hN;rw[hN];clear hN;have hgl:=h.lt;obtain⟨w1,hw1,b4,b7,z1,s1⟩:=boxes2 w 24 42 [.int .i64 (r:Int),.int .i64 (c:Int),.slice (some ⟨g,0,none⟩) N N] [.bool s,.slice A n a,.bool t,.slice B m b];have HW:=Lib.hid hw1;have HZ:=Lib.hid z1;have hz1:=z1;clear hw1 z1;go_enter Tryz.func139,Tryz.ntmps139
 go_upto_region 1 with fail
 rw[HW.out];refine Run.start 10 ?_;refine .fa .o (fQ2 2) ?_;refine .ld (.i 0) (ldQl b4 2) ?_;refine .mv .o ?_;refine .fa .o (fQ1 1) ?_;refine .ld (.i 3) (ldInt b4 1) ?_;refine .two (.i 2) (.i 4) (opMulN i c (by omega)) ?_;refine .mv .o ?_;refine .two (.i 5) (.i 6) (opAddN (i*c) j (by omega)) ?_;refine .ld .o (ldQr b7) ?_;refine .two (.i 1) (.i 7) (opIxQB hlt) ?_;refine .donep [some 8,some 9,some 10,some 11,some 12,some 13,some 14,some 15,some 16,some 17] ?_;intro w2 B2;refine sh [_] ?_;simp only[Act.put,lS,lZ,lC];have B0:=zup HZ.out B2;have hb:=h.below B0;have hx2:=hx.below B0;have hl:i*c+j<(qmk r c F).length:=by rw[b_f,HN.out];exact hlt
 obtain⟨u1,u2,u3,u4,u5,u6,u7,u8,x1,x2,x3,x4,-⟩:=hb.cells hl;have y1:=hb.free ((i*c+j)*4);have y2:=hb.free ((i*c+j)*4+1);have y3:=hb.free ((i*c+j)*4+2);have y4:=hb.free ((i*c+j)*4+3);have hs:=hb.put (q:=true) hl (.of hx2) hn hm;rw[v_h hi hj]at hs;have P:Hid (PutPost w g k r c (fun a b=>if a=i/\b=j then x else F a b) (.returned (.tuple #[])) (qputo w2 g ((i*c+j)*4) s A n a t B m b)):=Lib.hid ⟨rfl,c_d (h_n B0 _) (d_o _ _ _ _ _ _ _ _ _ _ _),hs.cf fun l _=>by simp⟩;unfold qputo at P;clear hs hb hx2 b4 b7 B0 B2 hz1 HZ
 go_wp2_with fail
 exact bodyPost_ret (v:=.tuple #[]) (by simp[results,Tryz.results139,go_sem]) rfl P.out
end
end Go.Proofs.YtfhbdlegkdbmfaaGreat
