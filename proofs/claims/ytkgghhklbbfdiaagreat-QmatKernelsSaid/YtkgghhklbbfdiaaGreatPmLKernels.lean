/-
  The law QmatKernels.
-/
import Derived.Test.YtkgghhklbbfdiaaGreatPmX10
set_option linter.unusedVariables false
set_option linter.unusedSimpArgs false
set_option linter.unusedSectionVars false
set_option maxRecDepth 100000
set_option maxHeartbeats 8000000
namespace Go.Proofs.YtkgghhklbbfdiaaGreat
open Go.RowKit
theorem kb_51129:∀C,C<6→kb (2*51129) C≤3272287:=by decide+kernel
theorem l_r {r c:Int}{A:Option Addr}{n d:Nat}{R:List Qr}{w:World}(ha:RQ w A n d R)(h:¬Fwq r c R 5 2):Calls Tryz.prog 7 #[.agg #[.int .i64 r,.int .i64 c,.slice A n d]] w (RetK (.k (.bool true)) w):=by
 obtain⟨w1,hw1,b1,z1,s1⟩:=boxes1 w 24 [.int .i64 r,.int .i64 c,.slice A n d];have HW:=Lib.hid hw1;have HZ:=Lib.hid z1;clear hw1 z1 s1;go_enter Tryz.func7,Tryz.ntmps7
 go_upto_region 1 with fail
 rw[HW.out];refine Run.start 7 ?_;refine .c0 (x:=.k (.bool true)) (fun w2 hB=>a_0 w2) ?_;refine .nt (.i 0) ?_;refine .mv (.i 1) ?_;refine .ld .o (ldQm b1 0) ?_;refine .c3 (.i 3) .o .o (x:=.k (.bool false)) (by rintro u v x w2 hB rfl rfl rfl;exact b_q (S:=5) (W:=2) (ha.below (zup HZ.out hB)) ⟨fun e=>Bool.noConfusion e,fun e=>absurd e h⟩ (by decide)) ?_;refine .nf (.i 4) ?_;refine .pk (.i 2) (.i 5) false ?_;refine .donep [some 12,some 13,some 14,some 15,some 16,some 17,some 18] ?_;intro w2 B2;change Shut (wpList _ _ _ [] _ _);refine⟨?_⟩;simp only[Act.put,lS,lZ,lC];have B0:=zup HZ.out B2;clear b1 B2;go_upto_region 2 with fail
 refine Run.start 2 ?_;refine .c0 (x:=.k (.bool true)) (fun w2 hB=>a_0 w2) ?_;refine .mv (.i 0) ?_;refine .donep [some 19,some 2] ?_;intro w3 B3;change Shut (wpList _ _ _ [] _ _);refine⟨?_⟩;simp only[Act.put,lS,lZ,lC]
 go_wp2_with fail
 exact bodyPost_ret (v:=.bool true) (by simp[results,Tryz.results7,go_sem]) rfl (a_9 rfl (zup B0 B3))
theorem n_8 {r c:Int}{A:Option Addr}{n d:Nat}{R:List Qr}{w:World}(ha:RQ w A n d R)(h:Fwq r c R 5 2)(hf:fmd r c n=false):Calls Tryz.prog 7 #[.agg #[.int .i64 r,.int .i64 c,.slice A n d]] w (RetK (.k (.bool true)) w):=by
 obtain⟨w1,hw1,b1,z1,s1⟩:=boxes1 w 24 [.int .i64 r,.int .i64 c,.slice A n d];have HW:=Lib.hid hw1;have HZ:=Lib.hid z1;have hf_:=Lib.hid hf;clear hw1 z1 hf s1;go_enter Tryz.func7,Tryz.ntmps7
 go_upto_region 1 with fail
 rw[HW.out];refine Run.start 7 ?_;refine .c0 (x:=.k (.bool true)) (fun w2 hB=>a_0 w2) ?_;refine .nt (.i 0) ?_;refine .mv (.i 1) ?_;refine .ld .o (ldQm b1 0) ?_;refine .c3 (.i 3) .o .o (x:=.k (.bool true)) (by rintro u v x w2 hB rfl rfl rfl;exact b_q (S:=5) (W:=2) (ha.below (zup HZ.out hB)) (iff_of_true rfl h) (by decide)) ?_;refine .nt (.i 4) ?_;refine .pk (.i 2) (.i 5) false ?_;refine .donep [some 12,some 13,some 14,some 15,some 16,some 17,some 18] ?_;intro w2 B2;change Shut (wpList _ _ _ [] _ _);refine⟨?_⟩;simp only[Act.put,lS,lZ,lC];have B0:=zup HZ.out B2;replace b1:=b1.below B2;clear B2 HZ;go_upto_region 3 with fail
 refine Run.start 6 ?_;refine .ld .o (ldQm b1 0) ?_;refine .c1 (.i 0) (x:=noM 2) (by rintro u w2 hB rfl;exact v_m hf_.out) ?_;refine .mv (.i 1) ?_;refine .ex (.i 2) 0 exM0 ?_;refine .ex (.i 2) 1 exM1 ?_;refine .al ?_;refine .donep [some 21,some 22,some 20,some 23,some 24,some 3] ?_;intro w3 B3;rintro g3 hg3 hl3 hc3 -;change Shut (wpList _ _ _ [_,_] _ _);refine⟨?_⟩;simp only[Act.put,lS,lZ,lC];have hl_b1:=b1.lt;replace b1:=b1.below B3;skip
 have hsz_3:=B0.size;replace B0:=zup B0 B3;clear B3;have b3:=zeroMq hc3;obtain⟨f0_,f1_,f2_,f3_,f4_,f5_,f6_⟩:=b3.m3T;have hgr_:=a_k w3 g3 0 0 none 0 0;have hno_:Wless w3 g3:=b3.now (by simp);obtain⟨w4,hw4⟩:∃x,mput w3 g3 0 0 none 0 0=x:=⟨_,rfl⟩;rw[hw4]at hgr_;replace b1:=a_a b1 hgr_ (by omega);replace B0:=a_c B0 hgr_ (by omega);replace b3:=b3.mpT (r':=0) (c':=0) (C:=none) (n':=0) (d':=0);rw[hw4]at b3;have Hw4:=Lib.hid hw4;unfold mput at Hw4;clear hw4 hgr_ hno_ hc3;go_upto_region 4 with fail
 rw[Hw4.out];clear f0_ f1_ f2_ f3_ f4_ f5_ f6_ Hw4;have hs_w4:=B0.size;refine Run.start 3 ?_;refine .ld .o (ldQm b1 0) ?_;refine .c1 (.i 0) (x:=.k (.bool false)) (by rintro u w2 hB rfl;exact a_y hf_.out w2) ?_;refine .nf (.i 1) ?_;refine .donep [some 25,some 26,some 27] ?_;intro w5 B5;change Shut (wpList _ _ _ [] _ _);refine⟨?_⟩;simp only[Act.put,lS,lZ,lC];replace B0:=zup B0 B5;replace b3:=b3.below B5;clear B5;go_upto_region 5 with fail
 refine Run.start 7 ?_;refine .mv .o ?_;refine .two (.i 0) .o (opEq (by decide:decide ((2:Int)=2)=true)) ?_;refine .mv (.i 1) ?_;refine .ld .o (ldQm b3 0) ?_;refine .c1 (.i 3) (x:=.k (.bool true)) (by rintro u w2 hB rfl;exact c_s w2) ?_;refine .pk (.i 2) (.i 4) true ?_;refine .mv (.i 5) ?_;refine .donep [some 28,some 29,some 30,some 31,some 32,some 33,some 2] ?_;intro w6 B6;change Shut (wpList _ _ _ [] _ _);refine⟨?_⟩;simp only[Act.put,lS,lZ,lC]
 go_wp2_with fail
 exact bodyPost_ret (v:=.bool true) (by simp[results,Tryz.results7,go_sem]) rfl (a_9 rfl (zup B0 B6))
theorem l_q {r c:Nat}{A:Option Addr}{n d:Nat}{R:List Qr}{w:World}(ha:RQ w A n d R)(h:Fwq (r:Int) (c:Int) R 5 2)(hM:Mq false w r c A n d 2 (qf R c))(hr:r≤5)(hc:c≤5):Calls Tryz.prog 7 #[.agg #[.int .i64 (r:Int),.int .i64 (c:Int),.slice A n d]] w (RetK (.k (.bool true)) w):=by
 obtain⟨hk1,hk2⟩:=kq_5 r (by omega) c (by omega);have hk3:=kb_51129 c (by omega);have hf:=hM.fmd;obtain⟨no,hno⟩:∃no,(nop (RT.rdP r c (qf R c)) c).length=no:=⟨_,rfl⟩;have HNO:=Lib.hid hno;have hnc:no≤c:=by rw[←hno];exact p_u _ _
 have hnl:=v_5 (RT.rdP_inc r c (qf R c));rw[hno]at hnl;obtain⟨KX,hKX⟩:∃KX,(RT.kerM (RT.rdP r c (qf R c)) (RT.rdM r c (qf R c)) (nop (RT.rdP r c (qf R c)) c))=KX:=⟨_,rfl⟩;have HKX:=Lib.hid hKX;have HZR:Hid (∀i j,i<r→j<no→RT.mul c (qf R c) KX i j=0):=Lib.hid fun i j hi hj=>by
  rw[←hKX];exact(RT.rd_of r c (qf R c)).ker (i_0 (by rw[hno];exact hj)).1 hi
 have HKU:Hid (∀i j,i<c→¬i∈RT.rdP r c (qf R c)→j<no→KX i j=if j=(nop (RT.rdP r c (qf R c)) i).length then 1 else 0):=Lib.hid fun i j hi hn hj=>by
  rw[←hKX];unfold RT.kerM;rw[RT.ker_off hn];obtain⟨g1,g2⟩:=y_f hi hn;by_cases e:j=(nop (RT.rdP r c (qf R c)) i).length
  ·rw[if_pos e,e,g2,if_pos rfl]
  ·rw[if_neg e,if_neg (Ne.symm (y_e hi hn (by rw[hno];exact hj) e))]
 clear hno hKX;obtain⟨w1,hw1,b1,z1,s1⟩:=boxes1 w 24 [.int .i64 (r:Int),.int .i64 (c:Int),.slice A n d];have HW:=Lib.hid hw1;have HZ:=Lib.hid z1;have hf_:=Lib.hid hf;have hnl_:=Lib.hid hnl;clear hw1 z1 hf hnl s1;go_enter Tryz.func7,Tryz.ntmps7
 go_upto_region 1 with fail
 rw[HW.out];refine Run.start 7 ?_;refine .c0 (x:=.k (.bool true)) (fun w2 hB=>a_0 w2) ?_;refine .nt (.i 0) ?_;refine .mv (.i 1) ?_;refine .ld .o (ldQm b1 0) ?_;refine .c3 (.i 3) .o .o (x:=.k (.bool true)) (by rintro u v x w2 hB rfl rfl rfl;exact b_q (S:=5) (W:=2) (ha.below (zup HZ.out hB)) (iff_of_true rfl h) (by decide)) ?_;refine .nt (.i 4) ?_;refine .pk (.i 2) (.i 5) false ?_;refine .donep [some 12,some 13,some 14,some 15,some 16,some 17,some 18] ?_;intro w2 B2;change Shut (wpList _ _ _ [] _ _);refine⟨?_⟩;simp only[Act.put,lS,lZ,lC];have B0:=zup HZ.out B2;replace b1:=b1.below B2;clear B2 HZ;go_upto_region 3 with fail
 refine Run.start 6 ?_;refine .ld .o (ldQm b1 0) ?_;refine .c1 (.i 0) (x:=kT (kMw w2.heap.size c no 51129 KX) (.k (.int .i64 0))) (by rintro u w4 hB rfl;have h9:=r_7 (hM.below (zup B0 hB)) (by decide) hk1 hk2 (by decide);rw[HNO.out,HKX.out]at h9;exact h9.mono fun e w' h=>h.mono fun v w2 ⟨a,b,e,⟨A,n,d,e2,h1⟩,h3⟩=>⟨a,b,e,⟨A,n,d,e2,h1.low hB.size⟩,h3⟩) ?_;refine .mf (.i 1) ?_;refine .ex (.i 2) 0 kT_0 ?_;refine .ex (.i 2) 1 kT_1 ?_;refine .al ?_;refine .donep [some 21,some 22,some 20,some 23,some 24,some 3] ?_;intro w3 B3;rintro v1_ -;rintro v2_ -;rintro v3_ ⟨A3,n3,d3,rfl,m3⟩;rintro g3 hg3 hl3 hc3 -;change Shut (wpList _ _ _ [_,_] _ _);refine⟨?_⟩;simp only[Act.put,lS,lZ,lC];have hl_b1:=b1.lt;replace b1:=b1.below B3;skip
 have hsz_3:=B0.size;replace B0:=zup B0 B3;clear B3;have b3:=zeroMq hc3;obtain⟨f0_,f1_,f2_,f3_,f4_,f5_,f6_⟩:=b3.m3T;have hgr_:=a_k w3 g3 (c:Int) (no:Int) A3 n3 d3;have hno_:Wless w3 g3:=b3.now (by simp);obtain⟨w4,hw4⟩:∃x,mput w3 g3 (c:Int) (no:Int) A3 n3 d3=x:=⟨_,rfl⟩;rw[hw4]at hgr_;replace m3:=m3.box b3 (by decide) (by simp) hgr_;replace b1:=a_a b1 hgr_ (by omega);replace B0:=a_c B0 hgr_ (by omega);replace b3:=b3.mpT (r':=(c:Int)) (c':=(no:Int)) (C:=A3) (n':=n3) (d':=d3);rw[hw4]at b3;have Hw4:=Lib.hid hw4;unfold mput at Hw4;clear hw4 hgr_ hno_ hc3;go_upto_region 4 with fail
 rw[Hw4.out];clear f0_ f1_ f2_ f3_ f4_ f5_ f6_ Hw4;have hs_w4:=B0.size;refine Run.start 3 ?_;refine .ld .o (ldQm b1 0) ?_;refine .c1 (.i 0) (x:=.k (.bool true)) (by rintro u w2 hB rfl;exact a_y hf_.out w2) ?_;refine .nt (.i 1) ?_;refine .donep [some 25,some 26,some 27] ?_;intro w5 B5;change Shut (wpList _ _ _ [] _ _);refine⟨?_⟩;simp only[Act.put,lS,lZ,lC];replace m3:=m3.mq;replace B0:=zup B0 B5;replace b1:=b1.below B5;replace b3:=b3.below B5;replace m3:=m3.below B5;clear B5;go_upto_region 6 with fail
 refine Run.start 7 ?_;refine .ld .o (ldQm b1 0) ?_;refine .c1 (.i 0) (x:=kTr (kMw w.heap.size r c 51129 (RT.rdM r c (qf R c))) (kIq w.heap.size (RT.rdP r c (qf R c))) (.k (.int .i64 0))) (by rintro u w2 hB rfl;exact(c_3 (hM.below (zup B0 hB)) (by decide) hk1 hk2 (by decide)).mono fun e w' h=>h.mono fun v w2 ⟨a,b,c,e,⟨A,n,d,e2,h1⟩,h3,h4⟩=>⟨a,b,c,e,⟨A,n,d,e2,h1.low (zup B0 hB).size⟩,h3.low (zup B0 hB).size,h4⟩) ?_;refine .mf (.i 1) ?_;refine .ex (.i 2) 0 k_m ?_;refine .ex (.i 2) 1 k_l ?_;refine .ex (.i 2) 2 k_k ?_;refine .al ?_;refine .donep [some 35,some 36,some 34,some 37,some 38,some 39,some 5] ?_;intro w6 B6;rintro v1_ -;rintro v2_ -;rintro v3_ ⟨A5,n5,d5,rfl,m5⟩;rintro vp5 hp5;rintro g5 hg5 hl5 hc5 -;change Shut (wpList _ _ _ [_,_,_] _ _);refine⟨?_⟩;simp only[Act.put,lS,lZ,lC];replace m5:=m5.mq;obtain⟨Ap5,cp5,ep_⟩:=hp5.len;obtain⟨np5,hnp5⟩:∃x,(RT.rdP r c (qf R c)).length=x:=⟨_,rfl⟩;rw[hnp5]at ep_;subst ep_;have HNP5:=Lib.hid hnp5;clear hnp5;have hl_b1:=b1.lt;have hl_b3:=b3.lt;replace b1:=b1.below B6;replace b3:=b3.below B6;replace m3:=m3.below B6;skip
 have hsz_5:=B0.size;replace B0:=zup B0 B6;clear B6;have b5:=zeroMq hc5;obtain⟨f0_,f1_,f2_,f3_,f4_,f5_,f6_⟩:=b5.m3T;have hgr_:=a_k w6 g5 (r:Int) (c:Int) A5 n5 d5;have hno_:Wless w6 g5:=b5.now (by simp);obtain⟨w7,hw7⟩:∃x,mput w6 g5 (r:Int) (c:Int) A5 n5 d5=x:=⟨_,rfl⟩;rw[hw7]at hgr_;replace m3:=m3.box b5 (by simp) (by simp) hgr_;replace m5:=m5.box b5 (by simp) (by simp) hgr_;replace hp5:=hp5.box b5 (by decide) hgr_;replace b1:=a_a b1 hgr_ (by omega);replace b3:=a_a b3 hgr_ (by omega);replace B0:=a_c B0 hgr_ (by omega);replace b5:=b5.mpT (r':=(r:Int)) (c':=(c:Int)) (C:=A5) (n':=n5) (d':=d5);rw[hw7]at b5;have Hw7:=Lib.hid hw7;unfold mput at Hw7;clear hw7 hgr_ hno_ hc5;go_upto_region 7 with fail
 rw[Hw7.out];clear f0_ f1_ f2_ f3_ f4_ f5_ f6_ Hw7;have hs_w7:=B0.size;have hnl2:=hnl_.out;rw[HNP5.out]at hnl2;have hle5:=RT.rdP_le r c (qf R c);rw[HNP5.out]at hle5;have hleC:=RT.rdP_leC r c (qf R c);rw[HNP5.out]at hleC;clear m5 b5;refine Run.start 31 ?_;refine .mv .o ?_;refine .two (.i 0) .o (opNe (by decide:decide ((0:Int)≠0)=false)) ?_;refine .mv (.i 1) ?_;refine .ld .o (ldQm b3 0) ?_;refine .c1 (.i 3) (x:=.k (.bool true)) (by rintro u w9 hB rfl;exact d_5 (m3.below hB) (by decide)) ?_;refine .nt (.i 4) ?_;refine .pk (.i 2) (.i 5) false ?_;refine .mv (.i 6) ?_;refine .fa .o (fQ0 0) ?_;refine .ld (.i 8) (ldInt b3 0) ?_;refine .fa .o (fQ1 1) ?_;refine .ld (.i 10) (ldInt b1 1) ?_;refine .two (.i 9) (.i 11) (opNe (by simp:decide (((c:Int):Int)≠((c:Int):Int))=false)) ?_;refine .pk (.i 7) (.i 12) false ?_;refine .mv (.i 13) ?_;refine .fa .o (fQ1 1) ?_;refine .ld (.i 15) (ldInt b3 1) ?_;refine .fa .o (fQ1 1) ?_;refine .ld (.i 17) (ldInt b1 1) ?_;refine .mv .o ?_;refine .len (.i 19) Tryz.underlying27 ?_;refine .two (.i 18) (.i 20) (opSub (x:=(c:Int)) (y:=(np5:Int)) (r:=(no:Int)) (by omega) (by omega) (by omega)) ?_;refine .two (.i 16) (.i 21) (opNe (by simp:decide (((no:Int):Int)≠((no:Int):Int))=false)) ?_;refine .pk (.i 14) (.i 22) false ?_;refine .mv (.i 23) ?_;refine .ld .o (ldQm b1 0) ?_;refine .ld .o (ldQm b3 0) ?_;refine .c2 (.i 25) (.i 26) (x:=kMq true r no 3272287 (fun a b=>RT.mul c (qf R c) KX a b)) (by rintro u v w9 hB rfl rfl;exact i_t ((hM.below (zup B0 hB)).mono (by decide:2≤51129)) (m3.below hB) (by decide) hk3 (by decide)) ?_;refine .c1 (.i 27) (x:=.k (.bool true)) (by rintro u w9 hB ⟨A',n',d',rfl,hM'⟩;exact r_2 hM' (fun i j hi hj=>HZR.out i j hi hj) (by decide)) ?_;refine .nt (.i 28) ?_;refine .pk (.i 24) (.i 29) false ?_;refine .donep [some 40,some 41,some 42,some 43,some 44,some 45,some 46,some 47,some 48,some 49,some 50,some 51,some 52,some 53,some 54,some 55,some 56,some 57,some 58,some 59,some 60,some 61,some 62,some 63,some 64,some 65,some 66,some 67,some 68,some 69,some 70] ?_;intro w8 B8;rintro v67 -;change Shut (wpList _ _ _ [] _ _);refine⟨?_⟩;simp only[Act.put,lS,lZ,lC];replace B0:=zup B0 B8;replace b1:=b1.below B8;replace b3:=b3.below B8;replace m3:=m3.below B8;replace hp5:=hp5.below B8;clear B8;obtain⟨wl,hwl⟩:∃x,x=w8:=⟨_,rfl⟩;subst hwl;have hf0:(nop (RT.rdP r c (qf R c)) 0).length=0:=rfl;have HB:Hid (Below wl.heap.size wl wl):=Lib.hid (Below.refl _ _);obtain⟨i0,i1,i2,i3,i4,i5,i6⟩:=b1.m3T
 go_wp2_with fail
 clear i0 i1 i2 i3 i4 i5 i6;go_loopw [9,8] (fun s9 s8 wr=>∃i fr:Nat,s9= .int .i64 (i:Int)∧s8= .int .i64 (fr:Int)∧i≤c∧fr≤i∧Hid ((nop (RT.rdP r c (qf R c)) i).length=fr∧Below wl.heap.size wl wr)) (fun s9 _ _=>c - (intOf s9).toNat)
 case atStart=>exact⟨0,0,rfl,rfl,Nat.zero_le _,Nat.le_refl _,Lib.hid ⟨hf0,HB.out⟩⟩
 case round=>
  clear HB;obtain⟨i,fr,rfl,rfl,hi,hfr,HB⟩:=hrel;obtain⟨hfe,BL⟩:=HB.out;clear HB;have b1r:=b1.below BL;have HFE:=Lib.hid hfe;clear hfe;obtain⟨i0,i1,i2,i3,i4,i5,i6⟩:=b1r.m3T;by_cases hlt:i<c
  ·have u1:(i:Int)<(c:Int):=by omega
   go_upto_region 13 with fail
   clear i0 i1 i2 i3 i4 i5 i6;by_cases hin:i∈RT.rdP r c (qf R c)
   ·skip
    refine Run.start 3 ?_;refine .mv .o ?_;refine .mv .o ?_;refine .c2 (.i 0) (.i 1) (x:=.k (.bool true)) (by rintro u v w9 hB rfl rfl;have h9:=m_v (x:=i) HNP5.out (by omega) ((hp5.below BL).below hB);rw[decide_eq_true hin]at h9;exact h9) ?_;refine .donep [some 77,some 78,some 79] ?_;intro w9 B9;change Shut (wpList _ _ _ [] _ _);refine⟨?_⟩;simp only[Act.put,lS,lZ,lC];have HN:Hid ((nop (RT.rdP r c (qf R c)) (i+1)).length=fr∧Below wl.heap.size wl w9):=Lib.hid ⟨by rw[i_z hin];exact HFE.out,zup BL B9⟩;clear b1r BL B9
    go_wp2_with fail
    go_roundw
    case rel=>exact⟨i+1,fr,by go_num,rfl,by omega,by omega,HN⟩
    case measure=>first|(simp[intOf];done)|(simp[intOf];omega)
   ·skip
    refine Run.start 3 ?_;refine .mv .o ?_;refine .mv .o ?_;refine .c2 (.i 0) (.i 1) (x:=.k (.bool false)) (by rintro u v w9 hB rfl rfl;have h9:=m_v (x:=i) HNP5.out (by omega) ((hp5.below BL).below hB);rw[decide_eq_false hin]at h9;exact h9) ?_;refine .donep [some 77,some 78,some 79] ?_;intro w9 B9;change Shut (wpList _ _ _ [] _ _);refine⟨?_⟩;simp only[Act.put,lS,lZ,lC];have HB:Hid (Below wl.heap.size wl w9):=Lib.hid (zup BL B9);have b3r:=b3.below (zup BL B9);obtain⟨i0,i1,i2,i3,i4,i5,i6⟩:=b3r.m3T;clear b1r BL B9
    go_wp2_with fail
    clear i0 i1 i2 i3 i4 i5 i6;go_loopw [10] (fun s10 wr=>∃j:Nat,s10= .int .i64 (j:Int)∧j≤no∧Hid (Below wl.heap.size wl wr)) (fun s10 _=>no - (intOf s10).toNat)
    case atStart=>exact⟨0,rfl,Nat.zero_le _,HB⟩
    case round=>
     clear HB b3r;obtain⟨j,rfl,hj,HB⟩:=hrel;have BL:=HB.out;clear HB;have b3r:=b3.below BL;obtain⟨i0,i1,i2,i3,i4,i5,i6⟩:=b3r.m3T;by_cases hjl:j<no
     ·have u2:(j:Int)<(no:Int):=by omega
      go_upto_region 17 with fail
      clear i0 i1 i2 i3 i4 i5 i6;have hBLs:=BL.size;have hb3l:=b3.lt;refine Run.start 2 ?_;refine .c1 .o (x:=kC 0 1) (by rintro u w2 hB rfl;exact e_h (by decide) (by decide) w2) ?_;refine .al ?_;refine .donep [some 86,some 11] ?_;intro w2 B2;rintro v0 ⟨s8,A8,n8,d8,rfl,hz8,hk8⟩;rintro g11 hg11 hl11 hc11 -;change Shut (wpList _ _ _ [_] _ _);refine⟨?_⟩;simp only[Act.put,lS,lZ,lC];have b11:=zeroZ (T:=0) hc11;replace BL:=zup BL B2;replace b3r:=b3r.below B2;clear B2 hc11 hl11;obtain⟨w3,hw3⟩:∃x,zput w2 g11 s8 A8 n8 d8=x:=⟨_,rfl⟩;obtain⟨f1_,f2_,f3_,f4_,f5_⟩:=Ib.entry b11;replace b3r:=b3r.zo (g:=g11) (s:=s8) (A:=A8) (n:=n8) (c:=d8) (by omega);rw[hw3]at b3r;replace hz8:=hz8.zp (s':=s8) (A':=A8) (n':=n8) (c':=d8) b11;rw[hw3]at hz8;replace BL:=b_h (g:=g11) (s:=s8) (A:=A8) (n:=n8) (c:=d8) BL (by omega);rw[hw3]at BL;replace b11:=b11.zp (s:=s8) (A:=A8) (n:=n8) (c:=d8);rw[hw3]at b11;have Hw3:=Lib.hid hw3;unfold zput at Hw3;clear hw3;go_upto_region 18 with fail
      rw[Hw3.out];clear f1_ f2_ f3_ f4_ f5_ Hw3;have hl11:=b11.lt;have hB3:=BL.size;by_cases hij:j=fr
      ·have u3:(j:Int)=(fr:Int):=by omega
       clear hz8;go_upto_region 19 with fail
       clear u3;refine Run.start 1 ?_;refine .c1 .o (x:=kC 1 1) (by rintro u w2 hB rfl;exact e_h (by decide) (by decide) w2) ?_;refine .donep [some 90] ?_;intro w4 B4;rintro v0 ⟨s9,A9,n9,d9,rfl,hz9,hk9⟩;change Shut (wpList _ _ _ [_] _ _);refine⟨?_⟩;simp only[Act.put,lS,lZ,lC];replace BL:=zup BL B4;replace b3r:=b3r.below B4;replace b11:=b11.below B4;clear B4;obtain⟨w5,hw5⟩:∃x,zput w4 g11 s9 A9 n9 d9=x:=⟨_,rfl⟩;obtain⟨f1_,f2_,f3_,f4_,f5_⟩:=Ib.entry b11;replace b3r:=b3r.zo (g:=g11) (s:=s9) (A:=A9) (n:=n9) (c:=d9) (by omega);rw[hw5]at b3r;replace hz9:=hz9.zp (s':=s9) (A':=A9) (n':=n9) (c':=d9) b11;rw[hw5]at hz9;replace BL:=b_h (g:=g11) (s:=s9) (A:=A9) (n:=n9) (c:=d9) BL (by omega);rw[hw5]at BL;replace b11:=b11.zp (s:=s9) (A:=A9) (n:=n9) (c:=d9);rw[hw5]at b11;have Hw5:=Lib.hid hw5;unfold zput at Hw5;clear hw5;go_upto_region 20 with fail
       rw[Hw5.out];clear f1_ f2_ f3_ f4_ f5_ Hw5;refine Run.start 8 ?_;refine .ld .o (ldQm b3r 0) ?_;refine .mv .o ?_;refine .mv .o ?_;refine .c3 (.i 0) (.i 1) (.i 2) (x:=kQv (KX i j) 51129) (by rintro u v x w4 hB rfl rfl rfl;exact c_4 (m3.below (zup BL hB)) hlt hjl) ?_;refine .ld .o (ldZ b11 0) ?_;refine .c1 (.i 4) (x:=kQ ((1:Int):Rat) 1) (by rintro u w4 hB rfl;exact h_m 1 ⟨_,_,_,_,rfl,(hz9.below hB).zv,hk9⟩ (Nat.le_refl _) (Nat.le_refl _) (by omega)) ?_;refine .c2 (.i 3) (.i 5) (x:=.k (.int .i64 0)) (by intro u v w4 hB hu hv;exact g_y 51129 hu hv.v (Nat.le_refl _) (by decide) (by decide) (by decide) (rsg_sub_zero.2 (by rw[HKU.out i j hlt hin hjl,HFE.out];rw[if_pos hij];rfl))) ?_;refine .two (.i 6) .o (opNe (by decide:decide ((0:Int)≠0)=false)) ?_;refine .done [some 91,some 92,some 93,some 94,some 95,some 96,some 97,some 98] ?_;intro w6 B6;rintro v94 -;rintro v96 -;change Shut (wpList _ _ _ [] _ _);refine⟨?_⟩;simp only[Act.put,lS,lZ,lC];have HN:Hid (Below wl.heap.size wl w6):=Lib.hid (zup BL B6);clear BL b3r b11 B6 hz9
       go_wp2_with fail
       go_roundw
       case rel=>exact⟨j+1,by go_num,by omega,HN⟩
       case measure=>first|(simp[intOf];done)|(simp[intOf];omega)
      ·have u3:¬(j:Int)=(fr:Int):=by omega
       go_upto_region 20 with fail
       clear u3;refine Run.start 8 ?_;refine .ld .o (ldQm b3r 0) ?_;refine .mv .o ?_;refine .mv .o ?_;refine .c3 (.i 0) (.i 1) (.i 2) (x:=kQv (KX i j) 51129) (by rintro u v x w4 hB rfl rfl rfl;exact c_4 (m3.below (zup BL hB)) hlt hjl) ?_;refine .ld .o (ldZ b11 0) ?_;refine .c1 (.i 4) (x:=kQ ((0:Int):Rat) 1) (by rintro u w4 hB rfl;exact h_m 1 ⟨_,_,_,_,rfl,(hz8.below hB).zv,hk8⟩ (Nat.le_refl _) (Nat.le_refl _) (by omega)) ?_;refine .c2 (.i 3) (.i 5) (x:=.k (.int .i64 0)) (by intro u v w4 hB hu hv;exact g_y 51129 hu hv.v (Nat.le_refl _) (by decide) (by decide) (by decide) (rsg_sub_zero.2 (by rw[HKU.out i j hlt hin hjl,HFE.out];rw[if_neg hij];rfl))) ?_;refine .two (.i 6) .o (opNe (by decide:decide ((0:Int)≠0)=false)) ?_;refine .done [some 91,some 92,some 93,some 94,some 95,some 96,some 97,some 98] ?_;intro w6 B6;rintro v94 -;rintro v96 -;change Shut (wpList _ _ _ [] _ _);refine⟨?_⟩;simp only[Act.put,lS,lZ,lC];have HN:Hid (Below wl.heap.size wl w6):=Lib.hid (zup BL B6);clear BL b3r b11 B6 hz8
       go_wp2_with fail
       go_roundw
       case rel=>exact⟨j+1,by go_num,by omega,HN⟩
       case measure=>first|(simp[intOf];done)|(simp[intOf];omega)
     ·obtain rfl:j=no:=by omega
      have u2:¬(j:Int)<(j:Int):=by omega
      have HN:Hid ((nop (RT.rdP r c (qf R c)) (i+1)).length=fr+1∧Below wl.heap.size wl wr):=Lib.hid ⟨by rw[h_u hin,List.length_append,HFE.out];rfl,BL⟩;clear BL b3r
      go_wp2_with fail
      go_roundw
      case rel=>exact⟨i+1,fr+1,by go_num,by go_num,by omega,by omega,HN⟩
      case measure=>first|(simp[intOf];done)|(simp[intOf];omega)
  ·obtain rfl:i=c:=by omega
   have u1:¬(i:Int)<(i:Int):=by omega
   have B0r:=zup B0 BL;clear b1r BL
   go_wp2_with fail
   exact bodyPost_ret (v:=.bool true) (by simp[results,Tryz.results7,go_sem]) rfl (a_9 rfl B0r)
theorem l_s {r c:Int}{A:Option Addr}{n d:Nat}{R:List Qr}{w:World}(ha:RQ w A n d R):Calls Tryz.prog 7 #[.agg #[.int .i64 r,.int .i64 c,.slice A n d]] w (RetK (.k (.bool true)) w):=by
 by_cases h:Fwq r c R 5 2
 ·cases hf:fmd r c n with
  |false=>exact n_8 ha h hf
  |true=>
   obtain⟨r',c',rfl,rfl,hr,hc,hM⟩:=ha.mq hf h;exact l_q ha h hM hr hc
 ·exact l_r ha h
end Go.Proofs.YtkgghhklbbfdiaaGreat
