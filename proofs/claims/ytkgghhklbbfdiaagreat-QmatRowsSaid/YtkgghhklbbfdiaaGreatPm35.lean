/- Pm35 -/
import Derived.Test.YtkgghhklbbfdiaaGreatPm34
import Derived.RegionTactic
import Derived.BigRegion
set_option linter.unusedVariables false
set_option linter.unusedSimpArgs false
set_option linter.unusedSectionVars false
set_option maxRecDepth 100000
set_option maxHeartbeats 8000000
namespace Go.Proofs.YtkgghhklbbfdiaaGreat
section
open Go.RowKit
theorem IsSl.low {b b' R C S k:Nat}{F G:Nat→Nat→Rat}{v:Value}{w:World}(h:IsSl b R C S k F G v w)(hb:b'≤b):IsSl b' R C S k F G v w:=by
 obtain⟨X,⟨A,n,d,e,h1⟩,h2⟩:=h;exact⟨X,⟨A,n,d,e,h1.low hb⟩,h2⟩
def Invt (n:Nat)(F:Nat→Nat→Rat):Prop:=∃X:RT.Mx Rat,∀i j,i<n→j<n→RT.mul n F X i j=RT.one i j
def IsIv (b n k:Nat)(F:Nat→Nat→Rat):FVal:=fun v w=>∃X:RT.Mx Rat,IsMw b n n k X v w∧∀i j,i<n→j<n→RT.mul n F X i j=RT.one i j
def kIv (b n k:Nat)(F:Nat→Nat→Rat):FK:=.f (IsIv b n k F) (fun v w w' ⟨X,h,h2⟩ hb=>⟨X,(kMw b n n k X).stays _ _ _ h hb,h2⟩)
theorem i_w (i j:Nat):(((if i=j then 1 else 0:Int)):Rat)=RT.one i j:=by
 unfold RT.one;by_cases h:i=j
 ·rw[if_pos h,if_pos h];rfl
 ·rw[if_neg h,if_neg h];rfl
theorem solv_invt {n:Nat}{F:Nat→Nat→Rat}:Solv n n n F (fun i j=>(((if i=j then 1 else 0:Int)):Rat))↔Invt n F:=by
 constructor
 ·rintro⟨Y,h⟩;exact⟨Y,fun i j hi hj=>(h i j hi hj).trans (i_w i j)⟩
 ·rintro⟨Y,h⟩;exact⟨Y,fun i j hi hj=>(h i j hi hj).trans (i_w i j).symm⟩
theorem r_8 {q:Bool}{n l d k KF:Nat}{A:Option Addr}{F:Nat→Nat→Rat}{w:World}(ha:Mq q w n n A l d k F)(hs:¬Invt n F)(hk0:1≤k)(hK:kb (kq1 n n k) n≤549755813888)(hKF:kqf n n k≤KF)(hKF2:KF≤1073741824):Calls Tryz.prog 19 #[.agg #[.int .i64 (n:Int),.int .i64 (n:Int),.slice A l d]] w (RetK (noM 3) w):=by
 have h1:=ha.fmd;have hn:=ha.hr;obtain⟨w1,hw1,b1,b2,z1,s1⟩:=boxes2 w 24 24 [.int .i64 (n:Int),.int .i64 (n:Int),.slice A l d] [.int .i64 0,.int .i64 0,.slice none 0 0];have HW:=Lib.hid hw1;have HZ:=Lib.hid z1;have h1_:=Lib.hid h1;clear hw1 z1 h1 s1;go_enter Tryz.func19,Tryz.ntmps19
 go_upto_region 1 with fail
 rw[HW.out];refine Run.start 10 ?_;refine .ld .o (ldQm b1 0) ?_;refine .c1 (.i 0) (x:=.k (.bool true)) (by rintro u w2 hB rfl;exact b_m h1_.out w2) ?_;refine .nt (.i 1) ?_;refine .mv (.i 2) ?_;refine .fa .o (fQ0 0) ?_;refine .ld (.i 4) (ldInt b1 0) ?_;refine .fa .o (fQ1 1) ?_;refine .ld (.i 6) (ldInt b1 1) ?_;refine .two (.i 5) (.i 7) (opNe (by simp:decide ((n:Int)≠(n:Int))=false)) ?_;refine .pk (.i 3) (.i 8) false ?_;refine .donep [some 6,some 7,some 8,some 9,some 10,some 11,some 12,some 13,some 14,some 15] ?_;intro w2 B2;change Shut (wpList _ _ _ [] _ _);refine⟨?_⟩;simp only[Act.put,lS,lZ,lC];have B0:=zup HZ.out B2;replace b1:=b1.below B2;replace b2:=b2.below B2;clear B2 HZ;go_upto_region 3 with fail
 refine Run.start 9 ?_;refine .ld .o (ldQm b1 0) ?_;refine .fa .o (fQ0 0) ?_;refine .ld (.i 1) (ldInt b1 0) ?_;refine .c1 (.i 2) (x:=kMw w2.heap.size n n 1 fun i j=>(((if i=j then 1 else 0:Int)):Rat)) (by rintro u w4 hB rfl;exact(x_6 hn).mono fun e w' h=>h.mono fun v w2 ⟨A,n,d,e,h1⟩=>⟨A,n,d,e,h1.low hB.size⟩) ?_;refine .c2 (.i 0) (.i 3) (x:=noM 10) (by rintro u v w4 hB rfl ⟨A_,n_,d_,rfl,hM⟩;exact j_5 (ha.below (zup B0 hB)) (hM.mq.mono hk0) (fun h=>hs (solv_invt.1 h)) hk0 hK hKF hKF2) ?_;refine .mv (.i 4) ?_;refine .ex (.i 5) 0 (x:=.k (.agg #[.int .i64 0,.int .i64 0,.slice none 0 0])) exM0 ?_;refine .ex (.i 5) 1 (x:=.k (.int .i64 10)) exM1 ?_;refine .al ?_;refine .donef [7] [some 18,some 19,some 20,some 21,some 22,some 17,some 23,some 24,some 4] (f_x (g_a (k:=5) (j:=1) (v:=.int .i64 10) (by kernel_rfl) rfl rfl (fun u w h=>⟨_,h,rfl⟩) (fun _=>rfl))) ?_;intro w3 B3;rintro v21 -;rintro g4 hg4 hl4 hc4 -;change Shut (wpList _ _ _ [_,_] _ _);refine⟨?_⟩;simp only[Act.put,lS,lZ,lC];have b4:=zeroMq hc4;have l2:=b2.lt;have B3':=zup B0 B3;replace b2:=b2.below B3;obtain⟨w4,hw4⟩:∃x,mput w3 g4 0 0 none 0 0=x:=⟨_,rfl⟩;obtain⟨f0_,f1_,f2_,f3_,f4_,f5_,f6_⟩:=b4.m3T;have hgr_:=a_k w3 g4 0 0 none 0 0;skip
 replace b2:=a_a b2 hgr_ (by omega);have B0':=a_c B3' hgr_ (by have:=B0.size;omega);replace b4:=b4.mpT (r':=0) (c':=0) (C:=none) (n':=0) (d':=0);rw[hw4]at b4 b2 B0' hgr_;have Hw4:=Lib.hid hw4;unfold mput at Hw4;have l4:=b4.lt;clear hw4 hgr_ B3 hc4 B3' b1;go_upto_region 4 with fail
 rw[Hw4.out];clear f0_ f1_ f2_ f3_ f4_ f5_ f6_ Hw4;have B5:=Below.refl w4.heap.size w4;have P:=Lib.hid (retNoT (e':=3) (b2.below B5) (by omega) (zup B0' B5));unfold mput at P;obtain⟨i0,i1,i2,i3,i4,i5,i6⟩:=(b2.below B5).m3
 go_wp2_with fail
 exact bodyPost_ret (v:=.tuple #[.agg #[.int .i64 0,.int .i64 0,.slice none 0 0],.int .i64 3]) (by simp[results,Tryz.results19,go_sem,i0,i1,i2]) rfl P.out
theorem m_w {q:Bool}{n l d k KF:Nat}{A:Option Addr}{F:Nat→Nat→Rat}{w:World}(ha:Mq q w n n A l d k F)(hs:Invt n F)(hk0:1≤k)(hK:kb (kq1 n n k) n≤549755813888)(hKF:kqf n n k≤KF)(hKF2:KF≤1073741824):Calls Tryz.prog 19 #[.agg #[.int .i64 (n:Int),.int .i64 (n:Int),.slice A l d]] w (RetK (kT (kIv w.heap.size n KF F) (.k (.int .i64 0))) w):=by
 have h1:=ha.fmd;have hn:=ha.hr;obtain⟨w1,hw1,b1,b2,z1,s1⟩:=boxes2 w 24 24 [.int .i64 (n:Int),.int .i64 (n:Int),.slice A l d] [.int .i64 0,.int .i64 0,.slice none 0 0];have HW:=Lib.hid hw1;have HZ:=Lib.hid z1;have h1_:=Lib.hid h1;clear hw1 z1 h1 s1;go_enter Tryz.func19,Tryz.ntmps19
 go_upto_region 1 with fail
 rw[HW.out];refine Run.start 10 ?_;refine .ld .o (ldQm b1 0) ?_;refine .c1 (.i 0) (x:=.k (.bool true)) (by rintro u w2 hB rfl;exact b_m h1_.out w2) ?_;refine .nt (.i 1) ?_;refine .mv (.i 2) ?_;refine .fa .o (fQ0 0) ?_;refine .ld (.i 4) (ldInt b1 0) ?_;refine .fa .o (fQ1 1) ?_;refine .ld (.i 6) (ldInt b1 1) ?_;refine .two (.i 5) (.i 7) (opNe (by simp:decide ((n:Int)≠(n:Int))=false)) ?_;refine .pk (.i 3) (.i 8) false ?_;refine .donep [some 6,some 7,some 8,some 9,some 10,some 11,some 12,some 13,some 14,some 15] ?_;intro w2 B2;change Shut (wpList _ _ _ [] _ _);refine⟨?_⟩;simp only[Act.put,lS,lZ,lC];have B0:=zup HZ.out B2;replace b1:=b1.below B2;replace b2:=b2.below B2;clear B2 HZ;go_upto_region 3 with fail
 refine Run.start 9 ?_;refine .ld .o (ldQm b1 0) ?_;refine .fa .o (fQ0 0) ?_;refine .ld (.i 1) (ldInt b1 0) ?_;refine .c1 (.i 2) (x:=kMw w2.heap.size n n 1 fun i j=>(((if i=j then 1 else 0:Int)):Rat)) (by rintro u w4 hB rfl;exact(x_6 hn).mono fun e w' h=>h.mono fun v w2 ⟨A,n,d,e,h1⟩=>⟨A,n,d,e,h1.low hB.size⟩) ?_;refine .c2 (.i 0) (.i 3) (x:=kT (kSl w2.heap.size n n n KF F fun i j=>(((if i=j then 1 else 0:Int)):Rat)) (.k (.int .i64 0))) (by rintro u v w4 hB rfl ⟨A_,n_,d_,rfl,hM⟩;exact(m_t (ha.below (zup B0 hB)) (hM.mq.mono hk0) (solv_invt.2 hs) hk0 hK hKF hKF2).mono fun e w' h=>h.mono fun v w2 ⟨a,b,e,h1,h2⟩=>⟨a,b,e,h1.low hB.size,h2⟩) ?_;refine .mf (.i 4) ?_;refine .ex (.i 5) 0 kT_0 ?_;refine .ex (.i 5) 1 kT_1 ?_;refine .al ?_;refine .donef [7] [some 18,some 19,some 20,some 21,some 22,some 17,some 23,some 24,some 4] (f_x (g_a (k:=5) (j:=1) (v:=.int .i64 0) (by kernel_rfl) rfl rfl (fun u w ⟨a,b,e,h1,h2⟩=>⟨_,e,by cases h2;rfl⟩) (fun _=>rfl))) ?_;intro w3 B3;rintro v21 -;rintro v22 -;rintro v17 -;rintro v ⟨X,⟨A_,n_,d_,rfl,hM⟩,hX1,hX2⟩;rintro g4 hg4 hl4 hc4 -;change Shut (wpList _ _ _ [_,_] _ _);refine⟨?_⟩;simp only[Act.put,lS,lZ,lC];have b4:=zeroMq hc4;have l2:=b2.lt;have B3':=zup B0 B3;replace b2:=b2.below B3;obtain⟨w4,hw4⟩:∃x,mput w3 g4 (n:Int) (n:Int) A_ n_ d_=x:=⟨_,rfl⟩;obtain⟨f0_,f1_,f2_,f3_,f4_,f5_,f6_⟩:=b4.m3T;have hgr_:=a_k w3 g4 (n:Int) (n:Int) A_ n_ d_;have hM:=hM.box b4 (by decide) (by simp) hgr_;replace b2:=a_a b2 hgr_ (by omega);have B0':=a_c B3' hgr_ (by have:=B0.size;omega);replace b4:=b4.mpT (r':=(n:Int)) (c':=(n:Int)) (C:=A_) (n':=n_) (d':=d_);rw[hw4]at b4 b2 B0' hgr_ hM;have Hw4:=Lib.hid hw4;unfold mput at Hw4;have l4:=b4.lt;clear hw4 hgr_ B3 hc4 B3' b1;go_upto_region 4 with fail
 rw[Hw4.out];clear f0_ f1_ f2_ f3_ f4_ f5_ f6_ Hw4;go_upto_region 6 with fail
 refine Run.start 2 ?_;refine .ld .o (ldQm b4 0) ?_;refine .mv .o ?_;refine .donep [some 28,some 29] ?_;intro w5 B5;change Shut (wpList _ _ _ [_,_] _ _);refine⟨?_⟩;simp only[Act.put,lS,lZ,lC];replace hM:=hM.below B5;replace b2:=b2.below B5;have hgr:=a_k w5 (w.heap.size+1) (n:Int) (n:Int) A_ n_ d_;have hMV:=hM.box b2 (by decide) (by simp) hgr;have hs0:=B0.size;have P:Hid (RetK (kT (kIv w.heap.size n KF F) (.k (.int .i64 0))) w (.returned (.tuple #[.agg #[.int .i64 (n:Int),.int .i64 (n:Int),.slice A_ n_ d_],.int .i64 0])) (mput w5 (w.heap.size+1) (n:Int) (n:Int) A_ n_ d_)):=Lib.hid ⟨_,rfl,⟨_,_,rfl,⟨X,⟨_,_,_,rfl,hMV.low hs0⟩,fun i j hi hj=>(hX1 i j hi hj).trans (i_w i j)⟩,rfl⟩,a_c (zup B0' B5) hgr (by omega)⟩;unfold mput at P;obtain⟨i0,i1,i2,i3,i4,i5,i6⟩:=b2.m3T;clear hM hMV hgr B5 b4
 go_wp2_with fail
 exact bodyPost_ret (v:=.tuple #[.agg #[.int .i64 (n:Int),.int .i64 (n:Int),.slice A_ n_ d_],.int .i64 0]) (by simp[results,Tryz.results19,go_sem,i0,i1,i2]) rfl P.out
end
section
open Go.RowKit
theorem opEqS {T U:TypeId}{X Y:Operand}(s:ByteArray)(w:World):RunTwo Tryz.prog (.binOp .eql T X Y U) w (.string s) (.string s) (.bool true):=by unfold RunTwo;simp[go_sem]
theorem s_x {X:RT.Mx Rat}(h:∀i j,i<2→j<2→RT.mul 2 (fun i j=>((([1,2,3,4]:List Int).getD (i*2+j) 0:Int):Rat)) X i j=RT.one i j):X 1 0=3 / 2:=by
 have h1:=h 0 0 (by decide) (by decide);have h2:=h 1 0 (by decide) (by decide);have e:∀(i:Nat) (F:Nat→Nat→Rat),RT.mul 2 F X i 0=0+F i 0*X 0 0+F i 1*X 1 0:=fun i F=>rfl;rw[e]at h1 h2;have o0:(RT.one 0 0:Rat)=1:=rfl;have o1:(RT.one 1 0:Rat)=0:=rfl;rw[o0]at h1;rw[o1]at h2;have c0:((([1,2,3,4]:List Int).getD (0*2+0) 0:Int):Rat)=1:=rfl;have c1:((([1,2,3,4]:List Int).getD (0*2+1) 0:Int):Rat)=2:=rfl;have c2:((([1,2,3,4]:List Int).getD (1*2+0) 0:Int):Rat)=3:=rfl;have c3:((([1,2,3,4]:List Int).getD (1*2+1) 0:Int):Rat)=4:=rfl;simp only[c0,c1]at h1;simp only[c2,c3]at h2;grind
theorem invt_1234:Invt 2 (fun i j=>((([1,2,3,4]:List Int).getD (i*2+j) 0:Int):Rat)):=by
 refine⟨fun i j=>([-2,1,3 / 2,-1 / 2]:List Rat).getD (i*2+j) 0,fun i j hi hj=>?_⟩;have e:∀(i j:Nat) (F G:Nat→Nat→Rat),RT.mul 2 F G i j=0+F i 0*G 0 j+F i 1*G 1 j:=fun i j F G=>rfl;rw[e];match i,j,hi,hj with
 |0,0,_,_=>decide+kernel
 |0,1,_,_=>decide+kernel
 |1,0,_,_=>decide+kernel
 |1,1,_,_=>decide+kernel
theorem v_q {x:Rat}{k:Nat}{u:Value}{w:World}(hx:IsQv x k u w)(h1:1≤k)(hk:k≤900):Calls Tryz.prog 52 #[u] w (RetK (.k (.string (qstr x))) w):=by
 obtain⟨s,A,n,c,t,B,m,d,rfl,⟨N,D,h2,h3,h4⟩,h5,h6⟩:=hx;refine(r_4 h2 h3 h5 h6 h1 hk).mono fun e w' h=>?_;obtain⟨e1,e2⟩:=h;rw[h4.out]at e1<;>exact⟨_,e1,rfl,e2⟩
theorem qstr_32:qstr (3 / 2)=⟨#[51,47,50]⟩:=by decide+kernel
theorem a_0 (w:World):Calls Tryz.prog 10 #[] w (RetK (.k (.bool true)) w):=by
 have B0:=Below.refl w.heap.size w;have hs0:=B0.size;go_enter Tryz.func10,Tryz.ntmps10
 go_upto_region 1 with fail
 refine Run.start 6 ?_;refine .bsJ4 .o .o .o .o (x:=1) (y:=2) (z:=3) (u:=4) (by decide) ?_;refine .c3 .o .o (.i 0) (x:=kT (kM true 2 2 1 (fun i j=>([1,2,3,4]:List Int).getD (i*2+j) 0)) (.k (.int .i64 0))) (by rintro u v x w2 hB rfl rfl ⟨g,rfl,hl⟩;exact v_8 (r:=2) (c:=2) hl rfl (by decide) (by decide)) ?_;refine .mf (.i 1) ?_;refine .ex (.i 2) 0 kT_0 ?_;refine .ex (.i 2) 1 kT_1 ?_;refine .al ?_;refine .donep [some 8,some 9,some 7,some 10,some 11,some 1] ?_;intro w2 B2;rintro v0 -;rintro v1 -;rintro v2 -;rintro v3 ⟨A1,n1,d1,rfl,m1⟩;rintro g1 hg1 hl1 hc1 -;change Shut (wpList _ _ _ [_,_] _ _);refine⟨?_⟩;simp only[Act.put,lS,lZ,lC];have b1:=zeroM hc1;replace B0:=zup B0 B2;clear B2 hc1;obtain⟨w3,hw3⟩:∃x,mput w2 g1 2 2 A1 n1 d1=x:=⟨_,rfl⟩;obtain⟨f0_,f1_,f2_,f3_,f4_,f5_,f6_⟩:=b1.m3;replace m1:=m1.put (r':=2) (c':=2) (C:=A1) (n':=n1) (d':=d1) b1;rw[hw3]at m1;replace B0:=b_u (g:=g1) (r:=2) (c:=2) (A:=A1) (n:=n1) (d:=d1) B0 (by omega);rw[hw3]at B0;replace b1:=b1.mp (g:=g1) (r:=2) (c:=2) (A:=A1) (n:=n1) (d:=d1);rw[hw3]at b1;have Hw3:=Lib.hid hw3;unfold mput at Hw3;clear hw3;go_upto_region 2 with fail
 rw[Hw3.out];clear f0_ f1_ f2_ f3_ f4_ f5_ f6_ Hw3;have hs1:=B0.size;refine Run.start 6 ?_;refine .ld .o (ldM b1 0) ?_;refine .c1 (.i 0) (x:=kT (kMw w3.heap.size 2 2 1 (fun i j=>((([1,2,3,4]:List Int).getD (i*2+j) 0:Int):Rat))) (.k (.int .i64 0))) (by rintro u w5 hB rfl;exact(j_8 (r:=2) (c:=2) (m1.below hB) (Nat.le_refl _) (by omega)).mono fun e w' h=>h.mono fun v w2 ⟨a,b,e,⟨A,n,d,e2,h1⟩,h2⟩=>⟨a,b,e,⟨A,n,d,e2,h1.low hB.size⟩,h2⟩) ?_;refine .mf (.i 1) ?_;refine .ex (.i 2) 0 kT_0 ?_;refine .ex (.i 2) 1 kT_1 ?_;refine .al ?_;refine .donep [some 13,some 14,some 12,some 15,some 16,some 3] ?_;intro w4 B4;rintro v14 -;rintro v12 -;rintro v ⟨A3,n3,d3,rfl,hN⟩;rintro g3 hg3 hl3 hc3 -;change Shut (wpList _ _ _ [_,_] _ _);refine⟨?_⟩;simp only[Act.put,lS,lZ,lC];have b3:=zeroMq hc3;replace B0:=zup B0 B4;obtain⟨w5,hw5⟩:∃x,mput w4 g3 2 2 A3 n3 d3=x:=⟨_,rfl⟩;obtain⟨f0_,f1_,f2_,f3_,f4_,f5_,f6_⟩:=b3.m3T;have hgr_:=a_k w4 g3 2 2 A3 n3 d3;replace hN:=hN.box b3 (by decide) (by simp) hgr_;replace B0:=a_c B0 hgr_ (by omega);replace b3:=b3.mpT (r':=2) (c':=2) (C:=A3) (n':=n3) (d':=d3);rw[hw5]at B0 b3 hN;have Hw5:=Lib.hid hw5;unfold mput at Hw5;clear hw5 hgr_ B4 hc3 hl3;go_upto_region 3 with fail
 rw[Hw5.out];clear f0_ f1_ f2_ f3_ f4_ f5_ f6_ Hw5;have hs_w5:=B0.size;refine Run.start 6 ?_;refine .ld .o (ldQm b3 0) ?_;refine .c1 (.i 0) (x:=kT (kIv w5.heap.size 2 809 (fun i j=>((([1,2,3,4]:List Int).getD (i*2+j) 0:Int):Rat))) (.k (.int .i64 0))) (by rintro u w6 hB rfl;exact(m_w (n:=2) (hN.mq.below hB) invt_1234 (Nat.le_refl _) (by decide) (by decide) (by decide)).mono fun e w' h=>h.mono fun v w2 ⟨a,b,e,⟨X,⟨A,n,d,e2,h1⟩,h3⟩,h2⟩=>⟨a,b,e,⟨X,⟨A,n,d,e2,h1.low hB.size⟩,h3⟩,h2⟩) ?_;refine .mf (.i 1) ?_;refine .ex (.i 2) 0 kT_0 ?_;refine .ex (.i 2) 1 kT_1 ?_;refine .al ?_;refine .donep [some 18,some 19,some 17,some 20,some 21,some 5] ?_;intro w6 B6;rintro v19 -;rintro v17 -;rintro v ⟨X,⟨A5,n5,d5,rfl,hX⟩,hX2⟩;rintro g5 hg5 hl5 hc5 -;change Shut (wpList _ _ _ [_,_] _ _);refine⟨?_⟩;simp only[Act.put,lS,lZ,lC];have HX2:=Lib.hid hX2;clear hX2 b3 hN;have b5:=zeroMq hc5;replace B0:=zup B0 B6;obtain⟨w7,hw7⟩:∃x,mput w6 g5 2 2 A5 n5 d5=x:=⟨_,rfl⟩;obtain⟨f0_,f1_,f2_,f3_,f4_,f5_,f6_⟩:=b5.m3T;have hgr_:=a_k w6 g5 2 2 A5 n5 d5;replace hX:=hX.box b5 (by decide) (by simp) hgr_;replace B0:=a_c B0 hgr_ (by omega);replace b5:=b5.mpT (r':=2) (c':=2) (C:=A5) (n':=n5) (d':=d5);rw[hw7]at B0 b5 hX;have Hw7:=Lib.hid hw7;unfold mput at Hw7;clear hw7 hgr_ B6 hc5 hl5;go_upto_region 4 with fail
 rw[Hw7.out];clear f0_ f1_ f2_ f3_ f4_ f5_ f6_ Hw7;have hs_w7:=B0.size;refine Run.start 13 ?_;refine .mv .o ?_;refine .two (.i 0) .o (opEq (by decide:decide ((0:Int)=0)=true)) ?_;refine .mv (.i 1) ?_;refine .mv .o ?_;refine .two (.i 3) .o (opEq (by decide:decide ((0:Int)=0)=true)) ?_;refine .pk (.i 2) (.i 4) true ?_;refine .mv (.i 5) ?_;refine .ld .o (ldQm b5 0) ?_;refine .c3 (.i 7) .o .o (x:=kQ (3 / 2) 809) (by rintro u v x w8 hB rfl rfl rfl;have h:=qat_q (i:=1) (j:=0) (r:=2) (c:=2) (hX.mq.below hB) (by decide) (by decide) (by decide) (by decide);rw[s_x HX2.out]at h;exact h) ?_;refine .c1 (.i 8) (x:=.k (.string ⟨#[51,47,50]⟩)) (by intro u w8 hB hu;have h:=v_q (k:=809) hu.v (by decide) (by decide);rw[qstr_32]at h;exact h) ?_;refine .two (.i 9) .o (opEqS _) ?_;refine .pk (.i 6) (.i 10) true ?_;refine .mv (.i 11) ?_;refine .donep [some 22,some 23,some 24,some 25,some 26,some 27,some 28,some 29,some 30,some 31,some 32,some 33,some 0] ?_;intro w8 B8;rintro v30 -;change Shut (wpList _ _ _ [] _ _);refine⟨?_⟩;simp only[Act.put,lS,lZ,lC]
 go_wp2_with fail
 exact bodyPost_ret (v:=.bool true) (by simp[results,Tryz.results10,go_sem]) rfl (a_9 rfl (zup B0 B8))
end
section
open Go.RowKit
def Fwq (r c:Int)(R:List Qr)(S W:Nat):Prop:=(∀j,j<R.length→j<100→(R.getD j nqr).n≤W∧(R.getD j nqr).m≤W)∧r≤S∧c≤S∧R.length≤100
theorem Qv.caps {w:World}{s t:Bool}{A B:Option Addr}{n c m d:Nat}{x:Rat}(h:Qv w s A n c t B m d x):n≤9223372036854775807∧m≤9223372036854775807:=by
 obtain⟨N,D,⟨v,⟨xs,h1,h2,h3,h4,_⟩,_⟩,⟨u,⟨ys,i1,i2,i3,i4,_⟩,_⟩,_⟩:=h;omega
theorem x_w {R:List Qr}{j:Nat}(h:j<R.length):R.getD j nqr∈R:=by
 rw[show R.getD j nqr=R[j] by simp[List.getD,h]];exact List.getElem_mem h
theorem b_q {r c:Int}{A:Option Addr}{n d S W:Nat}{R:List Qr}{b:Bool}{w:World}(hx:RQ w A n d R)(hb:b=true↔Fwq r c R S W)(hW':W≤100):Calls Tryz.prog 11 #[.agg #[.int .i64 r,.int .i64 c,.slice A n d],.int .i64 (S:Int),.int .i64 (W:Int)] w (RetK (.k (.bool b)) w):=by
 have hnd:=hx.le;have hdm:=hx.cap;have HN:=Lib.hid hx.len;have HX:=Lib.hid hx;obtain⟨w1,hw1,b3,z1,s1⟩:=boxes1 w 24 [.int .i64 r,.int .i64 c,.slice A n d];have HW:=Lib.hid hw1;have HZ:=Lib.hid z1;have hb_:=Lib.hid hb;clear hw1 z1 hb hx;go_enter Tryz.func11,Tryz.ntmps11
 go_upto_region 1 with fail
 rw[HW.out];have HB:Hid (Below w.heap.size w w1∧Bx w1 (w.heap.size) 24 [.int .i64 r,.int .i64 c,.slice A n d]):=Lib.hid ⟨HZ.out,b3⟩;clear b3 HW HZ s1
 go_wp2_with fail
 go_loopw [7] (fun s7 wr=>∃j:Nat,s7= .int .i64 (j:Int)∧j≤n∧Hid (∀i,i<j→(R.getD i nqr).n≤W∧(R.getD i nqr).m≤W)∧Hid (Below w.heap.size w wr∧Bx wr (w.heap.size) 24 [.int .i64 r,.int .i64 c,.slice A n d])) (fun s7 _=>n - (intOf s7).toNat)
 case atStart=>exact⟨0,rfl,Nat.zero_le _,Lib.hid fun i hi=>absurd hi (Nat.not_lt_zero i),HB⟩
 case round=>
  clear HB;obtain⟨j,rfl,hj,HE,HB⟩:=hrel;obtain⟨B0,b3⟩:=HB.out;clear HB;have i2:=b3.cell 2;simp only[List.getElem?_cons_succ,List.getElem?_cons_zero]at i2;have stop:(¬j<n∨¬j<100)→(b=true↔r≤(S:Int)∧c≤(S:Int)∧n≤100):=fun hs=>by
   rw[hb_.out];refine⟨fun h=>⟨h.2.1,h.2.2.1,by rw[←HN.out];exact h.2.2.2⟩,fun h=>⟨fun i hi h1=>HE.out i ?_,h.1,h.2.1,by rw[HN.out];exact h.2.2⟩⟩;rw[HN.out]at hi;omega
  have HS:=Lib.hid stop;clear stop;by_cases hgo:j<n∧j<100
  ·obtain⟨hlt,h100⟩:=hgo;have u2:(j:Int)<(n:Int):=by omega
   have u3:(j:Int)<100:=by omega
   obtain⟨ad,rfl,hab,hA⟩:=(HX.out.below B0).at' (by omega);obtain⟨e0,e1,e2,e3⟩:=hA j hlt;have hcap:=(HX.out.num _ (x_w (R:=R) (j:=j) (by rw[HN.out];exact hlt))).caps;obtain⟨x,hx⟩:∃x,R.getD j nqr=x:=⟨_,rfl⟩;rw[hx]at e0 e1 e2 e3 hcap;obtain⟨hc1,hc2⟩:=hcap;have HXJ:=Lib.hid hx;clear hA hx;go_upto_region 4 with fail
   clear i2;by_cases hw:x.n≤W∧x.m≤W
   ·refine Run.start 8 ?_;refine .fa .o (fQ2 2) ?_;refine .ld (.i 0) (ldQl b3 2) ?_;refine .mv .o ?_;refine .two (.i 1) (.i 2) (opIxQ hlt) ?_;refine .ld (.i 3) (ldQ (by show(ad.add (j*4)).block<_;rw[a_b];exact hab) e0 e1 e2 e3) ?_;refine .mv .o ?_;refine .c2 (.i 4) (.i 5) (x:=.k (.bool true)) (by rintro u v w2 hB rfl rfl;exact(u_e hc1 hc2 hW' (decide_eq_true hw)).mono fun e w' h=>⟨_,h.1,rfl,h.2⟩) ?_;refine .nt (.i 6) ?_;refine .donep [some 19,some 20,some 21,some 22,some 23,some 24,some 25,some 26] ?_;intro w2 B2;change Shut (wpList _ _ _ [] _ _);refine⟨?_⟩;simp only[Act.put,lS,lZ,lC];have HN2:Hid (Below w.heap.size w w2∧Bx w2 (w.heap.size) 24 [.int .i64 r,.int .i64 c,.slice (some ad) n d]):=Lib.hid ⟨zup B0 B2,b3.below B2⟩;have HE2:Hid (∀i,i<j+1→(R.getD i nqr).n≤W∧(R.getD i nqr).m≤W):=Lib.hid fun i hi=>by
     rcases Nat.lt_or_ge i j with h|h
     ·exact HE.out i h
     ·rw[show i=j by omega,HXJ.out];exact hw
    clear b3 B0 B2 e0 e1 e2 e3 hw
    go_wp2_with fail
    go_roundw
    case rel=>exact⟨j+1,by go_num,by omega,HE2,HN2⟩
    case measure=>first|(simp[intOf];done)|(simp[intOf];omega)
   ·refine Run.start 8 ?_;refine .fa .o (fQ2 2) ?_;refine .ld (.i 0) (ldQl b3 2) ?_;refine .mv .o ?_;refine .two (.i 1) (.i 2) (opIxQ hlt) ?_;refine .ld (.i 3) (ldQ (by show(ad.add (j*4)).block<_;rw[a_b];exact hab) e0 e1 e2 e3) ?_;refine .mv .o ?_;refine .c2 (.i 4) (.i 5) (x:=.k (.bool false)) (by rintro u v w2 hB rfl rfl;exact(u_e hc1 hc2 hW' (decide_eq_false hw)).mono fun e w' h=>⟨_,h.1,rfl,h.2⟩) ?_;refine .nf (.i 6) ?_;refine .donep [some 19,some 20,some 21,some 22,some 23,some 24,some 25,some 26] ?_;intro w2 B2;change Shut (wpList _ _ _ [] _ _);refine⟨?_⟩;simp only[Act.put,lS,lZ,lC];have e:b=false:=by
     cases b with
     |false=>rfl
     |true=>exact absurd ((hb_.out.1 rfl).1 j (by rw[HN.out];exact hlt) h100) (by rw[HXJ.out];exact hw)
    subst e;clear hw e0 e1 e2 e3
    go_wp2_with fail
    exact bodyPost_ret (v:=.bool false) (by simp[results,Tryz.results11,go_sem]) rfl (a_9 rfl (zup B0 B2))
  ·have hst:=HS.out (Classical.not_and_iff_not_or_not.1 hgo);clear HS;go_upto_region 2 with fail
   have W2:∃t,(decide ((j:Int)<(n:Int))=t):=⟨_,rfl⟩;obtain⟨t,ht⟩:=W2;cases t
   ·refine Run.start 9 ?_;refine .mv .o ?_;refine .fa .o (fQ2 2) ?_;refine .ld (.i 1) (ldQl b3 2) ?_;refine .len (.i 2) Tryz.underlying22 ?_;refine .two (.i 0) (.i 3) (opLt ht) ?_;refine .mv (.i 4) ?_;refine .no ?_;refine .no ?_;refine .pk (.i 5) .o false ?_;refine .donep [some 8,some 9,some 10,some 11,some 12,some 13,some 14,some 15,some 16] ?_;intro w2 B2;change Shut (wpList _ _ _ [] _ _);refine⟨?_⟩;simp only[Act.put,lS,lZ,lC];replace b3:=b3.below B2;clear i2;go_upto_region 6 with fail
    by_cases g30:r≤(S:Int)
    rotate_left
    ·refine Run.start 17 ?_;refine .fa .o (fQ0 0) ?_;refine .ld (.i 0) (ldInt b3 0) ?_;refine .mv .o ?_;refine .two (.i 1) (.i 2) (opLe (decide_eq_false g30)) ?_;refine .mv (.i 3) ?_;refine .no ?_;refine .no ?_;refine .no ?_;refine .no ?_;refine .pk (.i 4) .o false ?_;refine .mv (.i 9) ?_;refine .no ?_;refine .no ?_;refine .no ?_;refine .no ?_;refine .pk (.i 10) .o false ?_;refine .mv (.i 15) ?_;refine .donep [some 27,some 28,some 29,some 30,some 31,some 32,some 33,some 34,some 35,some 36,some 37,some 38,some 39,some 40,some 41,some 42,some 6] ?_;intro w3 B3;change Shut (wpList _ _ _ [] _ _);refine⟨?_⟩;simp only[Act.put,lS,lZ,lC];have e:b=false:=by
      cases b with
      |false=>rfl
      |true=>exact absurd (hst.1 rfl) (by simp[g30])
     subst e
     go_wp2_with fail
     exact bodyPost_ret (v:=.bool false) (by simp[results,Tryz.results11,go_sem]) rfl (a_9 rfl (zup (zup B0 B2) B3))
    by_cases g35:c≤(S:Int)
    rotate_left
    ·refine Run.start 17 ?_;refine .fa .o (fQ0 0) ?_;refine .ld (.i 0) (ldInt b3 0) ?_;refine .mv .o ?_;refine .two (.i 1) (.i 2) (opLe (decide_eq_true g30)) ?_;refine .mv (.i 3) ?_;refine .fa .o (fQ1 1) ?_;refine .ld (.i 5) (ldInt b3 1) ?_;refine .mv .o ?_;refine .two (.i 6) (.i 7) (opLe (decide_eq_false g35)) ?_;refine .pk (.i 4) (.i 8) true ?_;refine .mv (.i 9) ?_;refine .no ?_;refine .no ?_;refine .no ?_;refine .no ?_;refine .pk (.i 10) .o false ?_;refine .mv (.i 15) ?_;refine .donep [some 27,some 28,some 29,some 30,some 31,some 32,some 33,some 34,some 35,some 36,some 37,some 38,some 39,some 40,some 41,some 42,some 6] ?_;intro w3 B3;change Shut (wpList _ _ _ [] _ _);refine⟨?_⟩;simp only[Act.put,lS,lZ,lC];have e:b=false:=by
      cases b with
      |false=>rfl
      |true=>exact absurd (hst.1 rfl) (by simp[g35])
     subst e
     go_wp2_with fail
     exact bodyPost_ret (v:=.bool false) (by simp[results,Tryz.results11,go_sem]) rfl (a_9 rfl (zup (zup B0 B2) B3))
    by_cases g41:n≤100
    rotate_left
    ·refine Run.start 17 ?_;refine .fa .o (fQ0 0) ?_;refine .ld (.i 0) (ldInt b3 0) ?_;refine .mv .o ?_;refine .two (.i 1) (.i 2) (opLe (decide_eq_true g30)) ?_;refine .mv (.i 3) ?_;refine .fa .o (fQ1 1) ?_;refine .ld (.i 5) (ldInt b3 1) ?_;refine .mv .o ?_;refine .two (.i 6) (.i 7) (opLe (decide_eq_true g35)) ?_;refine .pk (.i 4) (.i 8) true ?_;refine .mv (.i 9) ?_;refine .fa .o (fQ2 2) ?_;refine .ld (.i 11) (ldQl b3 2) ?_;refine .len (.i 12) Tryz.underlying22 ?_;refine .two (.i 13) .o (opLe (decide_eq_false (by omega:¬(n:Int)≤100))) ?_;refine .pk (.i 10) (.i 14) true ?_;refine .mv (.i 15) ?_;refine .donep [some 27,some 28,some 29,some 30,some 31,some 32,some 33,some 34,some 35,some 36,some 37,some 38,some 39,some 40,some 41,some 42,some 6] ?_;intro w3 B3;change Shut (wpList _ _ _ [] _ _);refine⟨?_⟩;simp only[Act.put,lS,lZ,lC];have e:b=false:=by
      cases b with
      |false=>rfl
      |true=>exact absurd (hst.1 rfl) (by simp[g41])
     subst e
     go_wp2_with fail
     exact bodyPost_ret (v:=.bool false) (by simp[results,Tryz.results11,go_sem]) rfl (a_9 rfl (zup (zup B0 B2) B3))
    refine Run.start 17 ?_;refine .fa .o (fQ0 0) ?_;refine .ld (.i 0) (ldInt b3 0) ?_;refine .mv .o ?_;refine .two (.i 1) (.i 2) (opLe (decide_eq_true g30)) ?_;refine .mv (.i 3) ?_;refine .fa .o (fQ1 1) ?_;refine .ld (.i 5) (ldInt b3 1) ?_;refine .mv .o ?_;refine .two (.i 6) (.i 7) (opLe (decide_eq_true g35)) ?_;refine .pk (.i 4) (.i 8) true ?_;refine .mv (.i 9) ?_;refine .fa .o (fQ2 2) ?_;refine .ld (.i 11) (ldQl b3 2) ?_;refine .len (.i 12) Tryz.underlying22 ?_;refine .two (.i 13) .o (opLe (decide_eq_true (by omega:(n:Int)≤100))) ?_;refine .pk (.i 10) (.i 14) true ?_;refine .mv (.i 15) ?_;refine .donep [some 27,some 28,some 29,some 30,some 31,some 32,some 33,some 34,some 35,some 36,some 37,some 38,some 39,some 40,some 41,some 42,some 6] ?_;intro w3 B3;change Shut (wpList _ _ _ [] _ _);refine⟨?_⟩;simp only[Act.put,lS,lZ,lC];have e:b=true:=hst.2 ⟨g30,g35,g41⟩;subst e
    go_wp2_with fail
    exact bodyPost_ret (v:=.bool true) (by simp[results,Tryz.results11,go_sem]) rfl (a_9 rfl (zup (zup B0 B2) B3))
   ·refine Run.start 9 ?_;refine .mv .o ?_;refine .fa .o (fQ2 2) ?_;refine .ld (.i 1) (ldQl b3 2) ?_;refine .len (.i 2) Tryz.underlying22 ?_;refine .two (.i 0) (.i 3) (opLt ht) ?_;refine .mv (.i 4) ?_;refine .mv .o ?_;refine .two (.i 6) .o (opLt (decide_eq_false (by have:=of_decide_eq_true ht;omega:¬(j:Int)<100))) ?_;refine .pk (.i 5) (.i 7) true ?_;refine .donep [some 8,some 9,some 10,some 11,some 12,some 13,some 14,some 15,some 16] ?_;intro w2 B2;change Shut (wpList _ _ _ [] _ _);refine⟨?_⟩;simp only[Act.put,lS,lZ,lC];replace b3:=b3.below B2;clear i2;go_upto_region 6 with fail
    by_cases g30:r≤(S:Int)
    rotate_left
    ·refine Run.start 17 ?_;refine .fa .o (fQ0 0) ?_;refine .ld (.i 0) (ldInt b3 0) ?_;refine .mv .o ?_;refine .two (.i 1) (.i 2) (opLe (decide_eq_false g30)) ?_;refine .mv (.i 3) ?_;refine .no ?_;refine .no ?_;refine .no ?_;refine .no ?_;refine .pk (.i 4) .o false ?_;refine .mv (.i 9) ?_;refine .no ?_;refine .no ?_;refine .no ?_;refine .no ?_;refine .pk (.i 10) .o false ?_;refine .mv (.i 15) ?_;refine .donep [some 27,some 28,some 29,some 30,some 31,some 32,some 33,some 34,some 35,some 36,some 37,some 38,some 39,some 40,some 41,some 42,some 6] ?_;intro w3 B3;change Shut (wpList _ _ _ [] _ _);refine⟨?_⟩;simp only[Act.put,lS,lZ,lC];have e:b=false:=by
      cases b with
      |false=>rfl
      |true=>exact absurd (hst.1 rfl) (by simp[g30])
     subst e
     go_wp2_with fail
     exact bodyPost_ret (v:=.bool false) (by simp[results,Tryz.results11,go_sem]) rfl (a_9 rfl (zup (zup B0 B2) B3))
    by_cases g35:c≤(S:Int)
    rotate_left
    ·refine Run.start 17 ?_;refine .fa .o (fQ0 0) ?_;refine .ld (.i 0) (ldInt b3 0) ?_;refine .mv .o ?_;refine .two (.i 1) (.i 2) (opLe (decide_eq_true g30)) ?_;refine .mv (.i 3) ?_;refine .fa .o (fQ1 1) ?_;refine .ld (.i 5) (ldInt b3 1) ?_;refine .mv .o ?_;refine .two (.i 6) (.i 7) (opLe (decide_eq_false g35)) ?_;refine .pk (.i 4) (.i 8) true ?_;refine .mv (.i 9) ?_;refine .no ?_;refine .no ?_;refine .no ?_;refine .no ?_;refine .pk (.i 10) .o false ?_;refine .mv (.i 15) ?_;refine .donep [some 27,some 28,some 29,some 30,some 31,some 32,some 33,some 34,some 35,some 36,some 37,some 38,some 39,some 40,some 41,some 42,some 6] ?_;intro w3 B3;change Shut (wpList _ _ _ [] _ _);refine⟨?_⟩;simp only[Act.put,lS,lZ,lC];have e:b=false:=by
      cases b with
      |false=>rfl
      |true=>exact absurd (hst.1 rfl) (by simp[g35])
     subst e
     go_wp2_with fail
     exact bodyPost_ret (v:=.bool false) (by simp[results,Tryz.results11,go_sem]) rfl (a_9 rfl (zup (zup B0 B2) B3))
    by_cases g41:n≤100
    rotate_left
    ·refine Run.start 17 ?_;refine .fa .o (fQ0 0) ?_;refine .ld (.i 0) (ldInt b3 0) ?_;refine .mv .o ?_;refine .two (.i 1) (.i 2) (opLe (decide_eq_true g30)) ?_;refine .mv (.i 3) ?_;refine .fa .o (fQ1 1) ?_;refine .ld (.i 5) (ldInt b3 1) ?_;refine .mv .o ?_;refine .two (.i 6) (.i 7) (opLe (decide_eq_true g35)) ?_;refine .pk (.i 4) (.i 8) true ?_;refine .mv (.i 9) ?_;refine .fa .o (fQ2 2) ?_;refine .ld (.i 11) (ldQl b3 2) ?_;refine .len (.i 12) Tryz.underlying22 ?_;refine .two (.i 13) .o (opLe (decide_eq_false (by omega:¬(n:Int)≤100))) ?_;refine .pk (.i 10) (.i 14) true ?_;refine .mv (.i 15) ?_;refine .donep [some 27,some 28,some 29,some 30,some 31,some 32,some 33,some 34,some 35,some 36,some 37,some 38,some 39,some 40,some 41,some 42,some 6] ?_;intro w3 B3;change Shut (wpList _ _ _ [] _ _);refine⟨?_⟩;simp only[Act.put,lS,lZ,lC];have e:b=false:=by
      cases b with
      |false=>rfl
      |true=>exact absurd (hst.1 rfl) (by simp[g41])
     subst e
     go_wp2_with fail
     exact bodyPost_ret (v:=.bool false) (by simp[results,Tryz.results11,go_sem]) rfl (a_9 rfl (zup (zup B0 B2) B3))
    refine Run.start 17 ?_;refine .fa .o (fQ0 0) ?_;refine .ld (.i 0) (ldInt b3 0) ?_;refine .mv .o ?_;refine .two (.i 1) (.i 2) (opLe (decide_eq_true g30)) ?_;refine .mv (.i 3) ?_;refine .fa .o (fQ1 1) ?_;refine .ld (.i 5) (ldInt b3 1) ?_;refine .mv .o ?_;refine .two (.i 6) (.i 7) (opLe (decide_eq_true g35)) ?_;refine .pk (.i 4) (.i 8) true ?_;refine .mv (.i 9) ?_;refine .fa .o (fQ2 2) ?_;refine .ld (.i 11) (ldQl b3 2) ?_;refine .len (.i 12) Tryz.underlying22 ?_;refine .two (.i 13) .o (opLe (decide_eq_true (by omega:(n:Int)≤100))) ?_;refine .pk (.i 10) (.i 14) true ?_;refine .mv (.i 15) ?_;refine .donep [some 27,some 28,some 29,some 30,some 31,some 32,some 33,some 34,some 35,some 36,some 37,some 38,some 39,some 40,some 41,some 42,some 6] ?_;intro w3 B3;change Shut (wpList _ _ _ [] _ _);refine⟨?_⟩;simp only[Act.put,lS,lZ,lC];have e:b=true:=hst.2 ⟨g30,g35,g41⟩;subst e
    go_wp2_with fail
    exact bodyPost_ret (v:=.bool true) (by simp[results,Tryz.results11,go_sem]) rfl (a_9 rfl (zup (zup B0 B2) B3))
end
section
open Go.RowKit
def qf (R:List Qr)(c:Nat):RT.Mx Rat:=fun i j=>rth (qnums R) (i*c+j)
theorem RQ.mq {w:World}{r c:Int}{n d S W:Nat}{A:Option Addr}{R:List Qr}(ha:RQ w A n d R)(hf:fmd r c n=true)(h:Fwq r c R S W):∃r' c':Nat,r=(r':Int)∧c=(c':Int)∧r'≤S∧c'≤S∧Mq false w r' c' A n d W (qf R c'):=by
 unfold fmd sd at hf;simp only[Bool.and_eq_true,decide_eq_true_eq]at hf;obtain⟨⟨⟨h1,h2⟩,h3,h4⟩,h5⟩:=hf;obtain⟨h6,h7,h8,h9⟩:=h;obtain⟨r',rfl⟩:=Int.eq_ofNat_of_zero_le h1;obtain⟨c',rfl⟩:=Int.eq_ofNat_of_zero_le h3;have hn:n=r'*c':=by
  have:((n:Nat):Int)=((r'*c':Nat):Int):=by rw[h5];simp
  omega
 have hl:=ha.len;refine⟨r',c',rfl,rfl,by omega,by omega,⟨?_,by omega,by omega⟩⟩;have hq:=ha.ql (k:=W) fun j hj=>h6 j (by omega) (by omega);rw[←x_5 (r:=r') (c:=c') (xs:=qnums R) (by rw[j_6,hl,hn])]at hq;exact hq
end
end Go.Proofs.YtkgghhklbbfdiaaGreat
