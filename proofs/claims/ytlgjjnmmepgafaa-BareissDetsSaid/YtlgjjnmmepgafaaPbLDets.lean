/-
  The law BareissDets.
-/
import Derived.Test.YtlgjjnmmepgafaaPbX07
set_option linter.unusedVariables false
set_option linter.unusedSimpArgs false
set_option linter.unusedSectionVars false
set_option maxRecDepth 100000
set_option maxHeartbeats 8000000
namespace Go.Proofs.Ytlgjjnmmepgafaa
open Go.RowKit
theorem m_0 {r c:Int}{A:Option Addr}{n d:Nat}{R:List Zr}{w:World}(ha:RL w A n d R)(h:fewb r c R 5 2=false):Calls Try.prog 3 #[.agg #[.int .i64 r,.int .i64 c,.slice A n d]] w (RetK (.k (.bool true)) w):=by
 obtain⟨w1,hw1,b1,z1,s1⟩:=boxes1 w 24 [.int .i64 r,.int .i64 c,.slice A n d];have HW:=Lib.hid hw1;have HZ:=Lib.hid z1;have h_:=Lib.hid h;clear hw1 z1 h s1;go_enter Try.func3,Try.ntmps3
 go_upto_region 1 with fail
 rw[HW.out];refine Run.start 7 ?_;refine .c0 (x:=.k (.bool true)) (fun w2 hB=>a_g w2) ?_;refine .nt (.i 0) ?_;refine .mv (.i 1) ?_;refine .ld .o (ldM b1 0) ?_;refine .c3 (.i 3) .o .o (x:=.k (.bool false)) (by rintro u v x w2 hB rfl rfl rfl;exact a_6 (N:=5) (W:=2) (ha.below (zup HZ.out hB)) h_.out (by decide)) ?_;refine .nf (.i 4) ?_;refine .pk (.i 2) (.i 5) false ?_;refine .donep [some 5,some 6,some 7,some 8,some 9,some 10,some 11] ?_;intro w2 B2;refine sh [] ?_;simp only[Act.put,lS,lZ,lC];have B0:=zup HZ.out B2;clear b1 B2;go_upto_region 2 with fail
 refine Run.start 2 ?_;refine .c0 (x:=.k (.bool true)) (fun w2 hB=>a_g w2) ?_;refine .mv (.i 0) ?_;refine .donep [some 12,some 2] ?_;intro w3 B3;refine sh [] ?_;simp only[Act.put,lS,lZ,lC]
 go_wp2_with fail
 exact bodyPost_ret (v:=.bool true) (by simp[results,Try.results3,go_sem]) rfl (a_s rfl (zup B0 B3))
theorem p_x {r c:Int}{A:Option Addr}{n d:Nat}{R:List Zr}{w:World}(ha:RL w A n d R)(h:fewb r c R 5 2=true)(hf:(fmd r c n&&decide (r=c))=false):Calls Try.prog 3 #[.agg #[.int .i64 r,.int .i64 c,.slice A n d]] w (RetK (.k (.bool true)) w):=by
 obtain⟨w1,hw1,b1,z1,s1⟩:=boxes1 w 24 [.int .i64 r,.int .i64 c,.slice A n d];have HW:=Lib.hid hw1;have HZ:=Lib.hid z1;have h_:=Lib.hid h;have hf_:=Lib.hid hf;clear hw1 z1 h hf s1;go_enter Try.func3,Try.ntmps3
 go_upto_region 1 with fail
 rw[HW.out];refine Run.start 7 ?_;refine .c0 (x:=.k (.bool true)) (fun w2 hB=>a_g w2) ?_;refine .nt (.i 0) ?_;refine .mv (.i 1) ?_;refine .ld .o (ldM b1 0) ?_;refine .c3 (.i 3) .o .o (x:=.k (.bool true)) (by rintro u v x w2 hB rfl rfl rfl;exact a_6 (N:=5) (W:=2) (ha.below (zup HZ.out hB)) h_.out (by decide)) ?_;refine .nt (.i 4) ?_;refine .pk (.i 2) (.i 5) false ?_;refine .donep [some 5,some 6,some 7,some 8,some 9,some 10,some 11] ?_;intro w2 B2;refine sh [] ?_;simp only[Act.put,lS,lZ,lC];have B0:=zup HZ.out B2;replace b1:=b1.below B2;clear B2 HZ;go_upto_region 3 with fail
 refine Run.start 6 ?_;refine .ld .o (ldM b1 0) ?_;refine .c1 (.i 0) (x:=kT (kC 0 0) (.k (.int .i64 2))) (by rintro u w2 hB rfl;exact det_no' hf_.out) ?_;refine .mf (.i 1) ?_;refine .ex (.i 2) 0 kT_0 ?_;refine .ex (.i 2) 1 kT_1 ?_;refine .al ?_;refine .donep [some 14,some 15,some 13,some 16,some 17,some 3] ?_;intro w3 B3;rintro v1 -;rintro v2 -;rintro v3 ⟨s3,A3,n3,c3,rfl,z3,k3⟩;rintro g3 hg3 hl3 hc3 -;refine sh [_,_] ?_;simp only[Act.put,lS,lZ,lC];have b3:=zeroZ (T:=0) hc3;have hs3:=B0.size;have hl_b1:=b1.lt;replace B0:=zup B0 B3;replace b1:=b1.below B3;clear B3 hc3;obtain⟨w4,hw4⟩:∃x,zput w3 g3 s3 A3 n3 c3=x:=⟨_,rfl⟩;obtain⟨f1_,f2_,f3_,f4_,f5_⟩:=Ib.entry b3;replace b1:=b1.zo (g:=g3) (s:=s3) (A:=A3) (n:=n3) (c:=c3) (by omega);rw[hw4]at b1;replace z3:=z3.zp (s':=s3) (A':=A3) (n':=n3) (c':=c3) b3;rw[hw4]at z3;replace B0:=a_e (g:=g3) (s:=s3) (A:=A3) (n:=n3) (c:=c3) B0 (by omega);rw[hw4]at B0;replace b3:=b3.zp (s:=s3) (A:=A3) (n:=n3) (c:=c3);rw[hw4]at b3;have Hw4:=Lib.hid hw4;unfold zput at Hw4;clear hw4;go_upto_region 4 with fail
 rw[Hw4.out];clear f1_ f2_ f3_ f4_ f5_ Hw4 hs3 hl_b1;refine Run.start 3 ?_;refine .ld .o (ldM b1 0) ?_;refine .c1 (.i 0) (x:=.k (.bool false)) (by rintro u w2 hB rfl;exact e_k hf_.out w2) ?_;refine .nf (.i 1) ?_;refine .donep [some 18,some 19,some 20] ?_;intro w5 B5;refine sh [] ?_;simp only[Act.put,lS,lZ,lC];replace B0:=zup B0 B5;replace b3:=b3.below B5;replace z3:=z3.below B5;clear B5;go_upto_region 5 with fail
 refine Run.start 8 ?_;refine .mv .o ?_;refine .two (.i 0) .o (opEq (by decide:decide ((2:Int)=2)=true)) ?_;refine .mv (.i 1) ?_;refine .ld .o (ldZ b3 0) ?_;refine .c1 (.i 3) (x:=.k (.int .i64 0)) (by rintro u w2 hB rfl;exact b_n ⟨_,_,_,_,rfl,(z3.below hB).zv,k3⟩ (by decide) (by decide)) ?_;refine .two (.i 4) .o (opEq (by decide:decide ((0:Int)=0)=true)) ?_;refine .pk (.i 2) (.i 5) true ?_;refine .mv (.i 6) ?_;refine .donep [some 21,some 22,some 23,some 24,some 25,some 26,some 27,some 2] ?_;intro w6 B6;refine sh [] ?_;simp only[Act.put,lS,lZ,lC]
 go_wp2_with fail
 exact bodyPost_ret (v:=.bool true) (by simp[results,Try.results3,go_sem]) rfl (a_s rfl (zup B0 B6))
theorem m_z {r:Nat}{A:Option Addr}{n d:Nat}{R:List Zr}{w:World}(ha:RL w A n d R)(h:fewb (r:Int) (r:Int) R 5 2=true)(hM:Mt false w r r A n d 2 (mf R r))(hr:r<=5):Calls Try.prog 3 #[.agg #[.int .i64 (r:Int),.int .i64 (r:Int),.slice A n d]] w (RetK (.k (.bool true)) w):=by
 have hf:(fmd (r:Int) (r:Int) n&&decide ((r:Int)=(r:Int)))=true:=by rw[hM.fmd];simp
 have hk:=e_w (K:=2) hr;have hk5:kb 2 5=95:=by decide
 have hd5:dk 2 r<=400:=by
  have:∀j,dk 2 j=68*j+1:=fun j=>by
   induction j with
   |zero=>rfl
   |succ j ih=>unfold dk;rw[ih];omega
  rw[this];omega
 obtain⟨w1,hw1,b1,z1,s1⟩:=boxes1 w 24 [.int .i64 (r:Int),.int .i64 (r:Int),.slice A n d];have HW:=Lib.hid hw1;have HZ:=Lib.hid z1;have h_:=Lib.hid h;have hf_:=Lib.hid hf;clear hw1 z1 h hf s1;go_enter Try.func3,Try.ntmps3
 go_upto_region 1 with fail
 rw[HW.out];refine Run.start 7 ?_;refine .c0 (x:=.k (.bool true)) (fun w2 hB=>a_g w2) ?_;refine .nt (.i 0) ?_;refine .mv (.i 1) ?_;refine .ld .o (ldM b1 0) ?_;refine .c3 (.i 3) .o .o (x:=.k (.bool true)) (by rintro u v x w2 hB rfl rfl rfl;exact a_6 (N:=5) (W:=2) (ha.below (zup HZ.out hB)) h_.out (by decide)) ?_;refine .nt (.i 4) ?_;refine .pk (.i 2) (.i 5) false ?_;refine .donep [some 5,some 6,some 7,some 8,some 9,some 10,some 11] ?_;intro w2 B2;refine sh [] ?_;simp only[Act.put,lS,lZ,lC];have B0:=zup HZ.out B2;replace b1:=b1.below B2;clear B2 HZ;go_upto_region 3 with fail
 refine Run.start 6 ?_;refine .ld .o (ldM b1 0) ?_;refine .c1 (.i 0) (x:=kT (kC (DT.det r (mf R r)) (kb 2 r)) (.k (.int .i64 0))) (by rintro u w2 hB rfl;exact c_3 (hM.below (zup B0 hB)) (by decide) (by omega)) ?_;refine .mf (.i 1) ?_;refine .ex (.i 2) 0 kT_0 ?_;refine .ex (.i 2) 1 kT_1 ?_;refine .al ?_;refine .donep [some 14,some 15,some 13,some 16,some 17,some 3] ?_;intro w3 B3;rintro v1 -;rintro v2 -;rintro v3 ⟨s3,A3,n3,c3,rfl,z3,k3⟩;rintro g3 hg3 hl3 hc3 -;refine sh [_,_] ?_;simp only[Act.put,lS,lZ,lC];have b3:=zeroZ (T:=0) hc3;have hs3:=B0.size;have hl_b1:=b1.lt;replace B0:=zup B0 B3;replace b1:=b1.below B3;clear B3 hc3;obtain⟨w4,hw4⟩:∃x,zput w3 g3 s3 A3 n3 c3=x:=⟨_,rfl⟩;obtain⟨f1_,f2_,f3_,f4_,f5_⟩:=Ib.entry b3;replace b1:=b1.zo (g:=g3) (s:=s3) (A:=A3) (n:=n3) (c:=c3) (by omega);rw[hw4]at b1;replace z3:=z3.zp (s':=s3) (A':=A3) (n':=n3) (c':=c3) b3;rw[hw4]at z3;replace B0:=a_e (g:=g3) (s:=s3) (A:=A3) (n:=n3) (c:=c3) B0 (by omega);rw[hw4]at B0;replace b3:=b3.zp (s:=s3) (A:=A3) (n:=n3) (c:=c3);rw[hw4]at b3;have Hw4:=Lib.hid hw4;unfold zput at Hw4;clear hw4;go_upto_region 4 with fail
 rw[Hw4.out];clear f1_ f2_ f3_ f4_ f5_ Hw4 hs3 hl_b1;refine Run.start 3 ?_;refine .ld .o (ldM b1 0) ?_;refine .c1 (.i 0) (x:=.k (.bool true)) (by rintro u w2 hB rfl;exact e_k hf_.out w2) ?_;refine .nt (.i 1) ?_;refine .donep [some 18,some 19,some 20] ?_;intro w5 B5;refine sh [] ?_;simp only[Act.put,lS,lZ,lC];replace B0:=zup B0 B5;replace b1:=b1.below B5;replace b3:=b3.below B5;replace z3:=z3.below B5;clear B5;go_upto_region 6 with fail
 refine Run.start 9 ?_;refine .mv .o ?_;refine .two (.i 0) .o (opEq (by decide:decide ((0:Int)=0)=true)) ?_;refine .mv (.i 1) ?_;refine .ld .o (ldZ b3 0) ?_;refine .ld .o (ldM b1 0) ?_;refine .c1 (.i 4) (x:=kC (DT.det r (mf R r)) (dk 2 r)) (by rintro u w2 hB rfl;exact rdt_q (hM.below (zup B0 hB)) (by omega)) ?_;refine .c2 (.i 3) (.i 5) (x:=.k (.bool true)) (by rintro u v w2 hB rfl h2;exact d_h ⟨_,_,_,_,rfl,(z3.below hB).zv,k3⟩ h2.v (by omega) (by omega) (by simp)) ?_;refine .pk (.i 2) (.i 6) true ?_;refine .mv (.i 7) ?_;refine .done [some 28,some 29,some 30,some 31,some 32,some 33,some 34,some 35,some 2] ?_;intro w6 B6;rintro v4 -;refine sh [] ?_;simp only[Act.put,lS,lZ,lC]
 go_wp2_with fail
 exact bodyPost_ret (v:=.bool true) (by simp[results,Try.results3,go_sem]) rfl (a_s rfl (zup B0 B6))
theorem j_c {r c:Int}{A:Option Addr}{n d:Nat}{R:List Zr}{w:World}(ha:RL w A n d R):Calls Try.prog 3 #[.agg #[.int .i64 r,.int .i64 c,.slice A n d]] w (RetK (.k (.bool true)) w):=by
 cases h:fewb r c R 5 2 with
 |false=>exact m_0 ha h
 |true=>
  cases hf:(fmd r c n&&decide (r=c))with
  |false=>exact p_x ha h hf
  |true=>
   rw[Bool.and_eq_true]at hf;obtain⟨h1,h2⟩:=hf;have h2:=of_decide_eq_true h2;obtain⟨r',c',rfl,rfl,hr,hc,hn,hM⟩:=ha.mt h1 h;obtain rfl:r'=c':=by omega
   exact m_z ha h hM hr
end Go.Proofs.Ytlgjjnmmepgafaa
