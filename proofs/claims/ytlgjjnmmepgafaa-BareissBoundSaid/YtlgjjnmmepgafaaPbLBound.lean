/-
  The law BareissBound.
-/
import Derived.Test.YtlgjjnmmepgafaaPbX06
set_option linter.unusedVariables false
set_option linter.unusedSimpArgs false
set_option linter.unusedSectionVars false
set_option maxRecDepth 100000
set_option maxHeartbeats 8000000
namespace Go.Proofs.Ytlgjjnmmepgafaa
open Go.RowKit
theorem n_g {u:Value}{x:Int}{n k:Nat}{w:World}(hx:IsV x n u w)(hn:n<=k)(hk:k<=1099511627776):Calls Try.prog 25 #[u] w (RetK (kC (x.natAbs:Int) k) w):=by
 obtain⟨s,A,a,c,rfl,h1,h2⟩:=hx;exact(q_q h1 (by omega)).mono fun e w' h=>h.q (by omega)
theorem q_p {u v:Value}{x y r:Int}{n m:Nat}{w:World}(hx:IsV x n u w)(hy:IsV y m v w)(hn:n<=1099511627776)(hm:m<=1099511627776)(hr:(x - y).sign=r):Calls Try.prog 24 #[u,v] w (RetK (.k (.int .i64 r)) w):=by
 obtain⟨s,A,a,c,rfl,h1,h2⟩:=hx;obtain⟨s',A',a',c',rfl,h1',h2'⟩:=hy;exact(n_e h1 h1' (by omega) (by omega) hr).mono fun e w' h=>h.q
theorem o_e {x:Int}(h:x<=0):¬0<x.sign:=by
 rcases Int.lt_or_eq_of_le h with h1|h1
 ·rw[Int.sign_eq_neg_one_of_neg h1];omega
 ·subst h1;decide
theorem q_f (F:Nat->Nat->Int):(bdn 1 F 1:Int)=((F 0 0).natAbs:Int):=by
 show((1*lsq (0+(F 0 0).natAbs*(F 0 0).natAbs):Nat):Int)=_
 rw[Nat.one_mul,Nat.zero_add,r_h]
theorem q_e {r c:Int}{A:Option Addr}{n d:Nat}{R:List Zr}{w:World}(ha:RL w A n d R)(h:fewb r c R 5 2=false):Calls Try.prog 6 #[.agg #[.int .i64 r,.int .i64 c,.slice A n d]] w (RetK (.k (.bool true)) w):=by
 obtain⟨w1,hw1,b1,z1,s1⟩:=boxes1 w 24 [.int .i64 r,.int .i64 c,.slice A n d];have HW:=Lib.hid hw1;have HZ:=Lib.hid z1;have h_:=Lib.hid h;clear hw1 z1 h s1;go_enter Try.func6,Try.ntmps6
 go_upto_region 1 with fail
 rw[HW.out];refine Run.start 7 ?_;refine .c0 (x:=.k (.bool true)) (fun w2 hB=>a_g w2) ?_;refine .nt (.i 0) ?_;refine .mv (.i 1) ?_;refine .ld .o (ldM b1 0) ?_;refine .c3 (.i 3) .o .o (x:=.k (.bool false)) (by rintro u v x w2 hB rfl rfl rfl;exact a_6 (N:=5) (W:=2) (ha.below (zup HZ.out hB)) h_.out (by decide)) ?_;refine .nf (.i 4) ?_;refine .pk (.i 2) (.i 5) false ?_;refine .donep [some 7,some 8,some 9,some 10,some 11,some 12,some 13] ?_;intro w2 B2;refine sh [] ?_;simp only[Act.put,lS,lZ,lC];have B0:=zup HZ.out B2;clear b1 B2;go_upto_region 2 with fail
 refine Run.start 2 ?_;refine .c0 (x:=.k (.bool true)) (fun w2 hB=>a_g w2) ?_;refine .mv (.i 0) ?_;refine .donep [some 14,some 2] ?_;intro w3 B3;refine sh [] ?_;simp only[Act.put,lS,lZ,lC]
 go_wp2_with fail
 exact bodyPost_ret (v:=.bool true) (by simp[results,Try.results6,go_sem]) rfl (a_s rfl (zup B0 B3))
theorem r_x {r c:Int}{A:Option Addr}{n d:Nat}{R:List Zr}{w:World}(ha:RL w A n d R)(h:fewb r c R 5 2=true)(hf:(fmd r c n&&decide (r=c))=false):Calls Try.prog 6 #[.agg #[.int .i64 r,.int .i64 c,.slice A n d]] w (RetK (.k (.bool true)) w):=by
 obtain⟨w1,hw1,b1,z1,s1⟩:=boxes1 w 24 [.int .i64 r,.int .i64 c,.slice A n d];have HW:=Lib.hid hw1;have HZ:=Lib.hid z1;have h_:=Lib.hid h;have hf_:=Lib.hid hf;clear hw1 z1 h hf s1;go_enter Try.func6,Try.ntmps6
 go_upto_region 1 with fail
 rw[HW.out];refine Run.start 7 ?_;refine .c0 (x:=.k (.bool true)) (fun w2 hB=>a_g w2) ?_;refine .nt (.i 0) ?_;refine .mv (.i 1) ?_;refine .ld .o (ldM b1 0) ?_;refine .c3 (.i 3) .o .o (x:=.k (.bool true)) (by rintro u v x w2 hB rfl rfl rfl;exact a_6 (N:=5) (W:=2) (ha.below (zup HZ.out hB)) h_.out (by decide)) ?_;refine .nt (.i 4) ?_;refine .pk (.i 2) (.i 5) false ?_;refine .donep [some 7,some 8,some 9,some 10,some 11,some 12,some 13] ?_;intro w2 B2;refine sh [] ?_;simp only[Act.put,lS,lZ,lC];have B0:=zup HZ.out B2;replace b1:=b1.below B2;clear B2 HZ;go_upto_region 3 with fail
 refine Run.start 6 ?_;refine .ld .o (ldM b1 0) ?_;refine .c1 (.i 0) (x:=kT (kC 0 0) (.k (.int .i64 2))) (by rintro u w2 hB rfl;exact n_a hf_.out) ?_;refine .mf (.i 1) ?_;refine .ex (.i 2) 0 kT_0 ?_;refine .ex (.i 2) 1 kT_1 ?_;refine .al ?_;refine .donep [some 16,some 17,some 15,some 18,some 19,some 3] ?_;intro w3 B3;rintro v1 -;rintro v2 -;rintro v3 ⟨s3,A3,n3,c3,rfl,z3,k3⟩;rintro g3 hg3 hl3 hc3 -;refine sh [_,_] ?_;simp only[Act.put,lS,lZ,lC];have b3:=zeroZ (T:=0) hc3;have hs3:=B0.size;have hl_b1:=b1.lt;replace B0:=zup B0 B3;replace b1:=b1.below B3;clear B3 hc3;obtain⟨w4,hw4⟩:∃x,zput w3 g3 s3 A3 n3 c3=x:=⟨_,rfl⟩;obtain⟨f1_,f2_,f3_,f4_,f5_⟩:=Ib.entry b3;replace b1:=b1.zo (g:=g3) (s:=s3) (A:=A3) (n:=n3) (c:=c3) (by omega);rw[hw4]at b1;replace z3:=z3.zp (s':=s3) (A':=A3) (n':=n3) (c':=c3) b3;rw[hw4]at z3;replace B0:=a_e (g:=g3) (s:=s3) (A:=A3) (n:=n3) (c:=c3) B0 (by omega);rw[hw4]at B0;replace b3:=b3.zp (s:=s3) (A:=A3) (n:=n3) (c:=c3);rw[hw4]at b3;have Hw4:=Lib.hid hw4;unfold zput at Hw4;clear hw4;go_upto_region 4 with fail
 rw[Hw4.out];clear f1_ f2_ f3_ f4_ f5_ Hw4 hs3 hl_b1;refine Run.start 3 ?_;refine .ld .o (ldM b1 0) ?_;refine .c1 (.i 0) (x:=.k (.bool false)) (by rintro u w2 hB rfl;exact e_k hf_.out w2) ?_;refine .nf (.i 1) ?_;refine .donep [some 20,some 21,some 22] ?_;intro w5 B5;refine sh [] ?_;simp only[Act.put,lS,lZ,lC];replace B0:=zup B0 B5;replace b3:=b3.below B5;replace z3:=z3.below B5;clear B5;go_upto_region 5 with fail
 refine Run.start 8 ?_;refine .mv .o ?_;refine .two (.i 0) .o (opEq (by decide:decide ((2:Int)=2)=true)) ?_;refine .mv (.i 1) ?_;refine .ld .o (ldZ b3 0) ?_;refine .c1 (.i 3) (x:=.k (.int .i64 0)) (by rintro u w2 hB rfl;exact b_n ⟨_,_,_,_,rfl,(z3.below hB).zv,k3⟩ (by decide) (by decide)) ?_;refine .two (.i 4) .o (opEq (by decide:decide ((0:Int)=0)=true)) ?_;refine .pk (.i 2) (.i 5) true ?_;refine .mv (.i 6) ?_;refine .donep [some 23,some 24,some 25,some 26,some 27,some 28,some 29,some 2] ?_;intro w6 B6;refine sh [] ?_;simp only[Act.put,lS,lZ,lC]
 go_wp2_with fail
 exact bodyPost_ret (v:=.bool true) (by simp[results,Try.results6,go_sem]) rfl (a_s rfl (zup B0 B6))
theorem q_d {r:Nat}{A:Option Addr}{n d:Nat}{R:List Zr}{w:World}(ha:RL w A n d R)(h:fewb (r:Int) (r:Int) R 5 2=true)(hM:Mt false w r r A n d 2 (mf R r))(hr:r<=5):Calls Try.prog 6 #[.agg #[.int .i64 (r:Int),.int .i64 (r:Int),.slice A n d]] w (RetK (.k (.bool true)) w):=by
 have hf:(fmd (r:Int) (r:Int) n&&decide ((r:Int)=(r:Int)))=true:=by rw[hM.fmd];simp
 have hk:=e_w (K:=2) hr;have hk5:kb 2 5=95:=by decide
 obtain⟨k2,hk2⟩:∃k,kb 2 r=k:=⟨_,rfl⟩;rw[hk2]at hk;have hmul:r*(2*2+r+2)<=5*11:=Nat.mul_le_mul hr (by omega);obtain⟨K,hK⟩:∃K,r*(2*2+r+2)+1=K:=⟨_,rfl⟩;have hK2:K<=56:=by omega
 obtain⟨D,hD⟩:∃D,DT.det r (mf R r)=D:=⟨_,rfl⟩;obtain⟨b,hb⟩:∃b,(bdn r (mf R r) r:Int)=b:=⟨_,rfl⟩;have hbd:=k_7 r (mf R r);rw[hD,hb]at hbd;obtain⟨x,hx⟩:∃x,((D.natAbs:Int) - b).sign=x:=⟨_,rfl⟩;have hx0:¬0<x:=by rw[<-hx];exact o_e (by omega)
 obtain⟨t,ht⟩:∃t,decide ((r:Int)≠1)=t:=⟨_,rfl⟩;clear hmul;obtain⟨w1,hw1,b1,z1,s1⟩:=boxes1 w 24 [.int .i64 (r:Int),.int .i64 (r:Int),.slice A n d];have HW:=Lib.hid hw1;have HZ:=Lib.hid z1;have h_:=Lib.hid h;have hf_:=Lib.hid hf;have hk2_:=Lib.hid hk2;have hK_:=Lib.hid hK;have hD_:=Lib.hid hD;have hb_:=Lib.hid hb;have hx_:=Lib.hid hx;have ht_:=Lib.hid ht;clear hw1 z1 h hf hk2 hK hD hb hx ht s1;go_enter Try.func6,Try.ntmps6
 go_upto_region 1 with fail
 rw[HW.out];refine Run.start 7 ?_;refine .c0 (x:=.k (.bool true)) (fun w2 hB=>a_g w2) ?_;refine .nt (.i 0) ?_;refine .mv (.i 1) ?_;refine .ld .o (ldM b1 0) ?_;refine .c3 (.i 3) .o .o (x:=.k (.bool true)) (by rintro u v x w2 hB rfl rfl rfl;exact a_6 (N:=5) (W:=2) (ha.below (zup HZ.out hB)) h_.out (by decide)) ?_;refine .nt (.i 4) ?_;refine .pk (.i 2) (.i 5) false ?_;refine .donep [some 7,some 8,some 9,some 10,some 11,some 12,some 13] ?_;intro w2 B2;refine sh [] ?_;simp only[Act.put,lS,lZ,lC];have B0:=zup HZ.out B2;replace b1:=b1.below B2;clear B2 HZ;go_upto_region 3 with fail
 refine Run.start 6 ?_;refine .ld .o (ldM b1 0) ?_;refine .c1 (.i 0) (x:=kT (kC b K) (.k (.int .i64 0))) (by rintro u w2 hB rfl;rw[<-hb_.out];exact l_f (hM.below (zup B0 hB)) (by decide) hK_.out) ?_;refine .mf (.i 1) ?_;refine .ex (.i 2) 0 kT_0 ?_;refine .ex (.i 2) 1 kT_1 ?_;refine .al ?_;refine .donep [some 16,some 17,some 15,some 18,some 19,some 3] ?_;intro w3 B3;rintro v1 -;rintro v2 -;rintro v3 ⟨s3,A3,n3,c3,rfl,z3,k3⟩;rintro g3 hg3 hl3 hc3 -;refine sh [_,_] ?_;simp only[Act.put,lS,lZ,lC];have b3:=zeroZ (T:=0) hc3;have hs3:=B0.size;have hl_b1:=b1.lt;replace B0:=zup B0 B3;replace b1:=b1.below B3;clear B3 hc3;obtain⟨w4,hw4⟩:∃x,zput w3 g3 s3 A3 n3 c3=x:=⟨_,rfl⟩;obtain⟨f1_,f2_,f3_,f4_,f5_⟩:=Ib.entry b3;replace b1:=b1.zo (g:=g3) (s:=s3) (A:=A3) (n:=n3) (c:=c3) (by omega);rw[hw4]at b1;replace z3:=z3.zp (s':=s3) (A':=A3) (n':=n3) (c':=c3) b3;rw[hw4]at z3;replace B0:=a_e (g:=g3) (s:=s3) (A:=A3) (n:=n3) (c:=c3) B0 (by omega);rw[hw4]at B0;replace b3:=b3.zp (s:=s3) (A:=A3) (n:=n3) (c:=c3);rw[hw4]at b3;have Hw4:=Lib.hid hw4;unfold zput at Hw4;clear hw4;go_upto_region 4 with fail
 rw[Hw4.out];clear f1_ f2_ f3_ f4_ f5_ Hw4 hs3 hl_b1;refine Run.start 3 ?_;refine .ld .o (ldM b1 0) ?_;refine .c1 (.i 0) (x:=.k (.bool true)) (by rintro u w2 hB rfl;exact e_k hf_.out w2) ?_;refine .nt (.i 1) ?_;refine .donep [some 20,some 21,some 22] ?_;intro w5 B5;refine sh [] ?_;simp only[Act.put,lS,lZ,lC];replace B0:=zup B0 B5;replace b1:=b1.below B5;replace b3:=b3.below B5;replace z3:=z3.below B5;clear B5;go_upto_region 6 with fail
 refine Run.start 6 ?_;refine .ld .o (ldM b1 0) ?_;refine .c1 (.i 0) (x:=kT (kC D k2) (.k (.int .i64 0))) (by rintro u w2 hB rfl;rw[<-hD_.out,<-hk2_.out];exact c_3 (hM.below (zup B0 hB)) (by decide) (by rw[hk2_.out];omega)) ?_;refine .mf (.i 1) ?_;refine .ex (.i 2) 0 kT_0 ?_;refine .ex (.i 2) 1 kT_1 ?_;refine .al ?_;refine .donep [some 31,some 32,some 30,some 33,some 34,some 5] ?_;intro w6 B6;rintro v1 -;rintro v2 -;rintro v3 ⟨s5,A5,n5,c5,rfl,z5,k5⟩;rintro g5 hg5 hl5 hc5 -;refine sh [_,_] ?_;simp only[Act.put,lS,lZ,lC];have b5:=zeroZ (T:=0) hc5;have hs5:=B0.size;have hl_b1:=b1.lt;have hl_b3:=b3.lt;replace B0:=zup B0 B6;replace b1:=b1.below B6;replace b3:=b3.below B6;replace z3:=z3.below B6;clear B6 hc5;obtain⟨w7,hw7⟩:∃x,zput w6 g5 s5 A5 n5 c5=x:=⟨_,rfl⟩;obtain⟨f1_,f2_,f3_,f4_,f5_⟩:=Ib.entry b5;replace b1:=b1.zo (g:=g5) (s:=s5) (A:=A5) (n:=n5) (c:=c5) (by omega);rw[hw7]at b1;replace b3:=b3.zo (g:=g5) (s:=s5) (A:=A5) (n:=n5) (c:=c5) (by omega);rw[hw7]at b3;replace z3:=z3.zp (s':=s5) (A':=A5) (n':=n5) (c':=c5) b5;rw[hw7]at z3;replace z5:=z5.zp (s':=s5) (A':=A5) (n':=n5) (c':=c5) b5;rw[hw7]at z5;replace B0:=a_e (g:=g5) (s:=s5) (A:=A5) (n:=n5) (c:=c5) B0 (by omega);rw[hw7]at B0;replace b5:=b5.zp (s:=s5) (A:=A5) (n:=n5) (c:=c5);rw[hw7]at b5;have Hw7:=Lib.hid hw7;unfold zput at Hw7;clear hw7;go_upto_region 7 with fail
 rw[Hw7.out];clear f1_ f2_ f3_ f4_ f5_ Hw7 hs5 hl_b1 hl_b3;refine Run.start 9 ?_;refine .mv .o ?_;refine .two (.i 0) .o (opNe (by decide:decide ((0:Int)≠0)=false)) ?_;refine .mv (.i 1) ?_;refine .ld .o (ldZ b5 0) ?_;refine .c1 (.i 3) (x:=kC (D.natAbs:Int) k2) (by rintro u w8 hB rfl;exact n_g ⟨_,_,_,_,rfl,(z5.below hB).zv,k5⟩ (Nat.le_refl _) (by omega)) ?_;refine .ld .o (ldZ b3 0) ?_;refine .c2 (.i 4) (.i 5) (x:=.k (.int .i64 x)) (by rintro u v w8 hB hu rfl;exact q_p hu.v ⟨_,_,_,_,rfl,(z3.below hB).zv,k3⟩ (by omega) (by omega) hx_.out) ?_;refine .two (.i 6) .o (opGt (decide_eq_false hx0)) ?_;refine .pk (.i 2) (.i 7) false ?_;refine .done [some 35,some 36,some 37,some 38,some 39,some 40,some 41,some 42,some 43] ?_;intro w8 B8;rintro v39 -;refine sh [] ?_;simp only[Act.put,lS,lZ,lC];replace B0:=zup B0 B8;replace b1:=b1.below B8;replace b3:=b3.below B8;replace z3:=z3.below B8;clear B8 b5 z5;go_upto_region 9 with fail
 refine Run.start 3 ?_;refine .fa .o (fM0 0) ?_;refine .ld (.i 0) (ldInt b1 0) ?_;refine .two (.i 1) .o (opNe ht_.out) ?_;refine .donep [some 44,some 45,some 46] ?_;intro w9 B9;refine sh [] ?_;simp only[Act.put,lS,lZ,lC];replace B0:=zup B0 B9;replace b1:=b1.below B9;replace b3:=b3.below B9;replace z3:=z3.below B9;clear B9;cases t
 ·have e1:r=1:=by have:=of_decide_eq_false ht_.out;omega
  have hb1:((mf R r 0 0).natAbs:Int)=b:=by rw[<-hb_.out,e1];exact(q_f _).symm
  have hr1:0<r:=by omega
  clear e1;have HB1:=Lib.hid hb1;clear hb1;go_upto_region 11 with fail
  refine Run.start 6 ?_;refine .ld .o (ldZ b3 0) ?_;refine .ld .o (ldM b1 0) ?_;refine .c3 (.i 1) .o .o (x:=kV (mf R r 0 0) 2) (by rintro u v x w10 hB rfl rfl rfl;exact l_6 (i:=0) (j:=0) (hM.below (zup B0 hB)) hr1 hr1) ?_;refine .c1 (.i 2) (x:=kC ((mf R r 0 0).natAbs:Int) 2) (by rintro u w10 hB hu;exact n_g hu (Nat.le_refl _) (by decide)) ?_;refine .c2 (.i 0) (.i 3) (x:=.k (.bool true)) (by rintro u v w10 hB rfl hv;exact d_h ⟨_,_,_,_,rfl,(z3.below hB).zv,k3⟩ hv.v (by omega) (by decide) (decide_eq_true HB1.out.symm)) ?_;refine .mv (.i 4) ?_;refine .done [some 55,some 56,some 57,some 58,some 59,some 2] ?_;intro w10 B10;rintro v57 -;rintro v58 -;refine sh [] ?_;simp only[Act.put,lS,lZ,lC]
  go_wp2_with fail
  exact bodyPost_ret (v:=.bool true) (by simp[results,Try.results6,go_sem]) rfl (a_s rfl (zup B0 B10))
 ·by_cases e0:0<r
  ·go_upto_region 10 with fail
   refine Run.start 9 ?_;refine .fa .o (fM0 0) ?_;refine .ld (.i 0) (ldInt b1 0) ?_;refine .two (.i 1) .o (opGt (decide_eq_true (by omega:(0:Int)<(r:Int)))) ?_;refine .mv (.i 2) ?_;refine .no ?_;refine .no ?_;refine .no ?_;refine .pk (.i 3) .o true ?_;refine .mv (.i 7) ?_;refine .done [some 47,some 48,some 49,some 50,some 51,some 52,some 53,some 54,some 2] ?_;intro w10 B10;refine sh [] ?_;simp only[Act.put,lS,lZ,lC]
   go_wp2_with fail
   exact bodyPost_ret (v:=.bool true) (by simp[results,Try.results6,go_sem]) rfl (a_s rfl (zup B0 B10))
  ·have hb1:b=1:=by
    have e:r=0:=by omega
    rw[<-hb_.out,e];rfl
   have HB1:=Lib.hid hb1;clear hb1;go_upto_region 10 with fail
   refine Run.start 9 ?_;refine .fa .o (fM0 0) ?_;refine .ld (.i 0) (ldInt b1 0) ?_;refine .two (.i 1) .o (opGt (decide_eq_false (by omega:¬(0:Int)<(r:Int)))) ?_;refine .mv (.i 2) ?_;refine .ld .o (ldZ b3 0) ?_;refine .c1 .o (x:=kC 1 1) (by rintro u w10 hB rfl;exact i_v (by decide) (by decide) w10) ?_;refine .c2 (.i 4) (.i 5) (x:=.k (.bool true)) (by rintro u v w10 hB rfl hv;exact d_h ⟨_,_,_,_,rfl,(z3.below hB).zv,k3⟩ hv.v (by omega) (by decide) (decide_eq_true HB1.out)) ?_;refine .pk (.i 3) (.i 6) false ?_;refine .mv (.i 7) ?_;refine .done [some 47,some 48,some 49,some 50,some 51,some 52,some 53,some 54,some 2] ?_;intro w10 B10;rintro v52 -;refine sh [] ?_;simp only[Act.put,lS,lZ,lC]
   go_wp2_with fail
   exact bodyPost_ret (v:=.bool true) (by simp[results,Try.results6,go_sem]) rfl (a_s rfl (zup B0 B10))
theorem h_s {r c:Int}{A:Option Addr}{n d:Nat}{R:List Zr}{w:World}(ha:RL w A n d R):Calls Try.prog 6 #[.agg #[.int .i64 r,.int .i64 c,.slice A n d]] w (RetK (.k (.bool true)) w):=by
 cases h:fewb r c R 5 2 with
 |false=>exact q_e ha h
 |true=>
  cases hf:(fmd r c n&&decide (r=c))with
  |false=>exact r_x ha h hf
  |true=>
   rw[Bool.and_eq_true]at hf;obtain⟨h1,h2⟩:=hf;have h2:=of_decide_eq_true h2;obtain⟨r',c',rfl,rfl,hr,hc,hn,hM⟩:=ha.mt h1 h;obtain rfl:r'=c':=by omega
   exact q_d ha h hM hr
end Go.Proofs.Ytlgjjnmmepgafaa
