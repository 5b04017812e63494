/- Pb35 -/
import Derived.Test.YtlgjjnmmepgafaaPb34
import Derived.RegionTactic
import Derived.BigRegion
import Derived.Deep.RegionHeld3
import Derived.Deep.AppendLies
import Derived.Deep.RegionLaw
import Derived.Deep.LoopGhost
import Derived.Deep.RegionWith
set_option linter.unusedVariables false
set_option linter.unusedSimpArgs false
set_option linter.unusedSectionVars false
set_option maxRecDepth 100000
set_option maxHeartbeats 8000000
namespace Go.Proofs.Ytlgjjnmmepgafaa
section
open Go.RowKit
theorem a_g (w:World):Calls Try.prog 7 #[] w (RetK (.k (.bool true)) w):=by
 have B0:=Below.refl w.heap.size w;go_enter Try.func7,Try.ntmps7
 go_upto_region 1 with fail
 refine Run.start 6 ?_;refine .bsJ4 .o .o .o .o (x:=1) (y:=2) (z:=3) (u:=4) (by decide) ?_;refine .c3 .o .o (.i 0) (x:=kT (kM true 2 2 1 (fun i j=>([1,2,3,4]:List Int).getD (i*2+j) 0)) (.k (.int .i64 0))) (by rintro u v x w2 hB rfl rfl ⟨g,rfl,hl⟩;exact p_c (r:=2) (c:=2) hl rfl (by decide) (by decide)) ?_;refine .mf (.i 1) ?_;refine .ex (.i 2) 0 kT_0 ?_;refine .ex (.i 2) 1 kT_1 ?_;refine .al ?_;refine .donep [some 6,some 7,some 5,some 8,some 9,some 1] ?_;intro w2 B2;rintro v0 -;rintro v1 -;rintro v2 -;rintro v3 ⟨A1,n1,d1,rfl,m1⟩;rintro g1 hg1 hl1 hc1 -;refine sh [_,_] ?_;simp only[Act.put,lS,lZ,lC];have b1:=zeroM hc1;replace B0:=zup B0 B2;clear B2 hc1;obtain⟨w3,hw3⟩:∃x,mput w2 g1 2 2 A1 n1 d1=x:=⟨_,rfl⟩;obtain⟨f0_,f1_,f2_,f3_,f4_,f5_,f6_⟩:=b1.m3;replace m1:=m1.put (r':=2) (c':=2) (C:=A1) (n':=n1) (d':=d1) b1;rw[hw3]at m1;replace B0:=a_q (g:=g1) (r:=2) (c:=2) (A:=A1) (n:=n1) (d:=d1) B0 (by omega);rw[hw3]at B0;replace b1:=b1.mp (g:=g1) (r:=2) (c:=2) (A:=A1) (n:=n1) (d:=d1);rw[hw3]at b1;have Hw3:=Lib.hid hw3;unfold mput at Hw3;clear hw3;go_upto_region 2 with fail
 rw[Hw3.out];clear f0_ f1_ f2_ f3_ f4_ f5_ f6_ Hw3;have hs0:=B0.size;refine Run.start 6 ?_;refine .ld .o (ldM b1 0) ?_;refine .c1 (.i 0) (x:=kT (kC (-2) 7) (.k (.int .i64 0))) (by rintro u w2 hB rfl;exact c_3 (r:=2) (m1.below hB) (by decide) (by decide)) ?_;refine .mf (.i 1) ?_;refine .ex (.i 2) 0 kT_0 ?_;refine .ex (.i 2) 1 kT_1 ?_;refine .al ?_;refine .donep [some 11,some 12,some 10,some 13,some 14,some 3] ?_;intro w4 B4;rintro v1 -;rintro v2 -;rintro v3 ⟨s3,A3,n3,c3,rfl,z3,k3⟩;rintro g3 hg3 hl3 hc3 -;refine sh [_,_] ?_;simp only[Act.put,lS,lZ,lC];have b3:=zeroZ (T:=0) hc3;have hs3:=B0.size;replace B0:=zup B0 B4;clear B4 hc3 b1 m1;obtain⟨w5,hw5⟩:∃x,zput w4 g3 s3 A3 n3 c3=x:=⟨_,rfl⟩;obtain⟨f1_,f2_,f3_,f4_,f5_⟩:=Ib.entry b3;replace z3:=z3.zp (s':=s3) (A':=A3) (n':=n3) (c':=c3) b3;rw[hw5]at z3;replace B0:=a_e (g:=g3) (s:=s3) (A:=A3) (n:=n3) (c:=c3) B0 (by omega);rw[hw5]at B0;replace b3:=b3.zp (s:=s3) (A:=A3) (n:=n3) (c:=c3);rw[hw5]at b3;have Hw5:=Lib.hid hw5;unfold zput at Hw5;clear hw5;go_upto_region 3 with fail
 rw[Hw5.out];clear f1_ f2_ f3_ f4_ f5_ Hw5;refine Run.start 13 ?_;refine .mv .o ?_;refine .two (.i 0) .o (opEq (by decide:decide ((0:Int)=0)=true)) ?_;refine .mv (.i 1) ?_;refine .ld .o (ldZ b3 0) ?_;refine .c1 .o (x:=kC (-2) 1) (by rintro u w2 hB rfl;exact i_v (by decide) (by decide) w2) ?_;refine .c2 (.i 3) (.i 4) (x:=.k (.bool true)) (by rintro u v w2 hB rfl h2;exact d_h ⟨_,_,_,_,rfl,(z3.below hB).zv,k3⟩ h2.v (by decide) (by decide) (by decide)) ?_;refine .pk (.i 2) (.i 5) true ?_;refine .mv (.i 6) ?_;refine .ld .o (ldZ b3 0) ?_;refine .c1 (.i 8) (x:=.k (.int .i64 (-1))) (by rintro u w2 hB rfl;exact b_n ⟨_,_,_,_,rfl,(z3.below hB).zv,k3⟩ (by decide) (by decide)) ?_;refine .two (.i 9) .o (opEq (by decide:decide ((-1:Int)= -1)=true)) ?_;refine .pk (.i 7) (.i 10) true ?_;refine .mv (.i 11) ?_;refine .done [some 15,some 16,some 17,some 18,some 19,some 20,some 21,some 22,some 23,some 24,some 25,some 26,some 0] ?_;intro w6 B6;rintro v4 -;refine sh [] ?_;simp only[Act.put,lS,lZ,lC]
 go_wp2_with fail
 exact bodyPost_ret (v:=.bool true) (by simp[results,Try.results7,go_sem]) rfl (a_s rfl (zup B0 B6))
end
end Go.Proofs.Ytlgjjnmmepgafaa
