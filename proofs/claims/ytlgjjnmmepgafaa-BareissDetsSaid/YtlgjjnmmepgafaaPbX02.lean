/- PbX02 -/
import Derived.Test.YtlgjjnmmepgafaaPb35
import Derived.Deep.RegionHeld3
set_option linter.unusedVariables false
set_option linter.unusedSimpArgs false
set_option linter.unusedSectionVars false
set_option maxRecDepth 100000
set_option maxHeartbeats 8000000
namespace Go.Proofs.Ytlgjjnmmepgafaa
section
open Go.RowKit
theorem q_m {A:Option Addr}{n c:Nat}{s:Bool}{z:Int}{w:World}(h:Zv w s A n c z)(hn:n<=1099511627776):
  Calls Try.prog 36 #[.agg #[.bool s,.slice A n c]] w (ZPost (-z) n w):=by
 obtain⟨h1,h2⟩:=h.abs;have z0:=zba2 w (.cells #[.bool s,.slice A n c] 30) (.cells #[.bool false,.slice none 0 0] 30);have h3:=h1.below z0;have HZ:=Lib.hid z0;have HI:=Lib.hid (Ib.new (w.alloc (.cells #[.bool s,.slice A n c] 30)) false none 0 0 30);have hs:sg (!s) z.natAbs= -z:=by rw[n_k];exact congrArg _ h2.out.symm
 have HS:=Lib.hid hs;clear h1 h2 h z0 hs;go_enter Try.func36,Try.ntmps36
 go_wp2_with fail
 refine(f_b h3 hn).mono ?_;rintro e w2 ⟨t,A2,n2,c2,rfl,p2,k2,B2⟩;rw[HS.out]at p2;have I:=HI.out.below B2;have P:=Lib.hid (zfin p2 I (k:=n) (by omega) (by simp) (zup HZ.out B2));obtain⟨i1,i2,i3,i4,i5⟩:=I;simp only[World.size_alloc]at i1 i2 i3 i4 i5 P;clear p2 B2 h3
 go_wp2_with fail
 exact bodyPost_ret (v:=.agg #[.bool t,.slice A2 n2 c2]) (by simp[results,Try.results36,go_sem,i1,i2]) rfl P.out
end
section
open Go.RowKit
theorem l_6 {q:Bool}{r c n d k i j:Nat}{A:Option Addr}{F:Nat->Nat->Int}{w:World}(h:Mt q w r c A n d k F)(hi:i<r)(hj:j<c):Calls Try.prog 27 #[.agg #[.int .i64 (r:Int),.int .i64 (c:Int),.slice A n d],.int .i64 (i:Int),.int .i64 (j:Int)] w (RetK (kV (F i j) k) w):=by
 have h1:=h.hr;have h2:=h.hc;have h5:i*c<=64*64:=Nat.mul_le_mul (by omega) h2;obtain⟨w1,hw1,b3,b6,z1,s1⟩:=boxes2 w 24 30 [.int .i64 (r:Int),.int .i64 (c:Int),.slice A n d] [.bool false,.slice none 0 0];have HW:=Lib.hid hw1;have HZ:=Lib.hid z1;obtain⟨ad,rfl,hab,hlt,s_,A_,n_,c_,c0,c1,ze,hk⟩:=(h.below z1).elem hi hj;have hz:=ze.1;clear ze h;clear hw1 z1 s1;go_enter Try.func27,Try.ntmps27
 go_upto_region 1 with fail
 rw[HW.out];refine Run.start 10 ?_;refine .fa .o (fM2 2) ?_;refine .ld (.i 0) (ldSl b3 2) ?_;refine .mv .o ?_;refine .fa .o (fM1 1) ?_;refine .ld (.i 3) (ldInt b3 1) ?_;refine .two (.i 2) (.i 4) (opMulN i c (by omega)) ?_;refine .mv .o ?_;refine .two (.i 5) (.i 6) (opAddN (i*c) j (by omega)) ?_;refine .two (.i 1) (.i 7) (opIx hlt) ?_;refine .ld (.i 8) (ldE (by rw[a_a];exact hab) c0 c1) ?_;refine .donep [some 7,some 8,some 9,some 10,some 11,some 12,some 13,some 14,some 15,some 16] ?_;intro w2 B2;refine sh [_] ?_;simp only[Act.put,lS,lZ,lC];replace hz:=hz.below B2;clear c0 c1;have I:=Ib.entry (b6.below B2);have P:=Lib.hid (retV hz I (k:=k) (by omega) (by omega) (zup HZ.out B2));obtain⟨i1,i2,i3,i4,i5⟩:=I;clear hz
 go_wp2_with fail
 exact bodyPost_ret (v:=.agg #[.bool s_,.slice A_ n_ c_]) (by simp[results,Try.results27,go_sem,i1,i2]) rfl P.out
end
end Go.Proofs.Ytlgjjnmmepgafaa
