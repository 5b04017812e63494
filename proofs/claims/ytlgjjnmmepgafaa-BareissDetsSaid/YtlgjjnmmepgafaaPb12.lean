/- Pb12 -/
import Derived.Test.YtlgjjnmmepgafaaPb11
set_option linter.unusedVariables false
set_option linter.unusedSimpArgs false
set_option linter.unusedSectionVars false
set_option maxRecDepth 100000
set_option maxHeartbeats 8000000
namespace Go.Proofs.Ytlgjjnmmepgafaa
open Go.RowKit
def sd (x:Int):Bool:=decide (0<=x/\x<=64)
def fmd (r c:Int)(n:Nat):Bool:=sd r&&sd c&&decide ((n:Int)=r*c)
theorem a_s {v:Value}{w w':World}{e:Ending}(h:e= .returned v)(hb:Below w.heap.size w w'):RetK (.k v) w e w':=⟨v,h,rfl,hb⟩
theorem e_e (x:Int){b:Bool}(hb:sd x=b)(w:World):Calls Try.prog 54 #[.int .i64 x] w (RetK (.k (.bool b)) w):=by
 have HB:=Lib.hid hb;by_cases h0:0<=x
 ·obtain⟨t,ht⟩:∃t,decide (x<=64)=t:=⟨_,rfl⟩;have hbt:b=t:=by rw[<-hb,<-ht];unfold sd;simp[h0]
  have HT:=Lib.hid hbt;clear hb hbt HB;go_enter Try.func54,Try.ntmps54
  go_wp2_with fail
  exact bodyPost_ret (v:=.bool t) (by simp[results,Try.results54,go_sem,ht]) rfl (a_s (by rw[HT.out]) (Below.refl _ _))
 ·have hbt:b=false:=by rw[<-hb];unfold sd;simp[h0]
  subst hbt;clear hb HB;go_enter Try.func54,Try.ntmps54
  go_wp2_with fail
  exact bodyPost_ret (v:=.bool false) (by simp[results,Try.results54,go_sem]) rfl (a_s rfl (Below.refl _ _))
theorem l_u {x:Int}(h:sd x=true):0<=x/\x<=64:=by unfold sd at h;exact of_decide_eq_true h
theorem j_w {r c:Int}(hr:sd r=true)(hc:sd c=true):-9223372036854775808<=r*c/\r*c<=9223372036854775807:=by
 obtain⟨a,b⟩:=l_u hr;obtain⟨e,f⟩:=l_u hc;have h1:0<=r*c:=Int.mul_nonneg a e;have h2:r*c<=64*c:=Int.mul_le_mul_of_nonneg_right b e;omega
theorem k_w {r c:Int}{n:Nat}{b:Bool}(hb:fmd r c n=b)(w:World):Calls Try.prog 65 #[.int .i64 r,.int .i64 c,.int .i64 (n:Int)] w (RetK (.k (.bool b)) w):=by
 obtain⟨t1,h1⟩:∃t,sd r=t:=⟨_,rfl⟩;obtain⟨t2,h2⟩:∃t,sd c=t:=⟨_,rfl⟩;obtain⟨t3,h3⟩:∃t,decide ((n:Int)=r*c)=t:=⟨_,rfl⟩;have hb':b=(t1&&t2&&t3):=by rw[<-hb,fmd,h1,h2,h3]
 have hbb:=Lib.hid hb';have h4:t1=true->t2=true-> -9223372036854775808<=r*c/\r*c<=9223372036854775807:=fun e1 e2=>by
  rw[e1]at h1;rw[e2]at h2;exact j_w h1 h2
 have h1_:=Lib.hid h1;have h2_:=Lib.hid h2;have h3_:=Lib.hid h3;have h4_:=Lib.hid h4;clear h1 h2 h3 h4 hb hb';go_enter Try.func65,Try.ntmps65
 go_upto_region 1 with fail
 cases t1
 ·refine Run.start 14 ?_;refine .mv .o ?_;refine .c1 (.i 0) (x:=.k (.bool false)) (by rintro u w2 hB rfl;exact e_e _ h1_.out w2) ?_;refine .mv (.i 1) ?_;refine .no ?_;refine .no ?_;refine .pk (.i 2) .o false ?_;refine .mv (.i 5) ?_;refine .no ?_;refine .no ?_;refine .no ?_;refine .no ?_;refine .no ?_;refine .pk (.i 6) .o false ?_;refine .mv (.i 12) ?_;refine .donep [some 7,some 8,some 9,some 10,some 11,some 12,some 13,some 14,some 15,some 16,some 17,some 18,some 19,some 6] ?_;intro w2 B2;refine sh [] ?_;simp only[Act.put,lS,lZ,lC];cases hbb.out
  go_wp2_with fail
  exact bodyPost_ret (v:=.bool false) (by simp[results,Try.results65,go_sem]) rfl (a_s rfl B2)
 cases t2
 ·refine Run.start 14 ?_;refine .mv .o ?_;refine .c1 (.i 0) (x:=.k (.bool true)) (by rintro u w2 hB rfl;exact e_e _ h1_.out w2) ?_;refine .mv (.i 1) ?_;refine .mv .o ?_;refine .c1 (.i 3) (x:=.k (.bool false)) (by rintro u w2 hB rfl;exact e_e _ h2_.out w2) ?_;refine .pk (.i 2) (.i 4) true ?_;refine .mv (.i 5) ?_;refine .no ?_;refine .no ?_;refine .no ?_;refine .no ?_;refine .no ?_;refine .pk (.i 6) .o false ?_;refine .mv (.i 12) ?_;refine .donep [some 7,some 8,some 9,some 10,some 11,some 12,some 13,some 14,some 15,some 16,some 17,some 18,some 19,some 6] ?_;intro w2 B2;refine sh [] ?_;simp only[Act.put,lS,lZ,lC];cases hbb.out
  go_wp2_with fail
  exact bodyPost_ret (v:=.bool false) (by simp[results,Try.results65,go_sem]) rfl (a_s rfl B2)
 ·refine Run.start 14 ?_;refine .mv .o ?_;refine .c1 (.i 0) (x:=.k (.bool true)) (by rintro u w2 hB rfl;exact e_e _ h1_.out w2) ?_;refine .mv (.i 1) ?_;refine .mv .o ?_;refine .c1 (.i 3) (x:=.k (.bool true)) (by rintro u w2 hB rfl;exact e_e _ h2_.out w2) ?_;refine .pk (.i 2) (.i 4) true ?_;refine .mv (.i 5) ?_;refine .mv .o ?_;refine .mv .o ?_;refine .mv .o ?_;refine .two (.i 8) (.i 9) (opMul rfl (h4_.out rfl rfl).1 (h4_.out rfl rfl).2) ?_;refine .two (.i 7) (.i 10) (opEq h3_.out) ?_;refine .pk (.i 6) (.i 11) true ?_;refine .mv (.i 12) ?_;refine .donep [some 7,some 8,some 9,some 10,some 11,some 12,some 13,some 14,some 15,some 16,some 17,some 18,some 19,some 6] ?_;intro w2 B2;refine sh [] ?_;simp only[Act.put,lS,lZ,lC];cases hbb.out
  go_wp2_with fail
  exact bodyPost_ret (v:=.bool t3) (by simp[results,Try.results65,go_sem]) rfl (a_s rfl B2)
theorem b_c {r c:Int}{A:Option Addr}{n d:Nat}{b:Bool}(hb:fmd r c n=b)(w:World):Calls Try.prog 38 #[.agg #[.int .i64 r,.int .i64 c,.slice A n d]] w (RetK (.k (.bool b)) w):=by
 obtain⟨w1,hw1,b1,z1,s1⟩:=boxes1 w 24 [.int .i64 r,.int .i64 c,.slice A n d];have HW:=Lib.hid hw1;have HZ:=Lib.hid z1;have hb_:=Lib.hid hb;clear hw1 z1 hb s1;go_enter Try.func38,Try.ntmps38
 go_upto_region 1 with fail
 rw[HW.out];refine Run.start 9 ?_;refine .fa .o (fM0 0) ?_;refine .ld (.i 0) (ldInt b1 0) ?_;refine .fa .o (fM1 1) ?_;refine .ld (.i 2) (ldInt b1 1) ?_;refine .fa .o (fM2 2) ?_;refine .ld (.i 4) (ldSl b1 2) ?_;refine .len (.i 5) Try.underlying22 ?_;refine .c3 (.i 1) (.i 3) (.i 6) (x:=.k (.bool b)) (by rintro u v x w2 hB rfl rfl rfl;exact k_w hb_.out w2) ?_;refine .mv (.i 7) ?_;refine .donep [some 3,some 4,some 5,some 6,some 7,some 8,some 9,some 10,some 2] ?_;intro w2 B2;refine sh [] ?_;simp only[Act.put,lS,lZ,lC]
 go_wp2_with fail
 exact bodyPost_ret (v:=.bool b) (by simp[results,Try.results38,go_sem]) rfl (a_s rfl (zup HZ.out B2))
end Go.Proofs.Ytlgjjnmmepgafaa
