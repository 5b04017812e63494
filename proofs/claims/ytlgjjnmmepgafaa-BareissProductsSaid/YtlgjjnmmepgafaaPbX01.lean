/- PbX01 -/
import Derived.Test.YtlgjjnmmepgafaaPb35
set_option linter.unusedVariables false
set_option linter.unusedSimpArgs false
set_option linter.unusedSectionVars false
set_option maxRecDepth 100000
set_option maxHeartbeats 8000000
namespace Go.Proofs.Ytlgjjnmmepgafaa
open Go.RowKit
theorem e_k {r c:Int}{A:Option Addr}{n d:Nat}{b:Bool}(hb:(fmd r c n&&decide (r=c))=b)(w:World):Calls Try.prog 10 #[.agg #[.int .i64 r,.int .i64 c,.slice A n d]] w (RetK (.k (.bool b)) w):=by
 obtain⟨t1,h1⟩:∃t,fmd r c n=t:=⟨_,rfl⟩;obtain⟨t2,h2⟩:∃t,decide (r=c)=t:=⟨_,rfl⟩;have hb':b=(t1&&t2):=by rw[<-hb,h1,h2]
 have hbb:=Lib.hid hb';obtain⟨w1,hw1,b1,z1,s1⟩:=boxes1 w 24 [.int .i64 r,.int .i64 c,.slice A n d];have HW:=Lib.hid hw1;have HZ:=Lib.hid z1;have h1_:=Lib.hid h1;have h2_:=Lib.hid h2;clear hw1 z1 h1 h2 s1 hb hb';go_enter Try.func10,Try.ntmps10
 go_upto_region 1 with fail
 rw[HW.out];cases t1
 ·refine Run.start 10 ?_;refine .ld .o (ldM b1 0) ?_;refine .c1 (.i 0) (x:=.k (.bool false)) (by rintro u w2 hB rfl;exact d_a h1_.out w2) ?_;refine .mv (.i 1) ?_;refine .no ?_;refine .no ?_;refine .no ?_;refine .no ?_;refine .no ?_;refine .pk (.i 2) .o false ?_;refine .mv (.i 8) ?_;refine .donep [some 3,some 4,some 5,some 6,some 7,some 8,some 9,some 10,some 11,some 2] ?_;intro w2 B2;refine sh [] ?_;simp only[Act.put,lS,lZ,lC];cases hbb.out
  go_wp2_with fail
  exact bodyPost_ret (v:=.bool false) (by simp[results,Try.results10,go_sem]) rfl (a_s rfl (zup HZ.out B2))
 ·refine Run.start 10 ?_;refine .ld .o (ldM b1 0) ?_;refine .c1 (.i 0) (x:=.k (.bool true)) (by rintro u w2 hB rfl;exact d_a h1_.out w2) ?_;refine .mv (.i 1) ?_;refine .fa .o (fM0 0) ?_;refine .ld (.i 3) (ldInt b1 0) ?_;refine .fa .o (fM1 1) ?_;refine .ld (.i 5) (ldInt b1 1) ?_;refine .two (.i 4) (.i 6) (opEq h2_.out) ?_;refine .pk (.i 2) (.i 7) true ?_;refine .mv (.i 8) ?_;refine .donep [some 3,some 4,some 5,some 6,some 7,some 8,some 9,some 10,some 11,some 2] ?_;intro w2 B2;refine sh [] ?_;simp only[Act.put,lS,lZ,lC];cases hbb.out
  go_wp2_with fail
  exact bodyPost_ret (v:=.bool t2) (by simp[results,Try.results10,go_sem]) rfl (a_s rfl (zup HZ.out B2))
end Go.Proofs.Ytlgjjnmmepgafaa
