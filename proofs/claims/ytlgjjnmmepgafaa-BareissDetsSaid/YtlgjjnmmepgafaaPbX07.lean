/- PbX07 -/
import Derived.Test.YtlgjjnmmepgafaaPbX01
import Derived.Test.YtlgjjnmmepgafaaPbX05
set_option linter.unusedVariables false
set_option linter.unusedSimpArgs false
set_option linter.unusedSectionVars false
set_option maxRecDepth 100000
set_option maxHeartbeats 8000000
namespace Go.Proofs.Ytlgjjnmmepgafaa
section
open Go.RowKit
theorem r_v {r c:Int}{n d:Nat}{A:Option Addr}{w:World}(h:(fmd r c n&&decide (r=c))=false):Calls Try.prog 9 #[.agg #[.int .i64 r,.int .i64 c,.slice A n d]] w (RetK (.k (.tuple #[.agg #[.bool false,.slice none 0 0],.int .i64 2])) w):=by
 obtain⟨w1,hw1,b1,b2,z1,s1⟩:=boxes2 w 24 30 [.int .i64 r,.int .i64 c,.slice A n d] [.bool false,.slice none 0 0];have HW:=Lib.hid hw1;have HZ:=Lib.hid z1;have h_:=Lib.hid h;clear hw1 z1 h s1;go_enter Try.func9,Try.ntmps9
 go_upto_region 1 with fail
 rw[HW.out];refine Run.start 3 ?_;refine .ld .o (ldM b1 0) ?_;refine .c1 (.i 0) (x:=.k (.bool false)) (by rintro u w2 hB rfl;exact sq_q h_.out w2) ?_;refine .nf (.i 1) ?_;refine .donep [some 5,some 6,some 7] ?_;intro w2 B2;refine sh [] ?_;simp only[Act.put,lS,lZ,lC];have I:=Ib.entry (b2.below B2);have P:Hid (RetK (.k (.tuple #[.agg #[.bool false,.slice none 0 0],.int .i64 2])) w (.returned (.tuple #[.agg #[.bool false,.slice none 0 0],.int .i64 2])) ((w2.setCell ⟨w.heap.size+1,0,none⟩ (.bool false)).setCell ⟨w.heap.size+1,1,none⟩ (.slice none 0 0))):=Lib.hid ⟨_,rfl,rfl,a_e (zup HZ.out B2) (by omega)⟩;obtain⟨i1,i2,i3,i4,i5⟩:=I
 go_wp2_with fail
 exact bodyPost_ret (v:=.tuple #[.agg #[.bool false,.slice none 0 0],.int .i64 2]) (by simp[results,Try.results9,go_sem,i1,i2]) rfl P.out
end
section
open Go.RowKit
theorem det_no' {r c:Int}{n d K:Nat}{A:Option Addr}{w:World}(h:(fmd r c n&&decide (r=c))=false):Calls Try.prog 9 #[.agg #[.int .i64 r,.int .i64 c,.slice A n d]] w (RetK (kT (kC 0 K) (.k (.int .i64 2))) w):=
 (r_v h).mono fun e w' h=>h.mono fun v w2 hv=>by
  obtain rfl:v=_:=hv;exact⟨_,_,rfl,⟨_,_,_,_,rfl,Zc.nought w2,Nat.zero_le _⟩,rfl⟩
end
end Go.Proofs.Ytlgjjnmmepgafaa
