/- PmX05 -/
import Derived.Test.YtkgghhklbbfdiaaGreatPmX02
set_option linter.unusedVariables false
set_option linter.unusedSimpArgs false
set_option linter.unusedSectionVars false
set_option maxRecDepth 100000
set_option maxHeartbeats 8000000
namespace Go.Proofs.YtkgghhklbbfdiaaGreat
open Go.RowKit
theorem v_g {r c:Int}{n d:Nat}{A:Option Addr}{w:World}(h1:fmd r c n=false):Calls Tryz.prog 12 #[.agg #[.int .i64 r,.int .i64 c,.slice A n d]] w (RetK (.k (.tuple #[.agg #[.int .i64 0,.int .i64 0,.slice none 0 0],.slice none 0 0,.int .i64 2])) w):=by
 obtain⟨w1,hw1,b1,b2,z1,s1⟩:=boxes2 w 24 24 [.int .i64 r,.int .i64 c,.slice A n d] [.int .i64 0,.int .i64 0,.slice none 0 0];have HW:=Lib.hid hw1;have HZ:=Lib.hid z1;have h1_:=Lib.hid h1;clear hw1 z1 h1 s1;go_enter Tryz.func12,Tryz.ntmps12
 go_upto_region 1 with fail
 rw[HW.out];refine Run.start 3 ?_;refine .ld .o (ldQm b1 0) ?_;refine .c1 (.i 0) (x:=.k (.bool false)) (by rintro u w2 hB rfl;exact b_m h1_.out w2) ?_;refine .nf (.i 1) ?_;refine .donep [some 10,some 11,some 12] ?_;intro w2 B2;change Shut (wpList _ _ _ [] _ _);refine⟨?_⟩;simp only[Act.put,lS,lZ,lC];have P:Hid (RetK (.k (.tuple #[.agg #[.int .i64 0,.int .i64 0,.slice none 0 0],.slice none 0 0,.int .i64 2])) w (.returned (.tuple #[.agg #[.int .i64 0,.int .i64 0,.slice none 0 0],.slice none 0 0,.int .i64 2])) (mput w2 (w.heap.size+1) 0 0 none 0 0)):=Lib.hid ⟨_,rfl,rfl,b_u (zup HZ.out B2) (by omega)⟩;unfold mput at P;obtain⟨i0,i1,i2,i3,i4,i5,i6⟩:=(b2.below B2).m3
 go_wp2_with fail
 exact bodyPost_ret (v:=.tuple #[.agg #[.int .i64 0,.int .i64 0,.slice none 0 0],.slice none 0 0,.int .i64 2]) (by simp[results,Tryz.results12,go_sem,i0,i1,i2]) rfl P.out
end Go.Proofs.YtkgghhklbbfdiaaGreat
