/- PhX07 -/
import Derived.Test.YtgohglhefhocgaaGreatPhX01
import Derived.Test.YtgohglhefhocgaaGreatPhX03
set_option linter.unusedVariables false
set_option linter.unusedSimpArgs false
set_option linter.unusedSectionVars false
set_option maxRecDepth 100000
set_option maxHeartbeats 8000000
namespace Go.Proofs.YtgohglhefhocgaaGreat
open Go.RowKit
theorem n_q {w:World}{x:Int}:(Instr.buildSlice 44 1 #[(0,.int .i64 x)]).run Tryz.prog w= .ok (.slice (some ⟨w.heap.size,0,none⟩) 1 1) (w.alloc (.cells #[.int .i64 x] 3)):=by kernel_rfl
section
variable {ops:Array Oper}{Q:Exit→Act→World→Prop}{m i:Nat}{a0:Act}{w0:World}{l:List FK}{b:Bool}{id:Nat}
theorem Run.bsI1 (s:Src){x:Int}{b0:Nat}(hb0:b0≤w0.heap.size)(rest:R ops Q m a0 w0 b id (kIL b0 [x]::l) (i+1))(hx:srcsK l i a0 (bsL (opAt ops i).op) [s] [.int .i64 x]:=by exact⟨rfl,trivial⟩)(hc:okBsI ops m i [s]=true:=by kernel_rfl)(hg:Gd l i (opAt ops i):=by first|exact trivial|exact rfl):R ops Q m a0 w0 b id l i:=by
 unfold okBsI at hc;rw[Bool.and_eq_true]at hc;obtain⟨h1,h2⟩:=hc;refine Run.mem (x:=kIL b0 [x]) (fun a w h=>?_) rest (FK.fne _) h1 hg;split at h2
 ·rename_i T n xs e;rw[e]at hx;simp only[Bool.and_eq_true,beq_iff_eq]at h2;obtain⟨⟨⟨rfl,rfl⟩,h3⟩,h4⟩:=h2;have hv:=h.srcs h4 hx;have hp:(xs.map fun(i,y)=>(i,a.eval y))= #[(0,.int .i64 x)]:=by
   obtain⟨ys⟩:=xs;match ys,h3,hv with
   | [(k0,x0)],h3,hv=>
    have h3':[k0]=[0]:=h3;have hv':[a.eval x0]=[.int .i64 x]:=hv;simp only[List.cons.injEq,and_true]at h3' hv';simp[h3',hv']
  have B:=zba w (.cells #[.int .i64 x] 3);refine⟨_,_, ?_,⟨w.heap.size,rfl,Bx.new w _ [.int .i64 x],Nat.le_trans hb0 h.below.size⟩,B⟩;unfold execOp;rw[e];simp only[hp];simp[n_q]
 ·cases h2
end
end Go.Proofs.YtgohglhefhocgaaGreat
