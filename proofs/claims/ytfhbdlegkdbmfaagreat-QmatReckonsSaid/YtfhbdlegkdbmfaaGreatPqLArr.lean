/-
  Arrays of four matrices in variables.
-/
import Derived.Test.YtfhbdlegkdbmfaaGreatPqX02
set_option linter.unusedVariables false
set_option linter.unusedSimpArgs false
set_option linter.unusedSectionVars false
set_option maxRecDepth 100000
set_option maxHeartbeats 8000000
namespace Go.Proofs.YtfhbdlegkdbmfaaGreat
open Go.RowKit
section
variable {w:World}{g:Nat}{T:TypeId}{u0 u1 u2 u3 u4 u5 u6 u7 u8 u9 u10 u11:Value}
theorem Bx.m12 (b:Bx w g T [u0,u1,u2,u3,u4,u5,u6,u7,u8,u9,u10,u11]):w.cell? ⟨g,0,none⟩=some u0/\w.cell? ⟨g,1,none⟩=some u1/\w.cell? ⟨g,2,none⟩=some u2/\w.cell? ⟨g,3,none⟩=some u3/\w.cell? ⟨g,4,none⟩=some u4/\w.cell? ⟨g,5,none⟩=some u5/\w.cell? ⟨g,6,none⟩=some u6/\w.cell? ⟨g,7,none⟩=some u7/\w.cell? ⟨g,8,none⟩=some u8/\w.cell? ⟨g,9,none⟩=some u9/\w.cell? ⟨g,10,none⟩=some u10/\w.cell? ⟨g,11,none⟩=some u11/\w.frozen? ⟨g,0,none⟩=false/\w.frozen? ⟨g,1,none⟩=false/\w.frozen? ⟨g,2,none⟩=false/\w.frozen? ⟨g,3,none⟩=false/\w.frozen? ⟨g,4,none⟩=false/\w.frozen? ⟨g,5,none⟩=false/\w.frozen? ⟨g,6,none⟩=false/\w.frozen? ⟨g,7,none⟩=false/\w.frozen? ⟨g,8,none⟩=false/\w.frozen? ⟨g,9,none⟩=false/\w.frozen? ⟨g,10,none⟩=false/\w.frozen? ⟨g,11,none⟩=false/\g<w.heap.size:=
 ⟨b.cell 0,b.cell 1,b.cell 2,b.cell 3,b.cell 4,b.cell 5,b.cell 6,b.cell 7,b.cell 8,b.cell 9,b.cell 10,b.cell 11,b.free 0,b.free 1,b.free 2,b.free 3,b.free 4,b.free 5,b.free 6,b.free 7,b.free 8,b.free 9,b.free 10,b.free 11,b.lt⟩
def aput (w:World)(g:Nat)(r1 c1:Int)(A1:Option Addr)(n1 d1:Nat)(r2 c2:Int)(A2:Option Addr)(n2 d2:Nat)(r3 c3:Int)(A3:Option Addr)(n3 d3:Nat)(r4 c4:Int)(A4:Option Addr)(n4 d4:Nat):World:=((((((((((((w.setCell ⟨g,0,none⟩ (.int .i64 r1)).setCell ⟨g,1,none⟩ (.int .i64 c1)).setCell ⟨g,2,none⟩ (.slice A1 n1 d1)).setCell ⟨g,3,none⟩ (.int .i64 r2)).setCell ⟨g,4,none⟩ (.int .i64 c2)).setCell ⟨g,5,none⟩ (.slice A2 n2 d2)).setCell ⟨g,6,none⟩ (.int .i64 r3)).setCell ⟨g,7,none⟩ (.int .i64 c3)).setCell ⟨g,8,none⟩ (.slice A3 n3 d3)).setCell ⟨g,9,none⟩ (.int .i64 r4)).setCell ⟨g,10,none⟩ (.int .i64 c4)).setCell ⟨g,11,none⟩ (.slice A4 n4 d4))
variable {r1 c1 r2 c2 r3 c3 r4 c4:Int}{A1 A2 A3 A4:Option Addr}{n1 d1 n2 d2 n3 d3 n4 d4:Nat}
theorem m_3 (w:World)(g:Nat)(r1 c1:Int)(A1:Option Addr)(n1 d1:Nat)(r2 c2:Int)(A2:Option Addr)(n2 d2:Nat)(r3 c3:Int)(A3:Option Addr)(n3 d3:Nat)(r4 c4:Int)(A4:Option Addr)(n4 d4:Nat):w.grownBy (aput w g r1 c1 A1 n1 d1 r2 c2 A2 n2 d2 r3 c3 A3 n3 d3 r4 c4 A4 n4 d4) (some g):=a_d (q:=⟨g,11,none⟩) (a_d (q:=⟨g,10,none⟩) (a_d (q:=⟨g,9,none⟩) (a_d (q:=⟨g,8,none⟩) (a_d (q:=⟨g,7,none⟩) (a_d (q:=⟨g,6,none⟩) (a_d (q:=⟨g,5,none⟩) (a_d (q:=⟨g,4,none⟩) (a_d (q:=⟨g,3,none⟩) (a_d (q:=⟨g,2,none⟩) (a_d (q:=⟨g,1,none⟩) (a_d (q:=⟨g,0,none⟩) (a_m w (some g)) rfl _) rfl _) rfl _) rfl _) rfl _) rfl _) rfl _) rfl _) rfl _) rfl _) rfl _) rfl _
theorem Bx.ap (b:Bx w g T [u0,u1,u2,u3,u4,u5,u6,u7,u8,u9,u10,u11]):Bx (aput w g r1 c1 A1 n1 d1 r2 c2 A2 n2 d2 r3 c3 A3 n3 d3 r4 c4 A4 n4 d4) g T [.int .i64 r1,.int .i64 c1,.slice A1 n1 d1,.int .i64 r2,.int .i64 c2,.slice A2 n2 d2,.int .i64 r3,.int .i64 c3,.slice A3 n3 d3,.int .i64 r4,.int .i64 c4,.slice A4 n4 d4]:=((((((((((((b.set 0 _).set 1 _).set 2 _).set 3 _).set 4 _).set 5 _).set 6 _).set 7 _).set 8 _).set 9 _).set 10 _).set 11 _)
end
theorem zeroA {w:World}{g:Nat}(h:w.heap[g]? =some (zeroObj 60)):Bx w g 60 [.int .i64 0,.int .i64 0,.slice none 0 0,.int .i64 0,.int .i64 0,.slice none 0 0,.int .i64 0,.int .i64 0,.slice none 0 0,.int .i64 0,.int .i64 0,.slice none 0 0]:=h.trans (congrArg some (by kernel_rfl))
theorem zeroB {w:World}{g:Nat}(h:w.heap[g]? =some (zeroObj 61)):Bx w g 61 [.int .i64 0,.int .i64 0,.slice none 0 0,.int .i64 0,.int .i64 0,.slice none 0 0,.int .i64 0,.int .i64 0,.slice none 0 0,.int .i64 0,.int .i64 0,.slice none 0 0]:=h.trans (congrArg some (by kernel_rfl))
theorem cells_zm:Tryz.prog.cellsOf 27=3:=by kernel_rfl
theorem cells_qm:Tryz.prog.cellsOf 24=3:=by kernel_rfl
theorem opIxM4 {g k:Nat}{X Y:Operand}(h:k<4)(w:World):RunTwo Tryz.prog (.indexAddr 60 X Y) w (.pointer (some ⟨g,0,none⟩)) (.int .i64 (k:Int)) (.pointer (some ⟨g,k*3,none⟩)):=by
 unfold RunTwo;simp[go_sem,Tryz.underlying60,cells_zm];omega
theorem opIxQ4 {g k:Nat}{X Y:Operand}(h:k<4)(w:World):RunTwo Tryz.prog (.indexAddr 61 X Y) w (.pointer (some ⟨g,0,none⟩)) (.int .i64 (k:Int)) (.pointer (some ⟨g,k*3,none⟩)):=by
 unfold RunTwo;simp[go_sem,Tryz.underlying61,cells_qm];omega
section
variable {ops:Array Oper}{Q:Exit->Act->World->Prop}{m i:Nat}{a0:Act}{w0:World}{l:List FK}{b:Bool}{id:Nat}
def b4X (o:Op):Operand × Operand × Operand × Operand:=match o with| .build _ xs=>(match xs.toList with| [(0,x),(1,y),(2,z),(3,u)]=>(x,y,z,u)|_=>(.func 0,.func 0,.func 0,.func 0))|_=>(.func 0,.func 0,.func 0,.func 0)
def b4T (o:Op):TypeId:=match o with| .build T _=>T|_=>0
def okB4 (ops:Array Oper)(m i:Nat)(s1 s2 s3 s4:Src):Bool:=okH ops m i&&(match(opAt ops i).op with| .build _ xs=>(match xs.toList with| [(0,x),(1,y),(2,z),(3,u)]=>s1.ok ops m i x&&s2.ok ops m i y&&s3.ok ops m i z&&s4.ok ops m i u|_=>false)|_=>false)
theorem Run.bd4 (s1 s2 s3 s4:Src){v1 v2 v3 v4 v:Value}(H:∀w,(Instr.build (b4T (opAt ops i).op) #[(0,v1),(1,v2),(2,v3),(3,v4)]).run Tryz.prog w= .ok v w)
  (rest:R ops Q m a0 w0 b id (.k v::l) (i+1)) (h1:s1.K l i a0 (b4X (opAt ops i).op).1= .k v1:=by rfl) (h2:s2.K l i a0 (b4X (opAt ops i).op).2.1= .k v2:=by rfl) (h3:s3.K l i a0 (b4X (opAt ops i).op).2.2.1= .k v3:=by rfl) (h4:s4.K l i a0 (b4X (opAt ops i).op).2.2.2= .k v4:=by rfl)
  (hc:okB4 ops m i s1 s2 s3 s4=true:=by kernel_rfl) (hg:Gd l i (opAt ops i):=by first|exact trivial|exact rfl):R ops Q m a0 w0 b id l i:=by
 unfold okB4 at hc;rw[Bool.and_eq_true]at hc;obtain⟨hh,hq⟩:=hc;refine Run.val (x:=.k v) hh (FK.kne _) hg (fun a w h=>⟨v, ?_,rfl⟩) rest;split at hq
 ·rename_i T xs e;split at hq
  ·rename_i x y z u ex;obtain⟨ys⟩:=xs;simp only at ex;subst ex;simp only[Bool.and_eq_true]at hq;obtain⟨⟨⟨k1,k2⟩,k3⟩,k4⟩:=hq;rw[e]at H h1 h2 h3 h4;have e1:=h.srcK k1 h1;have e2:=h.srcK k2 h2;have e3:=h.srcK k3 h3;have e4:=h.srcK k4 h4;have h5:(Instr.build T #[(0,v1),(1,v2),(2,v3),(3,v4)]).run Tryz.prog w= .ok v w:=H w;unfold execOp;rw[e];simp only[List.map_toArray,List.map_cons,List.map_nil,e1,e2,e3,e4];simp[h5]
  ·cases hq
 ·cases hq
end
end Go.Proofs.YtfhbdlegkdbmfaaGreat
