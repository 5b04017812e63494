/- PbX04 -/
import Derived.Test.YtlgjjnmmepgafaaPbX02
set_option linter.unusedVariables false
set_option linter.unusedSimpArgs false
set_option linter.unusedSectionVars false
set_option maxRecDepth 100000
set_option maxHeartbeats 8000000
namespace Go.Proofs.Ytlgjjnmmepgafaa
section
open Go.RowKit
section
variable {q:Bool}{w w':World}{s:Bool}{A:Option Addr}{n c g:Nat}{z:Int}
end
section
variable {q:Bool}{w w':World}{A:Option Addr}{n c k g:Nat}{zs:List Int}
theorem ZL.take {m d:Nat}(h:ZL q w A n c k zs)(hm:m<=n)(hd:m<=d)(hc:d<=9223372036854775807):ZL q w A m d k (zs.take m):=⟨by rw[List.length_take,h.len];omega,hd,hc,fun h0=>by
 obtain⟨ad,rfl,h1,h2⟩:=h.at' (by omega);exact⟨ad,rfl,h1,fun j hj=>by rw[f_p hj];exact h2 j (by omega)⟩⟩
theorem ZL.drop {m d:Nat}{ad:Addr}(h:ZL q w (some ad) n c k zs)(hm:m<=n)(hd:n - m<=d)(hc:d<=9223372036854775807):ZL q w (some (ad.add (m*2))) (n - m) d k (zs.drop m):=⟨by rw[List.length_drop,h.len],hd,hc,fun h0=>by
 obtain⟨ad',e,h1,h2⟩:=h.at' (by omega);cases e;exact⟨_,rfl,by rw[a_a];exact h1,fun j hj=>by rw[f_q,h_w,<-Nat.add_mul];exact h2 (m+j) (by omega)⟩⟩
end
section
variable {w w':World}{g k b:Nat}{zs:List Int}
end
end
section
open Go.RowKit
theorem o_l {A:Option Addr}{n cap l h:Nat}(h1:l<=h)(h2:h<=cap)(w:World):(Instr.sliceAt 22 (.slice A n cap) (some (.int .i64 (l:Int))) (some (.int .i64 (h:Int))) none).run Try.prog w= .ok (.slice (if cap=l then A else A.map (·.add (l*2))) (h - l) (cap - l)) w:=by
 have a1:(0:Int)<=(l:Int):=by omega
 have a2:(l:Int)<=(h:Int):=by omega
 have a4:(h:Int)<=(cap:Int):=by omega
 simp[go_sem,Try.underlying22,zp_cells,h1,h2]
section
variable {ops:Array Oper}{Q:Exit->Act->World->Prop}{m i:Nat}{a0:Act}{w0:World}{l:List FK}{b:Bool}{id:Nat}
def okSl2 (ops:Array Oper)(m i:Nat)(s t u:Src):Bool:=okH ops m i&&(match(opAt ops i).op with| .slice T x (some l) (some h) none=>T==22&&s.ok ops m i x&&t.ok ops m i l&&u.ok ops m i h|_=>false)
theorem Run.sl2 (s t u:Src){A:Option Addr}{n cap x y:Nat}(h1:x<=y)(h2:y<=cap)(rest:R ops Q m a0 w0 b id (.k (.slice (if cap=x then A else A.map (·.add (x*2))) (y - x) (cap - x))::l) (i+1))(hx:srcsK l i a0 (slO (opAt ops i).op) [s,t,u] [.slice A n cap,.int .i64 (x:Int),.int .i64 (y:Int)]:=by exact⟨rfl,rfl,rfl,trivial⟩)(hc:okSl2 ops m i s t u=true:=by kernel_rfl)(hg:Gd l i (opAt ops i):=by first|exact trivial|exact rfl):R ops Q m a0 w0 b id l i:=by
 unfold okSl2 at hc;rw[Bool.and_eq_true]at hc;obtain⟨hh,h4⟩:=hc;refine Run.run (fun a w h=>?_) rest hh hg;split at h4
 ·rename_i T X L H e;simp only[Bool.and_eq_true,beq_iff_eq]at h4;obtain⟨⟨⟨rfl,k1⟩,k2⟩,k3⟩:=h4;rw[e]at hx;obtain⟨e1,e2,e3,-⟩:=hx;unfold execOp;rw[e];simp only[Option.map_some,Option.map_none,h.srcK k1 e1,h.srcK k2 e2,h.srcK k3 e3];simp[o_l h1 h2 w]
 ·cases h4
end
theorem n_q {r c i:Nat}{F:Nat->Nat->Int}(hi:i<r):((mk r c F).drop (i*c)).take c=rw' c (F i):=by
 have hb:i*c+c<=r*c:=by rw[<-Nat.succ_mul];exact Nat.mul_le_mul_right c hi
 apply List.ext_getElem
 ·rw[List.length_take,List.length_drop,a_y,b_p];omega
 ·intro j h1 h2;rw[b_p]at h2;have e:=h_f (F:=F) hi h2;have hlt:i*c+j<(mk r c F).length:=by rw[a_y];exact f_y hi h2
  simp[ith,List.getD,hlt]at e;simp[rw',e]
section
variable {ops:Array Oper}{Q:Exit->Act->World->Prop}{m i:Nat}{a0:Act}{w0:World}{l:List FK}{b:Bool}{id:Nat}
end
end
end Go.Proofs.Ytlgjjnmmepgafaa
section
namespace Go.Proofs.Ytlgjjnmmepgafaa
open Go.RowKit
end Go.Proofs.Ytlgjjnmmepgafaa
namespace Go.Proofs.Ytlgjjnmmepgafaa
open Go.RowKit
theorem run_append_nil {P:Program}(w:World){base:Nat}{t ty e:TypeId}{i:TypeInfo}{size:Nat}(ht:P.underlying t=some (.slice e))(hi:P.info? e=some i)
  {v:Value} {n:Nat} {xs:List Value} (hown:w.ownsRow base e size v n xs) (c:Nat):(Builtin.append_ #[t,t] ty #[v,.slice none 0 c]).run P w= .ok v w:=by
 rcases hown.2 with⟨rfl,rfl⟩|⟨g,cap,cur,rfl,_,_,hnc,_⟩
 ·simp[Builtin.append_,run_underlying ht,sizeOf,typeInfo,hi,Builtin.lenOf,Builtin.firstCells]
 ·simp[Builtin.append_,run_underlying ht,sizeOf,typeInfo,hi,Builtin.lenOf,Builtin.firstCells,hnc,storeCells]
end Go.Proofs.Ytlgjjnmmepgafaa
namespace Go.Proofs.Ytlgjjnmmepgafaa
open Go.RowKit
end Go.Proofs.Ytlgjjnmmepgafaa
namespace Go.Proofs.Ytlgjjnmmepgafaa
open Go.RowKit
end Go.Proofs.Ytlgjjnmmepgafaa
end
