/-
  For every input quincunxlaw14.HnfCoordinates returns true, and each argument reads behind the call as it read before. No condition: every input that the row's form can read.
-/
import Derived.Test.YtfhbdlegkdbmfaaGreatPcLCoord
import Derived.Test.YtfhbdlegkdbmfaaGreatRows
import Derived.WalkKit
import Derived.ProofKit
import Derived.OpenShut
import Derived.ShutString
import Derived.ChangeOld
import Derived.Below
import Derived.JoinedCond
set_option linter.unusedVariables false
set_option linter.unusedSimpArgs false
set_option linter.unusedSectionVars false
set_option maxRecDepth 100000
set_option maxHeartbeats 8000000
namespace Go.Proofs.YtfhbdlegkdbmfaaGreat
namespace hnfCoordinates
open Go.ChangeShapes Go.WideShapes Go.ChangeAt Go.RowKit
theorem own:ownKnob Tryz.prog.godebug=none:=by kernel_rfl
theorem laidOut:laidOutB Tryz.prog=true:=by kernel_rfl
theorem walk (e0 f0:Int)(a0:Option Addr)(len0 cap0:Nat)(z0:List Zr)(a1:Option Addr)(len1 cap1:Nat)(z1:List Zr)(a2:Option Addr)(len2 cap2:Nat)(z2:List Zr)(kv:Nat)(w:World)(w0:RL w a0 len0 cap0 z0)(w1:RL w a1 len1 cap1 z1)(w2:RL w a2 len2 cap2 z2)(hb:∀j,j<len2->(z2.getD j nzr).n<=kv)(hk:kv<=1048576):
  Calls Tryz.prog 5 #[.agg #[.int .i64 e0,.int .i64 f0,.slice a0 len0 cap0],.slice a1 len1 cap1,.slice a2 len2 cap2] w fun e w'=>e= .returned (.bool true)/\Below w.heap.size w w':=by
 refine(n_h w0 w1 w2 hb hk).mono ?_;rintro e w' ⟨v,rfl,hv,hB⟩;subst hv;exact⟨rfl,hB⟩
theorem contract (H:Type)(enc:TypeId × Value->H)(W:World)(base:Nat)(args:Array Value)(ds gs:List (DataW H))(before:List MemPlace)
  (hval:∀(j:Nat) t v,Tryz.f5.params[j]? =some t->args[j]? =some v->Value.okWide Tryz.prog W .any base t v)
  (hW:DataW.Whole enc Tryz.prog Tryz.f5.params.toList Rows.hnfCoordinatesSpec.vars false W args.toList ds gs before) (hk:Rows.uptoSmall H (ds++gs)=true):
  Calls Tryz.prog 5 args W fun e W'=>∃v,e= .returned v/\Rows.hnfCoordinatesSpec.post enc Tryz.prog Tryz.f5 false true false false W args v W':=by
 have hW':=hW;obtain⟨p,q,hA0,hV,rfl,hfz,hnd⟩:=hW;have hA:DataW.TrodAll enc Tryz.prog W 0 (fun _=>true) true Tryz.f5.params.toList args.toList ds p:=hA0;rw[Tryz.params5]at hA hval;obtain⟨v0,vs0,d0,ds0,p0,q0,hargs,rfl,rfl,h0,r0⟩:=trodAll_cons hA;obtain⟨v1,vs1,d1,ds1,p1,q1,rfl,rfl,rfl,h1,r1⟩:=trodAll_cons r0;obtain⟨v2,vs2,d2,ds2,p2,q2,rfl,rfl,rfl,h2,r2⟩:=trodAll_cons r1;obtain⟨rfl,rfl,rfl⟩:=trodAll_nil r2;obtain rfl:args= #[v0,v1,v2]:=by cases args;simp_all
 obtain⟨rfl,rfl⟩:=trodVars_none hV;have k0:=h0;have lt0:∀x∈p0,x.block<W.heap.size:=by obtain⟨m,hm⟩:=k0;exact DataW.trod_lt m _ _ _ hm
 obtain⟨e0,f0,a0,len0,cap0,z0,rfl,w0⟩:=m_p Tryz.underlying27 (by kernel_rfl) (by kernel_rfl) Tryz.underlying3 Tryz.underlying3 Tryz.underlying25 Tryz.underlying31 (by kernel_rfl) (by kernel_rfl) Tryz.underlying4 Tryz.underlying29 Tryz.underlying85 (by kernel_rfl) (hval 0 27 v0 rfl rfl) h0 lt0;have k1:=h1;have lt1:∀x∈p1,x.block<W.heap.size:=by obtain⟨m,hm⟩:=k1;exact DataW.trod_lt m _ _ _ hm
 obtain⟨a1,len1,cap1,rfl⟩:=okWide_slice Tryz.underlying25 (hval 1 25 v1 rfl rfl);obtain⟨z1,w1⟩:=k_q Tryz.underlying25 Tryz.underlying31 (by kernel_rfl) (by kernel_rfl) Tryz.underlying4 Tryz.underlying29 Tryz.underlying85 (by kernel_rfl) h1 lt1;have k2:=h2;have lt2:∀x∈p2,x.block<W.heap.size:=by obtain⟨m,hm⟩:=k2;exact DataW.trod_lt m _ _ _ hm
 obtain⟨a2,len2,cap2,rfl⟩:=okWide_slice Tryz.underlying25 (hval 2 25 v2 rfl rfl);obtain⟨z2,w2,b2⟩:=m_o Tryz.underlying25 Tryz.underlying31 (by kernel_rfl) (by kernel_rfl) Tryz.underlying4 Tryz.underlying29 Tryz.underlying85 (by kernel_rfl) h2 lt2;clear hA0;simp only[List.append_nil]at hW' hk;have hb:Rows.uptoBulkAll [d0,d1,d2]<=1048576:=of_decide_eq_true hk;simp only[Rows.uptoBulkAll]at hb;refine(walk e0 f0 a0 len0 cap0 z0 a1 len1 cap1 z1 a2 len2 cap2 z2 (Rows.uptoBulk d2) W w0 w1 w2 b2 (by omega)).mono fun e W' ⟨he,bel⟩=>?_;subst he;exact⟨_,rfl,_,_,_,[],_,[],hW',trodAll_mk1 (shut_bool Tryz.underlying4 _),(trodAll_cons_mk (Below.trod laidOut (by kernel_rfl) (of_decide_eq_true (by kernel_rfl)) k0 bel lt0) (trodAll_cons_mk (Below.trod laidOut (by kernel_rfl) (of_decide_eq_true (by kernel_rfl)) k1 bel lt1) (trodAll_cons_mk (Below.trod laidOut (by kernel_rfl) (of_decide_eq_true (by kernel_rfl)) k2 bel lt2) trodAll_mk0))),rfl,bel.frame _,fun h=>by cases h⟩
theorem lifted (os:Os)(started:os.Started)(H:Type)(enc:TypeId × Value->H)(F:Stop.Interp):
  ReturnsInHanded {} Tryz.checked os 5 .any ((Rows.OpenSpec.upto Rows.hnfCoordinatesSpec).pre6 enc Tryz.prog Tryz.f5 Rows.hnfCoordinatesUptoRow.domain false) (((Rows.OpenSpec.upto Rows.hnfCoordinatesSpec).at F).post enc Tryz.prog Tryz.f5 false true false false):=by
 refine returnsInHanded_of_cond (C:=Tryz.checked) (s:=Rows.OpenSpec.upto Rows.hnfCoordinatesSpec) (k:=Rows.uptoSmall) rfl own started (by kernel_rfl) Tryz.func5
  (OpenSpec.witness (enc:=enc) (C:=Tryz.checked) (s:=Rows.OpenSpec.upto Rows.hnfCoordinatesSpec) (k:=Rows.uptoSmall) rfl false ⟨#[],#[.agg #[.int .i64 0,.int .i64 0,.slice none 0 0],.slice none 0 0,.slice none 0 0],[]⟩ 8 (by kernel_rfl) (by kernel_rfl) (by kernel_rfl)
   (x:=([.agg [.lit (.int .i64 0),.lit (.int .i64 0),.nil],.nil,.nil],[],[])) (by kernel_rfl) rfl (by kernel_rfl)) ?_
 intro W base args ds gs before hval hW _ hk _;exact contract H enc W base args ds gs before hval hW hk
theorem over:Rows.hnfCoordinatesUptoRow.holds Tryz.pinned (Rows.OpenSpec.upto Rows.hnfCoordinatesSpec):=
 OpenClaim.holds_of_cond 5 Tryz.f5 rfl rfl rfl rfl rfl rfl rfl ⟨rfl,rfl,rfl,rfl,rfl⟩ rfl rfl rfl rfl rfl (by kernel_rfl) Tryz.func5 (by kernel_rfl)
  (of_decide_eq_true (by kernel_rfl)) (by unfold Func.isWrapper;first|(rw[if_pos (by decide+kernel)];kernel_rfl)|(rw[if_neg (by decide+kernel)];exact⟨rfl,rfl⟩))
  (fun os started H enc _ F=>lifted os started H enc F)
theorem proved:Rows.HnfCoordinatesUptoSaid:=over
#print axioms proved
end hnfCoordinates
end Go.Proofs.YtfhbdlegkdbmfaaGreat
