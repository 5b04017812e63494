/-
  For every input quincunxlaw13.QmatReckons returns true, and each argument reads behind the call as it read before. No condition: every input that the row's form can read.
-/
import Derived.Test.YtfhbdlegkdbmfaaGreatPqLReckons
import Derived.Test.YtfhbdlegkdbmfaaGreatRows
import Derived.WalkKit
import Derived.ProofKit
import Derived.OpenShut
import Derived.ShutString
import Derived.ChangeOld
import Derived.Below
set_option linter.unusedVariables false
set_option linter.unusedSimpArgs false
set_option linter.unusedSectionVars false
set_option maxRecDepth 100000
set_option maxHeartbeats 8000000
namespace Go.Proofs.YtfhbdlegkdbmfaaGreat
namespace qmatReckons
open Go.ChangeShapes Go.WideShapes Go.ChangeAt Go.RowKit
theorem own:ownKnob Tryz.prog.godebug=none:=by kernel_rfl
theorem laidOut:laidOutB Tryz.prog=true:=by kernel_rfl
theorem walk (e0 f0:Int)(a0:Option Addr)(len0 cap0:Nat)(z0:List Zr)(e1 f1:Int)(a1:Option Addr)(len1 cap1:Nat)(z1:List Zr)(s2:Bool)(a2:Option Addr)(len2 cap2:Nat)(z2:List Int)(w:World)(w0:RL w a0 len0 cap0 z0)(w1:RL w a1 len1 cap1 z1)(w2:IsRow .u64 w a2 len2 cap2 z2):
  Calls Tryz.prog 4 #[.agg #[.int .i64 e0,.int .i64 f0,.slice a0 len0 cap0],.agg #[.int .i64 e1,.int .i64 f1,.slice a1 len1 cap1],.agg #[.bool s2,.slice a2 len2 cap2]] w fun e w'=>e= .returned (.bool true)/\Below w.heap.size w w':=by
 obtain⟨x,hx⟩:=w2.nv;refine(k_w w0 w1 (z:=sg s2 x) ⟨x,hx,Lib.hid rfl⟩).mono ?_;rintro e w' ⟨v,rfl,hv,hB⟩;subst hv;exact⟨rfl,hB⟩
theorem lifted (os:Os)(started:os.Started)(H:Type)(enc:TypeId × Value->H):
  ReturnsInHanded {} Tryz.checked os 4 .any (Rows.qmatReckonsSpec.pre6 enc Tryz.prog Tryz.f4 Rows.qmatReckonsRow.domain false) (Rows.qmatReckonsSpec.post enc Tryz.prog Tryz.f4 false true false false):=by
 refine returnsInHanded_of_change (C:=Tryz.checked) own started (by kernel_rfl) Tryz.func4
  (ChangeSpec.witness6 (enc:=enc) (C:=Tryz.checked) false ⟨#[],#[.agg #[.int .i64 0,.int .i64 0,.slice none 0 0],.agg #[.int .i64 0,.int .i64 0,.slice none 0 0],.agg #[.bool false,.slice none 0 0]],[]⟩ 8 (by kernel_rfl) (by kernel_rfl) (by kernel_rfl) (by kernel_rfl)) ?_
 intro W base args ds gs before hval0 hW hcnd _;have hval:∀(j:Nat) t v,Tryz.f4.params[j]? =some t->args[j]? =some v->Value.okWide Tryz.prog W .any base t v:=hval0;have hW':=hW;obtain⟨p,q,hA0,hV,rfl,hfz,hnd⟩:=hW;have hA:DataW.TrodAll enc Tryz.prog W 0 (fun _=>true) true Tryz.f4.params.toList args.toList ds p:=hA0;rw[Tryz.params4]at hA hval;obtain⟨v0,vs0,d0,ds0,p0,q0,hargs,rfl,rfl,h0,r0⟩:=trodAll_cons hA;obtain⟨v1,vs1,d1,ds1,p1,q1,rfl,rfl,rfl,h1,r1⟩:=trodAll_cons r0;obtain⟨v2,vs2,d2,ds2,p2,q2,rfl,rfl,rfl,h2,r2⟩:=trodAll_cons r1;obtain⟨rfl,rfl,rfl⟩:=trodAll_nil r2;obtain rfl:args= #[v0,v1,v2]:=by cases args;simp_all
 obtain⟨rfl,rfl⟩:=trodVars_none hV;have k0:=h0;have lt0:∀x∈p0,x.block<W.heap.size:=by obtain⟨m,hm⟩:=k0;exact DataW.trod_lt m _ _ _ hm
 obtain⟨e0,f0,a0,len0,cap0,z0,rfl,w0⟩:=i_m Tryz.underlying27 (by kernel_rfl) (by kernel_rfl) Tryz.underlying3 Tryz.underlying3 Tryz.underlying25 Tryz.underlying31 (by kernel_rfl) (by kernel_rfl) Tryz.underlying4 Tryz.underlying29 Tryz.underlying85 (by kernel_rfl) (hval 0 27 v0 rfl rfl) h0 lt0;have k1:=h1;have lt1:∀x∈p1,x.block<W.heap.size:=by obtain⟨m,hm⟩:=k1;exact DataW.trod_lt m _ _ _ hm
 obtain⟨e1,f1,a1,len1,cap1,z1,rfl,w1⟩:=i_m Tryz.underlying27 (by kernel_rfl) (by kernel_rfl) Tryz.underlying3 Tryz.underlying3 Tryz.underlying25 Tryz.underlying31 (by kernel_rfl) (by kernel_rfl) Tryz.underlying4 Tryz.underlying29 Tryz.underlying85 (by kernel_rfl) (hval 1 27 v1 rfl rfl) h1 lt1;have k2:=h2;have lt2:∀x∈p2,x.block<W.heap.size:=by obtain⟨m,hm⟩:=k2;exact DataW.trod_lt m _ _ _ hm
 obtain⟨s2,a2,len2,cap2,z2,rfl,w2⟩:=j_w Tryz.underlying31 (by kernel_rfl) (by kernel_rfl) Tryz.underlying4 Tryz.underlying29 Tryz.underlying85 (by kernel_rfl) (hval 2 31 v2 rfl rfl) h2;clear hA0 hval0;refine(walk e0 f0 a0 len0 cap0 z0 e1 f1 a1 len1 cap1 z1 s2 a2 len2 cap2 z2 W w0 w1 w2).mono fun e W' ⟨he,bel⟩=>?_;subst he;exact⟨_,rfl,_,_,_,[],_,[],hW',trodAll_mk1 (shut_bool Tryz.underlying4 _),(trodAll_cons_mk (Below.trod laidOut (by kernel_rfl) (of_decide_eq_true (by kernel_rfl)) k0 bel lt0) (trodAll_cons_mk (Below.trod laidOut (by kernel_rfl) (of_decide_eq_true (by kernel_rfl)) k1 bel lt1) (trodAll_cons_mk (Below.trod laidOut (by kernel_rfl) (of_decide_eq_true (by kernel_rfl)) k2 bel lt2) trodAll_mk0))),rfl,bel.frame _,fun h=>by cases h⟩
theorem over:Rows.qmatReckonsRow.holds Tryz.pinned (OpenSpec.ofChange Rows.qmatReckonsSpec):=
 OpenClaim.holds_of_wide 4 Tryz.f4 rfl rfl rfl rfl rfl rfl rfl ⟨rfl,rfl,rfl,rfl,rfl⟩ rfl rfl rfl rfl rfl (by kernel_rfl) Tryz.func4 (by kernel_rfl)
  (of_decide_eq_true (by kernel_rfl)) (by unfold Func.isWrapper;first|(rw[if_pos (by decide+kernel)];kernel_rfl)|(rw[if_neg (by decide+kernel)];exact⟨rfl,rfl⟩))
  (fun os started H enc _=>lifted os started H enc)
theorem proved:Rows.QmatReckonsSaid:=over
#print axioms proved
end qmatReckons
end Go.Proofs.YtfhbdlegkdbmfaaGreat
