/- Pb04 -/
import Derived.Test.YtlgjjnmmepgafaaPb03
import Derived.Test.YtlgjjnmmepgafaaRows
set_option linter.unusedVariables false
set_option linter.unusedSimpArgs false
set_option linter.unusedSectionVars false
set_option maxRecDepth 100000
set_option maxHeartbeats 8000000
namespace Go.Proofs.Ytlgjjnmmepgafaa
open Go.RowKit
noncomputable def zeroObj (T:TypeId):Obj:=.cells (match(Try.prog.info? T).bind (·.zero)with|some v=>v.cells|none=>#[]) T
noncomputable def okZ (T:TypeId):Bool:=((Try.prog.info? T).bind (·.zero)).isSome
theorem e_z {T:TypeId}(h:okZ T=true)(w:World):(Instr.alloc T true (.tuple #[])).run Try.prog w= .ok (.pointer (some ⟨w.heap.size,0,none⟩)) (w.alloc (zeroObj T)):=by
 unfold okZ at h;obtain⟨v,hv⟩:=Option.isSome_iff_exists.1 h;obtain⟨i,hi,hz⟩:=Option.bind_eq_some_iff.1 hv;have e:zeroObj T= .cells v.cells T:=by unfold zeroObj;rw[hv]
 rw[e];have e1:(typeInfo T).run Try.prog w= .ok i w:=by simp[typeInfo,go_sem,hi]
 simp[Instr.alloc,zeroValue,go_sem,e1,hz,newVar]
theorem zba (w:World)(o:Obj):Below w.heap.size w (w.alloc o):=(Below.refl _ _).alloc (Nat.le_refl _) o
theorem zba2 (w:World)(o p:Obj):Below w.heap.size w ((w.alloc o).alloc p):=(zba w o).alloc (by simp) p
theorem zba3 (w:World)(o p q:Obj):Below w.heap.size w (((w.alloc o).alloc p).alloc q):=(zba2 w o p).alloc (by simp;omega) q
theorem zup {a b c:World}(h:Below a.heap.size a b)(k:Below b.heap.size b c):Below a.heap.size a c:=h.trans (k.mono h.size)
def IsK (u:Value):FVal:=fun v _=>v=u
theorem q_w (u:Value):Stays (IsK u):=fun v w w' h hb=>h
theorem ent7 {f:FuncId}(h:(match Try.prog.funcs[f]? with|some fn=> !(fn.name== "runtime.NumGoroutine")&&fn.body.isSome|none=>false)=true)(args:Array Value)(w:World):(callFunc f args).run Try.prog w= .ok (.enter f args) w:=by
 cases hf:Try.prog.funcs[f]? with
 |none=>rw[hf]at h;cases h
 |some fn=>
  rw[hf]at h;simp only[Bool.and_eq_true,Bool.not_eq_true']at h;obtain⟨h1,h2⟩:=h;have h3:fn.name≠ "runtime.NumGoroutine" :=by simpa using h1
  obtain⟨c,hc⟩:=Option.isSome_iff_exists.1 h2;simp[callFunc,hf,h3,hc,mark]
theorem e_v {ops:Array Oper}{o:Oper}{a:Act}{j d:Nat}{b:Bool}(hg:o.guard=some (j,b))(hd:slotOf ops j=some d)(h:a.eval (.tmp d)=undef):Region.wanted o (yielded ops a.tmps)=false:=by
 have hy:yielded ops a.tmps j=none:=by
  unfold slotOf at hd;unfold yielded;rw[hd,Option.bind_some];unfold Act.eval at h;simp only[Array.getD_eq_getD_getElem?]at h;cases hx:a.tmps[d]? with
  |none=>rfl
  |some v=>rw[hx]at h;simp at h;subst h;rfl
 unfold Region.wanted;rw[hg];simp[hy]
theorem region8 {ops:Array Oper}{Q:Exit->Act->World->Prop}{id:Nat}{a0:Act}{w0:World}(fl:List Nat)(m:Nat)(Fs:List FVal)(hQ:∀c a d v w,Q (.panic c) (a.put d v) w->Q (.panic c) a w)
  (hok:regionOk ops fl m a0.tmps.size=true) (hzl:(allocTs ops m).all okZ=true)
  (hg:(List.range m).all (fun k=>((ops[k]?).bind isAlloc).isNone || ((ops[k]?).map (·.guard))==some none)=true)
  (hs:StayAll Fs) (hops:HopAll Try.prog ops Q fl m a0 w0 Fs 0 (ops.toList.take m))
  (hend:∀w,Below w0.heap.size w0 w->EndAll Try.prog ops Q m w0 zeroObj Fs w [] 0 (ops.toList.take m) a0):(Code.region id ops true).wp Try.prog Q a0 w0:=
 f_c fl m Fs zeroObj (by kernel_rfl) hQ hok okZ hzl (fun T h w=>e_z h w) hg hs hops hend
end Go.Proofs.Ytlgjjnmmepgafaa
