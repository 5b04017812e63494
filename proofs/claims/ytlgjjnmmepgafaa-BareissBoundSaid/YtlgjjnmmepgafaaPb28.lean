/- Pb28 -/
import Derived.Test.YtlgjjnmmepgafaaPb10
set_option linter.unusedVariables false
set_option linter.unusedSimpArgs false
set_option linter.unusedSectionVars false
set_option maxRecDepth 100000
set_option maxHeartbeats 8000000
namespace Go.Proofs.Ytlgjjnmmepgafaa
open Go.RowKit
section
variable {P:Program}{ops:Array Oper}{Q:Exit->Act->World->Prop}{m i:Nat}{a0 a:Act}{w0 w:World}{l:List FK}{b:Bool}{id:Nat}
theorem m_p {fl:List Nat}(hm:m<=ops.size)(hl:l.length=m)(h:AllK Try.prog ops Q m a0 w0 l)(hfl:∀i,fl.contains i=true->i<m->FloatAt Try.prog ops m a0 w0 (fsOf l.reverse) i (opAt ops i)):∀(n i:Nat),n+i=m->HopAll Try.prog ops Q fl m a0 w0 (fsOf l.reverse) i ((ops.toList.take m).drop i)/\okL ((ops.toList.take m).drop i) (l.reverse.drop i):=by
 intro n;induction n with
 |zero=>
  intro i hi;rw[List.drop_of_length_le (by rw[List.length_take,Array.length_toList];omega),List.drop_of_length_le (by rw[List.length_reverse];omega)];exact⟨trivial,trivial⟩
 |succ n ih=>
  intro i hi;have hin:i<(ops.toList.take m).length:=by rw[List.length_take,Array.length_toList];omega
  have hil:i<l.reverse.length:=by rw[List.length_reverse];omega
  obtain⟨h1,h2⟩:=ih (i+1) (by omega);have hsz:i<ops.size:=by omega
  have ho:(ops.toList.take m)[i]=opAt ops i:=by rw[h_9 hsz];simp
  have hx:nthK l.reverse i=l.reverse[i]:=by
   have:∀(l:List FK) (i:Nat) (h:i<l.length),nthK l i=l[i]:=by
    intro l;induction l with
    |nil=>intro i h;simp at h
    |cons x l ih=>intro i h;cases i with
     |zero=>rfl
     |succ i=>simp only[nthK,List.getElem_cons_succ];exact ih i (by simpa using h)
   exact this l.reverse i hil
  obtain⟨l',hlk,hi2⟩:=allK_at l h i (by omega);rw[List.drop_eq_getElem_cons hin,List.drop_eq_getElem_cons hil,ho];rw[hx]at hi2;have hop:∀x:FK,nthK l.reverse i=x->HopK Try.prog ops Q m a0 w0 l' i x->HopAt Try.prog ops Q m a0 w0 (fsOf l.reverse) i (opAt ops i):=fun x ex hk a w hB ho' hp K hK=>
   hk a w ⟨hB,ho',fun k d hkk hd=>by
    have hkk0:=hkk;unfold inPre at hkk;simp only[Bool.and_eq_true,decide_eq_true_iff]at hkk;rw[hlk k hkk.1.1.1,<-nthF_of];exact hp k d (by simp only[Bool.and_eq_true,decide_eq_true_iff];exact⟨⟨⟨hkk.1.1.2,by rw[hd];simp⟩,hkk.1.2⟩,hkk.2⟩)⟩ K (fun v w' hv hb=>hK v w' (by rw[nthF_of,ex];exact hv) hb)
  cases ex:l.reverse[i]with
  |a T=>rw[ex]at hi2;exact⟨HopAll.al (by rw[hi2];rfl) h1,hi2,h2⟩
  |k v=>rw[ex]at hi2;exact⟨by
    cases ec:fl.contains i
    ·exact HopAll.cons ec (hop _ (hx.trans ex) hi2.2) h1
    ·exact HopAll.fl ec (hfl i ec (by omega)) h1,hi2.1,h2⟩
  |f F hF=>rw[ex]at hi2;exact⟨by
    cases ec:fl.contains i
    ·exact HopAll.cons ec (hop _ (hx.trans ex) hi2.2) h1
    ·exact HopAll.fl ec (hfl i ec (by omega)) h1,hi2.1,h2⟩
noncomputable def okQf (ops:Array Oper)(fl:List Nat)(m size:Nat):Bool:=regionOk ops fl m size&&((allocTs ops m).all okZ&&allocGuards ops m)
def okFl (ops:Array Oper)(m i k j:Nat):Bool:=(match(opAt ops i).op with| .extract (.tmp t) j'=>j'==j&&(predsOf ops i).contains k&&slotOf ops k==some t&&((ops[k]?).bind isAlloc).isNone&&decide (k<m)|_=>false)&&(opAt ops i).guard.isNone
theorem m_t {Fs:List FVal}{k j:Nat}{F F':FVal}{v:Value}(hok:okFl ops m i k j=true)(hk:nthF Fs k=F)(hi:nthF Fs i=F')(hF:∀u w,F u w->∃vs:Array Value,u= .tuple vs/\vs[j]? =some v)(hF':∀w,F' v w):FloatAt Try.prog ops m a0 w0 Fs i (opAt ops i):=fun a w hB ho hp=>by
 unfold okFl at hok;rw[Bool.and_eq_true]at hok;obtain⟨h1,h2⟩:=hok;split at h1
 ·rename_i t j' e;simp only[Bool.and_eq_true,beq_iff_eq]at h1;obtain⟨⟨⟨⟨rfl,h3⟩,h4⟩,h5⟩,h6⟩:=h1;have hv:=hp k t (by simp only[Bool.and_eq_true,beq_iff_eq];exact⟨⟨⟨h3,h4⟩,h5⟩,h6⟩);rw[hk]at hv;obtain⟨vs,eu,ev⟩:=hF _ _ hv;refine⟨v,by rw[hi];exact hF' _, ?_⟩;refine .inl ⟨b_4 (Option.isNone_iff_eq_none.1 h2),fun w'=>?_⟩;unfold execOp;rw[e];simp only[eu];simp[go_sem,ev]
 ·cases h1
def okFm (ops:Array Oper)(m i:Nat):Bool:=(match(opAt ops i).op with| .move (.tmp t)=>(List.range m).all fun k=>slotOf ops k != some t|_=>false)&&(opAt ops i).guard.isNone
theorem m_s {Fs:List FVal}{v:Value}(hok:okFm ops m i=true)(hi:nthF Fs i=IsK v)(hv:a0.eval (mvX ops i)=v):FloatAt Try.prog ops m a0 w0 Fs i (opAt ops i):=fun a w hB ho hp=>by
 unfold okFm at hok;unfold mvX at hv;rw[Bool.and_eq_true]at hok;obtain⟨h1,h2⟩:=hok;split at h1
 ·rename_i t e;rw[e]at hv;refine⟨v,by rw[hi];rfl,.inl ⟨b_4 (Option.isNone_iff_eq_none.1 h2),fun w'=>?_⟩⟩;unfold execOp;rw[e];have h3:=(ho t h1).trans hv;simp only[h3];rfl
 ·cases h1
theorem n_v {Fs:List FVal}{j:Nat}(h:FloatAt Try.prog ops m a0 w0 Fs j (opAt ops j)):∀i,[j].contains i=true->i<m->FloatAt Try.prog ops m a0 w0 Fs i (opAt ops i):=fun i hi _=>by
 have e:i=j:=by simpa using hi
 subst e;exact h
theorem Run.donef (fl:List Nat)(ds:List (Option Nat))(hfl:∀i,fl.contains i=true->i<m->FloatAt Try.prog ops m a0 w0 (fsOf l.reverse) i (opAt ops i))(hend:∀w,Below w0.heap.size w0 w->EndQ ops Q m w0 w [] l.reverse ds a0)(hok:okQf ops fl m a0.tmps.size=true:=by kernel_rfl)(hds:(ops.toList.take m).map (·.dst)=ds:=by rfl)(hi:i=m:=by rfl)(hQ:∀c a d v w,Q (.panic c) (a.put d v) w->Q (.panic c) a w:=by(intro _ _ d _ _ h;cases d<;>exact h)):R ops Q m a0 w0 true id l i:=fun hl hall=>by
 unfold okQf at hok;simp only[Bool.and_eq_true]at hok;subst hi;have h:=m_p (fl:=fl) (b_6 hok.1).1 hl hall hfl i 0 rfl;exact region8 fl i (fsOf l.reverse) hQ hok.1 hok.2.1 hok.2.2 (fsOf_stay l.reverse) h.1 (fun w hw=>d_q _ l.reverse l.reverse [] 0 a0 h.2 (fun j _=>by rw[Nat.zero_add]) (by rw[hds];exact hend w hw))
end
theorem r_f {w:World}{g g':Nat}{T T':TypeId}{cs cs':Array Value}{x x':Nat × Nat}(h:w.heap[g]? =some (.cells cs T x))(h':w.heap[g']? =some (.cells cs' T' x'))(hT:T≠T'):g≠g':=fun e=>by
 subst e;rw[h]at h';injection h' with h1
 injection h1 with _ h2
 exact hT h2
section
variable {a:Act}{w:World}{o:Oper}
end
end Go.Proofs.Ytlgjjnmmepgafaa
