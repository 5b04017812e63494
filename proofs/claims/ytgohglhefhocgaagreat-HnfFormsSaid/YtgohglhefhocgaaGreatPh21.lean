/- Ph21 -/
import Derived.Test.YtgohglhefhocgaaGreatPh08
set_option linter.unusedVariables false
set_option linter.unusedSimpArgs false
set_option linter.unusedSectionVars false
set_option maxRecDepth 100000
set_option maxHeartbeats 8000000
namespace Go.Proofs.YtgohglhefhocgaaGreat
section
open Go.RowKit
section
variable {P:Program}{ops:Array Oper}{Q:Exit→Act→World→Prop}{m i:Nat}{a0 a:Act}{w0 w:World}{l:List FK}{b:Bool}{id:Nat}
theorem o_j {fl:List Nat}(hm:m≤ops.size)(hl:l.length=m)(h:AllK Tryz.prog ops Q m a0 w0 l)(hfl:∀i,fl.contains i=true→i<m→FloatAt Tryz.prog ops m a0 w0 (fsOf l.reverse) i (opAt ops i)):∀(n i:Nat),n+i=m→HopAll Tryz.prog ops Q fl m a0 w0 (fsOf l.reverse) i ((ops.toList.take m).drop i)∧okL ((ops.toList.take m).drop i) (l.reverse.drop i):=by
 intro n;induction n with
 |zero=>
  intro i hi;rw[List.drop_of_length_le (by rw[List.length_take,Array.length_toList];omega),List.drop_of_length_le (by rw[List.length_reverse];omega)];exact⟨trivial,trivial⟩
 |succ n ih=>
  intro i hi;have hin:i<(ops.toList.take m).length:=by rw[List.length_take,Array.length_toList];omega
  have hil:i<l.reverse.length:=by rw[List.length_reverse];omega
  obtain⟨h1,h2⟩:=ih (i+1) (by omega);have hsz:i<ops.size:=by omega
  have ho:(ops.toList.take m)[i]=opAt ops i:=by rw[e_a hsz];simp
  have hx:nthK l.reverse i=l.reverse[i]:=by
   have:∀(l:List FK) (i:Nat) (h:i<l.length),nthK l i=l[i]:=by
    intro l;induction l with
    |nil=>intro i h;simp at h
    |cons x l ih=>intro i h;cases i with
     |zero=>rfl
     |succ i=>simp only[nthK,List.getElem_cons_succ];exact ih i (by simpa using h)
   exact this l.reverse i hil
  obtain⟨l',hlk,hi2⟩:=allK_at l h i (by omega);rw[List.drop_eq_getElem_cons hin,List.drop_eq_getElem_cons hil,ho];rw[hx]at hi2;have hop:∀x:FK,nthK l.reverse i=x→HopK Tryz.prog ops Q m a0 w0 l' i x→HopAt Tryz.prog ops Q m a0 w0 (fsOf l.reverse) i (opAt ops i):=fun x ex hk a w hB ho' hp K hK=>
   hk a w ⟨hB,ho',fun k d hkk hd=>by
    have hkk0:=hkk;unfold inPre at hkk;simp only[Bool.and_eq_true,decide_eq_true_iff]at hkk;rw[hlk k hkk.1.1.1,←nthF_of];exact hp k d (by simp only[Bool.and_eq_true,decide_eq_true_iff];exact⟨⟨⟨hkk.1.1.2,by rw[hd];simp⟩,hkk.1.2⟩,hkk.2⟩)⟩ K (fun v w' hv hb=>hK v w' (by rw[nthF_of,ex];exact hv) hb)
  cases ex:l.reverse[i]with
  |a T=>rw[ex]at hi2;exact⟨HopAll.al (by rw[hi2];rfl) h1,hi2,h2⟩
  |k v=>rw[ex]at hi2;exact⟨by
    cases ec:fl.contains i
    ·exact HopAll.cons ec (hop _ (hx.trans ex) hi2.2) h1
    ·exact HopAll.fl ec (hfl i ec (by omega)) h1,hi2.1,h2⟩
  |f F hF=>rw[ex]at hi2;exact⟨by
    cases ec:fl.contains i
    ·exact HopAll.cons ec (hop _ (hx.trans ex) hi2.2) h1
    ·exact HopAll.fl ec (hfl i ec (by omega)) h1,hi2.1,h2⟩
noncomputable def okQf (ops:Array Oper)(fl:List Nat)(m size:Nat):Bool:=regionOk ops fl m size&&((allocTs ops m).all okZ&&allocGuards ops m)
def okFl (ops:Array Oper)(m i k j:Nat):Bool:=(match(opAt ops i).op with| .extract (.tmp t) j'=>j'==j&&(predsOf ops i).contains k&&slotOf ops k==some t&&((ops[k]?).bind isAlloc).isNone&&decide (k<m)|_=>false)&&(opAt ops i).guard.isNone
theorem j_j {Fs:List FVal}{j:Nat}(h:FloatAt Tryz.prog ops m a0 w0 Fs j (opAt ops j)):∀i,[j].contains i=true→i<m→FloatAt Tryz.prog ops m a0 w0 Fs i (opAt ops i):=fun i hi _=>by
 have e:i=j:=by simpa using hi
 subst e;exact h
theorem Run.donef (fl:List Nat)(ds:List (Option Nat))(hfl:∀i,fl.contains i=true→i<m→FloatAt Tryz.prog ops m a0 w0 (fsOf l.reverse) i (opAt ops i))(hend:∀w,Below w0.heap.size w0 w→EndQ ops Q m w0 w [] l.reverse ds a0)(hok:okQf ops fl m a0.tmps.size=true:=by kernel_rfl)(hds:(ops.toList.take m).map (·.dst)=ds:=by rfl)(hi:i=m:=by rfl)(hQ:∀c a d v w,Q (.panic c) (a.put d v) w→Q (.panic c) a w:=by(intro _ _ d _ _ h;cases d<;>exact h)):R ops Q m a0 w0 true id l i:=fun hl hall=>by
 unfold okQf at hok;simp only[Bool.and_eq_true]at hok;subst hi;have h:=o_j (fl:=fl) (b_n hok.1).1 hl hall hfl i 0 rfl;exact region8 fl i (fsOf l.reverse) hQ hok.1 hok.2.1 hok.2.2 (fsOf_stay l.reverse) h.1 (fun w hw=>c_2 _ l.reverse l.reverse [] 0 a0 h.2 (fun j _=>by rw[Nat.zero_add]) (by rw[hds];exact hend w hw))
end
theorem s_2 {w:World}{g g':Nat}{T T':TypeId}{cs cs':Array Value}{x x':Nat × Nat}(h:w.heap[g]? =some (.cells cs T x))(h':w.heap[g']? =some (.cells cs' T' x'))(hT:T≠T'):g≠g':=fun e=>by
 subst e;rw[h]at h';injection h' with h1
 injection h1 with _ h2
 exact hT h2
section
variable {a:Act}{w:World}{o:Oper}
theorem n_l {T:TypeId}{x:Operand}{p v:Value}(ho:o.op= .load T x)(hx:a.eval x=p)(hr:(Instr.loadAt T p).run Tryz.prog w= .ok v w):(execOp a.eval o).run Tryz.prog w= .ok (.value v) w:=by
 unfold execOp;rw[ho];simp only[hx];simp[hr]
theorem i_4 {x:Operand}{v:Value}(ho:o.op= .move x)(hx:a.eval x=v):(execOp a.eval o).run Tryz.prog w= .ok (.value v) w:=by
 unfold execOp;rw[ho];simp[hx]
theorem n_m {T:TypeId}{x y:Operand}{u v r:Value}(ho:o.op= .indexAddr T x y)(hx:a.eval x=u)(hy:a.eval y=v)(hr:(Instr.indexAt T u v).run Tryz.prog w= .ok r w):(execOp a.eval o).run Tryz.prog w= .ok (.value r) w:=by
 unfold execOp;rw[ho];simp only[hx,hy];simp[hr]
end
def noP (Q:Exit→Act→World→Prop):Exit→Act→World→Prop
 | .panic _,_,_=>False
 | .outgrown,_,_=>False
 |e,a,w=>Q e a w
theorem q_q {P:Program}{c:Code}{Q:Exit→Act→World→Prop}{a:Act}{w:World}(h:c.wp P (noP Q) a w):c.wp P Q a w:=wp_mono h fun e a w h=>by
 cases e<;>first|exact h|exact h.elim
theorem t_9 {Q:Exit→Act→World→Prop}{a:Act}{w:World}(h:Q .normal a w):noP Q .normal a w:=h
end
section
open Go.RowKit
section
variable {P:Program}{ops:Array Oper}{Q:Exit→Act→World→Prop}
def LateS (St:World→Nat→Value→World)(P:Program)(ops:Array Oper)(m:Nat)(a0:Act)(w0:World)(Fs:List FVal)(i:Nat)(o:Oper):Prop:=
 ∀(a:Act) (w:World),Below w0.heap.size w0 w→(∀t,(List.range m).all (fun k=>slotOf ops k != some t)=true→a.eval (.tmp t)=a0.eval (.tmp t))→
  (∀k d,((predsOf ops i).contains k&&slotOf ops k==some d&&((ops[k]?).bind isAlloc).isNone&&decide (k<m))=true→nthF Fs k (a.eval (.tmp d)) w)→
  ∃(x:Value) (w':World),nthF Fs i x w'∧Below w.heap.size w w'∧∀g v,w0.heap.size≤g→g<w.heap.size→(execOp a.eval o).run P (St w g v)= .ok (.value x) (St w' g v)
theorem c_z (listed:Array Bool){i k:Nat}(h:k≠i):(listed.setIfInBounds i true).getD k false=listed.getD k false:=by
 simp[Array.getD_eq_getD_getElem?,Array.getElem?_setIfInBounds,Ne.symm h]
theorem k_n {St:World→Nat→Value→World}{a0:Act}{w0:World}(fl:List Nat)(m:Nat)(Fs:List FVal)(Z:TypeId→Obj)
  (hQ:∀c a d v w,Q (.panic c) (a.put d v) w→Q (.panic c) a w)
  (hok:regionOk ops fl m a0.tmps.size=true)
  (ok:TypeId→Bool) (hzl:(allocTs ops m).all ok=true) (hz:∀T,ok T=true→∀w:World,(Instr.alloc T true (.tuple #[])).run P w= .ok (.pointer (some ⟨w.heap.size,0,none⟩)) (w.alloc (Z T)))
  (hg:(List.range m).all (fun k=>((ops[k]?).bind isAlloc).isNone || ((ops[k]?).map (·.guard))==some none)=true)
  (hs:StayAll Fs) (hops:HopAll P ops Q [] m a0 w0 Fs 0 (ops.toList.take m))
  (hcv:∀i,m<i→i<ops.size→covers ops [] i=true)
  (late:∀i o,i∈fl→ops[i]? =some o→o.guard=none∧LateS St P ops m a0 w0 Fs i o)
  {ka ke d e:Nat} {om:Oper} {Ta:TypeId} (hom:ops[m]? =some om) (hog:om.guard=none) (hod0:om.dst=none) (hna:¬LetsOut Q) (hka:ka<m) (hke:ke<m) (hska:slotOf ops ka=some d) (hske:slotOf ops ke=some e) (hpa:ka∈predsOf ops m) (hpe:ke∈predsOf ops m) (haA:(ops[ka]?).bind isAlloc=some Ta) (heA:(ops[ke]?).bind isAlloc=none)
  (hst:∀(a:Act) (w:World) (g:Nat),a.eval (.tmp d)= .pointer (some ⟨g,0,none⟩)→w.heap[g]? =some (Z Ta)→nthF Fs ke (a.eval (.tmp e)) w→(execOp a.eval om).run P w= .ok .skip (St w g (a.eval (.tmp e))))
  (hend:∀w,Below w0.heap.size w0 w→EndAll P ops Q m w0 Z Fs w [] 0 (ops.toList.take m) a0):
  wpAny P .any ops Q ops.size (Array.replicate ops.size false) a0 { w0 with drawn:=w0.drawn+1 }:=by
 obtain⟨hm,hsl,htl,hlt,hfl,hnos⟩:=b_n hok;have hmn:m<ops.size:=(Array.getElem?_eq_some_iff.1 hom).1;have uniq:∀j k x,j<m→k<m→j≠k→slotOf ops j=some x→slotOf ops k≠some x:=fun j k x hj hk hne ej ek=>by
  rcases Nat.lt_or_gt_of_ne hne with h|h
  ·obtain⟨y,e,-,h3⟩:=hsl k hk;rw[ek]at e;cases e;exact h3 j h ej
  ·obtain⟨y,e,-,h3⟩:=hsl j hj;rw[ej]at e;cases e;exact h3 k h ek
 let J:Array Bool→Act→World→Prop:=fun listed a w=>
  ((∀k,m≤k→listed.getD k false=false)∧Inv ops m a0 w0 Z Fs listed a w)∨
  (∃(L:Array Bool) (wg:World) (g:Nat),L.size=ops.size∧(∀k,k≠m→L.getD k false=listed.getD k false)∧L.getD m false=false∧listed.getD m false=true∧(∀k,m<k→listed.getD k false=false)∧(∀k,k<m→k ∉ fl→listed.getD k false=true)∧listed.getD ka false=true∧listed.getD ke false=true∧Inv ops m a0 w0 Z Fs L a wg∧a.eval (.tmp d)= .pointer (some ⟨g,0,none⟩)∧w0.heap.size≤g∧g<wg.heap.size∧w=St wg g (a.eval (.tmp e)))∨
  (∃r,m<r∧r≤ops.size∧(∀k,k<ops.size→(listed.getD k false=true↔k<r))∧wpOps P ops Q (List.range' r (ops.size - r)) a w)
 have fin:=h_5 (P:=P) (Q:=Q) (Z:=Z) hok hend;have cls:∀(listed L:Array Bool) (a:Act) (wg:World) (g:Nat),(∀k,k≠m→L.getD k false=listed.getD k false)→Inv ops m a0 w0 Z Fs L a wg→a.eval (.tmp d)= .pointer (some ⟨g,0,none⟩)→(∀k,k<m→listed.getD k false=true)→wpOps P ops Q (List.range' (m+1) (ops.size - (m+1))) a (St wg g (a.eval (.tmp e))):=fun listed L a wg g hLk H hgp hall=>by
  have hL:∀k,k<m→L.getD k false=true:=fun k hk=>by rw[hLk k (by omega)];exact hall k hk
  have h1:=fin L a wg H hL;have fa:=H.facts ka hka (hL ka hka) d hska;have fe:=H.facts ke hke (hL ke hke) e hske;unfold FOf at fa fe;rw[haA]at fa;rw[heA]at fe;obtain⟨g',e1,-,-,e4⟩:=fa;rw[hgp]at e1;injection e1 with e1;injection e1 with e1;injection e1 with e1
  subst e1;have hrun:=hst a wg g hgp e4 fe;rw[show ops.size - m=(ops.size - (m+1))+1 by omega,List.range'_succ,wpOps_cons]at h1;unfold wpOp at h1;rw[hom]at h1;simp only[Region.wanted,hog,if_true]at h1;rcases h1 with h1|h1
  ·unfold Oper.wp at h1;rw[hrun,Oper.upon_skip,hod0]at h1;exact h1
  ·exact absurd h1.2 hna
 refine g_p J hnos hQ ?_ ?_ _ _ _ _ ?_ (by simp) (fun i hi=>?_) (.inl ⟨fun k _=>?_, ?_⟩)
 ·
  intro listed a w hsz hd hj;have hto:∀i o,i<m→ops[i]? =some o→(ops.toList.take m)[i]? =some o:=fun i o him ho=>by
   rw[List.getElem?_take_of_lt him];simpa using ho
  refine .inr fun i hi=>?_;obtain⟨hu,hin,hpre⟩:=b_d hi;have stepC:∀r,m<r→(∀k,k<ops.size→(listed.getD k false=true↔k<r))→wpOps P ops Q (List.range' r (ops.size - r)) a w→wpOp P ops Q i (J (listed.setIfInBounds i true)) a w:=fun r hmr hlr hwp=>by
   have hri:r≤i:=by
    rcases Nat.lt_or_ge i r with h|h
    ·have:=(hlr i hin).2 h;rw[b_x hu]at this;cases this
    ·exact h
   have hcov:=b_g hd hi (hcv i (by omega) hin);have him':i=r:=by
    rcases Nat.lt_or_ge r i with h|h
    ·have:=(hlr r (by omega)).1 (hcov r h (by simp));omega
    ·omega
   subst him';rw[show ops.size - i=(ops.size - i - 1)+1 by omega,List.range'_succ,wpOps_cons]at hwp;refine wpOp_mono (fun a' w' h'=>?_) hwp;refine .inr (.inr ⟨i+1,by omega,hin,fun k hk=>⟨fun h=>?_,fun h=>?_⟩, ?_⟩)
   ·rcases b_s listed i k h with e|e
    ·omega
    ·have:=(hlr k hk).1 e;omega
   ·rcases Nat.lt_or_eq_of_le (Nat.le_of_lt_succ h)with h1|h1
    ·exact a_1 ((hlr k hk).2 h1)
    ·subst h1;exact b_4 (by omega)
   ·rw[show ops.size - (i+1)=ops.size - i - 1 by omega];exact h'
  rcases hj with⟨htail,H⟩|⟨L,wg,g,hLs,hLk,hLm,hlm,htl2,hnf,hla,hle,H,hgp,hg1,hg2,rfl⟩|⟨r,hmr,hrn,hlr,hwp⟩
  ·have htail':i<m→∀k,m≤k→(listed.setIfInBounds i true).getD k false=false:=fun him k hk=>by
    rw[c_z listed (by omega)];exact htail k hk
   have hpr:∀k d,((predsOf ops i).contains k&&slotOf ops k==some d&&((ops[k]?).bind isAlloc).isNone&&decide (k<m))=true→nthF Fs k (a.eval (.tmp d)) w:=by
    intro k d' hkd;simp only[Bool.and_eq_true,decide_eq_true_iff,beq_iff_eq,List.contains_iff_mem]at hkd;obtain⟨⟨⟨h1,h2⟩,h3⟩,h4⟩:=hkd
    have:=H.facts k h4 (hpre k h1) d' h2;unfold FOf at this;rw[Option.isNone_iff_eq_none.1 h3]at this;exact this
   have hoff:∀t,(List.range m).all (fun k=>slotOf ops k != some t)=true→a.eval (.tmp t)=a0.eval (.tmp t):=fun t ht=>H.off t (fun k hk=>by
    rw[List.all_eq_true]at ht;simpa using ht k (List.mem_range.2 hk))
   by_cases him:i<m
   ·obtain⟨d',hdst,hdlt,-⟩:=hsl i him;obtain⟨o,ho⟩:∃o,ops[i]? =some o:=⟨ops[i],by simp[hin]⟩;have hod:o.dst=some d':=by unfold slotOf at hdst;rw[ho]at hdst;exact hdst
    cases ha:isAlloc o with
    |some T=>
     have hop:o.op= .alloc T:=by
      unfold isAlloc at ha;split at ha
      ·cases ha;assumption
      ·cases ha
     have hgd:o.guard=none:=by
      rw[List.all_eq_true]at hg
      have:=hg i (List.mem_range.2 him);rw[ho]at this;simp[ha]at this;exact this
     unfold wpOp;rw[ho];simp only[Region.wanted,hgd,if_true];refine .inl ?_;unfold Oper.wp;have hrun:(execOp a.eval o).run P w= .ok (.value (.pointer (some ⟨w.heap.size,0,none⟩))) (w.alloc (Z T)):=by
      have hr:=hz T (List.all_eq_true.1 hzl T (List.mem_filterMap.2 ⟨i,List.mem_range.2 him,by rw[ho];simp[ha]⟩)) w;unfold execOp;rw[hop];simp[hr]
     rw[hrun,Oper.upon_value,hod];refine .inl ⟨htail' him,Inv.step hok hs H hsz him hu hdst ?_ ((Below.refl _ _).alloc (Nat.le_refl _) _) (fun _=>⟨_,rfl,Nat.le_refl _⟩)⟩;unfold FOf;rw[ho,Option.bind_some,ha];refine⟨w.heap.size,rfl,H.below.size,by simp, ?_⟩;show(w.heap.push (Z T))[w.heap.size]? =_
     simp
    |none=>
     have hop:=HopAll.at hops i o (hto i o him ho) ha;rw[Nat.zero_add,if_neg (by simp)]at hop;have hK:∀v w',nthF Fs i v w'→Below w.heap.size w w'→J (listed.setIfInBounds i true) (a.put o.dst v) w':=by
      intro v w' hF hb;rw[hod];refine Or.inl ⟨htail' him,Inv.step hok hs H hsz him hu hdst ?_ hb (fun hc=>by rw[ho,Option.bind_some,ha]at hc;cases hc)⟩;unfold FOf;rw[ho,Option.bind_some,ha];exact hF
     have:=hop a w H.below hoff hpr _ hK;unfold wpOp;rw[ho];simp only;split
     ·rename_i hw;rw[if_pos hw]at this;exact .inl this
     ·rename_i hw;rw[if_neg hw]at this;exact this
   ·rcases(by omega:i=m∨m<i)with e1|e1
    ·subst e1;have hnf:=b_g hd hi (htl i (Nat.le_refl _) hin);have fa:=H.facts ka hka (hpre ka hpa) d hska;have fe:=H.facts ke hke (hpre ke hpe) e hske;unfold FOf at fa fe;rw[haA]at fa;rw[heA]at fe;obtain⟨g,e1,e2,e3,e4⟩:=fa;have hrun:=hst a w g e1 e4 fe;unfold wpOp;rw[hom];simp only[Region.wanted,hog,if_true];refine .inl ?_;unfold Oper.wp;rw[hrun,Oper.upon_skip,hod0];exact .inr (.inl ⟨listed,w,g,hsz,fun k hk=>(c_z listed hk).symm,htail i (Nat.le_refl _),b_4 (by omega),fun k hk=>by rw[c_z listed (by omega)];exact htail k (by omega),fun k hk hf=>a_1 (hnf k hk hf),a_1 (hpre ka hpa),a_1 (hpre ke hpe),H,e1,e2,e3,rfl⟩)
    ·exfalso
     have:=b_g hd hi (hcv i e1 hin) m e1 (by simp);rw[htail m (Nat.le_refl _)]at this;cases this
  ·rcases(by omega:i<m∨i=m∨m<i)with him|him|him
   ·have hif:i∈fl:=Classical.byContradiction fun h=>by
     have:=hnf i him h;rw[b_x hu]at this;cases this
    obtain⟨d',hdst,hdlt,-⟩:=hsl i him;obtain⟨o,ho⟩:∃o,ops[i]? =some o:=⟨ops[i],by simp[hin]⟩;have hod:o.dst=some d':=by unfold slotOf at hdst;rw[ho]at hdst;exact hdst
    have hni:(ops[i]?).bind isAlloc=none:=(hfl i hif).2.2;obtain⟨hgd,hla2⟩:=late i o hif ho;have hLu:L.getD i true=false:=by
     have h1:=hLk i (by omega);rw[b_x hu]at h1;have h2:i<L.size:=by omega
     simp[h2]at h1 ⊢;exact h1
    have hpr:∀k d,((predsOf ops i).contains k&&slotOf ops k==some d&&((ops[k]?).bind isAlloc).isNone&&decide (k<m))=true→nthF Fs k (a.eval (.tmp d)) wg:=by
     intro k d' hkd;simp only[Bool.and_eq_true,decide_eq_true_iff,beq_iff_eq,List.contains_iff_mem]at hkd;obtain⟨⟨⟨h1,h2⟩,h3⟩,h4⟩:=hkd
     have:=H.facts k h4 (by rw[hLk k (by omega)];exact hpre k h1) d' h2;unfold FOf at this;rw[Option.isNone_iff_eq_none.1 h3]at this;exact this
    have hoff:∀t,(List.range m).all (fun k=>slotOf ops k != some t)=true→a.eval (.tmp t)=a0.eval (.tmp t):=fun t ht=>H.off t (fun k hk=>by
     rw[List.all_eq_true]at ht;simpa using ht k (List.mem_range.2 hk))
    obtain⟨x,w',h2,h3,h4⟩:=hla2 a wg H.below hoff hpr;have nd:∀k y,k<m→slotOf ops k=some y→listed.getD k false=true→(a.put (some d') x).eval (.tmp y)=a.eval (.tmp y):=fun k y hk hy hl=>c_e fun e1=>by
     have hne:k≠i:=fun e2=>by subst e2;rw[b_x hu]at hl;cases hl
     exact uniq k i y hk him hne hy (by rw[←e1];exact hdst)
    unfold wpOp;rw[ho];simp only[Region.wanted,hgd,if_true];refine .inl ?_;unfold Oper.wp;rw[h4 g _ hg1 hg2,Oper.upon_value,hod];refine .inr (.inl ⟨L.setIfInBounds i true,w',g,by simpa using hLs,fun k hk=>?_,by rw[c_z L (by omega)];exact hLm,a_1 hlm,fun k hk=>by rw[c_z listed (by omega)];exact htl2 k hk,fun k hk hf=>a_1 (hnf k hk hf),a_1 hla,a_1 hle,Inv.step hok hs H hLs him hLu hdst ?_ h3 (fun hc=>by rw[hni]at hc;cases hc),by rw[nd ka d hka hska hla];exact hgp,hg1,Nat.lt_of_lt_of_le hg2 h3.size,by rw[nd ke e hke hske hle]⟩)
    ·by_cases e1:k=i
     ·subst e1;rw[b_4 (by omega),b_4 (by omega)]
     ·rw[c_z L e1,c_z listed e1];exact hLk k hk
    ·unfold FOf;rw[hni];exact h2
   ·subst him;rw[b_x hu]at hlm;cases hlm
   ·have hcov:=b_g hd hi (hcv i him hin);have hall:∀k,k<m→listed.getD k false=true:=fun k hk=>hcov k (by omega) (by simp);refine stepC (m+1) (by omega) (fun k hk=>⟨fun h=>?_,fun h=>?_⟩) (cls listed L a wg g hLk H hgp hall)
    ·rcases Nat.lt_or_ge m k with h1|h1
     ·rw[htl2 k h1]at h;cases h
     ·omega
    ·rcases Nat.lt_or_eq_of_le (Nat.le_of_lt_succ h)with h1|h1
     ·exact hall k h1
     ·subst h1;exact hlm
  ·exact stepC r hmr hlr hwp
 ·
  intro listed a w hsz hd hj hr;have hall:∀k,k<ops.size→listed.getD k false=true:=by
   intro k;induction k using Nat.strongRecOn with
   |ind k ih=>
    intro hk;cases hc:listed.getD k false with
    |true=>rfl
    |false=>
     exfalso
     have hmem:k∈Region.ready .any ops listed:=f_5 hsz hk hc (fun j hj=>by have:=hlt k hk j hj;exact ih j this (by omega));rw[hr]at hmem;cases hmem
  have endC:∀r,r≤ops.size→(∀k,k<ops.size→(listed.getD k false=true↔k<r))→wpOps P ops Q (List.range' r (ops.size - r)) a w→Q .normal a w:=fun r hrn hlr hwp=>by
   have hsr:ops.size=r:=by
    rcases Nat.lt_or_ge r ops.size with h|h
    ·have:=(hlr r h).1 (hall r h);omega
    ·omega
   rw[hsr,Nat.sub_self]at hwp;simpa [wpOps] using hwp
  rcases hj with⟨htail,H⟩|⟨L,wg,g,hLs,hLk,hLm,hlm,htl2,hnf,hla,hle,H,hgp,hg1,hg2,rfl⟩|⟨r,hmr,hrn,hlr,hwp⟩
  ·have:=hall m hmn;rw[htail m (Nat.le_refl _)]at this;cases this
  ·refine endC (m+1) (by omega) (fun k hk=>⟨fun h=>?_,fun h=>hall k hk⟩) (cls listed L a wg g hLk H hgp fun k hk=>hall k (by omega));rcases Nat.lt_or_ge m k with h1|h1
   ·rw[htl2 k h1]at h;cases h
   ·omega
  ·exact endC r hrn hlr hwp
 ·unfold openOf;simp
 ·simp[Array.getD]at hi
 ·simp[Array.getD]
 ·refine⟨rfl,rfl,fun _ _=>rfl,(Below.refl _ _).drew,fun k _ hl=>?_,fun j k _ _ _ _ hl=>?_⟩
  ·simp[Array.getD]at hl
  ·simp[Array.getD]at hl
end
section
variable {ops:Array Oper}{Q:Exit→Act→World→Prop}{m i:Nat}{a0 a:Act}{w0 w:World}{l:List FK}{b:Bool}{id:Nat}
theorem g_d {St:World→Nat→Value→World}(hSt:∀ {w:World} {g:Nat} {u:Value},Below w0.heap.size w0 w→w0.heap.size≤g→Below w0.heap.size w0 (St w g u)){Fs:List FVal}{o:Oper}{v:Value}(hx:nthF Fs i=IsK v)
  (hrun:∀(a:Act) (w:World),Below w0.heap.size w0 w→(∀t,(List.range m).all (fun k=>slotOf ops k != some t)=true→a.eval (.tmp t)=a0.eval (.tmp t))→
   (∀k d u,((predsOf ops i).contains k&&slotOf ops k==some d&&((ops[k]?).bind isAlloc).isNone&&decide (k<m))=true→nthF Fs k=IsK u→a.eval (.tmp d)=u)→(execOp a.eval o).run Tryz.prog w= .ok (.value v) w):LateS St Tryz.prog ops m a0 w0 Fs i o:=fun a w hB ho hp=>
 ⟨v,w,by rw[hx];rfl,Below.refl _ _,fun g u h1 h2=>hrun a _ (hSt hB h1) ho fun k d u' hk hf=>by
  have:=hp k d hk;rw[hf]at this;exact this⟩
noncomputable def okEyS (ops:Array Oper)(fl:List Nat)(m size ka ke d e:Nat)(Ta:TypeId):Bool:=
 regionOk ops fl m size&&((allocTs ops m).all okZ&&allocGuards ops m)&&((List.range' (m+1) (ops.size - (m+1))).all fun i=>covers ops [] i)&&
 decide (m<ops.size)&&(opAt ops m).guard.isNone&&(opAt ops m).dst.isNone&&decide (ka<m)&&decide (ke<m)&&(slotOf ops ka==some d)&&(slotOf ops ke==some e)&&(predsOf ops m).contains ka&&(predsOf ops m).contains ke&&((ops[ka]?).bind isAlloc==some Ta)&&((ops[ke]?).bind isAlloc).isNone
theorem Run.dones (St:World→Nat→Value→World)(fl:List Nat)(ka ke d e:Nat)(Ta:TypeId)(ds:List (Option Nat))
  (late:∀i,i∈fl→(opAt ops i).guard=none∧LateS St Tryz.prog ops m a0 w0 (fsOf l.reverse) i (opAt ops i))
  (hst:∀(a:Act) (w:World) (g:Nat),a.eval (.tmp d)= .pointer (some ⟨g,0,none⟩)→w.heap[g]? =some (zeroObj Ta)→nthF (fsOf l.reverse) ke (a.eval (.tmp e)) w→(execOp a.eval (opAt ops m)).run Tryz.prog w= .ok .skip (St w g (a.eval (.tmp e))))
  (hlo:¬LetsOut Q) (hend:∀w,Below w0.heap.size w0 w→EndQ ops Q m w0 w [] l.reverse ds a0) (hok:okEyS ops fl m a0.tmps.size ka ke d e Ta=true:=by kernel_rfl) (hds:(ops.toList.take m).map (·.dst)=ds:=by rfl) (hi:i=m:=by rfl) (hQ:∀c a d v w,Q (.panic c) (a.put d v) w→Q (.panic c) a w:=by(intro _ _ d _ _ h;cases d<;>exact h)):R ops Q m a0 w0 true id l i:=fun hl hall=>by
 unfold okEyS at hok;simp only[Bool.and_eq_true,decide_eq_true_iff,List.all_eq_true,beq_iff_eq,List.contains_iff_mem]at hok;obtain⟨⟨⟨⟨⟨⟨⟨⟨⟨⟨⟨⟨⟨h1,h2,h3⟩,h4⟩,h5⟩,h6⟩,h7⟩,h8⟩,h9⟩,h10⟩,h11⟩,h12⟩,h13⟩,h14⟩,h15⟩:=hok;subst hi;have h:=i_g (b_n h1).1 hl hall i 0 rfl;have hom:ops[i]? =some (opAt ops i):=by rw[e_a h5];simp[h5]
 refine wp_region_any (by kernel_rfl) (k_n (St:=St) fl i (fsOf l.reverse) zeroObj hQ h1 okZ (List.all_eq_true.2 h2) (fun T h w=>d_n h w) h3 (fsOf_stay l.reverse) h.1 (fun j hj hjn=>h4 j (List.mem_range'.2 ⟨j - (i+1),by omega,by omega⟩)) (fun j o hj ho=>?_) hom (Option.isNone_iff_eq_none.1 h6) (Option.isNone_iff_eq_none.1 h7) hlo h8 h9 h10 h11 h12 h13 h14 (Option.isNone_iff_eq_none.1 h15) hst (fun w hw=>c_2 _ l.reverse l.reverse [] 0 a0 h.2 (fun j _=>by rw[Nat.zero_add]) (by rw[hds];exact hend w hw)));have:o=opAt ops j:=by
  have hjl:=(Array.getElem?_eq_some_iff.1 ho).1;rw[e_a hjl];exact(Array.getElem?_eq_some_iff.1 ho).2.symm
 subst this;exact late j hj
end
end
end Go.Proofs.YtgohglhefhocgaaGreat
