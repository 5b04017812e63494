/- Pc18 -/
import Derived.Test.YtfhbdlegkdbmfaaGreatPc17
set_option linter.unusedVariables false
set_option linter.unusedSimpArgs false
set_option linter.unusedSectionVars false
set_option maxRecDepth 100000
set_option maxHeartbeats 8000000
namespace Go.Proofs.YtfhbdlegkdbmfaaGreat
section
open Go.RowKit
section
variable {P:Program}{ops:Array Oper}{Q:Exit->Act->World->Prop}
def LateS (St:World->Nat->Value->World)(P:Program)(ops:Array Oper)(m:Nat)(a0:Act)(w0:World)(Fs:List FVal)(i:Nat)(o:Oper):Prop:=
 ∀(a:Act) (w:World),Below w0.heap.size w0 w->(∀t,(List.range m).all (fun k=>slotOf ops k != some t)=true->a.eval (.tmp t)=a0.eval (.tmp t))->
  (∀k d,((predsOf ops i).contains k&&slotOf ops k==some d&&((ops[k]?).bind isAlloc).isNone&&decide (k<m))=true->nthF Fs k (a.eval (.tmp d)) w)->
  ∃(x:Value) (w':World),nthF Fs i x w'/\Below w.heap.size w w'/\∀g v,w0.heap.size<=g->g<w.heap.size->(execOp a.eval o).run P (St w g v)= .ok (.value x) (St w' g v)
theorem c_v (listed:Array Bool){i k:Nat}(h:k≠i):(listed.setIfInBounds i true).getD k false=listed.getD k false:=by
 simp[Array.getD_eq_getD_getElem?,Array.getElem?_setIfInBounds,Ne.symm h]
theorem j_l {St:World->Nat->Value->World}{a0:Act}{w0:World}(fl:List Nat)(m:Nat)(Fs:List FVal)(Z:TypeId->Obj)
  (hQ:∀c a d v w,Q (.panic c) (a.put d v) w->Q (.panic c) a w)
  (hok:regionOk ops fl m a0.tmps.size=true)
  (ok:TypeId->Bool) (hzl:(allocTs ops m).all ok=true) (hz:∀T,ok T=true->∀w:World,(Instr.alloc T true (.tuple #[])).run P w= .ok (.pointer (some ⟨w.heap.size,0,none⟩)) (w.alloc (Z T)))
  (hg:(List.range m).all (fun k=>((ops[k]?).bind isAlloc).isNone || ((ops[k]?).map (·.guard))==some none)=true)
  (hs:StayAll Fs) (hops:HopAll P ops Q [] m a0 w0 Fs 0 (ops.toList.take m))
  (hcv:∀i,m<i->i<ops.size->covers ops [] i=true)
  (late:∀i o,i∈fl->ops[i]? =some o->o.guard=none/\LateS St P ops m a0 w0 Fs i o)
  {ka ke d e:Nat} {om:Oper} {Ta:TypeId} (hom:ops[m]? =some om) (hog:om.guard=none) (hod0:om.dst=none) (hna:¬LetsOut Q) (hka:ka<m) (hke:ke<m) (hska:slotOf ops ka=some d) (hske:slotOf ops ke=some e) (hpa:ka∈predsOf ops m) (hpe:ke∈predsOf ops m) (haA:(ops[ka]?).bind isAlloc=some Ta) (heA:(ops[ke]?).bind isAlloc=none)
  (hst:∀(a:Act) (w:World) (g:Nat),a.eval (.tmp d)= .pointer (some ⟨g,0,none⟩)->w.heap[g]? =some (Z Ta)->nthF Fs ke (a.eval (.tmp e)) w->(execOp a.eval om).run P w= .ok .skip (St w g (a.eval (.tmp e))))
  (hend:∀w,Below w0.heap.size w0 w->EndAll P ops Q m w0 Z Fs w [] 0 (ops.toList.take m) a0):
  wpAny P .any ops Q ops.size (Array.replicate ops.size false) a0 { w0 with drawn:=w0.drawn+1 }:=by
 obtain⟨hm,hsl,htl,hlt,hfl,hnos⟩:=b_m hok;have hmn:m<ops.size:=(Array.getElem?_eq_some_iff.1 hom).1;have uniq:∀j k x,j<m->k<m->j≠k->slotOf ops j=some x->slotOf ops k≠some x:=fun j k x hj hk hne ej ek=>by
  rcases Nat.lt_or_gt_of_ne hne with h|h
  ·obtain⟨y,e,-,h3⟩:=hsl k hk;rw[ek]at e;cases e;exact h3 j h ej
  ·obtain⟨y,e,-,h3⟩:=hsl j hj;rw[ej]at e;cases e;exact h3 k h ek
 let J:Array Bool->Act->World->Prop:=fun listed a w=>
  ((∀k,m<=k->listed.getD k false=false)/\Inv ops m a0 w0 Z Fs listed a w)\/
  (∃(L:Array Bool) (wg:World) (g:Nat),L.size=ops.size/\(∀k,k≠m->L.getD k false=listed.getD k false)/\L.getD m false=false/\listed.getD m false=true/\(∀k,m<k->listed.getD k false=false)/\(∀k,k<m->k ∉ fl->listed.getD k false=true)/\listed.getD ka false=true/\listed.getD ke false=true/\Inv ops m a0 w0 Z Fs L a wg/\a.eval (.tmp d)= .pointer (some ⟨g,0,none⟩)/\w0.heap.size<=g/\g<wg.heap.size/\w=St wg g (a.eval (.tmp e)))\/
  (∃r,m<r/\r<=ops.size/\(∀k,k<ops.size->(listed.getD k false=true↔k<r))/\wpOps P ops Q (List.range' r (ops.size - r)) a w)
 have fin:=h_d (P:=P) (Q:=Q) (Z:=Z) hok hend;have cls:∀(listed L:Array Bool) (a:Act) (wg:World) (g:Nat),(∀k,k≠m->L.getD k false=listed.getD k false)->Inv ops m a0 w0 Z Fs L a wg->a.eval (.tmp d)= .pointer (some ⟨g,0,none⟩)->(∀k,k<m->listed.getD k false=true)->wpOps P ops Q (List.range' (m+1) (ops.size - (m+1))) a (St wg g (a.eval (.tmp e))):=fun listed L a wg g hLk H hgp hall=>by
  have hL:∀k,k<m->L.getD k false=true:=fun k hk=>by rw[hLk k (by omega)];exact hall k hk
  have h1:=fin L a wg H hL;have fa:=H.facts ka hka (hL ka hka) d hska;have fe:=H.facts ke hke (hL ke hke) e hske;unfold FOf at fa fe;rw[haA]at fa;rw[heA]at fe;obtain⟨g',e1,-,-,e4⟩:=fa;rw[hgp]at e1;injection e1 with e1;injection e1 with e1;injection e1 with e1
  subst e1;have hrun:=hst a wg g hgp e4 fe;rw[show ops.size - m=(ops.size - (m+1))+1 by omega,List.range'_succ,wpOps_cons]at h1;unfold wpOp at h1;rw[hom]at h1;simp only[Region.wanted,hog,if_true]at h1;rcases h1 with h1|h1
  ·unfold Oper.wp at h1;rw[hrun,Oper.upon_skip,hod0]at h1;exact h1
  ·exact absurd h1.2 hna
 refine f_6 J hnos hQ ?_ ?_ _ _ _ _ ?_ (by simp) (fun i hi=>?_) (.inl ⟨fun k _=>?_, ?_⟩)
 ·
  intro listed a w hsz hd hj;have hto:∀i o,i<m->ops[i]? =some o->(ops.toList.take m)[i]? =some o:=fun i o him ho=>by
   rw[List.getElem?_take_of_lt him];simpa using ho
  refine .inr fun i hi=>?_;obtain⟨hu,hin,hpre⟩:=b_b hi;have stepC:∀r,m<r->(∀k,k<ops.size->(listed.getD k false=true↔k<r))->wpOps P ops Q (List.range' r (ops.size - r)) a w->wpOp P ops Q i (J (listed.setIfInBounds i true)) a w:=fun r hmr hlr hwp=>by
   have hri:r<=i:=by
    rcases Nat.lt_or_ge i r with h|h
    ·have:=(hlr i hin).2 h;rw[b_u hu]at this;cases this
    ·exact h
   have hcov:=b_d hd hi (hcv i (by omega) hin);have him':i=r:=by
    rcases Nat.lt_or_ge r i with h|h
    ·have:=(hlr r (by omega)).1 (hcov r h (by simp));omega
    ·omega
   subst him';rw[show ops.size - i=(ops.size - i - 1)+1 by omega,List.range'_succ,wpOps_cons]at hwp;refine wpOp_mono (fun a' w' h'=>?_) hwp;refine .inr (.inr ⟨i+1,by omega,hin,fun k hk=>⟨fun h=>?_,fun h=>?_⟩, ?_⟩)
   ·rcases b_q listed i k h with e|e
    ·omega
    ·have:=(hlr k hk).1 e;omega
   ·rcases Nat.lt_or_eq_of_le (Nat.le_of_lt_succ h)with h1|h1
    ·exact a_x ((hlr k hk).2 h1)
    ·subst h1;exact b_1 (by omega)
   ·rw[show ops.size - (i+1)=ops.size - i - 1 by omega];exact h'
  rcases hj with⟨htail,H⟩|⟨L,wg,g,hLs,hLk,hLm,hlm,htl2,hnf,hla,hle,H,hgp,hg1,hg2,rfl⟩|⟨r,hmr,hrn,hlr,hwp⟩
  ·have htail':i<m->∀k,m<=k->(listed.setIfInBounds i true).getD k false=false:=fun him k hk=>by
    rw[c_v listed (by omega)];exact htail k hk
   have hpr:∀k d,((predsOf ops i).contains k&&slotOf ops k==some d&&((ops[k]?).bind isAlloc).isNone&&decide (k<m))=true->nthF Fs k (a.eval (.tmp d)) w:=by
    intro k d' hkd;simp only[Bool.and_eq_true,decide_eq_true_iff,beq_iff_eq,List.contains_iff_mem]at hkd;obtain⟨⟨⟨h1,h2⟩,h3⟩,h4⟩:=hkd
    have:=H.facts k h4 (hpre k h1) d' h2;unfold FOf at this;rw[Option.isNone_iff_eq_none.1 h3]at this;exact this
   have hoff:∀t,(List.range m).all (fun k=>slotOf ops k != some t)=true->a.eval (.tmp t)=a0.eval (.tmp t):=fun t ht=>H.off t (fun k hk=>by
    rw[List.all_eq_true]at ht;simpa using ht k (List.mem_range.2 hk))
   by_cases him:i<m
   ·obtain⟨d',hdst,hdlt,-⟩:=hsl i him;obtain⟨o,ho⟩:∃o,ops[i]? =some o:=⟨ops[i],by simp[hin]⟩;have hod:o.dst=some d':=by unfold slotOf at hdst;rw[ho]at hdst;exact hdst
    cases ha:isAlloc o with
    |some T=>
     have hop:o.op= .alloc T:=by
      unfold isAlloc at ha;split at ha
      ·cases ha;assumption
      ·cases ha
     have hgd:o.guard=none:=by
      rw[List.all_eq_true]at hg
      have:=hg i (List.mem_range.2 him);rw[ho]at this;simp[ha]at this;exact this
     unfold wpOp;rw[ho];simp only[Region.wanted,hgd,if_true];refine .inl ?_;unfold Oper.wp;have hrun:(execOp a.eval o).run P w= .ok (.value (.pointer (some ⟨w.heap.size,0,none⟩))) (w.alloc (Z T)):=by
      have hr:=hz T (List.all_eq_true.1 hzl T (List.mem_filterMap.2 ⟨i,List.mem_range.2 him,by rw[ho];simp[ha]⟩)) w;unfold execOp;rw[hop];simp[hr]
     rw[hrun,Oper.upon_value,hod];refine .inl ⟨htail' him,Inv.step hok hs H hsz him hu hdst ?_ ((Below.refl _ _).alloc (Nat.le_refl _) _) (fun _=>⟨_,rfl,Nat.le_refl _⟩)⟩;unfold FOf;rw[ho,Option.bind_some,ha];refine⟨w.heap.size,rfl,H.below.size,by simp, ?_⟩;show(w.heap.push (Z T))[w.heap.size]? =_
     simp
    |none=>
     have hop:=HopAll.at hops i o (hto i o him ho) ha;rw[Nat.zero_add,if_neg (by simp)]at hop;have hK:∀v w',nthF Fs i v w'->Below w.heap.size w w'->J (listed.setIfInBounds i true) (a.put o.dst v) w':=by
      intro v w' hF hb;rw[hod];refine Or.inl ⟨htail' him,Inv.step hok hs H hsz him hu hdst ?_ hb (fun hc=>by rw[ho,Option.bind_some,ha]at hc;cases hc)⟩;unfold FOf;rw[ho,Option.bind_some,ha];exact hF
     have:=hop a w H.below hoff hpr _ hK;unfold wpOp;rw[ho];simp only;split
     ·rename_i hw;rw[if_pos hw]at this;exact .inl this
     ·rename_i hw;rw[if_neg hw]at this;exact this
   ·rcases(by omega:i=m\/m<i)with e1|e1
    ·subst e1;have hnf:=b_d hd hi (htl i (Nat.le_refl _) hin);have fa:=H.facts ka hka (hpre ka hpa) d hska;have fe:=H.facts ke hke (hpre ke hpe) e hske;unfold FOf at fa fe;rw[haA]at fa;rw[heA]at fe;obtain⟨g,e1,e2,e3,e4⟩:=fa;have hrun:=hst a w g e1 e4 fe;unfold wpOp;rw[hom];simp only[Region.wanted,hog,if_true];refine .inl ?_;unfold Oper.wp;rw[hrun,Oper.upon_skip,hod0];exact .inr (.inl ⟨listed,w,g,hsz,fun k hk=>(c_v listed hk).symm,htail i (Nat.le_refl _),b_1 (by omega),fun k hk=>by rw[c_v listed (by omega)];exact htail k (by omega),fun k hk hf=>a_x (hnf k hk hf),a_x (hpre ka hpa),a_x (hpre ke hpe),H,e1,e2,e3,rfl⟩)
    ·exfalso
     have:=b_d hd hi (hcv i e1 hin) m e1 (by simp);rw[htail m (Nat.le_refl _)]at this;cases this
  ·rcases(by omega:i<m\/i=m\/m<i)with him|him|him
   ·have hif:i∈fl:=Classical.byContradiction fun h=>by
     have:=hnf i him h;rw[b_u hu]at this;cases this
    obtain⟨d',hdst,hdlt,-⟩:=hsl i him;obtain⟨o,ho⟩:∃o,ops[i]? =some o:=⟨ops[i],by simp[hin]⟩;have hod:o.dst=some d':=by unfold slotOf at hdst;rw[ho]at hdst;exact hdst
    have hni:(ops[i]?).bind isAlloc=none:=(hfl i hif).2.2;obtain⟨hgd,hla2⟩:=late i o hif ho;have hLu:L.getD i true=false:=by
     have h1:=hLk i (by omega);rw[b_u hu]at h1;have h2:i<L.size:=by omega
     simp[h2]at h1 ⊢;exact h1
    have hpr:∀k d,((predsOf ops i).contains k&&slotOf ops k==some d&&((ops[k]?).bind isAlloc).isNone&&decide (k<m))=true->nthF Fs k (a.eval (.tmp d)) wg:=by
     intro k d' hkd;simp only[Bool.and_eq_true,decide_eq_true_iff,beq_iff_eq,List.contains_iff_mem]at hkd;obtain⟨⟨⟨h1,h2⟩,h3⟩,h4⟩:=hkd
     have:=H.facts k h4 (by rw[hLk k (by omega)];exact hpre k h1) d' h2;unfold FOf at this;rw[Option.isNone_iff_eq_none.1 h3]at this;exact this
    have hoff:∀t,(List.range m).all (fun k=>slotOf ops k != some t)=true->a.eval (.tmp t)=a0.eval (.tmp t):=fun t ht=>H.off t (fun k hk=>by
     rw[List.all_eq_true]at ht;simpa using ht k (List.mem_range.2 hk))
    obtain⟨x,w',h2,h3,h4⟩:=hla2 a wg H.below hoff hpr;have nd:∀k y,k<m->slotOf ops k=some y->listed.getD k false=true->(a.put (some d') x).eval (.tmp y)=a.eval (.tmp y):=fun k y hk hy hl=>b_9 fun e1=>by
     have hne:k≠i:=fun e2=>by subst e2;rw[b_u hu]at hl;cases hl
     exact uniq k i y hk him hne hy (by rw[<-e1];exact hdst)
    unfold wpOp;rw[ho];simp only[Region.wanted,hgd,if_true];refine .inl ?_;unfold Oper.wp;rw[h4 g _ hg1 hg2,Oper.upon_value,hod];refine .inr (.inl ⟨L.setIfInBounds i true,w',g,by simpa using hLs,fun k hk=>?_,by rw[c_v L (by omega)];exact hLm,a_x hlm,fun k hk=>by rw[c_v listed (by omega)];exact htl2 k hk,fun k hk hf=>a_x (hnf k hk hf),a_x hla,a_x hle,Inv.step hok hs H hLs him hLu hdst ?_ h3 (fun hc=>by rw[hni]at hc;cases hc),by rw[nd ka d hka hska hla];exact hgp,hg1,Nat.lt_of_lt_of_le hg2 h3.size,by rw[nd ke e hke hske hle]⟩)
    ·by_cases e1:k=i
     ·subst e1;rw[b_1 (by omega),b_1 (by omega)]
     ·rw[c_v L e1,c_v listed e1];exact hLk k hk
    ·unfold FOf;rw[hni];exact h2
   ·subst him;rw[b_u hu]at hlm;cases hlm
   ·have hcov:=b_d hd hi (hcv i him hin);have hall:∀k,k<m->listed.getD k false=true:=fun k hk=>hcov k (by omega) (by simp);refine stepC (m+1) (by omega) (fun k hk=>⟨fun h=>?_,fun h=>?_⟩) (cls listed L a wg g hLk H hgp hall)
    ·rcases Nat.lt_or_ge m k with h1|h1
     ·rw[htl2 k h1]at h;cases h
     ·omega
    ·rcases Nat.lt_or_eq_of_le (Nat.le_of_lt_succ h)with h1|h1
     ·exact hall k h1
     ·subst h1;exact hlm
  ·exact stepC r hmr hlr hwp
 ·
  intro listed a w hsz hd hj hr;have hall:∀k,k<ops.size->listed.getD k false=true:=by
   intro k;induction k using Nat.strongRecOn with
   |ind k ih=>
    intro hk;cases hc:listed.getD k false with
    |true=>rfl
    |false=>
     exfalso
     have hmem:k∈Region.ready .any ops listed:=f_l hsz hk hc (fun j hj=>by have:=hlt k hk j hj;exact ih j this (by omega));rw[hr]at hmem;cases hmem
  have endC:∀r,r<=ops.size->(∀k,k<ops.size->(listed.getD k false=true↔k<r))->wpOps P ops Q (List.range' r (ops.size - r)) a w->Q .normal a w:=fun r hrn hlr hwp=>by
   have hsr:ops.size=r:=by
    rcases Nat.lt_or_ge r ops.size with h|h
    ·have:=(hlr r h).1 (hall r h);omega
    ·omega
   rw[hsr,Nat.sub_self]at hwp;simpa [wpOps] using hwp
  rcases hj with⟨htail,H⟩|⟨L,wg,g,hLs,hLk,hLm,hlm,htl2,hnf,hla,hle,H,hgp,hg1,hg2,rfl⟩|⟨r,hmr,hrn,hlr,hwp⟩
  ·have:=hall m hmn;rw[htail m (Nat.le_refl _)]at this;cases this
  ·refine endC (m+1) (by omega) (fun k hk=>⟨fun h=>?_,fun h=>hall k hk⟩) (cls listed L a wg g hLk H hgp fun k hk=>hall k (by omega));rcases Nat.lt_or_ge m k with h1|h1
   ·rw[htl2 k h1]at h;cases h
   ·omega
  ·exact endC r hrn hlr hwp
 ·unfold openOf;simp
 ·simp[Array.getD]at hi
 ·simp[Array.getD]
 ·refine⟨rfl,rfl,fun _ _=>rfl,(Below.refl _ _).drew,fun k _ hl=>?_,fun j k _ _ _ _ hl=>?_⟩
  ·simp[Array.getD]at hl
  ·simp[Array.getD]at hl
end
section
variable {ops:Array Oper}{Q:Exit->Act->World->Prop}{m i:Nat}{a0 a:Act}{w0 w:World}{l:List FK}{b:Bool}{id:Nat}
theorem f_r {St:World->Nat->Value->World}(hSt:∀ {w:World} {g:Nat} {u:Value},Below w0.heap.size w0 w->w0.heap.size<=g->Below w0.heap.size w0 (St w g u)){Fs:List FVal}{o:Oper}{v:Value}(hx:nthF Fs i=IsK v)
  (hrun:∀(a:Act) (w:World),Below w0.heap.size w0 w->(∀t,(List.range m).all (fun k=>slotOf ops k != some t)=true->a.eval (.tmp t)=a0.eval (.tmp t))->
   (∀k d u,((predsOf ops i).contains k&&slotOf ops k==some d&&((ops[k]?).bind isAlloc).isNone&&decide (k<m))=true->nthF Fs k=IsK u->a.eval (.tmp d)=u)->(execOp a.eval o).run Tryz.prog w= .ok (.value v) w):LateS St Tryz.prog ops m a0 w0 Fs i o:=fun a w hB ho hp=>
 ⟨v,w,by rw[hx];rfl,Below.refl _ _,fun g u h1 h2=>hrun a _ (hSt hB h1) ho fun k d u' hk hf=>by
  have:=hp k d hk;rw[hf]at this;exact this⟩
noncomputable def okEyS (ops:Array Oper)(fl:List Nat)(m size ka ke d e:Nat)(Ta:TypeId):Bool:=
 regionOk ops fl m size&&((allocTs ops m).all okZ&&allocGuards ops m)&&((List.range' (m+1) (ops.size - (m+1))).all fun i=>covers ops [] i)&&
 decide (m<ops.size)&&(opAt ops m).guard.isNone&&(opAt ops m).dst.isNone&&decide (ka<m)&&decide (ke<m)&&(slotOf ops ka==some d)&&(slotOf ops ke==some e)&&(predsOf ops m).contains ka&&(predsOf ops m).contains ke&&((ops[ka]?).bind isAlloc==some Ta)&&((ops[ke]?).bind isAlloc).isNone
theorem Run.dones (St:World->Nat->Value->World)(fl:List Nat)(ka ke d e:Nat)(Ta:TypeId)(ds:List (Option Nat))
  (late:∀i,i∈fl->(opAt ops i).guard=none/\LateS St Tryz.prog ops m a0 w0 (fsOf l.reverse) i (opAt ops i))
  (hst:∀(a:Act) (w:World) (g:Nat),a.eval (.tmp d)= .pointer (some ⟨g,0,none⟩)->w.heap[g]? =some (zeroObj Ta)->nthF (fsOf l.reverse) ke (a.eval (.tmp e)) w->(execOp a.eval (opAt ops m)).run Tryz.prog w= .ok .skip (St w g (a.eval (.tmp e))))
  (hlo:¬LetsOut Q) (hend:∀w,Below w0.heap.size w0 w->EndQ ops Q m w0 w [] l.reverse ds a0) (hok:okEyS ops fl m a0.tmps.size ka ke d e Ta=true:=by kernel_rfl) (hds:(ops.toList.take m).map (·.dst)=ds:=by rfl) (hi:i=m:=by rfl) (hQ:∀c a d v w,Q (.panic c) (a.put d v) w->Q (.panic c) a w:=by(intro _ _ d _ _ h;cases d<;>exact h)):R ops Q m a0 w0 true id l i:=fun hl hall=>by
 unfold okEyS at hok;simp only[Bool.and_eq_true,decide_eq_true_iff,List.all_eq_true,beq_iff_eq,List.contains_iff_mem]at hok;obtain⟨⟨⟨⟨⟨⟨⟨⟨⟨⟨⟨⟨⟨h1,h2,h3⟩,h4⟩,h5⟩,h6⟩,h7⟩,h8⟩,h9⟩,h10⟩,h11⟩,h12⟩,h13⟩,h14⟩,h15⟩:=hok;subst hi;have h:=h_l (b_m h1).1 hl hall i 0 rfl;have hom:ops[i]? =some (opAt ops i):=by rw[d_0 h5];simp[h5]
 refine wp_region_any (by kernel_rfl) (j_l (St:=St) fl i (fsOf l.reverse) zeroObj hQ h1 okZ (List.all_eq_true.2 h2) (fun T h w=>d_d h w) h3 (fsOf_stay l.reverse) h.1 (fun j hj hjn=>h4 j (List.mem_range'.2 ⟨j - (i+1),by omega,by omega⟩)) (fun j o hj ho=>?_) hom (Option.isNone_iff_eq_none.1 h6) (Option.isNone_iff_eq_none.1 h7) hlo h8 h9 h10 h11 h12 h13 h14 (Option.isNone_iff_eq_none.1 h15) hst (fun w hw=>c_y _ l.reverse l.reverse [] 0 a0 h.2 (fun j _=>by rw[Nat.zero_add]) (by rw[hds];exact hend w hw)));have:o=opAt ops j:=by
  have hjl:=(Array.getElem?_eq_some_iff.1 ho).1;rw[d_0 hjl];exact(Array.getElem?_eq_some_iff.1 ho).2.symm
 subst this;exact late j hj
end
end
section
namespace DT
variable {R C n W:Nat}{M N G A F F':Mx}{u v:Nat->Int}{p:Nat->Option Nat}
theorem g_9 {n:Nat}{f:Nat->Int}{D:Nat}(h:∀k,k<n->(f k).natAbs<=D):(sumN n f).natAbs<=n*D:=by
 induction n with
 |zero=>simp[sumN]
 |succ n ih=>
  have h1:=ih fun k hk=>h k (by omega);have h2:=h n (by omega);have h3:=Int.natAbs_add_le (sumN n f) (f n);show(sumN n f+f n).natAbs<=_
  rw[Nat.succ_mul];omega
theorem o_y (k:Nat):(sgn k).natAbs=1:=by
 have h:=congrArg Int.natAbs (k_b k);rw[Int.natAbs_mul]at h;have h1:(1:Int).natAbs=1:=rfl;rw[h1]at h;exact Nat.dvd_one.mp ⟨_,h.symm⟩
theorem det_abs:∀(n:Nat) (M:Mx) (D:Nat),(∀i j,i<n->j<n->(M i j).natAbs<=D)->(det n M).natAbs<=(n*D)^n
 |0,M,D,h=>by simp[det]
 |n+1,M,D,h=>by
  rw[b_h];refine Nat.le_trans (g_9 (D:=D*(n*D)^n) fun k hk=>?_) ?_
  ·rw[Int.natAbs_mul,Int.natAbs_mul,o_y,Nat.one_mul];exact Nat.mul_le_mul (h 0 k (by omega) hk) (det_abs n _ D fun i j hi hj=>h _ _ (by omega) (j_8 hj))
  ·rw[Nat.pow_succ,<-Nat.mul_assoc,Nat.mul_comm ((n+1)*D)];exact Nat.mul_le_mul_right _ (Nat.pow_le_pow_left (Nat.mul_le_mul_right D (by omega)) n)
theorem j_g (n:Nat)(B:Mx)(u:Nat->Int){l:Nat}(hl:l<n+1):sumN (n+1) (fun s=>B l s*det (n+1) (setc B s u))=det (n+1) B*u l:=by
 have e:∀s,s<n+1->B l s*det (n+1) (setc B s u)=sumN (n+1) fun a=>u a*(B l s*cof n B a s):=fun s hs=>by
  have h:=l_n n (setc B s u) (j:=s) (k:=s) hs hs;rw[if_pos rfl]at h;rw[<-h,<-b_s];refine sum_ext fun a ha=>?_;have h1:setc B s u a s=u a:=by unfold setc;rw[if_pos rfl]
  have h2:cof n (setc B s u) a s=cof n B a s:=by
   unfold cof;rw[det_ext (M:=minor2 (setc B s u) a s) (N:=minor2 B a s) fun i j _ _=>by unfold minor2 setc;rw[if_neg (h_c s j)]]
  rw[h1,h2];grind
 rw[sum_ext e,h_5];rw[sum_one hl fun a ha hne=>by
  rw[b_s,e_r n B ha hl (Ne.symm hne),Int.mul_zero]]
 rw[b_s,d_3 n B hl,Int.mul_comm]
theorem i_f {n:Nat}{f:Nat->Int}(h:∀k,k<n->0<f k):0<prodN n f:=by
 induction n with
 |zero=>show(0:Int)<1;decide
 |succ n ih=>exact Int.mul_pos (ih fun k hk=>h k (by omega)) (h n (by omega))
theorem p_h {n i:Nat}{f:Nat->Int}(h:∀k,k<n->0<f k)(hi:i<n):f i<=prodN n f:=by
 induction n with
 |zero=>omega
 |succ n ih=>
  show f i<=prodN n f*f n
  have hp:=i_f (n:=n) fun k hk=>h k (by omega);have hn:=h n (by omega);by_cases e:i=n
  ·subst e
   have:=Int.mul_le_mul_of_nonneg_right (show(1:Int)<=prodN i f by omega) (Int.le_of_lt hn);omega
  ·have h1:=ih (fun k hk=>h k (by omega)) (by omega)
   have:=Int.mul_le_mul_of_nonneg_left (show(1:Int)<=f n by omega) (Int.le_of_lt hp);omega
theorem Steps.tri {r:Nat}(h:Steps r W G)(hn:∀l,l<r->fst W (G l)<W){i j:Nat}(hi:i<r)(hj:j<i):G i (fst W (G j))=0:=
 fst_zero (C:=W) (h j i hj hi (hn i hi))
theorem Steps.det {r:Nat}(h:Steps r W G)(hn:∀l,l<r->fst W (G l)<W):det r (fun i j=>G i (fst W (G j)))=prodN r fun i=>G i (fst W (G i)):=
 det_tri _ _ fun i j hi hj hji=>h.tri hn hi hji
theorem i_i {r:Nat}(h:Steps r W G)(hn:∀l,l<r->fst W (G l)<W)(e:∀v,Lat r W G v↔Lat R W A v){D:Nat}(hD:∀f q:Nat->Nat,(∀i,i<r->f i<R)->(∀i,i<r->q i<W)->(DT.det r fun i j=>A (f i) (q j)).natAbs<=D):
  ∀c:Nat->Nat,(∀i,i<r->c i<W)->(DT.det r (fun i j=>G i (c j))).natAbs<=D:=by
 let q:Nat->Nat:=fun j=>fst W (G j)
 have hX:∀i,∃x:Nat->Int,i<r->∀j,j<W->G i j=sumN R fun l=>x l*A l j:=fun i=>by
  by_cases hi:i<r
  ·obtain⟨x,hx⟩:=(e (G i)).mp (Lat.row _ _ _ hi);exact⟨x,fun _=>hx⟩
  ·exact⟨fun _=>0,fun h=>absurd h hi⟩
 obtain⟨X,hX2⟩:=Classical.axiomOfChoice hX;have hs:Som r G r q:=⟨fun i=>i,⟨fun i _=>by omega,fun i hi=>hi⟩,by
  rw[h.det hn];exact prod_ne fun k hk=>fst_ne (hn k hk)⟩
 obtain⟨f,hf,hne⟩:=Som.of (d:=1) (by decide) (X:=X) (N:=A) (S:=R) (fun i j hi hj=>by rw[Int.one_mul];exact hX2 i hi _ (hn j hj)) hs;have hZ:∀i,∃x:Nat->Int,i<r->∀j,j<W->A (f i) j=sumN r fun l=>x l*G l j:=fun i=>by
  by_cases hi:i<r
  ·obtain⟨x,hx⟩:=(e (A (f i))).mpr (Lat.row _ _ _ (hf.lt i hi));exact⟨x,fun _=>hx⟩
  ·exact⟨fun _=>0,fun h=>absurd h hi⟩
 obtain⟨Z,hZ2⟩:=Classical.axiomOfChoice hZ;have hmul:∀c:Nat->Nat,(∀i,i<r->c i<W)->DT.det r (fun i j=>A (f i) (c j))=DT.det r Z*DT.det r (fun i j=>G i (c j)):=fun c hc=>by
  rw[<-det_mul];exact det_ext fun i j hi hj=>hZ2 i hi _ (hc j hj)
 have hZne:DT.det r Z≠0:=fun e0=>hne (by rw[hmul q hn,e0,Int.zero_mul]);intro c hc;have h1:=hD f c hf.lt hc;rw[hmul c hc,Int.natAbs_mul]at h1;exact Nat.le_trans (Nat.le_mul_of_pos_left _ (by omega)) h1
theorem e_8 {n:Nat}(h:Steps (n+1) W G)(hn:∀l,l<n+1->fst W (G l)<W){v:Nat->Int}(hv:Lat (n+1) W G v){c:Nat}(hc:c<W):
  (prodN (n+1) fun i=>G i (fst W (G i)))*v c=sumN (n+1) fun s=>v (fst W (G s))*DT.det (n+1) fun i j=>G i (if j=s then c else fst W (G j)):=by
 obtain⟨y,hy⟩:=hv;have e:∀s,DT.det (n+1) (setc (fun i j=>G i (fst W (G j))) s fun i=>G i c)=DT.det (n+1) fun i j=>G i (if j=s then c else fst W (G j)):=fun s=>det_ext fun i j _ _=>by
  unfold setc;split<;>rfl
 rw[hy c hc,<-h.det hn,<-b_s];rw[sum_ext fun l hl=>show DT.det (n+1) (fun i j=>G i (fst W (G j)))*(y l*G l c)=sumN (n+1) fun s=>y l*G l (fst W (G s))*DT.det (n+1) fun i j=>G i (if j=s then c else fst W (G j)) by
  have h1:=j_g n (fun i j=>G i (fst W (G j))) (fun i=>G i c) hl;rw[Int.mul_left_comm,<-h1,<-b_s];exact sum_ext fun s hs=>by rw[e s];grind]
 rw[h_5];refine sum_ext fun s hs=>?_;rw[hy _ (hn s hs),sum_mul']
theorem herm_le {r:Nat}(h:Herm r W G)(hn:∀l,l<r->fst W (G l)<W)(e:∀v,Lat r W G v↔Lat R W A v){D:Nat}(hD:∀f q:Nat->Nat,(∀i,i<r->f i<R)->(∀i,i<r->q i<W)->(det r fun i j=>A (f i) (q j)).natAbs<=D):
  ∀l j,l<r->j<W->(G l j).natAbs<=r*D:=by
 intro l c hl hc;obtain⟨n,rfl⟩:∃n,r=n+1:=⟨r - 1,by omega⟩;have hpos:∀k,k<n+1->0<G k (fst W (G k)):=fun k hk=>h.pos k hk (hn k hk);have hp:=i_f (n:=n+1) hpos;have hle:=i_i h.steps hn e hD;have hcr:=e_8 h.steps hn (Lat.row _ _ _ hl) hc;have hb:∀s,s<n+1->(G l (fst W (G s))*det (n+1) fun i j=>G i (if j=s then c else fst W (G j))).natAbs<=(prodN (n+1) fun i=>G i (fst W (G i))).natAbs*D:=fun s hs=>by
  rw[Int.natAbs_mul];refine Nat.mul_le_mul ?_ (hle _ fun i hi=>by split;exact hc;exact hn i hi);have h1:G s (fst W (G s))<=_:=p_h (n:=n+1) (f:=fun i=>G i (fst W (G i))) hpos hs;rcases Nat.lt_trichotomy s l with h2|h2|h2
  ·rw[h.steps.tri hn hl h2];simp
  ·subst h2;have:=hpos s hs;omega
  ·have h3:=h.red s hs (hn s hs) l h2;omega
 have h6:=g_9 hb;rw[<-hcr,Int.natAbs_mul,Nat.mul_left_comm]at h6;exact Nat.le_of_mul_le_mul_left h6 (by omega)
theorem r_n {r:Nat}(h:Steps r W G)(hn:∀l,l<r->fst W (G l)<W)(e:∀v,Lat r W G v↔Lat R W A v){D X:Nat}(hD:∀f q:Nat->Nat,(∀i,i<r->f i<R)->(∀i,i<r->q i<W)->(det r fun i j=>A (f i) (q j)).natAbs<=D)
  {v:Nat->Int} (hv:Lat r W G v) (hX:∀l,l<r->(v (fst W (G l))).natAbs<=X) {j:Nat} (hj:j<W):(v j).natAbs<=r*(X*D):=by
 rcases Nat.eq_zero_or_pos r with h0|h0
 ·subst h0;obtain⟨x,hx⟩:=hv;rw[hx j hj];simp[sumN]
 ·obtain⟨n,rfl⟩:∃n,r=n+1:=⟨r - 1,by omega⟩;have hle:=i_i h hn e hD;have hcr:=e_8 h hn hv hj;have h6:=g_9 (D:=X*D) (fun s hs=>show(v (fst W (G s))*det (n+1) fun i k=>G i (if k=s then j else fst W (G k))).natAbs<=X*D by
   rw[Int.natAbs_mul];exact Nat.mul_le_mul (hX s hs) (hle _ fun i hi=>by split;exact hj;exact hn i hi))
  rw[<-hcr,Int.natAbs_mul]at h6;have hp:(prodN (n+1) fun i=>G i (fst W (G i)))≠0:=prod_ne fun k hk=>fst_ne (hn k hk);exact Nat.le_trans (Nat.le_mul_of_pos_left _ (by omega)) h6
theorem lat_both {S:Nat}(h1:∀i,i<R->Lat S W N (M i))(h2:∀i,i<S->Lat R W M (N i))(v:Nat->Int):Lat R W M v↔Lat S W N v:=⟨Lat.within h1,Lat.within h2⟩
def upd (F:Mx)(a:Nat)(f:Nat->Int):Mx:=fun i=>if i=a then f else F i
theorem upd_self (F:Mx)(a:Nat)(f:Nat->Int):upd F a f a=f:=by unfold upd;rw[if_pos rfl]
theorem upd_ne {F:Mx}{a i:Nat}{f:Nat->Int}(h:i≠a):upd F a f i=F i:=by unfold upd;rw[if_neg h]
theorem upd_id (F:Mx)(a:Nat):upd F a (F a)=F:=by
 funext i
 by_cases h:i=a
 ·subst h;rw[upd_self]
 ·rw[upd_ne h]
theorem upd_upd (F:Mx)(a:Nat)(f g:Nat->Int):upd (upd F a f) a g=upd F a g:=by
 funext i
 by_cases h:i=a
 ·subst h;rw[upd_self,upd_self]
 ·rw[upd_ne h,upd_ne h,upd_ne h]
theorem p_u {a b:Nat}(ha:a<n)(hb:b<n)(hne:b≠a)(q:Int)(v:Nat->Int):Lat n W (upd F a fun j=>F a j - q*F b j) v↔Lat n W F v:=by
 refine lat_both (fun i hi=>?_) (fun i hi=>?_) v
 ·by_cases e:i=a
  ·subst e;rw[upd_self];exact(Lat.row n W F hi).sub ((Lat.row n W F hb).smul q)
  ·rw[upd_ne e];exact Lat.row n W F hi
 ·by_cases e:i=a
  ·subst e;have h1:=Lat.row n W (upd F i fun j=>F i j - q*F b j) hi;have h2:=(Lat.row n W (upd F i fun j=>F i j - q*F b j) hb).smul q;rw[upd_self]at h1;rw[upd_ne hne]at h2;exact(h1.add h2).ext fun j _=>by omega
  ·have h1:=Lat.row n W (upd F a fun j=>F a j - q*F b j) hi;rw[upd_ne e]at h1;exact h1
theorem p_t {a b:Nat}(ha:a<n)(hb:b<n)(hne:b≠a){x y s t:Int}(h:x*s+y*t=1)(v:Nat->Int):Lat n W (upd (upd F b fun j=>x*F b j+y*F a j) a fun j=>s*F a j - t*F b j) v↔Lat n W F v:=by
 have hR:∀ {i:Nat},i<n->Lat n W F (F i):=fun hi=>Lat.row n W F hi;have ea:upd (upd F b fun j=>x*F b j+y*F a j) a (fun j=>s*F a j - t*F b j) a=fun j=>s*F a j - t*F b j:=upd_self _ _ _;have eb:upd (upd F b fun j=>x*F b j+y*F a j) a (fun j=>s*F a j - t*F b j) b=fun j=>x*F b j+y*F a j:=by rw[upd_ne hne,upd_self]
 refine lat_both (fun i hi=>?_) (fun i hi=>?_) v
 ·by_cases e:i=a
  ·subst e;rw[ea];exact((hR ha).smul s).sub ((hR hb).smul t)
  ·by_cases e2:i=b
   ·subst e2;rw[eb];exact((hR hb).smul x).add ((hR ha).smul y)
   ·rw[upd_ne e,upd_ne e2];exact hR hi
 ·obtain⟨G,hG⟩:∃G,upd (upd F b fun j=>x*F b j+y*F a j) a (fun j=>s*F a j - t*F b j)=G:=⟨_,rfl⟩;rw[hG]at ea eb ⊢;have h1:=Lat.row n W G ha;have h2:=Lat.row n W G hb;rw[ea]at h1;rw[eb]at h2;by_cases e:i=a
  ·subst e;exact((h2.smul t).add (h1.smul x)).ext fun j _=>by grind
  ·by_cases e2:i=b
   ·subst e2;exact((h2.smul s).sub (h1.smul y)).ext fun j _=>by grind
   ·have h3:=Lat.row n W G hi;rw[<-hG,upd_ne e,upd_ne e2,hG]at h3;exact h3
theorem p_v {a:Nat}(ha:a<n)(v:Nat->Int):Lat n W (upd F a fun j=>- F a j) v↔Lat n W F v:=by
 refine lat_both (fun i hi=>?_) (fun i hi=>?_) v
 ·by_cases e:i=a
  ·subst e;rw[upd_self];exact((Lat.row n W F hi).smul (-1)).ext fun j _=>by omega
  ·rw[upd_ne e];exact Lat.row n W F hi
 ·have h1:=Lat.row n W (upd F a fun j=>- F a j) hi;by_cases e:i=a
  ·subst e;rw[upd_self]at h1;exact(h1.smul (-1)).ext fun j _=>by omega
  ·rw[upd_ne e]at h1;exact h1
structure Tri (n W:Nat) (F:Mx) (p:Nat->Option Nat):Prop where
 lt:∀k a,k<W->p k=some a->a<n
 inj:∀k l a,k<W->l<W->p k=some a->p l=some a->k=l
 zero:∀k a,k<W->p k=some a->∀j,j<k->F a j=0
 pos:∀k a,k<W->p k=some a->0<F a k
def Rst (n W:Nat)(F:Mx)(p:Nat->Option Nat):Prop:=∀a,a<n->(∀k,k<W->p k≠some a)->∀j,j<W->F a j=0
def Rdc (m W:Nat)(F:Mx)(p:Nat->Option Nat):Prop:=∀k l a b,m<=k->k<l->l<W->p k=some a->p l=some b->0<=F a l/\F a l<F b l
theorem Tri.ext (h:Tri n W F p)(e:∀k a,k<W->p k=some a->F' a=F a):Tri n W F' p:=
 ⟨h.lt,h.inj,fun k a hk ha j hj=>by rw[e k a hk ha];exact h.zero k a hk ha j hj,fun k a hk ha=>by rw[e k a hk ha];exact h.pos k a hk ha⟩
def tk (F:Mx)(p:Nat->Option Nat)(k:Nat)(f:Nat->Int):Nat->Int:=match p k with|none=>f|some b=>fun j=>f j - f k / F b k*F b j
def rd (F:Mx)(p:Nat->Option Nat)(lo:Nat):Nat->(Nat->Int)->Nat->Int
 |0,f=>f
 |m+1,f=>tk F p (lo+m) (rd F p lo m f)
theorem tk_none {k:Nat}{f:Nat->Int}(h:p k=none):tk F p k f=f:=by unfold tk;rw[h]
theorem tk_some {k b:Nat}{f:Nat->Int}(h:p k=some b):tk F p k f=fun j=>f j - f k / F b k*F b j:=by unfold tk;rw[h]
theorem tk_zero {k:Nat}{f:Nat->Int}(h:f k=0):tk F p k f=f:=by
 unfold tk;split
 ·rfl
 ·rename_i b _;funext j
  rw[h,Int.zero_ediv,Int.zero_mul,Int.sub_zero]
theorem Tri.tk_low (h:Tri n W F p){k:Nat}(hk:k<W){f:Nat->Int}{j:Nat}(hj:j<k):tk F p k f j=f j:=by
 cases e:p k with
 |none=>rw[tk_none e]
 |some b=>
  rw[tk_some e];dsimp only;rw[h.zero k b hk e j hj,Int.mul_zero,Int.sub_zero]
theorem Tri.tk_at (h:Tri n W F p){k b:Nat}(hk:k<W)(hb:p k=some b)(f:Nat->Int):0<=tk F p k f k/\tk F p k f k<F b k:=by
 have hp:=h.pos k b hk hb;rw[tk_some hb];dsimp only;have h1:=Int.emod_nonneg (f k) (show F b k≠0 by omega);have h2:=Int.emod_lt_of_pos (f k) hp;have h3:=Int.emod_def (f k) (F b k);have h4:=Int.mul_comm (F b k) (f k / F b k);omega
theorem Tri.rd_low (h:Tri n W F p){lo:Nat}{f:Nat->Int}:∀m,lo+m<=W->∀j,j<lo->rd F p lo m f j=f j
 |0,_,j,_=>rfl
 |m+1,hm,j,hj=>by
  show tk F p (lo+m) _ j=_
  rw[h.tk_low (by omega) (by omega),h.rd_low m (by omega) j hj]
theorem Tri.rd_red (h:Tri n W F p){lo:Nat}{f:Nat->Int}:∀m,lo+m<=W->∀k b,lo<=k->k<lo+m->p k=some b->0<=rd F p lo m f k/\rd F p lo m f k<F b k
 |0,_,k,b,h1,h2,_=>by omega
 |m+1,hm,k,b,h1,h2,hb=>by
  show 0<=tk F p (lo+m) _ k/\tk F p (lo+m) _ k<_
  by_cases e:k=lo+m
  ·subst e;exact h.tk_at (by omega) hb _
  ·rw[h.tk_low (by omega) (by omega)];exact h.rd_red m (by omega) k b h1 (by omega) hb
theorem Tri.rd_zero (h:Tri n W F p){lo z:Nat}{f:Nat->Int}(hz:∀j,j<z->f j=0):∀m,lo+m<=W->∀j,j<z->rd F p lo m f j=0
 |0,_,j,hj=>hz j hj
 |m+1,hm,j,hj=>by
  have ih:=h.rd_zero (lo:=lo) hz m (by omega);show tk F p (lo+m) _ j=0
  by_cases e:lo+m<z
  ·rw[tk_zero (ih _ e)];exact ih j hj
  ·rw[h.tk_low (by omega) (by omega)];exact ih j hj
theorem q_w {k:Nat}{f:Nat->Int}(e:∀a,p k=some a->F' a=F a):tk F' p k f=tk F p k f:=by
 unfold tk;split
 ·rfl
 ·rename_i b hb;rw[e b hb]
theorem q_9 {lo:Nat}{f:Nat->Int}:∀m,(∀k a,lo<=k->k<lo+m->p k=some a->F' a=F a)->rd F' p lo m f=rd F p lo m f
 |0,_=>rfl
 |m+1,e=>by
  show tk F' p (lo+m) (rd F' p lo m f)=tk F p (lo+m) (rd F p lo m f)
  rw[q_9 (f:=f) m fun k a h1 h2=>e k a h1 (by omega)];exact q_w fun a=>e _ a (by omega) (by omega)
theorem r_m {a k:Nat}(ha:a<n)(f:Nat->Int)(hb:∀b,p k=some b->b<n/\b≠a)(v:Nat->Int):Lat n W (upd F a (tk F p k f)) v↔Lat n W (upd F a f) v:=by
 unfold tk;split
 ·exact Iff.rfl
 ·rename_i b e;obtain⟨h1,h2⟩:=hb b e
  have:=p_u (F:=upd F a f) (W:=W) ha h1 h2 (f k / F b k) v;rw[upd_self,upd_upd,upd_ne h2]at this;exact this
theorem i_l {a lo:Nat}(ha:a<n)(f:Nat->Int):∀m,(∀k b,lo<=k->k<lo+m->p k=some b->b<n/\b≠a)->∀v,Lat n W (upd F a (rd F p lo m f)) v↔Lat n W (upd F a f) v
 |0,_,v=>Iff.rfl
 |m+1,h,v=>(r_m ha _ (fun b e=>h _ b (by omega) (by omega) e) v).trans (i_l ha f m (fun k b h1 h2=>h k b h1 (by omega)) v)
theorem n_x {lo:Nat}{f:Nat->Int}:∀m,(∀k b,lo<=k->k<lo+m->p k=some b->b<n)->Lat n W F fun j=>f j - rd F p lo m f j
 |0,_=>(Lat.zero n W F).ext fun j _=>by show f j - f j=0;omega
 |m+1,h=>by
  have ih:=n_x (f:=f) m fun k b h1 h2=>h k b h1 (by omega);show Lat n W F fun j=>f j - tk F p (lo+m) (rd F p lo m f) j
  cases e:p (lo+m)with
  |none=>rw[tk_none e];exact ih
  |some b=>
   rw[tk_some e];exact(ih.add ((Lat.row n W F (h _ b (by omega) (by omega) e)).smul _)).ext fun j _=>by
    show f j - (rd F p lo m f j - rd F p lo m f (lo+m) / F b (lo+m)*F b j)=f j - rd F p lo m f j+rd F p lo m f (lo+m) / F b (lo+m)*F b j
    omega
end DT
end
end Go.Proofs.YtfhbdlegkdbmfaaGreat
