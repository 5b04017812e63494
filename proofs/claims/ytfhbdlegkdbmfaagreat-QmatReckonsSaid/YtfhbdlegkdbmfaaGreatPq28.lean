/- Pq28 -/
import Derived.Test.YtfhbdlegkdbmfaaGreatPq27
import Derived.RangeFuncNested
import Derived.RangeFuncBound
import Derived.RangeFuncCalls
import Derived.RangeFuncLeaves
import Derived.RangeFuncBox
import Derived.Shelf.Abstract
import Derived.Shelf.RegionOpen
import Derived.OwnWalkIn
import Derived.TacticsInMore
import Derived.LoopNIn
import Derived.LoopIn
set_option linter.unusedVariables false
set_option linter.unusedSimpArgs false
set_option linter.unusedSectionVars false
set_option maxRecDepth 100000
set_option maxHeartbeats 8000000
namespace Go.Proofs.YtfhbdlegkdbmfaaGreat
section
namespace In
open Go.RowKit Go.Proofs.YtfhbdlegkdbmfaaGreat
section
variable {P:Program}{ops:Array Oper}{Q:Exit->Act->World->Prop}{m i:Nat}{a0 a:Act}{w0 w:World}{l:List FK}
def Run (b:Nat × Nat)(id:Nat)(P:Program)(ops:Array Oper)(Q:Exit->Act->World->Prop)(m:Nat)(a0:Act)(w0:World)(l:List FK)(i:Nat):Prop:=
 l.length=i->AllK P ops Q m a0 w0 l->(Code.region id ops true).wpIn (Fence.wide.inRound b.1) b.2 P Q a0 w0
theorem Run.start {ln n:Nat}{id:Nat}(m:Nat)(h:Run (ln,n) id P ops Q m a0 w0 [] 0):(Code.region id ops true).wpIn (Fence.wide.inRound ln) n P Q a0 w0:=h rfl trivial
variable {b:Nat × Nat}{id:Nat}
theorem Run.step {x:FK}(hn:isAlloc (opAt ops i)=none)(hx:∀T,x≠ .a T)(h:HopK P ops Q m a0 w0 l i x)(rest:Run b id P ops Q m a0 w0 (x::l) (i+1)):Run b id P ops Q m a0 w0 l i:=fun hl hall=>by
 subst hl;refine rest rfl ⟨?_,hall⟩;cases x with
 |a T=>exact absurd rfl (hx T)
 |k v=>exact⟨hn,h⟩
 |f F hF=>exact⟨hn,h⟩
theorem Run.al {T:TypeId}(rest:Run b id P ops Q m a0 w0 (.a T::l) (i+1))(hT:isAlloc (opAt ops i)=some T:=by rfl):Run b id P ops Q m a0 w0 l i:=fun hl hall=>by
 subst hl;exact rest rfl ⟨hT,hall⟩
theorem Run.gen {x:FK}(hc:okH ops m i=true)(hx:∀T,x≠ .a T)(hg:Gd l i (opAt ops i))
  (H:∀a w,Here ops m a0 w0 l i a w->∀K:Act->World->Prop,(∀v w',x.F v w'->Below w.heap.size w w'->K (a.put (opAt ops i).dst v) w')->(opAt ops i).wp P a w K Q)
  (rest:Run b id P ops Q m a0 w0 (x::l) (i+1)):Run b id P ops Q m a0 w0 l i:=
 Run.step (c_9 hc).1 hx (fun a w h K hK=>by
  rw[if_pos (h.guard hg (c_9 hc).2)];exact H a w h K hK) rest
theorem Run.val {x:FK}(hc:okH ops m i=true)(hx:∀T,x≠ .a T)(hg:Gd l i (opAt ops i))
  (H:∀a w,Here ops m a0 w0 l i a w->∃v,(execOp a.eval (opAt ops i)).run P w= .ok (.value v) w/\x.F v w)
  (rest:Run b id P ops Q m a0 w0 (x::l) (i+1)):Run b id P ops Q m a0 w0 l i:=
 Run.gen hc hx hg (fun a w h K hK=>by
  obtain⟨v,h1,h2⟩:=H a w h;unfold Oper.wp;rw[h1];exact hK v w h2 (Below.refl _ _)) rest
theorem Run.mv (s:Src){v:Value}(rest:Run b id P ops Q m a0 w0 ((.k v)::l) (i+1))(hc:okMv ops m i s=true:=by kernel_rfl)(hg:Gd l i (opAt ops i):=by first|exact trivial|exact rfl)(hv:s.K l i a0 (mvX ops i)= .k v:=by rfl):Run b id P ops Q m a0 w0 l i:=
 Run.val (m_j hc) (FK.kne v) hg (fun a w h=>⟨_,(f_q (P:=P) hc h).1,by rw[<-hv];exact(f_q (P:=P) hc h).2⟩) rest
theorem Run.mf (s:Src){F:FVal}{hF:Stays F}(rest:Run b id P ops Q m a0 w0 ((.f F hF)::l) (i+1))(hc:okMv ops m i s=true:=by kernel_rfl)(hg:Gd l i (opAt ops i):=by first|exact trivial|exact rfl)(hv:s.K l i a0 (mvX ops i)= .f F hF:=by rfl):Run b id P ops Q m a0 w0 l i:=
 Run.val (m_j hc) (FK.fne hF) hg (fun a w h=>⟨_,(f_q (P:=P) hc h).1,by rw[<-hv];exact(f_q (P:=P) hc h).2⟩) rest
theorem Run.ld (s:Src){T:TypeId}{p v:Value}(hr:∀w,Below w0.heap.size w0 w->(Instr.loadAt T p).run P w= .ok v w)(rest:Run b id P ops Q m a0 w0 ((.k v)::l) (i+1))(hc:okLd ops m i s T=true:=by kernel_rfl)(hg:Gd l i (opAt ops i):=by first|exact trivial|exact rfl)(hx:s.K l i a0 (mvX ops i)= .k p:=by rfl):Run b id P ops Q m a0 w0 l i:=by
 unfold okLd at hc;rw[Bool.and_eq_true]at hc;obtain⟨h1,h2⟩:=hc;refine Run.val h1 (FK.kne v) hg (fun a w h=>⟨v, ?_,rfl⟩) rest;unfold mvX at hx;unfold execOp;cases e:(opAt ops i).op<;>simp only[e]at h2 hx<;>try cases h2
 rw[Bool.and_eq_true,beq_iff_eq]at h2;obtain⟨rfl,h2⟩:=h2;simp only[h.srcK h2 hx];simp[hr w h.below]
theorem Run.fa (s:Src){T:TypeId}{f:Nat}{p v:Value}(hr:∀w,(Instr.fieldAt T p f).run P w= .ok v w)(rest:Run b id P ops Q m a0 w0 ((.k v)::l) (i+1))(hc:okFa ops m i s T f=true:=by kernel_rfl)(hg:Gd l i (opAt ops i):=by first|exact trivial|exact rfl)(hx:s.K l i a0 (mvX ops i)= .k p:=by rfl):Run b id P ops Q m a0 w0 l i:=by
 unfold okFa at hc;rw[Bool.and_eq_true]at hc;obtain⟨h1,h2⟩:=hc;refine Run.val h1 (FK.kne v) hg (fun a w h=>⟨v, ?_,rfl⟩) rest;unfold mvX at hx;unfold execOp;cases e:(opAt ops i).op<;>simp only[e]at h2 hx<;>try cases h2
 rw[Bool.and_eq_true,Bool.and_eq_true,beq_iff_eq,beq_iff_eq]at h2;obtain⟨⟨rfl,rfl⟩,h2⟩:=h2;simp only[h.srcK h2 hx];simp[hr w]
theorem Run.two (s t:Src){u v r:Value}(hr:∀w,RunTwo P (opAt ops i).op w u v r)(rest:Run b id P ops Q m a0 w0 ((.k r)::l) (i+1))(hc:okTwo ops m i s t=true:=by kernel_rfl)(hg:Gd l i (opAt ops i):=by first|exact trivial|exact rfl)(hx:s.K l i a0 (twoX ops i).1= .k u:=by rfl)(hy:t.K l i a0 (twoX ops i).2= .k v:=by rfl):Run b id P ops Q m a0 w0 l i:=by
 unfold okTwo at hc;rw[Bool.and_eq_true]at hc;obtain⟨h1,h2⟩:=hc;refine Run.val h1 (FK.kne r) hg (fun a w h=>⟨r, ?_,rfl⟩) rest;unfold twoX at hx hy;have hr:=hr w;unfold RunTwo at hr;unfold execOp;cases e:(opAt ops i).op<;>simp only[e]at h2 hx hy hr<;>try cases h2
 all_goals
  rw[Bool.and_eq_true]at h2;simp only[h.srcK h2.1 hx,h.srcK h2.2 hy];simp only[Sem.run_bind,Result.andThen]at hr ⊢;simp[hr]
theorem Run.ex {x:FK}(s:Src)(j:Nat)(hv:∀v w,(s.K l i a0 (mvX ops i)).F v w->∃vs:Array Value,∃u,v= .tuple vs/\vs[j]? =some u/\x.F u w)(rest:Run b id P ops Q m a0 w0 (x::l) (i+1))(hx:∀T,x≠ .a T:=by first|exact FK.kne _|exact FK.fne _)(hc:okEx ops m i s j=true:=by kernel_rfl)(hg:Gd l i (opAt ops i):=by first|exact trivial|exact rfl):Run b id P ops Q m a0 w0 l i:=by
 unfold okEx at hc;rw[Bool.and_eq_true]at hc;obtain⟨h1,h2⟩:=hc;refine Run.val h1 hx hg (fun a w h=>?_) rest;unfold mvX at hv;cases e:(opAt ops i).op<;>simp only[e]at h2 hv<;>try cases h2
 rw[Bool.and_eq_true,beq_iff_eq]at h2;obtain⟨rfl,h2⟩:=h2;rename_i x' _;obtain⟨vs,u,e1,e2,e3⟩:=hv _ _ (h.src h2);have e1:a.eval x'= .tuple vs:=e1;refine⟨u, ?_,e3⟩;unfold execOp;simp only[e,e1];simp[go_sem,e2]
theorem d_g {x:FK}{n:Nat}(hc:okCall ops m i n=true)(hx:∀T,x≠ .a T)(hg:Gd l i (opAt ops i))(hent:∀args w,(callFunc (callF ops i) args).run P w= .ok (.enter (callF ops i) args) w)
  (H:∀a w,Here ops m a0 w0 l i a w->Calls P (callF ops i) (((List.range n).map fun j=>a.eval (callX ops i j)).toArray) w (RetK x w)) (rest:Run b id P ops Q m a0 w0 (x::l) (i+1)):Run b id P ops Q m a0 w0 l i:=by
 obtain⟨h1,f,xs,ts,e,h2⟩:=f_p hc;refine Run.gen h1 hx hg (fun a w h K hK=>?_) rest;have H1:=H a w h;have hF:callF ops i=f:=by unfold callF opF;rw[e]
 have hX:xs.map a.eval=(((List.range n).map fun j=>a.eval (callX ops i j)).toArray):=by
  apply Array.ext
  ·simp[h2]
  ·intro j hj1 hj2;simp[callX,opA,e];simp at hj1;simp[hj1]
 rw[hF]at hent H1;unfold Oper.wp;have he:(execOp a.eval (opAt ops i)).run P w= .ok (.enter f (((List.range n).map fun j=>a.eval (callX ops i j)).toArray)) w:=by
  unfold execOp;rw[e];simp only[resolve,hX,Act.eval,Deferred.ofValue];simpa [invoke] using hent _ w
 rw[he,Oper.upon_enter];refine H1.mono fun e w' h=>?_;obtain⟨u,rfl,hu,hb⟩:=h;exact hK u w' hu hb
end
section
variable {ops:Array Oper}{Q:Exit->Act->World->Prop}{m i:Nat}{a0 a:Act}{w0 w:World}{l:List FK}{b:Nat × Nat}{id:Nat}{x:FK}
theorem Run.cv2 (s s1 s2:Src){f:FuncId}{first captured:Array Value}(hf:s.K l i a0 (opV (opAt ops i).op)= .k (.func (.func f) first captured))(hgo:goes f=true)
  (H:∀u v w,Below w0.heap.size w0 w->(s1.K l i a0 (callX ops i 0)).F u w->(s2.K l i a0 (callX ops i 1)).F v w->Calls Tryz.prog f (first++ #[u,v]++captured) w (RetK x w))
  (rest:Run b id Tryz.prog ops Q m a0 w0 (x::l) (i+1)) (hx:∀T,x≠ .a T:=by first|exact FK.kne _|exact FK.fne _) (hc:okCV ops m i s [s1,s2]=true:=by kernel_rfl) (hg:Gd l i (opAt ops i):=by first|exact trivial|exact rfl):Run b id Tryz.prog ops Q m a0 w0 l i:=by
 unfold okCV at hc;simp only[Bool.and_eq_true]at hc;obtain⟨⟨h1,h2⟩,h3⟩:=hc;refine Run.gen h1 hx hg (fun a w h K hK=>?_) rest;have g1:=List.all_eq_true.1 h3 0 (List.mem_range.2 (by simp));have g2:=List.all_eq_true.1 h3 1 (List.mem_range.2 (by simp));have H1:=H _ _ w h.below (h.src g1) (h.src g2);split at h2
 ·rename_i y xs ts e;simp only[Bool.and_eq_true,beq_iff_eq]at h2;have e0:opV (opAt ops i).op=y:=by rw[e];rfl
  rw[e0]at hf;have ey:=h.srcK h2.1 hf;have hX:xs.map a.eval= #[a.eval (callX ops i 0),a.eval (callX ops i 1)]:=by
   have h22:xs.size=2:=h2.2;apply Array.ext
   ·simp[h22]
   ·intro j hj1 hj2;simp at hj2;match j,hj2 with
    |0,_=>simp[callX,opA,e,h22]
    |1,_=>simp[callX,opA,e,h22]
  unfold Oper.wp;have he:(execOp a.eval (opAt ops i)).run Tryz.prog w= .ok (.enter f (first++ #[a.eval (callX ops i 0),a.eval (callX ops i 1)]++captured)) w:=by
   unfold execOp;rw[e];simp only[resolve,hX,ey,Deferred.ofValue];simpa [invoke] using ent7 hgo (first++ #[a.eval (callX ops i 0),a.eval (callX ops i 1)]++captured) w
  rw[he,Oper.upon_enter];refine H1.mono fun e w' h=>?_;obtain⟨u,rfl,hu,hb⟩:=h;exact hK u w' hu hb
 ·cases h2
abbrev R (ops:Array Oper)(Q:Exit->Act->World->Prop)(m:Nat)(a0:Act)(w0:World)(b:Nat × Nat)(id:Nat)(l:List FK)(i:Nat):Prop:=Run b id Tryz.prog ops Q m a0 w0 l i
theorem Run.nc {ops:Array Oper}{Q:Exit->Act->World->Prop}{m i:Nat}{a0:Act}{w0:World}{l:List FK}{b:Nat × Nat}{id:Nat}(s:Src){p:Addr}(rest:R ops Q m a0 w0 b id (.k (.pointer (some p))::l) (i+1))(hc:okNc ops m i s=true:=by kernel_rfl)(hg:Gd l i (opAt ops i):=by first|exact trivial|exact rfl)(hx:s.K l i a0 (ncX (opAt ops i).op)= .k (.pointer (some p)):=by rfl):R ops Q m a0 w0 b id l i:=by
 unfold okNc at hc;rw[Bool.and_eq_true]at hc;obtain⟨h1,h2⟩:=hc;refine Run.val h1 (FK.kne _) hg (fun a w h=>⟨.pointer (some p), ?_,rfl⟩) rest;unfold ncX at hx;unfold execOp;cases e:(opAt ops i).op<;>simp only[e]at h2 hx<;>try cases h2
 simp only[h.srcK h2 hx];simp[go_sem]
theorem Run.c2 (s t:Src)(H:∀u v w,Below w0.heap.size w0 w->(s.K l i a0 (callX ops i 0)).F u w->(t.K l i a0 (callX ops i 1)).F v w->Calls Tryz.prog (callF ops i) #[u,v] w (RetK x w))(rest:R ops Q m a0 w0 b id (x::l) (i+1))(hx:∀T,x≠ .a T:=by first|exact FK.kne _|exact FK.fne _)(hc:okC ops m i [s,t]=true:=by kernel_rfl)(hg:Gd l i (opAt ops i):=by first|exact trivial|exact rfl):R ops Q m a0 w0 b id l i:=
 d_g (n:=2) (b_t hc).1 hx hg (fun args w=>ent7 (b_t hc).2.1 args w) (fun a w h=>H _ _ w h.below (h.src ((b_t hc).2.2 0 s rfl)) (h.src ((b_t hc).2.2 1 t rfl))) rest
end
section
variable {P:Program}{ops:Array Oper}{Q:Exit->Act->World->Prop}
theorem v_w {ln n i:Nat}{K K':Act->World->Prop}{a:Act}{w:World}(hnd:noDefer ops=true)(hlo:¬LetsOut Q)(hk:∀a w,K a w->K' a w)(h:wpOp P ops Q i K a w):wpOpIn (Fence.wide.inRound ln) n P ops Q i K' a w:=by
 refine wpOpIn_mono hk ?_;unfold wpOp at h;unfold wpOpIn;cases ho:ops[i]? with
 |none=>rw[ho]at h;exact h
 |some o=>
  rw[ho]at h;simp only at h ⊢;split
  ·rename_i hw;rw[if_pos hw]at h;rcases h with h|h
   ·exact v_t (n_r hnd ho) h
   ·exact absurd h.2 hlo
  ·rename_i hw;rw[if_neg hw]at h;exact⟨fun _ _=>trivial,h⟩
theorem q_q {ln n:Nat}{md:Region.Mode}(hnd:noDefer ops=true)(hlo:¬LetsOut Q):∀(fuel:Nat) (listed:Array Bool) (a:Act) (w:World),wpAny P md ops Q fuel listed a w->wpAnyIn (Fence.wide.inRound ln) n P md ops Q fuel listed a w
 |0,listed,a,w,h=>h
 |fuel+1,listed,a,w,h=>⟨h.1,fun i hi=>v_w hnd hlo (fun a w h=>q_q hnd hlo fuel _ a w h) (h.2 i hi)⟩
theorem d_7 {a0:Act}{w0:World}(fl:List Nat)(m:Nat)(Fs:List FVal)(Z:TypeId->Obj)(hmix:P.follows .mixedOrders=true)
  (hQ:∀c a d v w,Q (.panic c) (a.put d v) w->Q (.panic c) a w)
  (hok:regionOk ops fl m a0.tmps.size=true)
  (ok:TypeId->Bool) (hzl:(allocTs ops m).all ok=true) (hz:∀T,ok T=true->∀w:World,(Instr.alloc T true (.tuple #[])).run P w= .ok (.pointer (some ⟨w.heap.size,0,none⟩)) (w.alloc (Z T)))
  (hg:(List.range m).all (fun k=>((ops[k]?).bind isAlloc).isNone || ((ops[k]?).map (·.guard))==some none)=true)
  (hs:StayAll Fs) (hops:HopAll P ops Q fl m a0 w0 Fs 0 (ops.toList.take m))
  (hend:∀w,Below w0.heap.size w0 w->EndAll P ops Q m w0 Z Fs w [] 0 (ops.toList.take m) a0):
  wpAny P .any ops Q ops.size (Array.replicate ops.size false) a0 { w0 with drawn:=w0.drawn+1 }:=by
 obtain⟨hm,hsl,htl,hlt,hfl,hnos⟩:=b_s hok;have uniq:∀j k x,j<m->k<m->j≠k->slotOf ops j=some x->slotOf ops k≠some x:=fun j k x hj hk hne ej ek=>by
  rcases Nat.lt_or_gt_of_ne hne with h|h
  ·obtain⟨y,e,-,h3⟩:=hsl k hk;rw[ek]at e;cases e;exact h3 j h ej
  ·obtain⟨y,e,-,h3⟩:=hsl j hj;rw[ej]at e;cases e;exact h3 k h ek
 let J:Array Bool->Act->World->Prop:=fun listed a w=>
  ((∀k,m<=k->listed.getD k false=false)/\Inv ops m a0 w0 Z Fs listed a w)\/
  (∃r,m<r/\r<=ops.size/\(∀k,k<ops.size->(listed.getD k false=true↔k<r))/\wpOps P ops Q (List.range' r (ops.size - r)) a w)
 have fin:=g_j (P:=P) (Q:=Q) (Z:=Z) hok hend;refine e_l J hnos hQ ?_ ?_ _ _ _ _ ?_ (by simp) (fun i hi=>?_) (.inl ⟨fun k _=>?_, ?_⟩)
 ·
  intro listed a w hsz hd hj;have htail':∀i,i<m->(∀k,m<=k->listed.getD k false=false)->∀k,m<=k->(listed.setIfInBounds i true).getD k false=false:=fun i him htail k hk=>by
   have:=htail k hk;cases hc:(listed.setIfInBounds i true).getD k false with
   |false=>rfl
   |true=>
    rcases b_0 listed i k hc with e|e
    ·omega
    ·rw[e]at this;cases this
  have hto:∀i o,i<m->ops[i]? =some o->(ops.toList.take m)[i]? =some o:=fun i o him ho=>by
   rw[List.getElem?_take_of_lt him];simpa using ho
  have hpr:∀i,i∈Region.ready .any ops listed->Inv ops m a0 w0 Z Fs listed a w->∀k d,((predsOf ops i).contains k&&slotOf ops k==some d&&((ops[k]?).bind isAlloc).isNone&&decide (k<m))=true->nthF Fs k (a.eval (.tmp d)) w:=by
   intro i hi H k d' hkd;simp only[Bool.and_eq_true,decide_eq_true_iff,beq_iff_eq,List.contains_iff_mem]at hkd;obtain⟨⟨⟨h1,h2⟩,h3⟩,h4⟩:=hkd
   have:=H.facts k h4 ((b_a hi).2.2 k h1) d' h2;unfold FOf at this;rw[Option.isNone_iff_eq_none.1 h3]at this;exact this
  have hoff:Inv ops m a0 w0 Z Fs listed a w->∀t,(List.range m).all (fun k=>slotOf ops k != some t)=true->a.eval (.tmp t)=a0.eval (.tmp t):=fun H t ht=>H.off t (fun k hk=>by
   rw[List.all_eq_true]at ht;simpa using ht k (List.mem_range.2 hk))
  by_cases hfloat:∃i,i∈fl/\i∈Region.ready .any ops listed/\∀k,m<=k->listed.getD k false=false
  ·obtain⟨i,hif,hi,htail⟩:=hfloat;obtain⟨him,hal,hna⟩:=hfl i hif;obtain⟨hu,hin,hpre⟩:=b_a hi;rcases hj with⟨-,H⟩|⟨r,hmr,hrn,hlr,-⟩
   ·obtain⟨d,hdst,hdlt,-⟩:=hsl i him;obtain⟨o,ho⟩:∃o,ops[i]? =some o:=⟨ops[i],by simp[hin]⟩;have hod:o.dst=some d:=by unfold slotOf at hdst;rw[ho]at hdst;exact hdst
    have ha:isAlloc o=none:=by rw[ho]at hna;exact hna
    have hop:=HopAll.at hops i o (hto i o him ho) ha;rw[Nat.zero_add,if_pos (by simpa using hif)]at hop;obtain⟨v,hF,hy⟩:=hop a w H.below (hoff H) (hpr i hi H);refine .inl ⟨i,o,v,hi,ho,hal,hy,.inl ⟨htail' i him htail, ?_⟩⟩;rw[hod];refine Inv.step hok hs H hsz him hu hdst ?_ (Below.refl _ _) (fun hc=>by rw[hna]at hc;cases hc);unfold FOf;rw[hna];exact hF
   ·exfalso
    have:=(hlr (r - 1) (by omega)).2 (by omega);rw[htail (r - 1) (by omega)]at this;cases this
  refine .inr fun i hi=>?_;obtain⟨hu,hin,hpre⟩:=b_a hi;rcases hj with⟨htail,H⟩|⟨r,hmr,hrn,hlr,hwp⟩
  ·by_cases him:i<m
   ·obtain⟨d,hdst,hdlt,-⟩:=hsl i him;obtain⟨o,ho⟩:∃o,ops[i]? =some o:=⟨ops[i],by simp[hin]⟩;have hod:o.dst=some d:=by unfold slotOf at hdst;rw[ho]at hdst;exact hdst
    cases ha:isAlloc o with
    |some T=>
     have hop:o.op= .alloc T:=by
      unfold isAlloc at ha;split at ha
      ·cases ha;assumption
      ·cases ha
     have hgd:o.guard=none:=by
      rw[List.all_eq_true]at hg
      have:=hg i (List.mem_range.2 him);rw[ho]at this;simp[ha]at this;exact this
     unfold wpOp;rw[ho];simp only[Region.wanted,hgd,if_true];refine .inl ?_;unfold Oper.wp;have hrun:(execOp a.eval o).run P w= .ok (.value (.pointer (some ⟨w.heap.size,0,none⟩))) (w.alloc (Z T)):=by
      have hr:=hz T (List.all_eq_true.1 hzl T (List.mem_filterMap.2 ⟨i,List.mem_range.2 him,by rw[ho];simp[ha]⟩)) w;unfold execOp;rw[hop];simp[hr]
     rw[hrun,Oper.upon_value,hod];refine .inl ⟨htail' i him htail,Inv.step hok hs H hsz him hu hdst ?_ ((Below.refl _ _).alloc (Nat.le_refl _) _) (fun _=>⟨_,rfl,Nat.le_refl _⟩)⟩;unfold FOf;rw[ho,Option.bind_some,ha];refine⟨w.heap.size,rfl,H.below.size,by simp, ?_⟩;show(w.heap.push (Z T))[w.heap.size]? =_
     simp
    |none=>
     have hnf:¬i∈fl:=fun h=>hfloat ⟨i,h,hi,htail⟩;have hop:=HopAll.at hops i o (hto i o him ho) ha;rw[Nat.zero_add,if_neg (by simpa using hnf)]at hop;have hK:∀v w',nthF Fs i v w'->Below w.heap.size w w'->J (listed.setIfInBounds i true) (a.put o.dst v) w':=by
      intro v w' hF hb;rw[hod];refine Or.inl ⟨htail' i him htail,Inv.step hok hs H hsz him hu hdst ?_ hb (fun hc=>by rw[ho,Option.bind_some,ha]at hc;cases hc)⟩;unfold FOf;rw[ho,Option.bind_some,ha];exact hF
     have:=hop a w H.below (hoff H) (hpr i hi H) _ hK;unfold wpOp;rw[ho];simp only;split
     ·rename_i hw;rw[if_pos hw]at this;exact .inl this
     ·rename_i hw;rw[if_neg hw]at this;exact this
   ·have hcov0:=a_w hd hi (htl i (by omega) hin);have hcov:∀j,j<i->listed.getD j false=true:=by
     intro j;induction j using Nat.strongRecOn with
     |ind j ih=>
      intro hji;by_cases hjf:j∈fl
      ·cases hc:listed.getD j false with
       |true=>rfl
       |false=>exact absurd ⟨j,hjf,d_w hsz (by omega) hc (fun k hk=>by have:=hlt j (by omega) k hk;exact ih k this (by omega)),htail⟩ hfloat
      ·exact hcov0 j hji hjf
    have him':i=m:=by
     rcases Nat.lt_or_ge m i with h|h
     ·have:=hcov m h;rw[htail m (Nat.le_refl _)]at this;cases this
     ·omega
    subst him';have hall:=fin listed a w H hcov;rw[show ops.size - i=(ops.size - i - 1)+1 by omega,List.range'_succ,wpOps_cons]at hall;refine wpOp_mono (fun a' w' h'=>?_) hall;refine .inr ⟨i+1,by omega,hin,fun k hk=>⟨fun h=>?_,fun h=>?_⟩, ?_⟩
    ·rcases b_0 listed i k h with e|e
     ·omega
     ·rcases Nat.lt_or_ge k i with h1|h1
      ·omega
      ·rw[htail k h1]at e;cases e
    ·rcases Nat.lt_or_eq_of_le (Nat.le_of_lt_succ h)with h1|h1
     ·exact a_o (hcov k h1)
     ·subst h1;exact b_n (by omega)
    ·rw[show ops.size - (i+1)=ops.size - i - 1 by omega];exact h'
  ·have hri:r<=i:=by
    rcases Nat.lt_or_ge i r with h|h
    ·have:=(hlr i hin).2 h;rw[b_h hu]at this;cases this
    ·exact h
   have hcov0:=a_w hd hi (htl i (by omega) hin);have hcov:∀j,j<i->listed.getD j false=true:=fun j hj=>by
    rcases Nat.lt_or_ge j r with h|h
    ·exact(hlr j (by omega)).2 h
    ·exact hcov0 j hj (fun hjf=>by have:=(hfl j hjf).1;omega)
   have him':i=r:=by
    rcases Nat.lt_or_ge r i with h|h
    ·have:=(hlr r (by omega)).1 (hcov r h);omega
    ·omega
   subst him';rw[show ops.size - i=(ops.size - i - 1)+1 by omega,List.range'_succ,wpOps_cons]at hwp;refine wpOp_mono (fun a' w' h'=>?_) hwp;refine .inr ⟨i+1,by omega,hin,fun k hk=>⟨fun h=>?_,fun h=>?_⟩, ?_⟩
   ·rcases b_0 listed i k h with e|e
    ·omega
    ·have:=(hlr k hk).1 e;omega
   ·rcases Nat.lt_or_eq_of_le (Nat.le_of_lt_succ h)with h1|h1
    ·exact a_o ((hlr k hk).2 h1)
    ·subst h1;exact b_n (by omega)
   ·rw[show ops.size - (i+1)=ops.size - i - 1 by omega];exact h'
 ·
  intro listed a w hsz hd hj hr;have hall:∀k,k<ops.size->listed.getD k false=true:=by
   intro k;induction k using Nat.strongRecOn with
   |ind k ih=>
    intro hk;cases hc:listed.getD k false with
    |true=>rfl
    |false=>
     exfalso
     have hmem:k∈Region.ready .any ops listed:=d_w hsz hk hc (fun j hj=>by have:=hlt k hk j hj;exact ih j this (by omega));rw[hr]at hmem;cases hmem
  rcases hj with⟨htail,H⟩|⟨r,hmr,hrn,hlr,hwp⟩
  ·have hsm:ops.size=m:=by
    rcases Nat.lt_or_ge m ops.size with h|h
    ·have:=hall m h;rw[htail m (Nat.le_refl _)]at this;cases this
    ·omega
   have:=fin listed a w H (fun k hk=>hall k (by omega));rw[hsm,Nat.sub_self]at this;simpa [wpOps] using this
  ·have hsr:ops.size=r:=by
    rcases Nat.lt_or_ge r ops.size with h|h
    ·have:=(hlr r h).1 (hall r h);omega
    ·omega
   rw[hsr,Nat.sub_self]at hwp;simpa [wpOps] using hwp
 ·unfold openOf;simp
 ·simp[Array.getD]at hi
 ·simp[Array.getD]
 ·refine⟨rfl,rfl,fun _ _=>rfl,(Below.refl _ _).drew,fun k _ hl=>?_,fun j k _ _ _ _ hl=>?_⟩
  ·simp[Array.getD]at hl
  ·simp[Array.getD]at hl
end
section
variable {ops:Array Oper}{Q:Exit->Act->World->Prop}{m i:Nat}{a0 a:Act}{w0 w:World}{l:List FK}{b:Nat × Nat}{id:Nat}{x:FK}
theorem Run.done (ds:List (Option Nat))(hend:∀w,Below w0.heap.size w0 w->EndQ ops Q m w0 w [] l.reverse ds a0)(hlo:¬LetsOut Q:=by exact fun⟨_,_,h⟩=>h)(hok:okQ ops m a0.tmps.size=true:=by kernel_rfl)(hnd:noDefer ops=true:=by kernel_rfl)(hds:(ops.toList.take m).map (·.dst)=ds:=by rfl)(hi:i=m:=by rfl)(hQ:∀c a d v w,Q (.panic c) (a.put d v) w->Q (.panic c) a w:=by(intro _ _ d _ _ h;cases d<;>exact h)):R ops Q m a0 w0 b id l i:=fun hl hall=>by
 unfold okQ at hok;simp only[Bool.and_eq_true]at hok;subst hi;have h:=g_p (b_s hok.1).1 hl hall i 0 rfl;exact wpIn_region_any (by kernel_rfl) (q_q hnd hlo _ _ _ _ (d_7 [] i (fsOf l.reverse) zeroObj (by kernel_rfl) hQ hok.1 okZ hok.2.1 (fun T h w=>c_r h w) hok.2.2 (fsOf_stay l.reverse) h.1 (fun w hw=>c_0 _ l.reverse l.reverse [] 0 a0 h.2 (fun j _=>by rw[Nat.zero_add]) (by rw[hds];exact hend w hw))))
theorem Run.donef (fl:List Nat)(ds:List (Option Nat))(hfl:∀i,fl.contains i=true->i<m->FloatAt Tryz.prog ops m a0 w0 (fsOf l.reverse) i (opAt ops i))(hend:∀w,Below w0.heap.size w0 w->EndQ ops Q m w0 w [] l.reverse ds a0)(hlo:¬LetsOut Q:=by exact fun⟨_,_,h⟩=>h)(hok:okQf ops fl m a0.tmps.size=true:=by kernel_rfl)(hnd:noDefer ops=true:=by kernel_rfl)(hds:(ops.toList.take m).map (·.dst)=ds:=by rfl)(hi:i=m:=by rfl)(hQ:∀c a d v w,Q (.panic c) (a.put d v) w->Q (.panic c) a w:=by(intro _ _ d _ _ h;cases d<;>exact h)):R ops Q m a0 w0 b id l i:=fun hl hall=>by
 unfold okQf at hok;simp only[Bool.and_eq_true]at hok;subst hi;have h:=m_m (fl:=fl) (b_s hok.1).1 hl hall hfl i 0 rfl;exact wpIn_region_any (by kernel_rfl) (q_q hnd hlo _ _ _ _ (d_7 fl i (fsOf l.reverse) zeroObj (by kernel_rfl) hQ hok.1 okZ hok.2.1 (fun T h w=>c_r h w) hok.2.2 (fsOf_stay l.reverse) h.1 (fun w hw=>c_0 _ l.reverse l.reverse [] 0 a0 h.2 (fun j _=>by rw[Nat.zero_add]) (by rw[hds];exact hend w hw))))
end
end In
end
section
open Go.RowKit Go.Shelf
attribute [local go_sem] Oper.semAt_some
def upto {α:Type}(f:Nat->α)(k:Nat):List α:=(List.range k).map f
theorem g_a {α:Type}(f:Nat->α)(k:Nat):upto f (k+1)=upto f k++[f k]:=by simp[upto,List.range_succ]
theorem k_h {α:Type}(f:Nat->α)(k:Nat):(upto f k).length=k:=by simp[upto]
def KeepB (n₀ b:Nat)(W W':World):Prop:=Below n₀ W W'/\W'.heap[b]? =W.heap[b]?
theorem k_9 {n₀ b:Nat}{A B C:World}(h:KeepB n₀ b A B)(k:KeepB n₀ b B C):KeepB n₀ b A C:=⟨h.1.trans k.1,k.2.trans h.2⟩
theorem w_a {n₀ b:Nat}{w:World}(hn:n₀<=w.heap.size)(hb:b<w.heap.size)(W:World)(l:Nat)(o o':Obj)(hl:w.heap.size<=l)(h:W.heap[l]? =some o)(h1:o.isCells=false)(h2:o.isWalk=false):KeepB n₀ b W (W.putObj l o'):=
 ⟨belowK_b hn W l o o' hl h h1 h2,World.putObj_heap_other (fun e=>by omega)⟩
end
section
open Go.RowKit Go.Shelf
attribute [local go_sem] Oper.semAt_some
def rargs (n:Nat)(rows:List Value)(x:Nat):Array Value:=#[Value.int .i64 ((x%n:Nat):Int),rows.getD (x%n) undef]
def fromEndR (n k:Nat):Nat:=n - 1 - k
theorem q_o (F:Fence)(n_:Nat)(h7:F.fn 195)(hro:F.round=none)(hn:1<=n_)(l Bs n₀:Nat)(H n c:Nat)(rows:List Value)(hlen:n<=9223372036854775807)
  (hA:H<n₀) (J Jx:List Nat->World->Prop)
  (hY:∀pre x W,J pre W->pre.length<n->YieldAt F (n_ - 1) Tryz.prog l (rargs n rows x) W fun e W'=>
   (e= .returned (.bool true)/\J (pre++[x]) W'/\KeepB n₀ Bs W W')\/(e= .returned (.bool false)/\Jx (pre++[x]) W'))
  (W:World) (hBs:W.cell? ⟨Bs,0,none⟩=some (.slice (some ⟨H,0,none⟩) n c)) (hc:Bx W H 25 rows) (hR:n<=rows.length) (h0:J [] W):
  CallsIn F n_ Tryz.prog 195 #[.func (.yield l) #[] #[],.pointer (some ⟨Bs,0,none⟩)] W fun e W'=>(∃v,e= .returned v)/\
   ((∃ys,ys=upto (fromEndR n) n/\J ys W')\/(∃pre,(∃k,k<=n/\pre=upto (fromEndR n) k)/\Jx pre W')):=by
 obtain⟨m,hm⟩:∃m,n=m:=⟨_,rfl⟩;have hwr:IntKind.i64.wrap ((m:Int) - 1)=(m:Int) - 1:=by rw[IntKind.wrap_i64];omega
 refine callsIn_of_wp Tryz.func195 rfl h7 ?_ hro;simp only[Tryz.ntmps195,List.size_toArray,List.length_cons,List.length_nil,Nat.reduceAdd,Nat.reduceSub,Array.replicate_succ,Array.replicate_zero,List.push_toArray,List.append_toArray,List.nil_append,List.cons_append];rw[hm]at hBs
 gi_wp2
 gi_loopw [3] (fun i wr=>∃k:Nat,k<=m/\i= .int .i64 ((k:Int) - 1)/\J (upto (fromEndR n) (m - k)) wr/\KeepB n₀ Bs W wr)
  (fun i _=>(intOf i+1).toNat)
 case atStart=>exact⟨m,Nat.le_refl _,rfl,by rw[Nat.sub_self];exact h0,Below.refl _ _,rfl⟩
 case round=>
  obtain⟨k,hk,rfl,hJs,hnx⟩:=hrel;have hBr:wr.cell? ⟨Bs,0,none⟩=some (.slice (some ⟨H,0,none⟩) m c):=(World.cell?_of_block hnx.2).trans hBs;rcases k with _|k
  ·gi_wp2
   go_end0
   exact⟨⟨_,rfl⟩,.inl ⟨_,rfl,by have h9:=hJs;rw[hm]at h9 ⊢;exact h9⟩⟩
  ·rw[show((k+1:Nat):Int) - 1=(k:Int) by omega];obtain⟨z,hz⟩:∃z,rows.getD k undef=z:=⟨_,rfl⟩;have hcx:wr.cell? ⟨H,k,none⟩=some z:=(hnx.1.cell (p:=⟨H,k,none⟩) hA).trans ((hc.cell k).trans (by rw[<-hz];simp[List.getD,show k<rows.length by omega]));have hfe:fromEndR n (m - (k+1))=k:=by unfold fromEndR;rw[hm];omega
   obtain⟨fn,tmps,assign,body,hy,hR⟩:=hY _ k wr hJs (by rw[k_h];omega);unfold rargs at hy;rw[Nat.mod_eq_of_lt (show k<n by omega)]at hy;rw[hz]at hy;have u1:(0:Int)<=(k:Int):=by omega
   have u2:(k:Int)<(m:Int):=by omega
   clear hz hc
   gi_wp2
   refine hR.mono ?_;rintro e W3 (⟨rfl,hJ3,hk3⟩|⟨rfl,hJx3⟩)
   ·gi_wp2
    go_roundw
    case rel=>exact⟨k,by omega,by simp,by rw[show m - k=(m - (k+1))+1 by omega,g_a,hfe];exact hJ3,k_9 hnx hk3⟩
    case measure=>simp[intOf]
   ·gi_wp2
    refine bodyPost_ret (results_none rfl _ _ _) rfl ?_;exact⟨⟨_,rfl⟩,.inr ⟨_,⟨m - (k+1)+1,by omega,by rw[g_a,hfe]⟩,hJx3⟩⟩
theorem t_e (A:Option Addr)(len cap:Nat)(w:World):
  Calls Tryz.prog 174 #[.slice A len cap] w fun e w'=>e= .returned (.func (.func 195) #[] #[.pointer (some ⟨w.heap.size,0,none⟩)])/\w'=w.alloc (.cells #[.slice A len cap] 98):=by
 go_enter Tryz.func174,Tryz.ntmps174
 go_wp2_with fail
 go_ret
 exact⟨rfl,rfl⟩
theorem l_u (F:Fence)(n_:Nat)(h7:F.fn 195)(hro:F.round=none)(hn:1<=n_)(Bs n₀:Nat)(H n c:Nat)(rows:List Value)(hlen:n<=9223372036854775807)(hA:H<n₀)(w:World)(hBs:Bs<w.heap.size)(hn₀:n₀<=w.heap.size)
  (hc:w.cell? ⟨Bs,0,none⟩=some (.slice (some ⟨H,0,none⟩) n c)) (hI:Bx w H 25 rows) (hR:n<=rows.length):
  SeqStopsK F n_ Tryz.prog 195 #[.pointer (some ⟨Bs,0,none⟩)] (fun x:Nat=>rargs n rows x) (KeepB n₀ Bs) (fun ys=>ys=upto (fromEndR n) n)
   (fun pre=>∃k,k<=n/\pre=upto (fromEndR n) k) n w:=fun l J Jx W hW _ _ hY h0=>
 q_o F n_ h7 hro hn l Bs n₀ H n c rows hlen hA J Jx hY W ((hW.cell (p:=⟨Bs,0,none⟩) hBs).trans hc) (hI.below hW) hR h0
end
end Go.Proofs.YtfhbdlegkdbmfaaGreat
