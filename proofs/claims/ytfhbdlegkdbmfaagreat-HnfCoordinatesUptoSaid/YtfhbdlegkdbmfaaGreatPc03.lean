/- Pc03 -/
import Derived.WalkKit
import Derived.Orders
import Derived.Below
import Derived.Test.YtfhbdlegkdbmfaaGreatRows
set_option linter.unusedVariables false
set_option linter.unusedSimpArgs false
set_option linter.unusedSectionVars false
set_option maxRecDepth 100000
set_option maxHeartbeats 8000000
namespace Go.Proofs.YtfhbdlegkdbmfaaGreat
section
open Go.RowKit
theorem lS (l:List Value)(i:Nat)(a:Value):l.toArray.setIfInBounds i a=(l.set i a).toArray:=List.setIfInBounds_toArray l i a
theorem lZ (x a:Value)(l:List Value):(x::l).set 0 a=a::l:=rfl
theorem lC (x a:Value)(l:List Value)(n:Nat):(x::l).set (n+1) a=x::l.set n a:=rfl
def predsOf (ops:Array Oper)(i:Nat):List Nat:=
 match ops[i]? with
 |some o=>(o.after.toList.filter (Region.binds .any)).map (·.on)
 |none=>[]
def sweep (ops:Array Oper):Nat->List Nat->List Nat
 |0,acc=>acc
 |k+1,acc=>sweep ops k (if acc.contains k then predsOf ops k++acc else acc)
def covers (ops:Array Oper)(fl:List Nat)(i:Nat):Bool:=(List.range i).all fun j=>(sweep ops i (predsOf ops i)).contains j || fl.contains j
def aloof (ops:Array Oper)(i:Nat):Bool:=
 match ops[i]? with
 |some oi=>(List.range ops.size).all fun j=>j==i || (predsOf ops i).contains j || (predsOf ops j).contains i || (match ops[j]? with|some oj=>oi.apart ops oj|none=>true)
 |none=>false
def slotOf (ops:Array Oper)(k:Nat):Option Nat:=(ops[k]?).bind (·.dst)
def regionOk (ops:Array Oper)(fl:List Nat)(m size:Nat):Bool:=
 decide (m<=ops.size)&&
 ((List.range m).all fun k=>match slotOf ops k with|some d=>decide (d<size)&&(List.range k).all (fun j=>slotOf ops j != some d)|none=>false)&&
 ((List.range' m (ops.size - m)).all fun i=>covers ops fl i)&&
 ((List.range ops.size).all fun i=>(predsOf ops i).all (decide<| · <i))&&
 (fl.all fun i=>decide (i<m)&&aloof ops i&&((ops[i]?).bind (fun o=>match o.op with| .alloc T=>some T|_=>none)).isNone)&&Region.noSelect ops
section
variable {P:Program}{ops:Array Oper}{Q:Exit->Act->World->Prop}
theorem b_b {i:Nat}{listed:Array Bool}(h:i∈Region.ready .any ops listed):
  listed.getD i true=false/\i<ops.size/\∀k,k∈predsOf ops i->listed.getD k false=true:=by
 obtain⟨h1,o,ho,h2⟩:=mem_ready.1 h;refine⟨h1, ?_,fun k hk=>?_⟩
 ·exact(Array.getElem?_eq_some_iff.1 ho).1
 ·unfold predsOf at hk;rw[ho]at hk;obtain⟨e,he,rfl⟩:=List.mem_map.1 hk;obtain⟨he1,he2⟩:=List.mem_filter.1 he;exact h2 e (by simpa using he1) he2
theorem b_u {listed:Array Bool}{k:Nat}(h:listed.getD k true=false):listed.getD k false=false:=by
 rcases Nat.lt_or_ge k listed.size with h1|h1
 ·simp[h1]at h ⊢;exact h
 ·simp[h1]at h
theorem b_q (listed:Array Bool)(i k:Nat):(listed.setIfInBounds i true).getD k false=true->k=i\/listed.getD k false=true:=by
 intro h;by_cases e:i=k
 ·exact .inl e.symm
 ·refine .inr ?_;rcases Nat.lt_or_ge k listed.size with h1|h1
  ·simp[h1,Array.getElem_setIfInBounds,e]at h ⊢;exact h
  ·simp[h1]at h
theorem b_1 {listed:Array Bool}{i:Nat}(h:i<listed.size):(listed.setIfInBounds i true).getD i false=true:=by
 simp[h]
theorem a_x {listed:Array Bool}{i k:Nat}(h:listed.getD k false=true):(listed.setIfInBounds i true).getD k false=true:=by
 rcases Nat.lt_or_ge k listed.size with h1|h1
 ·simp[h1,Array.getElem_setIfInBounds]at h ⊢;exact .inr h
 ·simp[h1]at h
def Down (ops:Array Oper)(listed:Array Bool):Prop:=∀i,listed.getD i false=true->∀k∈predsOf ops i,listed.getD k false=true
theorem Down.step {i:Nat}{listed:Array Bool}(h:Down ops listed)(hi:i∈Region.ready .any ops listed):Down ops (listed.setIfInBounds i true):=fun j hj k hk=>by
 rcases b_q listed i j hj with rfl|hj
 ·exact a_x ((b_b hi).2.2 k hk)
 ·exact a_x (h j hj k hk)
theorem g_8 {listed:Array Bool}(h:Down ops listed):∀(n:Nat) (acc:List Nat),(∀k∈acc,listed.getD k false=true)->∀k∈sweep ops n acc,listed.getD k false=true:=by
 intro n;induction n with
 |zero=>intro acc ha;exact ha
 |succ n ih=>
  intro acc ha;unfold sweep;refine ih _ ?_;split
  ·rename_i hc;intro k hk;rcases List.mem_append.1 hk with h1|h1
   ·exact h n (ha n (by simpa using hc)) k h1
   ·exact ha k h1
  ·exact ha
theorem b_d {i:Nat}{fl:List Nat}{listed:Array Bool}(h:Down ops listed)(hi:i∈Region.ready .any ops listed)(hc:covers ops fl i=true):∀j,j<i->j ∉ fl->listed.getD j false=true:=fun j hj hn=>
 g_8 h i _ (b_b hi).2.2 j (by
  unfold covers at hc;rw[List.all_eq_true]at hc
  have:=hc j (List.mem_range.2 hj);rw[Bool.or_eq_true]at this;rcases this with h1|h1
  ·simpa using h1
  ·exact absurd (by simpa using h1) hn)
theorem f_l {k:Nat}{listed:Array Bool}(hsz:listed.size=ops.size)(hk:k<ops.size)(hc:listed.getD k false=false)(hp:∀j,j∈predsOf ops k->listed.getD j false=true):k∈Region.ready .any ops listed:=by
 rw[mem_ready];refine⟨by simp[hsz,hk]at hc ⊢;exact hc,ops[k],by simp[hk],fun e he hb=>hp e.on ?_⟩;unfold predsOf;rw[show ops[k]? =some ops[k] by simp[hk]];exact List.mem_map.2 ⟨e,List.mem_filter.2 ⟨by simpa using he,hb⟩,rfl⟩
def openOf (listed:Array Bool):Nat:=(listed.toList.filter (!·)).length
theorem d_f {listed:Array Bool}{i:Nat}(h:listed.getD i true=false):openOf listed=openOf (listed.setIfInBounds i true)+1:=by
 obtain⟨l⟩:=listed;unfold openOf;simp at h ⊢;induction l generalizing i with
 |nil=>simp at h
 |cons b l ih=>
  cases i with
  |zero=>simp at h;subst h;simp
  |succ i=>
   simp at h
   have:=ih h;cases b<;>simp[this]
theorem k_n {listed:Array Bool}(h:openOf listed=0):Region.ready .any ops listed=[]:=by
 apply List.eq_nil_iff_forall_not_mem.2;intro i hi
 have:=d_f (b_b hi).1;omega
theorem f_6 (J:Array Bool->Act->World->Prop)
  (hsel:Region.noSelect ops=true) (hQ:∀c a d v w,Q (.panic c) (a.put d v) w->Q (.panic c) a w)
  (hstep:∀listed a w,listed.size=ops.size->Down ops listed->J listed a w->
   (∃i o v,i∈Region.ready .any ops listed/\ops[i]? =some o/\aloof ops i=true/\Yields P ops o v a/\J (listed.setIfInBounds i true) (a.put o.dst v) w)\/
   (∀i,i∈Region.ready .any ops listed->wpOp P ops Q i (J (listed.setIfInBounds i true)) a w))
  (hend:∀listed a w,listed.size=ops.size->Down ops listed->J listed a w->Region.ready .any ops listed=[]->Q .normal a w):
  ∀(fuel:Nat) (listed:Array Bool) (a:Act) (w:World),openOf listed<=fuel->listed.size=ops.size->Down ops listed->J listed a w->wpAny P .any ops Q fuel listed a w:=by
 intro fuel;induction fuel with
 |zero=>
  intro listed a w h0 hs hd hj;have hr:Region.ready .any ops listed=[]:=k_n (by omega);exact⟨hr,hend listed a w hs hd hj hr⟩
 |succ fuel ih=>
  intro listed a w h0 hs hd hj;rcases hstep listed a w hs hd hj with⟨i,o,v,hi,ho,hal,hy,hj'⟩|hall
  ·refine wpAny_first ho (Region.noSelect_spec hsel) (fun c a w=>hQ c a _ v w) fuel listed a w (fun j oj hoj hne hun hno=>?_) hi hy (ih _ _ w ?_ (by simpa using hs) (hd.step hi) hj')
   ·unfold aloof at hal;rw[ho]at hal;simp only[List.all_eq_true,List.mem_range,Bool.or_eq_true,beq_iff_eq,List.contains_iff_mem]at hal;rcases hal j (Array.getElem?_eq_some_iff.1 hoj).1 with((h1|h1)|h1)|h1
    ·exact absurd h1 hne
    ·have:=(b_b hi).2.2 j h1;rw[b_u hun]at this;cases this
    ·unfold predsOf at h1;rw[hoj]at h1;obtain⟨e,he,h2⟩:=List.mem_map.1 h1;obtain⟨h3,h4⟩:=List.mem_filter.1 he;exact absurd h2 (hno e (by simpa using h3) h4)
    ·rw[hoj]at h1;exact h1
   ·have:=d_f (b_b hi).1;omega
  ·refine⟨hend listed a w hs hd hj,fun i hi=>?_⟩;refine wpOp_mono (fun a' w' h'=>ih _ a' w' ?_ (by simpa using hs) (hd.step hi) h') (hall i hi)
   have:=d_f (b_b hi).1;omega
def isAlloc (o:Oper):Option TypeId:=match o.op with| .alloc T=>some T|_=>none
abbrev FVal:=Value->World->Prop
def nthF (Fs:List FVal)(i:Nat):FVal:=Fs.getD i (fun _ _=>True)
def NewAt (w0:World)(Z:TypeId->Obj)(T:TypeId)(v:Value)(w:World):Prop:=
 ∃g:Nat,v= .pointer (some ⟨g,0,none⟩)/\w0.heap.size<=g/\g<w.heap.size/\w.heap[g]? =some (Z T)
def FOf (w0:World)(Z:TypeId->Obj)(ops:Array Oper)(Fs:List FVal)(k:Nat)(v:Value)(w:World):Prop:=
 match(ops[k]?).bind isAlloc with
 |some T=>NewAt w0 Z T v w
 |none=>nthF Fs k v w
def Apart (g:Nat):List Nat->Prop
 | []=>True
 |u::us=>u≠g/\Apart g us
def HopAt (P:Program)(ops:Array Oper)(Q:Exit->Act->World->Prop)(m:Nat)(a0:Act)(w0:World)(Fs:List FVal)(i:Nat)(o:Oper):Prop:=
 ∀a w,Below w0.heap.size w0 w->(∀t,(List.range m).all (fun k=>slotOf ops k != some t)=true->a.eval (.tmp t)=a0.eval (.tmp t))->
  (∀k d,((predsOf ops i).contains k&&slotOf ops k==some d&&((ops[k]?).bind isAlloc).isNone&&decide (k<m))=true->nthF Fs k (a.eval (.tmp d)) w)->
  ∀K:Act->World->Prop,(∀v w',nthF Fs i v w'->Below w.heap.size w w'->K (a.put o.dst v) w')->
  if Region.wanted o (yielded ops a.tmps)=true then o.wp P a w K Q else K (a.put o.dst undef) w
def FloatAt (P:Program)(ops:Array Oper)(m:Nat)(a0:Act)(w0:World)(Fs:List FVal)(i:Nat)(o:Oper):Prop:=
 ∀a w,Below w0.heap.size w0 w->(∀t,(List.range m).all (fun k=>slotOf ops k != some t)=true->a.eval (.tmp t)=a0.eval (.tmp t))->
  (∀k d,((predsOf ops i).contains k&&slotOf ops k==some d&&((ops[k]?).bind isAlloc).isNone&&decide (k<m))=true->nthF Fs k (a.eval (.tmp d)) w)->
  ∃v,nthF Fs i v w/\Yields P ops o v a
def HopAll (P:Program)(ops:Array Oper)(Q:Exit->Act->World->Prop)(fl:List Nat)(m:Nat)(a0:Act)(w0:World)(Fs:List FVal):Nat->List Oper->Prop
 |_,[]=>True
 |i,o::os=>(isAlloc o=none->if fl.contains i=true then FloatAt P ops m a0 w0 Fs i o else HopAt P ops Q m a0 w0 Fs i o)/\HopAll P ops Q fl m a0 w0 Fs (i+1) os
def EndAll (P:Program)(ops:Array Oper)(Q:Exit->Act->World->Prop)(m:Nat)(w0:World)(Z:TypeId->Obj)(Fs:List FVal)(w:World):List Nat->Nat->List Oper->Act->Prop
 |_,_,[],a=>wpList P ops Q (ops.toList.drop m) a w
 |acc,i,o::os,a=>
  match isAlloc o with
  |some T=>∀g:Nat,w0.heap.size<=g->g<w.heap.size->w.heap[g]? =some (Z T)->Apart g acc->EndAll P ops Q m w0 Z Fs w (g::acc) (i+1) os (a.put o.dst (.pointer (some ⟨g,0,none⟩)))
  |none=>∀v,nthF Fs i v w->EndAll P ops Q m w0 Z Fs w acc (i+1) os (a.put o.dst v)
theorem HopAll.cons {fl:List Nat}{m:Nat}{a0:Act}{w0:World}{Fs:List FVal}{i:Nat}{o:Oper}{os:List Oper}(hn:fl.contains i=false)(h:HopAt P ops Q m a0 w0 Fs i o)(hs:HopAll P ops Q fl m a0 w0 Fs (i+1) os):HopAll P ops Q fl m a0 w0 Fs i (o::os):=⟨fun _=>by rw[hn];exact h,hs⟩
theorem HopAll.fl {fl:List Nat}{m:Nat}{a0:Act}{w0:World}{Fs:List FVal}{i:Nat}{o:Oper}{os:List Oper}(hn:fl.contains i=true)(h:FloatAt P ops m a0 w0 Fs i o)(hs:HopAll P ops Q fl m a0 w0 Fs (i+1) os):HopAll P ops Q fl m a0 w0 Fs i (o::os):=⟨fun _=>by rw[if_pos hn];exact h,hs⟩
theorem HopAll.al {fl:List Nat}{m:Nat}{a0:Act}{w0:World}{Fs:List FVal}{i:Nat}{o:Oper}{os:List Oper}(h:(isAlloc o).isSome=true)(hs:HopAll P ops Q fl m a0 w0 Fs (i+1) os):HopAll P ops Q fl m a0 w0 Fs i (o::os):=⟨fun e=>(by rw[e]at h;cases h),hs⟩
theorem HopAll.at {fl:List Nat}{m:Nat}{a0:Act}{w0:World}{Fs:List FVal}:∀ {i:Nat} {os:List Oper},HopAll P ops Q fl m a0 w0 Fs i os->∀k o,os[k]? =some o->isAlloc o=none->if fl.contains (i+k)=true then FloatAt P ops m a0 w0 Fs (i+k) o else HopAt P ops Q m a0 w0 Fs (i+k) o
 |i,[],_,k,o,hk,_=>by simp at hk
 |i,x::os,h,0,o,hk,ha=>by
  simp at hk;subst hk;exact h.1 ha
 |i,x::os,h,k+1,o,hk,ha=>by
  have:=HopAll.at h.2 k o (by simpa using hk) ha;rwa [show i+1+k=i+(k+1) by omega]at this
def Stays (F:FVal):Prop:=∀v w w',F v w->Below w.heap.size w w'->F v w'
def StayAll:List FVal->Prop
 | []=>True
 |F::Fs=>Stays F/\StayAll Fs
theorem StayAll.at:∀ {Fs:List FVal},StayAll Fs->∀i,Stays (nthF Fs i)
 | [],_,i=>fun v w w' h hb=>by unfold nthF at*;simp at *
 |F::Fs,h,0=>h.1
 |F::Fs,h,i+1=>fun v w w' hf hb=>StayAll.at h.2 i v w w' hf hb
theorem NewAt.below {w0 w w':World}{Z:TypeId->Obj}{T:TypeId}{v:Value}(h:NewAt w0 Z T v w)(hb:Below w.heap.size w w'):NewAt w0 Z T v w':=by
 obtain⟨g,h1,h2,h3,h4⟩:=h;exact⟨g,h1,h2,Nat.lt_of_lt_of_le h3 hb.size,(hb.block g h3).trans h4⟩
theorem FOf.below {w0 w w':World}{Z:TypeId->Obj}{Fs:List FVal}{k:Nat}{v:Value}(hs:StayAll Fs)(h:FOf w0 Z ops Fs k v w)(hb:Below w.heap.size w w'):FOf w0 Z ops Fs k v w':=by
 unfold FOf at *;split at h
 ·exact h.below hb
 ·exact StayAll.at hs k v w w' h hb
structure Inv (ops:Array Oper) (m:Nat) (a0:Act) (w0:World) (Z:TypeId->Obj) (Fs:List FVal) (listed:Array Bool) (a:Act) (w:World):Prop where
 size:a.tmps.size=a0.tmps.size
 defers:a.defers=a0.defers
 off:∀t,(∀k,k<m->slotOf ops k≠some t)->a.eval (.tmp t)=a0.eval (.tmp t)
 below:Below w0.heap.size w0 w
 facts:∀k,k<m->listed.getD k false=true->∀d,slotOf ops k=some d->FOf w0 Z ops Fs k (a.eval (.tmp d)) w
 apart:∀j k,k<j->j<m->((ops[j]?).bind isAlloc).isSome=true->((ops[k]?).bind isAlloc).isSome=true->listed.getD j false=true->listed.getD k false=true->∀d e,slotOf ops j=some d->slotOf ops k=some e->a.eval (.tmp d)≠a.eval (.tmp e)
theorem b_m {fl:List Nat}{m size:Nat}(h:regionOk ops fl m size=true):m<=ops.size/\(∀k,k<m->∃d,slotOf ops k=some d/\d<size/\∀j,j<k->slotOf ops j≠some d)/\(∀i,m<=i->i<ops.size->covers ops fl i=true)/\(∀i,i<ops.size->∀k,k∈predsOf ops i->k<i)/\(∀i,i∈fl->i<m/\aloof ops i=true/\(ops[i]?).bind isAlloc=none)/\Region.noSelect ops=true:=by
 unfold regionOk at h;simp only[Bool.and_eq_true,decide_eq_true_iff,List.all_eq_true,List.mem_range]at h;obtain⟨⟨⟨⟨⟨h1,h2⟩,h3⟩,h4⟩,h5⟩,h6⟩:=h;refine⟨h1,fun k hk=>?_,fun i hi hn=>h3 i (List.mem_range'.2 ⟨i - m,by omega,by omega⟩),fun i hi k hk=>h4 i hi k hk,fun i hi=>⟨(h5 i hi).1.1,(h5 i hi).1.2,Option.isNone_iff_eq_none.1 (h5 i hi).2⟩,h6⟩
 have:=h2 k hk;split at this
 ·rename_i d hd;simp only[Bool.and_eq_true,decide_eq_true_iff,List.all_eq_true,List.mem_range,bne_iff_ne]at this;exact⟨d,hd,this.1,this.2⟩
 ·cases this
theorem b_r {a:Act}{d:Nat}{v:Value}(h:d<a.tmps.size):(a.put (some d) v).eval (.tmp d)=v:=by
 simp[Act.put,Act.eval,h]
theorem b_9 {a:Act}{d t:Nat}{v:Value}(h:d≠t):(a.put (some d) v).eval (.tmp t)=a.eval (.tmp t):=by
 simp[Act.put,Act.eval,Array.getD_eq_getD_getElem?,Array.getElem?_setIfInBounds,h]
theorem Inv.step {m:Nat}{a0 a:Act}{w0 w w':World}{Z:TypeId->Obj}{Fs:List FVal}{listed:Array Bool}{i d:Nat}{v:Value}
  {fl:List Nat} (hok:regionOk ops fl m a0.tmps.size=true) (hs:StayAll Fs) (H:Inv ops m a0 w0 Z Fs listed a w) (hsz:listed.size=ops.size) (hi:i<m) (hu:listed.getD i true=false) (hd:slotOf ops i=some d)
  (hF:FOf w0 Z ops Fs i v w') (hb:Below w.heap.size w w')
  (hap:((ops[i]?).bind isAlloc).isSome=true->∃g:Nat,v= .pointer (some ⟨g,0,none⟩)/\w.heap.size<=g):
  Inv ops m a0 w0 Z Fs (listed.setIfInBounds i true) (a.put (some d) v) w':=by
 obtain⟨hm,hsl,-⟩:=b_m hok;have hdl:d<a.tmps.size:=by
  obtain⟨d',e,h,-⟩:=hsl i hi;rw[hd]at e;cases e;rw[H.size];exact h
 have uniq:∀j k x,j<m->k<m->j≠k->slotOf ops j=some x->slotOf ops k≠some x:=fun j k x hj hk hne ej ek=>by
  rcases Nat.lt_or_gt_of_ne hne with h|h
  ·obtain⟨y,e,-,h3⟩:=hsl k hk;rw[ek]at e;cases e;exact h3 j h ej
  ·obtain⟨y,e,-,h3⟩:=hsl j hj;rw[ej]at e;cases e;exact h3 k h ek
 have hold:∀k x,k<m->k≠i->slotOf ops k=some x->(a.put (some d) v).eval (.tmp x)=a.eval (.tmp x):=fun k x hk hne hx=>
  b_9 (fun e=>uniq k i x hk hi hne hx (by rw[<-e];exact hd))
 have hbb:=H.below.trans (hb.mono H.below.size);have hlt:∀k,k<m->listed.getD k false=true->((ops[k]?).bind isAlloc).isSome=true->∀x,slotOf ops k=some x->∃g:Nat,a.eval (.tmp x)= .pointer (some ⟨g,0,none⟩)/\g<w.heap.size:=fun k hk hl ha x hx=>by
  have:=H.facts k hk hl x hx;unfold FOf at this;split at this
  ·obtain⟨g,e1,e2,e3,e4⟩:=this;exact⟨g,e1,e3⟩
  ·rename_i hn;rw[hn]at ha;cases ha
 refine⟨?_, ?_, ?_,hbb, ?_, ?_⟩
 ·simp[Act.put,H.size]
 ·simp[Act.put,H.defers]
 ·intro t ht;rw[b_9 (fun e=>ht i hi (by rw[<-e];exact hd))];exact H.off t ht
 ·intro k hk hl x hx;by_cases e:k=i
  ·subst e;rw[hd]at hx;cases hx;rw[b_r hdl];exact hF
  ·have hl':=(b_q listed i k hl).resolve_left e;rw[hold k x hk e hx];exact FOf.below hs (H.facts k hk hl' x hx) hb
 ·intro j k hkj hj aj ak lj lk x y hx hy;by_cases ej:j=i
  ·subst ej;have hl':=(b_q listed j k lk).resolve_left (by omega);rw[hd]at hx;cases hx;rw[b_r hdl,hold k y (by omega) (by omega) hy];obtain⟨g,hv,hg⟩:=hap aj;obtain⟨g',hv',hg'⟩:=hlt k (by omega) hl' ak y hy;rw[hv,hv'];intro e;injection e with e;injection e with e;injection e with e
   omega
  ·have lj':=(b_q listed i j lj).resolve_left ej;rw[hold j x hj ej hx];by_cases ek:k=i
   ·subst ek;rw[hd]at hy;cases hy;rw[b_r hdl];obtain⟨g,hv,hg⟩:=hap ak;obtain⟨g',hv',hg'⟩:=hlt j hj lj' aj x hx;rw[hv,hv'];intro e;injection e with e;injection e with e;injection e with e
    omega
   ·have lk':=(b_q listed i k lk).resolve_left ek;rw[hold k y (by omega) ek hy];exact H.apart j k hkj hj aj ak lj' lk' x y hx hy
def fillA (ops:Array Oper)(x:Nat->Value):Nat->List Oper->Act->Act
 |_,[],a=>a
 |i,o::os,a=>fillA ops x (i+1) os (a.put o.dst (x i))
theorem fillA_size {x:Nat->Value}:∀ {os:List Oper} {i:Nat} {a:Act},(fillA ops x i os a).tmps.size=a.tmps.size/\(fillA ops x i os a).defers=a.defers
 | [],i,a=>⟨rfl,rfl⟩
 |o::os,i,a=>by
  have:=fillA_size (x:=x) (os:=os) (i:=i+1) (a:=a.put o.dst (x i));refine⟨this.1.trans ?_,this.2.trans ?_⟩<;>cases h:o.dst<;>simp[Act.put,h]
theorem e_n {x:Nat->Value}{t:Nat}:∀ {os:List Oper} {i:Nat} {a:Act},(∀o,o∈os->o.dst≠some t)->(fillA ops x i os a).eval (.tmp t)=a.eval (.tmp t)
 | [],i,a,_=>rfl
 |o::os,i,a,h=>by
  refine(e_n (os:=os) (fun p hp=>h p (List.mem_cons_of_mem _ hp))).trans ?_;cases hd:o.dst with
  |none=>rfl
  |some d=>exact b_9 (fun e=>h o (List.mem_cons_self ..) (by rw[hd,e]))
theorem i_p {x:Nat->Value}{d:Nat}:∀ {os:List Oper} {i k:Nat} {o:Oper} {a:Act},os[k]? =some o->o.dst=some d->d<a.tmps.size->(∀j p,k<j->os[j]? =some p->p.dst≠some d)->(fillA ops x i os a).eval (.tmp d)=x (i+k)
 | [],i,k,o,a,h,_,_,_=>by simp at h
 |p::os,i,0,o,a,h,hd,hs,hu=>by
  simp at h;subst h;refine(e_n (os:=os) (fun q hq=>?_)).trans ?_
  ·obtain⟨j,hj⟩:=List.mem_iff_getElem?.1 hq;exact hu (j+1) q (by omega) (by simpa using hj)
  ·rw[hd];exact b_r hs
 |p::os,i,k+1,o,a,h,hd,hs,hu=>by
  have:=i_p (x:=x) (os:=os) (i:=i+1) (k:=k) (a:=a.put p.dst (x i)) (by simpa using h) hd (by cases hp:p.dst<;>simpa [Act.put,hp] using hs) (fun j q hj hq=>hu (j+1) q (by omega) (by simpa using hq));rw[show i+(k+1)=i+1+k by omega];exact this
theorem q_m {a b:Act}(hs:a.tmps.size=b.tmps.size)(hd:a.defers=b.defers)(h:∀t,a.eval (.tmp t)=b.eval (.tmp t)):a=b:=by
 obtain⟨ta,da⟩:=a;obtain⟨tb,db⟩:=b;simp only at hs hd;subst hd;congr 1
 apply Array.ext hs;intro i h1 h2
 have:=h i;simpa [Act.eval,h1,h2] using this
theorem d_k {m:Nat}{w0 w:World}{Z:TypeId->Obj}{Fs:List FVal}{x:Nat->Value}:∀ {os:List Oper} {i:Nat} {acc:List Nat} {a:Act},
  EndAll P ops Q m w0 Z Fs w acc i os a->(∀k o,os[k]? =some o->ops[i+k]? =some o)->
  (∀k,i<=k->k<i+os.length->FOf w0 Z ops Fs k (x k) w)->
  (∀j k,i<=k->k<j->j<i+os.length->((ops[j]?).bind isAlloc).isSome=true->((ops[k]?).bind isAlloc).isSome=true->x j≠x k)->
  (∀u,u∈acc->∀k,i<=k->k<i+os.length->((ops[k]?).bind isAlloc).isSome=true->x k≠ .pointer (some ⟨u,0,none⟩))->
  wpList P ops Q (ops.toList.drop m) (fillA ops x i os a) w
 | [],i,acc,a,h,_,_,_,_=>h
 |o::os,i,acc,a,h,ho,hf,hp,hu=>by
  have hoi:ops[i]? =some o:=by simpa using ho 0 o (by simp)
  have hF:=hf i (Nat.le_refl _) (by simp);have ho':∀k p,os[k]? =some p->ops[i+1+k]? =some p:=fun k p hk=>by
   have:=ho (k+1) p (by simpa using hk);rwa [show i+1+k=i+(k+1) by omega]
  have hf':∀k,i+1<=k->k<i+1+os.length->FOf w0 Z ops Fs k (x k) w:=fun k h1 h2=>hf k (by omega) (by simp;omega);have hp':∀j k,i+1<=k->k<j->j<i+1+os.length->((ops[j]?).bind isAlloc).isSome=true->((ops[k]?).bind isAlloc).isSome=true->x j≠x k:=fun j k h1 h2 h3=>hp j k (by omega) h2 (by simp;omega);unfold FOf at hF;rw[hoi,Option.bind_some]at hF;unfold EndAll at h;unfold fillA;cases ha:isAlloc o with
  |none=>
   rw[ha]at h hF;exact d_k (h (x i) hF) ho' hf' hp' (fun u hu' k h1 h2=>hu u hu' k (by omega) (by simp;omega))
  |some T=>
   rw[ha]at h hF;obtain⟨g,e1,e2,e3,e4⟩:=hF;have hai:((ops[i]?).bind isAlloc).isSome=true:=by rw[hoi,Option.bind_some,ha];rfl
   have hap:∀l:List Nat,(∀u,u∈l->u∈acc)->Apart g l:=fun l=>by
    induction l with
    |nil=>intro _;trivial
    |cons u l ih=>
     intro hl;refine⟨fun e=>?_,ih (fun v hv=>hl v (List.mem_cons_of_mem _ hv))⟩;exact hu u (hl u (List.mem_cons_self ..)) i (Nat.le_refl _) (by simp) hai (by rw[e1,e])
   have:=h g e2 e3 e4 (hap acc (fun u hu=>hu));rw[<-e1]at this;refine d_k this ho' hf' hp' (fun u hu' k h1 h2 hk=>?_);rcases List.mem_cons.1 hu' with rfl|hu'
   ·rw[<-e1];exact hp k i (Nat.le_refl _) (by omega) (by simp;omega) hk hai
   ·exact hu u hu' k (by omega) (by simp;omega) hk
def allocTs (ops:Array Oper)(m:Nat):List TypeId:=(List.range m).filterMap fun k=>(ops[k]?).bind isAlloc
theorem h_d {a0:Act}{w0:World}{fl:List Nat}{m:Nat}{Fs:List FVal}{Z:TypeId->Obj}(hok:regionOk ops fl m a0.tmps.size=true)
  (hend:∀w,Below w0.heap.size w0 w->EndAll P ops Q m w0 Z Fs w [] 0 (ops.toList.take m) a0) (listed:Array Bool) (a:Act) (w:World) (H:Inv ops m a0 w0 Z Fs listed a w) (hl:∀k,k<m->listed.getD k false=true):wpOps P ops Q (List.range' m (ops.size - m)) a w:=by
 obtain⟨hm,hsl,-,-,-,-⟩:=b_m hok;have uniq:∀j k x,j<m->k<m->j≠k->slotOf ops j=some x->slotOf ops k≠some x:=fun j k x hj hk hne ej ek=>by
  rcases Nat.lt_or_gt_of_ne hne with h|h
  ·obtain⟨y,e,-,h3⟩:=hsl k hk;rw[ek]at e;cases e;exact h3 j h ej
  ·obtain⟨y,e,-,h3⟩:=hsl j hj;rw[ej]at e;cases e;exact h3 k h ek
 have hlen:(ops.toList.drop m).length=ops.size - m:=by simp
 rw[<-hlen,wpOps_eq_wpList (ops.toList.drop m) m (fun j=>by simp)];let x:Nat->Value:=fun k=>match slotOf ops k with|some d=>a.eval (.tmp d)|none=>undef
 have hx:∀k d,slotOf ops k=some d->x k=a.eval (.tmp d):=fun k d h=>by simp only[x];rw[h]
 have htake:∀k o,(ops.toList.take m)[k]? =some o->ops[0+k]? =some o/\k<m:=fun k o h=>by
  rw[List.getElem?_take]at h;split at h
  ·exact⟨by simpa using h,by assumption⟩
  ·cases h
 have hlen2:(ops.toList.take m).length=m:=by rw[List.length_take,Array.length_toList];omega
 have e:a=fillA ops x 0 (ops.toList.take m) a0:=by
  refine q_m (H.size.trans fillA_size.1.symm) (H.defers.trans fillA_size.2.symm) (fun t=>?_);by_cases h:∃k,k<m/\slotOf ops k=some t
  ·obtain⟨k,hk,hd⟩:=h;have hko:∃o,(ops.toList.take m)[k]? =some o:=by
    refine⟨(ops.toList.take m)[k]'(by rw[hlen2];exact hk),List.getElem?_eq_getElem _⟩
   obtain⟨o,ho⟩:=hko;have hod:o.dst=some t:=by
    have:=(htake k o ho).1;rw[Nat.zero_add]at this;unfold slotOf at hd;rw[this]at hd;exact hd
   obtain⟨d',e',hd',-⟩:=hsl k hk;rw[hd]at e';cases e';rw[i_p (x:=x) (i:=0) ho hod hd' (fun j p hj hp hpd=>?_),Nat.zero_add,hx k t hd];have hj2:=htake j p hp;rw[Nat.zero_add]at hj2;exact uniq j k t hj2.2 hk (by omega) (by unfold slotOf;rw[hj2.1];exact hpd) hd
  ·rw[e_n,H.off t (fun k hk hd=>h ⟨k,hk,hd⟩)];intro o ho hd;obtain⟨k,hk⟩:=List.mem_iff_getElem?.1 ho
   have:=htake k o hk;rw[Nat.zero_add]at this;exact h ⟨k,this.2,by unfold slotOf;rw[this.1];exact hd⟩
 rw[e];refine d_k (hend w H.below) (fun k o h=>(htake k o h).1) (fun k _ hk=>?_) (fun j k _ hkj hj aj ak=>?_) (fun u hu=>by cases hu)
 ·rw[hlen2,Nat.zero_add]at hk;obtain⟨d,hd,-,-⟩:=hsl k hk;rw[hx k d hd];exact H.facts k hk (hl k hk) d hd
 ·rw[hlen2,Nat.zero_add]at hj;obtain⟨d,hd,-,-⟩:=hsl j hj;obtain⟨d',hd',-,-⟩:=hsl k (by omega);rw[hx j d hd,hx k d' hd'];exact H.apart j k hkj hj aj ak (hl j hj) (hl k (by omega)) d d' hd hd'
theorem f_d {id:Nat}{a0:Act}{w0:World}(fl:List Nat)(m:Nat)(Fs:List FVal)(Z:TypeId->Obj)(hmix:P.follows .mixedOrders=true)
  (hQ:∀c a d v w,Q (.panic c) (a.put d v) w->Q (.panic c) a w)
  (hok:regionOk ops fl m a0.tmps.size=true)
  (ok:TypeId->Bool) (hzl:(allocTs ops m).all ok=true) (hz:∀T,ok T=true->∀w:World,(Instr.alloc T true (.tuple #[])).run P w= .ok (.pointer (some ⟨w.heap.size,0,none⟩)) (w.alloc (Z T)))
  (hg:(List.range m).all (fun k=>((ops[k]?).bind isAlloc).isNone || ((ops[k]?).map (·.guard))==some none)=true)
  (hs:StayAll Fs) (hops:HopAll P ops Q fl m a0 w0 Fs 0 (ops.toList.take m))
  (hend:∀w,Below w0.heap.size w0 w->EndAll P ops Q m w0 Z Fs w [] 0 (ops.toList.take m) a0):
  (Code.region id ops true).wp P Q a0 w0:=by
 obtain⟨hm,hsl,htl,hlt,hfl,hnos⟩:=b_m hok;have uniq:∀j k x,j<m->k<m->j≠k->slotOf ops j=some x->slotOf ops k≠some x:=fun j k x hj hk hne ej ek=>by
  rcases Nat.lt_or_gt_of_ne hne with h|h
  ·obtain⟨y,e,-,h3⟩:=hsl k hk;rw[ek]at e;cases e;exact h3 j h ej
  ·obtain⟨y,e,-,h3⟩:=hsl j hj;rw[ej]at e;cases e;exact h3 k h ek
 refine wp_region_any hmix ?_;let J:Array Bool->Act->World->Prop:=fun listed a w=>
  ((∀k,m<=k->listed.getD k false=false)/\Inv ops m a0 w0 Z Fs listed a w)\/
  (∃r,m<r/\r<=ops.size/\(∀k,k<ops.size->(listed.getD k false=true↔k<r))/\wpOps P ops Q (List.range' r (ops.size - r)) a w)
 have fin:=h_d (P:=P) (Q:=Q) (Z:=Z) hok hend;refine f_6 J hnos hQ ?_ ?_ _ _ _ _ ?_ (by simp) (fun i hi=>?_) (.inl ⟨fun k _=>?_, ?_⟩)
 ·
  intro listed a w hsz hd hj;have htail':∀i,i<m->(∀k,m<=k->listed.getD k false=false)->∀k,m<=k->(listed.setIfInBounds i true).getD k false=false:=fun i him htail k hk=>by
   have:=htail k hk;cases hc:(listed.setIfInBounds i true).getD k false with
   |false=>rfl
   |true=>
    rcases b_q listed i k hc with e|e
    ·omega
    ·rw[e]at this;cases this
  have hto:∀i o,i<m->ops[i]? =some o->(ops.toList.take m)[i]? =some o:=fun i o him ho=>by
   rw[List.getElem?_take_of_lt him];simpa using ho
  have hpr:∀i,i∈Region.ready .any ops listed->Inv ops m a0 w0 Z Fs listed a w->∀k d,((predsOf ops i).contains k&&slotOf ops k==some d&&((ops[k]?).bind isAlloc).isNone&&decide (k<m))=true->nthF Fs k (a.eval (.tmp d)) w:=by
   intro i hi H k d' hkd;simp only[Bool.and_eq_true,decide_eq_true_iff,beq_iff_eq,List.contains_iff_mem]at hkd;obtain⟨⟨⟨h1,h2⟩,h3⟩,h4⟩:=hkd
   have:=H.facts k h4 ((b_b hi).2.2 k h1) d' h2;unfold FOf at this;rw[Option.isNone_iff_eq_none.1 h3]at this;exact this
  have hoff:Inv ops m a0 w0 Z Fs listed a w->∀t,(List.range m).all (fun k=>slotOf ops k != some t)=true->a.eval (.tmp t)=a0.eval (.tmp t):=fun H t ht=>H.off t (fun k hk=>by
   rw[List.all_eq_true]at ht;simpa using ht k (List.mem_range.2 hk))
  by_cases hfloat:∃i,i∈fl/\i∈Region.ready .any ops listed/\∀k,m<=k->listed.getD k false=false
  ·obtain⟨i,hif,hi,htail⟩:=hfloat;obtain⟨him,hal,hna⟩:=hfl i hif;obtain⟨hu,hin,hpre⟩:=b_b hi;rcases hj with⟨-,H⟩|⟨r,hmr,hrn,hlr,-⟩
   ·obtain⟨d,hdst,hdlt,-⟩:=hsl i him;obtain⟨o,ho⟩:∃o,ops[i]? =some o:=⟨ops[i],by simp[hin]⟩;have hod:o.dst=some d:=by unfold slotOf at hdst;rw[ho]at hdst;exact hdst
    have ha:isAlloc o=none:=by rw[ho]at hna;exact hna
    have hop:=HopAll.at hops i o (hto i o him ho) ha;rw[Nat.zero_add,if_pos (by simpa using hif)]at hop;obtain⟨v,hF,hy⟩:=hop a w H.below (hoff H) (hpr i hi H);refine .inl ⟨i,o,v,hi,ho,hal,hy,.inl ⟨htail' i him htail, ?_⟩⟩;rw[hod];refine Inv.step hok hs H hsz him hu hdst ?_ (Below.refl _ _) (fun hc=>by rw[hna]at hc;cases hc);unfold FOf;rw[hna];exact hF
   ·exfalso
    have:=(hlr (r - 1) (by omega)).2 (by omega);rw[htail (r - 1) (by omega)]at this;cases this
  refine .inr fun i hi=>?_;obtain⟨hu,hin,hpre⟩:=b_b hi;rcases hj with⟨htail,H⟩|⟨r,hmr,hrn,hlr,hwp⟩
  ·by_cases him:i<m
   ·obtain⟨d,hdst,hdlt,-⟩:=hsl i him;obtain⟨o,ho⟩:∃o,ops[i]? =some o:=⟨ops[i],by simp[hin]⟩;have hod:o.dst=some d:=by unfold slotOf at hdst;rw[ho]at hdst;exact hdst
    cases ha:isAlloc o with
    |some T=>
     have hop:o.op= .alloc T:=by
      unfold isAlloc at ha;split at ha
      ·cases ha;assumption
      ·cases ha
     have hgd:o.guard=none:=by
      rw[List.all_eq_true]at hg
      have:=hg i (List.mem_range.2 him);rw[ho]at this;simp[ha]at this;exact this
     unfold wpOp;rw[ho];simp only[Region.wanted,hgd,if_true];refine .inl ?_;unfold Oper.wp;have hrun:(execOp a.eval o).run P w= .ok (.value (.pointer (some ⟨w.heap.size,0,none⟩))) (w.alloc (Z T)):=by
      have hr:=hz T (List.all_eq_true.1 hzl T (List.mem_filterMap.2 ⟨i,List.mem_range.2 him,by rw[ho];simp[ha]⟩)) w;unfold execOp;rw[hop];simp[hr]
     rw[hrun,Oper.upon_value,hod];refine .inl ⟨htail' i him htail,Inv.step hok hs H hsz him hu hdst ?_ ((Below.refl _ _).alloc (Nat.le_refl _) _) (fun _=>⟨_,rfl,Nat.le_refl _⟩)⟩;unfold FOf;rw[ho,Option.bind_some,ha];refine⟨w.heap.size,rfl,H.below.size,by simp, ?_⟩;show(w.heap.push (Z T))[w.heap.size]? =_
     simp
    |none=>
     have hnf:¬i∈fl:=fun h=>hfloat ⟨i,h,hi,htail⟩;have hop:=HopAll.at hops i o (hto i o him ho) ha;rw[Nat.zero_add,if_neg (by simpa using hnf)]at hop;have hK:∀v w',nthF Fs i v w'->Below w.heap.size w w'->J (listed.setIfInBounds i true) (a.put o.dst v) w':=by
      intro v w' hF hb;rw[hod];refine Or.inl ⟨htail' i him htail,Inv.step hok hs H hsz him hu hdst ?_ hb (fun hc=>by rw[ho,Option.bind_some,ha]at hc;cases hc)⟩;unfold FOf;rw[ho,Option.bind_some,ha];exact hF
     have:=hop a w H.below (hoff H) (hpr i hi H) _ hK;unfold wpOp;rw[ho];simp only;split
     ·rename_i hw;rw[if_pos hw]at this;exact .inl this
     ·rename_i hw;rw[if_neg hw]at this;exact this
   ·have hcov0:=b_d hd hi (htl i (by omega) hin);have hcov:∀j,j<i->listed.getD j false=true:=by
     intro j;induction j using Nat.strongRecOn with
     |ind j ih=>
      intro hji;by_cases hjf:j∈fl
      ·cases hc:listed.getD j false with
       |true=>rfl
       |false=>exact absurd ⟨j,hjf,f_l hsz (by omega) hc (fun k hk=>by have:=hlt j (by omega) k hk;exact ih k this (by omega)),htail⟩ hfloat
      ·exact hcov0 j hji hjf
    have him':i=m:=by
     rcases Nat.lt_or_ge m i with h|h
     ·have:=hcov m h;rw[htail m (Nat.le_refl _)]at this;cases this
     ·omega
    subst him';have hall:=fin listed a w H hcov;rw[show ops.size - i=(ops.size - i - 1)+1 by omega,List.range'_succ,wpOps_cons]at hall;refine wpOp_mono (fun a' w' h'=>?_) hall;refine .inr ⟨i+1,by omega,hin,fun k hk=>⟨fun h=>?_,fun h=>?_⟩, ?_⟩
    ·rcases b_q listed i k h with e|e
     ·omega
     ·rcases Nat.lt_or_ge k i with h1|h1
      ·omega
      ·rw[htail k h1]at e;cases e
    ·rcases Nat.lt_or_eq_of_le (Nat.le_of_lt_succ h)with h1|h1
     ·exact a_x (hcov k h1)
     ·subst h1;exact b_1 (by omega)
    ·rw[show ops.size - (i+1)=ops.size - i - 1 by omega];exact h'
  ·have hri:r<=i:=by
    rcases Nat.lt_or_ge i r with h|h
    ·have:=(hlr i hin).2 h;rw[b_u hu]at this;cases this
    ·exact h
   have hcov0:=b_d hd hi (htl i (by omega) hin);have hcov:∀j,j<i->listed.getD j false=true:=fun j hj=>by
    rcases Nat.lt_or_ge j r with h|h
    ·exact(hlr j (by omega)).2 h
    ·exact hcov0 j hj (fun hjf=>by have:=(hfl j hjf).1;omega)
   have him':i=r:=by
    rcases Nat.lt_or_ge r i with h|h
    ·have:=(hlr r (by omega)).1 (hcov r h);omega
    ·omega
   subst him';rw[show ops.size - i=(ops.size - i - 1)+1 by omega,List.range'_succ,wpOps_cons]at hwp;refine wpOp_mono (fun a' w' h'=>?_) hwp;refine .inr ⟨i+1,by omega,hin,fun k hk=>⟨fun h=>?_,fun h=>?_⟩, ?_⟩
   ·rcases b_q listed i k h with e|e
    ·omega
    ·have:=(hlr k hk).1 e;omega
   ·rcases Nat.lt_or_eq_of_le (Nat.le_of_lt_succ h)with h1|h1
    ·exact a_x ((hlr k hk).2 h1)
    ·subst h1;exact b_1 (by omega)
   ·rw[show ops.size - (i+1)=ops.size - i - 1 by omega];exact h'
 ·
  intro listed a w hsz hd hj hr;have hall:∀k,k<ops.size->listed.getD k false=true:=by
   intro k;induction k using Nat.strongRecOn with
   |ind k ih=>
    intro hk;cases hc:listed.getD k false with
    |true=>rfl
    |false=>
     exfalso
     have hmem:k∈Region.ready .any ops listed:=f_l hsz hk hc (fun j hj=>by have:=hlt k hk j hj;exact ih j this (by omega));rw[hr]at hmem;cases hmem
  rcases hj with⟨htail,H⟩|⟨r,hmr,hrn,hlr,hwp⟩
  ·have hsm:ops.size=m:=by
    rcases Nat.lt_or_ge m ops.size with h|h
    ·have:=hall m h;rw[htail m (Nat.le_refl _)]at this;cases this
    ·omega
   have:=fin listed a w H (fun k hk=>hall k (by omega));rw[hsm,Nat.sub_self]at this;simpa [wpOps] using this
  ·have hsr:ops.size=r:=by
    rcases Nat.lt_or_ge r ops.size with h|h
    ·have:=(hlr r h).1 (hall r h);omega
    ·omega
   rw[hsr,Nat.sub_self]at hwp;simpa [wpOps] using hwp
 ·unfold openOf;simp
 ·simp[Array.getD]at hi
 ·simp[Array.getD]
 ·refine⟨rfl,rfl,fun _ _=>rfl,(Below.refl _ _).drew,fun k _ hl=>?_,fun j k _ _ _ _ hl=>?_⟩
  ·simp[Array.getD]at hl
  ·simp[Array.getD]at hl
theorem h_2 {a:Act}{j d:Nat}{b:Bool}(hd:slotOf ops j=some d)(h:a.eval (.tmp d)= .bool b):yielded ops a.tmps j=some b:=by
 unfold slotOf at hd;unfold yielded;rw[hd,Option.bind_some];unfold Act.eval at h;simp only[Array.getD_eq_getD_getElem?]at h;cases hx:a.tmps[d]? with
 |none=>rw[hx]at h;cases h
 |some v=>rw[hx]at h;simp at h;subst h;rfl
theorem j_y {o:Oper}{a:Act}{j d:Nat}{b:Bool}(hg:o.guard=some (j,b))(hd:slotOf ops j=some d)(h:a.eval (.tmp d)= .bool b):Region.wanted o (yielded ops a.tmps)=true:=by
 unfold Region.wanted;rw[hg];simp[h_2 hd h]
theorem g_6 {o:Oper}{a:Act}{j d:Nat}{b c:Bool}(hg:o.guard=some (j,b))(hd:slotOf ops j=some d)(h:a.eval (.tmp d)= .bool c)(hc:(c==b)=false):Region.wanted o (yielded ops a.tmps)=false:=by
 unfold Region.wanted;rw[hg];simp only[h_2 hd h];cases b<;>cases c<;>first|rfl|cases hc
theorem c_u {o:Oper}{a:Act}(hg:o.guard=none):Region.wanted o (yielded ops a.tmps)=true:=by
 unfold Region.wanted;rw[hg]
end
end
section
open Go.RowKit
noncomputable def zeroObj (T:TypeId):Obj:=.cells (match(Tryz.prog.info? T).bind (·.zero)with|some v=>v.cells|none=>#[]) T
noncomputable def okZ (T:TypeId):Bool:=((Tryz.prog.info? T).bind (·.zero)).isSome
theorem d_d {T:TypeId}(h:okZ T=true)(w:World):(Instr.alloc T true (.tuple #[])).run Tryz.prog w= .ok (.pointer (some ⟨w.heap.size,0,none⟩)) (w.alloc (zeroObj T)):=by
 unfold okZ at h;obtain⟨v,hv⟩:=Option.isSome_iff_exists.1 h;obtain⟨i,hi,hz⟩:=Option.bind_eq_some_iff.1 hv;have e:zeroObj T= .cells v.cells T:=by unfold zeroObj;rw[hv]
 rw[e];have e1:(typeInfo T).run Tryz.prog w= .ok i w:=by simp[typeInfo,go_sem,hi]
 simp[Instr.alloc,zeroValue,go_sem,e1,hz,newVar]
theorem zba (w:World)(o:Obj):Below w.heap.size w (w.alloc o):=(Below.refl _ _).alloc (Nat.le_refl _) o
theorem zba2 (w:World)(o p:Obj):Below w.heap.size w ((w.alloc o).alloc p):=(zba w o).alloc (by simp) p
theorem zba3 (w:World)(o p q:Obj):Below w.heap.size w (((w.alloc o).alloc p).alloc q):=(zba2 w o p).alloc (by simp;omega) q
theorem zup {a b c:World}(h:Below a.heap.size a b)(k:Below b.heap.size b c):Below a.heap.size a c:=h.trans (k.mono h.size)
def IsK (u:Value):FVal:=fun v _=>v=u
theorem q_3 (u:Value):Stays (IsK u):=fun v w w' h hb=>h
theorem ent7 {f:FuncId}(h:(match Tryz.prog.funcs[f]? with|some fn=> !(fn.name== "runtime.NumGoroutine")&&fn.body.isSome|none=>false)=true)(args:Array Value)(w:World):(callFunc f args).run Tryz.prog w= .ok (.enter f args) w:=by
 cases hf:Tryz.prog.funcs[f]? with
 |none=>rw[hf]at h;cases h
 |some fn=>
  rw[hf]at h;simp only[Bool.and_eq_true,Bool.not_eq_true']at h;obtain⟨h1,h2⟩:=h;have h3:fn.name≠ "runtime.NumGoroutine" :=by simpa using h1
  obtain⟨c,hc⟩:=Option.isSome_iff_exists.1 h2;simp[callFunc,hf,h3,hc,mark]
theorem e_z {ops:Array Oper}{o:Oper}{a:Act}{j d:Nat}{b:Bool}(hg:o.guard=some (j,b))(hd:slotOf ops j=some d)(h:a.eval (.tmp d)=undef):Region.wanted o (yielded ops a.tmps)=false:=by
 have hy:yielded ops a.tmps j=none:=by
  unfold slotOf at hd;unfold yielded;rw[hd,Option.bind_some];unfold Act.eval at h;simp only[Array.getD_eq_getD_getElem?]at h;cases hx:a.tmps[d]? with
  |none=>rfl
  |some v=>rw[hx]at h;simp at h;subst h;rfl
 unfold Region.wanted;rw[hg];simp[hy]
theorem region8 {ops:Array Oper}{Q:Exit->Act->World->Prop}{id:Nat}{a0:Act}{w0:World}(fl:List Nat)(m:Nat)(Fs:List FVal)(hQ:∀c a d v w,Q (.panic c) (a.put d v) w->Q (.panic c) a w)
  (hok:regionOk ops fl m a0.tmps.size=true) (hzl:(allocTs ops m).all okZ=true)
  (hg:(List.range m).all (fun k=>((ops[k]?).bind isAlloc).isNone || ((ops[k]?).map (·.guard))==some none)=true)
  (hs:StayAll Fs) (hops:HopAll Tryz.prog ops Q fl m a0 w0 Fs 0 (ops.toList.take m))
  (hend:∀w,Below w0.heap.size w0 w->EndAll Tryz.prog ops Q m w0 zeroObj Fs w [] 0 (ops.toList.take m) a0):(Code.region id ops true).wp Tryz.prog Q a0 w0:=
 f_d fl m Fs zeroObj (by kernel_rfl) hQ hok okZ hzl (fun T h w=>d_d h w) hg hs hops hend
end
end Go.Proofs.YtfhbdlegkdbmfaaGreat
