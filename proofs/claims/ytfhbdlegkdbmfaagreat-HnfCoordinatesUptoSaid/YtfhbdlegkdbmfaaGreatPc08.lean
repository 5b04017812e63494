/- Pc08 -/
import Derived.Test.YtfhbdlegkdbmfaaGreatPc07
set_option linter.unusedVariables false
set_option linter.unusedSimpArgs false
set_option linter.unusedSectionVars false
set_option maxRecDepth 100000
set_option maxHeartbeats 8000000
namespace Go.Proofs.YtfhbdlegkdbmfaaGreat
open Go.RowKit
theorem sh {P:Program}{ops:Array Oper}{Q:Exit->Act->World->Prop}{a:Act}{w:World}(L:List Oper)(h:wpList P ops Q L a w):Shut (wpList P ops Q L a w):=⟨h⟩
inductive FK where
 |k (v:Value)
 |f (F:FVal) (h:Stays F)
 |a (T:TypeId)
def FK.F:FK->FVal
 | .k v=>IsK v
 | .f F _=>F
 | .a _=>fun _ _=>True
theorem FK.stays:∀x:FK,Stays x.F
 | .k v=>q_3 v
 | .f _ h=>h
 | .a _=>fun _ _ _ _ _=>trivial
def fsOf:List FK->List FVal
 | []=>[]
 |x::l=>x.F::fsOf l
theorem fsOf_stay:∀l,StayAll (fsOf l)
 | []=>trivial
 |x::l=>⟨x.stays,fsOf_stay l⟩
def nthK:List FK->Nat->FK
 | [],_=>.a 0
 |x::_,0=>x
 |_::l,i+1=>nthK l i
theorem nthF_of:∀(l:List FK) (i:Nat),nthF (fsOf l) i=(nthK l i).F
 | [],i=>by simp[nthF,fsOf,nthK,FK.F]
 |x::l,0=>rfl
 |x::l,i+1=>by
  have:=nthF_of l i;unfold nthF at this ⊢;rw[<-nthK.eq_3 x l i]at this;rw[<-this];rfl
theorem FK.kne (v:Value):∀T,FK.k v≠ .a T:=fun T e=>FK.noConfusion e
theorem FK.fne {F:FVal}(h:Stays F):∀T,FK.f F h≠ .a T:=fun T e=>FK.noConfusion e
def RetK (x:FK)(w:World)(e:Ending)(w':World):Prop:=∃u,e= .returned u/\x.F u w'/\Below w.heap.size w w'
inductive Src where
 |i (k:Nat)
 |o
def nthO:List Oper->Nat->Oper
 | [],_=>default
 |o::_,0=>o
 |_::l,i+1=>nthO l i
def opAt (ops:Array Oper)(i:Nat):Oper:=nthO ops.toList i
theorem nthO_of:∀(l:List Oper) (i:Nat) (h:i<l.length),nthO l i=l[i]
 | [],i,h=>by simp at h
 |o::l,0,h=>rfl
 |o::l,i+1,h=>by simp only[nthO,List.getElem_cons_succ];exact nthO_of l i (by simpa using h)
theorem d_0 {ops:Array Oper}{i:Nat}(h:i<ops.size):opAt ops i=ops[i]:=by
 unfold opAt;rw[nthO_of _ _ (by simpa using h)];simp
def inPre (ops:Array Oper)(m i k:Nat):Bool:=decide (k<i)&&(predsOf ops i).contains k&&((ops[k]?).bind isAlloc).isNone&&decide (k<m)
def Src.ok (ops:Array Oper)(m i:Nat):Src->Operand->Bool
 | .i k,.tmp t=>inPre ops m i k&&slotOf ops k==some t
 | .o,.tmp t=>(List.range m).all fun k=>slotOf ops k != some t
 | .o,_=>true
 |_,_=>false
def lgo:List Value->Nat->Option Value
 | [],_=>none
 |v::_,0=>some v
 |_::l,t+1=>lgo l t
theorem m_x (a:Act)(t:Nat):a.eval (.tmp t)=(match lgo a.tmps.toList t with|some v=>v|none=>undef):=by
 have:∀(l:List Value) (t:Nat),l.getD t undef=(match lgo l t with|some v=>v|none=>undef):=by
  intro l;induction l with
  |nil=>intro t;simp[lgo]
  |cons v l ih=>intro t;cases t<;>simp[lgo];rename_i t;rw[<-ih];simp
 rw[<-this];simp[Act.eval,Array.getD_eq_getD_getElem?]
def outK (a0:Act):Operand->FK
 | .tmp t=>match lgo a0.tmps.toList t with|some v=>.k v|none=>.k undef
 | .const v=>.k v
 | .global g=>.k (.pointer (some ⟨g,0,none⟩))
 | .func f=>.k (.func (.func f) #[] #[])
def look (l:List FK)(i k:Nat):FK:=nthK l (i - (k+1))
def Src.K (l:List FK)(i:Nat)(a0:Act)(x:Operand):Src->FK
 | .i k=>look l i k
 | .o=>outK a0 x
structure Here (ops:Array Oper) (m:Nat) (a0:Act) (w0:World) (l:List FK) (i:Nat) (a:Act) (w:World):Prop where
 below:Below w0.heap.size w0 w
 out:∀t,(List.range m).all (fun k=>slotOf ops k != some t)=true->a.eval (.tmp t)=a0.eval (.tmp t)
 pre:∀k d,inPre ops m i k=true->slotOf ops k=some d->(look l i k).F (a.eval (.tmp d)) w
section
variable {P:Program}{ops:Array Oper}{Q:Exit->Act->World->Prop}{m i:Nat}{a0 a:Act}{w0 w:World}{l:List FK}
theorem Here.src {s:Src}{x:Operand}(h:Here ops m a0 w0 l i a w)(hc:s.ok ops m i x=true):(s.K l i a0 x).F (a.eval x) w:=by
 cases s with
 |i k=>
  cases x with
  |tmp t=>
   unfold Src.ok at hc;rw[Bool.and_eq_true,beq_iff_eq]at hc;exact h.pre k t hc.1 hc.2
  |_=>cases hc
 |o=>
  cases x with
  |tmp t=>
   have:=(h.out t hc).trans (m_x _ _);unfold Src.K outK;cases e:lgo a0.tmps.toList t with
   |none=>simp only[e]at this ⊢;exact this
   |some v=>simp only[e]at this ⊢;exact this
  |_=>rfl
theorem Here.srcK {s:Src}{x:Operand}{v:Value}(h:Here ops m a0 w0 l i a w)(hc:s.ok ops m i x=true)(hv:s.K l i a0 x= .k v):a.eval x=v:=by
 have:=h.src hc;rw[hv]at this;exact this
def Gd (l:List FK)(i:Nat)(o:Oper):Prop:=match o.guard with|none=>True|some (j,b)=>look l i j= .k (.bool b)
def gsrc (ops:Array Oper)(m i:Nat):Bool:=match(opAt ops i).guard with
 |none=>true
 |some (j,_)=>inPre ops m i j&&(slotOf ops j).isSome
theorem Here.guard (h:Here ops m a0 w0 l i a w)(hg:Gd l i (opAt ops i))(hc:gsrc ops m i=true):Region.wanted (opAt ops i) (yielded ops a.tmps)=true:=by
 unfold Gd at hg;unfold gsrc at hc;cases e:(opAt ops i).guard with
 |none=>exact c_u e
 |some p=>
  obtain⟨j,b⟩:=p;rw[e]at hg hc;simp only[Bool.and_eq_true]at hc;obtain⟨d,hd⟩:=Option.isSome_iff_exists.1 hc.2
  have:=h.pre j d hc.1 hd;rw[hg]at this;exact j_y e hd this
def notAt (l:List FK)(i:Nat)(o:Oper):Prop:=match o.guard with|none=>False|some (j,b)=>look l i j= .k (.bool (!b))\/look l i j= .k undef
theorem Here.noguard (h:Here ops m a0 w0 l i a w)(hg:notAt l i (opAt ops i))(hc:gsrc ops m i=true):Region.wanted (opAt ops i) (yielded ops a.tmps)=false:=by
 unfold notAt at hg;unfold gsrc at hc;cases e:(opAt ops i).guard with
 |none=>rw[e]at hg;exact hg.elim
 |some p=>
  obtain⟨j,b⟩:=p;rw[e]at hg hc;simp only[Bool.and_eq_true]at hc;obtain⟨d,hd⟩:=Option.isSome_iff_exists.1 hc.2
  have:=h.pre j d hc.1 hd;rcases hg with hg|hg
  ·rw[hg]at this;exact g_6 e hd this (by cases b<;>rfl)
  ·rw[hg]at this;exact e_z e hd this
def HopK (P:Program)(ops:Array Oper)(Q:Exit->Act->World->Prop)(m:Nat)(a0:Act)(w0:World)(l:List FK)(i:Nat)(x:FK):Prop:=
 ∀a w,Here ops m a0 w0 l i a w->∀K:Act->World->Prop,(∀v w',x.F v w'->Below w.heap.size w w'->K (a.put (opAt ops i).dst v) w')->
  if Region.wanted (opAt ops i) (yielded ops a.tmps)=true then(opAt ops i).wp P a w K Q else K (a.put (opAt ops i).dst undef) w
def AllK (P:Program)(ops:Array Oper)(Q:Exit->Act->World->Prop)(m:Nat)(a0:Act)(w0:World):List FK->Prop
 | []=>True
 |x::l=>(match x with| .a T=>isAlloc (opAt ops l.length)=some T|x=>isAlloc (opAt ops l.length)=none/\HopK P ops Q m a0 w0 l l.length x)/\AllK P ops Q m a0 w0 l
def Run (b:Bool)(id:Nat)(P:Program)(ops:Array Oper)(Q:Exit->Act->World->Prop)(m:Nat)(a0:Act)(w0:World)(l:List FK)(i:Nat):Prop:=
 l.length=i->AllK P ops Q m a0 w0 l->(Code.region id ops b).wp P Q a0 w0
theorem Run.start {b:Bool}{id:Nat}(m:Nat)(h:Run b id P ops Q m a0 w0 [] 0):(Code.region id ops b).wp P Q a0 w0:=h rfl trivial
variable {b:Bool}{id:Nat}
theorem Run.step {x:FK}(hn:isAlloc (opAt ops i)=none)(hx:∀T,x≠ .a T)(h:HopK P ops Q m a0 w0 l i x)(rest:Run b id P ops Q m a0 w0 (x::l) (i+1)):Run b id P ops Q m a0 w0 l i:=fun hl hall=>by
 subst hl;refine rest rfl ⟨?_,hall⟩;cases x with
 |a T=>exact absurd rfl (hx T)
 |k v=>exact⟨hn,h⟩
 |f F hF=>exact⟨hn,h⟩
theorem Run.al {T:TypeId}(rest:Run b id P ops Q m a0 w0 (.a T::l) (i+1))(hT:isAlloc (opAt ops i)=some T:=by rfl):Run b id P ops Q m a0 w0 l i:=fun hl hall=>by
 subst hl;exact rest rfl ⟨hT,hall⟩
def okH (ops:Array Oper)(m i:Nat):Bool:=(isAlloc (opAt ops i)).isNone&&gsrc ops m i
theorem c_4 (h:okH ops m i=true):isAlloc (opAt ops i)=none/\gsrc ops m i=true:=by
 unfold okH at h;rw[Bool.and_eq_true]at h;exact⟨by simpa using h.1,h.2⟩
theorem Run.gen {x:FK}(hc:okH ops m i=true)(hx:∀T,x≠ .a T)(hg:Gd l i (opAt ops i))
  (H:∀a w,Here ops m a0 w0 l i a w->∀K:Act->World->Prop,(∀v w',x.F v w'->Below w.heap.size w w'->K (a.put (opAt ops i).dst v) w')->(opAt ops i).wp P a w K Q)
  (rest:Run b id P ops Q m a0 w0 (x::l) (i+1)):Run b id P ops Q m a0 w0 l i:=
 Run.step (c_4 hc).1 hx (fun a w h K hK=>by
  rw[if_pos (h.guard hg (c_4 hc).2)];exact H a w h K hK) rest
theorem Run.val {x:FK}(hc:okH ops m i=true)(hx:∀T,x≠ .a T)(hg:Gd l i (opAt ops i))
  (H:∀a w,Here ops m a0 w0 l i a w->∃v,(execOp a.eval (opAt ops i)).run P w= .ok (.value v) w/\x.F v w)
  (rest:Run b id P ops Q m a0 w0 (x::l) (i+1)):Run b id P ops Q m a0 w0 l i:=
 Run.gen hc hx hg (fun a w h K hK=>by
  obtain⟨v,h1,h2⟩:=H a w h;unfold Oper.wp;rw[h1];exact hK v w h2 (Below.refl _ _)) rest
theorem Run.no (rest:Run b id P ops Q m a0 w0 ((.k undef)::l) (i+1))(hc:okH ops m i=true:=by kernel_rfl)(hg:notAt l i (opAt ops i):=by first|exact .inl rfl|exact .inr rfl):Run b id P ops Q m a0 w0 l i:=
 Run.step (c_4 hc).1 (FK.kne undef) (fun a w h K hK=>by
  rw[if_neg (by rw[h.noguard hg (c_4 hc).2];simp)];exact hK _ _ rfl (Below.refl _ _)) rest
def opX (o:Op):Operand:=match o with| .move x=>x| .assign x=>x| .load _ x=>x| .fieldAddr _ x _=>x| .extract x _=>x| .unOp _ _ x=>x|_=>.func 0
abbrev mvX (ops:Array Oper)(i:Nat):Operand:=opX (opAt ops i).op
def okMv (ops:Array Oper)(m i:Nat)(s:Src):Bool:=okH ops m i&&(match(opAt ops i).op with| .move x=>s.ok ops m i x| .assign x=>s.ok ops m i x|_=>false)
theorem i_h {s:Src}(hc:okMv ops m i s=true)(h:Here ops m a0 w0 l i a w):(execOp a.eval (opAt ops i)).run P w= .ok (.value (a.eval (mvX ops i))) w/\(s.K l i a0 (mvX ops i)).F (a.eval (mvX ops i)) w:=by
 unfold okMv at hc;rw[Bool.and_eq_true]at hc;obtain⟨h1,h2⟩:=hc;unfold execOp mvX;cases e:(opAt ops i).op<;>simp only[e]at h2<;>first|exact⟨rfl,h.src h2⟩|cases h2
theorem n_1 {s:Src}(hc:okMv ops m i s=true):okH ops m i=true:=by unfold okMv at hc;rw[Bool.and_eq_true]at hc;exact hc.1
theorem Run.mv (s:Src){v:Value}(rest:Run b id P ops Q m a0 w0 ((.k v)::l) (i+1))(hc:okMv ops m i s=true:=by kernel_rfl)(hg:Gd l i (opAt ops i):=by first|exact trivial|exact rfl)(hv:s.K l i a0 (mvX ops i)= .k v:=by rfl):Run b id P ops Q m a0 w0 l i:=
 Run.val (n_1 hc) (FK.kne v) hg (fun a w h=>⟨_,(i_h (P:=P) hc h).1,by rw[<-hv];exact(i_h (P:=P) hc h).2⟩) rest
theorem Run.mf (s:Src){F:FVal}{hF:Stays F}(rest:Run b id P ops Q m a0 w0 ((.f F hF)::l) (i+1))(hc:okMv ops m i s=true:=by kernel_rfl)(hg:Gd l i (opAt ops i):=by first|exact trivial|exact rfl)(hv:s.K l i a0 (mvX ops i)= .f F hF:=by rfl):Run b id P ops Q m a0 w0 l i:=
 Run.val (n_1 hc) (FK.fne hF) hg (fun a w h=>⟨_,(i_h (P:=P) hc h).1,by rw[<-hv];exact(i_h (P:=P) hc h).2⟩) rest
def okLd (ops:Array Oper)(m i:Nat)(s:Src)(T:TypeId):Bool:=okH ops m i&&(match(opAt ops i).op with| .load T' x=>T'==T&&s.ok ops m i x|_=>false)
theorem Run.ld (s:Src){T:TypeId}{p v:Value}(hr:∀w,Below w0.heap.size w0 w->(Instr.loadAt T p).run P w= .ok v w)(rest:Run b id P ops Q m a0 w0 ((.k v)::l) (i+1))(hc:okLd ops m i s T=true:=by kernel_rfl)(hg:Gd l i (opAt ops i):=by first|exact trivial|exact rfl)(hx:s.K l i a0 (mvX ops i)= .k p:=by rfl):Run b id P ops Q m a0 w0 l i:=by
 unfold okLd at hc;rw[Bool.and_eq_true]at hc;obtain⟨h1,h2⟩:=hc;refine Run.val h1 (FK.kne v) hg (fun a w h=>⟨v, ?_,rfl⟩) rest;unfold mvX at hx;unfold execOp;cases e:(opAt ops i).op<;>simp only[e]at h2 hx<;>try cases h2
 rw[Bool.and_eq_true,beq_iff_eq]at h2;obtain⟨rfl,h2⟩:=h2;simp only[h.srcK h2 hx];simp[hr w h.below]
def okFa (ops:Array Oper)(m i:Nat)(s:Src)(T:TypeId)(f:Nat):Bool:=okH ops m i&&(match(opAt ops i).op with| .fieldAddr T' x f'=>T'==T&&f'==f&&s.ok ops m i x|_=>false)
theorem Run.fa (s:Src){T:TypeId}{f:Nat}{p v:Value}(hr:∀w,(Instr.fieldAt T p f).run P w= .ok v w)(rest:Run b id P ops Q m a0 w0 ((.k v)::l) (i+1))(hc:okFa ops m i s T f=true:=by kernel_rfl)(hg:Gd l i (opAt ops i):=by first|exact trivial|exact rfl)(hx:s.K l i a0 (mvX ops i)= .k p:=by rfl):Run b id P ops Q m a0 w0 l i:=by
 unfold okFa at hc;rw[Bool.and_eq_true]at hc;obtain⟨h1,h2⟩:=hc;refine Run.val h1 (FK.kne v) hg (fun a w h=>⟨v, ?_,rfl⟩) rest;unfold mvX at hx;unfold execOp;cases e:(opAt ops i).op<;>simp only[e]at h2 hx<;>try cases h2
 rw[Bool.and_eq_true,Bool.and_eq_true,beq_iff_eq,beq_iff_eq]at h2;obtain⟨⟨rfl,rfl⟩,h2⟩:=h2;simp only[h.srcK h2 hx];simp[hr w]
def opXY (o:Op):Operand × Operand:=match o with| .indexAddr _ x y=>(x,y)| .index _ x y=>(x,y)| .binOp _ _ x y _=>(x,y)|_=>(.func 0,.func 0)
abbrev twoX (ops:Array Oper)(i:Nat):Operand × Operand:=opXY (opAt ops i).op
def okTwo (ops:Array Oper)(m i:Nat)(s t:Src):Bool:=okH ops m i&&(match(opAt ops i).op with| .indexAddr _ x y=>s.ok ops m i x&&t.ok ops m i y| .index _ x y=>s.ok ops m i x&&t.ok ops m i y| .binOp _ _ x y _=>s.ok ops m i x&&t.ok ops m i y|_=>false)
def RunTwo (P:Program)(o:Op)(w:World)(u v r:Value):Prop:=match o with
 | .indexAddr T _ _=>(Instr.indexAt T u v).run P w= .ok r w
 | .index T _ _=>(Instr.index T u v).run P w= .ok r w
 | .binOp b T x y _=>(do eqGuard b T x y u v;binOp b T u v:Sem Value).run P w= .ok r w
 |_=>False
theorem Run.two (s t:Src){u v r:Value}(hr:∀w,RunTwo P (opAt ops i).op w u v r)(rest:Run b id P ops Q m a0 w0 ((.k r)::l) (i+1))(hc:okTwo ops m i s t=true:=by kernel_rfl)(hg:Gd l i (opAt ops i):=by first|exact trivial|exact rfl)(hx:s.K l i a0 (twoX ops i).1= .k u:=by rfl)(hy:t.K l i a0 (twoX ops i).2= .k v:=by rfl):Run b id P ops Q m a0 w0 l i:=by
 unfold okTwo at hc;rw[Bool.and_eq_true]at hc;obtain⟨h1,h2⟩:=hc;refine Run.val h1 (FK.kne r) hg (fun a w h=>⟨r, ?_,rfl⟩) rest;unfold twoX at hx hy;have hr:=hr w;unfold RunTwo at hr;unfold execOp;cases e:(opAt ops i).op<;>simp only[e]at h2 hx hy hr<;>try cases h2
 all_goals
  rw[Bool.and_eq_true]at h2;simp only[h.srcK h2.1 hx,h.srcK h2.2 hy];simp only[Sem.run_bind,Result.andThen]at hr ⊢;simp[hr]
def okNot (ops:Array Oper)(m i:Nat)(s:Src):Bool:=okH ops m i&&(match(opAt ops i).op with| .unOp .not _ x=>s.ok ops m i x|_=>false)
theorem Run.not (s:Src){c:Bool}(rest:Run b id P ops Q m a0 w0 ((.k (.bool (!c)))::l) (i+1))(hc:okNot ops m i s=true:=by kernel_rfl)(hg:Gd l i (opAt ops i):=by first|exact trivial|exact rfl)(hx:s.K l i a0 (mvX ops i)= .k (.bool c):=by rfl):Run b id P ops Q m a0 w0 l i:=by
 unfold okNot at hc;rw[Bool.and_eq_true]at hc;obtain⟨h1,h2⟩:=hc;refine Run.val h1 (FK.kne (.bool (!c))) hg (fun a w h=>⟨.bool (!c), ?_,rfl⟩) rest;unfold mvX at hx;unfold execOp;cases e:(opAt ops i).op<;>simp only[e]at h2 hx<;>try cases h2
 split at h2<;>try cases h2
 rename_i e2;cases e2;simp only[h.srcK h2 hx];simp[go_sem]
theorem Run.nt (s:Src)(rest:Run b id P ops Q m a0 w0 ((.k (.bool false))::l) (i+1))(hc:okNot ops m i s=true:=by kernel_rfl)(hg:Gd l i (opAt ops i):=by first|exact trivial|exact rfl)(hx:s.K l i a0 (mvX ops i)= .k (.bool true):=by rfl):Run b id P ops Q m a0 w0 l i:=by
 unfold okNot at hc;rw[Bool.and_eq_true]at hc;obtain⟨h1,h2⟩:=hc;refine Run.val h1 (FK.kne (.bool false)) hg (fun a w h=>⟨.bool false, ?_,rfl⟩) rest;unfold mvX at hx;unfold execOp;cases e:(opAt ops i).op<;>simp only[e]at h2 hx<;>try cases h2
 split at h2<;>try cases h2
 rename_i e2;cases e2;simp only[h.srcK h2 hx];simp[go_sem]
theorem Run.nf (s:Src)(rest:Run b id P ops Q m a0 w0 ((.k (.bool true))::l) (i+1))(hc:okNot ops m i s=true:=by kernel_rfl)(hg:Gd l i (opAt ops i):=by first|exact trivial|exact rfl)(hx:s.K l i a0 (mvX ops i)= .k (.bool false):=by rfl):Run b id P ops Q m a0 w0 l i:=by
 unfold okNot at hc;rw[Bool.and_eq_true]at hc;obtain⟨h1,h2⟩:=hc;refine Run.val h1 (FK.kne (.bool true)) hg (fun a w h=>⟨.bool true, ?_,rfl⟩) rest;unfold mvX at hx;unfold execOp;cases e:(opAt ops i).op<;>simp only[e]at h2 hx<;>try cases h2
 split at h2<;>try cases h2
 rename_i e2;cases e2;simp only[h.srcK h2 hx];simp[go_sem]
def opXYZ (o:Op):Operand × Operand × Operand:=match o with| .pick c x y=>(c,x,y)|_=>(.func 0,.func 0,.func 0)
abbrev pkX (ops:Array Oper)(i:Nat):Operand × Operand × Operand:=opXYZ (opAt ops i).op
def okPk (ops:Array Oper)(m i:Nat)(s t:Src)(c:Bool):Bool:=okH ops m i&&(match(opAt ops i).op with| .pick q x y=>s.ok ops m i q&&t.ok ops m i (if c then x else y)|_=>false)
theorem Run.pk (s t:Src)(c:Bool){v:Value}(rest:Run b id P ops Q m a0 w0 ((.k v)::l) (i+1))(hc:okPk ops m i s t c=true:=by kernel_rfl)(hg:Gd l i (opAt ops i):=by first|exact trivial|exact rfl)(hx:s.K l i a0 (pkX ops i).1= .k (.bool c):=by rfl)(hv:t.K l i a0 (bif c then(pkX ops i).2.1 else(pkX ops i).2.2)= .k v:=by rfl):Run b id P ops Q m a0 w0 l i:=by
 unfold okPk at hc;rw[Bool.and_eq_true]at hc;obtain⟨h1,h2⟩:=hc;refine Run.val h1 (FK.kne v) hg (fun a w h=>⟨v, ?_,rfl⟩) rest;unfold pkX at hx hv;unfold execOp;cases e:(opAt ops i).op<;>simp only[e]at h2 hx hv<;>try cases h2
 rw[Bool.and_eq_true]at h2;simp only[h.srcK h2.1 hx];cases c
 ·have:=h.srcK h2.2 hv;simp only[Bool.false_eq_true,if_false]at this;simp[asBool,this]
 ·have:=h.srcK h2.2 hv;simp only[if_true]at this;simp[asBool,this]
def okEx (ops:Array Oper)(m i:Nat)(s:Src)(j:Nat):Bool:=okH ops m i&&(match(opAt ops i).op with| .extract x j'=>j'==j&&s.ok ops m i x|_=>false)
theorem Run.ex {x:FK}(s:Src)(j:Nat)(hv:∀v w,(s.K l i a0 (mvX ops i)).F v w->∃vs:Array Value,∃u,v= .tuple vs/\vs[j]? =some u/\x.F u w)(rest:Run b id P ops Q m a0 w0 (x::l) (i+1))(hx:∀T,x≠ .a T:=by first|exact FK.kne _|exact FK.fne _)(hc:okEx ops m i s j=true:=by kernel_rfl)(hg:Gd l i (opAt ops i):=by first|exact trivial|exact rfl):Run b id P ops Q m a0 w0 l i:=by
 unfold okEx at hc;rw[Bool.and_eq_true]at hc;obtain⟨h1,h2⟩:=hc;refine Run.val h1 hx hg (fun a w h=>?_) rest;unfold mvX at hv;cases e:(opAt ops i).op<;>simp only[e]at h2 hv<;>try cases h2
 rw[Bool.and_eq_true,beq_iff_eq]at h2;obtain⟨rfl,h2⟩:=h2;rename_i x' _;obtain⟨vs,u,e1,e2,e3⟩:=hv _ _ (h.src h2);have e1:a.eval x'= .tuple vs:=e1;refine⟨u, ?_,e3⟩;unfold execOp;simp only[e,e1];simp[go_sem,e2]
def kT (x y:FK):FK:=.f (fun v w=>∃a b,v= .tuple #[a,b]/\x.F a w/\y.F b w) (fun v w w' ⟨a,b,e,h1,h2⟩ hb=>⟨a,b,e,x.stays _ _ _ h1 hb,y.stays _ _ _ h2 hb⟩)
theorem kT_0 {x y:FK}:∀v w,(kT x y).F v w->∃vs:Array Value,∃u,v= .tuple vs/\vs[0]? =some u/\x.F u w:=fun v w ⟨a,b,e,h1,h2⟩=>⟨_,a,e,rfl,h1⟩
theorem kT_1 {x y:FK}:∀v w,(kT x y).F v w->∃vs:Array Value,∃u,v= .tuple vs/\vs[1]? =some u/\y.F u w:=fun v w ⟨a,b,e,h1,h2⟩=>⟨_,b,e,rfl,h2⟩
theorem Run.run {v:Value}(hr:∀a w,Here ops m a0 w0 l i a w->(execOp a.eval (opAt ops i)).run P w= .ok (.value v) w)(rest:Run b id P ops Q m a0 w0 ((.k v)::l) (i+1))(hc:okH ops m i=true:=by kernel_rfl)(hg:Gd l i (opAt ops i):=by first|exact trivial|exact rfl):Run b id P ops Q m a0 w0 l i:=
 Run.val hc (FK.kne v) hg (fun a w h=>⟨v,hr a w h,rfl⟩) rest
def opB (o:Op):Operand:=match o with| .call { callee:=.builtin _,args:=xs,argTypes:=_ }=>(match xs.toList with|x::_=>x| []=>.func 0)|_=>.func 0
def opT0 (o:Op):Option TypeId:=match o with| .call { callee:=.builtin _,args:=_,argTypes:=ts }=>(match ts.toList with|t::_=>some t| []=>none)|_=>none
def okLen (ops:Array Oper)(m i:Nat)(s:Src):Bool:=okH ops m i&&(match(opAt ops i).op with| .call { callee:=.builtin .len,args:=xs,argTypes:=_ }=>(match xs.toList with| [x]=>s.ok ops m i x|_=>false)|_=>false)
theorem Run.len (s:Src){A:Option Addr}{n c:Nat}{T E:TypeId}(hu:P.underlying T=some (.slice E))(rest:Run b id P ops Q m a0 w0 ((.k (.int .i64 (n:Int)))::l) (i+1))(hT:opT0 (opAt ops i).op=some T:=by rfl)(hc:okLen ops m i s=true:=by kernel_rfl)(hg:Gd l i (opAt ops i):=by first|exact trivial|exact rfl)(hx:s.K l i a0 (opB (opAt ops i).op)= .k (.slice A n c):=by rfl):Run b id P ops Q m a0 w0 l i:=by
 unfold okLen at hc;rw[Bool.and_eq_true]at hc;obtain⟨h1,h2⟩:=hc;refine Run.val h1 (FK.kne _) hg (fun a w h=>⟨_, ?_,rfl⟩) rest;split at h2
 ·rename_i xs ts e;split at h2
  ·rename_i x ex;obtain⟨ys⟩:=xs;simp only at ex;subst ex;have e0:opB (opAt ops i).op=x:=by rw[e];rfl
   rw[e0]at hx
   have:=h.srcK h2 hx;unfold execOp;rw[e];rw[e]at hT;obtain⟨us⟩:=ts;match us,hT with
   |t::us,hT=>
    obtain rfl:t=T:=Option.some.inj hT;simp only[resolve,List.map_toArray,List.map_cons,List.map_nil,this];simp[go_sem,Builtin.len_,underlying,hu,show(Array.mk (t::us))[0]? =some t from rfl]
  ·cases h2
 ·cases h2
def opFn (o:Op):FuncId × List Operand × List Operand:=match o with| .makeFunc (.func f) us vs=>(f,us.toList,vs.toList)|_=>(0,[],[])
def srcsK (l:List FK)(i:Nat)(a0:Act):List Operand->List Src->List Value->Prop
 | [],[],[]=>True
 |x::xs,s::ss,v::vs=>s.K l i a0 x= .k v/\srcsK l i a0 xs ss vs
 |_,_,_=>False
def okSrcs (ops:Array Oper)(m i:Nat):List Operand->List Src->Bool
 | [],[]=>true
 |x::xs,s::ss=>s.ok ops m i x&&okSrcs ops m i xs ss
 |_,_=>false
theorem Here.srcs (h:Here ops m a0 w0 l i a w):∀ {xs:List Operand} {ss:List Src} {vs:List Value},okSrcs ops m i xs ss=true->srcsK l i a0 xs ss vs->xs.map a.eval=vs
 | [],[],[],_,_=>rfl
 |x::xs,s::ss,v::vs,hc,hv=>by
  unfold okSrcs at hc;rw[Bool.and_eq_true]at hc;rw[List.map_cons,h.srcK hc.1 hv.1,h.srcs hc.2 hv.2]
 | [],_::_,_,hc,_=>nomatch hc
 |_::_,[],_,hc,_=>nomatch hc
 | [],[],_::_,_,hv=>hv.elim
 |_::_,_::_,[],_,hv=>hv.elim
def okFn (ops:Array Oper)(m i:Nat)(ss ts:List Src):Bool:=okH ops m i&&(match(opAt ops i).op with| .makeFunc (.func _) us vs=>okSrcs ops m i us.toList ss&&okSrcs ops m i vs.toList ts|_=>false)
theorem Run.fn (ss ts:List Src)(us vs:List Value)(hu:srcsK l i a0 (opFn (opAt ops i).op).2.1 ss us)(hv:srcsK l i a0 (opFn (opAt ops i).op).2.2 ts vs)(rest:Run b id P ops Q m a0 w0 (.k (.func (.func (opFn (opAt ops i).op).1) us.toArray vs.toArray)::l) (i+1))(hc:okFn ops m i ss ts=true:=by kernel_rfl)(hg:Gd l i (opAt ops i):=by first|exact trivial|exact rfl)
 :Run b id P ops Q m a0 w0 l i:=by
 unfold okFn at hc;rw[Bool.and_eq_true]at hc;obtain⟨h1,h2⟩:=hc;refine Run.val h1 (FK.kne _) hg (fun a w h=>⟨_, ?_,rfl⟩) rest;split at h2
 ·rename_i f xs ys e;rw[Bool.and_eq_true]at h2;rw[e]at hu hv;have e1:=h.srcs h2.1 hu;have e2:=h.srcs h2.2 hv;have k1:xs.map a.eval=us.toArray:=by apply Array.ext';rw[Array.toList_map];exact e1
  have k2:ys.map a.eval=vs.toArray:=by apply Array.ext';rw[Array.toList_map];exact e2
  unfold execOp;rw[e];simp only[k1,k2];simp[Instr.makeFunc,opFn]
 ·cases h2
theorem Run.mem {x:FK}(H:∀a w,Here ops m a0 w0 l i a w->∃v w',(execOp a.eval (opAt ops i)).run P w= .ok (.value v) w'/\x.F v w'/\Below w.heap.size w w')(rest:Run b id P ops Q m a0 w0 (x::l) (i+1))(hx:∀T,x≠ .a T:=by first|exact FK.kne _|exact FK.fne _)(hc:okH ops m i=true:=by kernel_rfl)(hg:Gd l i (opAt ops i):=by first|exact trivial|exact rfl)
 :Run b id P ops Q m a0 w0 l i:=
 Run.gen hc hx hg (fun a w h K hK=>by
  obtain⟨v,w',h1,h2,h3⟩:=H a w h;unfold Oper.wp;rw[h1];exact hK v w' h2 h3) rest
def opF (o:Op):FuncId:=match o with| .call { callee:=.value (.func f),args:=_,argTypes:=_ }=>f|_=>0
abbrev callF (ops:Array Oper)(i:Nat):FuncId:=opF (opAt ops i).op
def opA (o:Op)(j:Nat):Operand:=match o with| .call c=>(match c.args.toList[j]? with|some x=>x|none=>.func 0)|_=>.func 0
abbrev callX (ops:Array Oper)(i j:Nat):Operand:=opA (opAt ops i).op j
def okCall (ops:Array Oper)(m i n:Nat):Bool:=okH ops m i&&(match(opAt ops i).op with| .call { callee:=.value (.func _),args:=xs,argTypes:=_ }=>xs.size==n|_=>false)
theorem g_j {n:Nat}(h:okCall ops m i n=true):okH ops m i=true/\∃f xs ts,(opAt ops i).op= .call { callee:=.value (.func f),args:=xs,argTypes:=ts }/\xs.size=n:=by
 unfold okCall at h;rw[Bool.and_eq_true]at h;refine⟨h.1, ?_⟩;have h2:=h.2;split at h2
 ·rename_i f xs ts e;exact⟨f,xs,ts,e,by simpa using h2⟩
 ·cases h2
theorem c_8 {x:FK}{n:Nat}(hc:okCall ops m i n=true)(hx:∀T,x≠ .a T)(hg:Gd l i (opAt ops i))(hent:∀args w,(callFunc (callF ops i) args).run P w= .ok (.enter (callF ops i) args) w)
  (H:∀a w,Here ops m a0 w0 l i a w->Calls P (callF ops i) (((List.range n).map fun j=>a.eval (callX ops i j)).toArray) w (RetK x w)) (rest:Run b id P ops Q m a0 w0 (x::l) (i+1)):Run b id P ops Q m a0 w0 l i:=by
 obtain⟨h1,f,xs,ts,e,h2⟩:=g_j hc;refine Run.gen h1 hx hg (fun a w h K hK=>?_) rest;have H1:=H a w h;have hF:callF ops i=f:=by unfold callF opF;rw[e]
 have hX:xs.map a.eval=(((List.range n).map fun j=>a.eval (callX ops i j)).toArray):=by
  apply Array.ext
  ·simp[h2]
  ·intro j hj1 hj2;simp[callX,opA,e];simp at hj1;simp[hj1]
 rw[hF]at hent H1;unfold Oper.wp;have he:(execOp a.eval (opAt ops i)).run P w= .ok (.enter f (((List.range n).map fun j=>a.eval (callX ops i j)).toArray)) w:=by
  unfold execOp;rw[e];simp only[resolve,hX,Act.eval,Deferred.ofValue];simpa [invoke] using hent _ w
 rw[he,Oper.upon_enter];refine H1.mono fun e w' h=>?_;obtain⟨u,rfl,hu,hb⟩:=h;exact hK u w' hu hb
end
noncomputable def goes (f:FuncId):Bool:=match Tryz.prog.funcs[f]? with|some fn=> !(fn.name== "runtime.NumGoroutine")&&fn.body.isSome|none=>false
section
variable {ops:Array Oper}{Q:Exit->Act->World->Prop}{m i:Nat}{a0 a:Act}{w0 w:World}{l:List FK}{b:Bool}{id:Nat}{x:FK}
noncomputable def okC (ops:Array Oper)(m i:Nat)(ss:List Src):Bool:=okCall ops m i ss.length&&goes (callF ops i)&&((List.range ss.length).all fun j=>(match ss[j]? with|some s=>s|none=>Src.o:Src).ok ops m i (callX ops i j))
theorem b_c {ss:List Src}(hc:okC ops m i ss=true):okCall ops m i ss.length=true/\goes (callF ops i)=true/\∀(j:Nat) (s:Src),ss[j]? =some s->s.ok ops m i (callX ops i j)=true:=by
 unfold okC at hc;simp only[Bool.and_eq_true]at hc;refine⟨hc.1.1,hc.1.2,fun j s hj=>?_⟩;have h:=List.all_eq_true.1 hc.2 j (List.mem_range.2 (List.getElem?_eq_some_iff.1 hj).1);rw[hj]at h;exact h
def opV (o:Op):Operand:=match o with| .call { callee:=.value x,args:=_,argTypes:=_ }=>x|_=>.func 0
def okCV (ops:Array Oper)(m i:Nat)(s:Src)(ss:List Src):Bool:=okH ops m i&&(match(opAt ops i).op with| .call { callee:=.value x,args:=xs,argTypes:=_ }=>s.ok ops m i x&&xs.size==ss.length|_=>false)&&((List.range ss.length).all fun j=>(match ss[j]? with|some s=>s|none=>Src.o:Src).ok ops m i (callX ops i j))
theorem Run.cv2 (s s1 s2:Src){f:FuncId}{first captured:Array Value}(hf:s.K l i a0 (opV (opAt ops i).op)= .k (.func (.func f) first captured))(hgo:goes f=true)
  (H:∀u v w,Below w0.heap.size w0 w->(s1.K l i a0 (callX ops i 0)).F u w->(s2.K l i a0 (callX ops i 1)).F v w->Calls Tryz.prog f (first++ #[u,v]++captured) w (RetK x w))
  (rest:Run b id Tryz.prog ops Q m a0 w0 (x::l) (i+1)) (hx:∀T,x≠ .a T:=by first|exact FK.kne _|exact FK.fne _) (hc:okCV ops m i s [s1,s2]=true:=by kernel_rfl) (hg:Gd l i (opAt ops i):=by first|exact trivial|exact rfl):Run b id Tryz.prog ops Q m a0 w0 l i:=by
 unfold okCV at hc;simp only[Bool.and_eq_true]at hc;obtain⟨⟨h1,h2⟩,h3⟩:=hc;refine Run.gen h1 hx hg (fun a w h K hK=>?_) rest;have g1:=List.all_eq_true.1 h3 0 (List.mem_range.2 (by simp));have g2:=List.all_eq_true.1 h3 1 (List.mem_range.2 (by simp));have H1:=H _ _ w h.below (h.src g1) (h.src g2);split at h2
 ·rename_i y xs ts e;simp only[Bool.and_eq_true,beq_iff_eq]at h2;have e0:opV (opAt ops i).op=y:=by rw[e];rfl
  rw[e0]at hf;have ey:=h.srcK h2.1 hf;have hX:xs.map a.eval= #[a.eval (callX ops i 0),a.eval (callX ops i 1)]:=by
   have h22:xs.size=2:=h2.2;apply Array.ext
   ·simp[h22]
   ·intro j hj1 hj2;simp at hj2;match j,hj2 with
    |0,_=>simp[callX,opA,e,h22]
    |1,_=>simp[callX,opA,e,h22]
  unfold Oper.wp;have he:(execOp a.eval (opAt ops i)).run Tryz.prog w= .ok (.enter f (first++ #[a.eval (callX ops i 0),a.eval (callX ops i 1)]++captured)) w:=by
   unfold execOp;rw[e];simp only[resolve,hX,ey,Deferred.ofValue];simpa [invoke] using ent7 hgo (first++ #[a.eval (callX ops i 0),a.eval (callX ops i 1)]++captured) w
  rw[he,Oper.upon_enter];refine H1.mono fun e w' h=>?_;obtain⟨u,rfl,hu,hb⟩:=h;exact hK u w' hu hb
 ·cases h2
abbrev R (ops:Array Oper)(Q:Exit->Act->World->Prop)(m:Nat)(a0:Act)(w0:World)(b:Bool)(id:Nat)(l:List FK)(i:Nat):Prop:=Run b id Tryz.prog ops Q m a0 w0 l i
theorem Run.c0 (H:∀w,Below w0.heap.size w0 w->Calls Tryz.prog (callF ops i) #[] w (RetK x w))(rest:R ops Q m a0 w0 b id (x::l) (i+1))(hx:∀T,x≠ .a T:=by first|exact FK.kne _|exact FK.fne _)(hc:okC ops m i []=true:=by kernel_rfl)(hg:Gd l i (opAt ops i):=by first|exact trivial|exact rfl):R ops Q m a0 w0 b id l i:=
 c_8 (n:=0) (b_c hc).1 hx hg (fun args w=>ent7 (b_c hc).2.1 args w) (fun a w h=>H w h.below) rest
theorem Run.c1 (s:Src)(H:∀u w,Below w0.heap.size w0 w->(s.K l i a0 (callX ops i 0)).F u w->Calls Tryz.prog (callF ops i) #[u] w (RetK x w))(rest:R ops Q m a0 w0 b id (x::l) (i+1))(hx:∀T,x≠ .a T:=by first|exact FK.kne _|exact FK.fne _)(hc:okC ops m i [s]=true:=by kernel_rfl)(hg:Gd l i (opAt ops i):=by first|exact trivial|exact rfl):R ops Q m a0 w0 b id l i:=
 c_8 (n:=1) (b_c hc).1 hx hg (fun args w=>ent7 (b_c hc).2.1 args w) (fun a w h=>H _ w h.below (h.src ((b_c hc).2.2 0 s rfl))) rest
theorem Run.c2 (s t:Src)(H:∀u v w,Below w0.heap.size w0 w->(s.K l i a0 (callX ops i 0)).F u w->(t.K l i a0 (callX ops i 1)).F v w->Calls Tryz.prog (callF ops i) #[u,v] w (RetK x w))(rest:R ops Q m a0 w0 b id (x::l) (i+1))(hx:∀T,x≠ .a T:=by first|exact FK.kne _|exact FK.fne _)(hc:okC ops m i [s,t]=true:=by kernel_rfl)(hg:Gd l i (opAt ops i):=by first|exact trivial|exact rfl):R ops Q m a0 w0 b id l i:=
 c_8 (n:=2) (b_c hc).1 hx hg (fun args w=>ent7 (b_c hc).2.1 args w) (fun a w h=>H _ _ w h.below (h.src ((b_c hc).2.2 0 s rfl)) (h.src ((b_c hc).2.2 1 t rfl))) rest
theorem Run.c3 (s t r:Src)(H:∀u v y w,Below w0.heap.size w0 w->(s.K l i a0 (callX ops i 0)).F u w->(t.K l i a0 (callX ops i 1)).F v w->(r.K l i a0 (callX ops i 2)).F y w->Calls Tryz.prog (callF ops i) #[u,v,y] w (RetK x w))(rest:R ops Q m a0 w0 b id (x::l) (i+1))(hx:∀T,x≠ .a T:=by first|exact FK.kne _|exact FK.fne _)(hc:okC ops m i [s,t,r]=true:=by kernel_rfl)(hg:Gd l i (opAt ops i):=by first|exact trivial|exact rfl):R ops Q m a0 w0 b id l i:=
 c_8 (n:=3) (b_c hc).1 hx hg (fun args w=>ent7 (b_c hc).2.1 args w) (fun a w h=>H _ _ _ w h.below (h.src ((b_c hc).2.2 0 s rfl)) (h.src ((b_c hc).2.2 1 t rfl)) (h.src ((b_c hc).2.2 2 r rfl))) rest
theorem Run.c4 (s t r q:Src)(H:∀u v y z w,Below w0.heap.size w0 w->(s.K l i a0 (callX ops i 0)).F u w->(t.K l i a0 (callX ops i 1)).F v w->(r.K l i a0 (callX ops i 2)).F y w->(q.K l i a0 (callX ops i 3)).F z w->Calls Tryz.prog (callF ops i) #[u,v,y,z] w (RetK x w))(rest:R ops Q m a0 w0 b id (x::l) (i+1))(hx:∀T,x≠ .a T:=by first|exact FK.kne _|exact FK.fne _)(hc:okC ops m i [s,t,r,q]=true:=by kernel_rfl)(hg:Gd l i (opAt ops i):=by first|exact trivial|exact rfl):R ops Q m a0 w0 b id l i:=
 c_8 (n:=4) (b_c hc).1 hx hg (fun args w=>ent7 (b_c hc).2.1 args w) (fun a w h=>H _ _ _ _ w h.below (h.src ((b_c hc).2.2 0 s rfl)) (h.src ((b_c hc).2.2 1 t rfl)) (h.src ((b_c hc).2.2 2 r rfl)) (h.src ((b_c hc).2.2 3 q rfl))) rest
def EndQ (ops:Array Oper)(Q:Exit->Act->World->Prop)(m:Nat)(w0 w:World):List Nat->List FK->List (Option Nat)->Act->Prop
 |acc,x::l,d::ds,a=>match x with
  | .k v=>EndQ ops Q m w0 w acc l ds (a.put d v)
  | .f F _=>∀v,F v w->EndQ ops Q m w0 w acc l ds (a.put d v)
  | .a T=>∀g:Nat,w0.heap.size<=g->g<w.heap.size->w.heap[g]? =some (zeroObj T)->Apart g acc->EndQ ops Q m w0 w (g::acc) l ds (a.put d (.pointer (some ⟨g,0,none⟩)))
 |_,_,_,a=>Shut (wpList Tryz.prog ops Q (ops.toList.drop m) a w)
def okL (os:List Oper)(l:List FK):Prop:=match os,l with
 | [],[]=>True
 |o::os,x::l=>(match x with| .a T=>isAlloc o=some T|_=>isAlloc o=none)/\okL os l
 |_,_=>False
theorem c_y {w:World}:∀(os:List Oper) (l l0:List FK) (acc:List Nat) (i:Nat) (a:Act),okL os l->(∀j,j<l.length->nthK l0 (i+j)=nthK l j)->EndQ ops Q m w0 w acc l (os.map (·.dst)) a->EndAll Tryz.prog ops Q m w0 zeroObj (fsOf l0) w acc i os a
 | [],[],l0,acc,i,a,_,_,h=>by unfold EndAll;unfold EndQ at h;exact h.out
 |o::os,x::l,l0,acc,i,a,hk,hl,h=>by
  obtain⟨h1,h2⟩:=hk;have h0:=hl 0 (by simp);have hs:∀j,j<l.length->nthK l0 (i+1+j)=nthK l j:=fun j hj=>by
   have:=hl (j+1) (by simp;omega);rw[show i+1+j=i+(j+1) by omega,this];rfl
  rw[Nat.add_zero]at h0;rw[List.map_cons]at h;unfold EndAll;cases x with
  |k v=>
   simp only at h1;rw[h1];intro u hu;rw[nthF_of,h0]at hu;obtain rfl:u=v:=hu;exact c_y os l l0 acc (i+1) _ h2 hs h
  |f F hF=>
   simp only at h1;rw[h1];intro u hu;rw[nthF_of,h0]at hu;exact c_y os l l0 acc (i+1) _ h2 hs (h u hu)
  |a T=>
   simp only at h1;rw[h1];intro g e1 e2 e3 e4;exact c_y os l l0 (g::acc) (i+1) _ h2 hs (h g e1 e2 e3 e4)
 | [],_::_,_,_,_,_,hk,_,_=>hk.elim
 |_::_,[],_,_,_,_,hk,_,_=>hk.elim
theorem nthK_app:∀(l:List FK) (x:FK) (k:Nat),nthK (l++[x]) k=if k=l.length then x else nthK l k
 | [],x,0=>rfl
 | [],x,k+1=>by simp[nthK]
 |y::l,x,0=>by simp[nthK]
 |y::l,x,k+1=>by
  have:=nthK_app l x k;simp only[List.cons_append,nthK,List.length_cons,this,Nat.add_right_cancel_iff]
theorem look_rev:∀(l:List FK) (k:Nat),k<l.length->look l l.length k=nthK l.reverse k
 | [],k,h=>by simp at h
 |x::l,k,h=>by
  rw[List.reverse_cons,nthK_app,List.length_reverse];unfold look;rw[List.length_cons];by_cases e:k=l.length
  ·rw[if_pos e,show l.length+1 - (k+1)=0 by omega];rfl
  ·rw[if_neg e,show l.length+1 - (k+1)=(l.length - (k+1))+1 by simp at h;omega];exact look_rev l k (by simp at h;omega)
theorem allK_at:∀(l:List FK),AllK Tryz.prog ops Q m a0 w0 l->∀j,j<l.length->∃l',(∀k,k<j->look l' j k=nthK l.reverse k)/\(match nthK l.reverse j with| .a T=>isAlloc (opAt ops j)=some T|x=>isAlloc (opAt ops j)=none/\HopK Tryz.prog ops Q m a0 w0 l' j x)
 | [],_,j,hj=>by simp at hj
 |x::l,h,j,hj=>by
  rw[List.reverse_cons];by_cases e:j=l.length
  ·subst e;refine⟨l,fun k hk=>?_, ?_⟩
   ·rw[nthK_app,List.length_reverse,if_neg (by omega)];exact look_rev l k hk
   ·rw[nthK_app,List.length_reverse,if_pos rfl];exact h.1
  ·obtain⟨l',h1,h2⟩:=allK_at l h.2 j (by simp at hj;omega);refine⟨l',fun k hk=>?_, ?_⟩
   ·rw[nthK_app,List.length_reverse,if_neg (by simp at hj;omega)];exact h1 k hk
   ·rw[nthK_app,List.length_reverse,if_neg e];exact h2
theorem h_l (hm:m<=ops.size)(hl:l.length=m)(h:AllK Tryz.prog ops Q m a0 w0 l):∀(n i:Nat),n+i=m->HopAll Tryz.prog ops Q [] m a0 w0 (fsOf l.reverse) i ((ops.toList.take m).drop i)/\okL ((ops.toList.take m).drop i) (l.reverse.drop i):=by
 intro n;induction n with
 |zero=>
  intro i hi;rw[List.drop_of_length_le (by rw[List.length_take,Array.length_toList];omega),List.drop_of_length_le (by rw[List.length_reverse];omega)];exact⟨trivial,trivial⟩
 |succ n ih=>
  intro i hi;have hin:i<(ops.toList.take m).length:=by rw[List.length_take,Array.length_toList];omega
  have hil:i<l.reverse.length:=by rw[List.length_reverse];omega
  obtain⟨h1,h2⟩:=ih (i+1) (by omega);have hsz:i<ops.size:=by omega
  have ho:(ops.toList.take m)[i]=opAt ops i:=by rw[d_0 hsz];simp
  have hx:nthK l.reverse i=l.reverse[i]:=by
   have:∀(l:List FK) (i:Nat) (h:i<l.length),nthK l i=l[i]:=by
    intro l;induction l with
    |nil=>intro i h;simp at h
    |cons x l ih=>intro i h;cases i with
     |zero=>rfl
     |succ i=>simp only[nthK,List.getElem_cons_succ];exact ih i (by simpa using h)
   exact this l.reverse i hil
  obtain⟨l',hlk,hi2⟩:=allK_at l h i (by omega);rw[List.drop_eq_getElem_cons hin,List.drop_eq_getElem_cons hil,ho];rw[hx]at hi2;have hop:∀x:FK,nthK l.reverse i=x->HopK Tryz.prog ops Q m a0 w0 l' i x->HopAt Tryz.prog ops Q m a0 w0 (fsOf l.reverse) i (opAt ops i):=fun x ex hk a w hB ho' hp K hK=>
   hk a w ⟨hB,ho',fun k d hkk hd=>by
    have hkk0:=hkk;unfold inPre at hkk;simp only[Bool.and_eq_true,decide_eq_true_iff]at hkk;rw[hlk k hkk.1.1.1,<-nthF_of];exact hp k d (by simp only[Bool.and_eq_true,decide_eq_true_iff];exact⟨⟨⟨hkk.1.1.2,by rw[hd];simp⟩,hkk.1.2⟩,hkk.2⟩)⟩ K (fun v w' hv hb=>hK v w' (by rw[nthF_of,ex];exact hv) hb)
  cases ex:l.reverse[i]with
  |a T=>rw[ex]at hi2;exact⟨HopAll.al (by rw[hi2];rfl) h1,hi2,h2⟩
  |k v=>rw[ex]at hi2;exact⟨HopAll.cons rfl (hop _ (hx.trans ex) hi2.2) h1,hi2.1,h2⟩
  |f F hF=>rw[ex]at hi2;exact⟨HopAll.cons rfl (hop _ (hx.trans ex) hi2.2) h1,hi2.1,h2⟩
def allocGuards (ops:Array Oper)(m:Nat):Bool:=(List.range m).all (fun k=>((ops[k]?).bind isAlloc).isNone || ((ops[k]?).map (·.guard))==some none)
noncomputable def okQ (ops:Array Oper)(m size:Nat):Bool:=regionOk ops [] m size&&((allocTs ops m).all okZ&&allocGuards ops m)
theorem Run.done (ds:List (Option Nat))(hend:∀w,Below w0.heap.size w0 w->EndQ ops Q m w0 w [] l.reverse ds a0)(hok:okQ ops m a0.tmps.size=true:=by kernel_rfl)(hds:(ops.toList.take m).map (·.dst)=ds:=by rfl)(hi:i=m:=by rfl)(hQ:∀c a d v w,Q (.panic c) (a.put d v) w->Q (.panic c) a w:=by(intro _ _ d _ _ h;cases d<;>exact h)):R ops Q m a0 w0 true id l i:=fun hl hall=>by
 unfold okQ at hok;simp only[Bool.and_eq_true]at hok;subst hi;have h:=h_l (b_m hok.1).1 hl hall i 0 rfl;exact region8 [] i (fsOf l.reverse) hQ hok.1 hok.2.1 hok.2.2 (fsOf_stay l.reverse) h.1 (fun w hw=>c_y _ l.reverse l.reverse [] 0 a0 h.2 (fun j _=>by rw[Nat.zero_add]) (by rw[hds];exact hend w hw))
def firstN (n i:Nat):Array Bool:=((List.range n).map fun k=>decide (k<i)).toArray
theorem h_o (n i:Nat):(firstN n i).size=n:=by simp[firstN]
theorem c_m {n i k:Nat}:(firstN n i).getD k false=(decide (k<i)&&decide (k<n)):=by
 unfold firstN;by_cases h:k<n
 ·simp[Array.getD,h]
 ·simp[Array.getD,h]
theorem j_e {n i:Nat}(h:i<n):(firstN n i).setIfInBounds i true=firstN n (i+1):=by
 apply Array.ext
 ·simp[firstN]
 ·intro k h1 h2;have hk:k<n:=by simpa [firstN] using h2
  by_cases e:i=k
  ·subst e;simp[firstN]
  ·rw[Array.getElem_setIfInBounds_ne (by simpa [firstN] using hk) e];simp[firstN];omega
theorem m_n {Z:TypeId->Obj}{Fs:List FVal}{fl:List Nat}(hok:regionOk ops fl m a0.tmps.size=true)(hzl:(allocTs ops m).all okZ=true)(hz:∀T,okZ T=true->∀w:World,(Instr.alloc T true (.tuple #[])).run Tryz.prog w= .ok (.pointer (some ⟨w.heap.size,0,none⟩)) (w.alloc (Z T)))
  (hg:allocGuards ops m=true) (hs:StayAll Fs) (hops:HopAll Tryz.prog ops Q [] m a0 w0 Fs 0 (ops.toList.take m)) (hend:∀w,Below w0.heap.size w0 w->EndAll Tryz.prog ops Q m w0 Z Fs w [] 0 (ops.toList.take m) a0):
  ∀(n i:Nat) (a:Act) (w:World),n+i=m->Inv ops m a0 w0 Z Fs (firstN ops.size i) a w->wpList Tryz.prog ops Q (ops.toList.drop i) a w:=by
 obtain⟨hm,hsl,htl,hlt,-,-⟩:=b_m hok;intro n;induction n with
 |zero=>
  intro i a w hi H;obtain rfl:i=m:=by omega
  have:=h_d (P:=Tryz.prog) (Q:=Q) (Z:=Z) hok hend _ a w H (fun k hk=>by rw[c_m];simp;omega);have hlen:(ops.toList.drop i).length=ops.size - i:=by simp
  rw[<-hlen,wpOps_eq_wpList (ops.toList.drop i) i (fun j=>by simp)]at this;exact this
 |succ n ih=>
  intro i a w hi H;have him:i<m:=by omega
  have hin:i<ops.size:=by omega
  have hoi:ops.toList.drop i=ops[i]::ops.toList.drop (i+1):=by
   rw[List.drop_eq_getElem_cons (by simpa using hin)];simp
  have ho:ops[i]? =some ops[i]:=by simp[hin]
  obtain⟨o,hoo⟩:∃o,o=ops[i]:=⟨_,rfl⟩;rw[hoi,<-hoo];rw[<-hoo]at ho;obtain⟨d,hdst,hdlt,-⟩:=hsl i him;have hod:o.dst=some d:=by unfold slotOf at hdst;rw[ho]at hdst;exact hdst
  have hu:(firstN ops.size i).getD i true=false:=by
   unfold firstN;simp[Array.getD,hin]
  have hto:(ops.toList.take m)[i]? =some o:=by rw[List.getElem?_take_of_lt him];simpa using ho
  have hpr:∀k d,((predsOf ops i).contains k&&slotOf ops k==some d&&((ops[k]?).bind isAlloc).isNone&&decide (k<m))=true->nthF Fs k (a.eval (.tmp d)) w:=by
   intro k d' hkd;simp only[Bool.and_eq_true,decide_eq_true_iff,beq_iff_eq,List.contains_iff_mem]at hkd;obtain⟨⟨⟨h1,h2⟩,h3⟩,h4⟩:=hkd;have hki:=hlt i hin k h1
   have:=H.facts k h4 (by rw[c_m];simp;omega) d' h2;unfold FOf at this;rw[Option.isNone_iff_eq_none.1 h3]at this;exact this
  have hoff:∀t,(List.range m).all (fun k=>slotOf ops k != some t)=true->a.eval (.tmp t)=a0.eval (.tmp t):=fun t ht=>H.off t (fun k hk=>by
   rw[List.all_eq_true]at ht;simpa using ht k (List.mem_range.2 hk))
  have next:∀v w',FOf w0 Z ops Fs i v w'->Below w.heap.size w w'->(((ops[i]?).bind isAlloc).isSome=true->∃g:Nat,v= .pointer (some ⟨g,0,none⟩)/\w.heap.size<=g)->wpList Tryz.prog ops Q (ops.toList.drop (i+1)) (a.put o.dst v) w':=fun v w' hF hb hap=>by
   refine ih (i+1) _ _ (by omega) ?_;rw[hod,<-j_e hin];exact Inv.step hok hs H (h_o _ _) him hu hdst hF hb hap
  refine wpList_step fun K hK=>?_;cases ha:isAlloc o with
  |some T=>
   have hop:o.op= .alloc T:=by
    unfold isAlloc at ha;split at ha
    ·cases ha;assumption
    ·cases ha
   have hgd:o.guard=none:=by
    unfold allocGuards at hg;rw[List.all_eq_true]at hg
    have:=hg i (List.mem_range.2 him);rw[ho]at this;simp[ha]at this;exact this
   rw[if_pos (c_u hgd)];unfold Oper.wp;have hrun:(execOp a.eval o).run Tryz.prog w= .ok (.value (.pointer (some ⟨w.heap.size,0,none⟩))) (w.alloc (Z T)):=by
    have hr:=hz T (List.all_eq_true.1 hzl T (List.mem_filterMap.2 ⟨i,List.mem_range.2 him,by rw[ho];simp[ha]⟩)) w;unfold execOp;rw[hop];simp[hr]
   rw[hrun,Oper.upon_value];refine hK _ _ (next _ _ ?_ ((Below.refl _ _).alloc (Nat.le_refl _) _) (fun _=>⟨_,rfl,Nat.le_refl _⟩));unfold FOf;rw[ho,Option.bind_some,ha];refine⟨w.heap.size,rfl,H.below.size,by simp, ?_⟩;show(w.heap.push (Z T))[w.heap.size]? =_
   simp
  |none=>
   have hop:=HopAll.at hops i o hto ha;rw[Nat.zero_add]at hop;exact hop a w H.below hoff hpr K (fun v w' hF hb=>hK _ _ (next v w' (by unfold FOf;rw[ho,Option.bind_some,ha];exact hF) hb (fun hc=>by rw[ho,Option.bind_some,ha]at hc;cases hc)))
def flAll (ops:Array Oper)(m:Nat):List Nat:=(List.range m).filter fun i=>aloof ops i&&((ops[i]?).bind isAlloc).isNone
noncomputable def okQp (ops:Array Oper)(m size:Nat):Bool:=regionOk ops (flAll ops m) m size&&((allocTs ops m).all okZ&&allocGuards ops m)
theorem Run.donep (ds:List (Option Nat))(hend:∀w,Below w0.heap.size w0 w->EndQ ops Q m w0 w [] l.reverse ds a0)(hok:okQp ops m a0.tmps.size=true:=by kernel_rfl)(hds:(ops.toList.take m).map (·.dst)=ds:=by rfl)(hi:i=m:=by rfl):R ops Q m a0 w0 false id l i:=fun hl hall=>by
 unfold okQp at hok;simp only[Bool.and_eq_true]at hok;subst hi;have h:=h_l (b_m hok.1).1 hl hall i 0 rfl;refine wp_region_list ?_;refine m_n hok.1 hok.2.1 (fun T h w=>d_d h w) hok.2.2 (fsOf_stay l.reverse) h.1 (fun w hw=>c_y _ l.reverse l.reverse [] 0 a0 h.2 (fun j _=>by rw[Nat.zero_add]) (by rw[hds];exact hend w hw)) i 0 a0 w0 (by omega) ⟨rfl,rfl,fun _ _=>rfl,Below.refl _ _,fun k _ hl=>?_,fun j k _ _ _ _ hl=>?_⟩
 ·rw[c_m]at hl;simp at hl
 ·rw[c_m]at hl;simp at hl
end
end Go.Proofs.YtfhbdlegkdbmfaaGreat
