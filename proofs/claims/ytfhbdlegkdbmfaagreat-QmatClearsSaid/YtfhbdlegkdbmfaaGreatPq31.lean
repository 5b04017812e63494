/- Pq31 -/
import Derived.Test.YtfhbdlegkdbmfaaGreatPq28
import Derived.Test.YtfhbdlegkdbmfaaGreatPq30
set_option linter.unusedVariables false
set_option linter.unusedSimpArgs false
set_option linter.unusedSectionVars false
set_option maxRecDepth 100000
set_option maxHeartbeats 8000000
namespace Go.Proofs.YtfhbdlegkdbmfaaGreat
section
open Go.RowKit Go.Shelf
def NoCells (W:World)(row:Option Nat):Prop:=∀r,row=some r->∃o:Obj,W.heap[r]? =some o/\o.isCells=false
section
variable {W W':World}{row:Option Nat}{g k n c:Nat}
theorem e_p (hg:W.grownBy W' row)(hr:NoCells W row):Below W.heap.size W W'\/∃r,W.grownBy W' (some r)/\Wless W r/\(∀o:Obj,W.heap[r]? =some o->o.isCells=false):=by
 cases row with
 |none=>exact .inl ⟨hg.os,hg.tape,hg.output,hg.size,fun k hk=>hg.block k hk (by simp)⟩
 |some r=>
  obtain⟨o,h1,h2⟩:=hr r rfl;refine .inr ⟨r,hg,fun p m hp hc=>?_,fun o' h3=>by rw[h1]at h3;cases h3;exact h2⟩;obtain⟨o',h3,h4⟩:=cells_of_cell hc;rw[hp,h1]at h3;cases h3;rw[h2]at h4;cases h4
theorem Bx.kp {T:TypeId}{cs:List Value}(b:Bx W g T cs)(hg:W.grownBy W' row)(hr:NoCells W row):Bx W' g T cs:=(grownBy_keeps_cells hg hr b rfl).trans b
theorem ZB.kp {zs:List Int}(h:ZB W g k zs)(hg:W.grownBy W' row)(hr:NoCells W row):ZB W' g k zs:=by
 rcases e_p hg hr with hb|⟨r,h1,h2,h3⟩
 ·exact h.below hb
 ·refine h.gro (fun e=>?_) h2 h1;obtain⟨cs,hc,-⟩:=h;subst e
  have:=h3 _ hc;cases this
theorem QB.kp {f:Nat->Bool}{xs:List Rat}(h:QB W g k f xs)(hg:W.grownBy W' row)(hr:NoCells W row):QB W' g k f xs:=by
 rcases e_p hg hr with hb|⟨r,h1,h2,h3⟩
 ·exact h.below hb
 ·refine h.gro (fun e=>?_) h2 h1;obtain⟨cs,hc,-⟩:=h;subst e
  have:=h3 _ hc;cases this
theorem Zc.kp {s:Bool}{A:Option Addr}{z:Int}(h:Zc W s A n c z)(hg:W.grownBy W' row)(hr:NoCells W row):Zc W' s A n c z:=by
 rcases e_p hg hr with hb|⟨r,h1,h2,h3⟩
 ·exact h.below hb
 ·exact h.gro h2 h1
theorem Zv.kp {s:Bool}{A:Option Addr}{z:Int}(h:Zv W s A n c z)(hg:W.grownBy W' row)(hr:NoCells W row):Zv W' s A n c z:=by
 rcases e_p hg hr with hb|⟨r,h1,h2,h3⟩
 ·exact h.below hb
 ·exact h.gro h2 h1
end
def KbR (n Bs:Nat)(W W':World):Prop:=KeepsOthers W W'/\KeepB n Bs W W'
section
variable {A B C:World}{n Bs g:Nat}
theorem kb_t (h:KbR n Bs A B)(k:KbR n Bs B C):KbR n Bs A C:=⟨h.1.trans k.1,k_9 h.2 k.2⟩
theorem y_k (h:Below A.heap.size A B)(hn:n<=A.heap.size)(hB:Bs<A.heap.size):KbR n Bs A B:=⟨⟨h.size,fun k o hk _=>(h.block k (Array.getElem?_eq_some_iff.1 hk).1).trans hk⟩,h.mono hn,h.block Bs hB⟩
theorem t_0 {T:TypeId}{cs:Array Value}{x:Nat × Nat}(h:A.grownBy B (some g))(hc:A.heap[g]? =some (.cells cs T x))(hn:n<=g)(hB:Bs≠g)(hBs:Bs<A.heap.size):KbR n Bs A B:=by
 have hg:=(Array.getElem?_eq_some_iff.1 hc).1;refine⟨KeepsOthers.of_grownBy h (fun j o e ho=>?_),⟨h.os,h.tape,h.output,h.size,fun k hk=>h.block k (by omega) (fun e=>?_)⟩,h.block Bs hBs (fun e=>hB (Option.some.inj e))⟩
 ·cases e;rw[hc]at ho;cases ho;rfl
 ·have:=Option.some.inj e;omega
end
theorem ldPtr {w:World}{g:Nat}{T:TypeId}{cs:List Value}(b:Bx w g T cs)(o:Nat){q:Addr}(hc:cs[o]? =some (.pointer (some q)):=by rfl):∀w',Below w.heap.size w w'->(Instr.loadAt 146 (.pointer (some ⟨g,o,none⟩))).run Tryz.prog w'= .ok (.pointer (some q)) w':=fun w' hb=>by
 have h:=(b.below hb).cell o;rw[hc]at h;simp[go_sem,a_j,h]
theorem r_b {G n cap h:Nat}(h2:h<=cap)(w:World):(Instr.sliceAt 98 (.slice (some ⟨G,0,none⟩) n cap) none (some (.int .i64 (h:Int))) none).run Tryz.prog w= .ok (.slice (some ⟨G,0,none⟩) h cap) w:=by
 have a1:(0:Int)<=(h:Int):=by omega
 have a2:(h:Int)<=(cap:Int):=by omega
 have hc:Tryz.prog.cellsOf 25=1:=by kernel_rfl
 by_cases a3:cap=0
 ·subst a3;obtain rfl:h=0:=by omega
  simp[go_sem,Tryz.underlying98,hc,a_j]
 ·simp[go_sem,Tryz.underlying98,hc,a1,a2,a3,a_j]
section
variable {ops:Array Oper}{Q:Exit->Act->World->Prop}{m i:Nat}{a0:Act}{w0:World}{l:List FK}{b:Bool}{id:Nat}
def okSlHS (ops:Array Oper)(m i:Nat)(s t:Src):Bool:=okH ops m i&&(match(opAt ops i).op with| .slice T x none (some l) none=>T==98&&s.ok ops m i x&&t.ok ops m i l|_=>false)
theorem Run.slHS (s t:Src){G n cap x:Nat}(h1:x<=cap)(rest:R ops Q m a0 w0 b id (.k (.slice (some ⟨G,0,none⟩) x cap)::l) (i+1))(hx:srcsK l i a0 (slLO (opAt ops i).op) [s,t] [.slice (some ⟨G,0,none⟩) n cap,.int .i64 (x:Int)]:=by exact⟨rfl,rfl,trivial⟩)(hc:okSlHS ops m i s t=true:=by kernel_rfl)(hg:Gd l i (opAt ops i):=by first|exact trivial|exact rfl):R ops Q m a0 w0 b id l i:=by
 unfold okSlHS at hc;rw[Bool.and_eq_true]at hc;obtain⟨hh,h4⟩:=hc;refine Run.val hh (FK.kne _) hg (fun a w h=>⟨_, ?_,rfl⟩) rest;split at h4
 ·rename_i T X L e;simp only[Bool.and_eq_true,beq_iff_eq]at h4;obtain⟨⟨rfl,h2⟩,h3⟩:=h4;rw[e]at hx;obtain⟨e1,e2,-⟩:=hx;unfold execOp;rw[e];simp only[h.srcK h2 e1,h.srcK h3 e2,Option.map_some,Option.map_none];simp[r_b h1]
 ·cases h4
theorem u_s (w:World)(n:Nat)(hn:n<=1048576):(Instr.makeSlice 22 (.int .i64 (n:Int)) (.int .i64 (n:Int))).run Tryz.prog w= .ok (.slice (some ⟨w.heap.size,0,none⟩) n n) (w.alloc (.cells (madeCells #[.bool false,.slice none 0 0,.bool false,.slice none 0 0] (n*4)) 42)):=by
 obtain⟨i,hi,hz0,hz1,hz2⟩:=info_parts info_rat;rw[run_make w _ _ i (.agg #[.bool false,.slice none 0 0,.bool false,.slice none 0 0]) Tryz.underlying22 hi hz0 .i64 .i64 (n:Int) (n:Int) (by omega) (Int.le_refl _) (by rw[hz2];omega) (by omega)];rw[hz1];rfl
def IsQn (b n:Nat):FVal:=fun v w=>∃g,v= .slice (some ⟨g,0,none⟩) n n/\QB w g 0 (fun _=>false) (List.replicate n 0)/\b<=g
def kQn (b n:Nat):FK:=.f (IsQn b n) (fun v w w' ⟨g,e,h1,h2⟩ hb=>⟨g,e,h1.below hb,h2⟩)
def okMq (ops:Array Oper)(m i:Nat)(s:Src):Bool:=okH ops m i&&(match(opAt ops i).op with| .makeSlice T x y=>T==22&&s.ok ops m i x&&s.ok ops m i y|_=>false)
theorem Run.mkQ (s:Src){n b0:Nat}(hn:n<=1048576)(hb0:b0<=w0.heap.size)(rest:R ops Q m a0 w0 b id (kQn b0 n::l) (i+1))(hx:s.K l i a0 (mzX (opAt ops i).op)= .k (.int .i64 (n:Int)):=by rfl)(hy:s.K l i a0 (mzY (opAt ops i).op)= .k (.int .i64 (n:Int)):=by rfl)(hc:okMq ops m i s=true:=by kernel_rfl)(hg:Gd l i (opAt ops i):=by first|exact trivial|exact rfl):R ops Q m a0 w0 b id l i:=by
 unfold okMq at hc;rw[Bool.and_eq_true]at hc;obtain⟨hh,h4⟩:=hc;refine Run.mem (x:=kQn b0 n) (fun a w h=>?_) rest (FK.fne _) hh hg;split at h4
 ·rename_i T x y e;simp only[Bool.and_eq_true,beq_iff_eq]at h4;obtain⟨⟨rfl,h2⟩,h3⟩:=h4;rw[e]at hx hy;refine⟨_,_, ?_,⟨w.heap.size,rfl,QB.made w n,Nat.le_trans hb0 h.below.size⟩,zba w _⟩;unfold execOp;rw[e];simp only[h.srcK h2 hx,h.srcK h3 hy];simp[u_s w n hn]
 ·cases h4
end
def exq (x y:Int):Int:=if x%y=0 then x / y else 0
theorem w_n {q y:Int}(h:y≠0):exq (q*y) y=q:=by unfold exq;rw[if_pos (Int.mul_emod_left ..),Int.mul_ediv_cancel _ h]
theorem m_5 {u v:Value}{x y:Int}{n m k:Nat}{w:World}(hx:IsV x n u w)(hy:IsV y m v w)(hn:n<=549755813888)(hm:m<=549755813888)(h0:y≠0)(hk:n<=k):Calls Tryz.prog 113 #[u,v] w (RetK (kT (kC (exq x y) k) (.k (.bool (decide (x%y=0))))) w):=by
 by_cases e:x%y=0
 ·refine(f_w (q:=x / y) hx hy hn hm h0 (Int.ediv_mul_cancel (Int.dvd_of_emod_eq_zero e)) hk).mono fun e' w' h=>h.mono fun v w2 ⟨a,b,e1,h1,h2⟩=>⟨a,b,e1,by unfold exq;rw[if_pos e];exact h1,by rw[decide_eq_true e];exact h2⟩
 ·obtain⟨s,A,a,c,rfl,h1,h2⟩:=hx;obtain⟨s',A',a',c',rfl,h1',h2'⟩:=hy;refine(i_1 h1 h1' (by omega) (by omega) (.inr fun e2=>e (Int.emod_eq_zero_of_dvd (Int.natAbs_dvd_natAbs.1 (Nat.dvd_of_mod_eq_zero e2))))).mono fun e' w' ⟨e1,h3⟩=>⟨_,e1,⟨_,_,rfl,⟨_,_,_,_,rfl, ?_,Nat.zero_le _⟩,by rw[decide_eq_false e];rfl⟩,h3⟩;unfold exq;rw[if_neg e];exact Zc.nought w'
section
variable(h:Int)(M:Nat->Nat->Int)(ps:List Nat)(k:Nat)
def rsn (z:Nat->Int)(i t:Nat):Int:=h*M i k - DT.sumN t fun l=>M i (ps.getD (i+1+l) 0)*z (i+1+l)
theorem r_h (z:Nat->Int)(i t:Nat):rsn h M ps k z i (t+1)=rsn h M ps k z i t - M i (ps.getD (i+1+t) 0)*z (i+1+t):=by
 unfold rsn;simp only[DT.sumN];omega
def kn1 (z:Nat->Int)(x:Nat):Nat->Int:=fun j=>if j=x%ps.length then exq (rsn h M ps k z (x%ps.length) (ps.length - (x%ps.length+1))) (M (x%ps.length) (ps.getD (x%ps.length) 0))else z j
def kn (pre:List Nat):Nat->Int:=pre.foldl (kn1 h M ps k) fun _=>0
theorem i_s (pre:List Nat)(x:Nat):kn h M ps k (pre++[x])=kn1 h M ps k (kn h M ps k pre) x:=by unfold kn;rw[List.foldl_append];rfl
def cm (n:Nat)(pre:List Nat)(j:Nat):Bool:=pre.any fun x=>x%n==j
theorem q_i (n:Nat)(pre:List Nat)(x j:Nat):cm n (pre++[x]) j=(cm n pre j || x%n==j):=by simp[cm]
def ot (N D:Int)(pre:List Nat)(j:Nat):Rat:=if cm ps.length pre j=true then Rat.divInt (kn h M ps k pre j*N) (h*D)else 0
end
section
variable {α:Type}{R C E:Nat}{F G M:Nat->Nat->Int}{s:Bool}{ps:List Nat}{h:Int}{X:Nat->Nat->Int}
theorem v_9 (r:DT.Red R C E F s G ps M h)(hX:DT.Cols C G M ps h X){k:Nat}(hk:k<C):∀d,d<=ps.length->∀j,j<ps.length->kn h M ps k (upto (fromEndR ps.length) d) j=if ps.length - d<=j then X k j else 0:=by
 intro d;induction d with
 |zero=>intro _ j hj;rw[if_neg (by omega)];rfl
 |succ d ih=>
  intro hd j hj;have ih:=ih (by omega);have hm:fromEndR ps.length d%ps.length=ps.length - 1 - d:=Nat.mod_eq_of_lt (by unfold fromEndR;omega);rw[g_a,i_s];unfold kn1;rw[hm];by_cases e:j=ps.length - 1 - d
  ·subst e;rw[if_pos rfl,if_pos (by omega)];have hb:=r.back' hX hj hk;have:rsn h M ps k (kn h M ps k (upto (fromEndR ps.length) d)) (ps.length - 1 - d) (ps.length - (ps.length - 1 - d+1))=X k (ps.length - 1 - d)*M (ps.length - 1 - d) (ps.getD (ps.length - 1 - d) 0):=by
    rw[hb];unfold rsn;congr 1
    refine DT.sum_ext fun l hl=>?_;rw[ih _ (by omega),if_pos (by omega)]
   rw[this,w_n (r.pz _ hj)]
  ·rw[if_neg e,ih j hj];by_cases e2:ps.length - d<=j
   ·rw[if_pos e2,if_pos (by omega)]
   ·rw[if_neg e2,if_neg (by omega)]
theorem q_h {n j:Nat}(hj:j<n):cm n (upto (fromEndR n) n) j=true:=by
 unfold cm upto;rw[List.any_eq_true];refine⟨j,List.mem_map.2 ⟨n - 1 - j,List.mem_range.2 (by omega),by unfold fromEndR;omega⟩, ?_⟩;rw[Nat.mod_eq_of_lt hj];simp
theorem v_s (r:DT.Red R C E F s G ps M h)(hX:DT.Cols C G M ps h X){k:Nat}(hk:k<C)(N D:Int){j:Nat}(hj:j<ps.length):ot h M ps k N D (upto (fromEndR ps.length) ps.length) j=((X k j:Int):Rat)*(h:Rat)⁻¹*Rat.divInt N D:=by
 unfold ot;rw[if_pos (q_h hj),v_9 r hX hk _ (Nat.le_refl _) j hj,if_pos (by omega),<-Rat.divInt_mul_divInt,Rat.divInt_eq_div (X k j) h,Rat.div_def]
end
end
section
open Go.RowKit
section
variable {P:Program}{ops:Array Oper}{Q:Exit->Act->World->Prop}
def LateAt (P:Program)(ops:Array Oper)(m:Nat)(a0:Act)(w0:World)(Fs:List FVal)(i:Nat)(o:Oper):Prop:=
 ∀(a:Act) (w:World),Below w0.heap.size w0 w->(∀t,(List.range m).all (fun k=>slotOf ops k != some t)=true->a.eval (.tmp t)=a0.eval (.tmp t))->
  (∀k d,((predsOf ops i).contains k&&slotOf ops k==some d&&((ops[k]?).bind isAlloc).isNone&&decide (k<m))=true->nthF Fs k (a.eval (.tmp d)) w)->
  ∃(x:Value) (w':World),nthF Fs i x w'/\Below w.heap.size w w'/\∀g v,w0.heap.size<=g->g<w.heap.size->(execOp a.eval o).run P (w.setCell ⟨g,0,none⟩ v)= .ok (.value x) (w'.setCell ⟨g,0,none⟩ v)
theorem c_e (listed:Array Bool){i k:Nat}(h:k≠i):(listed.setIfInBounds i true).getD k false=listed.getD k false:=by
 simp[Array.getD_eq_getD_getElem?,Array.getElem?_setIfInBounds,Ne.symm h]
theorem q_r {a0:Act}{w0:World}(fl:List Nat)(m:Nat)(Fs:List FVal)(Z:TypeId->Obj)
  (hQ:∀c a d v w,Q (.panic c) (a.put d v) w->Q (.panic c) a w)
  (hok:regionOk ops fl m a0.tmps.size=true)
  (ok:TypeId->Bool) (hzl:(allocTs ops m).all ok=true) (hz:∀T,ok T=true->∀w:World,(Instr.alloc T true (.tuple #[])).run P w= .ok (.pointer (some ⟨w.heap.size,0,none⟩)) (w.alloc (Z T)))
  (hg:(List.range m).all (fun k=>((ops[k]?).bind isAlloc).isNone || ((ops[k]?).map (·.guard))==some none)=true)
  (hs:StayAll Fs) (hops:HopAll P ops Q [] m a0 w0 Fs 0 (ops.toList.take m))
  (hcv:∀i,m<i->i<ops.size->covers ops [] i=true)
  (late:∀i o,i∈fl->ops[i]? =some o->o.guard=none/\LateAt P ops m a0 w0 Fs i o)
  {ka ke d e:Nat} {om:Oper} {Ta:TypeId} (hom:ops[m]? =some om) (hog:om.guard=none) (hod0:om.dst=none) (hna:¬LetsOut Q) (hka:ka<m) (hke:ke<m) (hska:slotOf ops ka=some d) (hske:slotOf ops ke=some e) (hpa:ka∈predsOf ops m) (hpe:ke∈predsOf ops m) (haA:(ops[ka]?).bind isAlloc=some Ta) (heA:(ops[ke]?).bind isAlloc=none)
  (hst:∀(a:Act) (w:World) (g:Nat),a.eval (.tmp d)= .pointer (some ⟨g,0,none⟩)->w.heap[g]? =some (Z Ta)->nthF Fs ke (a.eval (.tmp e)) w->(execOp a.eval om).run P w= .ok .skip (w.setCell ⟨g,0,none⟩ (a.eval (.tmp e))))
  (hend:∀w,Below w0.heap.size w0 w->EndAll P ops Q m w0 Z Fs w [] 0 (ops.toList.take m) a0):
  wpAny P .any ops Q ops.size (Array.replicate ops.size false) a0 { w0 with drawn:=w0.drawn+1 }:=by
 obtain⟨hm,hsl,htl,hlt,hfl,hnos⟩:=b_s hok;have hmn:m<ops.size:=(Array.getElem?_eq_some_iff.1 hom).1;have uniq:∀j k x,j<m->k<m->j≠k->slotOf ops j=some x->slotOf ops k≠some x:=fun j k x hj hk hne ej ek=>by
  rcases Nat.lt_or_gt_of_ne hne with h|h
  ·obtain⟨y,e,-,h3⟩:=hsl k hk;rw[ek]at e;cases e;exact h3 j h ej
  ·obtain⟨y,e,-,h3⟩:=hsl j hj;rw[ej]at e;cases e;exact h3 k h ek
 let J:Array Bool->Act->World->Prop:=fun listed a w=>
  ((∀k,m<=k->listed.getD k false=false)/\Inv ops m a0 w0 Z Fs listed a w)\/
  (∃(L:Array Bool) (wg:World) (g:Nat),L.size=ops.size/\(∀k,k≠m->L.getD k false=listed.getD k false)/\L.getD m false=false/\listed.getD m false=true/\(∀k,m<k->listed.getD k false=false)/\(∀k,k<m->k ∉ fl->listed.getD k false=true)/\listed.getD ka false=true/\listed.getD ke false=true/\Inv ops m a0 w0 Z Fs L a wg/\a.eval (.tmp d)= .pointer (some ⟨g,0,none⟩)/\w0.heap.size<=g/\g<wg.heap.size/\w=wg.setCell ⟨g,0,none⟩ (a.eval (.tmp e)))\/
  (∃r,m<r/\r<=ops.size/\(∀k,k<ops.size->(listed.getD k false=true↔k<r))/\wpOps P ops Q (List.range' r (ops.size - r)) a w)
 have fin:=g_j (P:=P) (Q:=Q) (Z:=Z) hok hend;have cls:∀(listed L:Array Bool) (a:Act) (wg:World) (g:Nat),(∀k,k≠m->L.getD k false=listed.getD k false)->Inv ops m a0 w0 Z Fs L a wg->a.eval (.tmp d)= .pointer (some ⟨g,0,none⟩)->(∀k,k<m->listed.getD k false=true)->wpOps P ops Q (List.range' (m+1) (ops.size - (m+1))) a (wg.setCell ⟨g,0,none⟩ (a.eval (.tmp e))):=fun listed L a wg g hLk H hgp hall=>by
  have hL:∀k,k<m->L.getD k false=true:=fun k hk=>by rw[hLk k (by omega)];exact hall k hk
  have h1:=fin L a wg H hL;have fa:=H.facts ka hka (hL ka hka) d hska;have fe:=H.facts ke hke (hL ke hke) e hske;unfold FOf at fa fe;rw[haA]at fa;rw[heA]at fe;obtain⟨g',e1,-,-,e4⟩:=fa;rw[hgp]at e1;injection e1 with e1;injection e1 with e1;injection e1 with e1
  subst e1;have hrun:=hst a wg g hgp e4 fe;rw[show ops.size - m=(ops.size - (m+1))+1 by omega,List.range'_succ,wpOps_cons]at h1;unfold wpOp at h1;rw[hom]at h1;simp only[Region.wanted,hog,if_true]at h1;rcases h1 with h1|h1
  ·unfold Oper.wp at h1;rw[hrun,Oper.upon_skip,hod0]at h1;exact h1
  ·exact absurd h1.2 hna
 refine e_l J hnos hQ ?_ ?_ _ _ _ _ ?_ (by simp) (fun i hi=>?_) (.inl ⟨fun k _=>?_, ?_⟩)
 ·
  intro listed a w hsz hd hj;have hto:∀i o,i<m->ops[i]? =some o->(ops.toList.take m)[i]? =some o:=fun i o him ho=>by
   rw[List.getElem?_take_of_lt him];simpa using ho
  refine .inr fun i hi=>?_;obtain⟨hu,hin,hpre⟩:=b_a hi;have stepC:∀r,m<r->(∀k,k<ops.size->(listed.getD k false=true↔k<r))->wpOps P ops Q (List.range' r (ops.size - r)) a w->wpOp P ops Q i (J (listed.setIfInBounds i true)) a w:=fun r hmr hlr hwp=>by
   have hri:r<=i:=by
    rcases Nat.lt_or_ge i r with h|h
    ·have:=(hlr i hin).2 h;rw[b_h hu]at this;cases this
    ·exact h
   have hcov:=a_w hd hi (hcv i (by omega) hin);have him':i=r:=by
    rcases Nat.lt_or_ge r i with h|h
    ·have:=(hlr r (by omega)).1 (hcov r h (by simp));omega
    ·omega
   subst him';rw[show ops.size - i=(ops.size - i - 1)+1 by omega,List.range'_succ,wpOps_cons]at hwp;refine wpOp_mono (fun a' w' h'=>?_) hwp;refine .inr (.inr ⟨i+1,by omega,hin,fun k hk=>⟨fun h=>?_,fun h=>?_⟩, ?_⟩)
   ·rcases b_0 listed i k h with e|e
    ·omega
    ·have:=(hlr k hk).1 e;omega
   ·rcases Nat.lt_or_eq_of_le (Nat.le_of_lt_succ h)with h1|h1
    ·exact a_o ((hlr k hk).2 h1)
    ·subst h1;exact b_n (by omega)
   ·rw[show ops.size - (i+1)=ops.size - i - 1 by omega];exact h'
  rcases hj with⟨htail,H⟩|⟨L,wg,g,hLs,hLk,hLm,hlm,htl2,hnf,hla,hle,H,hgp,hg1,hg2,rfl⟩|⟨r,hmr,hrn,hlr,hwp⟩
  ·have htail':i<m->∀k,m<=k->(listed.setIfInBounds i true).getD k false=false:=fun him k hk=>by
    rw[c_e listed (by omega)];exact htail k hk
   have hpr:∀k d,((predsOf ops i).contains k&&slotOf ops k==some d&&((ops[k]?).bind isAlloc).isNone&&decide (k<m))=true->nthF Fs k (a.eval (.tmp d)) w:=by
    intro k d' hkd;simp only[Bool.and_eq_true,decide_eq_true_iff,beq_iff_eq,List.contains_iff_mem]at hkd;obtain⟨⟨⟨h1,h2⟩,h3⟩,h4⟩:=hkd
    have:=H.facts k h4 (hpre k h1) d' h2;unfold FOf at this;rw[Option.isNone_iff_eq_none.1 h3]at this;exact this
   have hoff:∀t,(List.range m).all (fun k=>slotOf ops k != some t)=true->a.eval (.tmp t)=a0.eval (.tmp t):=fun t ht=>H.off t (fun k hk=>by
    rw[List.all_eq_true]at ht;simpa using ht k (List.mem_range.2 hk))
   by_cases him:i<m
   ·obtain⟨d',hdst,hdlt,-⟩:=hsl i him;obtain⟨o,ho⟩:∃o,ops[i]? =some o:=⟨ops[i],by simp[hin]⟩;have hod:o.dst=some d':=by unfold slotOf at hdst;rw[ho]at hdst;exact hdst
    cases ha:isAlloc o with
    |some T=>
     have hop:o.op= .alloc T:=by
      unfold isAlloc at ha;split at ha
      ·cases ha;assumption
      ·cases ha
     have hgd:o.guard=none:=by
      rw[List.all_eq_true]at hg
      have:=hg i (List.mem_range.2 him);rw[ho]at this;simp[ha]at this;exact this
     unfold wpOp;rw[ho];simp only[Region.wanted,hgd,if_true];refine .inl ?_;unfold Oper.wp;have hrun:(execOp a.eval o).run P w= .ok (.value (.pointer (some ⟨w.heap.size,0,none⟩))) (w.alloc (Z T)):=by
      have hr:=hz T (List.all_eq_true.1 hzl T (List.mem_filterMap.2 ⟨i,List.mem_range.2 him,by rw[ho];simp[ha]⟩)) w;unfold execOp;rw[hop];simp[hr]
     rw[hrun,Oper.upon_value,hod];refine .inl ⟨htail' him,Inv.step hok hs H hsz him hu hdst ?_ ((Below.refl _ _).alloc (Nat.le_refl _) _) (fun _=>⟨_,rfl,Nat.le_refl _⟩)⟩;unfold FOf;rw[ho,Option.bind_some,ha];refine⟨w.heap.size,rfl,H.below.size,by simp, ?_⟩;show(w.heap.push (Z T))[w.heap.size]? =_
     simp
    |none=>
     have hop:=HopAll.at hops i o (hto i o him ho) ha;rw[Nat.zero_add,if_neg (by simp)]at hop;have hK:∀v w',nthF Fs i v w'->Below w.heap.size w w'->J (listed.setIfInBounds i true) (a.put o.dst v) w':=by
      intro v w' hF hb;rw[hod];refine Or.inl ⟨htail' him,Inv.step hok hs H hsz him hu hdst ?_ hb (fun hc=>by rw[ho,Option.bind_some,ha]at hc;cases hc)⟩;unfold FOf;rw[ho,Option.bind_some,ha];exact hF
     have:=hop a w H.below hoff hpr _ hK;unfold wpOp;rw[ho];simp only;split
     ·rename_i hw;rw[if_pos hw]at this;exact .inl this
     ·rename_i hw;rw[if_neg hw]at this;exact this
   ·rcases(by omega:i=m\/m<i)with e1|e1
    ·subst e1;have hnf:=a_w hd hi (htl i (Nat.le_refl _) hin);have fa:=H.facts ka hka (hpre ka hpa) d hska;have fe:=H.facts ke hke (hpre ke hpe) e hske;unfold FOf at fa fe;rw[haA]at fa;rw[heA]at fe;obtain⟨g,e1,e2,e3,e4⟩:=fa;have hrun:=hst a w g e1 e4 fe;unfold wpOp;rw[hom];simp only[Region.wanted,hog,if_true];refine .inl ?_;unfold Oper.wp;rw[hrun,Oper.upon_skip,hod0];exact .inr (.inl ⟨listed,w,g,hsz,fun k hk=>(c_e listed hk).symm,htail i (Nat.le_refl _),b_n (by omega),fun k hk=>by rw[c_e listed (by omega)];exact htail k (by omega),fun k hk hf=>a_o (hnf k hk hf),a_o (hpre ka hpa),a_o (hpre ke hpe),H,e1,e2,e3,rfl⟩)
    ·exfalso
     have:=a_w hd hi (hcv i e1 hin) m e1 (by simp);rw[htail m (Nat.le_refl _)]at this;cases this
  ·rcases(by omega:i<m\/i=m\/m<i)with him|him|him
   ·have hif:i∈fl:=Classical.byContradiction fun h=>by
     have:=hnf i him h;rw[b_h hu]at this;cases this
    obtain⟨d',hdst,hdlt,-⟩:=hsl i him;obtain⟨o,ho⟩:∃o,ops[i]? =some o:=⟨ops[i],by simp[hin]⟩;have hod:o.dst=some d':=by unfold slotOf at hdst;rw[ho]at hdst;exact hdst
    have hni:(ops[i]?).bind isAlloc=none:=(hfl i hif).2.2;obtain⟨hgd,hla2⟩:=late i o hif ho;have hLu:L.getD i true=false:=by
     have h1:=hLk i (by omega);rw[b_h hu]at h1;have h2:i<L.size:=by omega
     simp[h2]at h1 ⊢;exact h1
    have hpr:∀k d,((predsOf ops i).contains k&&slotOf ops k==some d&&((ops[k]?).bind isAlloc).isNone&&decide (k<m))=true->nthF Fs k (a.eval (.tmp d)) wg:=by
     intro k d' hkd;simp only[Bool.and_eq_true,decide_eq_true_iff,beq_iff_eq,List.contains_iff_mem]at hkd;obtain⟨⟨⟨h1,h2⟩,h3⟩,h4⟩:=hkd
     have:=H.facts k h4 (by rw[hLk k (by omega)];exact hpre k h1) d' h2;unfold FOf at this;rw[Option.isNone_iff_eq_none.1 h3]at this;exact this
    have hoff:∀t,(List.range m).all (fun k=>slotOf ops k != some t)=true->a.eval (.tmp t)=a0.eval (.tmp t):=fun t ht=>H.off t (fun k hk=>by
     rw[List.all_eq_true]at ht;simpa using ht k (List.mem_range.2 hk))
    obtain⟨x,w',h2,h3,h4⟩:=hla2 a wg H.below hoff hpr;have nd:∀k y,k<m->slotOf ops k=some y->listed.getD k false=true->(a.put (some d') x).eval (.tmp y)=a.eval (.tmp y):=fun k y hk hy hl=>b_l fun e1=>by
     have hne:k≠i:=fun e2=>by subst e2;rw[b_h hu]at hl;cases hl
     exact uniq k i y hk him hne hy (by rw[<-e1];exact hdst)
    unfold wpOp;rw[ho];simp only[Region.wanted,hgd,if_true];refine .inl ?_;unfold Oper.wp;rw[h4 g _ hg1 hg2,Oper.upon_value,hod];refine .inr (.inl ⟨L.setIfInBounds i true,w',g,by simpa using hLs,fun k hk=>?_,by rw[c_e L (by omega)];exact hLm,a_o hlm,fun k hk=>by rw[c_e listed (by omega)];exact htl2 k hk,fun k hk hf=>a_o (hnf k hk hf),a_o hla,a_o hle,Inv.step hok hs H hLs him hLu hdst ?_ h3 (fun hc=>by rw[hni]at hc;cases hc),by rw[nd ka d hka hska hla];exact hgp,hg1,Nat.lt_of_lt_of_le hg2 h3.size,by rw[nd ke e hke hske hle]⟩)
    ·by_cases e1:k=i
     ·subst e1;rw[b_n (by omega),b_n (by omega)]
     ·rw[c_e L e1,c_e listed e1];exact hLk k hk
    ·unfold FOf;rw[hni];exact h2
   ·subst him;rw[b_h hu]at hlm;cases hlm
   ·have hcov:=a_w hd hi (hcv i him hin);have hall:∀k,k<m->listed.getD k false=true:=fun k hk=>hcov k (by omega) (by simp);refine stepC (m+1) (by omega) (fun k hk=>⟨fun h=>?_,fun h=>?_⟩) (cls listed L a wg g hLk H hgp hall)
    ·rcases Nat.lt_or_ge m k with h1|h1
     ·rw[htl2 k h1]at h;cases h
     ·omega
    ·rcases Nat.lt_or_eq_of_le (Nat.le_of_lt_succ h)with h1|h1
     ·exact hall k h1
     ·subst h1;exact hlm
  ·exact stepC r hmr hlr hwp
 ·
  intro listed a w hsz hd hj hr;have hall:∀k,k<ops.size->listed.getD k false=true:=by
   intro k;induction k using Nat.strongRecOn with
   |ind k ih=>
    intro hk;cases hc:listed.getD k false with
    |true=>rfl
    |false=>
     exfalso
     have hmem:k∈Region.ready .any ops listed:=d_w hsz hk hc (fun j hj=>by have:=hlt k hk j hj;exact ih j this (by omega));rw[hr]at hmem;cases hmem
  have endC:∀r,r<=ops.size->(∀k,k<ops.size->(listed.getD k false=true↔k<r))->wpOps P ops Q (List.range' r (ops.size - r)) a w->Q .normal a w:=fun r hrn hlr hwp=>by
   have hsr:ops.size=r:=by
    rcases Nat.lt_or_ge r ops.size with h|h
    ·have:=(hlr r h).1 (hall r h);omega
    ·omega
   rw[hsr,Nat.sub_self]at hwp;simpa [wpOps] using hwp
  rcases hj with⟨htail,H⟩|⟨L,wg,g,hLs,hLk,hLm,hlm,htl2,hnf,hla,hle,H,hgp,hg1,hg2,rfl⟩|⟨r,hmr,hrn,hlr,hwp⟩
  ·have:=hall m hmn;rw[htail m (Nat.le_refl _)]at this;cases this
  ·refine endC (m+1) (by omega) (fun k hk=>⟨fun h=>?_,fun h=>hall k hk⟩) (cls listed L a wg g hLk H hgp fun k hk=>hall k (by omega));rcases Nat.lt_or_ge m k with h1|h1
   ·rw[htl2 k h1]at h;cases h
   ·omega
  ·exact endC r hrn hlr hwp
 ·unfold openOf;simp
 ·simp[Array.getD]at hi
 ·simp[Array.getD]
 ·refine⟨rfl,rfl,fun _ _=>rfl,(Below.refl _ _).drew,fun k _ hl=>?_,fun j k _ _ _ _ hl=>?_⟩
  ·simp[Array.getD]at hl
  ·simp[Array.getD]at hl
end
section
variable {ops:Array Oper}{Q:Exit->Act->World->Prop}{m i:Nat}{a0 a:Act}{w0 w:World}{l:List FK}{b:Bool}{id:Nat}
theorem f_r {Fs:List FVal}{o:Oper}{v:Value}(hx:nthF Fs i=IsK v)
  (hrun:∀(a:Act) (w:World),Below w0.heap.size w0 w->(∀t,(List.range m).all (fun k=>slotOf ops k != some t)=true->a.eval (.tmp t)=a0.eval (.tmp t))->
   (∀k d u,((predsOf ops i).contains k&&slotOf ops k==some d&&((ops[k]?).bind isAlloc).isNone&&decide (k<m))=true->nthF Fs k=IsK u->a.eval (.tmp d)=u)->(execOp a.eval o).run Tryz.prog w= .ok (.value v) w):LateAt Tryz.prog ops m a0 w0 Fs i o:=fun a w hB ho hp=>
 ⟨v,w,by rw[hx];rfl,Below.refl _ _,fun g u h1 h2=>hrun a _ (hB.setCell (p:=⟨g,0,none⟩) h1 _) ho fun k d u' hk hf=>by
  have:=hp k d hk;rw[hf]at this;exact this⟩
noncomputable def okEy (ops:Array Oper)(fl:List Nat)(m size ka ke d e:Nat)(Ta:TypeId):Bool:=
 regionOk ops fl m size&&((allocTs ops m).all okZ&&allocGuards ops m)&&((List.range' (m+1) (ops.size - (m+1))).all fun i=>covers ops [] i)&&
 decide (m<ops.size)&&(opAt ops m).guard.isNone&&(opAt ops m).dst.isNone&&decide (ka<m)&&decide (ke<m)&&(slotOf ops ka==some d)&&(slotOf ops ke==some e)&&(predsOf ops m).contains ka&&(predsOf ops m).contains ke&&((ops[ka]?).bind isAlloc==some Ta)&&((ops[ke]?).bind isAlloc).isNone
theorem Run.donee (fl:List Nat)(ka ke d e:Nat)(Ta:TypeId)(ds:List (Option Nat))
  (late:∀i,i∈fl->(opAt ops i).guard=none/\LateAt Tryz.prog ops m a0 w0 (fsOf l.reverse) i (opAt ops i))
  (hst:∀(a:Act) (w:World) (g:Nat),a.eval (.tmp d)= .pointer (some ⟨g,0,none⟩)->w.heap[g]? =some (zeroObj Ta)->nthF (fsOf l.reverse) ke (a.eval (.tmp e)) w->(execOp a.eval (opAt ops m)).run Tryz.prog w= .ok .skip (w.setCell ⟨g,0,none⟩ (a.eval (.tmp e))))
  (hlo:¬LetsOut Q) (hend:∀w,Below w0.heap.size w0 w->EndQ ops Q m w0 w [] l.reverse ds a0) (hok:okEy ops fl m a0.tmps.size ka ke d e Ta=true:=by kernel_rfl) (hds:(ops.toList.take m).map (·.dst)=ds:=by rfl) (hi:i=m:=by rfl) (hQ:∀c a d v w,Q (.panic c) (a.put d v) w->Q (.panic c) a w:=by(intro _ _ d _ _ h;cases d<;>exact h)):R ops Q m a0 w0 true id l i:=fun hl hall=>by
 unfold okEy at hok;simp only[Bool.and_eq_true,decide_eq_true_iff,List.all_eq_true,beq_iff_eq,List.contains_iff_mem]at hok;obtain⟨⟨⟨⟨⟨⟨⟨⟨⟨⟨⟨⟨⟨h1,h2,h3⟩,h4⟩,h5⟩,h6⟩,h7⟩,h8⟩,h9⟩,h10⟩,h11⟩,h12⟩,h13⟩,h14⟩,h15⟩:=hok;subst hi;have h:=g_p (b_s h1).1 hl hall i 0 rfl;have hom:ops[i]? =some (opAt ops i):=by rw[d_x h5];simp[h5]
 refine wp_region_any (by kernel_rfl) (q_r fl i (fsOf l.reverse) zeroObj hQ h1 okZ (List.all_eq_true.2 h2) (fun T h w=>c_r h w) h3 (fsOf_stay l.reverse) h.1 (fun j hj hjn=>h4 j (List.mem_range'.2 ⟨j - (i+1),by omega,by omega⟩)) (fun j o hj ho=>?_) hom (Option.isNone_iff_eq_none.1 h6) (Option.isNone_iff_eq_none.1 h7) hlo h8 h9 h10 h11 h12 h13 h14 (Option.isNone_iff_eq_none.1 h15) hst (fun w hw=>c_0 _ l.reverse l.reverse [] 0 a0 h.2 (fun j _=>by rw[Nat.zero_add]) (by rw[hds];exact hend w hw)));have:o=opAt ops j:=by
  have hjl:=(Array.getElem?_eq_some_iff.1 ho).1;rw[d_x hjl];exact(Array.getElem?_eq_some_iff.1 ho).2.symm
 subst this;exact late j hj
end
end
end Go.Proofs.YtfhbdlegkdbmfaaGreat
