/- Pb27 -/
import Derived.Test.YtlgjjnmmepgafaaPb17
import Derived.Test.YtlgjjnmmepgafaaPb21
import Derived.Test.YtlgjjnmmepgafaaPb26
set_option linter.unusedVariables false
set_option linter.unusedSimpArgs false
set_option linter.unusedSectionVars false
set_option maxRecDepth 100000
set_option maxHeartbeats 8000000
namespace Go.Proofs.Ytlgjjnmmepgafaa
open Go.RowKit
def ncX (o:Op):Operand:=match o with| .nilCheck x=>x|_=>.func 0
def okNc (ops:Array Oper)(m i:Nat)(s:Src):Bool:=okH ops m i&&(match(opAt ops i).op with| .nilCheck x=>s.ok ops m i x|_=>false)
theorem Run.nc {ops:Array Oper}{Q:Exit->Act->World->Prop}{m i:Nat}{a0:Act}{w0:World}{l:List FK}{b:Bool}{id:Nat}(s:Src){p:Addr}(rest:R ops Q m a0 w0 b id (.k (.pointer (some p))::l) (i+1))(hc:okNc ops m i s=true:=by kernel_rfl)(hg:Gd l i (opAt ops i):=by first|exact trivial|exact rfl)(hx:s.K l i a0 (ncX (opAt ops i).op)= .k (.pointer (some p)):=by rfl):R ops Q m a0 w0 b id l i:=by
 unfold okNc at hc;rw[Bool.and_eq_true]at hc;obtain⟨h1,h2⟩:=hc;refine Run.val h1 (FK.kne _) hg (fun a w h=>⟨.pointer (some p), ?_,rfl⟩) rest;unfold ncX at hx;unfold execOp;cases e:(opAt ops i).op<;>simp only[e]at h2 hx<;>try cases h2
 simp only[h.srcK h2 hx];simp[go_sem]
section
variable {g o:Nat}
theorem fE0 (o':Nat)(h:o+0=o':=by rfl)(w:World):(Instr.fieldAt 61 (.pointer (some ⟨g,o,none⟩)) 0).run Try.prog w= .ok (.pointer (some ⟨g,o',none⟩)) w:=by subst h;simp[go_sem]
theorem fE1 (o':Nat)(h:o+1=o':=by rfl)(w:World):(Instr.fieldAt 61 (.pointer (some ⟨g,o,none⟩)) 1).run Try.prog w= .ok (.pointer (some ⟨g,o',none⟩)) w:=by subst h;simp[go_sem]
theorem fE2 (o':Nat)(h:o+2=o':=by rfl)(w:World):(Instr.fieldAt 61 (.pointer (some ⟨g,o,none⟩)) 2).run Try.prog w= .ok (.pointer (some ⟨g,o',none⟩)) w:=by subst h;simp[go_sem]
theorem fE3 (o':Nat)(h:o+4=o':=by rfl)(w:World):(Instr.fieldAt 61 (.pointer (some ⟨g,o,none⟩)) 3).run Try.prog w= .ok (.pointer (some ⟨g,o',none⟩)) w:=by subst h;simp[go_sem]
variable {w:World}{T:TypeId}{cs:List Value}
theorem ldSS (b:Bx w g T cs)(o:Nat){A:Option Addr}{n c:Nat}(hc:cs[o]? =some (.slice A n c):=by rfl):∀w',Below w.heap.size w w'->(Instr.loadAt 59 (.pointer (some ⟨g,o,none⟩))).run Try.prog w'= .ok (.slice A n c) w':=fun w' hb=>by
 have h:=(b.below hb).cell o;rw[hc]at h;simp[go_sem,a_u,h]
theorem ldIs (b:Bx w g T cs)(o:Nat){A:Option Addr}{n c:Nat}(hc:cs[o]? =some (.slice A n c):=by rfl):∀w',Below w.heap.size w w'->(Instr.loadAt 40 (.pointer (some ⟨g,o,none⟩))).run Try.prog w'= .ok (.slice A n c) w':=fun w' hb=>by
 have h:=(b.below hb).cell o;rw[hc]at h;simp[go_sem,a_u,h]
theorem o_p {w:World}{H i n c:Nat}(h:i<n):(Instr.indexAt 59 (.slice (some ⟨H,0,none⟩) n c) (.int .i64 (i:Int))).run Try.prog w= .ok (.pointer (some ⟨H,i,none⟩)) w:=by
 simp[go_sem,Try.underlying59,show Try.prog.cellsOf 22=1 by kernel_rfl];omega
theorem opIxS {H i n c:Nat}{X Y:Operand}(h:i<n)(w:World):RunTwo Try.prog (.indexAddr 59 X Y) w (.slice (some ⟨H,0,none⟩) n c) (.int .i64 (i:Int)) (.pointer (some ⟨H,i,none⟩)):=o_p h
end
def rw' (C:Nat)(f:Nat->Int):List Int:=(List.range C).map f
theorem b_p (C:Nat)(f:Nat->Int):(rw' C f).length=C:=by simp[rw']
theorem f_k {C j:Nat}{f:Nat->Int}(h:j<C):ith (rw' C f) j=f j:=by simp[ith,rw',List.getD,h]
theorem l_w {C:Nat}{f f':Nat->Int}(h:∀j,j<C->f j=f' j):rw' C f=rw' C f':=List.map_congr_left fun j hj=>h j (List.mem_range.1 hj)
theorem ZL.gro0 {q:Bool}{w w':World}{A:Option Addr}{n c k g:Nat}{zs:List Int}(h:ZL q w A n c k zs)(hne:0<n->∀ad,A=some ad->ad.block≠g)(hn:Wless w g)(hg:w.grownBy w' (some g)):ZL q w' A n c k zs:=by
 rcases Nat.eq_zero_or_pos n with h0|h0
 ·exact⟨h.len,h.le,h.cap,fun h1=>by omega⟩
 ·exact h.gro (hne h0) hn hg
def RowOk (w:World)(S:List Nat)(v:Value)(C K:Nat)(f:Nat->Int):Prop:=∃A c,v= .slice A C c/\ZL true w A C c K (rw' C f)/\(0<C->∀ad,A=some ad->ad.block ∉ S)
section
variable {w w':World}{S S':List Nat}{v:Value}{C K K':Nat}{f f':Nat->Int}
theorem RowOk.below (h:RowOk w S v C K f)(hb:Below w.heap.size w w'):RowOk w' S v C K f:=by
 obtain⟨A,c,e,h1,h2⟩:=h;exact⟨A,c,e,h1.below hb,h2⟩
theorem RowOk.gro {x:Nat}(h:RowOk w S v C K f)(hx:x∈S)(hn:Wless w x)(hg:w.grownBy w' (some x)):RowOk w' S v C K f:=by
 obtain⟨A,c,e,h1,h2⟩:=h;exact⟨A,c,e,h1.gro0 (fun h0 ad ha e=>h2 h0 ad ha (e ▸ hx)) hn hg,h2⟩
theorem RowOk.mono (h:RowOk w S v C K f)(hk:K<=K'):RowOk w S v C K' f:=by
 obtain⟨A,c,e,h1,h2⟩:=h;exact⟨A,c,e,h1.mono hk,h2⟩
theorem RowOk.congr (h:RowOk w S v C K f)(e:∀j,j<C->f j=f' j):RowOk w S v C K f':=by
 obtain⟨A,c,e',h1,h2⟩:=h;exact⟨A,c,e',by rw[<-l_w e];exact h1,h2⟩
theorem RowOk.more (h:RowOk w S v C K f)(hS:∀x,x∈S'->x∈S\/w.heap.size<=x):RowOk w S' v C K f:=by
 obtain⟨A,c,e,h1,h2⟩:=h;refine⟨A,c,e,h1,fun h0 ad ha hx=>?_⟩;rcases hS _ hx with h3|h3
 ·exact h2 h0 ad ha h3
 ·obtain⟨ad',ha',h4,-⟩:=h1.at' h0;rw[ha]at ha';cases ha';omega
theorem RowOk.slice (h:RowOk w S v C K f):∃A c,v= .slice A C c:=by obtain⟨A,c,e,-⟩:=h;exact⟨A,c,e⟩
end
def blkOf (v:Value):List Nat:=match v.ownBlock with|some x=>[x] |none=>[]
theorem h_g {v:Value}{x:Nat}(h:v.ownBlock=some x):x∈blkOf v:=by unfold blkOf;rw[h];simp
def ints (ps:List Nat):List Value:=ps.map fun p:Nat=>Value.int .i64 (p:Int)
structure Xt where
 T:TypeId
 ex:List Value
 nw:∀v,v∈ex->∀m:Int,v≠ .int .u64 m
 P:World->List Nat->Prop
 pb:∀w w' S,P w S->Below w.heap.size w w'->P w' S
 pg:∀w w' S x,P w S->x∈S->Wless w x->w.grownBy w' (some x)->P w' S
 pm:∀w S S',P w S->(∀x,x∈S'->x∈S\/w.heap.size<=x)->P w S'
structure RAt (xt:Xt) (b:Nat) (w:World) (g H R C Ka:Nat) (K:Nat->Nat) (M:Nat->Nat->Int) (ps:List Nat) (h:Int) (s:Bool) (vp:Value) (sa:Bool) (A:Option Addr) (n c:Nat) (rows:List Value):Prop where
 bx:Bx w g xt.T (.slice (some ⟨H,0,none⟩) R R::vp:: .bool sa:: .slice A n c:: .bool s::xt.ex)
 hd:Bx w H 22 rows
 len:rows.length=R
 ne:g≠H
 bg:b<=g
 bh:b<=H
 own:OwnI w b 3 vp ps.length (ints ps)
 pg:vp.ownBlock≠some g
 ph:vp.ownBlock≠some H
 az:Zc w sa A n c h
 an:n<=Ka
 row:∀i,i<R->∃v,rows[i]? =some v/\RowOk w (g::H::blkOf vp) v C (K i) (M i)
 ct:xt.P w (g::H::blkOf vp)
section
variable {xt:Xt}{b:Nat}{w w':World}{g H R C Ka Ka':Nat}{K K':Nat->Nat}{M M':Nat->Nat->Int}{ps:List Nat}{h:Int}{s:Bool}{vp:Value}{sa:Bool}{A:Option Addr}{n c:Nat}{rows:List Value}
theorem RAt.below (r:RAt xt b w g H R C Ka K M ps h s vp sa A n c rows)(hb:Below w.heap.size w w'):RAt xt b w' g H R C Ka K M ps h s vp sa A n c rows where
 bx:=r.bx.below hb
 hd:=r.hd.below hb
 len:=r.len
 ne:=r.ne
 bg:=r.bg
 bh:=r.bh
 own:=r.own.below hb
 pg:=r.pg
 ph:=r.ph
 az:=r.az.below hb
 an:=r.an
 row:=fun i hi=>by
  obtain⟨v,h1,h2⟩:=r.row i hi;exact⟨v,h1,h2.below hb⟩
 ct:=xt.pb _ _ _ r.ct hb
theorem RAt.mono (r:RAt xt b w g H R C Ka K M ps h s vp sa A n c rows)(hk:Ka<=Ka')(hK:∀i,i<R->K i<=K' i):RAt xt b w g H R C Ka' K' M ps h s vp sa A n c rows:=
 { r with an:=Nat.le_trans r.an hk,row:=fun i hi=>let⟨v,h1,h2⟩:=r.row i hi;⟨v,h1,h2.mono (hK i hi)⟩ }
theorem RAt.congr (r:RAt xt b w g H R C Ka K M ps h s vp sa A n c rows)(e:∀i j,i<R->j<C->M i j=M' i j):RAt xt b w g H R C Ka K M' ps h s vp sa A n c rows:=
 { r with row:=fun i hi=>let⟨v,h1,h2⟩:=r.row i hi;⟨v,h1,h2.congr fun j hj=>e i j hi hj⟩ }
theorem RAt.vpf (r:RAt xt b w g H R C Ka K M ps h s vp sa A n c rows):∃A c,vp= .slice A ps.length c:=by
 obtain⟨A,c,e,-⟩:=r.own.form;exact⟨A,c,e⟩
theorem RAt.nowG (r:RAt xt b w g H R C Ka K M ps h s vp sa A n c rows):Wless w g:=r.bx.now (by
 obtain⟨A',c',e⟩:=r.vpf;subst e;simpa using xt.nw)
theorem RAt.nowH (r:RAt xt b w g H R C Ka K M ps h s vp sa A n c rows):Wless w H:=r.hd.now fun v hv=>by
 obtain⟨i,hi,rfl⟩:=List.getElem_of_mem hv;obtain⟨v',h1,h2⟩:=r.row i (by rw[<-r.len];exact hi);obtain⟨A',c',e⟩:=h2.slice;rw[List.getElem?_eq_getElem hi]at h1;injection h1 with h1
 rw[h1,e];simp
theorem RAt.put (r:RAt xt b w g H R C Ka K M ps h s vp sa A n c rows){i:Nat}(hi:i<R){v:Value}{f:Nat->Int}{kv:Nat}(hv:RowOk w (g::H::blkOf vp) v C kv f):
  RAt xt b (w.setCell ⟨H,i,none⟩ v) g H R C Ka (fun a=>if a=i then kv else K a) (fun a=>if a=i then f else M a) ps h s vp sa A n c (rows.set i v):=by
 have hgr:w.grownBy (w.setCell ⟨H,i,none⟩ v) (some H):=a_o (q:=⟨H,i,none⟩) (a_2 w (some H)) rfl _;exact {
  bx:=c_x r.bx hgr r.ne
  hd:=r.hd.set i v
  len:=by rw[List.length_set];exact r.len
  ne:=r.ne
  bg:=r.bg
  bh:=r.bh
  own:=r.own.kept hgr r.ph
  pg:=r.pg
  ph:=r.ph
  az:=r.az.gro r.nowH hgr
  an:=r.an
  row:=fun a ha=>by
   by_cases e:a=i
   ·subst e;refine⟨v,by rw[List.getElem?_set_self (by rw[r.len];exact hi)], ?_⟩;rw[if_pos rfl,if_pos rfl];exact hv.gro (by simp) r.nowH hgr
   ·obtain⟨v',h1,h2⟩:=r.row a ha;refine⟨v',by rw[List.getElem?_set_ne (Ne.symm e)];exact h1, ?_⟩;rw[if_neg e,if_neg e];exact h2.gro (by simp) r.nowH hgr
  ct:=xt.pg _ _ _ _ r.ct (by simp) r.nowH hgr }
theorem RAt.odd (r:RAt xt b w g H R C Ka K M ps h s vp sa A n c rows)(s':Bool):RAt xt b (w.setCell ⟨g,4,none⟩ (.bool s')) g H R C Ka K M ps h s' vp sa A n c rows:=by
 have hgr:w.grownBy (w.setCell ⟨g,4,none⟩ (.bool s')) (some g):=a_o (q:=⟨g,4,none⟩) (a_2 w (some g)) rfl _;exact {
  bx:=r.bx.set 4 _
  hd:=c_x r.hd hgr (Ne.symm r.ne)
  len:=r.len
  ne:=r.ne
  bg:=r.bg
  bh:=r.bh
  own:=r.own.kept hgr r.pg
  pg:=r.pg
  ph:=r.ph
  az:=r.az.gro r.nowG hgr
  an:=r.an
  row:=fun a ha=>by
   obtain⟨v',h1,h2⟩:=r.row a ha;exact⟨v',h1,h2.gro (by simp) r.nowG hgr⟩
  ct:=xt.pg _ _ _ _ r.ct (by simp) r.nowG hgr }
theorem RAt.push (r:RAt xt b w g H R C Ka K M ps h s vp sa A n c rows){p:Nat}{vp':Value}(ho:OwnI w' b 3 vp' (ps.length+1) (ints ps++[.int .i64 (p:Int)]))(hG:Grew w w' vp vp')(hb:b<=w.heap.size){sz:Bool}{B:Option Addr}{m d:Nat}{z:Int}(hz:Zc w sz B m d z)(hm:m<=Ka):
  RAt xt b (((w'.setCell ⟨g,1,none⟩ vp').setCell ⟨g,2,none⟩ (.bool sz)).setCell ⟨g,3,none⟩ (.slice B m d)) g H R C Ka K M (ps++[p]) z s vp' sz B m d rows:=by
 have hgl:=r.bx.lt;have hhl:=r.hd.lt;have b1:Bx w' g xt.T (.slice (some ⟨H,0,none⟩) R R::vp:: .bool sa:: .slice A n c:: .bool s::xt.ex):=(hG.by'.block g hgl (Ne.symm r.pg)).trans r.bx;have b2:Bx w' H 22 rows:=(hG.by'.block H hhl (Ne.symm r.ph)).trans r.hd;have hrow:∀i,i<R->∃v,rows[i]? =some v/\RowOk w' (g::H::blkOf vp') v C (K i) (M i):=fun i hi=>by
  obtain⟨v,h1,h2⟩:=r.row i hi;have h3:RowOk w (g::H::blkOf vp') v C (K i) (M i):=h2.more fun x hx=>by
   rcases hG.to' with e|e
   ·left;have:blkOf vp'=blkOf vp:=by unfold blkOf;rw[e]
    rw[<-this];exact hx
   ·simp only[List.mem_cons]at hx ⊢;rcases hx with hx|hx|hx
    ·exact .inl (.inl hx)
    ·exact .inl (.inr (.inl hx))
    ·right;unfold blkOf at hx;rw[e]at hx;simp at hx;omega
  refine⟨v,h1, ?_⟩;cases hvb:vp.ownBlock with
  |none=>
   have:=hG.by';rw[hvb]at this;exact h3.below ⟨this.os,this.tape,this.output,this.size,fun k hk=>this.block k hk (by simp)⟩
  |some x=>
   obtain⟨A',c',e',h5,h6⟩:=h3;obtain⟨A'',c'',e'',h7,h8⟩:=h2;rw[e']at e'';cases e''
   have:=hG.by';rw[hvb]at this;exact⟨A',c',e',h5.gro0 (fun h0 ad ha e=>h8 h0 ad ha (by rw[e];simp[h_g hvb])) (hG.now x hvb) this,h6⟩
 have hpg:vp'.ownBlock≠some g:=by
  rcases hG.to' with e|e
  ·rw[e];exact r.pg
  ·rw[e];intro e2;injection e2 with e2;omega
 have hph:vp'.ownBlock≠some H:=by
  rcases hG.to' with e|e
  ·rw[e];exact r.ph
  ·rw[e];intro e2;injection e2 with e2;omega
 obtain⟨Ap,cp,evp,-⟩:=r.own.form;obtain⟨Aq,cq,evq,-⟩:=ho.form;have hgr:w'.grownBy (((w'.setCell ⟨g,1,none⟩ vp').setCell ⟨g,2,none⟩ (.bool sz)).setCell ⟨g,3,none⟩ (.slice B m d)) (some g):=a_o (q:=⟨g,3,none⟩) (a_o (q:=⟨g,2,none⟩) (a_o (q:=⟨g,1,none⟩) (a_2 w' (some g)) rfl _) rfl _) rfl _;have hno:Wless w' g:=b1.now (by subst evp;simpa using xt.nw);exact {
  bx:=((b1.set 1 _).set 2 _).set 3 _
  hd:=c_x b2 hgr (Ne.symm r.ne)
  len:=r.len
  ne:=r.ne
  bg:=r.bg
  bh:=r.bh
  own:=by
   have:=ho.kept hgr hpg;rw[show(ps++[p]).length=ps.length+1 by simp,show ints (ps++[p])=ints ps++[.int .i64 (p:Int)] by simp[ints]];exact this
  pg:=hpg
  ph:=hph
  az:=(hG.zc hz).gro hno hgr
  an:=hm
  row:=fun i hi=>by
   obtain⟨v,h1,h2⟩:=hrow i hi;exact⟨v,h1,h2.gro (by simp) hno hgr⟩
  ct:=by
   have c1:xt.P w (g::H::(blkOf vp'++blkOf vp)):=xt.pm _ _ _ r.ct fun x hx=>by
    simp only[List.mem_cons,List.mem_append]at hx ⊢;rcases hx with hx|hx|hx|hx
    ·exact .inl (.inl hx)
    ·exact .inl (.inr (.inl hx))
    ·rcases hG.to' with e|e
     ·have:blkOf vp'=blkOf vp:=by unfold blkOf;rw[e]
      rw[this]at hx;exact .inl (.inr (.inr hx))
     ·right;unfold blkOf at hx;rw[e]at hx;simp at hx;omega
    ·exact .inl (.inr (.inr hx))
   have c2:xt.P w' (g::H::(blkOf vp'++blkOf vp)):=by
    cases hvb:vp.ownBlock with
    |none=>
     have:=hG.by';rw[hvb]at this;exact xt.pb _ _ _ c1 ⟨this.os,this.tape,this.output,this.size,fun k hk=>this.block k hk (by simp)⟩
    |some x=>
     have:=hG.by';rw[hvb]at this;exact xt.pg _ _ _ x c1 (by simp[h_g hvb]) (hG.now x hvb) this
   exact xt.pg _ _ _ _ (xt.pm _ _ _ c2 fun x hx=>by
    simp only[List.mem_cons,List.mem_append]at hx ⊢;rcases hx with hx|hx|hx
    ·exact .inl (.inl hx)
    ·exact .inl (.inr (.inl hx))
    ·exact .inl (.inr (.inr (.inl hx)))) (by simp) hno hgr }
end
theorem RAt.swap {xt:Xt}{b:Nat}{w:World}{g H R C Ka K:Nat}{M:Nat->Nat->Int}{ps:List Nat}{h:Int}{s:Bool}{vp:Value}{sa:Bool}{A:Option Addr}{n c:Nat}{rows:List Value}(r:RAt xt b w g H R C Ka (fun _=>K) M ps h s vp sa A n c rows){i j:Nat}(hi:i<R)(hj:j<R){vi vj:Value}(ei:rows[i]? =some vi)(ej:rows[j]? =some vj):
  RAt xt b ((w.setCell ⟨H,j,none⟩ vi).setCell ⟨H,i,none⟩ vj) g H R C Ka (fun _=>K) (DT.swr M j i) ps h s vp sa A n c ((rows.set j vi).set i vj):=by
 obtain⟨v,h1,h2⟩:=r.row i hi;rw[ei]at h1;cases h1;obtain⟨v,h3,h4⟩:=r.row j hj;rw[ej]at h3;cases h3;have r1:=r.put hj h2;have hgr:w.grownBy (w.setCell ⟨H,j,none⟩ vi) (some H):=a_o (q:=⟨H,j,none⟩) (a_2 w (some H)) rfl _;have r2:=r1.put hi (h4.gro (by simp) r.nowH hgr);have e:(fun a=>if a=i then K else if a=j then K else K)=fun _=>K:=by funext a;split;rfl;split<;>rfl
 rw[e]at r2;refine r2.congr fun a l ha hl=>?_;unfold DT.swr;by_cases e1:a=i
 ·rw[if_pos e1];by_cases e2:a=j
  ·rw[if_pos e2];rw[<-e2,e1]
  ·rw[if_neg e2,if_pos e1]
 ·rw[if_neg e1];by_cases e2:a=j
  ·rw[if_pos e2,if_pos e2]
  ·rw[if_neg e2,if_neg e2,if_neg e1]
def Rdc (xt:Xt)(b:Nat)(w:World)(g R C K:Nat)(M:Nat->Nat->Int)(ps:List Nat)(h:Int)(s:Bool):Prop:=∃H vp sa A n c rows,RAt xt b w g H R C K (fun _=>K) M ps h s vp sa A n c rows
end Go.Proofs.Ytlgjjnmmepgafaa
