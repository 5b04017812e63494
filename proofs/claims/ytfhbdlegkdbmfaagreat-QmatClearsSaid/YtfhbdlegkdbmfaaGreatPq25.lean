/- Pq25 -/
import Derived.Test.YtfhbdlegkdbmfaaGreatPq24
set_option linter.unusedVariables false
set_option linter.unusedSimpArgs false
set_option linter.unusedSectionVars false
set_option maxRecDepth 100000
set_option maxHeartbeats 8000000
namespace Go.Proofs.YtfhbdlegkdbmfaaGreat
section
open Go.RowKit
def Oz (base:Nat)(w:World)(k:Nat)(v:Value)(zs:List Int):Prop:=∃vs:List Value,OwnN w base 31 v zs.length vs/\∀j,j<zs.length->∃s A n c,vs[j*2]? =some (.bool s)/\vs[j*2+1]? =some (.slice A n c)/\Zc w s A n c (ith zs j)/\n<=k
def Oq (q:Bool)(base:Nat)(w:World)(k:Nat)(v:Value)(xs:List Rat):Prop:=∃vs:List Value,OwnK 4 w base 42 v xs.length vs/\∀j,j<xs.length->∃s A n c t B m d,vs[j*4]? =some (.bool s)/\vs[j*4+1]? =some (.slice A n c)/\vs[j*4+2]? =some (.bool t)/\vs[j*4+3]? =some (.slice B m d)/\Qe q w s A n c t B m d (rth xs j)/\n<=k/\m<=k
theorem o_3 (w:World){b:Nat}(hb:b<=w.heap.size):∃w0:World,w0.heap.size=b/\Below w0.heap.size w0 w:=by
 have hs:(w.heap.extract 0 b).size=b:=by simp;omega
 refine⟨{ w with heap:=w.heap.extract 0 b },hs,rfl,rfl,rfl, ?_,fun k hk=>?_⟩
 ·show(w.heap.extract 0 b).size<=_;omega
 ·have hk':k<b:=by rw[<-hs];exact hk
  show w.heap[k]? =(w.heap.extract 0 b)[k]?
  rw[Array.getElem?_extract];simp;intro h;omega
section
variable {base k k' g:Nat}{w w':World}{v v' u:Value}{zs ys:List Int}{q:Bool}{xs:List Rat}
theorem OwnZ.oz {w0:World}(h:OwnZ w0 w k v zs):Oz w0.heap.size w k v zs:=h.row
theorem Oz.own (h:Oz base w k v zs)(hb:base<=w.heap.size):∃w0:World,w0.heap.size=base/\OwnZ w0 w k v zs:=by
 obtain⟨w0,h1,h2⟩:=o_3 w hb;exact⟨w0,h1,by rw[h1];exact h,h2⟩
theorem OwnQ.oq {w0:World}(h:OwnQ q w0 w k v xs):Oq q w0.heap.size w k v xs:=h.row
theorem Oq.own (h:Oq q base w k v xs)(hb:base<=w.heap.size):∃w0:World,w0.heap.size=base/\OwnQ q w0 w k v xs:=by
 obtain⟨w0,h1,h2⟩:=o_3 w hb;exact⟨w0,h1,by rw[h1];exact h,h2⟩
theorem Oz.lt (h:Oz base w k v zs)(hg:v.ownBlock=some g):base<=g/\g<w.heap.size:=by obtain⟨vs,h1,-⟩:=h;exact h1.1.lt g hg
theorem Oq.lt (h:Oq q base w k v xs)(hg:v.ownBlock=some g):base<=g/\g<w.heap.size:=by obtain⟨vs,h1,-⟩:=h;exact h1.1.lt g hg
theorem Oz.typ (h:Oz base w k v zs)(hg:v.ownBlock=some g):∃cs,w.heap[g]? =some (.cells cs 31 (0,0)):=by
 obtain⟨vs,h1,-⟩:=h;rcases h1.1.2 with⟨rfl,_⟩|⟨g',cap,cur,rfl,hb,hh,_⟩
 ·cases hg
 ·obtain rfl:g'=g:=by simpa [Value.ownBlock] using hg
  exact⟨_,hh⟩
theorem Oq.typ (h:Oq q base w k v xs)(hg:v.ownBlock=some g):∃cs,w.heap[g]? =some (.cells cs 42 (0,0)):=by
 obtain⟨vs,h1,-⟩:=h;rcases h1.1.2 with⟨rfl,_⟩|⟨g',cap,cur,rfl,hb,hh,_⟩
 ·cases hg
 ·obtain rfl:g'=g:=by simpa [Value.ownBlock] using hg
  exact⟨_,hh⟩
theorem Oz.apart {b2:Nat}(h:Oz base w k v zs)(h2:Oq q b2 w k' u xs):Dj v u:=by
 cases hv:v.ownBlock with
 |none=>exact .inl hv
 |some g=>
  right;intro e;obtain⟨cs,e1⟩:=h.typ hv;rw[hv]at e;obtain⟨cs',e2⟩:=h2.typ e.symm;rw[e1]at e2;injection e2 with e3
  injection e3 with _ e4
  exact absurd e4 (by decide)
theorem Oz.below (h:Oz base w k v zs)(hb:Below w.heap.size w w'):Oz base w' k v zs:=by
 obtain⟨vs,⟨h1,h2⟩,h3⟩:=h;refine⟨vs,⟨h1.kept (row:=none) ⟨hb.os,hb.tape,hb.output,hb.size,fun k hk _=>hb.block k hk⟩ (by cases hv:v.ownBlock<;>simp),fun g cs hg hc=>h2 g cs hg ?_⟩,fun j hj=>?_⟩
 ·rw[<-hb.block g (h1.lt g hg).2];exact hc
 ·obtain⟨s,A,n,c,c1,c2,c3,c4⟩:=h3 j hj;exact⟨s,A,n,c,c1,c2,c3.below hb,c4⟩
theorem Oq.below (h:Oq q base w k v xs)(hb:Below w.heap.size w w'):Oq q base w' k v xs:=by
 obtain⟨vs,⟨h1,h2⟩,h3⟩:=h;refine⟨vs,⟨h1.kept (row:=none) ⟨hb.os,hb.tape,hb.output,hb.size,fun k hk _=>hb.block k hk⟩ (by cases hv:v.ownBlock<;>simp),fun g cs hg hc=>h2 g cs hg ?_⟩,fun j hj=>?_⟩
 ·rw[<-hb.block g (h1.lt g hg).2];exact hc
 ·obtain⟨s,A,n,c,t,B,m,d,c1,c2,c3,c4,c5,c6⟩:=h3 j hj;exact⟨s,A,n,c,t,B,m,d,c1,c2,c3,c4,c5.below hb,c6⟩
theorem Oz.gro (h:Oz base w k v zs)(hne:v.ownBlock≠some g)(hn:Wless w g)(hg:w.grownBy w' (some g)):Oz base w' k v zs:=by
 obtain⟨vs,⟨h1,h2⟩,h3⟩:=h;refine⟨vs,⟨h1.kept hg (.inr hne),fun g' cs hg' hc=>h2 g' cs hg' ?_⟩,fun j hj=>?_⟩
 ·rw[<-hg.block g' (h1.lt g' hg').2 (by rw[<-hg'];exact hne)];exact hc
 ·obtain⟨s,A,n,c,c1,c2,c3,c4⟩:=h3 j hj;exact⟨s,A,n,c,c1,c2,c3.gro hn hg,c4⟩
theorem Oq.gro (h:Oq q base w k v xs)(hne:v.ownBlock≠some g)(hn:Wless w g)(hg:w.grownBy w' (some g)):Oq q base w' k v xs:=by
 obtain⟨vs,⟨h1,h2⟩,h3⟩:=h;refine⟨vs,⟨h1.kept hg (.inr hne),fun g' cs hg' hc=>h2 g' cs hg' ?_⟩,fun j hj=>?_⟩
 ·rw[<-hg.block g' (h1.lt g' hg').2 (by rw[<-hg'];exact hne)];exact hc
 ·obtain⟨s,A,n,c,t,B,m,d,c1,c2,c3,c4,c5,c6⟩:=h3 j hj;exact⟨s,A,n,c,t,B,m,d,c1,c2,c3,c4,c5.gro hn hg,c6⟩
theorem p_7 {u:Value}{ub:∀g,u.ownBlock=some g->g<w.heap.size}(hG:Grew w w' v v')(hd:Dj u v):Dj u v':=by
 rcases hG.to' with e|e
 ·unfold Dj;rw[e];exact hd
 ·unfold Dj;rw[e];cases hu:u.ownBlock with
  |none=>exact .inl rfl
  |some g=>right;have:=ub g hu;simp;omega
theorem Oz.other (h:Oz base w k u ys)(hG:Grew w w' v v')(hd:Dj u v):Oz base w' k u ys/\Dj u v':=by
 have hl:∀g,u.ownBlock=some g->g<w.heap.size:=fun g hg=>(h.lt hg).2;refine⟨?_,p_7 (ub:=hl) hG hd⟩;obtain⟨vs,⟨h1,h2⟩,h3⟩:=h;refine⟨vs,⟨h1.kept hG.by' hd,fun g cs hg hc=>h2 g cs hg ?_⟩,fun j hj=>?_⟩
 ·rw[<-hG.by'.block g (h1.lt g hg).2 (by rw[<-hg];exact hd.resolve_left (by rw[hg];simp))];exact hc
 ·obtain⟨s,A,n,c,c1,c2,c3,c4⟩:=h3 j hj;exact⟨s,A,n,c,c1,c2,hG.zc c3,c4⟩
theorem Oq.other (h:Oq q base w k u xs)(hG:Grew w w' v v')(hd:Dj u v):Oq q base w' k u xs/\Dj u v':=by
 have hl:∀g,u.ownBlock=some g->g<w.heap.size:=fun g hg=>(h.lt hg).2;refine⟨?_,p_7 (ub:=hl) hG hd⟩;obtain⟨vs,⟨h1,h2⟩,h3⟩:=h;refine⟨vs,⟨h1.kept hG.by' hd,fun g cs hg hc=>h2 g cs hg ?_⟩,fun j hj=>?_⟩
 ·rw[<-hG.by'.block g (h1.lt g hg).2 (by rw[<-hg];exact hd.resolve_left (by rw[hg];simp))];exact hc
 ·obtain⟨s,A,n,c,t,B,m,d,c1,c2,c3,c4,c5,c6⟩:=h3 j hj;exact⟨s,A,n,c,t,B,m,d,c1,c2,c3,c4,hG.qe c5,c6⟩
theorem Oz.mono (h:Oz base w k v zs)(hk:k<=k'):Oz base w k' v zs:=by
 obtain⟨vs,h1,h3⟩:=h;refine⟨vs,h1,fun j hj=>?_⟩;obtain⟨s,A,n,c,c1,c2,c3,c4⟩:=h3 j hj;exact⟨s,A,n,c,c1,c2,c3,Nat.le_trans c4 hk⟩
theorem Oz.form (h:Oz base w k v zs)(hb:base<=w.heap.size):∃A c,v= .slice A zs.length c/\∀q,ZL q w A zs.length c k zs:=by
 obtain⟨w0,-,h1⟩:=h.own hb;exact h1.form
theorem Oq.form (h:Oq q base w k v xs)(hb:base<=w.heap.size):∃A c,v= .slice A xs.length c/\QL q w A xs.length c k xs:=by
 obtain⟨w0,-,h1⟩:=h.own hb;exact h1.form
theorem Oq.nil (q:Bool)(base:Nat)(w:World)(k:Nat):Oq q base w k (.slice none 0 0) []:=⟨[],⟨World.ownsRow_nil w _ _ _,fun g cs h=>nomatch h⟩,fun j hj=>by simp at hj⟩
theorem ZB.oz {b n:Nat}(h:ZB w g k zs)(hb:b<=g)(hn:zs.length=n)(hs:n<=1048576):Oz b w k (.slice (some ⟨g,0,none⟩) n n) zs:=by
 subst hn;obtain⟨cs,h1,h2,h3⟩:=h;refine⟨cs.toList,⟨⟨by rw[Array.length_toList];exact h2,.inr ⟨g,zs.length,cs,rfl,hb,h1,Nat.le_refl _,by unfold maxLen;omega,h2,List.take_of_length_le (by rw[Array.length_toList];omega)⟩⟩,fun g' cs' hg hc u hu m e=>?_⟩,fun j hj=>?_⟩
 ·obtain rfl:g=g':=by simpa [Value.ownBlock] using hg
  rw[h1]at hc;injection hc with hc
  injection hc with hc
  subst hc;obtain⟨i,hi,rfl⟩:=List.getElem_of_mem hu;rw[Array.length_toList]at hi;obtain⟨s,A,n,c,c1,c2,-⟩:=h3 (i / 2) (by omega);rw[Array.getElem_toList]at e;rcases(by omega:i=i / 2*2\/i=i / 2*2+1)with ho|ho
  ·rw[<-ho,Array.getElem?_eq_getElem hi]at c1;injection c1 with c1;rw[c1]at e;cases e
  ·rw[<-ho,Array.getElem?_eq_getElem hi]at c2;injection c2 with c2;rw[c2]at e;cases e
 ·obtain⟨s,A,n,c,c1,c2,c3,c4⟩:=h3 j hj;exact⟨s,A,n,c,by rw[Array.getElem?_toList];exact c1,by rw[Array.getElem?_toList];exact c2,c3,c4⟩
theorem rp_oq {b C:Nat}{s t:Bool}{A B:Option Addr}{n c m d:Nat}{x:Rat}(h:Bx w g 42 ((List.replicate C [.bool s,.slice A n c,.bool t,.slice B m d]).flatten))(hb:b<=g)(hC:C<=1048576)(hx:Qe q w s A n c t B m d x)(hn:n<=k)(hm:m<=k):Oq q b w k (.slice (some ⟨g,0,none⟩) C C) (List.replicate C x):=by
 have hl4:([Value.bool s,.slice A n c,.bool t,.slice B m d]).length=4:=rfl;refine⟨_,⟨⟨by rw[b_8 hl4,List.length_replicate],.inr ⟨g,C,_,by rw[List.length_replicate],hb,h,by rw[List.length_replicate];exact Nat.le_refl _,by unfold maxLen;omega,by rw[List.size_toArray,b_8 hl4],by rw[List.length_replicate];exact List.take_of_length_le (by rw[b_8 hl4];exact Nat.le_refl _)⟩⟩,fun g' cs' hg hc u hu m' e=>?_⟩,fun j hj=>?_⟩
 ·obtain rfl:g=g':=by simpa [Value.ownBlock] using hg
  have h':=h;unfold Bx at h';rw[h']at hc;injection hc with hc
  injection hc with hc
  subst hc;obtain⟨l,hl,hv⟩:=List.mem_flatten.1 hu;rw[(List.mem_replicate.1 hl).2]at hv;subst e;simp at hv
 ·rw[List.length_replicate]at hj;rw[show rth (List.replicate C x) j=x by simp[rth,List.getD,hj]];exact⟨s,A,n,c,t,B,m,d,by rw[d_b hl4,if_pos (by omega),Nat.mul_mod_left];rfl,by rw[d_b hl4,if_pos (by omega),show(j*4+1)%4=1 by omega];rfl,by rw[d_b hl4,if_pos (by omega),show(j*4+2)%4=2 by omega];rfl,by rw[d_b hl4,if_pos (by omega),show(j*4+3)%4=3 by omega];rfl,hx,hn,hm⟩
end
theorem m_7 {P:Program}{w1:World}{ops:Array Oper}{rest:List Oper}{o:Oper}{a:Act}{Q:Exit->Act->World->Prop}(hgd:o.guard=none)(s x:Operand)(t:TypeId)
  (ho:o.op= .call { callee:=.builtin .append,args:=#[s,x],argTypes:=#[t,t] })
  (ht:P.underlying t=some (.slice 31)) (hinfo:(P.info? 31).map (fun i=>(i.zero,i.size,i.bytes))=some (some (.agg #[.bool false,.slice none 0 0]),2,32))
  {base k:Nat} {v:Value} {zs:List Int} (hs:a.eval s=v) (hown:Oz base w1 k v zs) (hb:base<=w1.heap.size) {sb:Bool} {A:Option Addr} {n c g:Nat} {z:Int} (hone:Bx w1 g 31 [.bool sb,.slice A n c]) (hz:Zc w1 sb A n c z) (hn:n<=k)
  (hx:a.eval x= .slice (some ⟨g,0,none⟩) 1 1) (hlen:zs.length<=1099511627776)
  (h:∀v' w',Oz base w' k v' (zs++[z])->Grew w1 w' v v'->wpList P ops Q rest (a.put o.dst v') w'):
  wpList P ops Q (o::rest) a w1:=by
 obtain⟨w0,e,h1⟩:=hown.own hb;refine k_f w0 w1 hgd s x t ho ht hinfo k v zs hs h1 (by have:=hone.cell 0;simpa using this) (by have:=hone.cell 1;simpa using this) hz hn hx hlen fun v' w' h2 h3=>h v' w' ?_ h3
 have:=h2.oz;rwa [e]at this
theorem f_9 {P:Program}{w1:World}{ops:Array Oper}{rest:List Oper}{o:Oper}{a:Act}{Q:Exit->Act->World->Prop}(hgd:o.guard=none)(s x:Operand)(t:TypeId)
  (ho:o.op= .call { callee:=.builtin .append,args:=#[s,x],argTypes:=#[t,t] })
  (ht:P.underlying t=some (.slice 42)) (hinfo:(P.info? 42).map (fun i=>(i.zero,i.size,i.bytes))=some (some (.agg #[.bool false,.slice none 0 0,.bool false,.slice none 0 0]),4,64))
  {q:Bool} {base k:Nat} {v:Value} {xs:List Rat} (hs:a.eval s=v) (hown:Oq q base w1 k v xs) (hb:base<=w1.heap.size) {sb tb:Bool} {A B:Option Addr} {n c m d g:Nat} {z:Rat} (hone:Bx w1 g 42 [.bool sb,.slice A n c,.bool tb,.slice B m d]) (hz:Qe q w1 sb A n c tb B m d z) (hn:n<=k) (hm:m<=k)
  (hx:a.eval x= .slice (some ⟨g,0,none⟩) 1 1) (hlen:xs.length<=1099511627776)
  (h:∀v' w',Oq q base w' k v' (xs++[z])->Grew w1 w' v v'->wpList P ops Q rest (a.put o.dst v') w'):
  wpList P ops Q (o::rest) a w1:=by
 obtain⟨w0,e,h1⟩:=hown.own hb;refine i_4 w0 w1 hgd s x t ho ht hinfo q k v xs hs h1 hone.rb hz hn hm hx hlen fun v' w' h2 h3=>h v' w' ?_ h3
 have:=h2.oq;rwa [e]at this
theorem Grew.bx {w w':World}{v v':Value}{g:Nat}{T:TypeId}{cs:List Value}(h:Grew w w' v v')(b:Bx w g T cs)(hne:v.ownBlock≠some g):Bx w' g T cs:=(h.by'.block g b.lt (Ne.symm hne)).trans b
structure RofA (bs:Nat) (w:World) (ga gb gs H:Nat) (ca cb:List Value) (R S:Nat) (vs:Value) (K1 K2:Nat) (Z:Nat->List Int) (xs:List Rat) (vt:Value) (K3:Nat) (ys:List Rat) (m:Nat) (rows:List Value):Prop where
 ba:Bx w ga 24 ca
 bb:Bx w gb 24 cb
 bo:Bx w gs 24 [.int .i64 (R:Int),.int .i64 (S:Int),vs]
 hd:Bx w H 25 rows
 len:rows.length=R
 lts:ga<bs/\gb<bs/\gs<bs/\H<bs
 sep:gs≠ga/\gs≠gb/\gs≠H/\H≠ga/\H≠gb
 own:Oq true bs w K2 vs xs
 row:∀j,j<m->∃v,rows[j]? =some v/\Oz bs w K1 v (Z j)
 slc:∀v,v∈rows->∃A n c,v= .slice A n c
 dj:∀j l v u,j<m->l<m->j≠l->rows[j]? =some v->rows[l]? =some u->Dj v u
 oc:Oq false bs w K3 vt ys
 djc:Dj vt vs
 hb:bs<=w.heap.size
section
variable {bs:Nat}{w w':World}{ga gb gs H:Nat}{ca cb:List Value}{R S:Nat}{vs vs':Value}{K1 K2:Nat}{Z:Nat->List Int}{xs:List Rat}{vt vt':Value}{K3:Nat}{ys:List Rat}{m:Nat}{rows:List Value}{v v':Value}
theorem RofA.below (r:RofA bs w ga gb gs H ca cb R S vs K1 K2 Z xs vt K3 ys m rows)(hb:Below w.heap.size w w'):RofA bs w' ga gb gs H ca cb R S vs K1 K2 Z xs vt K3 ys m rows:=
 { r with ba:=r.ba.below hb,bb:=r.bb.below hb,bo:=r.bo.below hb,hd:=r.hd.below hb,own:=r.own.below hb,row:=fun j hj=>let⟨v,h1,h2⟩:=r.row j hj;⟨v,h1,h2.below hb⟩,oc:=r.oc.below hb,hb:=Nat.le_trans r.hb hb.size }
theorem RofA.nowH (r:RofA bs w ga gb gs H ca cb R S vs K1 K2 Z xs vt K3 ys m rows):Wless w H:=r.hd.now fun v hv m e=>by
 obtain⟨A,n,c,e2⟩:=r.slc v hv;rw[e2]at e;cases e
theorem RofA.low {g:Nat}(r:RofA bs w ga gb gs H ca cb R S vs K1 K2 Z xs vt K3 ys m rows)(hv:∀x,v.ownBlock=some x->bs<=x)(hg:g<bs):v.ownBlock≠some g:=fun e=>by have:=hv g e;omega
theorem RofA.put (r:RofA bs w ga gb gs H ca cb R S vs K1 K2 Z xs vt K3 ys m rows)(hm:m<R)(hs:∃A n c,v= .slice A n c)(hv:Oz bs w K1 v (Z m))(hd:∀l u,l<m->rows[l]? =some u->Dj u v):
  RofA bs (w.setCell ⟨H,m,none⟩ v) ga gb gs H ca cb R S vs K1 K2 Z xs vt K3 ys (m+1) (rows.set m v):=by
 have hgr:w.grownBy (w.setCell ⟨H,m,none⟩ v) (some H):=a_d (q:=⟨H,m,none⟩) (a_m w (some H)) rfl _;have hno:=r.nowH;obtain⟨l1,l2,l3,l4⟩:=r.lts;obtain⟨s1,s2,s3,s4,s5⟩:=r.sep;have hne:∀ {k u zs},Oz bs w k u zs->u.ownBlock≠some H:=fun h e=>by have:=(h.lt e).1;omega
 have hnq:∀ {q k u xs},Oq q bs w k u xs->u.ownBlock≠some H:=fun h e=>by have:=(h.lt e).1;omega
 exact {
  ba:=a_a r.ba hgr (Ne.symm s4)
  bb:=a_a r.bb hgr (Ne.symm s5)
  bo:=a_a r.bo hgr s3
  hd:=r.hd.set m v
  len:=by rw[List.length_set];exact r.len
  lts:=r.lts
  sep:=r.sep
  own:=r.own.gro (hnq r.own) hno hgr
  row:=fun j hj=>by
   by_cases e:j=m
   ·subst e;exact⟨v,by rw[List.getElem?_set_self (by rw[r.len];exact hm)],hv.gro (hne hv) hno hgr⟩
   ·obtain⟨u,h1,h2⟩:=r.row j (by omega);exact⟨u,by rw[List.getElem?_set_ne (Ne.symm e)];exact h1,h2.gro (hne h2) hno hgr⟩
  slc:=fun u hu=>by
   rcases List.mem_or_eq_of_mem_set hu with h|h
   ·exact r.slc u h
   ·rw[h];exact hs
  dj:=fun j l a b hj hl hjl ha hb=>by
   by_cases e:j=m
   ·subst e;rw[List.getElem?_set_self (by rw[r.len];exact hm)]at ha;cases ha;rw[List.getElem?_set_ne (by omega)]at hb;exact(hd l b (by omega) hb).symm
   ·rw[List.getElem?_set_ne (Ne.symm e)]at ha;by_cases e2:l=m
    ·subst e2;rw[List.getElem?_set_self (by rw[r.len];exact hm)]at hb;cases hb;exact hd j a (by omega) ha
    ·rw[List.getElem?_set_ne (Ne.symm e2)]at hb;exact r.dj j l a b (by omega) (by omega) hjl ha hb
  oc:=r.oc.gro (hnq r.oc) hno hgr
  djc:=r.djc
  hb:=Nat.le_trans r.hb hgr.size }
theorem RofA.push {x:Rat}(r:RofA bs w ga gb gs H ca cb R S vs K1 K2 Z xs vt K3 ys m rows)(hG:Grew w w' vs vs')(ho:Oq true bs w' K2 vs' (xs++[x])):
  RofA bs (w'.setCell ⟨gs,2,none⟩ vs') ga gb gs H ca cb R S vs' K1 K2 Z (xs++[x]) vt K3 ys m rows:=by
 have hlo:∀ {g},g<bs->vs.ownBlock≠some g:=fun hg e=>by have:=(r.own.lt e).1;omega
 obtain⟨l1,l2,l3,l4⟩:=r.lts;obtain⟨s1,s2,s3,s4,s5⟩:=r.sep;have hgr:w'.grownBy (w'.setCell ⟨gs,2,none⟩ vs') (some gs):=a_d (q:=⟨gs,2,none⟩) (a_m w' (some gs)) rfl _;have bo':=hG.bx r.bo (hlo l3);have hno:Wless w' gs:=bo'.now (by
  obtain⟨A,c,e,-⟩:=r.own.form r.hb;subst e;simp)
 have hb':bs<=w'.heap.size:=Nat.le_trans r.hb hG.by'.size;obtain⟨hc1,hc2⟩:=r.oc.other hG r.djc;exact {
  ba:=a_a (hG.bx r.ba (hlo l1)) hgr (Ne.symm s1)
  bb:=a_a (hG.bx r.bb (hlo l2)) hgr (Ne.symm s2)
  bo:=bo'.set 2 _
  hd:=a_a (hG.bx r.hd (hlo l4)) hgr (Ne.symm s3)
  len:=r.len
  lts:=r.lts
  sep:=r.sep
  own:=ho.gro (fun e=>by have:=(ho.lt e).1;omega) hno hgr
  row:=fun j hj=>by
   obtain⟨u,h1,h2⟩:=r.row j hj;have h3:=(h2.other hG (h2.apart r.own)).1;exact⟨u,h1,h3.gro (fun e=>by have:=(h3.lt e).1;omega) hno hgr⟩
  slc:=r.slc
  dj:=r.dj
  oc:=hc1.gro (fun e=>by have:=(hc1.lt e).1;omega) hno hgr
  djc:=hc2
  hb:=Nat.le_trans hb' hgr.size }
theorem RofA.grow {i:Nat}{zs:List Int}(r:RofA bs w ga gb gs H ca cb R S vs K1 K2 Z xs vt K3 ys m rows)(hi:i<m)(hR:m<=R)(hv:rows[i]? =some v)(hG:Grew w w' v v')(hs:∃A n c,v'= .slice A n c)(ho:Oz bs w' K1 v' zs):
  RofA bs (w'.setCell ⟨H,i,none⟩ v') ga gb gs H ca cb R S vs K1 K2 (fun j=>if j=i then zs else Z j) xs vt K3 ys m (rows.set i v'):=by
 obtain⟨v0,hv0,hov⟩:=r.row i hi;rw[hv]at hv0;cases hv0;have hlo:∀ {g},g<bs->v.ownBlock≠some g:=fun hg e=>by have:=(hov.lt e).1;omega
 obtain⟨l1,l2,l3,l4⟩:=r.lts;obtain⟨s1,s2,s3,s4,s5⟩:=r.sep;have hgr:w'.grownBy (w'.setCell ⟨H,i,none⟩ v') (some H):=a_d (q:=⟨H,i,none⟩) (a_m w' (some H)) rfl _;have hd':=hG.bx r.hd (hlo l4);have hno:Wless w' H:=hd'.now fun u hu m e=>by
  obtain⟨A,n,c,e2⟩:=r.slc u hu;rw[e2]at e;cases e
 have hb':bs<=w'.heap.size:=Nat.le_trans r.hb hG.by'.size;obtain⟨hc1,-⟩:=r.oc.other hG (hov.apart r.oc).symm;obtain⟨ho1,-⟩:=r.own.other hG (hov.apart r.own).symm;exact {
  ba:=a_a (hG.bx r.ba (hlo l1)) hgr (Ne.symm s4)
  bb:=a_a (hG.bx r.bb (hlo l2)) hgr (Ne.symm s5)
  bo:=a_a (hG.bx r.bo (hlo l3)) hgr s3
  hd:=hd'.set i v'
  len:=by rw[List.length_set];exact r.len
  lts:=r.lts
  sep:=r.sep
  own:=ho1.gro (fun e=>by have:=(ho1.lt e).1;omega) hno hgr
  row:=fun j hj=>by
   by_cases e:j=i
   ·subst e;refine⟨v',by rw[List.getElem?_set_self (by rw[r.len];omega)], ?_⟩;rw[if_pos rfl];exact ho.gro (fun e=>by have:=(ho.lt e).1;omega) hno hgr
   ·obtain⟨u,h1,h2⟩:=r.row j hj;refine⟨u,by rw[List.getElem?_set_ne (Ne.symm e)];exact h1, ?_⟩;rw[if_neg e];have h3:=(h2.other hG (r.dj j i u v hj hi e h1 hv)).1;exact h3.gro (fun e=>by have:=(h3.lt e).1;omega) hno hgr
  slc:=fun u hu=>by
   rcases List.mem_or_eq_of_mem_set hu with h|h
   ·exact r.slc u h
   ·rw[h];exact hs
  dj:=fun j l a b hj hl hjl ha hb=>by
   by_cases e:j=i
   ·subst e;rw[List.getElem?_set_self (by rw[r.len];omega)]at ha;cases ha;rw[List.getElem?_set_ne hjl]at hb;obtain⟨u,h1,h2⟩:=r.row l hl;rw[hb]at h1;cases h1;exact(h2.other hG (r.dj l j b v hl hj (Ne.symm hjl) hb hv)).2.symm
   ·rw[List.getElem?_set_ne (Ne.symm e)]at ha;by_cases e2:l=i
    ·subst e2;rw[List.getElem?_set_self (by rw[r.len];omega)]at hb;cases hb;obtain⟨u,h1,h2⟩:=r.row j hj;rw[ha]at h1;cases h1;exact(h2.other hG (r.dj j l a v hj hl hjl ha hv)).2
    ·rw[List.getElem?_set_ne (Ne.symm e2)]at hb;exact r.dj j l a b hj hl hjl ha hb
  oc:=hc1.gro (fun e=>by have:=(hc1.lt e).1;omega) hno hgr
  djc:=r.djc
  hb:=Nat.le_trans hb' hgr.size }
theorem RofA.cont {x:Rat}(r:RofA bs w ga gb gs H ca cb R S vs K1 K2 Z xs vt K3 ys m rows)(hG:Grew w w' vt vt')(ho:Oq false bs w' K3 vt' (ys++[x])):
  RofA bs w' ga gb gs H ca cb R S vs K1 K2 Z xs vt' K3 (ys++[x]) m rows:=by
 have hlo:∀ {g},g<bs->vt.ownBlock≠some g:=fun hg e=>by have:=(r.oc.lt e).1;omega
 obtain⟨l1,l2,l3,l4⟩:=r.lts;obtain⟨ho1,ho2⟩:=r.own.other hG r.djc.symm;exact { r with
  ba:=hG.bx r.ba (hlo l1)
  bb:=hG.bx r.bb (hlo l2)
  bo:=hG.bx r.bo (hlo l3)
  hd:=hG.bx r.hd (hlo l4)
  own:=ho1
  row:=fun j hj=>by
   obtain⟨u,h1,h2⟩:=r.row j hj;exact⟨u,h1,(h2.other hG (h2.apart r.oc)).1⟩
  oc:=ho
  djc:=ho2.symm
  hb:=Nat.le_trans r.hb hG.by'.size }
end
end
section
open Go.RowKit
theorem RAt.numb {xt:Xt}{b:Nat}{w:World}{g H R C Ka:Nat}{K:Nat->Nat}{M:Nat->Nat->Int}{ps:List Nat}{h:Int}{s:Bool}{vp:Value}{sa:Bool}{A:Option Addr}{n c:Nat}{rows:List Value}(r:RAt xt b w g H R C Ka K M ps h s vp sa A n c rows){i k:Nat}(hi:i<R)(hk:k<C):
  ∃ad c' s' A' n' c'',rows[i]? =some (.slice (some ad) C c')/\ad.block<w.heap.size/\w.cell? (ad.add (k*2))=some (.bool s')/\w.cell? ⟨(ad.add (k*2)).block,(ad.add (k*2)).off+1,none⟩=some (.slice A' n' c'')/\Zc w s' A' n' c'' (M i k)/\n'<=K i:=by
 obtain⟨v,h1,A1,c1,rfl,h2,-⟩:=r.row i hi;obtain⟨ad,rfl,hab,s',A',n',c'',e1,e2,ze,hk'⟩:=h2.at hk;rw[c_6 hk]at ze;exact⟨ad,c1,s',A',n',c'',h1,hab,e1,e2,ze.2 rfl,hk'⟩
def BuPost (xt:Xt)(b:Nat)(w:World)(g H R C Ka K k:Nat)(M:Nat->Nat->Int)(ps:List Nat)(h:Int)(s:Bool)(vp:Value)(sa:Bool)(A:Option Addr)(n c:Nat)(rows:List Value)(e:Ending)(w':World):Prop:=
 (e= .returned (.bool false)/\(∀i,ps.length<=i->i<R->M i k=0)/\Below w.heap.size w w')\/
 (e= .returned (.bool true)/\∃i rows',ps.length<=i/\i<R/\M i k≠0/\RAt xt b w' g H R C Ka (fun _=>K) (DT.swr M ps.length i) ps h (s != decide (i≠ps.length)) vp sa A n c rows'/\Below b w w')
theorem w_v {xt:Xt}{b g H R C Ka K k:Nat}{M:Nat->Nat->Int}{ps:List Nat}{h:Int}{s:Bool}{vp:Value}{sa:Bool}{A:Option Addr}{n c:Nat}{rows:List Value}{w:World}(r:RAt xt b w g H R C Ka (fun _=>K) M ps h s vp sa A n c rows)(hb:b<=w.heap.size)(hk:k<C)(hP:ps.length<=R)(hR:R<=1048576)(hK:K<=549755813888):
  Calls Tryz.prog 193 #[.pointer (some ⟨g,0,none⟩),.int .i64 (k:Int)] w (BuPost xt b w g H R C Ka K k M ps h s vp sa A n c rows):=by
 obtain⟨Ap,cp,rfl⟩:=r.vpf;have HR:=Lib.hid r;obtain⟨N,hN⟩:∃N,ps.length=N:=⟨_,rfl⟩;have HN:=Lib.hid hN;rw[hN]at hP;have bx:=r.bx;rw[hN]at bx;clear r;go_enter Tryz.func193,Tryz.ntmps193
 go_upto_region 1 with fail
 refine Run.start 6 ?_;refine .mv .o ?_;refine .nc (.i 0) ?_;refine .fa (.i 1) (fE1 1) ?_;refine .ld (.i 2) (ldIs bx 1) ?_;refine .len (.i 3) Tryz.underlying150 ?_;refine .mv (.i 4) ?_;refine .donep [some 7,some 8,some 9,some 10,some 11,some 5] ?_;intro w2 B2;refine sh [] ?_;simp only[Act.put,lS,lZ,lC];have HB2:=Lib.hid B2;clear B2 bx hN
 go_wp2_with fail
 go_loopw [6] (fun s6 wr=>∃i:Nat,s6= .int .i64 (i:Int)/\N<=i/\i<=R/\Hid (Below w.heap.size w wr/\∀a,N<=a->a<i->M a k=0)) (fun s6 _=>R - (intOf s6).toNat)
 case atStart=>exact⟨N,rfl,Nat.le_refl _,hP,Lib.hid ⟨HB2.out,fun a h1 h2=>by omega⟩⟩
 case round=>
  obtain⟨i,rfl,hNi,hiR,HB⟩:=hrel;obtain⟨B0,hall⟩:=HB.out;have c0:wr.cell? ⟨g,0,none⟩=some (.slice (some ⟨H,0,none⟩) R R):=(HR.out.bx.below B0).cell 0;by_cases hlt:i<R
  ·have u2:(i:Int)<(R:Int):=by omega
   have HA:=Lib.hid hall;clear hall HB;have bx:=HR.out.bx.below B0;have hd:=HR.out.hd.below B0;obtain⟨ad,ca,s1,A1,n1,c1,eri,hab,e1,e2,hz,hk1⟩:=(HR.out.below B0).numb hlt hk;obtain⟨x,hx⟩:∃x,(M i k).sign=x:=⟨_,rfl⟩;obtain⟨t,ht⟩:∃t,decide (x≠0)=t:=⟨_,rfl⟩;have HX:=Lib.hid hx;have HT:=Lib.hid ht;clear hx ht;go_upto_region 5 with fail
   clear c0;refine Run.start 12 ?_;refine .mv .o ?_;refine .nc (.i 0) ?_;refine .fa (.i 1) (fE0 0) ?_;refine .ld (.i 2) (ldSS bx 0) ?_;refine .mv .o ?_;refine .two (.i 3) (.i 4) (opIxS hlt) ?_;refine .ld (.i 5) (ldSl hd i eri) ?_;refine .mv .o ?_;refine .two (.i 6) (.i 7) (opIx hk) ?_;refine .ld (.i 8) (ldE (by rw[a_b];exact hab) e1 e2) ?_;refine .c1 (.i 9) (x:=.k (.int .i64 x)) (by rintro u w6 hB rfl;exact a_z ⟨_,_,_,_,rfl,(hz.below hB).zv,hk1⟩ (by omega) HX.out) ?_;refine .two (.i 10) .o (opNe HT.out) ?_;refine .donep [some 22,some 23,some 24,some 25,some 26,some 27,some 28,some 29,some 30,some 31,some 32,some 33] ?_;intro w2 B2;refine sh [] ?_;simp only[Act.put,lS,lZ,lC];replace B0:=zup B0 B2;clear e1 e2 hab hz B2 bx hd;cases t
   ·have H0:Hid (Below w.heap.size w w2/\∀a,N<=a->a<i+1->M a k=0):=Lib.hid ⟨B0,fun a h1 h2=>by
     rcases Nat.lt_or_ge a i with h3|h3
     ·exact HA.out a h1 h3
     ·have ea:a=i:=by omega
      subst ea;have h4:=HT.out;rw[<-HX.out]at h4;exact Int.sign_eq_zero_iff_zero.1 (by simpa using h4)⟩
    clear B0
    go_wp2_with fail
    go_roundw
    case rel=>exact⟨i+1,by go_num,by omega,by omega,H0⟩
    case measure=>first|(simp[intOf];done)|(simp[intOf];omega)
   ·have hne:M i k≠0:=fun e=>by
     have h4:=HT.out;rw[<-HX.out,e]at h4;simp at h4
    have bx:=HR.out.bx.below B0;have hd:=HR.out.hd.below B0;obtain⟨adi,ci,-,-,-,-,eri',-,-,-,-,-⟩:=(HR.out.below B0).numb hlt hk;obtain⟨adn,cn',-,-,-,-,ern,-,-,-,-,-⟩:=(HR.out.below B0).numb (show N<R by omega) hk;rw[eri]at eri';cases eri';have hNR:N<R:=by omega
    go_upto_region 6 with fail
    refine Run.start 25 ?_;refine .mv .o ?_;refine .nc (.i 0) ?_;refine .fa (.i 1) (fE0 0) ?_;refine .ld (.i 2) (ldSS bx 0) ?_;refine .mv .o ?_;refine .mv .o ?_;refine .nc (.i 5) ?_;refine .fa (.i 6) (fE0 0) ?_;refine .ld (.i 7) (ldSS bx 0) ?_;refine .mv .o ?_;refine .mv .o ?_;refine .nc (.i 10) ?_;refine .fa (.i 11) (fE0 0) ?_;refine .ld (.i 12) (ldSS bx 0) ?_;refine .mv .o ?_;refine .two (.i 13) (.i 14) (opIxS hlt) ?_;refine .ld (.i 15) (ldSl hd i eri) ?_;refine .mv .o ?_;refine .nc (.i 17) ?_;refine .fa (.i 18) (fE0 0) ?_;refine .ld (.i 19) (ldSS bx 0) ?_;refine .mv .o ?_;refine .two (.i 20) (.i 21) (opIxS hNR) ?_;refine .ld (.i 22) (ldSl hd N ern) ?_;refine .two (.i 3) (.i 4) (opIxS hNR) ?_;refine .donef [9] [some 34,some 35,some 36,some 37,some 38,some 39,some 40,some 41,some 42,some 43,some 44,some 45,some 46,some 47,some 48,some 49,some 50,some 51,some 52,some 53,some 54,some 55,some 56,some 57,some 58] (e_w (f_5 (by kernel_rfl) rfl rfl)) ?_;intro w4 B4;refine sh [_,_,_] ?_;simp only[Act.put,lS,lZ,lC];replace B0:=zup B0 B4;have r4:=HR.out.below B0;have hs4:=B0.size;obtain⟨w5,hw5⟩:∃x,(w4.setCell ⟨H,N,none⟩ (.slice (some ad) C ca)).setCell ⟨H,i,none⟩ (.slice (some adn) C cn')=x:=⟨_,rfl⟩;have x1:=(r4.hd.cell N).trans ern;have y1:=r4.hd.free N;have hd5:=r4.hd.set N (.slice (some ad) C ca);obtain⟨v3,x2⟩:∃v3,(w4.setCell ⟨H,N,none⟩ (.slice (some ad) C ca)).cell? ⟨H,i,none⟩=some v3:=by
     have hli:i<(rows.set N (.slice (some ad) C ca)).length:=by rw[List.length_set,r4.len];exact hlt
     exact⟨_,(hd5.cell i).trans (List.getElem?_eq_getElem hli)⟩
    have y2:=hd5.free i;have r5:=r4.swap hlt hNR eri ern;have hrb:=r4.bh;have B5:Below b w w5:=by rw[<-hw5];exact((B0.mono hb).setCell hrb _).setCell hrb _
    rw[hw5]at r5;have HR5:=Lib.hid r5;have HW:=Lib.hid hw5;have HB5:=Lib.hid B5;clear r5 r4 B5 hd5 hw5 B0 bx hd;go_upto_region 7 with fail
    rw[HW.out];clear x1 y1 x2 y2 HW;have bx:=HR5.out.bx;obtain⟨t1,ht1⟩:∃t,decide ((i:Int)≠(N:Int))=t:=⟨_,rfl⟩;obtain⟨t2,ht2⟩:∃t,(s != t1)=t:=⟨_,rfl⟩;have HT1:=Lib.hid ht1;have HT2:=Lib.hid ht2;clear ht1 ht2;refine Run.start 11 ?_;refine .mv .o ?_;refine .mv .o ?_;refine .nc (.i 1) ?_;refine .fa (.i 2) (fE3 4) ?_;refine .ld (.i 3) (ldBool bx 4) ?_;refine .mv .o ?_;refine .mv .o ?_;refine .two (.i 5) (.i 6) (opNe HT1.out) ?_;refine .two (.i 4) (.i 7) (opNeB HT2.out) ?_;refine .nc (.i 0) ?_;refine .fa (.i 9) (fE3 4) ?_;refine .donep [some 60,some 61,some 62,some 63,some 64,some 65,some 66,some 67,some 68,some 69,some 70] ?_;intro w6 B6;refine sh [_] ?_;simp only[Act.put,lS,lZ,lC];have r6:=HR5.out.below B6;have hg6:b<=w5.heap.size:=Nat.le_of_lt (Nat.lt_of_le_of_lt HR5.out.bg bx.lt);have r7:=r6.odd t2;have B7:=(HB5.out.trans (B6.mono hg6)).setCell (p:=⟨g,4,none⟩) r6.bg (.bool t2);have x1:=r6.bx.cell 4;simp only[List.getElem?_cons_succ,List.getElem?_cons_zero]at x1;have y1:=r6.bx.free 4;have et:t2=(s != decide (i≠ps.length)):=by
     rw[<-HT2.out,<-HT1.out,HN.out];congr 1
     exact decide_eq_decide.2 (by omega)
    have P:Hid (BuPost xt b w g H R C Ka K k M ps h s (.slice Ap ps.length cp) sa A n c rows (.returned (.bool true)) (w6.setCell ⟨g,4,none⟩ (.bool t2))):=Lib.hid (.inr ⟨rfl,i,_,by rw[HN.out];exact hNi,hlt,hne,by rw[<-et];have e:=HN.out;subst e;exact r7,B7⟩);clear r6 r7 B7 bx et
    go_wp2_with fail
    exact bodyPost_ret (v:=.bool true) (by simp[results,Tryz.results193,go_sem]) rfl P.out
  ·obtain rfl:i=R:=by omega
   have u2:¬(i:Int)<(i:Int):=by omega
   have P:Hid (BuPost xt b w g H i C Ka K k M ps h s (.slice Ap ps.length cp) sa A n c rows (.returned (.bool false)) wr):=Lib.hid (.inl ⟨rfl,by rw[HN.out];exact hall,B0⟩);clear HB hall B0
   go_wp2_with fail
   exact bodyPost_ret (v:=.bool false) (by simp[results,Tryz.results193,go_sem]) rfl P.out
end
end Go.Proofs.YtfhbdlegkdbmfaaGreat
