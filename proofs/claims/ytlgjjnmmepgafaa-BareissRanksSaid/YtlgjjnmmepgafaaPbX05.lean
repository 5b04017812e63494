/- PbX05 -/
import Derived.Test.YtlgjjnmmepgafaaPbX02
import Derived.Laws.AppendOwn
set_option linter.unusedVariables false
set_option linter.unusedSimpArgs false
set_option linter.unusedSectionVars false
set_option maxRecDepth 100000
set_option maxHeartbeats 8000000
namespace Go.Proofs.Ytlgjjnmmepgafaa
section
open Go.RowKit
def OwnN (w:World)(base:Nat)(e:TypeId)(v:Value)(n:Nat)(xs:List Value):Prop:=
 w.ownsRow base e 2 v n xs/\∀g cs,v.ownBlock=some g->w.heap[g]? =some (.cells cs e (0,0))->∀u,u∈cs.toList->NWd u
theorem OwnN.wless {w:World}{base g:Nat}{e:TypeId}{v:Value}{n:Nat}{xs:List Value}(h:OwnN w base e v n xs)(hg:v.ownBlock=some g):Wless w g:=fun p m hp hc=>by
 rcases h.1.2 with⟨rfl,_⟩|⟨g',cap,cur,rfl,hb,hh,_⟩
 ·cases hg
 ·have e':g'=g:=by simpa [Value.ownBlock] using hg
  subst e';have e2:cur[p.off]? =some (.int .u64 m):=by
   unfold World.cell? at hc;rw[hp,hh]at hc;exact(by simpa using hc:p.spot=none/\cur[p.off]? =some (.int .u64 m)).2
  exact h.2 g' cur hg hh (.int .u64 m) (by rw[<-Array.getElem?_toList]at e2;exact List.mem_of_getElem? e2) m rfl
theorem l_m {z:Array Value}(hs:z.size=2)(hz:∀u,u∈z.toList->NWd u)(k:Nat)(u:Value)(hu:u∈(Builtin.zeroCells z k).toList):NWd u:=by
 unfold Builtin.zeroCells at hu;rw[Array.toList_map,List.mem_map]at hu;obtain⟨i,hi,rfl⟩:=hu;have hlt:i%z.size<z.size:=Nat.mod_lt _ (by omega);rw[getElem!_pos z _ hlt];exact hz _ (Array.getElem_mem_toList hlt)
section
variable {P:Program}(w:World)
theorem g_d (base:Nat)(t ty e:TypeId)(i:TypeInfo)(z:Value)(bytes:Nat)(ht:P.underlying t=some (.slice e))(hi:P.info? e=some i)(hz:i.zero=some z)
  (hsize:i.size=2) (hby:i.bytes=bytes) (hzs:z.cells.size=2) (hzn:∀u,u∈z.cells.toList->NWd u)
  (v:Value) (n:Nat) (xs:List Value) (hown:OwnN w base e v n xs)
  (a:Addr) (c:Nat) (news:List Value) (hl:news.length=2) (hnews:∀j u,news[j]? =some u->w.cell? (a.add j)=some u) (h1:∀u∈news,u.oneCell'=true) (hn:∀u,u∈news->NWd u)
  (h63:n+1<=maxLen) (hbytes:(n+1)*bytes<=140737488355328) (hbase:base<=w.heap.size):
  ∃v' w',(Builtin.append_ #[t,t] ty #[v,.slice (some a) 1 c]).run P w= .ok v' w'/\OwnN w' base e v' (n+1) (xs++news)/\w.grownBy w' v.ownBlock/\(v'.ownBlock=v.ownBlock\/v'.ownBlock=some w.heap.size):=by
 obtain⟨v',w',hr,ho,hg,-⟩:=run_append_own (P:=P) w base t ty e i z 2 bytes ht hi hz hsize hby hzs (by omega) v n xs hown.1 a 1 c news (by omega) hnews h1 h63 hbytes hbase;suffices H:(∀g cs,v'.ownBlock=some g->w'.heap[g]? =some (.cells cs e (0,0))->∀u,u∈cs.toList->NWd u)/\(v'.ownBlock=v.ownBlock\/v'.ownBlock=some w.heap.size)from⟨v',w',hr,⟨ho,H.1⟩,hg,H.2⟩
 have hsmall:n+1<=9223372036854775807:=by simp only[maxLen]at h63;omega
 have zz:=l_m hzs hzn;have fresh:∀(ys:List Value) (k:Nat) (cap:Nat),(∀u,u∈ys->NWd u)->v'= .slice (some ⟨w.heap.size,0,none⟩) (n+1) cap->w'=w.drew.alloc (.cells (ys.toArray++news.toArray++Builtin.zeroCells z.cells k) e)->
   ∀g cs,v'.ownBlock=some g->w'.heap[g]? =some (.cells cs e (0,0))->∀u,u∈cs.toList->NWd u:=fun ys k cap hys e1 e2 g cs h2 h3 u hu=>by
  subst e1 e2;have e3:w.heap.size=g:=by simpa [Value.ownBlock] using h2
  subst e3;have h9:(w.drew.alloc (.cells (ys.toArray++news.toArray++Builtin.zeroCells z.cells k) e)).heap[w.heap.size]? =some (.cells (ys.toArray++news.toArray++Builtin.zeroCells z.cells k) e (0,0)):=heap_alloc_new w.drew _;rw[h9]at h3;injection h3 with e4
  injection e4 with e5
  subst e5;simp only[Array.toList_append,List.mem_append]at hu;rcases hu with(hu|hu)|hu
  ·exact hys u hu
  ·exact hn u hu
  ·exact zz k u hu
 rcases hown.1.2 with⟨rfl,rfl⟩|⟨g,cap,cur,rfl,hbg,hh,hnc,hcm,hcs,htake⟩
 ·have hr2:=Go.run_append_nil (P:=P) w t ty e i z ht hi hz a 1 c news (by omega) hnews (by omega) (by omega) (by simp only[Nat.zero_add]at hbytes;omega);rw[hr]at hr2;injection hr2 with e1 e2
  exact⟨fresh [] (grownCap w 1 0 e - 1) (grownCap w 1 0 e) (fun u hu=>nomatch hu) e1 (by rw[e2];simp),.inr (by rw[e1];rfl)⟩
 ·have hcur:∀u,u∈cur.toList->NWd u:=hown.2 g cur rfl hh;have hxs:∀u,u∈xs->NWd u:=fun u hu=>hcur u (by rw[<-htake]at hu;exact List.mem_of_mem_take hu);by_cases hroom:n+1<=cap
  ·have hfit:n*i.size+news.length<=cur.size:=by rw[hl,hcs,hsize];omega
   have hr2:=run_append_room (P:=P) w t ty e i ht hi g n cap cur hh a 1 c news (by omega) hnews h1 hroom hfit;rw[hr]at hr2;injection hr2 with e1 e2
   refine⟨?_,.inl (by rw[e1];rfl)⟩;intro g' cs h2 h3 u hu;subst e1 e2;have e3:g=g':=by simpa [Value.ownBlock] using h2
   subst e3;rw[setRow_heap w g cur _ e _ hh]at h3;injection h3 with e4
   injection e4 with e5
   subst e5;simp only[List.mem_append]at hu;rcases hu with(hu|hu)|hu
   ·exact hcur u (List.mem_of_mem_take hu)
   ·exact hn u hu
   ·exact hcur u (List.mem_of_mem_drop hu)
  ·have holds:∀j u,xs[j]? =some u->w.cell? ((⟨g,0,none⟩:Addr).add j)=some u:=hown.1.cells (g:=g) rfl;have hr2:=run_append_grow (P:=P) w t ty e i z ht hi hz ⟨g,0,none⟩ n cap xs (by rw[hown.1.1,hsize]) holds a 1 c news (by omega) hnews (by omega) (by omega) (growslice_fits (by omega) (by rw[hby];exact hbytes));rw[hr]at hr2;injection hr2 with e1 e2
   exact⟨fresh xs _ _ hxs e1 e2,.inr (by rw[e1];rfl)⟩
end
end
section
open Go.RowKit
section
variable {q:Bool}{w w':World}{r c n d k k':Nat}{A:Option Addr}{F G:Nat->Nat->Int}
end
section
variable {u v:Value}{x y:Int}{n m k:Nat}{w:World}
theorem q_n (hx:IsV x n u w)(hn:n<=1099511627776):Calls Try.prog 36 #[u] w (RetK (kC (-x) n) w):=by
 obtain⟨s,A,a,c,rfl,h1,h2⟩:=hx;exact(q_m h1 (by omega)).mono fun e w' h=>h.q (by omega)
end
end
section
open Go.RowKit
theorem retM {q:Bool}{w w2:World}{A B:Option Addr}{r c n d k g m e:Nat}{x y:Int}{F:Nat->Nat->Int}(h:Mt q w2 r c A n d k F)(b:Bx w2 g 24 [.int .i64 x,.int .i64 y,.slice B m e])(hg:w.heap.size<=g)(hB:Below w.heap.size w w2):
  RetK (kM q r c k F) w (.returned (.agg #[.int .i64 (r:Int),.int .i64 (c:Int),.slice A n d])) (mput w2 g (r:Int) (c:Int) A n d):=⟨_,rfl,⟨A,n,d,rfl,h.put b⟩,a_q hB hg⟩
end
section
open Go.RowKit
structure OwnW (w0 w:World) (k:Nat) (v:Value) (zs:List Int):Prop where
 row:∃vs:List Value,OwnN w w0.heap.size 30 v zs.length vs/\∀j,j<zs.length->∃s A n c,vs[j*2]? =some (.bool s)/\vs[j*2+1]? =some (.slice A n c)/\Zv w s A n c (ith zs j)/\n<=k
 old:Below w0.heap.size w0 w
theorem OwnW.below {w0 w w':World}{k:Nat}{v:Value}{zs:List Int}(h:OwnW w0 w k v zs)(hb:Below w.heap.size w w'):OwnW w0 w' k v zs:=by
 obtain⟨⟨vs,⟨h1,h2⟩,h3⟩,h4⟩:=h;refine⟨⟨vs,⟨h1.kept (row:=none) ⟨hb.os,hb.tape,hb.output,hb.size,fun k hk _=>hb.block k hk⟩ (by cases hv:v.ownBlock<;>simp),fun g cs hg hc=>h2 g cs hg ?_⟩,fun j hj=>?_⟩,h4.trans (hb.mono h4.size)⟩
 ·rw[<-hb.block g (h1.lt g hg).2];exact hc
 ·obtain⟨s,A,n,c,c1,c2,c3,c4⟩:=h3 j hj;exact⟨s,A,n,c,c1,c2,c3.below hb,c4⟩
theorem OwnW.form {w0 w:World}{k:Nat}{v:Value}{zs:List Int}(h:OwnW w0 w k v zs):∃A c,v= .slice A zs.length c/\ZL false w A zs.length c k zs:=by
 obtain⟨⟨vs,⟨h1,h2⟩,h3⟩,h4⟩:=h;rcases h1.2 with⟨rfl,e⟩|⟨g,cap,cur,rfl,hb,hh,hn,hm,hcs,ht⟩
 ·rw[List.length_eq_zero_iff.1 e];exact⟨none,0,rfl,ZL.nil _ _ _⟩
 ·refine⟨_,cap,rfl,⟨rfl,hn,by unfold maxLen at hm;omega,fun h0=>⟨_,rfl,(Array.getElem?_eq_some_iff.1 hh).1,fun j hj=>?_⟩⟩⟩;obtain⟨s,A,n,c,c1,c2,c3,c4⟩:=h3 j hj;have hc:=h1.cells (g:=g) rfl;refine⟨s,A,n,c,hc _ _ c1, ?_,⟨c3,fun e=>nomatch e⟩,c4⟩
  have:=hc _ _ c2;rw[b_d]at this;rw[b_d];exact this
theorem d_x {P:Program}(w0 w1:World){ops:Array Oper}{rest:List Oper}{o:Oper}{a:Act}{Q:Exit->Act->World->Prop}(hgd:o.guard=none)(s x:Operand)(t:TypeId)
  (ho:o.op= .call { callee:=.builtin .append,args:=#[s,x],argTypes:=#[t,t] })
  (ht:P.underlying t=some (.slice 30)) (hinfo:(P.info? 30).map (fun i=>(i.zero,i.size,i.bytes))=some (some (.agg #[.bool false,.slice none 0 0]),2,32))
  (k:Nat) (v:Value) (zs:List Int) (hs:a.eval s=v) (hown:OwnW w0 w1 k v zs) {sb:Bool} {A:Option Addr} {n c g:Nat} {z:Int} (hc0:w1.cell? ⟨g,0,none⟩=some (.bool sb)) (hc1:w1.cell? ⟨g,1,none⟩=some (.slice A n c)) (hz:Zv w1 sb A n c z) (hn:n<=k)
  (hx:a.eval x= .slice (some ⟨g,0,none⟩) 1 1) (hlen:zs.length<=1099511627776)
  (h:∀v' w',OwnW w0 w' k v' (zs++[z])->Grew w1 w' v v'->wpList P ops Q rest (a.put o.dst v') w'):
  wpList P ops Q (o::rest) a w1:=by
 obtain⟨i,hi,hz0,hz1,hz2⟩:=info_parts hinfo;have hsz:=hown.old.size;have hzz:=hz;obtain⟨⟨vs,h1,h3⟩,h4⟩:=hown;obtain⟨v',w',hr,h5,h6,h8⟩:=g_d (P:=P) w1 w0.heap.size t o.type 30 i (.agg #[.bool false,.slice none 0 0]) 32 ht hi hz0 hz1 hz2 rfl (fun u hu=>by
   simp[Value.cells]at hu;rcases hu with rfl|rfl<;>exact fun m e=>nomatch e) v zs.length vs h1 ⟨g,0,none⟩ 1 [.bool sb,.slice A n c] rfl (fun j u hu=>by
   rw[b_d];match j,hu with
   |0,hu=>simp at hu;subst hu;exact hc0
   |1,hu=>simp at hu;subst hu;exact hc1) (fun u hu=>by
   simp at hu;rcases hu with rfl|rfl<;>rfl) (fun u hu=>by
   simp at hu;rcases hu with rfl|rfl<;>exact fun m e=>nomatch e) (by unfold maxLen;omega) (by omega) (by omega)
 refine wpList_plain hgd fun K hK'=>?_;unfold Oper.wp execOp;simp only[ho,resolve,invoke,builtin,Sem.run_bind,Sem.run_pure,Result.andThen_ok,List.map_toArray,List.map_cons,List.map_nil,hs,hx,hr];have keep:∀ {s':Bool} {A':Option Addr} {n' c':Nat} {y:Int},Zv w1 s' A' n' c' y->Zv w' s' A' n' c' y:=fun {s' A' n' c' y} hy=>by
  cases hvb:v.ownBlock with
  |none=>rw[hvb]at h6;exact hy.below ⟨h6.os,h6.tape,h6.output,h6.size,fun k hk=>h6.block k hk (by simp)⟩
  |some g=>rw[hvb]at h6;exact hy.gro (h1.wless hvb) h6
 have hvl:vs.length=zs.length*2:=h1.1.1;have hG:Grew w1 w' v v':=⟨h6,fun g hg=>h1.wless hg,h8⟩;refine hK' _ _ (h v' w' ⟨⟨_,by rw[List.length_append];exact h5,fun j hj=>?_⟩, ?_⟩ hG)
 ·rw[List.length_append,List.length_singleton]at hj;rcases Nat.lt_or_ge j zs.length with hlt|hge
  ·obtain⟨s',A',n',c',c1,c2,c3,c4⟩:=h3 j hlt;refine⟨s',A',n',c',by rw[List.getElem?_append_left (by omega)];exact c1,by rw[List.getElem?_append_left (by omega)];exact c2, ?_,c4⟩;rw[show ith (zs++[z]) j=ith zs j by simp[ith,List.getD,List.getElem?_append_left hlt]];exact keep c3
  ·obtain rfl:j=zs.length:=by omega
   refine⟨sb,A,n,c,by rw[List.getElem?_append_right (by omega),hvl,Nat.sub_self];rfl,by rw[List.getElem?_append_right (by omega),hvl,show zs.length*2+1 - zs.length*2=1 by omega];rfl, ?_,hn⟩;rw[show ith (zs++[z]) zs.length=z by simp[ith,List.getD]];exact keep hzz
 ·exact h4.grown h6 h4.size (fun k hk=>(h1.1.lt k hk).1)
end
section
open Go.RowKit
def IsOneV (b:Nat)(z:Int)(k:Nat):FVal:=fun v w=>∃g s A n c,v= .slice (some ⟨g,0,none⟩) 1 1/\Bx w g 30 [.bool s,.slice A n c]/\b<=g/\Zv w s A n c z/\n<=k
def kOneV (b:Nat)(z:Int)(k:Nat):FK:=.f (IsOneV b z k) (fun v w w' ⟨g,s,A,n,c,e,h1,h2,h3,h4⟩ hb=>⟨g,s,A,n,c,e,h1.below hb,h2,h3.below hb,h4⟩)
theorem Run.bsv {ops:Array Oper}{Q:Exit->Act->World->Prop}{m i:Nat}{a0:Act}{w0:World}{l:List FK}{b:Bool}{id:Nat}(s:Src){z:Int}{k b0:Nat}(hb0:b0<=w0.heap.size)(rest:R ops Q m a0 w0 b id (kOneV b0 z k::l) (i+1))
  (hx:s.K l i a0 (bsX (opAt ops i).op)=kV z k:=by rfl) (hc:okBs ops m i s=true:=by kernel_rfl) (hg:Gd l i (opAt ops i):=by first|exact trivial|exact rfl):R ops Q m a0 w0 b id l i:=by
 unfold okBs at hc;rw[Bool.and_eq_true]at hc;obtain⟨h1,h2⟩:=hc;refine Run.mem (x:=kOneV b0 z k) (fun a w h=>?_) rest (FK.fne _) h1 hg;split at h2
 ·rename_i T xs e;split at h2
  ·rename_i x ex;obtain⟨ys⟩:=xs;simp only at ex;subst ex;have e0:bsX (opAt ops i).op=x:=by rw[e];rfl
   rw[e0]at hx;rw[Bool.and_eq_true,beq_iff_eq]at h2;obtain⟨rfl,h2⟩:=h2
   have:=h.src h2;rw[hx]at this;obtain⟨s',A,n,c,ev,hz,hk⟩:=this;have B:=zba w (.cells #[.bool s',.slice A n c] 30);refine⟨_,_, ?_,⟨w.heap.size,s',A,n,c,rfl,Bx.new w _ _,Nat.le_trans hb0 h.below.size,hz.below B,hk⟩,B⟩;unfold execOp;rw[e];simp only[List.map_toArray,List.map_cons,List.map_nil,ev];simp[j_x]
  ·cases h2
 ·cases h2
theorem take_one' {l:List Int}{m:Nat}(h:m<l.length):l.take m++[ith l m]=l.take (m+1):=by
 rw[List.take_succ_eq_append_getElem h];simp[ith,List.getD,h]
section
variable {w0 w w':World}{k g:Nat}{v v' u:Value}{zs:List Int}{T:TypeId}{cs:List Value}
theorem Grew.bx (h:Grew w w' v v')(b:Bx w g T cs)(hne:v.ownBlock≠some g):Bx w' g T cs:=(h.by'.block g b.lt (Ne.symm hne)).trans b
theorem Grew.ne (h:Grew w w' v v')(hg:g<w.heap.size)(hne:v.ownBlock≠some g):v'.ownBlock≠some g:=by
 rcases h.to' with e|e
 ·rw[e];exact hne
 ·rw[e];intro e2;injection e2 with e2;omega
theorem OwnW.set (h:OwnW w0 w k v zs)(b:Bx w g T cs)(hw:∀v,v∈cs->∀m:Int,v≠ .int .u64 m)(hg:w0.heap.size<=g)(hne:v.ownBlock≠some g)(o:Nat):OwnW w0 (w.setCell ⟨g,o,none⟩ u) k v zs:=by
 have hgr:w.grownBy (w.setCell ⟨g,o,none⟩ u) (some g):=a_o (q:=⟨g,o,none⟩) (a_2 w (some g)) rfl _;have hno:=b.now hw;obtain⟨⟨vs,⟨h1,h2⟩,h3⟩,h4⟩:=h;refine⟨⟨vs,⟨h1.kept hgr (.inr hne),fun g' cs hg' hc=>h2 g' cs hg' ?_⟩,fun j hj=>?_⟩,h4.setCell hg _⟩
 ·rw[<-hgr.block g' (h1.lt g' hg').2 (by rw[<-hg'];exact hne)];exact hc
 ·obtain⟨s',A',n',c',c1,c2,c3,c4⟩:=h3 j hj;exact⟨s',A',n',c',c1,c2,c3.gro hno hgr,c4⟩
theorem OwnW.nil' (h:Below w0.heap.size w0 w)(k:Nat):OwnW w0 w k (.slice none 0 0) []:=⟨⟨[],⟨World.ownsRow_nil w _ _ _,fun g cs h=>nomatch h⟩,fun j hj=>by simp at hj⟩,h⟩
theorem OwnW.mt {r c n d:Nat}{A:Option Addr}{F:Nat->Nat->Int}(h:OwnW w0 w k (.slice A n d) (Go.Proofs.Ytlgjjnmmepgafaa.mk r c F))(hr:r<=64)(hc:c<=64):Mt false w r c A n d k F:=by
 obtain⟨A',c',e,hz⟩:=h.form;cases e;exact⟨hz,hr,hc⟩
end
def cnt (k a:Nat):Nat:=if a<=k then a else a - 1
theorem i_l (k:Nat):cnt k 0=0:=by unfold cnt;rw[if_pos (Nat.zero_le _)]
theorem i_n (k:Nat):cnt k (k+1)=cnt k k:=by unfold cnt;rw[if_neg (by omega),if_pos (Nat.le_refl _)];omega
theorem i_o {k a:Nat}(h:a≠k):cnt k (a+1)=cnt k a+1:=by unfold cnt;by_cases e:a<=k;rw[if_pos e,if_pos (by omega)];rw[if_neg e,if_neg (by omega)];omega
theorem l_a {k n:Nat}(h:k<n):cnt k n=n - 1:=by unfold cnt;rw[if_neg (by omega)]
theorem i_p {k a n:Nat}(hk:k<n)(ha:a<n)(h:a≠k):cnt k a<n - 1:=by unfold cnt;split<;>omega
theorem i_m {k a:Nat}(h:a≠k):DT.skip k (cnt k a)=a:=by unfold DT.skip cnt;by_cases e:a<=k;rw[if_pos e,if_pos (by omega)];rw[if_neg e,if_neg (by omega)];omega
theorem r_4 {q:Bool}{r c n d k i kk:Nat}{A:Option Addr}{F:Nat->Nat->Int}{w:World}(ha:Mt q w r c A n d k F)(hi:i<r)(hkk:kk<c):Calls Try.prog 35 #[.agg #[.int .i64 (r:Int),.int .i64 (c:Int),.slice A n d],.int .i64 (i:Int),.int .i64 (kk:Int)] w (RetK (kM false (r - 1) (c - 1) k (DT.minor2 F i kk)) w):=by
 have h3:=ha.hr;have h4:=ha.hc;obtain⟨L,hL⟩:∃L,mk (r - 1) (c - 1) (DT.minor2 F i kk)=L:=⟨_,rfl⟩;have hLl:L.length=(r - 1)*(c - 1):=by rw[<-hL,a_y]
 have hL2:(r - 1)*(c - 1)<=64*64:=Nat.mul_le_mul (by omega) (by omega);obtain⟨w1,hw1,b3,b6,z1,s1⟩:=boxes2 w 24 24 [.int .i64 (r:Int),.int .i64 (c:Int),.slice A n d] [.int .i64 0,.int .i64 0,.slice none 0 0];have HW:=Lib.hid hw1;have HZ:=Lib.hid z1;have hL_:=Lib.hid hL;clear hw1 z1 hL;go_enter Try.func35,Try.ntmps35
 go_upto_region 1 with fail
 rw[HW.out];obtain⟨w2,hw2,b7,z2,s2⟩:=boxes1 w1 24 [.int .i64 ((r:Int) - 1),.int .i64 ((c:Int) - 1),.slice none 0 0];rw[s1]at b7;have HW2:=Lib.hid hw2;have HM:=Lib.hid ha;obtain⟨i0,i1,i2,i3,i4,i5,i6⟩:=b3.m3;have H0:Hid (∃v,Bx w2 w.heap.size 24 [.int .i64 (r:Int),.int .i64 (c:Int),.slice A n d]/\Bx w2 (w.heap.size+1) 24 [.int .i64 0,.int .i64 0,.slice none 0 0]/\Bx w2 (w.heap.size+1+1) 24 [.int .i64 ((r:Int) - 1),.int .i64 ((c:Int) - 1),v]/\OwnW w w2 k v ((L).take (cnt i 0*(c - 1)))/\v.ownBlock≠some (w.heap.size+1+1)/\v.ownBlock≠some (w.heap.size+1)/\v.ownBlock≠some w.heap.size):=Lib.hid ⟨_,b3.below z2,b6.below z2,b7,by rw[i_l,Nat.zero_mul];exact OwnW.nil' (zup HZ.out z2) k,by simp[Value.ownBlock],by simp[Value.ownBlock],by simp[Value.ownBlock]⟩;have u3:-9223372036854775808<=(r:Int) - 1/\(r:Int) - 1<=9223372036854775807:=by omega
 have u4:-9223372036854775808<=(c:Int) - 1/\(c:Int) - 1<=9223372036854775807:=by omega
 have u5:=IntWalk.i64_in _ u3;have u6:=IntWalk.i64_in _ u4;clear hw2 b7 b6 b3 z2 s2 ha HZ;go_upto_region 2 with fail
 rw[HW2.out];clear i0 i1 i2 i3 i4 i5 i6 HW2 u3 u4 u5 u6 HW s1
 go_wp2_with fail
 go_loopw [8] (fun s8 wr=>∃a:Nat,s8= .int .i64 (a:Int)/\a<=r/\Hid (∃v,Bx wr w.heap.size 24 [.int .i64 (r:Int),.int .i64 (c:Int),.slice A n d]/\Bx wr (w.heap.size+1) 24 [.int .i64 0,.int .i64 0,.slice none 0 0]/\Bx wr (w.heap.size+1+1) 24 [.int .i64 ((r:Int) - 1),.int .i64 ((c:Int) - 1),v]/\OwnW w wr k v ((L).take (cnt i a*(c - 1)))/\v.ownBlock≠some (w.heap.size+1+1)/\v.ownBlock≠some (w.heap.size+1)/\v.ownBlock≠some w.heap.size)) (fun s8 _=>r - (intOf s8).toNat)
 case atStart=>exact⟨0,rfl,Nat.zero_le _,H0⟩
 case round=>
  obtain⟨a,rfl,har,HB⟩:=hrel;clear H0;obtain⟨v,b3,b6,b7,ho,n1,n2,n3⟩:=HB.out;obtain⟨i0,i1,i2,i3,i4,i5,i6⟩:=b3.m3;by_cases hlt:a<r
  ·have u2:(a:Int)<(r:Int):=by omega
   have HB1:Hid (∃v,Bx wr w.heap.size 24 [.int .i64 (r:Int),.int .i64 (c:Int),.slice A n d]/\Bx wr (w.heap.size+1) 24 [.int .i64 0,.int .i64 0,.slice none 0 0]/\Bx wr (w.heap.size+1+1) 24 [.int .i64 ((r:Int) - 1),.int .i64 ((c:Int) - 1),v]/\OwnW w wr k v ((L).take (cnt i a*(c - 1)+(if a=i then 0 else cnt kk 0)))/\v.ownBlock≠some (w.heap.size+1+1)/\v.ownBlock≠some (w.heap.size+1)/\v.ownBlock≠some w.heap.size):=by rw[show cnt i a*(c - 1)+(if a=i then 0 else cnt kk 0)=cnt i a*(c - 1) by rw[i_l];split<;>rfl];exact HB
   clear HB b3 b6 b7 ho n1 n2 n3
   go_wp2_with fail
   clear i0 i1 i2 i3 i4 i5 i6;go_loopw [9] (fun s9 wr=>∃e:Nat,s9= .int .i64 (e:Int)/\e<=c/\Hid (∃v,Bx wr w.heap.size 24 [.int .i64 (r:Int),.int .i64 (c:Int),.slice A n d]/\Bx wr (w.heap.size+1) 24 [.int .i64 0,.int .i64 0,.slice none 0 0]/\Bx wr (w.heap.size+1+1) 24 [.int .i64 ((r:Int) - 1),.int .i64 ((c:Int) - 1),v]/\OwnW w wr k v ((L).take (cnt i a*(c - 1)+(if a=i then 0 else cnt kk e)))/\v.ownBlock≠some (w.heap.size+1+1)/\v.ownBlock≠some (w.heap.size+1)/\v.ownBlock≠some w.heap.size)) (fun s9 _=>c - (intOf s9).toNat)
   case atStart=>exact⟨0,rfl,Nat.zero_le _,HB1⟩
   case round=>
    obtain⟨e,rfl,hec,HB⟩:=hrel;clear HB1;obtain⟨v,b3,b6,b7,ho,n1,n2,n3⟩:=HB.out;obtain⟨i0,i1,i2,i3,i4,i5,i6⟩:=b3.m3;by_cases hel:e<c
    ·have u7:(e:Int)<(c:Int):=by omega
     by_cases hai:a=i
     ·have u8:((a:Int)=(i:Int)):=by omega
      have u8':((a:Int) != (i:Int))=false:=by simpa using u8
      rw[if_pos hai]at ho;have HS:Hid (∃v,Bx wr w.heap.size 24 [.int .i64 (r:Int),.int .i64 (c:Int),.slice A n d]/\Bx wr (w.heap.size+1) 24 [.int .i64 0,.int .i64 0,.slice none 0 0]/\Bx wr (w.heap.size+1+1) 24 [.int .i64 ((r:Int) - 1),.int .i64 ((c:Int) - 1),v]/\OwnW w wr k v ((L).take (cnt i a*(c - 1)+(if a=i then 0 else cnt kk (e+1))))/\v.ownBlock≠some (w.heap.size+1+1)/\v.ownBlock≠some (w.heap.size+1)/\v.ownBlock≠some w.heap.size):=Lib.hid ⟨v,b3,b6,b7,by rw[if_pos hai];exact ho,n1,n2,n3⟩;clear HB b3 b6 b7 ho n1 n2 n3
      go_wp2_with fail
      go_roundw
      case rel=>exact⟨e+1,by go_num,by omega,HS⟩
      case measure=>first|(simp[intOf];done)|(simp[intOf];omega)
     ·have u8:¬((a:Int)=(i:Int)):=by omega
      have u8':((a:Int) != (i:Int))=true:=by simpa using u8
      rw[if_neg hai]at ho;by_cases hek:e=kk
      ·have u9:((e:Int)=(kk:Int)):=by omega
       have u9':((e:Int) != (kk:Int))=false:=by simpa using u9
       have HS:Hid (∃v,Bx wr w.heap.size 24 [.int .i64 (r:Int),.int .i64 (c:Int),.slice A n d]/\Bx wr (w.heap.size+1) 24 [.int .i64 0,.int .i64 0,.slice none 0 0]/\Bx wr (w.heap.size+1+1) 24 [.int .i64 ((r:Int) - 1),.int .i64 ((c:Int) - 1),v]/\OwnW w wr k v ((L).take (cnt i a*(c - 1)+(if a=i then 0 else cnt kk (e+1))))/\v.ownBlock≠some (w.heap.size+1+1)/\v.ownBlock≠some (w.heap.size+1)/\v.ownBlock≠some w.heap.size):=Lib.hid ⟨v,b3,b6,b7,by rw[hek]at ho;rw[if_neg hai,hek,i_n];exact ho,n1,n2,n3⟩;clear HB b3 b6 b7 ho n1 n2 n3
       go_wp2_with fail
       go_roundw
       case rel=>exact⟨e+1,by go_num,by omega,HS⟩
       case measure=>first|(simp[intOf];done)|(simp[intOf];omega)
      ·have u9:¬((e:Int)=(kk:Int)):=by omega
       have u9':((e:Int) != (kk:Int))=true:=by simpa using u9
       have B0:=ho.old;have hM:=HM.out.below B0;obtain⟨Av,cv,rfl,-⟩:=ho.form;obtain⟨nv,hnv⟩:∃nv,(List.take (cnt i a*(c - 1)+cnt kk e) L).length=nv:=⟨_,rfl⟩;rw[hnv]at b7 n1 n2 n3 ho;have hlen:((L.take (cnt i a*(c - 1)+cnt kk e))).length<=4096:=by rw[List.length_take];omega
       clear HB hnv;go_upto_region 9 with fail
       clear i0 i1 i2 i3 i4 i5 i6;refine Run.start 7 ?_;refine .fa .o (fM2 2) ?_;refine .ld (.i 0) (ldSl b7 2) ?_;refine .ld .o (ldM b3 0) ?_;refine .mv .o ?_;refine .mv .o ?_;refine .c3 (.i 2) (.i 3) (.i 4) (x:=kV (F a e) k) (by rintro u v x w4 hB rfl rfl rfl;exact l_6 (hM.below hB) hlt hel) ?_;refine .bsv (.i 5) (Nat.le_refl _) ?_;refine .done [some 37,some 38,some 39,some 40,some 41,some 42,some 43] ?_;intro w4 B4;rintro v42 -;rintro v ⟨g,s_,A_,n_,c_,rfl,bg,hge,hz,hk⟩;refine sh [_,_,_] ?_;simp only[Act.put,lS,lZ,lC];have hg0:=bg.cell 0;have hg1:=bg.cell 1;simp only[List.getElem?_cons_succ,List.getElem?_cons_zero]at hg0 hg1;have ho4:=ho.below B4;replace b3:=b3.below B4;replace b6:=b6.below B4;replace b7:=b7.below B4;clear B4 ho hM
       go_wp2_with (at_builtin;refine d_x w _ rfl _ _ 22 rfl Try.underlying22 info_zint k _ _ rfl ho4 hg0 hg1 hz hk rfl (by omega) ?_)
       intro v5 w5 ho5 hG;have b3':=hG.bx b3 n3;have b6':=hG.bx b6 n2;have b7':=hG.bx b7 n1;have n1':=hG.ne b7.lt n1;have n2':=hG.ne b6.lt n2;have n3':=hG.ne b3.lt n3;have hm:cnt i a*(c - 1)+cnt kk e<L.length:=by rw[hLl];exact f_y (i_p hi hlt hai) (i_p hkk hel hek)
       have hz5:F a e=ith L (cnt i a*(c - 1)+cnt kk e):=by
        rw[<-hL_.out,h_f (i_p hi hlt hai) (i_p hkk hel hek)];unfold DT.minor2;rw[i_m hai,i_m hek]
       rw[hz5,take_one' hm,Nat.add_assoc,<-i_o hek]at ho5;obtain⟨A5,c5,rfl,-⟩:=ho5.form;obtain⟨nl,hnl⟩:∃nl,(List.take (cnt i a*(c - 1)+cnt kk (e+1)) L).length=nl:=⟨_,rfl⟩;have i2:=b7'.cell 2;have i2':=b7'.free 2;simp only[List.getElem?_cons_succ,List.getElem?_cons_zero]at i2;have HS:Hid (∃v,Bx (w5.setCell ⟨w.heap.size+1+1,2,none⟩ (.slice A5 (List.take (cnt i a*(c - 1)+cnt kk (e+1)) L).length c5)) w.heap.size 24 [.int .i64 (r:Int),.int .i64 (c:Int),.slice A n d]/\Bx (w5.setCell ⟨w.heap.size+1+1,2,none⟩ (.slice A5 (List.take (cnt i a*(c - 1)+cnt kk (e+1)) L).length c5)) (w.heap.size+1) 24 [.int .i64 0,.int .i64 0,.slice none 0 0]/\Bx (w5.setCell ⟨w.heap.size+1+1,2,none⟩ (.slice A5 (List.take (cnt i a*(c - 1)+cnt kk (e+1)) L).length c5)) (w.heap.size+1+1) 24 [.int .i64 ((r:Int) - 1),.int .i64 ((c:Int) - 1),v]/\OwnW w (w5.setCell ⟨w.heap.size+1+1,2,none⟩ (.slice A5 (List.take (cnt i a*(c - 1)+cnt kk (e+1)) L).length c5)) k v ((L).take (cnt i a*(c - 1)+(if a=i then 0 else cnt kk (e+1))))/\v.ownBlock≠some (w.heap.size+1+1)/\v.ownBlock≠some (w.heap.size+1)/\v.ownBlock≠some w.heap.size):=Lib.hid ⟨_,b3'.off (by omega) _ _,b6'.off (by omega) _ _,b7'.set 2 _,by rw[if_neg hai];exact ho5.set b7' (by simp) (by omega) n1' 2,n1',n2',n3'⟩;rw[hnl]at HS;try rw[hnl]
       clear b3 b6 b7 b3' b6' b7' ho4 ho5 hG bg hge hz hk hg0 hg1 hz5 hnl
       go_wp2_with fail
       go_roundw
       case rel=>exact⟨e+1,by go_num,by omega,HS⟩
       case measure=>first|(simp[intOf];done)|(simp[intOf];omega)
    ·obtain rfl:e=c:=by omega
     have u7:¬(e:Int)<(e:Int):=by omega
     have HS:Hid (∃v,Bx wr w.heap.size 24 [.int .i64 (r:Int),.int .i64 (e:Int),.slice A n d]/\Bx wr (w.heap.size+1) 24 [.int .i64 0,.int .i64 0,.slice none 0 0]/\Bx wr (w.heap.size+1+1) 24 [.int .i64 ((r:Int) - 1),.int .i64 ((e:Int) - 1),v]/\OwnW w wr k v ((L).take (cnt i (a+1)*(e - 1)))/\v.ownBlock≠some (w.heap.size+1+1)/\v.ownBlock≠some (w.heap.size+1)/\v.ownBlock≠some w.heap.size):=Lib.hid ⟨v,b3,b6,b7,by
      by_cases hai:a=i
      ·rw[if_pos hai,Nat.add_zero]at ho;rw[hai]at ho ⊢;rw[i_n];exact ho
      ·rw[if_neg hai,l_a hkk,<-Nat.succ_mul]at ho;rw[i_o hai];exact ho,n1,n2,n3⟩
     clear HB b3 b6 b7 ho n1 n2 n3
     go_wp2_with fail
     go_roundw
     case rel=>exact⟨a+1,by go_num,by omega,HS⟩
     case measure=>first|(simp[intOf];done)|(simp[intOf];omega)
  ·obtain rfl:a=r:=by omega
   have u2:¬(a:Int)<(a:Int):=by omega
   rw[l_a hi,<-hLl,List.take_length,<-hL_.out]at ho;obtain⟨Av,cv,rfl,-⟩:=ho.form;have hlm:(mk (a - 1) (c - 1) (DT.minor2 F i kk)).length=(a - 1)*(c - 1):=a_y _ _ _;obtain⟨N,hN⟩:∃N,(mk (a - 1) (c - 1) (DT.minor2 F i kk)).length=N:=⟨_,rfl⟩;rw[hN]at ho b7;have hM:=ho.mt (by omega) (by omega);have P:=Lib.hid (retM hM b6 (by omega) ho.old);have er:((a - 1:Nat):Int)=(a:Int) - 1:=by omega
   have ec:((c - 1:Nat):Int)=(c:Int) - 1:=by omega
   rw[er,ec]at P;have j0:=b7.cell 0;have j1:=b7.cell 1;have j2:=b7.cell 2;obtain⟨k0,k1,k2,k3,k4,k5,k6⟩:=b6.m3;simp only[List.getElem?_cons_succ,List.getElem?_cons_zero]at j0 j1 j2;clear b3 b6 b7 hM HB ho n1 n2 n3 hlm er ec;unfold mput at P
   go_wp2_with fail
   exact bodyPost_ret (v:=.agg #[.int .i64 ((a:Int) - 1),.int .i64 ((c:Int) - 1),.slice Av N cv]) (by simp[results,Try.results35,go_sem,k0,k1,k2]) rfl P.out
end
section
open Go.RowKit
def dk (k:Nat):Nat->Nat
 |0=>1
 |r+1=>dk k r+k+66
theorem n_w (k:Nat):∀r,1<=dk k r
 |0=>Nat.le_refl _
 |r+1=>by have:=n_w k r;unfold dk;omega
theorem opRem2 {T U:TypeId}{X Y:Operand}(j:Nat)(hj:j<=1048576)(w:World):RunTwo Try.prog (.binOp .rem T X Y U) w (.int .i64 (j:Int)) (.int .i64 2) (.int .i64 ((j%2:Nat):Int)):=by
 have h1:(j:Int).tmod 2=((j%2:Nat):Int):=by
  rw[Int.tmod_eq_emod_of_nonneg (by omega)];omega
 have h2:IntKind.i64.wrap ((j%2:Nat):Int)=((j%2:Nat):Int):=IntWalk.i64_in _ (by omega);unfold RunTwo;simp[go_sem,h1,h2]
theorem i_7 (F:Nat->Nat->Int)(j:Nat):DT.minor2 F 0 j=DT.minor F j:=by
 funext a b
 unfold DT.minor2 DT.minor;rw[show DT.skip 0 a=a+1 by unfold DT.skip;rw[if_neg (by omega)]]
def dtm (r:Nat)(F:Nat->Nat->Int)(j:Nat):Int:=DT.sgn j*F 0 j*DT.det r (DT.minor F j)
theorem sgn_even:∀j,j%2=0->DT.sgn j=1/\DT.sgn (j+1)= -1
 |0,_=>⟨rfl,rfl⟩
 |1,h=>by omega
 |j+2,h=>by
  obtain⟨h1,h2⟩:=sgn_even j (by omega);have e1:DT.sgn (j+2)= - DT.sgn (j+1):=by first|rfl|simp[DT.sgn]
  have e2:DT.sgn (j+2+1)= - DT.sgn (j+2):=by first|rfl|simp[DT.sgn]
  exact⟨by rw[e1,h2];rfl,by rw[e2,e1,h2];rfl⟩
theorem o_f (j:Nat)(h:j%2=1):DT.sgn j= -1:=by
 obtain⟨i,rfl⟩:∃i,j=i+1:=⟨j - 1,by omega⟩;exact(sgn_even i (by omega)).2
theorem l_4 {q:Bool}{n d k:Nat}{A:Option Addr}{F:Nat->Nat->Int}{w:World}(ha:Mt q w 0 0 A n d k F):Calls Try.prog 13 #[.agg #[.int .i64 0,.int .i64 0,.slice A n d]] w (RetK (kC 1 1) w):=by
 obtain⟨w1,hw1,b1,b2,z1,s1⟩:=boxes2 w 24 30 [.int .i64 0,.int .i64 0,.slice A n d] [.bool false,.slice none 0 0];have HW:=Lib.hid hw1;have HZ:=Lib.hid z1;clear hw1 z1 s1;go_enter Try.func13,Try.ntmps13
 go_upto_region 1 with fail
 rw[HW.out];refine Run.start 3 ?_;refine .fa .o (fM0 0) ?_;refine .ld (.i 0) (ldInt b1 0) ?_;refine .two (.i 1) .o (opEq (by decide:decide ((0:Int)=0)=true)) ?_;refine .donep [some 6,some 7,some 8] ?_;intro w2 B2;refine sh [] ?_;simp only[Act.put,lS,lZ,lC];replace b2:=b2.below B2;have HZ2:=Lib.hid (zup HZ.out B2);clear B2 HZ;go_upto_region 2 with fail
 refine Run.start 1 ?_;refine .c1 .o (x:=kC 1 1) (by rintro u w3 hB rfl;exact i_v (by omega) (by omega) w3) ?_;refine .donep [some 9] ?_;intro w3 B3;rintro v ⟨s_,A_,n_,c_,rfl,hz,hk⟩;refine sh [_] ?_;simp only[Act.put,lS,lZ,lC];have I:=Ib.entry (b2.below B3);have P:=Lib.hid (retC hz I (k:=1) (by omega) (by omega) (zup HZ2.out B3));obtain⟨i1,i2,i3,i4,i5⟩:=I;clear hz
 go_wp2_with fail
 exact bodyPost_ret (v:=.agg #[.bool s_,.slice A_ n_ c_]) (by simp[results,Try.results13,go_sem,i1,i2]) rfl P.out
theorem l_5 {q:Bool}{R r n d k:Nat}{A:Option Addr}{F:Nat->Nat->Int}{w:World}(hR:R=r+1)(ha:Mt q w R R A n d k F)(hK:dk k (r+1)<=549755813888)(ih:∀(q':Bool) (n' d':Nat) (A':Option Addr) (G:Nat->Nat->Int) (w':World),Mt q' w' r r A' n' d' k G->Calls Try.prog 13 #[.agg #[.int .i64 (r:Int),.int .i64 (r:Int),.slice A' n' d']] w' (RetK (kC (DT.det r G) (dk k r)) w')):
  Calls Try.prog 13 #[.agg #[.int .i64 (R:Int),.int .i64 (R:Int),.slice A n d]] w (RetK (kC (DT.det (r+1) F) (dk k (r+1))) w):=by
 have hR1:R<=r+1:=Nat.le_of_eq hR;have hR2:r+1<=R:=Nat.le_of_eq hR.symm;clear hR;have h3:=ha.hr;have hd:=n_w k r;have hK2:dk k r+k+66<=549755813888:=hK;obtain⟨w1,hw1,b1,b2,z1,s1⟩:=boxes2 w 24 30 [.int .i64 (R:Int),.int .i64 (R:Int),.slice A n d] [.bool false,.slice none 0 0];have HW:=Lib.hid hw1;have HZ:=Lib.hid z1;clear hw1 z1;go_enter Try.func13,Try.ntmps13
 go_upto_region 1 with fail
 rw[HW.out];refine Run.start 3 ?_;refine .fa .o (fM0 0) ?_;refine .ld (.i 0) (ldInt b1 0) ?_;refine .two (.i 1) .o (opEq (decide_eq_false (by omega:¬((R:Int)=0)))) ?_;refine .donep [some 6,some 7,some 8] ?_;intro w2 B2;refine sh [] ?_;simp only[Act.put,lS,lZ,lC];have B0:=zup HZ.out B2;replace b1:=b1.below B2;replace b2:=b2.below B2;have hl1:=b1.lt;have hl2:=b2.lt;clear B2 HZ;go_upto_region 3 with fail
 refine Run.start 2 ?_;refine .c1 .o (x:=kC 0 1) (by rintro u w3 hB rfl;exact i_v (by omega) (by omega) w3) ?_;refine .al ?_;refine .donep [some 10,some 3] ?_;intro w3 B3;rintro v ⟨s_,A_,n_,c_,rfl,hz,hk⟩;rintro g3 hg3 hl3 hc3 -;refine sh [_] ?_;simp only[Act.put,lS,lZ,lC];have b3:=zeroZ (T:=0) hc3;have hs3:=B0.size;replace B0:=zup B0 B3;replace b1:=b1.below B3;replace b2:=b2.below B3;clear hc3 B3;obtain⟨w4,hw4⟩:∃x,zput w3 g3 s_ A_ n_ c_=x:=⟨_,rfl⟩;obtain⟨f1_,f2_,f3_,f4_,f5_⟩:=Ib.entry b3;replace b1:=b1.zo (g:=g3) (s:=s_) (A:=A_) (n:=n_) (c:=c_) (by omega);rw[hw4]at b1;replace b2:=b2.zo (g:=g3) (s:=s_) (A:=A_) (n:=n_) (c:=c_) (by omega);rw[hw4]at b2;replace hz:=hz.zp (s':=s_) (A':=A_) (n':=n_) (c':=c_) b3;rw[hw4]at hz;replace B0:=a_e (g:=g3) (s:=s_) (A:=A_) (n:=n_) (c:=c_) B0 (by omega);rw[hw4]at B0;replace b3:=b3.zp (s:=s_) (A:=A_) (n:=n_) (c:=c_);rw[hw4]at b3;have Hw4:=Lib.hid hw4;unfold zput at Hw4;clear hw4;go_upto_region 4 with fail
 rw[Hw4.out];clear f1_ f2_ f3_ f4_ f5_ Hw4;have H0:Hid (Below w.heap.size w w4/\Bx w4 w.heap.size 24 [.int .i64 (R:Int),.int .i64 (R:Int),.slice A n d]/\Bx w4 (w.heap.size+1) 30 [.bool false,.slice none 0 0]/\∃s A n c,Bx w4 g3 30 [.bool s,.slice A n c]/\Zc w4 s A n c (DT.sumN (0) (dtm r F))/\n<=k+dk k r+(0)):=Lib.hid ⟨B0,b1,b2,s_,A_,n_,c_,b3,hz,by omega⟩;have hsz4:=B0.size;have hg3':w.heap.size+1<g3:=by omega
 have HM:=Lib.hid ha;have HI:=Lib.hid ih;clear b1 b2 b3 hz hk B0 ha ih hsz4 hs3 hg3 hl3
 go_wp2_with fail
 go_loopw [4] (fun s4 wr=>∃j:Nat,s4= .int .i64 (j:Int)/\j<=r+1/\Hid (Below w.heap.size w wr/\Bx wr w.heap.size 24 [.int .i64 (R:Int),.int .i64 (R:Int),.slice A n d]/\Bx wr (w.heap.size+1) 30 [.bool false,.slice none 0 0]/\∃s A n c,Bx wr g3 30 [.bool s,.slice A n c]/\Zc wr s A n c (DT.sumN (j) (dtm r F))/\n<=k+dk k r+(j))) (fun s4 _=>r+1 - (intOf s4).toNat)
 case atStart=>exact⟨0,rfl,Nat.zero_le _,H0⟩
 case round=>
  obtain⟨j,rfl,hj,HB⟩:=hrel;clear H0;obtain⟨B0,b1,b2,s1_,A1,n1,c1,b3,hz1,hk1⟩:=HB.out;obtain⟨i0,i1,i2,i3,i4,i5,i6⟩:=b1.m3;by_cases hlt:j<r+1
  ·have u2:(j:Int)<(R:Int):=by omega
   clear HB;go_upto_region 7 with fail
   clear i0 i1 i2 i3 i4 i5 i6;refine Run.start 9 ?_;refine .ld .o (ldM b1 0) ?_;refine .mv .o ?_;refine .c3 (.i 0) .o (.i 1) (x:=kV (F 0 j) k) (by rintro u v x w5 hB rfl rfl rfl;exact l_6 (i:=0) (HM.out.below (zup B0 hB)) (by omega) (show j<R by omega)) ?_;refine .ld .o (ldM b1 0) ?_;refine .mv .o ?_;refine .c3 (.i 3) .o (.i 4) (x:=kM false r r k (DT.minor F j)) (by rintro u v x w5 hB rfl rfl rfl;rw[<-i_7];have hh:=r_4 (i:=0) (HM.out.below (zup B0 hB)) (by omega) (show j<R by omega);rw[show R - 1=r by omega]at hh;exact hh) ?_;refine .c1 (.i 5) (x:=kC (DT.det r (DT.minor F j)) (dk k r)) (by rintro u w5 hB ⟨A',n',d',rfl,hM⟩;exact HI.out _ _ _ _ _ _ hM) ?_;refine .c2 (.i 2) (.i 6) (x:=kC (F 0 j*DT.det r (DT.minor F j)) (k+dk k r)) (by rintro u v w5 hB hu hv;exact f_0 hu hv.v (by omega) (by omega) (Nat.le_refl _)) ?_;refine .al ?_;refine .done [some 17,some 18,some 19,some 20,some 21,some 22,some 23,some 24,some 5] ?_;intro w5 B5;rintro v19 -;rintro v22 -;rintro v23 -;rintro v ⟨s2,A2,n2,c2,rfl,hz2,hk2⟩;rintro g5 hg5 hl5 hc5 -;refine sh [_] ?_;simp only[Act.put,lS,lZ,lC];have b5:=zeroZ (T:=0) hc5;have hs5:=B0.size;have hl3:=b3.lt;replace B0:=zup B0 B5;replace b1:=b1.below B5;replace b2:=b2.below B5;replace b3:=b3.below B5;replace hz1:=hz1.below B5;clear hc5 B5;obtain⟨w6,hw6⟩:∃x,zput w5 g5 s2 A2 n2 c2=x:=⟨_,rfl⟩;obtain⟨f1_,f2_,f3_,f4_,f5_⟩:=Ib.entry b5;replace b1:=b1.zo (g:=g5) (s:=s2) (A:=A2) (n:=n2) (c:=c2) (by omega);rw[hw6]at b1;replace b2:=b2.zo (g:=g5) (s:=s2) (A:=A2) (n:=n2) (c:=c2) (by omega);rw[hw6]at b2;replace b3:=b3.zo (g:=g5) (s:=s2) (A:=A2) (n:=n2) (c:=c2) (by omega);rw[hw6]at b3;replace hz1:=hz1.zp (s':=s2) (A':=A2) (n':=n2) (c':=c2) b5;rw[hw6]at hz1;replace hz2:=hz2.zp (s':=s2) (A':=A2) (n':=n2) (c':=c2) b5;rw[hw6]at hz2;replace B0:=a_e (g:=g5) (s:=s2) (A:=A2) (n:=n2) (c:=c2) B0 (by omega);rw[hw6]at B0;replace b5:=b5.zp (s:=s2) (A:=A2) (n:=n2) (c:=c2);rw[hw6]at b5;have Hw6:=Lib.hid hw6;unfold zput at Hw6;clear hw6;go_upto_region 8 with fail
   rw[Hw6.out];clear f1_ f2_ f3_ f4_ f5_ Hw6;obtain⟨t,ht⟩:∃t,decide (((j%2:Nat):Int)=1)=t:=⟨_,rfl⟩;have HT:=Lib.hid ht;clear ht;cases t
   ·refine Run.start 3 ?_;refine .mv .o ?_;refine .two (.i 0) .o (opRem2 j (by omega)) ?_;refine .two (.i 1) .o (opEq HT.out) ?_;refine .donep [some 25,some 26,some 27] ?_;intro w7 B7;refine sh [] ?_;simp only[Act.put,lS,lZ,lC];replace B0:=zup B0 B7;replace b1:=b1.below B7;replace b2:=b2.below B7;replace b3:=b3.below B7;replace b5:=b5.below B7;replace hz1:=hz1.below B7;replace hz2:=hz2.below B7;have he:j%2=0:=by have:=of_decide_eq_false HT.out;omega
    have HE:Hid (DT.sumN (j+1) (dtm r F)=DT.sumN j (dtm r F)+F 0 j*DT.det r (DT.minor F j)):=Lib.hid (by
     show DT.sumN j (dtm r F)+dtm r F j=_
     unfold dtm;rw[(sgn_even j he).1,Int.one_mul])
    clear B7;go_upto_region 10 with fail
    refine Run.start 3 ?_;refine .ld .o (ldZ b3 0) ?_;refine .ld .o (ldZ b5 0) ?_;refine .c2 (.i 0) (.i 1) (x:=kC (DT.sumN (j+1) (dtm r F)) (k+dk k r+(j+1))) (by rintro u v w10 hB rfl rfl;rw[show DT.sumN (j+1) (dtm r F)=DT.sumN j (dtm r F)+F 0 j*DT.det r (DT.minor F j)from HE.out];exact j_k ⟨_,_,_,_,rfl,(hz1.below hB).zv,hk1⟩ ⟨_,_,_,_,rfl,(hz2.below hB).zv,hk2⟩ (by omega) (by omega) (by omega)) ?_;refine .donep [some 30,some 31,some 32] ?_;intro w8 B8;rintro v ⟨s3,A3,n3,c3,rfl,hz3,hk3⟩;refine sh [_] ?_;simp only[Act.put,lS,lZ,lC];replace B0:=zup B0 B8;replace b1:=b1.below B8;replace b2:=b2.below B8;replace b3:=b3.below B8;have hg3w:=B0.size;clear B8 b5 hz2 hz1;obtain⟨f1_,f2_,f3_,f4_,f5_⟩:=Ib.entry b3;have HS:Hid (Below w.heap.size w ((w8.setCell ⟨g3,0,none⟩ (.bool s3)).setCell ⟨g3,1,none⟩ (.slice A3 n3 c3))/\Bx ((w8.setCell ⟨g3,0,none⟩ (.bool s3)).setCell ⟨g3,1,none⟩ (.slice A3 n3 c3)) w.heap.size 24 [.int .i64 (R:Int),.int .i64 (R:Int),.slice A n d]/\Bx ((w8.setCell ⟨g3,0,none⟩ (.bool s3)).setCell ⟨g3,1,none⟩ (.slice A3 n3 c3)) (w.heap.size+1) 30 [.bool false,.slice none 0 0]/\∃s A n c,Bx ((w8.setCell ⟨g3,0,none⟩ (.bool s3)).setCell ⟨g3,1,none⟩ (.slice A3 n3 c3)) g3 30 [.bool s,.slice A n c]/\Zc ((w8.setCell ⟨g3,0,none⟩ (.bool s3)).setCell ⟨g3,1,none⟩ (.slice A3 n3 c3)) s A n c (DT.sumN (j+1) (dtm r F))/\n<=k+dk k r+(j+1)):=Lib.hid ⟨a_e B0 (by omega),b1.zo (by omega),b2.zo (by omega),s3,A3,n3,c3,b3.zp,hz3.zp b3,hk3⟩;clear b1 b2 b3 hz3 B0
    go_wp2_with fail
    go_roundw
    case rel=>exact⟨j+1,by go_num,by omega,HS⟩
    case measure=>first|(simp[intOf];done)|(simp[intOf];omega)
   ·refine Run.start 3 ?_;refine .mv .o ?_;refine .two (.i 0) .o (opRem2 j (by omega)) ?_;refine .two (.i 1) .o (opEq HT.out) ?_;refine .donep [some 25,some 26,some 27] ?_;intro w7 B7;refine sh [] ?_;simp only[Act.put,lS,lZ,lC];replace B0:=zup B0 B7;replace b1:=b1.below B7;replace b2:=b2.below B7;replace b3:=b3.below B7;replace b5:=b5.below B7;replace hz1:=hz1.below B7;replace hz2:=hz2.below B7;have he:j%2=1:=by have:=of_decide_eq_true HT.out;omega
    have HE:Hid (DT.sumN (j+1) (dtm r F)=DT.sumN j (dtm r F)+ -(F 0 j*DT.det r (DT.minor F j))):=Lib.hid (by
     show DT.sumN j (dtm r F)+dtm r F j=_
     unfold dtm;rw[o_f j he,Int.neg_mul,Int.one_mul,Int.neg_mul])
    clear B7;go_upto_region 9 with fail
    refine Run.start 2 ?_;refine .ld .o (ldZ b5 0) ?_;refine .c1 (.i 0) (x:=kC (-(F 0 j*DT.det r (DT.minor F j))) (k+dk k r)) (by rintro u w8 hB rfl;exact(q_n ⟨_,_,_,_,rfl,(hz2.below hB).zv,Nat.le_refl _⟩ (by omega)).mono fun e w' h=>h.mono fun v w2 ⟨s,A,n,c,e,h1,h2⟩=>⟨s,A,n,c,e,h1,by omega⟩) ?_;refine .donep [some 28,some 29] ?_;intro w8 B8;rintro v ⟨s4,A4,n4,c4,rfl,hz4,hk4⟩;refine sh [_] ?_;simp only[Act.put,lS,lZ,lC];have hs8:=B0.size;replace B0:=zup B0 B8;replace b1:=b1.below B8;replace b2:=b2.below B8;have hl3b:=b3.lt;replace b3:=b3.below B8;replace b5:=b5.below B8;replace hz1:=hz1.below B8;clear B8 hz2;obtain⟨w9,hw9⟩:∃x,zput w8 g5 s4 A4 n4 c4=x:=⟨_,rfl⟩;obtain⟨f1_,f2_,f3_,f4_,f5_⟩:=Ib.entry b5;replace b1:=b1.zo (g:=g5) (s:=s4) (A:=A4) (n:=n4) (c:=c4) (by omega);rw[hw9]at b1;replace b2:=b2.zo (g:=g5) (s:=s4) (A:=A4) (n:=n4) (c:=c4) (by omega);rw[hw9]at b2;replace b3:=b3.zo (g:=g5) (s:=s4) (A:=A4) (n:=n4) (c:=c4) (by omega);rw[hw9]at b3;replace hz1:=hz1.zp (s':=s4) (A':=A4) (n':=n4) (c':=c4) b5;rw[hw9]at hz1;replace hz4:=hz4.zp (s':=s4) (A':=A4) (n':=n4) (c':=c4) b5;rw[hw9]at hz4;replace B0:=a_e (g:=g5) (s:=s4) (A:=A4) (n:=n4) (c:=c4) B0 (by omega);rw[hw9]at B0;replace b5:=b5.zp (s:=s4) (A:=A4) (n:=n4) (c:=c4);rw[hw9]at b5;have Hw9:=Lib.hid hw9;unfold zput at Hw9;clear hw9;go_upto_region 10 with fail
    rw[Hw9.out];clear f1_ f2_ f3_ f4_ f5_ Hw9;refine Run.start 3 ?_;refine .ld .o (ldZ b3 0) ?_;refine .ld .o (ldZ b5 0) ?_;refine .c2 (.i 0) (.i 1) (x:=kC (DT.sumN (j+1) (dtm r F)) (k+dk k r+(j+1))) (by rintro u v w10 hB rfl rfl;rw[show DT.sumN (j+1) (dtm r F)=DT.sumN j (dtm r F)+ -(F 0 j*DT.det r (DT.minor F j))from HE.out];exact j_k ⟨_,_,_,_,rfl,(hz1.below hB).zv,hk1⟩ ⟨_,_,_,_,rfl,(hz4.below hB).zv,hk4⟩ (by omega) (by omega) (by omega)) ?_;refine .donep [some 30,some 31,some 32] ?_;intro w10 B10;rintro v ⟨s3,A3,n3,c3,rfl,hz3,hk3⟩;refine sh [_] ?_;simp only[Act.put,lS,lZ,lC];replace B0:=zup B0 B10;replace b1:=b1.below B10;replace b2:=b2.below B10;replace b3:=b3.below B10;have hg3w:=B0.size;clear B10 b5 hz4 hz1;obtain⟨f1_,f2_,f3_,f4_,f5_⟩:=Ib.entry b3;have HS:Hid (Below w.heap.size w ((w10.setCell ⟨g3,0,none⟩ (.bool s3)).setCell ⟨g3,1,none⟩ (.slice A3 n3 c3))/\Bx ((w10.setCell ⟨g3,0,none⟩ (.bool s3)).setCell ⟨g3,1,none⟩ (.slice A3 n3 c3)) w.heap.size 24 [.int .i64 (R:Int),.int .i64 (R:Int),.slice A n d]/\Bx ((w10.setCell ⟨g3,0,none⟩ (.bool s3)).setCell ⟨g3,1,none⟩ (.slice A3 n3 c3)) (w.heap.size+1) 30 [.bool false,.slice none 0 0]/\∃s A n c,Bx ((w10.setCell ⟨g3,0,none⟩ (.bool s3)).setCell ⟨g3,1,none⟩ (.slice A3 n3 c3)) g3 30 [.bool s,.slice A n c]/\Zc ((w10.setCell ⟨g3,0,none⟩ (.bool s3)).setCell ⟨g3,1,none⟩ (.slice A3 n3 c3)) s A n c (DT.sumN (j+1) (dtm r F))/\n<=k+dk k r+(j+1)):=Lib.hid ⟨a_e B0 (by omega),b1.zo (by omega),b2.zo (by omega),s3,A3,n3,c3,b3.zp,hz3.zp b3,hk3⟩;clear b1 b2 b3 hz3 B0
    go_wp2_with fail
    go_roundw
    case rel=>exact⟨j+1,by go_num,by omega,HS⟩
    case measure=>first|(simp[intOf];done)|(simp[intOf];omega)
  ·obtain rfl:j=r+1:=by omega
   have u2:¬(R:Int)<(R:Int):=by omega
   have I:=Ib.entry b2;have hz':Zc wr s1_ A1 n1 c1 (DT.det (r+1) F):=hz1;have P:=Lib.hid (retC hz' I (k:=dk k (r+1)) (by unfold dk;omega) (by omega) B0);obtain⟨f1_,f2_,f3_,f4_,f5_⟩:=Ib.entry b3;obtain⟨k1,k2,k3,k4,k5⟩:=I;clear HB b1 b2 b3 hz1 hz' B0
   go_wp2_with fail
   exact bodyPost_ret (v:=.agg #[.bool s1_,.slice A1 n1 c1]) (by simp[results,Try.results13,go_sem,k1,k2]) rfl P.out
theorem rdt_q:∀ {q:Bool} {r n d k:Nat} {A:Option Addr} {F:Nat->Nat->Int} {w:World},Mt q w r r A n d k F->dk k r<=549755813888->Calls Try.prog 13 #[.agg #[.int .i64 (r:Int),.int .i64 (r:Int),.slice A n d]] w (RetK (kC (DT.det r F) (dk k r)) w)
 |q,0,n,d,k,A,F,w,ha,hK=>l_4 ha
 |q,r+1,n,d,k,A,F,w,ha,hK=>l_5 rfl ha hK fun _ _ _ _ _ _ h=>rdt_q h (by unfold dk at hK;omega)
end
end Go.Proofs.Ytlgjjnmmepgafaa
