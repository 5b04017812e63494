/- Pb17 -/
import Derived.Test.YtlgjjnmmepgafaaPb16
import Derived.Deep.AppendLies
set_option linter.unusedVariables false
set_option linter.unusedSimpArgs false
set_option linter.unusedSectionVars false
set_option maxRecDepth 100000
set_option maxHeartbeats 8000000
namespace Go.Proofs.Ytlgjjnmmepgafaa
open Go.RowKit
def OwnI (w:World)(base:Nat)(e:TypeId)(v:Value)(n:Nat)(xs:List Value):Prop:=
 w.ownsRow base e 1 v n xs/\∀g cs,v.ownBlock=some g->w.heap[g]? =some (.cells cs e (0,0))->∀u,u∈cs.toList->NWd u
theorem OwnI.wless {w:World}{base g:Nat}{e:TypeId}{v:Value}{n:Nat}{xs:List Value}(h:OwnI w base e v n xs)(hg:v.ownBlock=some g):Wless w g:=fun p m hp hc=>by
 rcases h.1.2 with⟨rfl,_⟩|⟨g',cap,cur,rfl,hb,hh,_⟩
 ·cases hg
 ·have e':g'=g:=by simpa [Value.ownBlock] using hg
  subst e';have e2:cur[p.off]? =some (.int .u64 m):=by
   unfold World.cell? at hc;rw[hp,hh]at hc;exact(by simpa using hc:p.spot=none/\cur[p.off]? =some (.int .u64 m)).2
  exact h.2 g' cur hg hh (.int .u64 m) (by rw[<-Array.getElem?_toList]at e2;exact List.mem_of_getElem? e2) m rfl
theorem j_i {z:Array Value}(hs:z.size=1)(hz:∀u,u∈z.toList->NWd u)(k:Nat)(u:Value)(hu:u∈(Builtin.zeroCells z k).toList):NWd u:=by
 unfold Builtin.zeroCells at hu;rw[Array.toList_map,List.mem_map]at hu;obtain⟨i,hi,rfl⟩:=hu;have hlt:i%z.size<z.size:=Nat.mod_lt _ (by omega);rw[getElem!_pos z _ hlt];exact hz _ (Array.getElem_mem_toList hlt)
section
variable {P:Program}(w:World)
theorem d_z (base:Nat)(t ty e:TypeId)(i:TypeInfo)(z:Value)(bytes:Nat)(ht:P.underlying t=some (.slice e))(hi:P.info? e=some i)(hz:i.zero=some z)
  (hsize:i.size=1) (hby:i.bytes=bytes) (hzs:z.cells.size=1) (hzn:∀u,u∈z.cells.toList->NWd u)
  (v:Value) (n:Nat) (xs:List Value) (hown:OwnI w base e v n xs)
  (a:Addr) (c:Nat) (news:List Value) (hl:news.length=1) (hnews:∀j u,news[j]? =some u->w.cell? (a.add j)=some u) (h1:∀u∈news,u.oneCell'=true) (hn:∀u,u∈news->NWd u)
  (h63:n+1<=maxLen) (hbytes:(n+1)*bytes<=140737488355328) (hbase:base<=w.heap.size):
  ∃v' w',(Builtin.append_ #[t,t] ty #[v,.slice (some a) 1 c]).run P w= .ok v' w'/\OwnI w' base e v' (n+1) (xs++news)/\w.grownBy w' v.ownBlock/\(v'.ownBlock=v.ownBlock\/v'.ownBlock=some w.heap.size):=by
 obtain⟨v',w',hr,ho,hg,-⟩:=run_append_own (P:=P) w base t ty e i z 1 bytes ht hi hz hsize hby hzs (by omega) v n xs hown.1 a 1 c news (by omega) hnews h1 h63 hbytes hbase;suffices H:(∀g cs,v'.ownBlock=some g->w'.heap[g]? =some (.cells cs e (0,0))->∀u,u∈cs.toList->NWd u)/\(v'.ownBlock=v.ownBlock\/v'.ownBlock=some w.heap.size)from⟨v',w',hr,⟨ho,H.1⟩,hg,H.2⟩
 have hsmall:n+1<=9223372036854775807:=by simp only[maxLen]at h63;omega
 have zz:=j_i hzs hzn;have fresh:∀(ys:List Value) (k:Nat) (cap:Nat),(∀u,u∈ys->NWd u)->v'= .slice (some ⟨w.heap.size,0,none⟩) (n+1) cap->w'=w.drew.alloc (.cells (ys.toArray++news.toArray++Builtin.zeroCells z.cells k) e)->
   ∀g cs,v'.ownBlock=some g->w'.heap[g]? =some (.cells cs e (0,0))->∀u,u∈cs.toList->NWd u:=fun ys k cap hys e1 e2 g cs h2 h3 u hu=>by
  subst e1 e2;have e3:w.heap.size=g:=by simpa [Value.ownBlock] using h2
  subst e3;have h9:(w.drew.alloc (.cells (ys.toArray++news.toArray++Builtin.zeroCells z.cells k) e)).heap[w.heap.size]? =some (.cells (ys.toArray++news.toArray++Builtin.zeroCells z.cells k) e (0,0)):=heap_alloc_new w.drew _;rw[h9]at h3;injection h3 with e4
  injection e4 with e5
  subst e5;simp only[Array.toList_append,List.mem_append]at hu;rcases hu with(hu|hu)|hu
  ·exact hys u hu
  ·exact hn u hu
  ·exact zz k u hu
 rcases hown.1.2 with⟨rfl,rfl⟩|⟨g,cap,cur,rfl,hbg,hh,hnc,hcm,hcs,htake⟩
 ·have hr2:=Go.run_append_nil (P:=P) w t ty e i z ht hi hz a 1 c news (by omega) hnews (by omega) (by omega) (by simp only[Nat.zero_add]at hbytes;omega);rw[hr]at hr2;injection hr2 with e1 e2
  exact⟨fresh [] (grownCap w 1 0 e - 1) (grownCap w 1 0 e) (fun u hu=>nomatch hu) e1 (by rw[e2];simp),.inr (by rw[e1];rfl)⟩
 ·have hcur:∀u,u∈cur.toList->NWd u:=hown.2 g cur rfl hh;have hxs:∀u,u∈xs->NWd u:=fun u hu=>hcur u (by rw[<-htake]at hu;exact List.mem_of_mem_take hu);by_cases hroom:n+1<=cap
  ·have hfit:n*i.size+news.length<=cur.size:=by rw[hl,hcs,hsize];omega
   have hr2:=run_append_room (P:=P) w t ty e i ht hi g n cap cur hh a 1 c news (by omega) hnews h1 hroom hfit;rw[hr]at hr2;injection hr2 with e1 e2
   refine⟨?_,.inl (by rw[e1];rfl)⟩;intro g' cs h2 h3 u hu;subst e1 e2;have e3:g=g':=by simpa [Value.ownBlock] using h2
   subst e3;rw[setRow_heap w g cur _ e _ hh]at h3;injection h3 with e4
   injection e4 with e5
   subst e5;simp only[List.mem_append]at hu;rcases hu with(hu|hu)|hu
   ·exact hcur u (List.mem_of_mem_take hu)
   ·exact hn u hu
   ·exact hcur u (List.mem_of_mem_drop hu)
  ·have holds:∀j u,xs[j]? =some u->w.cell? ((⟨g,0,none⟩:Addr).add j)=some u:=hown.1.cells (g:=g) rfl;have hr2:=run_append_grow (P:=P) w t ty e i z ht hi hz ⟨g,0,none⟩ n cap xs (by rw[hown.1.1,hsize]) holds a 1 c news (by omega) hnews (by omega) (by omega) (growslice_fits (by omega) (by rw[hby];exact hbytes));rw[hr]at hr2;injection hr2 with e1 e2
   exact⟨fresh xs _ _ hxs e1 e2,.inr (by rw[e1];rfl)⟩
end
theorem OwnI.lt {w:World}{base:Nat}{e:TypeId}{v:Value}{n:Nat}{xs:List Value}(h:OwnI w base e v n xs){g:Nat}(hg:v.ownBlock=some g):base<=g/\g<w.heap.size:=h.1.lt g hg
theorem OwnI.kept {w w':World}{base b:Nat}{e:TypeId}{v:Value}{n:Nat}{xs:List Value}(h:OwnI w base e v n xs)(hg:w.grownBy w' (some b))(hne:v.ownBlock≠some b):OwnI w' base e v n xs:=by
 refine⟨h.1.kept hg (.inr hne),fun g cs hv hc=>h.2 g cs hv ?_⟩;rw[<-hg.block g (h.lt hv).2 (by rw[<-hv];exact hne)];exact hc
theorem OwnI.below {w w':World}{base:Nat}{e:TypeId}{v:Value}{n:Nat}{xs:List Value}(h:OwnI w base e v n xs)(hb:Below w.heap.size w w'):OwnI w' base e v n xs:=by
 refine⟨h.1.kept (row:=none) ⟨hb.os,hb.tape,hb.output,hb.size,fun k hk _=>hb.block k hk⟩ (by cases hv:v.ownBlock<;>simp),fun g cs hv hc=>h.2 g cs hv ?_⟩;rw[<-hb.block g (h.lt hv).2];exact hc
theorem OwnI.nil (w:World)(base:Nat)(e:TypeId):OwnI w base e (.slice none 0 0) 0 []:=⟨World.ownsRow_nil w _ _ _,fun g cs h=>nomatch h⟩
theorem OwnI.form {w:World}{base:Nat}{e:TypeId}{v:Value}{n:Nat}{xs:List Value}(h:OwnI w base e v n xs):∃A c,v= .slice A n c/\n<=c/\c<=9223372036854775807/\(0<n->∃g,A=some ⟨g,0,none⟩/\g<w.heap.size/\∀j u,xs[j]? =some u->w.cell? ⟨g,j,none⟩=some u):=by
 rcases h.1.2 with⟨rfl,rfl⟩|⟨g,cap,cur,rfl,hb,hh,hn,hm,hcs,ht⟩
 ·exact⟨none,0,rfl,Nat.le_refl _,by omega,fun h=>by omega⟩
 ·refine⟨_,cap,rfl,hn,by unfold maxLen at hm;omega,fun h0=>⟨g,rfl,(Array.getElem?_eq_some_iff.1 hh).1,fun j u hu=>?_⟩⟩
  have:=h.1.cells (g:=g) rfl j u hu;rwa [b_d]at this
theorem wpList_apq {P:Program}{w:World}{ops:Array Oper}{rest:List Oper}{o:Oper}{a:Act}{Q:Exit->Act->World->Prop}(hgd:o.guard=none)(s x:Operand)(t:TypeId)
  (ho:o.op= .call { callee:=.builtin .append,args:=#[s,x],argTypes:=#[t,t] }) (base:Nat) (e:TypeId) (bytes:Nat) (zv:Value)
  (ht:P.underlying t=some (.slice e)) (hinfo:(P.info? e).map (fun i=>(i.zero,i.size,i.bytes))=some (some zv,1,bytes)) (hzs:zv.cells.size=1) (hzn:∀u,u∈zv.cells.toList->NWd u) (hby:bytes<=64)
  (v:Value) (n:Nat) (xs:List Value) (hs:a.eval s=v) (hown:OwnI w base e v n xs) {g:Nat} {T:TypeId} {u:Value} (hone:Bx w g T [u]) (h1:u.oneCell'=true) (hnw:NWd u)
  (hx:a.eval x= .slice (some ⟨g,0,none⟩) 1 1) (hlen:n<=1099511627776) (hbase:base<=w.heap.size)
  (h:∀v' w',OwnI w' base e v' (n+1) (xs++[u])->Grew w w' v v'->wpList P ops Q rest (a.put o.dst v') w'):wpList P ops Q (o::rest) a w:=by
 obtain⟨i,hi,hz0,hz1,hz2⟩:=info_parts hinfo;obtain⟨v',w',hr,h2,h3,h4⟩:=d_z (P:=P) w base t o.type e i zv bytes ht hi hz0 hz1 hz2 hzs hzn v n xs hown ⟨g,0,none⟩ 1 [u] rfl (fun j y hy=>by
  rw[b_d];match j,hy with
  |0,hy=>simp at hy;subst hy;exact hone.cell 0) (by simpa using h1) (by simpa using hnw) (by unfold maxLen;omega) (by have:(n+1)*bytes<=(1099511627776+1)*64:=Nat.mul_le_mul (by omega) hby;omega) hbase
 refine wpList_plain hgd fun K' hK'=>?_;unfold Oper.wp execOp;simp only[ho,resolve,invoke,builtin,Sem.run_bind,Sem.run_pure,Result.andThen_ok,List.map_toArray,List.map_cons,List.map_nil,hs,hx,hr];exact hK' _ _ (h v' w' h2 ⟨h3,fun g hg=>by
  intro p m hp hc;rcases hown.1.2 with⟨rfl,_⟩|⟨g',cap,cur,rfl,hb,hh,_⟩
  ·cases hg
  ·have e':g'=g:=by simpa [Value.ownBlock] using hg
   subst e';have e2:cur[p.off]? =some (.int .u64 m):=by
    unfold World.cell? at hc;rw[hp,hh]at hc;exact(by simpa using hc:p.spot=none/\cur[p.off]? =some (.int .u64 m)).2
   exact hown.2 g' cur hg hh (.int .u64 m) (by rw[<-Array.getElem?_toList]at e2;exact List.mem_of_getElem? e2) m rfl,h4⟩)
theorem l_p {P:Program}{w:World}{ops:Array Oper}{o:Oper}{a:Act}{K:Act->World->Prop}{Q:Exit->Act->World->Prop}{E:Prop}(hgd:o.guard=none)(s x:Operand)(t:TypeId)
  (ho:o.op= .call { callee:=.builtin .append,args:=#[s,x],argTypes:=#[t,t] }) (base:Nat) (e:TypeId) (i:TypeInfo) (bytes:Nat) (zv:Value)
  (ht:P.underlying t=some (.slice e)) (hi:P.info? e=some i) (hz0:i.zero=some zv) (hz1:i.size=1) (hz2:i.bytes=bytes) (hzs:zv.cells.size=1) (hzn:∀u,u∈zv.cells.toList->NWd u) (hby:bytes<=64)
  (v:Value) (n:Nat) (xs:List Value) (hs:a.eval s=v) (hown:OwnI w base e v n xs) (ad:Addr) {u:Value} (hone:w.cell? ad=some u) (h1:u.oneCell'=true) (hnw:NWd u)
  (hx:a.eval x= .slice (some ad) 1 1) (hlen:n<=1099511627776) (hbase:base<=w.heap.size)
  (h:∀g c w',OwnI w' base e (.slice (some ⟨g,0,none⟩) (n+1) c) (n+1) (xs++[u])->w.grownBy w' v.ownBlock->(v.ownBlock=some g\/g=w.heap.size)->K (a.put o.dst (.slice (some ⟨g,0,none⟩) (n+1) c)) w'):
  if Region.wanted o (yielded ops a.tmps)=true then Oper.wp P o a w K Q else E:=by
 have hw:Region.wanted o (yielded ops a.tmps)=true:=by simp[Region.wanted,hgd]
 rw[if_pos hw];obtain⟨v',w',hr,h2,h3,h4⟩:=d_z (P:=P) w base t o.type e i zv bytes ht hi hz0 hz1 hz2 hzs hzn v n xs hown ad 1 [u] rfl (fun j y hy=>by
  match j,hy with
  |0,hy=>simp at hy;subst hy;rw[a_u];exact hone) (by simpa using h1) (by simpa using hnw) (by unfold maxLen;omega) (by have:(n+1)*bytes<=(1099511627776+1)*64:=Nat.mul_le_mul (by omega) hby;omega) hbase
 obtain⟨g,c,rfl,-,-⟩:=h2.1.form (by omega);unfold Oper.wp execOp;simp only[ho,resolve,invoke,builtin,Sem.run_bind,Sem.run_pure,Result.andThen_ok,List.map_toArray,List.map_cons,List.map_nil,hs,hx,hr];exact h g c w' h2 h3 (by
  rcases h4 with h4|h4
  ·exact .inl (by rw[<-h4];rfl)
  ·exact .inr (by simpa [Value.ownBlock] using h4))
end Go.Proofs.Ytlgjjnmmepgafaa
