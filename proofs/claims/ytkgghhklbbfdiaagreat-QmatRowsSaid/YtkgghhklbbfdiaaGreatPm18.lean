/- Pm18 -/
import Derived.Test.YtkgghhklbbfdiaaGreatPm17
import Derived.Test.YtkgghhklbbfdiaaGreatRows
import Derived.Lib.SmallJoins
import Derived.ChangeSlices
import Derived.Deep.Slices
import Derived.Deep.Fields
import Derived.Deep.Matrix
import Derived.Laws.AppendOwn
set_option linter.unusedVariables false
set_option linter.unusedSimpArgs false
set_option linter.unusedSectionVars false
set_option maxRecDepth 100000
set_option maxHeartbeats 8000000
namespace Go.Proofs.YtkgghhklbbfdiaaGreat
section
open Go.Joins Go.ChangeShapes Go.WideShapes Go.RowKit Go.Deep
section
variable {H:Type}{enc:TypeId × Value→H}{P:Program}{W:World}{base:Nat}{held:Bool}
theorem v_x {t e:TypeId}{f0 f1 g0 g1:Field}{q:TypeId}{A:Option Addr}{n c:Nat}{d:DataW H}{ps:List MemPlace}(ht:P.underlying t=some (.slice e))(he:P.underlying e=some (.struct #[f0,f1]))(hC:P.cellsOf e=4)(ho:f0.offset=0∧f1.offset=2∧P.cellsOf f0.type=2∧P.cellsOf f1.type=2)
  (ht0:P.underlying f0.type=some (.struct #[g0,g1])) (ht1:P.underlying f1.type=some (.struct #[g0,g1])) (hone:oneCellFields P #[g0,g1]=true)
  (hb:P.underlying g0.type=some .bool) (hs:P.underlying g1.type=some (.slice q)) (hq:P.underlying q=some (.int .u64)) (hc:P.cellsOf q=1)
  (h:DataW.Trod enc P W base (fun _=>true) held t (.slice A n c) d ps) (hlt:∀x∈ps,x.block<W.heap.size):
  ∃R:List Qr,RQ W A n c R:=by
 obtain⟨fuel,hf⟩:=h;rcases open_slice ht hf with⟨hcs,hx⟩|⟨a,len,cap,m,n',D,Pl,hcs,hb0,hl,hm,hmm,hx,hi⟩
 ·simp[Value.cells]at hcs;obtain⟨rfl,rfl,rfl⟩:=hcs;exact⟨[],rfl,Nat.le_refl _,by omega,fun h=>by omega,fun x hx=>(by cases hx)⟩
 ·simp[Value.cells]at hcs;obtain⟨rfl,rfl,rfl⟩:=hcs;simp only[if_true]at hmm;subst hmm;rw[hC]at hi hx;have each:∀i,i<m→∃y:Qr,(W.cell? (a.add (i*4))=some (.bool y.s)∧W.cell? ⟨(a.add (i*4)).block,(a.add (i*4)).off+1,none⟩=some (.slice y.A y.n y.c)∧W.cell? ⟨(a.add (i*4)).block,(a.add (i*4)).off+2,none⟩=some (.bool y.t)∧W.cell? ⟨(a.add (i*4)).block,(a.add (i*4)).off+3,none⟩=some (.slice y.B y.m y.d))∧Qv W y.s y.A y.n y.c y.t y.B y.m y.d y.q:=by
   intro i him;obtain⟨cs',h1,h2⟩:=hi i him;obtain⟨_,h3,h4⟩:=World.cells?_some h1;match cs',h3 with
   | [v0,v1,v2,v3],_=>
    obtain⟨y0,y1,m',_,_,h5,h6⟩:=trod_struct2 he h2;obtain⟨o0,o1,k0,k1⟩:=ho;rw[o0,k0]at h5;rw[o1,k1]at h6;simp only[Value.cells,List.drop_zero,List.take_succ_cons,List.take_zero,List.drop_succ_cons]at h5 h6;obtain⟨s,A1,n1,c1,zs,rfl,rfl,w0⟩:=h_n ht0 hone hb hs hq hc h5;obtain⟨t1,B1,m1,d1,zs',rfl,rfl,w1⟩:=h_n ht1 hone hb hs hq hc h6;have e0:W.cell? (a.add (i*4))=some (.bool s):=by have:=h4 0 (by omega);simpa [Addr.add] using this
    have e1:W.cell? ⟨(a.add (i*4)).block,(a.add (i*4)).off+1,none⟩=some (.slice A1 n1 c1):=by have:=h4 1 (by omega);simpa [Addr.add] using this
    have e2:W.cell? ⟨(a.add (i*4)).block,(a.add (i*4)).off+2,none⟩=some (.bool t1):=by have:=h4 2 (by omega);simpa [Addr.add] using this
    have e3:W.cell? ⟨(a.add (i*4)).block,(a.add (i*4)).off+3,none⟩=some (.slice B1 m1 d1):=by have:=h4 3 (by omega);simpa [Addr.add] using this
    obtain⟨v,hv⟩:=w0.nv;obtain⟨u,hu⟩:=w1.nv;exact⟨⟨s,A1,n1,c1,t1,B1,m1,d1,Rat.divInt (sg s v) (sg t1 u)⟩,⟨e0,e1,e2,e3⟩,Qv.mk ⟨v,hv,Lib.hid rfl⟩ ⟨u,hu,Lib.hid rfl⟩⟩
  haveI:Inhabited Qr:=⟨nqr⟩
  obtain⟨y,hy⟩:=choose_lt each;have hg:∀j,j<n→((List.range n).map y).getD j nqr=y j:=fun j hj=>by simp[List.getD,hj]
  refine⟨(List.range n).map y,by simp,(by first|omega|(simp only[maxLen]at*;omega)),(by first|omega|(simp only[maxLen]at*;omega)),fun h0=>⟨a,rfl, ?_,fun j hj=>?_⟩,fun x hx=>?_⟩
  ·have h1:=(hy 0 (by omega)).1.1
   have:=World.block_lt_of_cell? W _ h1;rwa [a_b]at this
  ·rw[hg j hj];exact(hy j (by omega)).1
  ·obtain⟨j,hj,rfl⟩:=List.mem_map.1 hx;exact(hy j (by have:=List.mem_range.1 hj;omega)).2
theorem d_w {r:Reach}{b0:Nat}{t e:TypeId}{f0 f1 f2 h0 h1 g0 g1:Field}{q:TypeId}{v:Value}{d:DataW H}{ps:List MemPlace}(ht:P.underlying t=some (.struct #[f0,f1,f2]))(hone:oneCellFields P #[f0,f1,f2]=true)(hC:P.cellsOf t=3)
  (hi0:P.underlying f0.type=some (.int .i64)) (hi1:P.underlying f1.type=some (.int .i64)) (hi2:P.underlying f2.type=some (.slice e)) (he:P.underlying e=some (.struct #[h0,h1])) (hC2:P.cellsOf e=4) (ho:h0.offset=0∧h1.offset=2∧P.cellsOf h0.type=2∧P.cellsOf h1.type=2)
  (ht0:P.underlying h0.type=some (.struct #[g0,g1])) (ht1:P.underlying h1.type=some (.struct #[g0,g1])) (hone2:oneCellFields P #[g0,g1]=true)
  (hb:P.underlying g0.type=some .bool) (hs:P.underlying g1.type=some (.slice q)) (hq:P.underlying q=some (.int .u64)) (hc:P.cellsOf q=1)
  (hv:Value.okWide P W r b0 t v) (h:DataW.Trod enc P W base (fun _=>true) held t v d ps) (hlt:∀x∈ps,x.block<W.heap.size):
  ∃(x y:Int) (A:Option Addr) (n c:Nat) (R:List Qr),v= .agg #[.int .i64 x,.int .i64 y,.slice A n c]∧RQ W A n c R:=by
 obtain⟨v0,v1,v2,y0,y1,y2,m,rfl,_,hp,k0,k1,k2⟩:=open_agg3 ht hone hC hv h;obtain⟨x,hx,_,_⟩:=DataW.trod_int hi0 k0;obtain⟨y,hy,_,_⟩:=DataW.trod_int hi1 k1;have hl2:∀x∈y2.2,x.block<W.heap.size:=fun x hx=>hlt x (by rw[hp];simp[hx]);have hsl:∃A n c,v2= .slice A n c:=by
  rcases open_slice hi2 k2 with⟨hcs,_⟩|⟨a,len,cap,m,n',D,Pl,hcs,_⟩
  ·exact⟨none,0,0,by simpa using hcs⟩
  ·exact⟨some a,len,cap,by simpa using hcs⟩
 obtain⟨A,n,c,rfl⟩:=hsl;obtain⟨R,hR⟩:=v_x (d:=y2.1) (ps:=y2.2) hi2 he hC2 ho ht0 ht1 hone2 hb hs hq hc ⟨m,by simpa [Value.cells] using k2⟩ hl2;simp at hx hy;subst hx hy;exact⟨x,y,A,n,c,R,rfl,hR⟩
end
end
section
open Go.RowKit
def NWd (u:Value):Prop:=∀m:Int,u≠ .int .u64 m
def OwnN (w:World)(base:Nat)(e:TypeId)(v:Value)(n:Nat)(xs:List Value):Prop:=
 w.ownsRow base e 2 v n xs∧∀g cs,v.ownBlock=some g→w.heap[g]? =some (.cells cs e (0,0))→∀u,u∈cs.toList→NWd u
theorem OwnN.wless {w:World}{base g:Nat}{e:TypeId}{v:Value}{n:Nat}{xs:List Value}(h:OwnN w base e v n xs)(hg:v.ownBlock=some g):Wless w g:=fun p m hp hc=>by
 rcases h.1.2 with⟨rfl,_⟩|⟨g',cap,cur,rfl,hb,hh,_⟩
 ·cases hg
 ·have e':g'=g:=by simpa [Value.ownBlock] using hg
  subst e';have e2:cur[p.off]? =some (.int .u64 m):=by
   unfold World.cell? at hc;rw[hp,hh]at hc;exact(by simpa using hc:p.spot=none∧cur[p.off]? =some (.int .u64 m)).2
  exact h.2 g' cur hg hh (.int .u64 m) (by rw[←Array.getElem?_toList]at e2;exact List.mem_of_getElem? e2) m rfl
theorem q_8 {z:Array Value}(hs:z.size=2)(hz:∀u,u∈z.toList→NWd u)(k:Nat)(u:Value)(hu:u∈(Builtin.zeroCells z k).toList):NWd u:=by
 unfold Builtin.zeroCells at hu;rw[Array.toList_map,List.mem_map]at hu;obtain⟨i,hi,rfl⟩:=hu;have hlt:i%z.size<z.size:=Nat.mod_lt _ (by omega);rw[getElem!_pos z _ hlt];exact hz _ (Array.getElem_mem_toList hlt)
section
variable {P:Program}(w:World)
theorem j_y (base:Nat)(t ty e:TypeId)(i:TypeInfo)(z:Value)(bytes:Nat)(ht:P.underlying t=some (.slice e))(hi:P.info? e=some i)(hz:i.zero=some z)
  (hsize:i.size=2) (hby:i.bytes=bytes) (hzs:z.cells.size=2) (hzn:∀u,u∈z.cells.toList→NWd u)
  (v:Value) (n:Nat) (xs:List Value) (hown:OwnN w base e v n xs)
  (a:Addr) (c:Nat) (news:List Value) (hl:news.length=2) (hnews:∀j u,news[j]? =some u→w.cell? (a.add j)=some u) (h1:∀u∈news,u.oneCell'=true) (hn:∀u,u∈news→NWd u)
  (h63:n+1≤maxLen) (hbytes:(n+1)*bytes≤140737488355328) (hbase:base≤w.heap.size):
  ∃v' w',(Builtin.append_ #[t,t] ty #[v,.slice (some a) 1 c]).run P w= .ok v' w'∧OwnN w' base e v' (n+1) (xs++news)∧w.grownBy w' v.ownBlock∧(v'.ownBlock=v.ownBlock∨v'.ownBlock=some w.heap.size):=by
 obtain⟨v',w',hr,ho,hg,-⟩:=run_append_own (P:=P) w base t ty e i z 2 bytes ht hi hz hsize hby hzs (by omega) v n xs hown.1 a 1 c news (by omega) hnews h1 h63 hbytes hbase;suffices H:(∀g cs,v'.ownBlock=some g→w'.heap[g]? =some (.cells cs e (0,0))→∀u,u∈cs.toList→NWd u)∧(v'.ownBlock=v.ownBlock∨v'.ownBlock=some w.heap.size)from⟨v',w',hr,⟨ho,H.1⟩,hg,H.2⟩
 have hsmall:n+1≤9223372036854775807:=by simp only[maxLen]at h63;omega
 have zz:=q_8 hzs hzn;have fresh:∀(ys:List Value) (k:Nat) (cap:Nat),(∀u,u∈ys→NWd u)→v'= .slice (some ⟨w.heap.size,0,none⟩) (n+1) cap→w'=w.drew.alloc (.cells (ys.toArray++news.toArray++Builtin.zeroCells z.cells k) e)→
   ∀g cs,v'.ownBlock=some g→w'.heap[g]? =some (.cells cs e (0,0))→∀u,u∈cs.toList→NWd u:=fun ys k cap hys e1 e2 g cs h2 h3 u hu=>by
  subst e1 e2;have e3:w.heap.size=g:=by simpa [Value.ownBlock] using h2
  subst e3;have h9:(w.drew.alloc (.cells (ys.toArray++news.toArray++Builtin.zeroCells z.cells k) e)).heap[w.heap.size]? =some (.cells (ys.toArray++news.toArray++Builtin.zeroCells z.cells k) e (0,0)):=heap_alloc_new w.drew _;rw[h9]at h3;injection h3 with e4
  injection e4 with e5
  subst e5;simp only[Array.toList_append,List.mem_append]at hu;rcases hu with(hu|hu)|hu
  ·exact hys u hu
  ·exact hn u hu
  ·exact zz k u hu
 rcases hown.1.2 with⟨rfl,rfl⟩|⟨g,cap,cur,rfl,hbg,hh,hnc,hcm,hcs,htake⟩
 ·have hr2:=Go.run_append_nil (P:=P) w t ty e i z ht hi hz a 1 c news (by omega) hnews (by omega) (by omega) (by simp only[Nat.zero_add]at hbytes;omega);rw[hr]at hr2;injection hr2 with e1 e2
  exact⟨fresh [] (grownCap w 1 0 e - 1) (grownCap w 1 0 e) (fun u hu=>nomatch hu) e1 (by rw[e2];simp),.inr (by rw[e1];rfl)⟩
 ·have hcur:∀u,u∈cur.toList→NWd u:=hown.2 g cur rfl hh;have hxs:∀u,u∈xs→NWd u:=fun u hu=>hcur u (by rw[←htake]at hu;exact List.mem_of_mem_take hu);by_cases hroom:n+1≤cap
  ·have hfit:n*i.size+news.length≤cur.size:=by rw[hl,hcs,hsize];omega
   have hr2:=run_append_room (P:=P) w t ty e i ht hi g n cap cur hh a 1 c news (by omega) hnews h1 hroom hfit;rw[hr]at hr2;injection hr2 with e1 e2
   refine⟨?_,.inl (by rw[e1];rfl)⟩;intro g' cs h2 h3 u hu;subst e1 e2;have e3:g=g':=by simpa [Value.ownBlock] using h2
   subst e3;rw[setRow_heap w g cur _ e _ hh]at h3;injection h3 with e4
   injection e4 with e5
   subst e5;simp only[List.mem_append]at hu;rcases hu with(hu|hu)|hu
   ·exact hcur u (List.mem_of_mem_take hu)
   ·exact hn u hu
   ·exact hcur u (List.mem_of_mem_drop hu)
  ·have holds:∀j u,xs[j]? =some u→w.cell? ((⟨g,0,none⟩:Addr).add j)=some u:=hown.1.cells (g:=g) rfl;have hr2:=run_append_grow (P:=P) w t ty e i z ht hi hz ⟨g,0,none⟩ n cap xs (by rw[hown.1.1,hsize]) holds a 1 c news (by omega) hnews (by omega) (by omega) (growslice_fits (by omega) (by rw[hby];exact hbytes));rw[hr]at hr2;injection hr2 with e1 e2
   exact⟨fresh xs _ _ hxs e1 e2,.inr (by rw[e1];rfl)⟩
end
structure OwnZ (w0 w:World) (k:Nat) (v:Value) (zs:List Int):Prop where
 row:∃vs:List Value,OwnN w w0.heap.size 44 v zs.length vs∧∀j,j<zs.length→∃s A n c,vs[j*2]? =some (.bool s)∧vs[j*2+1]? =some (.slice A n c)∧Zc w s A n c (ith zs j)∧n≤k
 old:Below w0.heap.size w0 w
theorem OwnZ.form {w0 w:World}{k:Nat}{v:Value}{zs:List Int}(h:OwnZ w0 w k v zs):∃A c,v= .slice A zs.length c∧∀q,ZL q w A zs.length c k zs:=by
 obtain⟨⟨vs,⟨h1,h2⟩,h3⟩,h4⟩:=h;rcases h1.2 with⟨rfl,e⟩|⟨g,cap,cur,rfl,hb,hh,hn,hm,hcs,ht⟩
 ·rw[List.length_eq_zero_iff.1 e];exact⟨none,0,rfl,fun q=>ZL.nil _ _ _⟩
 ·refine⟨_,cap,rfl,fun q=>⟨rfl,hn,by unfold maxLen at hm;omega,fun h0=>⟨_,rfl,(Array.getElem?_eq_some_iff.1 hh).1,fun j hj=>?_⟩⟩⟩;obtain⟨s,A,n,c,c1,c2,c3,c4⟩:=h3 j hj;have hc:=h1.cells (g:=g) rfl;refine⟨s,A,n,c,hc _ _ c1, ?_,.of c3,c4⟩
  have:=hc _ _ c2;rw[a_8]at this;rw[a_8];exact this
structure Grew (w w':World) (v v':Value):Prop where
 by':w.grownBy w' v.ownBlock
 now:∀g,v.ownBlock=some g→Wless w g
 to':v'.ownBlock=v.ownBlock∨v'.ownBlock=some w.heap.size
theorem Grew.zc {w w':World}{v v':Value}(h:Grew w w' v v'){s:Bool}{A:Option Addr}{n c:Nat}{y:Int}(hy:Zc w s A n c y):Zc w' s A n c y:=by
 have h6:=h.by';cases hvb:v.ownBlock with
 |none=>rw[hvb]at h6;exact hy.below ⟨h6.os,h6.tape,h6.output,h6.size,fun k hk=>h6.block k hk (by simp)⟩
 |some g=>rw[hvb]at h6;exact hy.gro (h.now g hvb) h6
def Dj (u v:Value):Prop:=u.ownBlock=none∨u.ownBlock≠v.ownBlock
theorem Dj.symm {u v:Value}(h:Dj u v):Dj v u:=by
 unfold Dj at *;cases hv:v.ownBlock with
 |none=>exact .inl rfl
 |some g=>
  right;rw[hv]at h;rcases h with h|h
  ·rw[h];simp
  ·exact Ne.symm h
theorem k_w {P:Program}(w0 w1:World){ops:Array Oper}{rest:List Oper}{o:Oper}{a:Act}{Q:Exit→Act→World→Prop}(hgd:o.guard=none)(s x:Operand)(t:TypeId)
  (ho:o.op= .call { callee:=.builtin .append,args:=#[s,x],argTypes:=#[t,t] })
  (ht:P.underlying t=some (.slice 44)) (hinfo:(P.info? 44).map (fun i=>(i.zero,i.size,i.bytes))=some (some (.agg #[.bool false,.slice none 0 0]),2,32))
  (k:Nat) (v:Value) (zs:List Int) (hs:a.eval s=v) (hown:OwnZ w0 w1 k v zs) {sb:Bool} {A:Option Addr} {n c g:Nat} {z:Int} (hc0:w1.cell? ⟨g,0,none⟩=some (.bool sb)) (hc1:w1.cell? ⟨g,1,none⟩=some (.slice A n c)) (hz:Zc w1 sb A n c z) (hn:n≤k)
  (hx:a.eval x= .slice (some ⟨g,0,none⟩) 1 1) (hlen:zs.length≤1099511627776)
  (h:∀v' w',OwnZ w0 w' k v' (zs++[z])→Grew w1 w' v v'→wpList P ops Q rest (a.put o.dst v') w'):
  wpList P ops Q (o::rest) a w1:=by
 obtain⟨i,hi,hz0,hz1,hz2⟩:=info_parts hinfo;have hsz:=hown.old.size;have hzz:=hz;obtain⟨⟨vs,h1,h3⟩,h4⟩:=hown;obtain⟨v',w',hr,h5,h6,h8⟩:=j_y (P:=P) w1 w0.heap.size t o.type 44 i (.agg #[.bool false,.slice none 0 0]) 32 ht hi hz0 hz1 hz2 rfl (fun u hu=>by
   simp[Value.cells]at hu;rcases hu with rfl|rfl<;>exact fun m e=>nomatch e) v zs.length vs h1 ⟨g,0,none⟩ 1 [.bool sb,.slice A n c] rfl (fun j u hu=>by
   rw[a_8];match j,hu with
   |0,hu=>simp at hu;subst hu;exact hc0
   |1,hu=>simp at hu;subst hu;exact hc1) (fun u hu=>by
   simp at hu;rcases hu with rfl|rfl<;>rfl) (fun u hu=>by
   simp at hu;rcases hu with rfl|rfl<;>exact fun m e=>nomatch e) (by unfold maxLen;omega) (by omega) (by omega)
 refine wpList_plain hgd fun K hK'=>?_;unfold Oper.wp execOp;simp only[ho,resolve,invoke,builtin,Sem.run_bind,Sem.run_pure,Result.andThen_ok,List.map_toArray,List.map_cons,List.map_nil,hs,hx,hr];have keep:∀ {s':Bool} {A':Option Addr} {n' c':Nat} {y:Int},Zc w1 s' A' n' c' y→Zc w' s' A' n' c' y:=fun {s' A' n' c' y} hy=>by
  cases hvb:v.ownBlock with
  |none=>rw[hvb]at h6;exact hy.below ⟨h6.os,h6.tape,h6.output,h6.size,fun k hk=>h6.block k hk (by simp)⟩
  |some g=>rw[hvb]at h6;exact hy.gro (h1.wless hvb) h6
 have hvl:vs.length=zs.length*2:=h1.1.1;have hG:Grew w1 w' v v':=⟨h6,fun g hg=>h1.wless hg,h8⟩;refine hK' _ _ (h v' w' ⟨⟨_,by rw[List.length_append];exact h5,fun j hj=>?_⟩, ?_⟩ hG)
 ·rw[List.length_append,List.length_singleton]at hj;rcases Nat.lt_or_ge j zs.length with hlt|hge
  ·obtain⟨s',A',n',c',c1,c2,c3,c4⟩:=h3 j hlt;refine⟨s',A',n',c',by rw[List.getElem?_append_left (by omega)];exact c1,by rw[List.getElem?_append_left (by omega)];exact c2, ?_,c4⟩;rw[show ith (zs++[z]) j=ith zs j by simp[ith,List.getD,List.getElem?_append_left hlt]];exact keep c3
  ·obtain rfl:j=zs.length:=by omega
   refine⟨sb,A,n,c,by rw[List.getElem?_append_right (by omega),hvl,Nat.sub_self];rfl,by rw[List.getElem?_append_right (by omega),hvl,show zs.length*2+1 - zs.length*2=1 by omega];rfl, ?_,hn⟩;rw[show ith (zs++[z]) zs.length=z by simp[ith,List.getD]];exact keep hzz
 ·exact h4.grown h6 h4.size (fun k hk=>(h1.1.lt k hk).1)
end
section
open Go.RowKit
def OwnK (ck:Nat)(w:World)(base:Nat)(e:TypeId)(v:Value)(n:Nat)(xs:List Value):Prop:=
 w.ownsRow base e ck v n xs∧∀g cs,v.ownBlock=some g→w.heap[g]? =some (.cells cs e (0,0))→∀u,u∈cs.toList→NWd u
theorem OwnK.wless {ck:Nat}{w:World}{base g:Nat}{e:TypeId}{v:Value}{n:Nat}{xs:List Value}(h:OwnK ck w base e v n xs)(hg:v.ownBlock=some g):Wless w g:=fun p m hp hc=>by
 rcases h.1.2 with⟨rfl,_⟩|⟨g',cap,cur,rfl,hb,hh,_⟩
 ·cases hg
 ·have e':g'=g:=by simpa [Value.ownBlock] using hg
  subst e';have e2:cur[p.off]? =some (.int .u64 m):=by
   unfold World.cell? at hc;rw[hp,hh]at hc;exact(by simpa using hc:p.spot=none∧cur[p.off]? =some (.int .u64 m)).2
  exact h.2 g' cur hg hh (.int .u64 m) (by rw[←Array.getElem?_toList]at e2;exact List.mem_of_getElem? e2) m rfl
theorem o_o {z:Array Value}{ck:Nat}(h0:0<ck)(hs:z.size=ck)(hz:∀u,u∈z.toList→NWd u)(k:Nat)(u:Value)(hu:u∈(Builtin.zeroCells z k).toList):NWd u:=by
 unfold Builtin.zeroCells at hu;rw[Array.toList_map,List.mem_map]at hu;obtain⟨i,hi,rfl⟩:=hu;have hlt:i%z.size<z.size:=Nat.mod_lt _ (by omega);rw[getElem!_pos z _ hlt];exact hz _ (Array.getElem_mem_toList hlt)
section
variable {P:Program}(w:World)
theorem j_z {ck:Nat}(h0:0<ck)(base:Nat)(t ty e:TypeId)(i:TypeInfo)(z:Value)(bytes:Nat)(ht:P.underlying t=some (.slice e))(hi:P.info? e=some i)(hz:i.zero=some z)
  (hsize:i.size=ck) (hby:i.bytes=bytes) (hzs:z.cells.size=ck) (hzn:∀u,u∈z.cells.toList→NWd u)
  (v:Value) (n:Nat) (xs:List Value) (hown:OwnK ck w base e v n xs)
  (a:Addr) (c:Nat) (news:List Value) (hl:news.length=ck) (hnews:∀j u,news[j]? =some u→w.cell? (a.add j)=some u) (h1:∀u∈news,u.oneCell'=true) (hn:∀u,u∈news→NWd u)
  (h63:n+1≤maxLen) (hbytes:(n+1)*bytes≤140737488355328) (hbase:base≤w.heap.size):
  ∃v' w',(Builtin.append_ #[t,t] ty #[v,.slice (some a) 1 c]).run P w= .ok v' w'∧OwnK ck w' base e v' (n+1) (xs++news)∧w.grownBy w' v.ownBlock∧(v'.ownBlock=v.ownBlock∨v'.ownBlock=some w.heap.size):=by
 obtain⟨v',w',hr,ho,hg,-⟩:=run_append_own (P:=P) w base t ty e i z ck bytes ht hi hz hsize hby hzs (by omega) v n xs hown.1 a 1 c news (by omega) hnews h1 h63 hbytes hbase;suffices H:(∀g cs,v'.ownBlock=some g→w'.heap[g]? =some (.cells cs e (0,0))→∀u,u∈cs.toList→NWd u)∧(v'.ownBlock=v.ownBlock∨v'.ownBlock=some w.heap.size)from⟨v',w',hr,⟨ho,H.1⟩,hg,H.2⟩
 have hsmall:n+1≤9223372036854775807:=by simp only[maxLen]at h63;omega
 have zz:=o_o h0 hzs hzn;have fresh:∀(ys:List Value) (k:Nat) (cap:Nat),(∀u,u∈ys→NWd u)→v'= .slice (some ⟨w.heap.size,0,none⟩) (n+1) cap→w'=w.drew.alloc (.cells (ys.toArray++news.toArray++Builtin.zeroCells z.cells k) e)→
   ∀g cs,v'.ownBlock=some g→w'.heap[g]? =some (.cells cs e (0,0))→∀u,u∈cs.toList→NWd u:=fun ys k cap hys e1 e2 g cs h2 h3 u hu=>by
  subst e1 e2;have e3:w.heap.size=g:=by simpa [Value.ownBlock] using h2
  subst e3;have h9:(w.drew.alloc (.cells (ys.toArray++news.toArray++Builtin.zeroCells z.cells k) e)).heap[w.heap.size]? =some (.cells (ys.toArray++news.toArray++Builtin.zeroCells z.cells k) e (0,0)):=heap_alloc_new w.drew _;rw[h9]at h3;injection h3 with e4
  injection e4 with e5
  subst e5;simp only[Array.toList_append,List.mem_append]at hu;rcases hu with(hu|hu)|hu
  ·exact hys u hu
  ·exact hn u hu
  ·exact zz k u hu
 rcases hown.1.2 with⟨rfl,rfl⟩|⟨g,cap,cur,rfl,hbg,hh,hnc,hcm,hcs,htake⟩
 ·have hr2:=Go.run_append_nil (P:=P) w t ty e i z ht hi hz a 1 c news (by omega) hnews (by omega) (by omega) (by simp only[Nat.zero_add]at hbytes;omega);rw[hr]at hr2;injection hr2 with e1 e2
  exact⟨fresh [] (grownCap w 1 0 e - 1) (grownCap w 1 0 e) (fun u hu=>nomatch hu) e1 (by rw[e2];simp),.inr (by rw[e1];rfl)⟩
 ·have hcur:∀u,u∈cur.toList→NWd u:=hown.2 g cur rfl hh;have hxs:∀u,u∈xs→NWd u:=fun u hu=>hcur u (by rw[←htake]at hu;exact List.mem_of_mem_take hu);by_cases hroom:n+1≤cap
  ·have hfit:n*i.size+news.length≤cur.size:=by
    have h7:=Nat.mul_le_mul_right ck hroom;rw[Nat.succ_mul]at h7;rw[hl,hcs,hsize];omega
   have hr2:=Go.run_append_room (P:=P) w t ty e i ht hi g n cap cur hh a 1 c news (by omega) hnews h1 hroom hfit;rw[hr]at hr2;injection hr2 with e1 e2
   refine⟨?_,.inl (by rw[e1];rfl)⟩;intro g' cs h2 h3 u hu;subst e1 e2;have e3:g=g':=by simpa [Value.ownBlock] using h2
   subst e3;rw[setRow_heap w g cur _ e _ hh]at h3;injection h3 with e4
   injection e4 with e5
   subst e5;simp only[List.mem_append]at hu;rcases hu with(hu|hu)|hu
   ·exact hcur u (List.mem_of_mem_take hu)
   ·exact hn u hu
   ·exact hcur u (List.mem_of_mem_drop hu)
  ·have holds:∀j u,xs[j]? =some u→w.cell? ((⟨g,0,none⟩:Addr).add j)=some u:=hown.1.cells (g:=g) rfl;have hr2:=Go.run_append_grow (P:=P) w t ty e i z ht hi hz ⟨g,0,none⟩ n cap xs (by rw[hown.1.1,hsize]) holds a 1 c news (by omega) hnews (by omega) (by omega) (growslice_fits (by omega) (by rw[hby];exact hbytes));rw[hr]at hr2;injection hr2 with e1 e2
   exact⟨fresh xs _ _ hxs e1 e2,.inr (by rw[e1];rfl)⟩
end
structure OwnQ (q:Bool) (w0 w:World) (k:Nat) (v:Value) (xs:List Rat):Prop where
 row:∃vs:List Value,OwnK 4 w w0.heap.size 46 v xs.length vs∧∀j,j<xs.length→∃s A n c t B m d,vs[j*4]? =some (.bool s)∧vs[j*4+1]? =some (.slice A n c)∧vs[j*4+2]? =some (.bool t)∧vs[j*4+3]? =some (.slice B m d)∧Qe q w s A n c t B m d (rth xs j)∧n≤k∧m≤k
 old:Below w0.heap.size w0 w
theorem OwnQ.form {q:Bool}{w0 w:World}{k:Nat}{v:Value}{xs:List Rat}(h:OwnQ q w0 w k v xs):∃A c,v= .slice A xs.length c∧QL q w A xs.length c k xs:=by
 obtain⟨⟨vs,⟨h1,h2⟩,h3⟩,h4⟩:=h;rcases h1.2 with⟨rfl,e⟩|⟨g,cap,cur,rfl,hb,hh,hn,hm,hcs,ht⟩
 ·rw[List.length_eq_zero_iff.1 e];exact⟨none,0,rfl,QL.nil _ _ _⟩
 ·refine⟨_,cap,rfl,⟨rfl,hn,by unfold maxLen at hm;omega,fun h0=>⟨_,rfl,(Array.getElem?_eq_some_iff.1 hh).1,fun j hj=>?_⟩⟩⟩;obtain⟨s,A,n,c,t,B,m,d,c1,c2,c3,c4,c5,c6⟩:=h3 j hj;have hc:=h1.cells (g:=g) rfl;have e1:=hc _ _ c2;have e2:=hc _ _ c3;have e3:=hc _ _ c4;rw[a_8]at e1 e2 e3;exact⟨s,A,n,c,t,B,m,d,hc _ _ c1,by rw[a_8];exact e1,by rw[a_8];exact e2,by rw[a_8];exact e3,c5,c6⟩
theorem Grew.qe {q:Bool}{w w':World}{v v':Value}(h:Grew w w' v v'){s t:Bool}{A B:Option Addr}{n c m d:Nat}{y:Rat}(hy:Qe q w s A n c t B m d y):Qe q w' s A n c t B m d y:=by
 have h6:=h.by';cases hvb:v.ownBlock with
 |none=>rw[hvb]at h6;exact hy.below ⟨h6.os,h6.tape,h6.output,h6.size,fun k hk=>h6.block k hk (by simp)⟩
 |some g=>rw[hvb]at h6;exact hy.gro (h.now g hvb) h6
theorem j_p {P:Program}(w0 w1:World){ops:Array Oper}{rest:List Oper}{o:Oper}{a:Act}{Q:Exit→Act→World→Prop}(hgd:o.guard=none)(s x:Operand)(t:TypeId)
  (ho:o.op= .call { callee:=.builtin .append,args:=#[s,x],argTypes:=#[t,t] })
  (ht:P.underlying t=some (.slice 46)) (hinfo:(P.info? 46).map (fun i=>(i.zero,i.size,i.bytes))=some (some (.agg #[.bool false,.slice none 0 0,.bool false,.slice none 0 0]),4,64))
  (q:Bool) (k:Nat) (v:Value) (xs:List Rat) (hs:a.eval s=v) (hown:OwnQ q w0 w1 k v xs) {sb tb:Bool} {A B:Option Addr} {n c m d g:Nat} {z:Rat} (hR:Rb w1 g sb A n c tb B m d) (hz:Qe q w1 sb A n c tb B m d z) (hn:n≤k) (hm:m≤k)
  (hx:a.eval x= .slice (some ⟨g,0,none⟩) 1 1) (hlen:xs.length≤1099511627776)
  (h:∀v' w',OwnQ q w0 w' k v' (xs++[z])→Grew w1 w' v v'→wpList P ops Q rest (a.put o.dst v') w'):
  wpList P ops Q (o::rest) a w1:=by
 obtain⟨i,hi,hz0,hz1,hz2⟩:=info_parts hinfo;have hsz:=hown.old.size;obtain⟨hc0,hc1,hc2,hc3,-⟩:=hR;obtain⟨⟨vs,h1,h3⟩,h4⟩:=hown;obtain⟨v',w',hr,h5,h6,h8⟩:=j_z (P:=P) w1 (ck:=4) (by omega) w0.heap.size t o.type 46 i (.agg #[.bool false,.slice none 0 0,.bool false,.slice none 0 0]) 64 ht hi hz0 hz1 hz2 rfl (fun u hu=>by
   simp[Value.cells]at hu;rcases hu with rfl|rfl|rfl|rfl<;>exact fun m e=>nomatch e) v xs.length vs h1 ⟨g,0,none⟩ 1 [.bool sb,.slice A n c,.bool tb,.slice B m d] rfl (fun j u hu=>by
   rw[a_8];match j,hu with
   |0,hu=>simp at hu;subst hu;exact hc0
   |1,hu=>simp at hu;subst hu;exact hc1
   |2,hu=>simp at hu;subst hu;exact hc2
   |3,hu=>simp at hu;subst hu;exact hc3) (fun u hu=>by
   simp at hu;rcases hu with rfl|rfl|rfl|rfl<;>rfl) (fun u hu=>by
   simp at hu;rcases hu with rfl|rfl|rfl|rfl<;>exact fun m e=>nomatch e) (by unfold maxLen;omega) (by omega) (by omega)
 refine wpList_plain hgd fun K hK'=>?_;unfold Oper.wp execOp;simp only[ho,resolve,invoke,builtin,Sem.run_bind,Sem.run_pure,Result.andThen_ok,List.map_toArray,List.map_cons,List.map_nil,hs,hx,hr];have hvl:vs.length=xs.length*4:=h1.1.1;have hG:Grew w1 w' v v':=⟨h6,fun g hg=>h1.wless hg,h8⟩;refine hK' _ _ (h v' w' ⟨⟨_,by rw[List.length_append];exact h5,fun j hj=>?_⟩, ?_⟩ hG)
 ·rw[List.length_append,List.length_singleton]at hj;rcases Nat.lt_or_ge j xs.length with hlt|hge
  ·obtain⟨s',A',n',c',t',B',m',d',c1,c2,c3,c4,c5,c6⟩:=h3 j hlt;refine⟨s',A',n',c',t',B',m',d',by rw[List.getElem?_append_left (by omega)];exact c1,by rw[List.getElem?_append_left (by omega)];exact c2,by rw[List.getElem?_append_left (by omega)];exact c3,by rw[List.getElem?_append_left (by omega)];exact c4, ?_,c6⟩;rw[show rth (xs++[z]) j=rth xs j by simp[rth,List.getD,List.getElem?_append_left hlt]];exact hG.qe c5
  ·obtain rfl:j=xs.length:=by omega
   refine⟨sb,A,n,c,tb,B,m,d,by rw[List.getElem?_append_right (by omega),hvl,Nat.sub_self];rfl,by rw[List.getElem?_append_right (by omega),hvl,show xs.length*4+1 - xs.length*4=1 by omega];rfl,by rw[List.getElem?_append_right (by omega),hvl,show xs.length*4+2 - xs.length*4=2 by omega];rfl,by rw[List.getElem?_append_right (by omega),hvl,show xs.length*4+3 - xs.length*4=3 by omega];rfl, ?_,hn,hm⟩;rw[show rth (xs++[z]) xs.length=z by simp[rth,List.getD]];exact hG.qe hz
 ·exact h4.grown h6 h4.size (fun k hk=>(h1.1.lt k hk).1)
end
section
open Go.RowKit
def IsQv (x:Rat)(k:Nat):FVal:=fun v w=>∃s A n c t B m d,v= .agg #[.bool s,.slice A n c,.bool t,.slice B m d]∧Qv w s A n c t B m d x∧n≤k∧m≤k
theorem o_z (x:Rat)(k:Nat):Stays (IsQv x k):=fun v w w' ⟨s,A,n,c,t,B,m,d,e,h,hk⟩ hb=>⟨s,A,n,c,t,B,m,d,e,h.below hb,hk⟩
def kQv (x:Rat)(k:Nat):FK:=.f (IsQv x k) (o_z x k)
theorem IsQ.v {x:Rat}{k:Nat}{v:Value}{w:World}(h:IsQ x k v w):IsQv x k v w:=by
 obtain⟨s,A,n,c,t,B,m,d,e,h1,h2⟩:=h;exact⟨s,A,n,c,t,B,m,d,e,h1.qv,h2⟩
theorem Qv.is {w:World}{s t:Bool}{A B:Option Addr}{n c m d k:Nat}{x:Rat}(h:Qv w s A n c t B m d x)(hn:n≤k)(hm:m≤k):IsQv x k (.agg #[.bool s,.slice A n c,.bool t,.slice B m d]) w:=⟨s,A,n,c,t,B,m,d,rfl,h,hn,hm⟩
theorem Qc.is {w:World}{s t:Bool}{A B:Option Addr}{n c m d k:Nat}{x:Rat}(h:Qc w s A n c t B m d x)(hn:n≤k)(hm:m≤k):IsQ x k (.agg #[.bool s,.slice A n c,.bool t,.slice B m d]) w:=⟨s,A,n,c,t,B,m,d,rfl,h,hn,hm⟩
theorem QPost.q {x:Rat}{k k':Nat}{w w':World}{e:Ending}(h:QPost x k w e w')(hk:k≤k'):RetK (kQ x k') w e w':=by
 obtain⟨s,A,n,c,t,B,m,d,e,h1,h2,h3,h4⟩:=h;exact⟨_,e,h1.is (Nat.le_trans h2 hk) (Nat.le_trans h3 hk),h4⟩
theorem QbPost.q {x:Rat}{b:Bool}{k k':Nat}{w w':World}{e:Ending}(h:QbPost x b k w e w')(hk:k≤k'):RetK (kT (kQ x k') (.k (.bool b))) w e w':=by
 obtain⟨s,A,n,c,t,B,m,d,e,h1,h2,h3,h4⟩:=h;exact⟨_,e,⟨_,_,rfl,h1.is (Nat.le_trans h2 hk) (Nat.le_trans h3 hk),rfl⟩,h4⟩
section
variable {u v:Value}{x y:Rat}{n m K:Nat}{w:World}
theorem t_3 (k:Nat)(hx:IsQv x n u w)(hy:IsQv y m v w)(hn:n≤k)(hm:m≤k)(h1:1≤k)(hk:k≤1073741824)(hK:2*k+1≤K):Calls Tryz.prog 71 #[u,v] w (RetK (kQ (x+y) K) w):=by
 obtain⟨s,A,a,c,t,B,b,d,rfl,g1,g2,g3⟩:=hx;obtain⟨s',A',a',c',t',B',b',d',rfl,i1,i2,i3⟩:=hy;exact(add_q g1 i1 k (by omega) (by omega) (by omega) (by omega) h1 hk).mono fun e w' h=>h.q hK
theorem t_z (k:Nat)(hx:IsQv x n u w)(hy:IsQv y m v w)(hn:n≤k)(hm:m≤k)(h1:1≤k)(hk:k≤1073741824)(hK:2*k≤K):Calls Tryz.prog 62 #[u,v] w (RetK (kQ (x*y) K) w):=by
 obtain⟨s,A,a,c,t,B,b,d,rfl,g1,g2,g3⟩:=hx;obtain⟨s',A',a',c',t',B',b',d',rfl,i1,i2,i3⟩:=hy;exact(mul_q g1 i1 k (by omega) (by omega) (by omega) (by omega) h1 hk).mono fun e w' h=>h.q hK
theorem x_1 (k:Nat)(hx:IsQv x n u w)(hy:IsQv y m v w)(hn:n≤k)(hm:m≤k)(h1:1≤k)(hk:k≤1073741824)(hK:2*k≤K){b:Bool}(hb:decide (y≠0)=b):Calls Tryz.prog 111 #[u,v] w (RetK (kT (kQ (x / y) K) (.k (.bool b))) w):=by
 obtain⟨s,A,a,c,t,B,b,d,rfl,g1,g2,g3⟩:=hx;obtain⟨s',A',a',c',t',B',b',d',rfl,i1,i2,i3⟩:=hy;exact(quo_q g1 i1 k (by omega) (by omega) (by omega) (by omega) h1 hk hb).mono fun e w' h=>h.q hK
theorem g_y (k:Nat)(hx:IsQv x n u w)(hy:IsQv y m v w)(hn:n≤k)(hm:m≤k)(h1:1≤k)(hk:k≤1073741824){r:Int}(hr:rsg (x - y)=r):Calls Tryz.prog 32 #[u,v] w (RetK (.k (.int .i64 r)) w):=by
 obtain⟨s,A,a,c,t,B,b,d,rfl,g1,g2,g3⟩:=hx;obtain⟨s',A',a',c',t',B',b',d',rfl,i1,i2,i3⟩:=hy;exact(cmp_q g1 i1 k (by omega) (by omega) (by omega) (by omega) h1 hk hr).mono fun e w' h=>⟨_,h.1,rfl,h.2⟩
end
theorem j_0 {x:Rat}:rsg x=0↔x=0:=by
 unfold rsg;rw[Int.sign_eq_zero_iff_zero];exact Rat.num_eq_zero
theorem rsg_sub_zero {x y:Rat}:rsg (x - y)=0↔x=y:=by
 rw[j_0];constructor<;>intro h<;>grind
theorem qp_cells:Tryz.prog.cellsOf 46=4:=by kernel_rfl
theorem ldQ {w:World}{p:Addr}{s t:Bool}{A B:Option Addr}{n c m d:Nat}(hp:p.block<w.heap.size)(h0:w.cell? p=some (.bool s))(h1:w.cell? ⟨p.block,p.off+1,none⟩=some (.slice A n c))(h2:w.cell? ⟨p.block,p.off+2,none⟩=some (.bool t))(h3:w.cell? ⟨p.block,p.off+3,none⟩=some (.slice B m d)):
  ∀w',Below w.heap.size w w'→(Instr.loadAt 46 (.pointer (some p))).run Tryz.prog w'= .ok (.agg #[.bool s,.slice A n c,.bool t,.slice B m d]) w':=fun w' hb=>
 m_n ((hb.cell hp).trans h0) ((hb.cell (p:=⟨p.block,p.off+1,none⟩) hp).trans h1) ((hb.cell (p:=⟨p.block,p.off+2,none⟩) hp).trans h2) ((hb.cell (p:=⟨p.block,p.off+3,none⟩) hp).trans h3)
theorem retQ {w w2:World}{g k n c m d n0 c0 m0 d0:Nat}{s t s0 t0:Bool}{A B A0 B0:Option Addr}{x:Rat}(h:Qc w2 s A n c t B m d x)(hi:Rb w2 g s0 A0 n0 c0 t0 B0 m0 d0)(hn:n≤k)(hm:m≤k)(hg:w.heap.size≤g)(hB:Below w.heap.size w w2):
  RetK (kQ x k) w (.returned (.agg #[.bool s,.slice A n c,.bool t,.slice B m d])) (rput w2 g s A n c t B m d):=(qfin h hi hn hm hg hB).q (Nat.le_refl _)
theorem retQv {w w2:World}{g k n c m d n0 c0 m0 d0:Nat}{s t s0 t0:Bool}{A B A0 B0:Option Addr}{x:Rat}(h:Qv w2 s A n c t B m d x)(hi:Rb w2 g s0 A0 n0 c0 t0 B0 m0 d0)(hn:n≤k)(hm:m≤k)(hg:w.heap.size≤g)(hB:Below w.heap.size w w2):
  RetK (kQv x k) w (.returned (.agg #[.bool s,.slice A n c,.bool t,.slice B m d])) (rput w2 g s A n c t B m d):=⟨_,rfl,(h.rput hi).is hn hm,c_a hB hg⟩
def qmk (r c:Nat)(F:Nat→Nat→Rat):List Rat:=(List.range (r*c)).map fun m=>F (m / c) (m%c)
theorem a_4 (r c:Nat)(F:Nat→Nat→Rat):(qmk r c F).length=r*c:=by simp[qmk]
theorem g_0 {r c i j:Nat}(hi:i<r)(hj:j<c):i*c+j<r*c:=by
 have:i*c+c≤r*c:=by rw[←Nat.succ_mul];exact Nat.mul_le_mul_right c hi
 omega
theorem h_s {r c i j:Nat}{F:Nat→Nat→Rat}(hi:i<r)(hj:j<c):rth (qmk r c F) (i*c+j)=F i j:=by
 have h:=g_0 hi hj;have h1:(i*c+j) / c=i:=by rw[Nat.mul_comm,Nat.mul_add_div (by omega),Nat.div_eq_of_lt hj];omega
 have h2:(i*c+j)%c=j:=by rw[Nat.mul_comm,Nat.mul_add_mod,Nat.mod_eq_of_lt hj]
 simp[rth,qmk,List.getD,h,h1,h2]
theorem m_x {r c m:Nat}(h:m<r*c):m / c<r∧m%c<c∧m / c*c+m%c=m:=by
 have hc:0<c:=Nat.pos_of_ne_zero fun e=>by subst e;simp at h
 exact⟨Nat.div_lt_of_lt_mul (by rw[Nat.mul_comm];exact h),Nat.mod_lt _ hc,by rw[Nat.mul_comm];exact Nat.div_add_mod m c⟩
theorem b_l {r c:Nat}{F G:Nat→Nat→Rat}(h:∀i j,i<r→j<c→F i j=G i j):qmk r c F=qmk r c G:=by
 unfold qmk;apply List.map_congr_left;intro m hm;obtain⟨h1,h2,_⟩:=m_x (List.mem_range.1 hm);exact h _ _ h1 h2
theorem x_5 {r c:Nat}{xs:List Rat}(h:xs.length=r*c):qmk r c (fun i j=>rth xs (i*c+j))=xs:=by
 apply List.ext_getElem
 ·rw[a_4,h]
 ·intro m h1 h2;obtain⟨e1,e2,e3⟩:=m_x (r:=r) (c:=c) (m:=m) (by rw[←h];exact h2);simp[qmk,e3,rth,List.getD,h2]
structure Mq (q:Bool) (w:World) (r c:Nat) (A:Option Addr) (n d k:Nat) (F:Nat→Nat→Rat):Prop where
 ql:QL q w A n d k (qmk r c F)
 hr:r≤64
 hc:c≤64
section
variable {q:Bool}{w w':World}{r c n d k k':Nat}{A:Option Addr}{F G:Nat→Nat→Rat}
theorem Mq.below (h:Mq q w r c A n d k F)(hb:Below w.heap.size w w'):Mq q w' r c A n d k F:=⟨h.ql.below hb,h.hr,h.hc⟩
theorem Mq.len (h:Mq q w r c A n d k F):n=r*c:=by have:=h.ql.len;rw[a_4]at this;exact this.symm
theorem Mq.big (h:Mq q w r c A n d k F):r*c≤4096:=Nat.mul_le_mul h.hr h.hc
theorem Mq.mono (h:Mq q w r c A n d k F)(hk:k≤k'):Mq q w r c A n d k' F:=⟨h.ql.mono hk,h.hr,h.hc⟩
theorem Mq.elem (h:Mq q w r c A n d k F){i j:Nat}(hi:i<r)(hj:j<c):∃ad,A=some ad∧ad.block<w.heap.size∧i*c+j<n∧QAt q w (ad.add ((i*c+j)*4)) k (F i j):=by
 have hl:i*c+j<n:=by rw[h.len];exact g_0 hi hj
 obtain⟨ad,e,h1,h2⟩:=h.ql.at hl;rw[h_s hi hj]at h2;exact⟨ad,e,h1,hl,h2⟩
end
def IsMq (q:Bool)(r c k:Nat)(F:Nat→Nat→Rat):FVal:=fun v w=>∃A n d,v= .agg #[.int .i64 (r:Int),.int .i64 (c:Int),.slice A n d]∧Mq q w r c A n d k F
def kMq (q:Bool)(r c k:Nat)(F:Nat→Nat→Rat):FK:=.f (IsMq q r c k F) (fun v w w' ⟨A,n,d,e,h⟩ hb=>⟨A,n,d,e,h.below hb⟩)
end
section
open Go.RowKit
theorem Bx.m3 {w:World}{g:Nat}{T:TypeId}{x y z:Value}(b:Bx w g T [x,y,z]):w.cell? ⟨g,0,none⟩=some x∧w.cell? ⟨g,1,none⟩=some y∧w.cell? ⟨g,2,none⟩=some z∧w.frozen? ⟨g,0,none⟩=false∧w.frozen? ⟨g,1,none⟩=false∧w.frozen? ⟨g,2,none⟩=false∧g<w.heap.size:=⟨b.cell 0,b.cell 1,b.cell 2,b.free 0,b.free 1,b.free 2,b.lt⟩
theorem argsF (i j:Value):#[]++ #[i,j]++ #[]= #[i,j]:=rfl
theorem argsC2 (i j a b:Value):#[]++ #[i,j]++ #[a,b]= #[i,j,a,b]:=rfl
end
section
open Go.RowKit
section
variable {w w':World}{g h:Nat}{T U:TypeId}{cs ds:List Value}
theorem ldQl (b:Bx w g T cs)(o:Nat){A:Option Addr}{n c:Nat}(hc:cs[o]? =some (.slice A n c):=by rfl):∀w',Below w.heap.size w w'→(Instr.loadAt 22 (.pointer (some ⟨g,o,none⟩))).run Tryz.prog w'= .ok (.slice A n c) w':=fun w' hb=>by
 have h:=(b.below hb).cell o;rw[hc]at h;simp[go_sem,a_1,h]
theorem ldQm (b:Bx w g T cs)(o:Nat){r c:Int}{A:Option Addr}{n d:Nat}(h0:cs[o]? =some (.int .i64 r):=by rfl)(h1:cs[o+1]? =some (.int .i64 c):=by rfl)(h2:cs[o+2]? =some (.slice A n d):=by rfl):∀w',Below w.heap.size w w'→(Instr.loadAt 24 (.pointer (some ⟨g,o,none⟩))).run Tryz.prog w'= .ok (.agg #[.int .i64 r,.int .i64 c,.slice A n d]) w':=fun w' hb=>by
 have e0:=(b.below hb).cell o;have e1:=(b.below hb).cell (o+1);have e2:=(b.below hb).cell (o+2);rw[h0]at e0;rw[h1]at e1;rw[h2]at e2;simp[go_sem,e0,e1,e2]
end
section
variable {g o:Nat}
theorem fQ0 (o':Nat)(h:o+0=o':=by rfl)(w:World):(Instr.fieldAt 24 (.pointer (some ⟨g,o,none⟩)) 0).run Tryz.prog w= .ok (.pointer (some ⟨g,o',none⟩)) w:=by subst h;simp[go_sem]
theorem fQ1 (o':Nat)(h:o+1=o':=by rfl)(w:World):(Instr.fieldAt 24 (.pointer (some ⟨g,o,none⟩)) 1).run Tryz.prog w= .ok (.pointer (some ⟨g,o',none⟩)) w:=by subst h;simp[go_sem]
theorem fQ2 (o':Nat)(h:o+2=o':=by rfl)(w:World):(Instr.fieldAt 24 (.pointer (some ⟨g,o,none⟩)) 2).run Tryz.prog w= .ok (.pointer (some ⟨g,o',none⟩)) w:=by subst h;simp[go_sem]
end
theorem u_1 {w:World}{ad:Addr}{n c k:Nat}(h:k<n):(Instr.indexAt 22 (.slice (some ad) n c) (.int .i64 (k:Int))).run Tryz.prog w= .ok (.pointer (some (ad.add (k*4)))) w:=by
 simp[go_sem,Tryz.underlying22,qp_cells];omega
theorem opIxQ {ad:Addr}{n c k:Nat}{X Y:Operand}(h:k<n)(w:World):RunTwo Tryz.prog (.indexAddr 22 X Y) w (.slice (some ad) n c) (.int .i64 (k:Int)) (.pointer (some (ad.add (k*4)))):=u_1 h
theorem QL.apart {q:Bool}{w:World}{ad:Addr}{n c k g:Nat}{xs:List Rat}{T:TypeId}{cs:List Value}(h:QL q w (some ad) n c k xs)(h0:0<n)(b:Bx w g T cs)(hb:∀v,v∈cs→∀s,v≠ .bool s):ad.block≠g:=fun e=>by
 obtain⟨s,A,m,d,t,B,m',d',h1,_⟩:=h.elem h0;rw[Nat.zero_mul,a_1]at h1;have e1:w.cell? ad=cs[ad.off]? ∨w.cell? ad=none:=by
  unfold World.cell?;rw[e,b];by_cases hs:ad.spot=none
  ·left;simp[hs]
  ·right;simp[hs]
 rcases e1 with e1|e1
 ·rw[e1]at h1;exact hb _ (List.mem_of_getElem? h1) s rfl
 ·rw[e1]at h1;cases h1
theorem QL.box {q:Bool}{w w':World}{A:Option Addr}{n c k g:Nat}{xs:List Rat}{T:TypeId}{cs:List Value}(h:QL q w A n c k xs)(b:Bx w g T cs)(hb:∀v,v∈cs→∀s,v≠ .bool s)(hw:∀v,v∈cs→∀m:Int,v≠ .int .u64 m)(hg:w.grownBy w' (some g)):QL q w' A n c k xs:=by
 by_cases h0:0<n
 ·obtain⟨ad,e,_⟩:=h.at' h0;subst e;exact h.gro (fun a ha=>by cases ha;exact h.apart h0 b hb) (b.now hw) hg
 ·exact⟨h.len,h.le,h.cap,fun h1=>absurd h1 h0⟩
theorem Mq.box {q:Bool}{w w':World}{A:Option Addr}{r c n d k g:Nat}{F:Nat→Nat→Rat}{T:TypeId}{cs:List Value}(h:Mq q w r c A n d k F)(b:Bx w g T cs)(hb:∀v,v∈cs→∀s,v≠ .bool s)(hw:∀v,v∈cs→∀m:Int,v≠ .int .u64 m)(hg:w.grownBy w' (some g)):Mq q w' r c A n d k F:=⟨h.ql.box b hb hw hg,h.hr,h.hc⟩
section
variable {q:Bool}{w w2:World}{A B C:Option Addr}{r c n d k g m e n' d':Nat}{x y r' c':Int}{F:Nat→Nat→Rat}{T:TypeId}
theorem Mq.put (h:Mq q w r c A n d k F)(b:Bx w g T [.int .i64 x,.int .i64 y,.slice B m e]):Mq q (mput w g r' c' C n' d') r c A n d k F:=h.box b (by simp) (by simp) (a_k _ _ _ _ _ _ _)
theorem Mq.fmd (h:Mq q w r c A n d k F):fmd (r:Int) (c:Int) n=true:=by
 have h1:=h.hr;have h2:=h.hc;have h3:=h.len;unfold Proofs.YtkgghhklbbfdiaaGreat.fmd sd;simp only[Bool.and_eq_true,decide_eq_true_eq];refine⟨⟨⟨by omega,by omega⟩,by omega,by omega⟩,by rw[h3];simp⟩
theorem retMq (h:Mq q w2 r c A n d k F)(b:Bx w2 g T [.int .i64 x,.int .i64 y,.slice B m e])(hg:w.heap.size≤g)(hB:Below w.heap.size w w2):
  RetK (kMq q r c k F) w (.returned (.agg #[.int .i64 (r:Int),.int .i64 (c:Int),.slice A n d])) (mput w2 g (r:Int) (c:Int) A n d):=⟨_,rfl,⟨A,n,d,rfl,h.put b⟩,b_u hB hg⟩
theorem retNoT {e':Int}(b:Bx w2 g T [.int .i64 x,.int .i64 y,.slice B m e])(hg:w.heap.size≤g)(hB:Below w.heap.size w w2):
  RetK (noM e') w (.returned (.tuple #[.agg #[.int .i64 0,.int .i64 0,.slice none 0 0],.int .i64 e'])) (mput w2 g 0 0 none 0 0):=⟨_,rfl,rfl,b_u hB hg⟩
theorem Bx.moT {h:Nat}{U:TypeId}{cs:List Value}(b:Bx w h U cs)(hn:h≠g):Bx (mput w g r' c' C n' d') h U cs:=((b.off hn _ _).off hn _ _).off hn _ _
theorem Bx.mpT (b:Bx w g T [.int .i64 x,.int .i64 y,.slice B m e]):Bx (mput w g r' c' C n' d') g T [.int .i64 r',.int .i64 c',.slice C n' d']:=((b.set 0 _).set 1 _).set 2 _
end
section
variable {w w2:World}{s t s0 t0 s' t':Bool}{A B A0 B0 A' B':Option Addr}{n c m d n0 c0 m0 d0 n' c' m' d' g h:Nat}{T U:TypeId}{cs:List Value}
theorem b_p (w:World)(g:Nat)(s:Bool)(A:Option Addr)(n c:Nat)(t:Bool)(B:Option Addr)(m d:Nat):w.grownBy (rput w g s A n c t B m d) (some g):=by
 unfold rput;exact a_n (q:=⟨g,3,none⟩) (a_n (q:=⟨g,2,none⟩) (a_n (q:=⟨g,1,none⟩) (a_n (q:=⟨g,0,none⟩) (a_u w (some g)) rfl _) rfl _) rfl _) rfl _
end
end
section
def abv (f:Nat→Rat):Nat→Nat
 |0=>0
 |i+1=>Nat.gcd (abv f i) (f i).num.natAbs
def blw (f:Nat→Rat):Nat→Nat
 |0=>1
 |i+1=>blw f i / Nat.gcd (blw f i) (f i).den*(f i).den
def abx (f:Nat→Rat)(n:Nat):Nat:=if abv f n=0 then 1 else abv f n
def ptn (f:Nat→Rat)(n i:Nat):Int:=(f i).num / (abx f n:Int)*((blw f n / (f i).den:Nat):Int)
def pct (f:Nat→Rat)(n:Nat):Rat:=Rat.divInt (abx f n:Int) (blw f n:Int)
section
variable {f:Nat→Rat}{n i:Nat}
theorem q_y (f:Nat→Rat)(i:Nat):blw f (i+1)=Nat.lcm (blw f i) (f i).den:=by
 show _ / _*_=_
 unfold Nat.lcm;rw[Nat.mul_comm,←Nat.mul_div_assoc _ (Nat.gcd_dvd_left _ _),Nat.mul_comm]
theorem h_i (f:Nat→Rat):∀n,0<blw f n
 |0=>Nat.one_pos
 |n+1=>by rw[q_y];exact Nat.lcm_pos (h_i f n) (f n).den_pos
theorem j_i (f:Nat→Rat):∀n i,i<n→(f i).den∣blw f n
 |0,i,h=>by omega
 |n+1,i,h=>by
  rw[q_y];rcases Nat.lt_or_ge i n with h1|h1
  ·exact Nat.dvd_trans (j_i f n i h1) (Nat.dvd_lcm_left _ _)
  ·rw[show i=n by omega];exact Nat.dvd_lcm_right _ _
theorem q_6 (f:Nat→Rat):∀n i,i<n→abv f n∣(f i).num.natAbs
 |0,i,h=>by omega
 |n+1,i,h=>by
  show Nat.gcd _ _∣_
  rcases Nat.lt_or_ge i n with h1|h1
  ·exact Nat.dvd_trans (Nat.gcd_dvd_left _ _) (q_6 f n i h1)
  ·rw[show i=n by omega];exact Nat.gcd_dvd_right _ _
theorem j_l (f:Nat→Rat)(n:Nat):0<abx f n:=by unfold abx;split<;>omega
theorem m_b (h:i<n):(abx f n:Int)∣(f i).num:=by
 unfold abx;split
 ·exact⟨(f i).num,by simp⟩
 ·exact Int.ofNat_dvd_left.mpr (q_6 f n i h)
theorem x_9 (h:i<n):ptn f n i*(abx f n:Int)*((f i).den:Int)=(f i).num*(blw f n:Int):=by
 obtain⟨a,ha⟩:=m_b (f:=f) h;obtain⟨b,hb⟩:=j_i f n i h;have hp:=j_l f n;unfold ptn;rw[hb,Nat.mul_div_cancel_left _ (f i).den_pos];have e:(f i).num / (abx f n:Int)=a:=by rw[ha];exact Int.mul_ediv_cancel_left a (by omega)
 rw[e];conv=>rhs;rw[ha]
 rw[Int.natCast_mul];grind
theorem t_4 (f:Nat→Rat)(n:Nat):pct f n*((blw f n:Int):Rat)=((abx f n:Int):Rat):=by
 have h2:=h_i f n;have h3:((blw f n:Int):Rat)≠0:=fun e=>by
  have:(blw f n:Int)=0:=by exact_mod_cast e
  omega
 unfold pct;rw[Rat.divInt_eq_div];exact Rat.div_mul_cancel h3
theorem f_t (f:Nat→Rat)(n:Nat):pct f n≠0:=by
 have h1:=j_l f n;have e:=t_4 f n;intro h0;rw[h0,Rat.zero_mul]at e;have:(abx f n:Int)=0:=by exact_mod_cast e.symm
 omega
theorem p_n (h:i<n):f i=((ptn f n i:Int):Rat)*pct f n:=by
 have e:=x_9 (f:=f) h;have h2:=h_i f n;have h3:((blw f n:Int):Rat)≠0:=fun e=>by
  have:(blw f n:Int)=0:=by exact_mod_cast e
  omega
 have h4:(((f i).den:Int):Rat)≠0:=fun e=>by
  have:((f i).den:Int)=0:=by exact_mod_cast e
  have:=(f i).den_pos;omega
 have e1:((ptn f n i:Int):Rat)*((abx f n:Int):Rat)*(((f i).den:Int):Rat)=(((f i).num:Int):Rat)*((blw f n:Int):Rat):=by
  rw[←Rat.intCast_mul,←Rat.intCast_mul,e,Rat.intCast_mul]
 have e2:f i*(((f i).den:Int):Rat)=(((f i).num:Int):Rat):=by
  have:=Rat.num_divInt_den (f i);rw[Rat.divInt_eq_div]at this;have h5:=Rat.div_mul_cancel (a:=(((f i).num:Int):Rat)) h4;rw[this]at h5;exact h5
 have e3:=t_4 f n;have k1:=Rat.mul_inv_cancel _ h3;have k2:=Rat.mul_inv_cancel _ h4;grind
end
end
end Go.Proofs.YtkgghhklbbfdiaaGreat
