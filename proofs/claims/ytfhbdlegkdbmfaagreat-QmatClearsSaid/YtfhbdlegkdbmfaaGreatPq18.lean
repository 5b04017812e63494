/- Pq18 -/
import Derived.Test.YtfhbdlegkdbmfaaGreatPq17
import Derived.Laws.AppendOwn
set_option linter.unusedVariables false
set_option linter.unusedSimpArgs false
set_option linter.unusedSectionVars false
set_option maxRecDepth 100000
set_option maxHeartbeats 8000000
namespace Go.Proofs.YtfhbdlegkdbmfaaGreat
section
open Go.RowKit
def OwnK (ck:Nat)(w:World)(base:Nat)(e:TypeId)(v:Value)(n:Nat)(xs:List Value):Prop:=
 w.ownsRow base e ck v n xs/\∀g cs,v.ownBlock=some g->w.heap[g]? =some (.cells cs e (0,0))->∀u,u∈cs.toList->NWd u
theorem OwnK.wless {ck:Nat}{w:World}{base g:Nat}{e:TypeId}{v:Value}{n:Nat}{xs:List Value}(h:OwnK ck w base e v n xs)(hg:v.ownBlock=some g):Wless w g:=fun p m hp hc=>by
 rcases h.1.2 with⟨rfl,_⟩|⟨g',cap,cur,rfl,hb,hh,_⟩
 ·cases hg
 ·have e':g'=g:=by simpa [Value.ownBlock] using hg
  subst e';have e2:cur[p.off]? =some (.int .u64 m):=by
   unfold World.cell? at hc;rw[hp,hh]at hc;exact(by simpa using hc:p.spot=none/\cur[p.off]? =some (.int .u64 m)).2
  exact h.2 g' cur hg hh (.int .u64 m) (by rw[<-Array.getElem?_toList]at e2;exact List.mem_of_getElem? e2) m rfl
theorem n_9 {z:Array Value}{ck:Nat}(h0:0<ck)(hs:z.size=ck)(hz:∀u,u∈z.toList->NWd u)(k:Nat)(u:Value)(hu:u∈(Builtin.zeroCells z k).toList):NWd u:=by
 unfold Builtin.zeroCells at hu;rw[Array.toList_map,List.mem_map]at hu;obtain⟨i,hi,rfl⟩:=hu;have hlt:i%z.size<z.size:=Nat.mod_lt _ (by omega);rw[getElem!_pos z _ hlt];exact hz _ (Array.getElem_mem_toList hlt)
section
variable {P:Program}(w:World)
theorem j_f {ck:Nat}(h0:0<ck)(base:Nat)(t ty e:TypeId)(i:TypeInfo)(z:Value)(bytes:Nat)(ht:P.underlying t=some (.slice e))(hi:P.info? e=some i)(hz:i.zero=some z)
  (hsize:i.size=ck) (hby:i.bytes=bytes) (hzs:z.cells.size=ck) (hzn:∀u,u∈z.cells.toList->NWd u)
  (v:Value) (n:Nat) (xs:List Value) (hown:OwnK ck w base e v n xs)
  (a:Addr) (c:Nat) (news:List Value) (hl:news.length=ck) (hnews:∀j u,news[j]? =some u->w.cell? (a.add j)=some u) (h1:∀u∈news,u.oneCell'=true) (hn:∀u,u∈news->NWd u)
  (h63:n+1<=maxLen) (hbytes:(n+1)*bytes<=140737488355328) (hbase:base<=w.heap.size):
  ∃v' w',(Builtin.append_ #[t,t] ty #[v,.slice (some a) 1 c]).run P w= .ok v' w'/\OwnK ck w' base e v' (n+1) (xs++news)/\w.grownBy w' v.ownBlock/\(v'.ownBlock=v.ownBlock\/v'.ownBlock=some w.heap.size):=by
 obtain⟨v',w',hr,ho,hg,-⟩:=run_append_own (P:=P) w base t ty e i z ck bytes ht hi hz hsize hby hzs (by omega) v n xs hown.1 a 1 c news (by omega) hnews h1 h63 hbytes hbase;suffices H:(∀g cs,v'.ownBlock=some g->w'.heap[g]? =some (.cells cs e (0,0))->∀u,u∈cs.toList->NWd u)/\(v'.ownBlock=v.ownBlock\/v'.ownBlock=some w.heap.size)from⟨v',w',hr,⟨ho,H.1⟩,hg,H.2⟩
 have hsmall:n+1<=9223372036854775807:=by simp only[maxLen]at h63;omega
 have zz:=n_9 h0 hzs hzn;have fresh:∀(ys:List Value) (k:Nat) (cap:Nat),(∀u,u∈ys->NWd u)->v'= .slice (some ⟨w.heap.size,0,none⟩) (n+1) cap->w'=w.drew.alloc (.cells (ys.toArray++news.toArray++Builtin.zeroCells z.cells k) e)->
   ∀g cs,v'.ownBlock=some g->w'.heap[g]? =some (.cells cs e (0,0))->∀u,u∈cs.toList->NWd u:=fun ys k cap hys e1 e2 g cs h2 h3 u hu=>by
  subst e1 e2;have e3:w.heap.size=g:=by simpa [Value.ownBlock] using h2
  subst e3;have h9:(w.drew.alloc (.cells (ys.toArray++news.toArray++Builtin.zeroCells z.cells k) e)).heap[w.heap.size]? =some (.cells (ys.toArray++news.toArray++Builtin.zeroCells z.cells k) e (0,0)):=heap_alloc_new w.drew _;rw[h9]at h3;injection h3 with e4
  injection e4 with e5
  subst e5;simp only[Array.toList_append,List.mem_append]at hu;rcases hu with(hu|hu)|hu
  ·exact hys u hu
  ·exact hn u hu
  ·exact zz k u hu
 rcases hown.1.2 with⟨rfl,rfl⟩|⟨g,cap,cur,rfl,hbg,hh,hnc,hcm,hcs,htake⟩
 ·have hr2:=Go.run_append_nil (P:=P) w t ty e i z ht hi hz a 1 c news (by omega) hnews (by omega) (by omega) (by simp only[Nat.zero_add]at hbytes;omega);rw[hr]at hr2;injection hr2 with e1 e2
  exact⟨fresh [] (grownCap w 1 0 e - 1) (grownCap w 1 0 e) (fun u hu=>nomatch hu) e1 (by rw[e2];simp),.inr (by rw[e1];rfl)⟩
 ·have hcur:∀u,u∈cur.toList->NWd u:=hown.2 g cur rfl hh;have hxs:∀u,u∈xs->NWd u:=fun u hu=>hcur u (by rw[<-htake]at hu;exact List.mem_of_mem_take hu);by_cases hroom:n+1<=cap
  ·have hfit:n*i.size+news.length<=cur.size:=by
    have h7:=Nat.mul_le_mul_right ck hroom;rw[Nat.succ_mul]at h7;rw[hl,hcs,hsize];omega
   have hr2:=Go.run_append_room (P:=P) w t ty e i ht hi g n cap cur hh a 1 c news (by omega) hnews h1 hroom hfit;rw[hr]at hr2;injection hr2 with e1 e2
   refine⟨?_,.inl (by rw[e1];rfl)⟩;intro g' cs h2 h3 u hu;subst e1 e2;have e3:g=g':=by simpa [Value.ownBlock] using h2
   subst e3;rw[setRow_heap w g cur _ e _ hh]at h3;injection h3 with e4
   injection e4 with e5
   subst e5;simp only[List.mem_append]at hu;rcases hu with(hu|hu)|hu
   ·exact hcur u (List.mem_of_mem_take hu)
   ·exact hn u hu
   ·exact hcur u (List.mem_of_mem_drop hu)
  ·have holds:∀j u,xs[j]? =some u->w.cell? ((⟨g,0,none⟩:Addr).add j)=some u:=hown.1.cells (g:=g) rfl;have hr2:=Go.run_append_grow (P:=P) w t ty e i z ht hi hz ⟨g,0,none⟩ n cap xs (by rw[hown.1.1,hsize]) holds a 1 c news (by omega) hnews (by omega) (by omega) (growslice_fits (by omega) (by rw[hby];exact hbytes));rw[hr]at hr2;injection hr2 with e1 e2
   exact⟨fresh xs _ _ hxs e1 e2,.inr (by rw[e1];rfl)⟩
end
structure OwnQ (q:Bool) (w0 w:World) (k:Nat) (v:Value) (xs:List Rat):Prop where
 row:∃vs:List Value,OwnK 4 w w0.heap.size 42 v xs.length vs/\∀j,j<xs.length->∃s A n c t B m d,vs[j*4]? =some (.bool s)/\vs[j*4+1]? =some (.slice A n c)/\vs[j*4+2]? =some (.bool t)/\vs[j*4+3]? =some (.slice B m d)/\Qe q w s A n c t B m d (rth xs j)/\n<=k/\m<=k
 old:Below w0.heap.size w0 w
theorem OwnQ.form {q:Bool}{w0 w:World}{k:Nat}{v:Value}{xs:List Rat}(h:OwnQ q w0 w k v xs):∃A c,v= .slice A xs.length c/\QL q w A xs.length c k xs:=by
 obtain⟨⟨vs,⟨h1,h2⟩,h3⟩,h4⟩:=h;rcases h1.2 with⟨rfl,e⟩|⟨g,cap,cur,rfl,hb,hh,hn,hm,hcs,ht⟩
 ·rw[List.length_eq_zero_iff.1 e];exact⟨none,0,rfl,QL.nil _ _ _⟩
 ·refine⟨_,cap,rfl,⟨rfl,hn,by unfold maxLen at hm;omega,fun h0=>⟨_,rfl,(Array.getElem?_eq_some_iff.1 hh).1,fun j hj=>?_⟩⟩⟩;obtain⟨s,A,n,c,t,B,m,d,c1,c2,c3,c4,c5,c6⟩:=h3 j hj;have hc:=h1.cells (g:=g) rfl;have e1:=hc _ _ c2;have e2:=hc _ _ c3;have e3:=hc _ _ c4;rw[a_5]at e1 e2 e3;exact⟨s,A,n,c,t,B,m,d,hc _ _ c1,by rw[a_5];exact e1,by rw[a_5];exact e2,by rw[a_5];exact e3,c5,c6⟩
theorem Grew.qe {q:Bool}{w w':World}{v v':Value}(h:Grew w w' v v'){s t:Bool}{A B:Option Addr}{n c m d:Nat}{y:Rat}(hy:Qe q w s A n c t B m d y):Qe q w' s A n c t B m d y:=by
 have h6:=h.by';cases hvb:v.ownBlock with
 |none=>rw[hvb]at h6;exact hy.below ⟨h6.os,h6.tape,h6.output,h6.size,fun k hk=>h6.block k hk (by simp)⟩
 |some g=>rw[hvb]at h6;exact hy.gro (h.now g hvb) h6
theorem i_4 {P:Program}(w0 w1:World){ops:Array Oper}{rest:List Oper}{o:Oper}{a:Act}{Q:Exit->Act->World->Prop}(hgd:o.guard=none)(s x:Operand)(t:TypeId)
  (ho:o.op= .call { callee:=.builtin .append,args:=#[s,x],argTypes:=#[t,t] })
  (ht:P.underlying t=some (.slice 42)) (hinfo:(P.info? 42).map (fun i=>(i.zero,i.size,i.bytes))=some (some (.agg #[.bool false,.slice none 0 0,.bool false,.slice none 0 0]),4,64))
  (q:Bool) (k:Nat) (v:Value) (xs:List Rat) (hs:a.eval s=v) (hown:OwnQ q w0 w1 k v xs) {sb tb:Bool} {A B:Option Addr} {n c m d g:Nat} {z:Rat} (hR:Rb w1 g sb A n c tb B m d) (hz:Qe q w1 sb A n c tb B m d z) (hn:n<=k) (hm:m<=k)
  (hx:a.eval x= .slice (some ⟨g,0,none⟩) 1 1) (hlen:xs.length<=1099511627776)
  (h:∀v' w',OwnQ q w0 w' k v' (xs++[z])->Grew w1 w' v v'->wpList P ops Q rest (a.put o.dst v') w'):
  wpList P ops Q (o::rest) a w1:=by
 obtain⟨i,hi,hz0,hz1,hz2⟩:=info_parts hinfo;have hsz:=hown.old.size;obtain⟨hc0,hc1,hc2,hc3,-⟩:=hR;obtain⟨⟨vs,h1,h3⟩,h4⟩:=hown;obtain⟨v',w',hr,h5,h6,h8⟩:=j_f (P:=P) w1 (ck:=4) (by omega) w0.heap.size t o.type 42 i (.agg #[.bool false,.slice none 0 0,.bool false,.slice none 0 0]) 64 ht hi hz0 hz1 hz2 rfl (fun u hu=>by
   simp[Value.cells]at hu;rcases hu with rfl|rfl|rfl|rfl<;>exact fun m e=>nomatch e) v xs.length vs h1 ⟨g,0,none⟩ 1 [.bool sb,.slice A n c,.bool tb,.slice B m d] rfl (fun j u hu=>by
   rw[a_5];match j,hu with
   |0,hu=>simp at hu;subst hu;exact hc0
   |1,hu=>simp at hu;subst hu;exact hc1
   |2,hu=>simp at hu;subst hu;exact hc2
   |3,hu=>simp at hu;subst hu;exact hc3) (fun u hu=>by
   simp at hu;rcases hu with rfl|rfl|rfl|rfl<;>rfl) (fun u hu=>by
   simp at hu;rcases hu with rfl|rfl|rfl|rfl<;>exact fun m e=>nomatch e) (by unfold maxLen;omega) (by omega) (by omega)
 refine wpList_plain hgd fun K hK'=>?_;unfold Oper.wp execOp;simp only[ho,resolve,invoke,builtin,Sem.run_bind,Sem.run_pure,Result.andThen_ok,List.map_toArray,List.map_cons,List.map_nil,hs,hx,hr];have hvl:vs.length=xs.length*4:=h1.1.1;have hG:Grew w1 w' v v':=⟨h6,fun g hg=>h1.wless hg,h8⟩;refine hK' _ _ (h v' w' ⟨⟨_,by rw[List.length_append];exact h5,fun j hj=>?_⟩, ?_⟩ hG)
 ·rw[List.length_append,List.length_singleton]at hj;rcases Nat.lt_or_ge j xs.length with hlt|hge
  ·obtain⟨s',A',n',c',t',B',m',d',c1,c2,c3,c4,c5,c6⟩:=h3 j hlt;refine⟨s',A',n',c',t',B',m',d',by rw[List.getElem?_append_left (by omega)];exact c1,by rw[List.getElem?_append_left (by omega)];exact c2,by rw[List.getElem?_append_left (by omega)];exact c3,by rw[List.getElem?_append_left (by omega)];exact c4, ?_,c6⟩;rw[show rth (xs++[z]) j=rth xs j by simp[rth,List.getD,List.getElem?_append_left hlt]];exact hG.qe c5
  ·obtain rfl:j=xs.length:=by omega
   refine⟨sb,A,n,c,tb,B,m,d,by rw[List.getElem?_append_right (by omega),hvl,Nat.sub_self];rfl,by rw[List.getElem?_append_right (by omega),hvl,show xs.length*4+1 - xs.length*4=1 by omega];rfl,by rw[List.getElem?_append_right (by omega),hvl,show xs.length*4+2 - xs.length*4=2 by omega];rfl,by rw[List.getElem?_append_right (by omega),hvl,show xs.length*4+3 - xs.length*4=3 by omega];rfl, ?_,hn,hm⟩;rw[show rth (xs++[z]) xs.length=z by simp[rth,List.getD]];exact hG.qe hz
 ·exact h4.grown h6 h4.size (fun k hk=>(h1.1.lt k hk).1)
end
section
open Go.RowKit
def IsQv (x:Rat)(k:Nat):FVal:=fun v w=>∃s A n c t B m d,v= .agg #[.bool s,.slice A n c,.bool t,.slice B m d]/\Qv w s A n c t B m d x/\n<=k/\m<=k
theorem o_m (x:Rat)(k:Nat):Stays (IsQv x k):=fun v w w' ⟨s,A,n,c,t,B,m,d,e,h,hk⟩ hb=>⟨s,A,n,c,t,B,m,d,e,h.below hb,hk⟩
def kQv (x:Rat)(k:Nat):FK:=.f (IsQv x k) (o_m x k)
theorem IsQ.v {x:Rat}{k:Nat}{v:Value}{w:World}(h:IsQ x k v w):IsQv x k v w:=by
 obtain⟨s,A,n,c,t,B,m,d,e,h1,h2⟩:=h;exact⟨s,A,n,c,t,B,m,d,e,h1.qv,h2⟩
theorem Qv.is {w:World}{s t:Bool}{A B:Option Addr}{n c m d k:Nat}{x:Rat}(h:Qv w s A n c t B m d x)(hn:n<=k)(hm:m<=k):IsQv x k (.agg #[.bool s,.slice A n c,.bool t,.slice B m d]) w:=⟨s,A,n,c,t,B,m,d,rfl,h,hn,hm⟩
theorem Qc.is {w:World}{s t:Bool}{A B:Option Addr}{n c m d k:Nat}{x:Rat}(h:Qc w s A n c t B m d x)(hn:n<=k)(hm:m<=k):IsQ x k (.agg #[.bool s,.slice A n c,.bool t,.slice B m d]) w:=⟨s,A,n,c,t,B,m,d,rfl,h,hn,hm⟩
theorem QPost.q {x:Rat}{k k':Nat}{w w':World}{e:Ending}(h:QPost x k w e w')(hk:k<=k'):RetK (kQ x k') w e w':=by
 obtain⟨s,A,n,c,t,B,m,d,e,h1,h2,h3,h4⟩:=h;exact⟨_,e,h1.is (Nat.le_trans h2 hk) (Nat.le_trans h3 hk),h4⟩
theorem QbPost.q {x:Rat}{b:Bool}{k k':Nat}{w w':World}{e:Ending}(h:QbPost x b k w e w')(hk:k<=k'):RetK (kT (kQ x k') (.k (.bool b))) w e w':=by
 obtain⟨s,A,n,c,t,B,m,d,e,h1,h2,h3,h4⟩:=h;exact⟨_,e,⟨_,_,rfl,h1.is (Nat.le_trans h2 hk) (Nat.le_trans h3 hk),rfl⟩,h4⟩
section
variable {u v:Value}{x y:Rat}{n m K:Nat}{w:World}
theorem x_5 (k:Nat)(hx:IsQv x n u w)(hy:IsQv y m v w)(hn:n<=k)(hm:m<=k)(h1:1<=k)(hk:k<=1073741824)(hK:2*k+1<=K):Calls Tryz.prog 61 #[u,v] w (RetK (kQ (x+y) K) w):=by
 obtain⟨s,A,a,c,t,B,b,d,rfl,g1,g2,g3⟩:=hx;obtain⟨s',A',a',c',t',B',b',d',rfl,i1,i2,i3⟩:=hy;exact(add_q g1 i1 k (by omega) (by omega) (by omega) (by omega) h1 hk).mono fun e w' h=>h.q hK
theorem x_w (k:Nat)(hx:IsQv x n u w)(hy:IsQv y m v w)(hn:n<=k)(hm:m<=k)(h1:1<=k)(hk:k<=1073741824)(hK:2*k<=K){b:Bool}(hb:decide (y≠0)=b):Calls Tryz.prog 166 #[u,v] w (RetK (kT (kQ (x / y) K) (.k (.bool b))) w):=by
 obtain⟨s,A,a,c,t,B,b,d,rfl,g1,g2,g3⟩:=hx;obtain⟨s',A',a',c',t',B',b',d',rfl,i1,i2,i3⟩:=hy;exact(quo_q g1 i1 k (by omega) (by omega) (by omega) (by omega) h1 hk hb).mono fun e w' h=>h.q hK
theorem o_8 (k:Nat)(hx:IsQv x n u w)(hy:IsQv y m v w)(hn:n<=k)(hm:m<=k)(h1:1<=k)(hk:k<=1073741824){r:Int}(hr:rsg (x - y)=r):Calls Tryz.prog 12 #[u,v] w (RetK (.k (.int .i64 r)) w):=by
 obtain⟨s,A,a,c,t,B,b,d,rfl,g1,g2,g3⟩:=hx;obtain⟨s',A',a',c',t',B',b',d',rfl,i1,i2,i3⟩:=hy;exact(cmp_q g1 i1 k (by omega) (by omega) (by omega) (by omega) h1 hk hr).mono fun e w' h=>⟨_,h.1,rfl,h.2⟩
end
theorem j_g {x:Rat}:rsg x=0↔x=0:=by
 unfold rsg;rw[Int.sign_eq_zero_iff_zero];exact Rat.num_eq_zero
theorem rsg_sub_zero {x y:Rat}:rsg (x - y)=0↔x=y:=by
 rw[j_g];constructor<;>intro h<;>grind
theorem qp_cells:Tryz.prog.cellsOf 42=4:=by kernel_rfl
theorem ldQ {w:World}{p:Addr}{s t:Bool}{A B:Option Addr}{n c m d:Nat}(hp:p.block<w.heap.size)(h0:w.cell? p=some (.bool s))(h1:w.cell? ⟨p.block,p.off+1,none⟩=some (.slice A n c))(h2:w.cell? ⟨p.block,p.off+2,none⟩=some (.bool t))(h3:w.cell? ⟨p.block,p.off+3,none⟩=some (.slice B m d)):
  ∀w',Below w.heap.size w w'->(Instr.loadAt 42 (.pointer (some p))).run Tryz.prog w'= .ok (.agg #[.bool s,.slice A n c,.bool t,.slice B m d]) w':=fun w' hb=>
 m_c ((hb.cell hp).trans h0) ((hb.cell (p:=⟨p.block,p.off+1,none⟩) hp).trans h1) ((hb.cell (p:=⟨p.block,p.off+2,none⟩) hp).trans h2) ((hb.cell (p:=⟨p.block,p.off+3,none⟩) hp).trans h3)
theorem retQ {w w2:World}{g k n c m d n0 c0 m0 d0:Nat}{s t s0 t0:Bool}{A B A0 B0:Option Addr}{x:Rat}(h:Qc w2 s A n c t B m d x)(hi:Rb w2 g s0 A0 n0 c0 t0 B0 m0 d0)(hn:n<=k)(hm:m<=k)(hg:w.heap.size<=g)(hB:Below w.heap.size w w2):
  RetK (kQ x k) w (.returned (.agg #[.bool s,.slice A n c,.bool t,.slice B m d])) (rput w2 g s A n c t B m d):=(qfin h hi hn hm hg hB).q (Nat.le_refl _)
theorem retQv {w w2:World}{g k n c m d n0 c0 m0 d0:Nat}{s t s0 t0:Bool}{A B A0 B0:Option Addr}{x:Rat}(h:Qv w2 s A n c t B m d x)(hi:Rb w2 g s0 A0 n0 c0 t0 B0 m0 d0)(hn:n<=k)(hm:m<=k)(hg:w.heap.size<=g)(hB:Below w.heap.size w w2):
  RetK (kQv x k) w (.returned (.agg #[.bool s,.slice A n c,.bool t,.slice B m d])) (rput w2 g s A n c t B m d):=⟨_,rfl,(h.rput hi).is hn hm,b_9 hB hg⟩
def qmk (r c:Nat)(F:Nat->Nat->Rat):List Rat:=(List.range (r*c)).map fun m=>F (m / c) (m%c)
theorem b_f (r c:Nat)(F:Nat->Nat->Rat):(qmk r c F).length=r*c:=by simp[qmk]
theorem h_f {r c i j:Nat}(hi:i<r)(hj:j<c):i*c+j<r*c:=by
 have:i*c+c<=r*c:=by rw[<-Nat.succ_mul];exact Nat.mul_le_mul_right c hi
 omega
theorem j_r {r c i j:Nat}{F:Nat->Nat->Rat}(hi:i<r)(hj:j<c):rth (qmk r c F) (i*c+j)=F i j:=by
 have h:=h_f hi hj;have h1:(i*c+j) / c=i:=by rw[Nat.mul_comm,Nat.mul_add_div (by omega),Nat.div_eq_of_lt hj];omega
 have h2:(i*c+j)%c=j:=by rw[Nat.mul_comm,Nat.mul_add_mod,Nat.mod_eq_of_lt hj]
 simp[rth,qmk,List.getD,h,h1,h2]
theorem p_a {r c m:Nat}(h:m<r*c):m / c<r/\m%c<c/\m / c*c+m%c=m:=by
 have hc:0<c:=Nat.pos_of_ne_zero fun e=>by subst e;simp at h
 exact⟨Nat.div_lt_of_lt_mul (by rw[Nat.mul_comm];exact h),Nat.mod_lt _ hc,by rw[Nat.mul_comm];exact Nat.div_add_mod m c⟩
theorem c_7 {r c:Nat}{F G:Nat->Nat->Rat}(h:∀i j,i<r->j<c->F i j=G i j):qmk r c F=qmk r c G:=by
 unfold qmk;apply List.map_congr_left;intro m hm;obtain⟨h1,h2,_⟩:=p_a (List.mem_range.1 hm);exact h _ _ h1 h2
structure Mq (q:Bool) (w:World) (r c:Nat) (A:Option Addr) (n d k:Nat) (F:Nat->Nat->Rat):Prop where
 ql:QL q w A n d k (qmk r c F)
 hr:r<=64
 hc:c<=64
section
variable {q:Bool}{w w':World}{r c n d k k':Nat}{A:Option Addr}{F G:Nat->Nat->Rat}
theorem Mq.below (h:Mq q w r c A n d k F)(hb:Below w.heap.size w w'):Mq q w' r c A n d k F:=⟨h.ql.below hb,h.hr,h.hc⟩
theorem Mq.len (h:Mq q w r c A n d k F):n=r*c:=by have:=h.ql.len;rw[b_f]at this;exact this.symm
theorem Mq.big (h:Mq q w r c A n d k F):r*c<=4096:=Nat.mul_le_mul h.hr h.hc
theorem Mq.congr (h:Mq q w r c A n d k F)(e:∀i j,i<r->j<c->F i j=G i j):Mq q w r c A n d k G:=⟨by rw[<-c_7 e];exact h.ql,h.hr,h.hc⟩
theorem Mq.mono (h:Mq q w r c A n d k F)(hk:k<=k'):Mq q w r c A n d k' F:=⟨h.ql.mono hk,h.hr,h.hc⟩
theorem Mq.elem (h:Mq q w r c A n d k F){i j:Nat}(hi:i<r)(hj:j<c):∃ad,A=some ad/\ad.block<w.heap.size/\i*c+j<n/\QAt q w (ad.add ((i*c+j)*4)) k (F i j):=by
 have hl:i*c+j<n:=by rw[h.len];exact h_f hi hj
 obtain⟨ad,e,h1,h2⟩:=h.ql.at hl;rw[j_r hi hj]at h2;exact⟨ad,e,h1,hl,h2⟩
end
end
section
open Go.RowKit
theorem Bx.m3 {w:World}{g:Nat}{T:TypeId}{x y z:Value}(b:Bx w g T [x,y,z]):w.cell? ⟨g,0,none⟩=some x/\w.cell? ⟨g,1,none⟩=some y/\w.cell? ⟨g,2,none⟩=some z/\w.frozen? ⟨g,0,none⟩=false/\w.frozen? ⟨g,1,none⟩=false/\w.frozen? ⟨g,2,none⟩=false/\g<w.heap.size:=⟨b.cell 0,b.cell 1,b.cell 2,b.free 0,b.free 1,b.free 2,b.lt⟩
theorem argsF (i j:Value):#[]++ #[i,j]++ #[]= #[i,j]:=rfl
theorem argsC2 (i j a b:Value):#[]++ #[i,j]++ #[a,b]= #[i,j,a,b]:=rfl
end
section
open Go.RowKit
section
variable {w w':World}{g h:Nat}{T U:TypeId}{cs ds:List Value}
theorem ldQl (b:Bx w g T cs)(o:Nat){A:Option Addr}{n c:Nat}(hc:cs[o]? =some (.slice A n c):=by rfl):∀w',Below w.heap.size w w'->(Instr.loadAt 22 (.pointer (some ⟨g,o,none⟩))).run Tryz.prog w'= .ok (.slice A n c) w':=fun w' hb=>by
 have h:=(b.below hb).cell o;rw[hc]at h;simp[go_sem,a_j,h]
theorem ldQm (b:Bx w g T cs)(o:Nat){r c:Int}{A:Option Addr}{n d:Nat}(h0:cs[o]? =some (.int .i64 r):=by rfl)(h1:cs[o+1]? =some (.int .i64 c):=by rfl)(h2:cs[o+2]? =some (.slice A n d):=by rfl):∀w',Below w.heap.size w w'->(Instr.loadAt 24 (.pointer (some ⟨g,o,none⟩))).run Tryz.prog w'= .ok (.agg #[.int .i64 r,.int .i64 c,.slice A n d]) w':=fun w' hb=>by
 have e0:=(b.below hb).cell o;have e1:=(b.below hb).cell (o+1);have e2:=(b.below hb).cell (o+2);rw[h0]at e0;rw[h1]at e1;rw[h2]at e2;simp[go_sem,e0,e1,e2]
end
section
variable {g o:Nat}
theorem fQ0 (o':Nat)(h:o+0=o':=by rfl)(w:World):(Instr.fieldAt 24 (.pointer (some ⟨g,o,none⟩)) 0).run Tryz.prog w= .ok (.pointer (some ⟨g,o',none⟩)) w:=by subst h;simp[go_sem]
theorem fQ1 (o':Nat)(h:o+1=o':=by rfl)(w:World):(Instr.fieldAt 24 (.pointer (some ⟨g,o,none⟩)) 1).run Tryz.prog w= .ok (.pointer (some ⟨g,o',none⟩)) w:=by subst h;simp[go_sem]
theorem fQ2 (o':Nat)(h:o+2=o':=by rfl)(w:World):(Instr.fieldAt 24 (.pointer (some ⟨g,o,none⟩)) 2).run Tryz.prog w= .ok (.pointer (some ⟨g,o',none⟩)) w:=by subst h;simp[go_sem]
end
theorem u_v {w:World}{ad:Addr}{n c k:Nat}(h:k<n):(Instr.indexAt 22 (.slice (some ad) n c) (.int .i64 (k:Int))).run Tryz.prog w= .ok (.pointer (some (ad.add (k*4)))) w:=by
 simp[go_sem,Tryz.underlying22,qp_cells];omega
theorem opIxQ {ad:Addr}{n c k:Nat}{X Y:Operand}(h:k<n)(w:World):RunTwo Tryz.prog (.indexAddr 22 X Y) w (.slice (some ad) n c) (.int .i64 (k:Int)) (.pointer (some (ad.add (k*4)))):=u_v h
section
variable {q:Bool}{w w2:World}{A B C:Option Addr}{r c n d k g m e n' d':Nat}{x y r' c':Int}{F:Nat->Nat->Rat}{T:TypeId}
theorem Mq.fmd (h:Mq q w r c A n d k F):fmd (r:Int) (c:Int) n=true:=by
 have h1:=h.hr;have h2:=h.hc;have h3:=h.len;unfold Proofs.YtfhbdlegkdbmfaaGreat.fmd sd;simp only[Bool.and_eq_true,decide_eq_true_eq];refine⟨⟨⟨by omega,by omega⟩,by omega,by omega⟩,by rw[h3];simp⟩
theorem retNoT {e':Int}(b:Bx w2 g T [.int .i64 x,.int .i64 y,.slice B m e])(hg:w.heap.size<=g)(hB:Below w.heap.size w w2):
  RetK (noM e') w (.returned (.tuple #[.agg #[.int .i64 0,.int .i64 0,.slice none 0 0],.int .i64 e'])) (mput w2 g 0 0 none 0 0):=⟨_,rfl,rfl,b_4 hB hg⟩
theorem Bx.moT {h:Nat}{U:TypeId}{cs:List Value}(b:Bx w h U cs)(hn:h≠g):Bx (mput w g r' c' C n' d') h U cs:=((b.off hn _ _).off hn _ _).off hn _ _
theorem Bx.mpT (b:Bx w g T [.int .i64 x,.int .i64 y,.slice B m e]):Bx (mput w g r' c' C n' d') g T [.int .i64 r',.int .i64 c',.slice C n' d']:=((b.set 0 _).set 1 _).set 2 _
end
section
variable {w w2:World}{s t s0 t0 s' t':Bool}{A B A0 B0 A' B':Option Addr}{n c m d n0 c0 m0 d0 n' c' m' d' g h:Nat}{T U:TypeId}{cs:List Value}
theorem c_i (w:World)(g:Nat)(s:Bool)(A:Option Addr)(n c:Nat)(t:Bool)(B:Option Addr)(m d:Nat):w.grownBy (rput w g s A n c t B m d) (some g):=by
 unfold rput;exact a_d (q:=⟨g,3,none⟩) (a_d (q:=⟨g,2,none⟩) (a_d (q:=⟨g,1,none⟩) (a_d (q:=⟨g,0,none⟩) (a_m w (some g)) rfl _) rfl _) rfl _) rfl _
end
end
section
def abv (f:Nat->Rat):Nat->Nat
 |0=>0
 |i+1=>Nat.gcd (abv f i) (f i).num.natAbs
def blw (f:Nat->Rat):Nat->Nat
 |0=>1
 |i+1=>blw f i / Nat.gcd (blw f i) (f i).den*(f i).den
def abx (f:Nat->Rat)(n:Nat):Nat:=if abv f n=0 then 1 else abv f n
def ptn (f:Nat->Rat)(n i:Nat):Int:=(f i).num / (abx f n:Int)*((blw f n / (f i).den:Nat):Int)
def pct (f:Nat->Rat)(n:Nat):Rat:=Rat.divInt (abx f n:Int) (blw f n:Int)
section
variable {f:Nat->Rat}{n i:Nat}
theorem l_s (f:Nat->Rat)(i:Nat):blw f (i+1)=Nat.lcm (blw f i) (f i).den:=by
 show _ / _*_=_
 unfold Nat.lcm;rw[Nat.mul_comm,<-Nat.mul_div_assoc _ (Nat.gcd_dvd_left _ _),Nat.mul_comm]
theorem e_j (f:Nat->Rat):∀n,0<blw f n
 |0=>Nat.one_pos
 |n+1=>by rw[l_s];exact Nat.lcm_pos (e_j f n) (f n).den_pos
theorem l_t (f:Nat->Rat):∀n i,i<n->(f i).den∣blw f n
 |0,i,h=>by omega
 |n+1,i,h=>by
  rw[l_s];rcases Nat.lt_or_ge i n with h1|h1
  ·exact Nat.dvd_trans (l_t f n i h1) (Nat.dvd_lcm_left _ _)
  ·rw[show i=n by omega];exact Nat.dvd_lcm_right _ _
theorem q_w (f:Nat->Rat):∀n i,i<n->abv f n∣(f i).num.natAbs
 |0,i,h=>by omega
 |n+1,i,h=>by
  show Nat.gcd _ _∣_
  rcases Nat.lt_or_ge i n with h1|h1
  ·exact Nat.dvd_trans (Nat.gcd_dvd_left _ _) (q_w f n i h1)
  ·rw[show i=n by omega];exact Nat.gcd_dvd_right _ _
theorem l_x (f:Nat->Rat)(n:Nat):0<abx f n:=by unfold abx;split<;>omega
theorem q_v (h:i<n):(abx f n:Int)∣(f i).num:=by
 unfold abx;split
 ·exact⟨(f i).num,by simp⟩
 ·exact Int.ofNat_dvd_left.mpr (q_w f n i h)
theorem p_b (h:i<n):ptn f n i*(abx f n:Int)*((f i).den:Int)=(f i).num*(blw f n:Int):=by
 obtain⟨a,ha⟩:=q_v (f:=f) h;obtain⟨b,hb⟩:=l_t f n i h;have hp:=l_x f n;unfold ptn;rw[hb,Nat.mul_div_cancel_left _ (f i).den_pos];have e:(f i).num / (abx f n:Int)=a:=by rw[ha];exact Int.mul_ediv_cancel_left a (by omega)
 rw[e];conv=>rhs;rw[ha]
 rw[Int.natCast_mul];grind
theorem t_u (f:Nat->Rat)(n:Nat):pct f n*((blw f n:Int):Rat)=((abx f n:Int):Rat):=by
 have h2:=e_j f n;have h3:((blw f n:Int):Rat)≠0:=fun e=>by
  have:(blw f n:Int)=0:=by exact_mod_cast e
  omega
 unfold pct;rw[Rat.divInt_eq_div];exact Rat.div_mul_cancel h3
theorem h_g (f:Nat->Rat)(n:Nat):pct f n≠0:=by
 have h1:=l_x f n;have e:=t_u f n;intro h0;rw[h0,Rat.zero_mul]at e;have:(abx f n:Int)=0:=by exact_mod_cast e.symm
 omega
theorem i_l (h:i<n):f i=((ptn f n i:Int):Rat)*pct f n:=by
 have e:=p_b (f:=f) h;have h2:=e_j f n;have h3:((blw f n:Int):Rat)≠0:=fun e=>by
  have:(blw f n:Int)=0:=by exact_mod_cast e
  omega
 have h4:(((f i).den:Int):Rat)≠0:=fun e=>by
  have:((f i).den:Int)=0:=by exact_mod_cast e
  have:=(f i).den_pos;omega
 have e1:((ptn f n i:Int):Rat)*((abx f n:Int):Rat)*(((f i).den:Int):Rat)=(((f i).num:Int):Rat)*((blw f n:Int):Rat):=by
  rw[<-Rat.intCast_mul,<-Rat.intCast_mul,e,Rat.intCast_mul]
 have e2:f i*(((f i).den:Int):Rat)=(((f i).num:Int):Rat):=by
  have:=Rat.num_divInt_den (f i);rw[Rat.divInt_eq_div]at this;have h5:=Rat.div_mul_cancel (a:=(((f i).num:Int):Rat)) h4;rw[this]at h5;exact h5
 have e3:=t_u f n;have k1:=Rat.mul_inv_cancel _ h3;have k2:=Rat.mul_inv_cancel _ h4;grind
end
end
section
open Go.RowKit
def flq (l:List Rat)(m:Nat):List Rat:=l.take m++List.replicate (l.length - m) 0
theorem m_s (l:List Rat):flq l 0=List.replicate l.length 0:=by simp[flq]
theorem p_z (l:List Rat):flq l l.length=l:=by simp[flq]
theorem f_a {l:List Rat}{m:Nat}(h:m<=l.length):(flq l m).length=l.length:=by simp[flq];omega
theorem l_f {l:List Rat}{m:Nat}(h:m<l.length):(flq l m).set m (rth l m)=flq l (m+1):=by
 apply List.ext_getElem
 ·rw[List.length_set,f_a (by omega),f_a (by omega)]
 ·intro j h1 h2;rw[f_a (by omega)]at h2;rw[List.getElem_set];by_cases e:m=j
  ·subst e;rw[if_pos rfl];simp only[flq];rw[List.getElem_append_left (by simp;omega)];simp[rth,List.getD,h2]
  ·rw[if_neg e];simp only[flq];rcases Nat.lt_or_ge j m with h3|h3
   ·rw[List.getElem_append_left (by simp;omega),List.getElem_append_left (by simp;omega)];simp
   ·rw[List.getElem_append_right (by simp;omega),List.getElem_append_right (by simp;omega)];simp
theorem QB.cf {w:World}{g k:Nat}{f f':Nat->Bool}{xs:List Rat}(h:QB w g k f xs)(e:∀j,j<xs.length->f j=f' j):QB w g k f' xs:=by
 obtain⟨cs,h1,h2,h3⟩:=h;refine⟨cs,h1,h2,fun j hj=>?_⟩;rw[<-e j hj];exact h3 j hj
theorem g_4 {P:Program}(w:World){ops:Array Oper}{rest:List Oper}{o:Oper}{a:Act}{Q:Exit->Act->World->Prop}
  (hg:o.guard=none) (l c:Operand) (t:TypeId) (hop:o.op=Op.makeSlice t l c)
  (ht:P.underlying t=some (.slice 42)) (hinfo:(P.info? 42).map (fun i=>(i.zero,i.size,i.bytes))=some (some (.agg #[.bool false,.slice none 0 0,.bool false,.slice none 0 0]),4,64))
  (n:Nat) (hl:a.eval l= .int .i64 0) (hc:a.eval c= .int .i64 (n:Int)) (hbytes:n<=2199023255552)
  (hK:∀w',QB w' w.heap.size 0 (fun _=>false) (List.replicate n 0)->Below w.heap.size w w'->w'.heap.size=w.heap.size+1->wpList P ops Q rest (a.put o.dst (.slice (some ⟨w.heap.size,0,none⟩) 0 n)) w'):
  wpList P ops Q (o::rest) a w:=by
 obtain⟨i,hi,hz0,hz1,hz2⟩:=info_parts hinfo;have hrun:=run_make (P:=P) w t 42 i (.agg #[.bool false,.slice none 0 0,.bool false,.slice none 0 0]) ht hi hz0 .i64 .i64 0 (n:Int) (by omega) (by omega) (by rw[hz2];omega) (by omega);refine wpList_plain hg fun K hK'=>?_;unfold Oper.wp;simp[execOp,hop,hl,hc,hrun,Result.andThen];refine hK' _ _ (hK _ ?_ ((Below.refl _ _).alloc (Nat.le_refl _) _) (by simp));rw[hz1];exact QB.made w n
theorem f_v {P:Program}{w:World}{ops:Array Oper}{rest:List Oper}{o:Oper}{a:Act}{Q:Exit->Act->World->Prop}(hgd:o.guard=none)(s x:Operand)(t:TypeId)
  (ho:o.op= .call { callee:=.builtin .append,args:=#[s,x],argTypes:=#[t,t] })
  (ht:P.underlying t=some (.slice 42)) (hinfo:(P.info? 42).map (fun i=>(i.zero,i.size,i.bytes))=some (some (.agg #[.bool false,.slice none 0 0,.bool false,.slice none 0 0]),4,64))
  {g k m cap h n c n' c':Nat} {sb tb:Bool} {A B:Option Addr} {z:Rat} {zs:List Rat} {f:Nat->Bool} {q:Bool} (hs:a.eval s= .slice (some ⟨g,0,none⟩) m cap) (hx:a.eval x= .slice (some ⟨h,0,none⟩) 1 1)
  (hone:Bx w h 42 [.bool sb,.slice A n c,.bool tb,.slice B n' c']) (hz:Qe q w sb A n c tb B n' c' z) (hn:n<=k) (hn2:n'<=k) (hb:QB w g k f zs) (hm:m<zs.length) (hcap:cap=zs.length)
  (K:∀w',QB w' g k (fun i=>if i=m then q else f i) (zs.set m z)->w.grownBy w' (some g)->wpList P ops Q rest (a.put o.dst (.slice (some ⟨g,0,none⟩) (m+1) cap)) w'):
  wpList P ops Q (o::rest) a w:=by
 obtain⟨i,hi,hz0,hz1,hz2⟩:=info_parts hinfo;have hno:=hb.now;have hput:=hb.put (q:=q) (j:=m) hm hz hn hn2;obtain⟨cs,h1,h2,h3⟩:=hb;have c0:=hone.cell 0;have c1:=hone.cell 1;have c2:=hone.cell 2;have c3:=hone.cell 3;simp at c0 c1 c2 c3;have hrun:=run_append_room (P:=P) w t o.type 42 i ht hi g m cap cs h1 ⟨h,0,none⟩ 1 1 [.bool sb,.slice A n c,.bool tb,.slice B n' c'] (by rw[hz1];rfl) (fun j u hu=>by
   rw[a_5];match j,hu with
   |0,hu=>simp at hu;subst hu;exact c0
   |1,hu=>simp at hu;subst hu;exact c1
   |2,hu=>simp at hu;subst hu;exact c2
   |3,hu=>simp at hu;subst hu;exact c3) (fun u hu=>by
   simp at hu;rcases hu with rfl|rfl|rfl|rfl<;>rfl) (by omega) (by rw[hz1,h2];simp;omega)
 rw[hz1]at hrun;have eC:(cs.toList.take (m*4)++[Value.bool sb,.slice A n c,.bool tb,.slice B n' c']++cs.toList.drop (m*4+4)).toArray=(((cs.setIfInBounds (m*4) (.bool sb)).setIfInBounds (m*4+1) (.slice A n c)).setIfInBounds (m*4+2) (.bool tb)).setIfInBounds (m*4+3) (.slice B n' c'):=by
  apply Array.ext';simp only[Array.toList_setIfInBounds];apply List.ext_getElem?;intro j;have hl:m*4+3<cs.toList.length:=by rw[Array.length_toList,h2];omega
  rw[List.getElem?_set,List.getElem?_set,List.getElem?_set,List.getElem?_set];rcases(by omega:j<m*4\/j=m*4\/j=m*4+1\/j=m*4+2\/j=m*4+3\/m*4+3<j)with e|e|e|e|e|e
  ·rw[if_neg (by omega),if_neg (by omega),if_neg (by omega),if_neg (by omega),List.append_assoc,List.getElem?_append_left (by simp;omega),List.getElem?_take_of_lt e]
  ·subst e;rw[if_neg (by omega),if_neg (by omega),if_neg (by omega),if_pos rfl,if_pos (by omega),List.append_assoc,List.getElem?_append_right (by simp;omega)];rw[List.length_take,Nat.min_eq_left (by omega),Nat.sub_self];rfl
  ·subst e;rw[if_neg (by omega),if_neg (by omega),if_pos rfl,if_pos (by simp;omega),List.append_assoc,List.getElem?_append_right (by simp;omega)];rw[List.length_take,Nat.min_eq_left (by omega),show m*4+1 - m*4=1 by omega];rfl
  ·subst e;rw[if_neg (by omega),if_pos rfl,if_pos (by simp;omega),List.append_assoc,List.getElem?_append_right (by simp;omega)];rw[List.length_take,Nat.min_eq_left (by omega),show m*4+2 - m*4=2 by omega];rfl
  ·subst e;rw[if_pos rfl,if_pos (by simp;omega),List.append_assoc,List.getElem?_append_right (by simp;omega)];rw[List.length_take,Nat.min_eq_left (by omega),show m*4+3 - m*4=3 by omega];rfl
  ·rw[if_neg (by omega),if_neg (by omega),if_neg (by omega),if_neg (by omega),List.getElem?_append_right (by simp;omega),List.getElem?_drop];congr 1
   simp;omega
 rw[show([Value.bool sb,Value.slice A n c,.bool tb,.slice B n' c']:List Value).length=4 from rfl,eC]at hrun;obtain⟨w',hw'⟩:∃w',w'=w.setRow g ((((cs.setIfInBounds (m*4) (.bool sb)).setIfInBounds (m*4+1) (.slice A n c)).setIfInBounds (m*4+2) (.bool tb)).setIfInBounds (m*4+3) (.slice B n' c')):=⟨_,rfl⟩;have hg:w'.heap[g]? =(qputo w g (m*4) sb A n c tb B n' c').heap[g]? :=by
  rw[hw',setRow_heap w g cs _ _ _ h1];unfold qputo;rw[heap_setCell_same _ g _ _ _ _ (heap_setCell_same _ g _ _ _ _ (heap_setCell_same _ g _ _ _ _ (heap_setCell_same w g _ _ _ _ h1)))]
 have hgr:w.grownBy w' (some g):=by
  subst hw';exact⟨rfl,rfl,rfl,by simp[World.setRow],fun j _ hj=>setRow_other w g j _ (fun e=>hj (by rw[e]))⟩
 have hgz:=d_o w g (m*4) sb A n c tb B n' c';have hsz:(qputo w g (m*4) sb A n c tb B n' c').heap.size=w.heap.size:=by unfold qputo;simp
 have hbb:Below (qputo w g (m*4) sb A n c tb B n' c').heap.size (qputo w g (m*4) sb A n c tb B n' c') w':=by
  refine⟨hgr.os.trans hgz.os.symm,hgr.tape.trans hgz.tape.symm,hgr.output.trans hgz.output.symm,by rw[hsz];exact hgr.size,fun j hj=>?_⟩;rw[hsz]at hj;by_cases e:j=g
  ·subst e;exact hg
  ·exact(hgr.block j hj (fun h=>e (Option.some.inj h))).trans (hgz.block j hj (fun h=>e (Option.some.inj h))).symm
 rw[<-hw']at hrun;refine wpList_plain hgd fun K' hK'=>?_;unfold Oper.wp execOp;simp only[ho,resolve,invoke,builtin,Sem.run_bind,Sem.run_pure,Result.andThen_ok,List.map_toArray,List.map_cons,List.map_nil,hs,hx,hrun];exact hK' _ _ (K _ (hput.below hbb) hgr)
def IsQe (q:Bool)(x:Rat)(k:Nat):FVal:=fun v w=>∃s A n c t B m d,v= .agg #[.bool s,.slice A n c,.bool t,.slice B m d]/\Qe q w s A n c t B m d x/\n<=k/\m<=k
def kQe (q:Bool)(x:Rat)(k:Nat):FK:=.f (IsQe q x k) (fun v w w' ⟨s,A,n,c,t,B,m,d,e,h,h2⟩ hb=>⟨s,A,n,c,t,B,m,d,e,h.below hb,h2⟩)
theorem t_r {w w':World}{x:Rat}{k:Nat}{e:Ending}(h:RetK (kQ x k) w e w'):RetK (kQe true x k) w e w':=h.mono fun v w2 ⟨s,A,n,c,t,B,m,d,e,h1,h2⟩=>⟨s,A,n,c,t,B,m,d,e,.of h1,h2⟩
theorem u_5 {w w':World}{x:Rat}{k:Nat}{e:Ending}(h:RetK (kQv x k) w e w'):RetK (kQe false x k) w e w':=h.mono fun v w2 ⟨s,A,n,c,t,B,m,d,e,h1,h2⟩=>⟨s,A,n,c,t,B,m,d,e,⟨h1,fun e=>nomatch e⟩,h2⟩
def IsOneQ (q:Bool)(b:Nat)(z:Rat)(k:Nat):FVal:=fun v w=>∃g s A n c t B m d,v= .slice (some ⟨g,0,none⟩) 1 1/\Bx w g 42 [.bool s,.slice A n c,.bool t,.slice B m d]/\b<=g/\Qe q w s A n c t B m d z/\n<=k/\m<=k
def kOneQ (q:Bool)(b:Nat)(z:Rat)(k:Nat):FK:=.f (IsOneQ q b z k) (fun v w w' ⟨g,s,A,n,c,t,B,m,d,e,h1,h2,h3,h4⟩ hb=>⟨g,s,A,n,c,t,B,m,d,e,h1.below hb,h2,h3.below hb,h4⟩)
theorem o_t {w:World}{s t:Bool}{A B:Option Addr}{n c m d:Nat}:(Instr.buildSlice 22 1 #[(0,.agg #[.bool s,.slice A n c,.bool t,.slice B m d])]).run Tryz.prog w= .ok (.slice (some ⟨w.heap.size,0,none⟩) 1 1) (w.alloc (.cells #[.bool s,.slice A n c,.bool t,.slice B m d] 42)):=by kernel_rfl
def okBsQ (ops:Array Oper)(m i:Nat)(s:Src):Bool:=okH ops m i&&(match(opAt ops i).op with| .buildSlice T 1 xs=>(match xs.toList with| [(0,x)]=>T==22&&s.ok ops m i x|_=>false)|_=>false)
theorem Run.bsq {ops:Array Oper}{Q:Exit->Act->World->Prop}{m i:Nat}{a0:Act}{w0:World}{l:List FK}{b:Bool}{id:Nat}(s:Src){q:Bool}{z:Rat}{k b0:Nat}(hb0:b0<=w0.heap.size)(rest:R ops Q m a0 w0 b id (kOneQ q b0 z k::l) (i+1))
  (hx:s.K l i a0 (bsX (opAt ops i).op)=kQe q z k:=by rfl) (hc:okBsQ ops m i s=true:=by kernel_rfl) (hg:Gd l i (opAt ops i):=by first|exact trivial|exact rfl):R ops Q m a0 w0 b id l i:=by
 unfold okBsQ at hc;rw[Bool.and_eq_true]at hc;obtain⟨h1,h2⟩:=hc;refine Run.mem (x:=kOneQ q b0 z k) (fun a w h=>?_) rest (FK.fne _) h1 hg;split at h2
 ·rename_i T xs e;split at h2
  ·rename_i x ex;obtain⟨ys⟩:=xs;simp only at ex;subst ex;have e0:bsX (opAt ops i).op=x:=by rw[e];rfl
   rw[e0]at hx;rw[Bool.and_eq_true,beq_iff_eq]at h2;obtain⟨rfl,h2⟩:=h2
   have:=h.src h2;rw[hx]at this;obtain⟨s',A,n,c,t',B',m',d',ev,hz,hk⟩:=this;have BB:=zba w (.cells #[.bool s',.slice A n c,.bool t',.slice B' m' d'] 42);refine⟨_,_, ?_,⟨w.heap.size,s',A,n,c,t',B',m',d',rfl,Bx.new w _ _,Nat.le_trans hb0 h.below.size,hz.below BB,hk⟩,BB⟩;unfold execOp;rw[e];simp only[List.map_toArray,List.map_cons,List.map_nil,ev];simp[o_t]
  ·cases h2
 ·cases h2
def IsQw (q:Bool)(b n k:Nat)(zs:List Rat):FVal:=fun v w=>∃g,v= .slice (some ⟨g,0,none⟩) n n/\QB w g k (fun _=>q) zs/\b<=g
def kQw (q:Bool)(b n k:Nat)(zs:List Rat):FK:=.f (IsQw q b n k zs) (fun v w w' ⟨g,e,h1,h2⟩ hb=>⟨g,e,h1.below hb,h2⟩)
theorem m_o {q:Bool}{r c k:Nat}{f:FuncId}{first captured:Array Value}{F:Nat->Nat->Rat}{w:World}(hr:r<=64)(hc:c<=64)(hgo:goes f=true)
  (H:∀i j W,i<r->j<c->Below w.heap.size w W->Calls Tryz.prog f (first++ #[.int .i64 (i:Int),.int .i64 (j:Int)]++captured) W (RetK (kQe q (F i j) k) W)):
  Calls Tryz.prog 104 #[.int .i64 (r:Int),.int .i64 (c:Int),.func (.func f) first captured] w (RetK (kQw q w.heap.size (r*c) k (qmk r c F)) w):=by
 have HF:=Lib.hid H;obtain⟨N,hN⟩:∃N,r*c=N:=⟨_,rfl⟩;have hN2:N<=4096:=by rw[<-hN];exact Nat.mul_le_mul hr hc
 have e12:(r:Int)*(c:Int)=(N:Int):=by rw[<-hN];simp
 have HN:=Lib.hid hN;rw[HN.out];clear H hN;go_enter Tryz.func104,Tryz.ntmps104
 go_wp2_with (at_make;refine g_4 _ rfl _ _ 22 rfl Tryz.underlying22 info_rat N rfl rfl (by omega) ?_)
 intro w2 hb B2 s2;have HB:Hid (Below w.heap.size w w2/\QB w2 w.heap.size k (fun i=>decide (i<0)&&q) (flq (qmk r c F) 0)):=
  Lib.hid ⟨B2,by rw[m_s,b_f,HN.out];exact(hb.mono (Nat.zero_le _)).cf fun j _=>by simp⟩
 clear hb B2 s2 e12
 go_wp2_with fail
 go_loopw [7,15] (fun s7 s15 wr=>∃i:Nat,s7= .slice (some ⟨w.heap.size,0,none⟩) (i*c) N/\s15= .int .i64 (i:Int)/\i<=r/\Hid (Below w.heap.size w wr/\QB wr w.heap.size k (fun x=>decide (x<i*c)&&q) (flq (qmk r c F) (i*c)))) (fun _ s15 _=>r - (intOf s15).toNat)
 case atStart=>exact⟨0,by rw[Nat.zero_mul],rfl,Nat.zero_le _,by rw[Nat.zero_mul];exact HB⟩
 case round=>
  clear HB;obtain⟨i,rfl,rfl,hi,HB⟩:=hrel;by_cases hlt:i<r
  ·have u1:(i:Int)<(r:Int):=by omega
   go_wp2_with fail
   go_loopw [7,19] (fun s7 s19 wq=>∃j:Nat,s7= .slice (some ⟨w.heap.size,0,none⟩) (i*c+j) N/\s19= .int .i64 (j:Int)/\j<=c/\Hid (Below w.heap.size w wq/\QB wq w.heap.size k (fun x=>decide (x<i*c+j)&&q) (flq (qmk r c F) (i*c+j)))) (fun _ s19 _=>c - (intOf s19).toNat)
   case atStart=>exact⟨0,rfl,rfl,Nat.zero_le _,HB⟩
   case round=>
    clear HB;obtain⟨j,rfl,rfl,hj,HB⟩:=hrel;by_cases hjl:j<c
    ·have u2:(j:Int)<(c:Int):=by omega
     go_upto_region 8 with fail
     obtain⟨B0,hb⟩:=HB.out;refine Run.start 6 ?_;refine .mv .o ?_;refine .mv .o ?_;refine .mv .o ?_;refine .mv .o ?_;refine .cv2 (.i 1) (.i 2) (.i 3) (x:=kQe q (F i j) k) rfl hgo (by rintro u v w4 hB rfl rfl;exact HF.out i j w4 hlt hjl (zup B0 hB)) ?_;refine .bsq (.i 4) (Nat.le_refl _) ?_;refine .donep [some 22,some 23,some 24,some 25,some 26,some 27] ?_;intro w4 B4;rintro v0 -;rintro v ⟨g,s_,A_,n_,c_,t_,B_,m_,d_,rfl,bg,hge,hz,hk,hk2⟩;refine sh [_,_] ?_;simp only[Act.put,lS,lZ,lC];have hm:=h_f hlt hjl;have hL:(flq (qmk r c F) (i*c+j)).length=N:=by rw[f_a (by rw[b_f];omega),b_f,HN.out]
     have hlt0:=hb.lt
     go_wp2_with (at_builtin;refine f_v rfl _ _ 22 rfl Tryz.underlying22 info_rat rfl rfl bg hz hk hk2 (hb.below B4) (by rw[hL,<-HN.out];exact hm) hL.symm ?_)
     intro w5 hb5 hg5;have HN2:Hid (Below w.heap.size w w5/\QB w5 w.heap.size k (fun x=>decide (x<i*c+(j+1))&&q) (flq (qmk r c F) (i*c+(j+1)))):=by
      refine Lib.hid ⟨a_c (zup B0 B4) hg5 (Nat.le_refl _), ?_⟩;rw[<-j_r (F:=F) hlt hjl,l_f (by rw[b_f];exact hm)]at hb5;exact hb5.cf fun x _=>by
       cases q<;>(rw[Bool.eq_iff_iff];simp;try omega)
     clear hb5 hg5 hb bg hz hk hm hL hlt0 B0 B4
     go_wp2_with fail
     go_roundw
     case rel=>exact⟨j+1,rfl,by go_num,by omega,HN2⟩
     case measure=>first|(simp[intOf];done)|(simp[intOf];omega)
    ·obtain rfl:j=c:=by omega
     have u2:¬(j:Int)<(j:Int):=by omega
     rw[show i*j+j=(i+1)*j by rw[Nat.succ_mul]]at HB
     go_wp2_with fail
     go_roundw
     case rel=>exact⟨i+1,by rw[Nat.succ_mul],by go_num,by omega,HB⟩
     case measure=>first|(simp[intOf];done)|(simp[intOf];omega)
  ·obtain rfl:i=r:=by omega
   have u1:¬(i:Int)<(i:Int):=by omega
   obtain⟨B0,hb⟩:=HB.out;rw[HN.out,show flq (qmk i c F) N=qmk i c F by have:=p_z (qmk i c F);rwa [b_f,HN.out]at this]at hb;have P:Hid (RetK (kQw q w.heap.size N k (qmk i c F)) w (.returned (.slice (some ⟨w.heap.size,0,none⟩) N N)) _):=Lib.hid ⟨_,rfl,⟨_,rfl,hb.cf fun x hx=>by rw[b_f,HN.out]at hx;simp[hx],Nat.le_refl _⟩,B0⟩;clear hb B0 HB;rw[HN.out]
   go_wp2_with fail
   exact bodyPost_ret (v:=.slice (some ⟨w.heap.size,0,none⟩) N N) (by simp[results,Tryz.results104,go_sem]) rfl P.out
def Mw (b:Nat)(w:World)(r c:Nat)(A:Option Addr)(n d k:Nat)(F:Nat->Nat->Rat):Prop:=∃g,A=some ⟨g,0,none⟩/\n=r*c/\d=n/\QB w g k (fun _=>true) (qmk r c F)/\b<=g/\r<=64/\c<=64
section
variable {b:Nat}{w w' w2:World}{r c n d k g:Nat}{A B:Option Addr}{F G:Nat->Nat->Rat}{m e:Nat}{x y:Int}{T:TypeId}
theorem Mw.mq (h:Mw b w r c A n d k F):Mq true w r c A n d k F:=by
 obtain⟨g,rfl,hn,hd,h2,h3,h4,h5⟩:=h;subst hd
 have:=Nat.mul_le_mul h4 h5;refine⟨?_,h4,h5⟩;have h6:=h2.ql0 true (n:=d) (c:=d) (fun _ _ _=>rfl) (by rw[b_f];omega) (Nat.le_refl _) (by omega);rwa [List.take_of_length_le (by rw[b_f];omega)]at h6
theorem Mw.below (h:Mw b w r c A n d k F)(hb:Below w.heap.size w w'):Mw b w' r c A n d k F:=by
 obtain⟨g,h1,hn,hd,h2,h3⟩:=h;exact⟨g,h1,hn,hd,h2.below hb,h3⟩
theorem Mw.low {b':Nat}(h:Mw b w r c A n d k F)(hk:b'<=b):Mw b' w r c A n d k F:=by
 obtain⟨g,h1,hn,hd,h2,h3,h4⟩:=h;exact⟨g,h1,hn,hd,h2,Nat.le_trans hk h3,h4⟩
theorem Mw.box {h:Nat}{cs:List Value}(hm:Mw b w r c A n d k F)(bx:Bx w h T cs)(hT:T≠42)(hw:∀v,v∈cs->∀m:Int,v≠ .int .u64 m)(hg:w.grownBy w' (some h)):Mw b w' r c A n d k F:=by
 obtain⟨g,h1,hn,hd,h2,h3⟩:=hm;refine⟨g,h1,hn,hd,h2.gro (fun e=>?_) (bx.now hw) hg,h3⟩;obtain⟨cs',h5,-⟩:=h2;rw[e,bx]at h5;cases h5;exact hT rfl
end
def IsMw (b r c k:Nat)(F:Nat->Nat->Rat):FVal:=fun v w=>∃A n d,v= .agg #[.int .i64 (r:Int),.int .i64 (c:Int),.slice A n d]/\Mw b w r c A n d k F
def kMw (b r c k:Nat)(F:Nat->Nat->Rat):FK:=.f (IsMw b r c k F) (fun v w w' ⟨A,n,d,e,h⟩ hb=>⟨A,n,d,e,h.below hb⟩)
theorem retMw {b:Nat}{w w2:World}{r c n d k g m e:Nat}{A B:Option Addr}{F:Nat->Nat->Rat}{x y:Int}(h:Mw b w2 r c A n d k F)(bx:Bx w2 g 24 [.int .i64 x,.int .i64 y,.slice B m e])(hg:w.heap.size<=g)(hB:Below w.heap.size w w2):
  RetK (kMw b r c k F) w (.returned (.agg #[.int .i64 (r:Int),.int .i64 (c:Int),.slice A n d])) (mput w2 g (r:Int) (c:Int) A n d):=⟨_,rfl,⟨A,n,d,rfl,h.box bx (by decide) (by simp) (a_h _ _ _ _ _ _ _)⟩,b_4 hB hg⟩
theorem e_3 {r c k:Nat}{f:FuncId}{first captured:Array Value}{F:Nat->Nat->Rat}{w:World}(hr:r<=64)(hc:c<=64)(hgo:goes f=true)
  (H:∀i j W,i<r->j<c->Below w.heap.size w W->Calls Tryz.prog f (first++ #[.int .i64 (i:Int),.int .i64 (j:Int)]++captured) W (RetK (kQ (F i j) k) W)):
  Calls Tryz.prog 44 #[.int .i64 (r:Int),.int .i64 (c:Int),.func (.func f) first captured] w (RetK (kMw w.heap.size r c k F) w):=by
 obtain⟨w1,hw1,b6,z1,s1⟩:=boxes1 w 24 [.int .i64 0,.int .i64 0,.slice none 0 0];have HW:=Lib.hid hw1;have HF:=Lib.hid H;obtain⟨N,hN⟩:∃N,r*c=N:=⟨_,rfl⟩;have hN2:N<=4096:=by rw[<-hN];exact Nat.mul_le_mul hr hc
 have HN:=Lib.hid hN;clear hw1 H hN;go_enter Tryz.func44,Tryz.ntmps44
 go_upto_region 1 with fail
 rw[HW.out];have hG:=m_o (q:=true) (w:=w1) hr hc hgo fun i j W hi hj hW=>(HF.out i j W hi hj (zup z1 hW)).mono fun e w' h=>t_r h;rw[HN.out]at hG
 go_wp2_with fail
 refine hG.mono ?_;rintro e w2 ⟨v,rfl,⟨g,rfl,hb,hg⟩,B2⟩;clear hG;have hM:Mw w.heap.size w2 r c (some ⟨g,0,none⟩) N N k F:=⟨g,rfl,HN.out.symm,rfl,hb,by omega,hr,hc⟩;replace b6:=b6.below B2;have P:=Lib.hid (retMw hM b6 (Nat.le_refl _) (zup z1 B2));have i0:=b6.cell 0;have i1:=b6.cell 1;have i2:=b6.cell 2;have f0:=b6.free 0;have f1:=b6.free 1;have f2:=b6.free 2;simp only[List.getElem?_cons_succ,List.getElem?_cons_zero]at i0 i1 i2;clear b6 hb hM B2 z1 s1 HW;unfold mput at P
 go_wp2_with fail
 exact bodyPost_ret (v:=.agg #[.int .i64 (r:Int),.int .i64 (c:Int),.slice (some ⟨g,0,none⟩) N N]) (by simp[results,Tryz.results44,go_sem,i0,i1,i2]) rfl P.out
end
section
open Go.RowKit
theorem u_z {w:World}{g n d k:Nat}(h:k<n):(Instr.indexAt 150 (.slice (some ⟨g,0,none⟩) n d) (.int .i64 (k:Int))).run Tryz.prog w= .ok (.pointer (some ⟨g,k,none⟩)) w:=by
 simp[go_sem,Tryz.underlying150,show Tryz.prog.cellsOf 3=1 by kernel_rfl];omega
theorem opIxI {g n d k:Nat}{X Y:Operand}(h:k<n)(w:World):RunTwo Tryz.prog (.indexAddr 150 X Y) w (.slice (some ⟨g,0,none⟩) n d) (.int .i64 (k:Int)) (.pointer (some ⟨g,k,none⟩)):=u_z h
def bsL (o:Op):List Operand:=match o with| .buildSlice _ _ xs=>xs.toList.map (·.2)|_=>[]
section
variable {ops:Array Oper}{Q:Exit->Act->World->Prop}{m i:Nat}{a0:Act}{w0:World}{l:List FK}{b:Bool}{id:Nat}
end
end
end Go.Proofs.YtfhbdlegkdbmfaaGreat
