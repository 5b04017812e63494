/- PhX10 -/
import Derived.Test.YtgohglhefhocgaaGreatPhX04
import Derived.Test.YtgohglhefhocgaaGreatPhX05
import Derived.Test.YtgohglhefhocgaaGreatPhX06
import Derived.Deep.RegionHeld3
import Derived.Laws.AppendOwn
set_option linter.unusedVariables false
set_option linter.unusedSimpArgs false
set_option linter.unusedSectionVars false
set_option maxRecDepth 100000
set_option maxHeartbeats 8000000
namespace Go.Proofs.YtgohglhefhocgaaGreat
section
open Go.RowKit
theorem s_b {A:Option Addr}{n c:Nat}{s:Bool}{z:Int}{w:World}(h:Zv w s A n c z)(hn:n≤1099511627776):
  Calls Tryz.prog 42 #[.agg #[.bool s,.slice A n c]] w (ZPost (z.natAbs:Int) n w):=by
 obtain⟨h1,h2⟩:=h.abs;have z0:=zba2 w (.cells #[.bool s,.slice A n c] 37) (.cells #[.bool false,.slice none 0 0] 37);have h3:=h1.below z0;have HZ:=Lib.hid z0;have HI:=Lib.hid (Ib.new (w.alloc (.cells #[.bool s,.slice A n c] 37)) false none 0 0 37);clear h1 h2 h z0;go_enter Tryz.func42,Tryz.ntmps42
 go_wp2_with fail
 refine(h_k h3 hn).mono ?_;rw[i_2];rintro e w2 ⟨t,A2,n2,c2,rfl,p2,k2,B2⟩;have I:=HI.out.below B2;have P:=Lib.hid (zfin p2 I (k:=n) (by omega) (by simp) (zup HZ.out B2));obtain⟨i1,i2,i3,i4,i5⟩:=I;simp only[World.size_alloc]at i1 i2 i3 i4 i5 P;clear p2 B2 h3
 go_wp2_with fail
 exact bodyPost_ret (v:=.agg #[.bool t,.slice A2 n2 c2]) (by simp[results,Tryz.results42,go_sem,i1,i2]) rfl P.out
end
section
open Go.RowKit
def OwnN (w:World)(base:Nat)(e:TypeId)(v:Value)(n:Nat)(xs:List Value):Prop:=
 w.ownsRow base e 2 v n xs∧∀g cs,v.ownBlock=some g→w.heap[g]? =some (.cells cs e (0,0))→∀u,u∈cs.toList→NWd u
theorem OwnN.wless {w:World}{base g:Nat}{e:TypeId}{v:Value}{n:Nat}{xs:List Value}(h:OwnN w base e v n xs)(hg:v.ownBlock=some g):Wless w g:=fun p m hp hc=>by
 rcases h.1.2 with⟨rfl,_⟩|⟨g',cap,cur,rfl,hb,hh,_⟩
 ·cases hg
 ·have e':g'=g:=by simpa [Value.ownBlock] using hg
  subst e';have e2:cur[p.off]? =some (.int .u64 m):=by
   unfold World.cell? at hc;rw[hp,hh]at hc;exact(by simpa using hc:p.spot=none∧cur[p.off]? =some (.int .u64 m)).2
  exact h.2 g' cur hg hh (.int .u64 m) (by rw[←Array.getElem?_toList]at e2;exact List.mem_of_getElem? e2) m rfl
theorem m_6 {z:Array Value}(hs:z.size=2)(hz:∀u,u∈z.toList→NWd u)(k:Nat)(u:Value)(hu:u∈(Builtin.zeroCells z k).toList):NWd u:=by
 unfold Builtin.zeroCells at hu;rw[Array.toList_map,List.mem_map]at hu;obtain⟨i,hi,rfl⟩:=hu;have hlt:i%z.size<z.size:=Nat.mod_lt _ (by omega);rw[getElem!_pos z _ hlt];exact hz _ (Array.getElem_mem_toList hlt)
section
variable {P:Program}(w:World)
theorem d_5 (base:Nat)(t ty e:TypeId)(i:TypeInfo)(z:Value)(bytes:Nat)(ht:P.underlying t=some (.slice e))(hi:P.info? e=some i)(hz:i.zero=some z)
  (hsize:i.size=2) (hby:i.bytes=bytes) (hzs:z.cells.size=2) (hzn:∀u,u∈z.cells.toList→NWd u)
  (v:Value) (n:Nat) (xs:List Value) (hown:OwnN w base e v n xs)
  (a:Addr) (c:Nat) (news:List Value) (hl:news.length=2) (hnews:∀j u,news[j]? =some u→w.cell? (a.add j)=some u) (h1:∀u∈news,u.oneCell'=true) (hn:∀u,u∈news→NWd u)
  (h63:n+1≤maxLen) (hbytes:(n+1)*bytes≤140737488355328) (hbase:base≤w.heap.size):
  ∃v' w',(Builtin.append_ #[t,t] ty #[v,.slice (some a) 1 c]).run P w= .ok v' w'∧OwnN w' base e v' (n+1) (xs++news)∧w.grownBy w' v.ownBlock∧(v'.ownBlock=v.ownBlock∨v'.ownBlock=some w.heap.size):=by
 obtain⟨v',w',hr,ho,hg,-⟩:=run_append_own (P:=P) w base t ty e i z 2 bytes ht hi hz hsize hby hzs (by omega) v n xs hown.1 a 1 c news (by omega) hnews h1 h63 hbytes hbase;suffices H:(∀g cs,v'.ownBlock=some g→w'.heap[g]? =some (.cells cs e (0,0))→∀u,u∈cs.toList→NWd u)∧(v'.ownBlock=v.ownBlock∨v'.ownBlock=some w.heap.size)from⟨v',w',hr,⟨ho,H.1⟩,hg,H.2⟩
 have hsmall:n+1≤9223372036854775807:=by simp only[maxLen]at h63;omega
 have zz:=m_6 hzs hzn;have fresh:∀(ys:List Value) (k:Nat) (cap:Nat),(∀u,u∈ys→NWd u)→v'= .slice (some ⟨w.heap.size,0,none⟩) (n+1) cap→w'=w.drew.alloc (.cells (ys.toArray++news.toArray++Builtin.zeroCells z.cells k) e)→
   ∀g cs,v'.ownBlock=some g→w'.heap[g]? =some (.cells cs e (0,0))→∀u,u∈cs.toList→NWd u:=fun ys k cap hys e1 e2 g cs h2 h3 u hu=>by
  subst e1 e2;have e3:w.heap.size=g:=by simpa [Value.ownBlock] using h2
  subst e3;have h9:(w.drew.alloc (.cells (ys.toArray++news.toArray++Builtin.zeroCells z.cells k) e)).heap[w.heap.size]? =some (.cells (ys.toArray++news.toArray++Builtin.zeroCells z.cells k) e (0,0)):=heap_alloc_new w.drew _;rw[h9]at h3;injection h3 with e4
  injection e4 with e5
  subst e5;simp only[Array.toList_append,List.mem_append]at hu;rcases hu with(hu|hu)|hu
  ·exact hys u hu
  ·exact hn u hu
  ·exact zz k u hu
 rcases hown.1.2 with⟨rfl,rfl⟩|⟨g,cap,cur,rfl,hbg,hh,hnc,hcm,hcs,htake⟩
 ·have hr2:=Go.run_append_nil (P:=P) w t ty e i z ht hi hz a 1 c news (by omega) hnews (by omega) (by omega) (by simp only[Nat.zero_add]at hbytes;omega);rw[hr]at hr2;injection hr2 with e1 e2
  exact⟨fresh [] (grownCap w 1 0 e - 1) (grownCap w 1 0 e) (fun u hu=>nomatch hu) e1 (by rw[e2];simp),.inr (by rw[e1];rfl)⟩
 ·have hcur:∀u,u∈cur.toList→NWd u:=hown.2 g cur rfl hh;have hxs:∀u,u∈xs→NWd u:=fun u hu=>hcur u (by rw[←htake]at hu;exact List.mem_of_mem_take hu);by_cases hroom:n+1≤cap
  ·have hfit:n*i.size+news.length≤cur.size:=by rw[hl,hcs,hsize];omega
   have hr2:=run_append_room (P:=P) w t ty e i ht hi g n cap cur hh a 1 c news (by omega) hnews h1 hroom hfit;rw[hr]at hr2;injection hr2 with e1 e2
   refine⟨?_,.inl (by rw[e1];rfl)⟩;intro g' cs h2 h3 u hu;subst e1 e2;have e3:g=g':=by simpa [Value.ownBlock] using h2
   subst e3;rw[setRow_heap w g cur _ e _ hh]at h3;injection h3 with e4
   injection e4 with e5
   subst e5;simp only[List.mem_append]at hu;rcases hu with(hu|hu)|hu
   ·exact hcur u (List.mem_of_mem_take hu)
   ·exact hn u hu
   ·exact hcur u (List.mem_of_mem_drop hu)
  ·have holds:∀j u,xs[j]? =some u→w.cell? ((⟨g,0,none⟩:Addr).add j)=some u:=hown.1.cells (g:=g) rfl;have hr2:=run_append_grow (P:=P) w t ty e i z ht hi hz ⟨g,0,none⟩ n cap xs (by rw[hown.1.1,hsize]) holds a 1 c news (by omega) hnews (by omega) (by omega) (growslice_fits (by omega) (by rw[hby];exact hbytes));rw[hr]at hr2;injection hr2 with e1 e2
   exact⟨fresh xs _ _ hxs e1 e2,.inr (by rw[e1];rfl)⟩
end
structure OwnZ (w0 w:World) (k:Nat) (v:Value) (zs:List Int):Prop where
 row:∃vs:List Value,OwnN w w0.heap.size 37 v zs.length vs∧∀j,j<zs.length→∃s A n c,vs[j*2]? =some (.bool s)∧vs[j*2+1]? =some (.slice A n c)∧Zc w s A n c (ith zs j)∧n≤k
 old:Below w0.heap.size w0 w
theorem OwnZ.nil (w:World)(k:Nat):OwnZ w w k (.slice none 0 0) []:=⟨⟨[],⟨World.ownsRow_nil w _ _ _,fun g cs h=>nomatch h⟩,fun j hj=>by simp at hj⟩,Below.refl _ _⟩
theorem OwnZ.below {w0 w w':World}{k:Nat}{v:Value}{zs:List Int}(h:OwnZ w0 w k v zs)(hb:Below w.heap.size w w'):OwnZ w0 w' k v zs:=by
 obtain⟨⟨vs,⟨h1,h2⟩,h3⟩,h4⟩:=h;refine⟨⟨vs,⟨h1.kept (row:=none) ⟨hb.os,hb.tape,hb.output,hb.size,fun k hk _=>hb.block k hk⟩ (by cases hv:v.ownBlock<;>simp),fun g cs hg hc=>h2 g cs hg ?_⟩,fun j hj=>?_⟩,h4.trans (hb.mono h4.size)⟩
 ·rw[←hb.block g (h1.lt g hg).2];exact hc
 ·obtain⟨s,A,n,c,c1,c2,c3,c4⟩:=h3 j hj;exact⟨s,A,n,c,c1,c2,c3.below hb,c4⟩
theorem OwnZ.form {w0 w:World}{k:Nat}{v:Value}{zs:List Int}(h:OwnZ w0 w k v zs):∃A c,v= .slice A zs.length c∧∀q,ZL q w A zs.length c k zs:=by
 obtain⟨⟨vs,⟨h1,h2⟩,h3⟩,h4⟩:=h;rcases h1.2 with⟨rfl,e⟩|⟨g,cap,cur,rfl,hb,hh,hn,hm,hcs,ht⟩
 ·rw[List.length_eq_zero_iff.1 e];exact⟨none,0,rfl,fun q=>ZL.nil _ _ _⟩
 ·refine⟨_,cap,rfl,fun q=>⟨rfl,hn,by unfold maxLen at hm;omega,fun h0=>⟨_,rfl,(Array.getElem?_eq_some_iff.1 hh).1,fun j hj=>?_⟩⟩⟩;obtain⟨s,A,n,c,c1,c2,c3,c4⟩:=h3 j hj;have hc:=h1.cells (g:=g) rfl;refine⟨s,A,n,c,hc _ _ c1, ?_,.of c3,c4⟩
  have:=hc _ _ c2;rw[b_k]at this;rw[b_k];exact this
theorem h_n {P:Program}(w0 w1:World){ops:Array Oper}{rest:List Oper}{o:Oper}{a:Act}{Q:Exit→Act→World→Prop}(hgd:o.guard=none)(s x:Operand)(t:TypeId)
  (ho:o.op= .call { callee:=.builtin .append,args:=#[s,x],argTypes:=#[t,t] })
  (ht:P.underlying t=some (.slice 37)) (hinfo:(P.info? 37).map (fun i=>(i.zero,i.size,i.bytes))=some (some (.agg #[.bool false,.slice none 0 0]),2,32))
  (k:Nat) (v:Value) (zs:List Int) (hs:a.eval s=v) (hown:OwnZ w0 w1 k v zs) {sb:Bool} {A:Option Addr} {n c g:Nat} {z:Int} (hc0:w1.cell? ⟨g,0,none⟩=some (.bool sb)) (hc1:w1.cell? ⟨g,1,none⟩=some (.slice A n c)) (hz:Zc w1 sb A n c z) (hn:n≤k)
  (hx:a.eval x= .slice (some ⟨g,0,none⟩) 1 1) (hlen:zs.length≤1099511627776)
  (h:∀v' w',OwnZ w0 w' k v' (zs++[z])→Grew w1 w' v v'→wpList P ops Q rest (a.put o.dst v') w'):
  wpList P ops Q (o::rest) a w1:=by
 obtain⟨i,hi,hz0,hz1,hz2⟩:=info_parts hinfo;have hsz:=hown.old.size;have hzz:=hz;obtain⟨⟨vs,h1,h3⟩,h4⟩:=hown;obtain⟨v',w',hr,h5,h6,h8⟩:=d_5 (P:=P) w1 w0.heap.size t o.type 37 i (.agg #[.bool false,.slice none 0 0]) 32 ht hi hz0 hz1 hz2 rfl (fun u hu=>by
   simp[Value.cells]at hu;rcases hu with rfl|rfl<;>exact fun m e=>nomatch e) v zs.length vs h1 ⟨g,0,none⟩ 1 [.bool sb,.slice A n c] rfl (fun j u hu=>by
   rw[b_k];match j,hu with
   |0,hu=>simp at hu;subst hu;exact hc0
   |1,hu=>simp at hu;subst hu;exact hc1) (fun u hu=>by
   simp at hu;rcases hu with rfl|rfl<;>rfl) (fun u hu=>by
   simp at hu;rcases hu with rfl|rfl<;>exact fun m e=>nomatch e) (by unfold maxLen;omega) (by omega) (by omega)
 refine wpList_plain hgd fun K hK'=>?_;unfold Oper.wp execOp;simp only[ho,resolve,invoke,builtin,Sem.run_bind,Sem.run_pure,Result.andThen_ok,List.map_toArray,List.map_cons,List.map_nil,hs,hx,hr];have keep:∀ {s':Bool} {A':Option Addr} {n' c':Nat} {y:Int},Zc w1 s' A' n' c' y→Zc w' s' A' n' c' y:=fun {s' A' n' c' y} hy=>by
  cases hvb:v.ownBlock with
  |none=>rw[hvb]at h6;exact hy.below ⟨h6.os,h6.tape,h6.output,h6.size,fun k hk=>h6.block k hk (by simp)⟩
  |some g=>rw[hvb]at h6;exact hy.gro (h1.wless hvb) h6
 have hvl:vs.length=zs.length*2:=h1.1.1;have hG:Grew w1 w' v v':=⟨h6,fun g hg=>h1.wless hg,h8⟩;refine hK' _ _ (h v' w' ⟨⟨_,by rw[List.length_append];exact h5,fun j hj=>?_⟩, ?_⟩ hG)
 ·rw[List.length_append,List.length_singleton]at hj;rcases Nat.lt_or_ge j zs.length with hlt|hge
  ·obtain⟨s',A',n',c',c1,c2,c3,c4⟩:=h3 j hlt;refine⟨s',A',n',c',by rw[List.getElem?_append_left (by omega)];exact c1,by rw[List.getElem?_append_left (by omega)];exact c2, ?_,c4⟩;rw[show ith (zs++[z]) j=ith zs j by simp[ith,List.getD,List.getElem?_append_left hlt]];exact keep c3
  ·obtain rfl:j=zs.length:=by omega
   refine⟨sb,A,n,c,by rw[List.getElem?_append_right (by omega),hvl,Nat.sub_self];rfl,by rw[List.getElem?_append_right (by omega),hvl,show zs.length*2+1 - zs.length*2=1 by omega];rfl, ?_,hn⟩;rw[show ith (zs++[z]) zs.length=z by simp[ith,List.getD]];exact keep hzz
 ·exact h4.grown h6 h4.size (fun k hk=>(h1.1.lt k hk).1)
theorem h_m {P:Program}(w0 wr:World){ops:Array Oper}{rest:List Oper}{o:Oper}{a:Act}{Q:Exit→Act→World→Prop}(hgd:o.guard=none)(s x:Operand)(t:TypeId)
  (ho:o.op= .call { callee:=.builtin .append,args:=#[s,x],argTypes:=#[t,t] })
  (ht:P.underlying t=some (.slice 37)) (hinfo:(P.info? 37).map (fun i=>(i.zero,i.size,i.bytes))=some (some (.agg #[.bool false,.slice none 0 0]),2,32))
  (k:Nat) (v:Value) (zs:List Int) (hs:a.eval s=v) (hown:OwnZ w0 wr k v zs) (sb:Bool) (A:Option Addr) (n c:Nat) (z:Int) (hz:Zc wr sb A n c z) (hn:n≤k)
  (hx:a.eval x= .slice (some ⟨wr.heap.size,0,none⟩) 1 1) (hlen:zs.length≤1099511627776)
  (h:∀v' w',OwnZ w0 w' k v' (zs++[z])→wpList P ops Q rest (a.put o.dst v') w'):
  wpList P ops Q (o::rest) a (wr.alloc (.cells #[.bool sb,.slice A n c] 37)):=
 h_n w0 _ hgd s x t ho ht hinfo k v zs hs (hown.below (zba wr _)) (by simp[go_sem]) (by simp[go_sem]) (hz.below (zba wr _)) hn hx hlen (fun v' w' h1 _=>h v' w' h1)
end
section
open Go.RowKit
section
variable {q:Bool}{w w':World}{r c n d k k':Nat}{A:Option Addr}{F G:Nat→Nat→Int}
theorem Mt.big (h:Mt q w r c A n d k F):r*c≤4096:=Nat.mul_le_mul h.hr h.hc
end
section
variable {u v:Value}{x y:Int}{n m k:Nat}{w:World}
end
end
section
open Go.RowKit
theorem l_j (w:World):Calls Tryz.prog 12 #[.agg #[.int .i64 0,.int .i64 0,.slice none 0 0]] w (RetK (.k (.bool true)) w):=by
 obtain⟨w1,hw1,b1,z1,s1⟩:=boxes1 w 24 [.int .i64 0,.int .i64 0,.slice none 0 0];have HW:=Lib.hid hw1;have HZ:=Lib.hid z1;clear hw1 z1 s1;go_enter Tryz.func12,Tryz.ntmps12
 go_upto_region 1 with fail
 rw[HW.out];refine Run.start 15 ?_;refine .fa .o (fM0 0) ?_;refine .ld (.i 0) (ldInt b1 0) ?_;refine .two (.i 1) .o (opEq (by decide:decide ((0:Int)=0)=true)) ?_;refine .mv (.i 2) ?_;refine .fa .o (fM1 1) ?_;refine .ld (.i 4) (ldInt b1 1) ?_;refine .two (.i 5) .o (opEq (by decide:decide ((0:Int)=0)=true)) ?_;refine .pk (.i 3) (.i 6) true ?_;refine .mv (.i 7) ?_;refine .fa .o (fM2 2) ?_;refine .ld (.i 9) (ldSl b1 2) ?_;refine .len (.i 10) Tryz.underlying22 ?_;refine .two (.i 11) .o (opEq (by decide:decide (((0:Nat):Int)=0)=true)) ?_;refine .pk (.i 8) (.i 12) true ?_;refine .mv (.i 13) ?_;refine .donep [some 3,some 4,some 5,some 6,some 7,some 8,some 9,some 10,some 11,some 12,some 13,some 14,some 15,some 16,some 2] ?_;intro w2 B2;change Shut (wpList _ _ _ [] _ _);refine⟨?_⟩;simp only[Act.put,lS,lZ,lC]
 go_wp2_with fail
 exact bodyPost_ret (v:=.bool true) (by simp[results,Tryz.results12,go_sem]) rfl (a_r rfl (zup HZ.out B2))
end
section
open Go.RowKit
section
variable {w:World}
theorem fZa0 {p:Addr}(w:World):(Instr.fieldAt 37 (.pointer (some p)) 0).run Tryz.prog w= .ok (.pointer (some p)) w:=by simp[go_sem,a_p]
theorem ldBa {p:Addr}{s:Bool}(hp:p.block<w.heap.size)(h:w.cell? p=some (.bool s)):∀w',Below w.heap.size w w'→(Instr.loadAt 4 (.pointer (some p))).run Tryz.prog w'= .ok (.bool s) w':=fun w' hb=>by
 have:=(hb.cell hp).trans h;simp[go_sem,a_p,this]
theorem ldWa {p:Addr}{x:Nat}(hp:p.block<w.heap.size)(h:w.cell? p=some (.int .u64 (x:Int))):∀w',Below w.heap.size w w'→(Instr.loadAt 67 (.pointer (some p))).run Tryz.prog w'= .ok (.int .u64 (x:Int)) w':=fun w' hb=>by
 have:=(hb.cell hp).trans h;simp[go_sem,a_p,this]
theorem opIxN {ad:Addr}{n c k:Nat}{X Y:Operand}(h:k<n)(w:World):RunTwo Tryz.prog (.indexAddr 35 X Y) w (.slice (some ad) n c) (.int .i64 (k:Int)) (.pointer (some (ad.add k))):=by
 unfold RunTwo;simp[go_sem,Tryz.underlying35,show Tryz.prog.cellsOf 67=1 by kernel_rfl];omega
theorem opEqU {x y:Int}{T U:TypeId}{X Y:Operand}{b:Bool}(h:decide (x=y)=b)(w:World):RunTwo Tryz.prog (.binOp .eql T X Y U) w (.int .u64 x) (.int .u64 y) (.bool b):=by unfold RunTwo;simp[go_sem,←h];try rfl
theorem Zc.top {s:Bool}{A:Option Addr}{n c:Nat}{z:Int}(h:Zc w s A n c z):(n=0∧s=false)∨(0<n∧∃ad x,A=some ad∧ad.block<w.heap.size∧x≠0∧w.cell? (ad.add (n - 1))=some (.int .u64 ((x:Nat):Int))):=by
 obtain⟨⟨h1,h2,h3,h4⟩,h5⟩:=h;rcases Nat.eq_zero_or_pos n with h0|h0
 ·left;refine⟨h0, ?_⟩
  have:=(b_6 18446744073709551616 z.natAbs (by omega)).1 (by omega);rw[h5.out,decide_eq_false];omega
 ·right;have ht:=d_4 (xs:=cn 18446744073709551616 z.natAbs) (by rw[j_5 _ _ (by omega)];omega);rw[j_5 _ _ (by omega),h2]at ht;obtain⟨ad,e,hb,hc⟩:=h1.at (k:=n - 1) (by omega);exact⟨h0,ad,_,e,hb,ht,hc⟩
end
theorem e_t {r c n d k:Nat}{A:Option Addr}{F:Nat→Nat→Int}{w:World}(ha:Mt true w r c A n d k F)(hk:k≤1099511627776):Calls Tryz.prog 13 #[.agg #[.int .i64 (r:Int),.int .i64 (c:Int),.slice A n d]] w (RetK (.k (.bool true)) w):=by
 have h1:=ha.fmd;have hnd:=ha.zl.le;have hdm:=ha.zl.cap;have HX:=Lib.hid ha.zl;obtain⟨w1,hw1,b1,z1,s1⟩:=boxes1 w 24 [.int .i64 (r:Int),.int .i64 (c:Int),.slice A n d];have HW:=Lib.hid hw1;have HZ:=Lib.hid z1;have h1_:=Lib.hid h1;clear hw1 z1 h1 ha;go_enter Tryz.func13,Tryz.ntmps13
 go_upto_region 1 with fail
 rw[HW.out];have HB:Hid (Below w.heap.size w w1∧Bx w1 w.heap.size 24 [.int .i64 (r:Int),.int .i64 (c:Int),.slice A n d]):=Lib.hid ⟨HZ.out,b1⟩;clear b1 HW HZ s1
 go_wp2_with fail
 go_loopw [3] (fun s3 wr=>∃j:Nat,s3= .int .i64 (j:Int)∧j≤n∧Hid (Below w.heap.size w wr∧Bx wr w.heap.size 24 [.int .i64 (r:Int),.int .i64 (c:Int),.slice A n d])) (fun s3 _=>n - (intOf s3).toNat)
 case atStart=>exact⟨0,rfl,Nat.zero_le _,HB⟩
 case round=>
  clear HB;obtain⟨j,rfl,hj,HB⟩:=hrel;obtain⟨B0,b1⟩:=HB.out;clear HB;have i2:=b1.cell 2;simp only[List.getElem?_cons_succ,List.getElem?_cons_zero]at i2;by_cases hlt:j<n
  ·have u2:(j:Int)<(n:Int):=by omega
   obtain⟨ad,rfl,hab,hA⟩:=(HX.out.below B0).at hlt;obtain⟨s2,A2,n2,c2,e1,e2,ze,hk2⟩:=hA;have hz:=(ze.2 rfl).top;clear ze;go_upto_region 4 with fail
   clear i2;refine Run.start 8 ?_;refine .fa .o (fM2 2) ?_;refine .ld (.i 0) (ldSl b1 2) ?_;refine .mv .o ?_;refine .two (.i 1) (.i 2) (opIx hlt) ?_;refine .fa (.i 3) fZa1 ?_;refine .ld (.i 4) (ldNa (by show(ad.add (j*2)).block<_;rw[a_b];exact hab) e2) ?_;refine .len (.i 5) Tryz.underlying35 ?_;refine .mv (.i 6) ?_;refine .donep [some 12,some 13,some 14,some 15,some 16,some 17,some 18,some 4] ?_;intro w2 B2;change Shut (wpList _ _ _ [] _ _);refine⟨?_⟩;simp only[Act.put,lS,lZ,lC];have hab2:=Nat.lt_of_lt_of_le hab B2.size;have f1:=(B2.cell (p:=ad.add (j*2)) (by rw[a_b];exact hab)).trans e1;have f2:=(B2.cell (p:=⟨(ad.add (j*2)).block,(ad.add (j*2)).off+1,none⟩) (by show(ad.add (j*2)).block<_;rw[a_b];exact hab)).trans e2;replace b1:=b1.below B2;go_upto_region 5 with fail
   clear e1 e2;rcases hz with⟨rfl,rfl⟩|⟨h0,wd,x,rfl,hwb,hx0,hcx⟩
   ·refine Run.start 27 ?_;refine .mv .o ?_;refine .two (.i 0) .o (opGt (by decide:decide ((0:Int)<((0:Nat):Int))=false)) ?_;refine .mv (.i 1) ?_;refine .no ?_;refine .no ?_;refine .no ?_;refine .no ?_;refine .no ?_;refine .no ?_;refine .no ?_;refine .no ?_;refine .no ?_;refine .no ?_;refine .no ?_;refine .pk (.i 2) .o false ?_;refine .mv (.i 14) ?_;refine .mv .o ?_;refine .two (.i 16) .o (opEq (by decide:decide (((0:Nat):Int)=0)=true)) ?_;refine .mv (.i 17) ?_;refine .fa .o (fM2 2) ?_;refine .ld (.i 19) (ldSl b1 2) ?_;refine .mv .o ?_;refine .two (.i 20) (.i 21) (opIx hlt) ?_;refine .fa (.i 22) fZa0 ?_;refine .ld (.i 23) (ldBa (by rw[a_b];exact hab2) f1) ?_;refine .pk (.i 18) (.i 24) true ?_;refine .pk (.i 15) (.i 25) false ?_;refine .donep [some 19,some 20,some 21,some 22,some 23,some 24,some 25,some 26,some 27,some 28,some 29,some 30,some 31,some 32,some 33,some 34,some 35,some 36,some 37,some 38,some 39,some 40,some 41,some 42,some 43,some 44,some 45] ?_;intro w3 B3;change Shut (wpList _ _ _ [] _ _);refine⟨?_⟩;simp only[Act.put,lS,lZ,lC];have HN:Hid (Below w.heap.size w w3∧Bx w3 w.heap.size 24 [.int .i64 (r:Int),.int .i64 (c:Int),.slice (some ad) n d]):=Lib.hid ⟨zup (zup B0 B2) B3,b1.below B3⟩;clear b1 B0 B2 B3 f1 f2
    go_wp2_with fail
    go_roundw
    case rel=>exact⟨j+1,by go_num,by omega,HN⟩
    case measure=>first|(simp[intOf];done)|(simp[intOf];omega)
   ·have h1x:=B2.cell (p:=wd.add (n2 - 1)) (by rw[a_b];have:=B0.size;exact hwb);have hcx2:=h1x.trans hcx;have hwb2:=Nat.lt_of_lt_of_le hwb B2.size;refine Run.start 27 ?_;refine .mv .o ?_;refine .two (.i 0) .o (opGt (decide_eq_true (by omega:(0:Int)<(n2:Int)))) ?_;refine .mv (.i 1) ?_;refine .fa .o (fM2 2) ?_;refine .ld (.i 3) (ldSl b1 2) ?_;refine .mv .o ?_;refine .two (.i 4) (.i 5) (opIx hlt) ?_;refine .fa (.i 6) fZa1 ?_;refine .ld (.i 7) (ldNa (by show(ad.add (j*2)).block<_;rw[a_b];exact hab2) f2) ?_;refine .mv .o ?_;refine .two (.i 9) .o (opSubN n2 1 h0 (by omega)) ?_;refine .two (.i 8) (.i 10) (opIxN (by omega:n2 - 1<n2)) ?_;refine .ld (.i 11) (ldWa (by rw[a_b];exact hwb2) hcx2) ?_;refine .two (.i 12) .o (opEqU (decide_eq_false (by omega:¬((x:Int)=0)))) ?_;refine .pk (.i 2) (.i 13) true ?_;refine .mv (.i 14) ?_;refine .mv .o ?_;refine .two (.i 16) .o (opEq (decide_eq_false (by omega:¬((n2:Int)=0)))) ?_;refine .mv (.i 17) ?_;refine .no ?_;refine .no ?_;refine .no ?_;refine .no ?_;refine .no ?_;refine .no ?_;refine .pk (.i 18) .o false ?_;refine .pk (.i 15) (.i 25) false ?_;refine .donep [some 19,some 20,some 21,some 22,some 23,some 24,some 25,some 26,some 27,some 28,some 29,some 30,some 31,some 32,some 33,some 34,some 35,some 36,some 37,some 38,some 39,some 40,some 41,some 42,some 43,some 44,some 45] ?_;intro w3 B3;change Shut (wpList _ _ _ [] _ _);refine⟨?_⟩;simp only[Act.put,lS,lZ,lC];have HN:Hid (Below w.heap.size w w3∧Bx w3 w.heap.size 24 [.int .i64 (r:Int),.int .i64 (c:Int),.slice (some ad) n d]):=Lib.hid ⟨zup (zup B0 B2) B3,b1.below B3⟩;clear b1 B0 B2 B3 f1 f2
    go_wp2_with fail
    go_roundw
    case rel=>exact⟨j+1,by go_num,by omega,HN⟩
    case measure=>first|(simp[intOf];done)|(simp[intOf];omega)
  ·obtain rfl:j=n:=by omega
   have u2:¬(j:Int)<(j:Int):=by omega
   go_upto_region 7 with fail
   clear i2;refine Run.start 3 ?_;refine .ld .o (ldM b1 0) ?_;refine .c1 (.i 0) (x:=.k (.bool true)) (by rintro u w2 hB rfl;exact a_h h1_.out w2) ?_;refine .mv (.i 1) ?_;refine .donep [some 46,some 47,some 2] ?_;intro w2 B2;change Shut (wpList _ _ _ [] _ _);refine⟨?_⟩;simp only[Act.put,lS,lZ,lC]
   go_wp2_with fail
   exact bodyPost_ret (v:=.bool true) (by simp[results,Tryz.results13,go_sem]) rfl (a_r rfl (zup B0 B2))
theorem t_5 {q:Bool}{r c n d k n' d' k':Nat}{A A':Option Addr}{F:Nat→Nat→Int}{w:World}(ha:Mt true w r c A n d k F)(hl:ZL q w A' n' d' k' (mk r c F))(hk:k≤1099511627776)(hk':k'≤1099511627776):Calls Tryz.prog 16 #[.agg #[.int .i64 (r:Int),.int .i64 (c:Int),.slice A n d],.int .i64 (r:Int),.int .i64 (c:Int),.slice A' n' d'] w (RetK (.k (.bool true)) w):=by
 have hn:n=r*c:=ha.len;have hn':n'=r*c:=by rw[←hl.len,a_4]
 have hnd:=ha.zl.le;have hdm:=ha.zl.cap;have hnd':=hl.le;have hdm':=hl.cap;have hbig:=ha.big;obtain rfl:n=n':=by omega
 clear hn';have HX:=Lib.hid ha;have HY:=Lib.hid hl;obtain⟨w1,hw1,b4,z1,s1⟩:=boxes1 w 24 [.int .i64 (r:Int),.int .i64 (c:Int),.slice A n d];have HW:=Lib.hid hw1;have HZ:=Lib.hid z1;have hn_:=Lib.hid hn;clear hw1 z1 hn ha hl s1;go_enter Tryz.func16,Tryz.ntmps16
 go_upto_region 1 with fail
 rw[HW.out];refine Run.start 23 ?_;refine .ld .o (ldM b4 0) ?_;refine .c1 (.i 0) (x:=.k (.bool true)) (by rintro u w2 hB rfl;exact e_t (HX.out.below (zup HZ.out hB)) hk) ?_;refine .nt (.i 1) ?_;refine .mv (.i 2) ?_;refine .fa .o (fM0 0) ?_;refine .ld (.i 4) (ldInt b4 0) ?_;refine .mv .o ?_;refine .two (.i 5) (.i 6) (opNe (decide_eq_false (by omega:¬((r:Int)≠(r:Int))))) ?_;refine .pk (.i 3) (.i 7) false ?_;refine .mv (.i 8) ?_;refine .fa .o (fM1 1) ?_;refine .ld (.i 10) (ldInt b4 1) ?_;refine .mv .o ?_;refine .two (.i 11) (.i 12) (opNe (decide_eq_false (by omega:¬((c:Int)≠(c:Int))))) ?_;refine .pk (.i 9) (.i 13) false ?_;refine .mv (.i 14) ?_;refine .mv .o ?_;refine .len (.i 16) Tryz.underlying22 ?_;refine .mv .o ?_;refine .mv .o ?_;refine .two (.i 18) (.i 19) (opMulN r c (by omega)) ?_;refine .two (.i 17) (.i 20) (opNe (decide_eq_false (by have:=hn_.out;omega:¬((n:Int)≠((r*c:Nat):Int))))) ?_;refine .pk (.i 15) (.i 21) false ?_;refine .donep [some 10,some 11,some 12,some 13,some 14,some 15,some 16,some 17,some 18,some 19,some 20,some 21,some 22,some 23,some 24,some 25,some 26,some 27,some 28,some 29,some 30,some 31,some 32] ?_;intro w2 B2;change Shut (wpList _ _ _ [] _ _);refine⟨?_⟩;simp only[Act.put,lS,lZ,lC];have HB:Hid (Below w.heap.size w w2∧Bx w2 w.heap.size 24 [.int .i64 (r:Int),.int .i64 (c:Int),.slice A n d]):=Lib.hid ⟨zup HZ.out B2,b4.below B2⟩;clear b4 HW HZ B2
 go_wp2_with fail
 go_loopw [9] (fun s9 wr=>∃j:Nat,s9= .int .i64 (j:Int)∧j≤n∧Hid (Below w.heap.size w wr∧Bx wr w.heap.size 24 [.int .i64 (r:Int),.int .i64 (c:Int),.slice A n d])) (fun s9 _=>n - (intOf s9).toNat)
 case atStart=>exact⟨0,rfl,Nat.zero_le _,HB⟩
 case round=>
  clear HB;obtain⟨j,rfl,hj,HB⟩:=hrel;obtain⟨B0,b4⟩:=HB.out;clear HB;by_cases hlt:j<n
  ·have u2:(j:Int)<(n:Int):=by omega
   obtain⟨ad,rfl,hab,hA⟩:=(HX.out.zl.below B0).at hlt;obtain⟨s1,A1,n1,c1,e1,e2,ze,hk1⟩:=hA;obtain⟨ad',rfl,hab',hA'⟩:=(HY.out.below B0).at hlt;obtain⟨s2,A2,n2,c2,e3,e4,ze',hk2⟩:=hA';have hz1:=ze.1;have hz2:=ze'.1;clear ze ze';go_upto_region 6 with fail
   refine Run.start 11 ?_;refine .fa .o (fM2 2) ?_;refine .ld (.i 0) (ldSl b4 2) ?_;refine .mv .o ?_;refine .two (.i 1) (.i 2) (opIx hlt) ?_;refine .ld (.i 3) (ldE (by rw[a_b];exact hab) e1 e2) ?_;refine .mv .o ?_;refine .mv .o ?_;refine .two (.i 5) (.i 6) (opIx hlt) ?_;refine .ld (.i 7) (ldE (by rw[a_b];exact hab') e3 e4) ?_;refine .c2 (.i 4) (.i 8) (x:=.k (.bool true)) (by rintro u v w2 hB rfl rfl;exact e_f ⟨_,_,_,_,rfl,hz1.below hB,hk1⟩ ⟨_,_,_,_,rfl,hz2.below hB,hk2⟩ hk hk' (decide_eq_true rfl)) ?_;refine .nt (.i 9) ?_;refine .done [some 39,some 40,some 41,some 42,some 43,some 44,some 45,some 46,some 47,some 48,some 49] ?_;intro w3 B3;change Shut (wpList _ _ _ [] _ _);refine⟨?_⟩;simp only[Act.put,lS,lZ,lC];have HN:Hid (Below w.heap.size w w3∧Bx w3 w.heap.size 24 [.int .i64 (r:Int),.int .i64 (c:Int),.slice (some ad) n d]):=Lib.hid ⟨zup B0 B3,b4.below B3⟩;clear b4 B0 B3 e1 e2 e3 e4 hz1 hz2
   go_wp2_with fail
   go_roundw
   case rel=>exact⟨j+1,by go_num,by omega,HN⟩
   case measure=>first|(simp[intOf];done)|(simp[intOf];omega)
  ·obtain rfl:j=n:=by omega
   have u2:¬(j:Int)<(j:Int):=by omega
   clear b4
   go_wp2_with fail
   exact bodyPost_ret (v:=.bool true) (by simp[results,Tryz.results16,go_sem]) rfl (a_r rfl B0)
end
section
open Go.RowKit
theorem n_f {l:List Int}{m:Nat}(h:m<l.length):l.take m++[ith l m]=l.take (m+1):=by
 rw[List.take_succ_eq_append_getElem h];simp[ith,List.getD,h]
theorem Zc.zero_len {w:World}{s:Bool}{A:Option Addr}{n c:Nat}(h:Zc w s A n c 0):n=0:=by
 have:=h.1.2.1;rw[←this];rfl
theorem OwnZ.fresh {w0 w:World}{k g:Nat}{v:Value}{zs:List Int}(h:OwnZ w0 w k v zs)(hg:w.heap.size≤g):v.ownBlock≠some g:=fun e=>by
 obtain⟨⟨vs,⟨h1,_⟩,_⟩,_⟩:=h
 have:=(h1.lt g e).2;omega
theorem OwnZ.zp {w0 w:World}{k g m d n c:Nat}{v:Value}{zs:List Int}{s t:Bool}{A B:Option Addr}(h:OwnZ w0 w k v zs)(b:Bx w g 37 [.bool t,.slice B m d])(hg:w0.heap.size≤g)(hne:v.ownBlock≠some g):OwnZ w0 (Go.Proofs.YtgohglhefhocgaaGreat.zput w g s A n c) k v zs:=by
 obtain⟨⟨vs,⟨h1,h2⟩,h3⟩,h4⟩:=h;have hgr:w.grownBy (Go.Proofs.YtgohglhefhocgaaGreat.zput w g s A n c) (some g):=b_e (q:=⟨g,1,none⟩) (b_e (q:=⟨g,0,none⟩) (a_8 w (some g)) rfl _) rfl _;refine⟨⟨vs,⟨h1.kept hgr (.inr hne),fun g' cs hg' hc=>h2 g' cs hg' ?_⟩,fun j hj=>?_⟩,a_j h4 hg⟩
 ·rw[←hgr.block g' (h1.lt g' hg').2 (by rw[←hg'];exact hne)];exact hc
 ·obtain⟨s',A',n',c',c1,c2,c3,c4⟩:=h3 j hj;exact⟨s',A',n',c',c1,c2,Zc.zp c3 b,c4⟩
def IsZs (k:Nat)(zs:List Int):FVal:=fun v w=>∃A n d,v= .slice A n d∧ZL true w A n d k zs
def kZs (k:Nat)(zs:List Int):FK:=.f (IsZs k zs) (fun v w w' ⟨A,n,d,e,h⟩ hb=>⟨A,n,d,e,h.below hb⟩)
theorem retZs {w0 w w2:World}{k:Nat}{v:Value}{zs:List Int}(h:OwnZ w0 w2 k v zs)(hB:Below w.heap.size w w2):RetK (kZs k zs) w (.returned v) w2:=by
 obtain⟨A,c,rfl,h1⟩:=h.form;exact⟨_,rfl,⟨A,_,c,rfl,h1 true⟩,hB⟩
theorem s_u {q q':Bool}{r c n d k r' c' n' d' k':Nat}{A A':Option Addr}{F G:Nat→Nat→Int}{w:World}(ha:Mt q w r c A n d k F)(hb:Mt q' w r' c' A' n' d' k' G)(hcr:c=r')(hk:k+k'≤549755813888):Calls Tryz.prog 17 #[.agg #[.int .i64 (r:Int),.int .i64 (c:Int),.slice A n d],.agg #[.int .i64 (r':Int),.int .i64 (c':Int),.slice A' n' d']] w (RetK (kZs (k+k'+c) (mk r c' (fun i j=>dot F G i j c))) w):=by
 have hr1:=ha.hr;have hc1:=ha.hc;have hc2:=hb.hc;obtain⟨L,hL⟩:∃L,mk r c' (fun i j=>dot F G i j c)=L:=⟨_,rfl⟩;have hlen:L.length=r*c':=by rw[←hL,a_4]
 have hat:∀i j,i<r→j<c'→ith L (i*c'+j)=dot F G i j c:=fun i j hi hj=>by rw[←hL,g_b hi hj]
 have hbig:r*c'≤64*64:=Nat.mul_le_mul hr1 hc2;rw[hL];obtain⟨w1,hw1,b2,b3,z1,s1⟩:=boxes2 w 24 24 [.int .i64 (r:Int),.int .i64 (c:Int),.slice A n d] [.int .i64 (r':Int),.int .i64 (c':Int),.slice A' n' d'];have HW:=Lib.hid hw1;have HZ:=Lib.hid z1;have hlen_:=Lib.hid hlen;have hat_:=Lib.hid hat;have hcr_:=Lib.hid hcr;clear hw1 z1 hlen hat hcr hL s1;go_enter Tryz.func17,Tryz.ntmps17
 go_upto_region 1 with fail
 rw[HW.out];have HO:Hid (OwnZ w1 w1 (k+k'+c) (.slice none 0 0) (L.take (0*c'))):=Lib.hid (by rw[Nat.zero_mul];exact OwnZ.nil _ _)
 go_wp2_with fail
 go_loopw [6,5] (fun s6 s5 wr=>∃i:Nat,s6= .int .i64 (i:Int)∧i≤r∧Hid (OwnZ w1 wr (k+k'+c) s5 (L.take (i*c')))) (fun s6 _ _=>r - (intOf s6).toNat)
 case atStart=>exact⟨0,rfl,Nat.zero_le _,HO⟩
 case round=>
  clear HO;obtain⟨i,rfl,hi,HO⟩:=hrel;have Bq:=HO.out.old;obtain⟨i0,i1,i2,i3,i4,i5,i6⟩:=(b2.below Bq).m3;obtain⟨j0,j1,j2,j3,j4,j5,j6⟩:=(b3.below Bq).m3;clear Bq;by_cases hlt:i<r
  ·have u1:(i:Int)<(r:Int):=by omega
   go_wp2_with fail
   clear i0 i1 i2 i3 i4 i5 i6 j0 j1 j2 j3 j4 j5 j6;go_loopw [7,5] (fun s7 s5 wr=>∃j:Nat,s7= .int .i64 (j:Int)∧j≤c'∧Hid (OwnZ w1 wr (k+k'+c) s5 (L.take (i*c'+j)))) (fun s7 _ _=>c' - (intOf s7).toNat)
   case atStart=>exact⟨0,rfl,Nat.zero_le _,HO⟩
   case round=>
    clear HO;obtain⟨j,rfl,hj,HO⟩:=hrel;have Bq:=HO.out.old;obtain⟨i0,i1,i2,i3,i4,i5,i6⟩:=(b2.below Bq).m3;obtain⟨j0,j1,j2,j3,j4,j5,j6⟩:=(b3.below Bq).m3;clear Bq;by_cases hjl:j<c'
    ·have u2:(j:Int)<(c':Int):=by omega
     go_upto_region 8 with fail
     clear i0 i1 i2 i3 i4 i5 i6 j0 j1 j2 j3 j4 j5 j6;have ho:=HO.out;have hs0:=ho.old.size;clear HO;refine Run.start 2 ?_;refine .c1 .o (x:=kC 0 1) (by rintro u w2 hB rfl;exact h_j (by decide) (by decide) w2) ?_;refine .al ?_;refine .donep [some 22,some 8] ?_;intro w2 B2;rintro v0 ⟨s8,A8,n8,d8,rfl,hz8,hk8⟩;rintro g8 hg8 hl8 hc8 -;change Shut (wpList _ _ _ [_] _ _);refine⟨?_⟩;simp only[Act.put,lS,lZ,lC];have b8:=zeroZ (T:=0) hc8;have hne:=ho.fresh hg8;replace ho:=ho.below B2;have hn8:=hz8.zero_len;subst hn8;clear B2 hc8 hk8;replace ho:=ho.zp (s:=s8) (A:=A8) (n:=0) (c:=d8) b8 (by omega) hne;have B0:=Below.refl w2.heap.size w2;have hs2:=B0.size;obtain⟨w3,hw3⟩:∃x,zput w2 g8 s8 A8 0 d8=x:=⟨_,rfl⟩;obtain⟨f1_,f2_,f3_,f4_,f5_⟩:=Ib.entry b8;replace hz8:=hz8.zp (s':=s8) (A':=A8) (n':=0) (c':=d8) b8;rw[hw3]at hz8 ho;replace b8:=b8.zp (s:=s8) (A:=A8) (n:=0) (c:=d8);rw[hw3]at b8;have Hw3:=Lib.hid hw3;unfold zput at Hw3;clear hw3 B0 hs2;have HT:Hid (OwnZ w1 w3 (k+k'+c) u5 (L.take (i*c'+j))∧∃s A n d,Bx w3 g8 37 [.bool s,.slice A n d]∧Zc w3 s A n d (dot F G i j (0))∧n≤k+k'+(0)):=Lib.hid ⟨ho,_,_,_,_,b8,hz8,Nat.zero_le _⟩;clear ho b8 hz8
     go_wp2_with fail
     rw[Hw3.out];clear f1_ f2_ f3_ f4_ f5_ Hw3;go_loopw [9] (fun s9 wr=>∃t:Nat,s9= .int .i64 (t:Int)∧t≤c∧Hid (OwnZ w1 wr (k+k'+c) u5 (L.take (i*c'+j))∧∃s A n d,Bx wr g8 37 [.bool s,.slice A n d]∧Zc wr s A n d (dot F G i j (t))∧n≤k+k'+(t))) (fun s9 _=>c - (intOf s9).toNat)
     case atStart=>exact⟨0,rfl,Nat.zero_le _,HT⟩
     case round=>
      clear HT;obtain⟨t,rfl,ht,HT⟩:=hrel;obtain⟨ho,s8,A8,n8,d8,b8,hz8,hk8⟩:=HT.out;clear HT;have Bq:=ho.old;have k2:=b2.below Bq;have k3:=b3.below Bq;obtain⟨i0,i1,i2,i3,i4,i5,i6⟩:=k2.m3;by_cases htl:t<c
      ·have u3:(t:Int)<(c:Int):=by omega
       go_upto_region 12 with fail
       clear i0 i1 i2 i3 i4 i5 i6;refine Run.start 11 ?_;refine .ld .o (ldZ b8 0) ?_;refine .ld .o (ldM k2 0) ?_;refine .mv .o ?_;refine .mv .o ?_;refine .c3 (.i 1) (.i 2) (.i 3) (x:=kV (F i t) k) (by rintro u v x w2 hB rfl rfl rfl;exact d_p (ha.below (zup HZ.out (zup Bq hB))) hlt htl) ?_;refine .ld .o (ldM k3 0) ?_;refine .mv .o ?_;refine .mv .o ?_;refine .c3 (.i 5) (.i 6) (.i 7) (x:=kV (G t j) k') (by rintro u v x w2 hB rfl rfl rfl;exact d_p (hb.below (zup HZ.out (zup Bq hB))) (by have:=hcr_.out;omega) hjl) ?_;refine .c2 (.i 4) (.i 8) (x:=kC (F i t*G t j) (k+k')) (by intro u v w2 hB h1 h2;exact c_5 h1 h2 (by omega) (by omega) (Nat.le_refl _)) ?_;refine .c2 (.i 0) (.i 9) (x:=kC (dot F G i j (t+1)) (k+k'+(t+1))) (by rintro u v w2 hB rfl h2;exact f_d ⟨_,_,_,_,rfl,(hz8.below hB).zv,hk8⟩ h2.v (by omega) (by omega) (by omega)) ?_;refine .done [some 29,some 30,some 31,some 32,some 33,some 34,some 35,some 36,some 37,some 38,some 39] ?_;intro w4 B4;rintro v0 -;rintro v1 -;rintro v2 -;rintro v3 ⟨s9,A9,n9,d9,rfl,hz9,hk9⟩;change Shut (wpList _ _ _ [_] _ _);refine⟨?_⟩;simp only[Act.put,lS,lZ,lC];replace ho:=ho.below B4;replace b8:=b8.below B4;obtain⟨w5,hw5⟩:∃x,zput w4 g8 s9 A9 n9 d9=x:=⟨_,rfl⟩;obtain⟨f1_,f2_,f3_,f4_,f5_⟩:=Ib.entry b8;replace ho:=ho.zp (s:=s9) (A:=A9) (n:=n9) (c:=d9) b8 (by omega) hne;replace hz9:=hz9.zp (s':=s9) (A':=A9) (n':=n9) (c':=d9) b8;replace b8:=b8.zp (s:=s9) (A:=A9) (n:=n9) (c:=d9);rw[hw5]at ho hz9 b8;have Hw5:=Lib.hid hw5;unfold zput at Hw5;have HN:Hid (OwnZ w1 w5 (k+k'+c) u5 (L.take (i*c'+j))∧∃s A n d,Bx w5 g8 37 [.bool s,.slice A n d]∧Zc w5 s A n d (dot F G i j (t+1))∧n≤k+k'+(t+1)):=Lib.hid ⟨ho,_,_,_,_,b8,hz9,hk9⟩;clear ho b8 hz8 hz9 k2 k3 B4 Bq hw5
       go_wp2_with fail
       rw[Hw5.out];go_roundw
       case rel=>exact⟨t+1,by go_num,by omega,HN⟩
       case measure=>first|(simp[intOf];done)|(simp[intOf];omega)
      ·obtain rfl:t=c:=by omega
       have u3:¬(t:Int)<(t:Int):=by omega
       have hlt2:=g_i hlt hjl;have HT:Hid (L.take (i*c'+j)++[dot F G i j t]=L.take (i*c'+(j+1))):=Lib.hid (by rw[←hat_.out i j hlt hjl,n_f (by rw[hlen_.out];exact hlt2)];rfl);obtain⟨f1_,f2_,f3_,f4_,f5_⟩:=Ib.entry b8;have hlen3:(L.take (i*c'+j)).length≤1099511627776:=by rw[List.length_take,hlen_.out];omega
       have H3:=Lib.hid hlen3;clear b8 k2 k3 Bq hlen3
       go_wp2_with (at_builtin;refine h_m w1 wr rfl _ _ 22 rfl Tryz.underlying22 info_zint _ _ _ (by rfl) ho _ _ _ _ _ hz8 hk8 (by rfl) H3.out ?_)
       intro v1 w10 ho1;rw[HT.out]at ho1;have HN:=Lib.hid ho1;clear ho hz8 ho1 f1_ f2_ f3_ f4_ f5_ i0 i1 i2 i3 i4 i5 i6
       go_wp2_with fail
       go_roundw
       case rel=>exact⟨j+1,by go_num,by omega,HN⟩
       case measure=>first|(simp[intOf];done)|(simp[intOf];omega)
    ·obtain rfl:j=c':=by omega
     have u2:¬(j:Int)<(j:Int):=by omega
     rw[show i*j+j=(i+1)*j by rw[Nat.succ_mul]]at HO
     go_wp2_with fail
     go_roundw
     case rel=>exact⟨i+1,by go_num,by omega,HO⟩
     case measure=>first|(simp[intOf];done)|(simp[intOf];omega)
  ·obtain rfl:i=r:=by omega
   have u1:¬(i:Int)<(i:Int):=by omega
   have P:=Lib.hid (retZs HO.out (zup HZ.out HO.out.old));rw[List.take_of_length_le (by rw[hlen_.out];exact Nat.le_refl _)]at P;obtain⟨A5,c5,rfl,_⟩:=HO.out.form;clear HO
   go_wp2_with fail
   exact bodyPost_ret (v:=.slice A5 _ c5) (by simp[results,Tryz.results17,go_sem]) rfl P.out
end
section
open Go.RowKit
theorem r_n {r c:Int}{n d:Nat}{A:Option Addr}{w:World}(h1:fmd r c n=false):Calls Tryz.prog 10 #[.agg #[.int .i64 r,.int .i64 c,.slice A n d]] w (RetK (.k (.tuple #[.agg #[.int .i64 0,.int .i64 0,.slice none 0 0],.agg #[.int .i64 0,.int .i64 0,.slice none 0 0],.int .i64 2])) w):=by
 obtain⟨w1,hw1,b1,b2,b3,z1,s1⟩:=boxes3 w 24 24 24 [.int .i64 r,.int .i64 c,.slice A n d] [.int .i64 0,.int .i64 0,.slice none 0 0] [.int .i64 0,.int .i64 0,.slice none 0 0];have HW:=Lib.hid hw1;have HZ:=Lib.hid z1;have h1_:=Lib.hid h1;clear hw1 z1 h1;go_enter Tryz.func10,Tryz.ntmps10
 go_upto_region 1 with fail
 rw[HW.out];refine Run.start 3 ?_;refine .ld .o (ldM b1 0) ?_;refine .c1 (.i 0) (x:=.k (.bool false)) (by rintro u w4 hB rfl;exact a_n h1_.out w4) ?_;refine .nf (.i 1) ?_;refine .donep [some 6,some 7,some 8] ?_;intro w2 B2;change Shut (wpList _ _ _ [] _ _);refine⟨?_⟩;simp only[Act.put,lS,lZ,lC];have HBW:=Lib.hid (zup HZ.out B2);replace b2:=b2.below B2;replace b3:=b3.below B2;have P:Hid (RetK (.k (.tuple #[.agg #[.int .i64 0,.int .i64 0,.slice none 0 0],.agg #[.int .i64 0,.int .i64 0,.slice none 0 0],.int .i64 2])) w (.returned (.tuple #[.agg #[.int .i64 0,.int .i64 0,.slice none 0 0],.agg #[.int .i64 0,.int .i64 0,.slice none 0 0],.int .i64 2])) (mput (mput w2 (w.heap.size+1) 0 0 none 0 0) (w.heap.size+1+1) 0 0 none 0 0)):=
  Lib.hid ⟨_,rfl,rfl,a_c (a_c HBW.out (by omega)) (by omega)⟩
 unfold mput at P;obtain⟨i0,i1,i2,i3,i4,i5,i6⟩:=b2.m3;have b3':=b3.mo (g:=w.heap.size+1) (r:=0) (c:=0) (A:=none) (n:=0) (d:=0) (by omega);have b2':=b2.mp (r:=0) (c:=0) (A:=none) (n:=0) (d:=0);unfold mput at b3' b2';obtain⟨j0,j1,j2,j3,j4,j5,j6⟩:=b3'.m3;have nn:¬(w.heap.size+1=w.heap.size+1+1):=by omega
 have b2q:=b2'.mo (g:=w.heap.size+1+1) (r:=0) (c:=0) (A:=none) (n:=0) (d:=0) (by omega);have b3q:=b3'.mp (r:=0) (c:=0) (A:=none) (n:=0) (d:=0);unfold mput at b2q b3q;obtain⟨p0,p1,p2,-,-,-,-⟩:=b2q.m3;obtain⟨q0,q1,q2,-,-,-,-⟩:=b3q.m3;clear b1 b2 b3 b2' b3' b2q b3q B2
 go_wp2_with fail
 exact bodyPost_ret (v:=.tuple #[.agg #[.int .i64 0,.int .i64 0,.slice none 0 0],.agg #[.int .i64 0,.int .i64 0,.slice none 0 0],.int .i64 2]) (by simp[results,Tryz.results10,go_sem,p0,p1,p2,q0,q1,q2]) rfl P.out
end
section
open Go.RowKit
structure OwnW (w0 w:World) (k:Nat) (v:Value) (zs:List Int):Prop where
 row:∃vs:List Value,OwnN w w0.heap.size 37 v zs.length vs∧∀j,j<zs.length→∃s A n c,vs[j*2]? =some (.bool s)∧vs[j*2+1]? =some (.slice A n c)∧Zv w s A n c (ith zs j)∧n≤k
 old:Below w0.heap.size w0 w
theorem OwnW.below {w0 w w':World}{k:Nat}{v:Value}{zs:List Int}(h:OwnW w0 w k v zs)(hb:Below w.heap.size w w'):OwnW w0 w' k v zs:=by
 obtain⟨⟨vs,⟨h1,h2⟩,h3⟩,h4⟩:=h;refine⟨⟨vs,⟨h1.kept (row:=none) ⟨hb.os,hb.tape,hb.output,hb.size,fun k hk _=>hb.block k hk⟩ (by cases hv:v.ownBlock<;>simp),fun g cs hg hc=>h2 g cs hg ?_⟩,fun j hj=>?_⟩,h4.trans (hb.mono h4.size)⟩
 ·rw[←hb.block g (h1.lt g hg).2];exact hc
 ·obtain⟨s,A,n,c,c1,c2,c3,c4⟩:=h3 j hj;exact⟨s,A,n,c,c1,c2,c3.below hb,c4⟩
theorem OwnW.form {w0 w:World}{k:Nat}{v:Value}{zs:List Int}(h:OwnW w0 w k v zs):∃A c,v= .slice A zs.length c∧ZL false w A zs.length c k zs:=by
 obtain⟨⟨vs,⟨h1,h2⟩,h3⟩,h4⟩:=h;rcases h1.2 with⟨rfl,e⟩|⟨g,cap,cur,rfl,hb,hh,hn,hm,hcs,ht⟩
 ·rw[List.length_eq_zero_iff.1 e];exact⟨none,0,rfl,ZL.nil _ _ _⟩
 ·refine⟨_,cap,rfl,⟨rfl,hn,by unfold maxLen at hm;omega,fun h0=>⟨_,rfl,(Array.getElem?_eq_some_iff.1 hh).1,fun j hj=>?_⟩⟩⟩;obtain⟨s,A,n,c,c1,c2,c3,c4⟩:=h3 j hj;have hc:=h1.cells (g:=g) rfl;refine⟨s,A,n,c,hc _ _ c1, ?_,⟨c3,fun e=>nomatch e⟩,c4⟩
  have:=hc _ _ c2;rw[b_k]at this;rw[b_k];exact this
theorem g_o {P:Program}(w0 w1:World){ops:Array Oper}{rest:List Oper}{o:Oper}{a:Act}{Q:Exit→Act→World→Prop}(hgd:o.guard=none)(s x:Operand)(t:TypeId)
  (ho:o.op= .call { callee:=.builtin .append,args:=#[s,x],argTypes:=#[t,t] })
  (ht:P.underlying t=some (.slice 37)) (hinfo:(P.info? 37).map (fun i=>(i.zero,i.size,i.bytes))=some (some (.agg #[.bool false,.slice none 0 0]),2,32))
  (k:Nat) (v:Value) (zs:List Int) (hs:a.eval s=v) (hown:OwnW w0 w1 k v zs) {sb:Bool} {A:Option Addr} {n c g:Nat} {z:Int} (hc0:w1.cell? ⟨g,0,none⟩=some (.bool sb)) (hc1:w1.cell? ⟨g,1,none⟩=some (.slice A n c)) (hz:Zv w1 sb A n c z) (hn:n≤k)
  (hx:a.eval x= .slice (some ⟨g,0,none⟩) 1 1) (hlen:zs.length≤1099511627776)
  (h:∀v' w',OwnW w0 w' k v' (zs++[z])→Grew w1 w' v v'→wpList P ops Q rest (a.put o.dst v') w'):
  wpList P ops Q (o::rest) a w1:=by
 obtain⟨i,hi,hz0,hz1,hz2⟩:=info_parts hinfo;have hsz:=hown.old.size;have hzz:=hz;obtain⟨⟨vs,h1,h3⟩,h4⟩:=hown;obtain⟨v',w',hr,h5,h6,h8⟩:=d_5 (P:=P) w1 w0.heap.size t o.type 37 i (.agg #[.bool false,.slice none 0 0]) 32 ht hi hz0 hz1 hz2 rfl (fun u hu=>by
   simp[Value.cells]at hu;rcases hu with rfl|rfl<;>exact fun m e=>nomatch e) v zs.length vs h1 ⟨g,0,none⟩ 1 [.bool sb,.slice A n c] rfl (fun j u hu=>by
   rw[b_k];match j,hu with
   |0,hu=>simp at hu;subst hu;exact hc0
   |1,hu=>simp at hu;subst hu;exact hc1) (fun u hu=>by
   simp at hu;rcases hu with rfl|rfl<;>rfl) (fun u hu=>by
   simp at hu;rcases hu with rfl|rfl<;>exact fun m e=>nomatch e) (by unfold maxLen;omega) (by omega) (by omega)
 refine wpList_plain hgd fun K hK'=>?_;unfold Oper.wp execOp;simp only[ho,resolve,invoke,builtin,Sem.run_bind,Sem.run_pure,Result.andThen_ok,List.map_toArray,List.map_cons,List.map_nil,hs,hx,hr];have keep:∀ {s':Bool} {A':Option Addr} {n' c':Nat} {y:Int},Zv w1 s' A' n' c' y→Zv w' s' A' n' c' y:=fun {s' A' n' c' y} hy=>by
  cases hvb:v.ownBlock with
  |none=>rw[hvb]at h6;exact hy.below ⟨h6.os,h6.tape,h6.output,h6.size,fun k hk=>h6.block k hk (by simp)⟩
  |some g=>rw[hvb]at h6;exact hy.gro (h1.wless hvb) h6
 have hvl:vs.length=zs.length*2:=h1.1.1;have hG:Grew w1 w' v v':=⟨h6,fun g hg=>h1.wless hg,h8⟩;refine hK' _ _ (h v' w' ⟨⟨_,by rw[List.length_append];exact h5,fun j hj=>?_⟩, ?_⟩ hG)
 ·rw[List.length_append,List.length_singleton]at hj;rcases Nat.lt_or_ge j zs.length with hlt|hge
  ·obtain⟨s',A',n',c',c1,c2,c3,c4⟩:=h3 j hlt;refine⟨s',A',n',c',by rw[List.getElem?_append_left (by omega)];exact c1,by rw[List.getElem?_append_left (by omega)];exact c2, ?_,c4⟩;rw[show ith (zs++[z]) j=ith zs j by simp[ith,List.getD,List.getElem?_append_left hlt]];exact keep c3
  ·obtain rfl:j=zs.length:=by omega
   refine⟨sb,A,n,c,by rw[List.getElem?_append_right (by omega),hvl,Nat.sub_self];rfl,by rw[List.getElem?_append_right (by omega),hvl,show zs.length*2+1 - zs.length*2=1 by omega];rfl, ?_,hn⟩;rw[show ith (zs++[z]) zs.length=z by simp[ith,List.getD]];exact keep hzz
 ·exact h4.grown h6 h4.size (fun k hk=>(h1.1.lt k hk).1)
end
section
open Go.RowKit
def IsOneV (b:Nat)(z:Int)(k:Nat):FVal:=fun v w=>∃g s A n c,v= .slice (some ⟨g,0,none⟩) 1 1∧Bx w g 37 [.bool s,.slice A n c]∧b≤g∧Zv w s A n c z∧n≤k
def kOneV (b:Nat)(z:Int)(k:Nat):FK:=.f (IsOneV b z k) (fun v w w' ⟨g,s,A,n,c,e,h1,h2,h3,h4⟩ hb=>⟨g,s,A,n,c,e,h1.below hb,h2,h3.below hb,h4⟩)
theorem Run.bsv {ops:Array Oper}{Q:Exit→Act→World→Prop}{m i:Nat}{a0:Act}{w0:World}{l:List FK}{b:Bool}{id:Nat}(s:Src){z:Int}{k b0:Nat}(hb0:b0≤w0.heap.size)(rest:R ops Q m a0 w0 b id (kOneV b0 z k::l) (i+1))
  (hx:s.K l i a0 (bsX (opAt ops i).op)=kV z k:=by rfl) (hc:okBs ops m i s=true:=by kernel_rfl) (hg:Gd l i (opAt ops i):=by first|exact trivial|exact rfl):R ops Q m a0 w0 b id l i:=by
 unfold okBs at hc;rw[Bool.and_eq_true]at hc;obtain⟨h1,h2⟩:=hc;refine Run.mem (x:=kOneV b0 z k) (fun a w h=>?_) rest (FK.fne _) h1 hg;split at h2
 ·rename_i T xs e;split at h2
  ·rename_i x ex;obtain⟨ys⟩:=xs;simp only at ex;subst ex;have e0:bsX (opAt ops i).op=x:=by rw[e];rfl
   rw[e0]at hx;rw[Bool.and_eq_true,beq_iff_eq]at h2;obtain⟨rfl,h2⟩:=h2
   have:=h.src h2;rw[hx]at this;obtain⟨s',A,n,c,ev,hz,hk⟩:=this;have B:=zba w (.cells #[.bool s',.slice A n c] 37);refine⟨_,_, ?_,⟨w.heap.size,s',A,n,c,rfl,Bx.new w _ _,Nat.le_trans hb0 h.below.size,hz.below B,hk⟩,B⟩;unfold execOp;rw[e];simp only[List.map_toArray,List.map_cons,List.map_nil,ev];simp[l_i]
  ·cases h2
 ·cases h2
theorem take_one' {l:List Int}{m:Nat}(h:m<l.length):l.take m++[ith l m]=l.take (m+1):=by
 rw[List.take_succ_eq_append_getElem h];simp[ith,List.getD,h]
section
variable {w0 w w':World}{k g:Nat}{v v' u:Value}{zs:List Int}{T:TypeId}{cs:List Value}
theorem Grew.bx (h:Grew w w' v v')(b:Bx w g T cs)(hne:v.ownBlock≠some g):Bx w' g T cs:=(h.by'.block g b.lt (Ne.symm hne)).trans b
theorem Grew.ne (h:Grew w w' v v')(hg:g<w.heap.size)(hne:v.ownBlock≠some g):v'.ownBlock≠some g:=by
 rcases h.to' with e|e
 ·rw[e];exact hne
 ·rw[e];intro e2;injection e2 with e2;omega
theorem OwnW.set (h:OwnW w0 w k v zs)(b:Bx w g T cs)(hw:∀v,v∈cs→∀m:Int,v≠ .int .u64 m)(hg:w0.heap.size≤g)(hne:v.ownBlock≠some g)(o:Nat):OwnW w0 (w.setCell ⟨g,o,none⟩ u) k v zs:=by
 have hgr:w.grownBy (w.setCell ⟨g,o,none⟩ u) (some g):=b_e (q:=⟨g,o,none⟩) (a_8 w (some g)) rfl _;have hno:=b.now hw;obtain⟨⟨vs,⟨h1,h2⟩,h3⟩,h4⟩:=h;refine⟨⟨vs,⟨h1.kept hgr (.inr hne),fun g' cs hg' hc=>h2 g' cs hg' ?_⟩,fun j hj=>?_⟩,h4.setCell hg _⟩
 ·rw[←hgr.block g' (h1.lt g' hg').2 (by rw[←hg'];exact hne)];exact hc
 ·obtain⟨s',A',n',c',c1,c2,c3,c4⟩:=h3 j hj;exact⟨s',A',n',c',c1,c2,c3.gro hno hgr,c4⟩
theorem OwnW.nil' (h:Below w0.heap.size w0 w)(k:Nat):OwnW w0 w k (.slice none 0 0) []:=⟨⟨[],⟨World.ownsRow_nil w _ _ _,fun g cs h=>nomatch h⟩,fun j hj=>by simp at hj⟩,h⟩
theorem OwnW.mt {r c n d:Nat}{A:Option Addr}{F:Nat→Nat→Int}(h:OwnW w0 w k (.slice A n d) (Go.Proofs.YtgohglhefhocgaaGreat.mk r c F))(hr:r≤64)(hc:c≤64):Mt false w r c A n d k F:=by
 obtain⟨A',c',e,hz⟩:=h.form;cases e;exact⟨hz,hr,hc⟩
end
def cnt (k a:Nat):Nat:=if a≤k then a else a - 1
theorem j_r (k:Nat):cnt k 0=0:=by unfold cnt;rw[if_pos (Nat.zero_le _)]
theorem j_t (k:Nat):cnt k (k+1)=cnt k k:=by unfold cnt;rw[if_neg (by omega),if_pos (Nat.le_refl _)];omega
theorem j_u {k a:Nat}(h:a≠k):cnt k (a+1)=cnt k a+1:=by unfold cnt;by_cases e:a≤k;rw[if_pos e,if_pos (by omega)];rw[if_neg e,if_neg (by omega)];omega
theorem m_u {k n:Nat}(h:k<n):cnt k n=n - 1:=by unfold cnt;rw[if_neg (by omega)]
theorem j_v {k a n:Nat}(hk:k<n)(ha:a<n)(h:a≠k):cnt k a<n - 1:=by unfold cnt;split<;>omega
theorem j_s {k a:Nat}(h:a≠k):DT.skip k (cnt k a)=a:=by unfold DT.skip cnt;by_cases e:a≤k;rw[if_pos e,if_pos (by omega)];rw[if_neg e,if_neg (by omega)];omega
theorem t_3 {q:Bool}{r c n d k i kk:Nat}{A:Option Addr}{F:Nat→Nat→Int}{w:World}(ha:Mt q w r c A n d k F)(hi:i<r)(hkk:kk<c):Calls Tryz.prog 77 #[.agg #[.int .i64 (r:Int),.int .i64 (c:Int),.slice A n d],.int .i64 (i:Int),.int .i64 (kk:Int)] w (RetK (kM false (r - 1) (c - 1) k (DT.minor2 F i kk)) w):=by
 have h3:=ha.hr;have h4:=ha.hc;obtain⟨L,hL⟩:∃L,mk (r - 1) (c - 1) (DT.minor2 F i kk)=L:=⟨_,rfl⟩;have hLl:L.length=(r - 1)*(c - 1):=by rw[←hL,a_4]
 have hL2:(r - 1)*(c - 1)≤64*64:=Nat.mul_le_mul (by omega) (by omega);obtain⟨w1,hw1,b3,b6,z1,s1⟩:=boxes2 w 24 24 [.int .i64 (r:Int),.int .i64 (c:Int),.slice A n d] [.int .i64 0,.int .i64 0,.slice none 0 0];have HW:=Lib.hid hw1;have HZ:=Lib.hid z1;have hL_:=Lib.hid hL;clear hw1 z1 hL;go_enter Tryz.func77,Tryz.ntmps77
 go_upto_region 1 with fail
 rw[HW.out];obtain⟨w2,hw2,b7,z2,s2⟩:=boxes1 w1 24 [.int .i64 ((r:Int) - 1),.int .i64 ((c:Int) - 1),.slice none 0 0];rw[s1]at b7;have HW2:=Lib.hid hw2;have HM:=Lib.hid ha;obtain⟨i0,i1,i2,i3,i4,i5,i6⟩:=b3.m3;have H0:Hid (∃v,Bx w2 w.heap.size 24 [.int .i64 (r:Int),.int .i64 (c:Int),.slice A n d]∧Bx w2 (w.heap.size+1) 24 [.int .i64 0,.int .i64 0,.slice none 0 0]∧Bx w2 (w.heap.size+1+1) 24 [.int .i64 ((r:Int) - 1),.int .i64 ((c:Int) - 1),v]∧OwnW w w2 k v ((L).take (cnt i 0*(c - 1)))∧v.ownBlock≠some (w.heap.size+1+1)∧v.ownBlock≠some (w.heap.size+1)∧v.ownBlock≠some w.heap.size):=Lib.hid ⟨_,b3.below z2,b6.below z2,b7,by rw[j_r,Nat.zero_mul];exact OwnW.nil' (zup HZ.out z2) k,by simp[Value.ownBlock],by simp[Value.ownBlock],by simp[Value.ownBlock]⟩;have u3:-9223372036854775808≤(r:Int) - 1∧(r:Int) - 1≤9223372036854775807:=by omega
 have u4:-9223372036854775808≤(c:Int) - 1∧(c:Int) - 1≤9223372036854775807:=by omega
 have u5:=IntWalk.i64_in _ u3;have u6:=IntWalk.i64_in _ u4;clear hw2 b7 b6 b3 z2 s2 ha HZ;go_upto_region 2 with fail
 rw[HW2.out];clear i0 i1 i2 i3 i4 i5 i6 HW2 u3 u4 u5 u6 HW s1
 go_wp2_with fail
 go_loopw [8] (fun s8 wr=>∃a:Nat,s8= .int .i64 (a:Int)∧a≤r∧Hid (∃v,Bx wr w.heap.size 24 [.int .i64 (r:Int),.int .i64 (c:Int),.slice A n d]∧Bx wr (w.heap.size+1) 24 [.int .i64 0,.int .i64 0,.slice none 0 0]∧Bx wr (w.heap.size+1+1) 24 [.int .i64 ((r:Int) - 1),.int .i64 ((c:Int) - 1),v]∧OwnW w wr k v ((L).take (cnt i a*(c - 1)))∧v.ownBlock≠some (w.heap.size+1+1)∧v.ownBlock≠some (w.heap.size+1)∧v.ownBlock≠some w.heap.size)) (fun s8 _=>r - (intOf s8).toNat)
 case atStart=>exact⟨0,rfl,Nat.zero_le _,H0⟩
 case round=>
  obtain⟨a,rfl,har,HB⟩:=hrel;clear H0;obtain⟨v,b3,b6,b7,ho,n1,n2,n3⟩:=HB.out;obtain⟨i0,i1,i2,i3,i4,i5,i6⟩:=b3.m3;by_cases hlt:a<r
  ·have u2:(a:Int)<(r:Int):=by omega
   have HB1:Hid (∃v,Bx wr w.heap.size 24 [.int .i64 (r:Int),.int .i64 (c:Int),.slice A n d]∧Bx wr (w.heap.size+1) 24 [.int .i64 0,.int .i64 0,.slice none 0 0]∧Bx wr (w.heap.size+1+1) 24 [.int .i64 ((r:Int) - 1),.int .i64 ((c:Int) - 1),v]∧OwnW w wr k v ((L).take (cnt i a*(c - 1)+(if a=i then 0 else cnt kk 0)))∧v.ownBlock≠some (w.heap.size+1+1)∧v.ownBlock≠some (w.heap.size+1)∧v.ownBlock≠some w.heap.size):=by rw[show cnt i a*(c - 1)+(if a=i then 0 else cnt kk 0)=cnt i a*(c - 1) by rw[j_r];split<;>rfl];exact HB
   clear HB b3 b6 b7 ho n1 n2 n3
   go_wp2_with fail
   clear i0 i1 i2 i3 i4 i5 i6;go_loopw [9] (fun s9 wr=>∃e:Nat,s9= .int .i64 (e:Int)∧e≤c∧Hid (∃v,Bx wr w.heap.size 24 [.int .i64 (r:Int),.int .i64 (c:Int),.slice A n d]∧Bx wr (w.heap.size+1) 24 [.int .i64 0,.int .i64 0,.slice none 0 0]∧Bx wr (w.heap.size+1+1) 24 [.int .i64 ((r:Int) - 1),.int .i64 ((c:Int) - 1),v]∧OwnW w wr k v ((L).take (cnt i a*(c - 1)+(if a=i then 0 else cnt kk e)))∧v.ownBlock≠some (w.heap.size+1+1)∧v.ownBlock≠some (w.heap.size+1)∧v.ownBlock≠some w.heap.size)) (fun s9 _=>c - (intOf s9).toNat)
   case atStart=>exact⟨0,rfl,Nat.zero_le _,HB1⟩
   case round=>
    obtain⟨e,rfl,hec,HB⟩:=hrel;clear HB1;obtain⟨v,b3,b6,b7,ho,n1,n2,n3⟩:=HB.out;obtain⟨i0,i1,i2,i3,i4,i5,i6⟩:=b3.m3;by_cases hel:e<c
    ·have u7:(e:Int)<(c:Int):=by omega
     by_cases hai:a=i
     ·have u8:((a:Int)=(i:Int)):=by omega
      have u8':((a:Int) != (i:Int))=false:=by simpa using u8
      rw[if_pos hai]at ho;have HS:Hid (∃v,Bx wr w.heap.size 24 [.int .i64 (r:Int),.int .i64 (c:Int),.slice A n d]∧Bx wr (w.heap.size+1) 24 [.int .i64 0,.int .i64 0,.slice none 0 0]∧Bx wr (w.heap.size+1+1) 24 [.int .i64 ((r:Int) - 1),.int .i64 ((c:Int) - 1),v]∧OwnW w wr k v ((L).take (cnt i a*(c - 1)+(if a=i then 0 else cnt kk (e+1))))∧v.ownBlock≠some (w.heap.size+1+1)∧v.ownBlock≠some (w.heap.size+1)∧v.ownBlock≠some w.heap.size):=Lib.hid ⟨v,b3,b6,b7,by rw[if_pos hai];exact ho,n1,n2,n3⟩;clear HB b3 b6 b7 ho n1 n2 n3
      go_wp2_with fail
      go_roundw
      case rel=>exact⟨e+1,by go_num,by omega,HS⟩
      case measure=>first|(simp[intOf];done)|(simp[intOf];omega)
     ·have u8:¬((a:Int)=(i:Int)):=by omega
      have u8':((a:Int) != (i:Int))=true:=by simpa using u8
      rw[if_neg hai]at ho;by_cases hek:e=kk
      ·have u9:((e:Int)=(kk:Int)):=by omega
       have u9':((e:Int) != (kk:Int))=false:=by simpa using u9
       have HS:Hid (∃v,Bx wr w.heap.size 24 [.int .i64 (r:Int),.int .i64 (c:Int),.slice A n d]∧Bx wr (w.heap.size+1) 24 [.int .i64 0,.int .i64 0,.slice none 0 0]∧Bx wr (w.heap.size+1+1) 24 [.int .i64 ((r:Int) - 1),.int .i64 ((c:Int) - 1),v]∧OwnW w wr k v ((L).take (cnt i a*(c - 1)+(if a=i then 0 else cnt kk (e+1))))∧v.ownBlock≠some (w.heap.size+1+1)∧v.ownBlock≠some (w.heap.size+1)∧v.ownBlock≠some w.heap.size):=Lib.hid ⟨v,b3,b6,b7,by rw[hek]at ho;rw[if_neg hai,hek,j_t];exact ho,n1,n2,n3⟩;clear HB b3 b6 b7 ho n1 n2 n3
       go_wp2_with fail
       go_roundw
       case rel=>exact⟨e+1,by go_num,by omega,HS⟩
       case measure=>first|(simp[intOf];done)|(simp[intOf];omega)
      ·have u9:¬((e:Int)=(kk:Int)):=by omega
       have u9':((e:Int) != (kk:Int))=true:=by simpa using u9
       have B0:=ho.old;have hM:=HM.out.below B0;obtain⟨Av,cv,rfl,-⟩:=ho.form;obtain⟨nv,hnv⟩:∃nv,(List.take (cnt i a*(c - 1)+cnt kk e) L).length=nv:=⟨_,rfl⟩;rw[hnv]at b7 n1 n2 n3 ho;have hlen:((L.take (cnt i a*(c - 1)+cnt kk e))).length≤4096:=by rw[List.length_take];omega
       clear HB hnv;go_upto_region 9 with fail
       clear i0 i1 i2 i3 i4 i5 i6;refine Run.start 7 ?_;refine .fa .o (fM2 2) ?_;refine .ld (.i 0) (ldSl b7 2) ?_;refine .ld .o (ldM b3 0) ?_;refine .mv .o ?_;refine .mv .o ?_;refine .c3 (.i 2) (.i 3) (.i 4) (x:=kV (F a e) k) (by rintro u v x w4 hB rfl rfl rfl;exact d_p (hM.below hB) hlt hel) ?_;refine .bsv (.i 5) (Nat.le_refl _) ?_;refine .done [some 37,some 38,some 39,some 40,some 41,some 42,some 43] ?_;intro w4 B4;rintro v42 -;rintro v ⟨g,s_,A_,n_,c_,rfl,bg,hge,hz,hk⟩;change Shut (wpList _ _ _ [_,_,_] _ _);refine⟨?_⟩;simp only[Act.put,lS,lZ,lC];have hg0:=bg.cell 0;have hg1:=bg.cell 1;simp only[List.getElem?_cons_succ,List.getElem?_cons_zero]at hg0 hg1;have ho4:=ho.below B4;replace b3:=b3.below B4;replace b6:=b6.below B4;replace b7:=b7.below B4;clear B4 ho hM
       go_wp2_with (at_builtin;refine g_o w _ rfl _ _ 22 rfl Tryz.underlying22 info_zint k _ _ rfl ho4 hg0 hg1 hz hk rfl (by omega) ?_)
       intro v5 w5 ho5 hG;have b3':=hG.bx b3 n3;have b6':=hG.bx b6 n2;have b7':=hG.bx b7 n1;have n1':=hG.ne b7.lt n1;have n2':=hG.ne b6.lt n2;have n3':=hG.ne b3.lt n3;have hm:cnt i a*(c - 1)+cnt kk e<L.length:=by rw[hLl];exact g_i (j_v hi hlt hai) (j_v hkk hel hek)
       have hz5:F a e=ith L (cnt i a*(c - 1)+cnt kk e):=by
        rw[←hL_.out,g_b (j_v hi hlt hai) (j_v hkk hel hek)];unfold DT.minor2;rw[j_s hai,j_s hek]
       rw[hz5,take_one' hm,Nat.add_assoc,←j_u hek]at ho5;obtain⟨A5,c5,rfl,-⟩:=ho5.form;obtain⟨nl,hnl⟩:∃nl,(List.take (cnt i a*(c - 1)+cnt kk (e+1)) L).length=nl:=⟨_,rfl⟩;have i2:=b7'.cell 2;have i2':=b7'.free 2;simp only[List.getElem?_cons_succ,List.getElem?_cons_zero]at i2;have HS:Hid (∃v,Bx (w5.setCell ⟨w.heap.size+1+1,2,none⟩ (.slice A5 (List.take (cnt i a*(c - 1)+cnt kk (e+1)) L).length c5)) w.heap.size 24 [.int .i64 (r:Int),.int .i64 (c:Int),.slice A n d]∧Bx (w5.setCell ⟨w.heap.size+1+1,2,none⟩ (.slice A5 (List.take (cnt i a*(c - 1)+cnt kk (e+1)) L).length c5)) (w.heap.size+1) 24 [.int .i64 0,.int .i64 0,.slice none 0 0]∧Bx (w5.setCell ⟨w.heap.size+1+1,2,none⟩ (.slice A5 (List.take (cnt i a*(c - 1)+cnt kk (e+1)) L).length c5)) (w.heap.size+1+1) 24 [.int .i64 ((r:Int) - 1),.int .i64 ((c:Int) - 1),v]∧OwnW w (w5.setCell ⟨w.heap.size+1+1,2,none⟩ (.slice A5 (List.take (cnt i a*(c - 1)+cnt kk (e+1)) L).length c5)) k v ((L).take (cnt i a*(c - 1)+(if a=i then 0 else cnt kk (e+1))))∧v.ownBlock≠some (w.heap.size+1+1)∧v.ownBlock≠some (w.heap.size+1)∧v.ownBlock≠some w.heap.size):=Lib.hid ⟨_,b3'.off (by omega) _ _,b6'.off (by omega) _ _,b7'.set 2 _,by rw[if_neg hai];exact ho5.set b7' (by simp) (by omega) n1' 2,n1',n2',n3'⟩;rw[hnl]at HS;try rw[hnl]
       clear b3 b6 b7 b3' b6' b7' ho4 ho5 hG bg hge hz hk hg0 hg1 hz5 hnl
       go_wp2_with fail
       go_roundw
       case rel=>exact⟨e+1,by go_num,by omega,HS⟩
       case measure=>first|(simp[intOf];done)|(simp[intOf];omega)
    ·obtain rfl:e=c:=by omega
     have u7:¬(e:Int)<(e:Int):=by omega
     have HS:Hid (∃v,Bx wr w.heap.size 24 [.int .i64 (r:Int),.int .i64 (e:Int),.slice A n d]∧Bx wr (w.heap.size+1) 24 [.int .i64 0,.int .i64 0,.slice none 0 0]∧Bx wr (w.heap.size+1+1) 24 [.int .i64 ((r:Int) - 1),.int .i64 ((e:Int) - 1),v]∧OwnW w wr k v ((L).take (cnt i (a+1)*(e - 1)))∧v.ownBlock≠some (w.heap.size+1+1)∧v.ownBlock≠some (w.heap.size+1)∧v.ownBlock≠some w.heap.size):=Lib.hid ⟨v,b3,b6,b7,by
      by_cases hai:a=i
      ·rw[if_pos hai,Nat.add_zero]at ho;rw[hai]at ho ⊢;rw[j_t];exact ho
      ·rw[if_neg hai,m_u hkk,←Nat.succ_mul]at ho;rw[j_u hai];exact ho,n1,n2,n3⟩
     clear HB b3 b6 b7 ho n1 n2 n3
     go_wp2_with fail
     go_roundw
     case rel=>exact⟨a+1,by go_num,by omega,HS⟩
     case measure=>first|(simp[intOf];done)|(simp[intOf];omega)
  ·obtain rfl:a=r:=by omega
   have u2:¬(a:Int)<(a:Int):=by omega
   rw[m_u hi,←hLl,List.take_length,←hL_.out]at ho;obtain⟨Av,cv,rfl,-⟩:=ho.form;have hlm:(mk (a - 1) (c - 1) (DT.minor2 F i kk)).length=(a - 1)*(c - 1):=a_4 _ _ _;obtain⟨N,hN⟩:∃N,(mk (a - 1) (c - 1) (DT.minor2 F i kk)).length=N:=⟨_,rfl⟩;rw[hN]at ho b7;have hM:=ho.mt (by omega) (by omega);have P:=Lib.hid (retM hM b6 (by omega) ho.old);have er:((a - 1:Nat):Int)=(a:Int) - 1:=by omega
   have ec:((c - 1:Nat):Int)=(c:Int) - 1:=by omega
   rw[er,ec]at P;have j0:=b7.cell 0;have j1:=b7.cell 1;have j2:=b7.cell 2;obtain⟨k0,k1,k2,k3,k4,k5,k6⟩:=b6.m3;simp only[List.getElem?_cons_succ,List.getElem?_cons_zero]at j0 j1 j2;clear b3 b6 b7 hM HB ho n1 n2 n3 hlm er ec;unfold mput at P
   go_wp2_with fail
   exact bodyPost_ret (v:=.agg #[.int .i64 ((a:Int) - 1),.int .i64 ((c:Int) - 1),.slice Av N cv]) (by simp[results,Tryz.results77,go_sem,k0,k1,k2]) rfl P.out
end
section
open Go.RowKit
def dk (k:Nat):Nat→Nat
 |0=>1
 |r+1=>dk k r+k+66
theorem p_l (k:Nat):∀r,1≤dk k r
 |0=>Nat.le_refl _
 |r+1=>by have:=p_l k r;unfold dk;omega
theorem opRem2 {T U:TypeId}{X Y:Operand}(j:Nat)(hj:j≤1048576)(w:World):RunTwo Tryz.prog (.binOp .rem T X Y U) w (.int .i64 (j:Int)) (.int .i64 2) (.int .i64 ((j%2:Nat):Int)):=by
 have h1:(j:Int).tmod 2=((j%2:Nat):Int):=by
  rw[Int.tmod_eq_emod_of_nonneg (by omega)];omega
 have h2:IntKind.i64.wrap ((j%2:Nat):Int)=((j%2:Nat):Int):=IntWalk.i64_in _ (by omega);unfold RunTwo;simp[go_sem,h1,h2]
theorem k_e (F:Nat→Nat→Int)(j:Nat):DT.minor2 F 0 j=DT.minor F j:=by
 funext a b
 unfold DT.minor2 DT.minor;rw[show DT.skip 0 a=a+1 by unfold DT.skip;rw[if_neg (by omega)]]
def dtm (r:Nat)(F:Nat→Nat→Int)(j:Nat):Int:=DT.sgn j*F 0 j*DT.det r (DT.minor F j)
theorem sgn_even:∀j,j%2=0→DT.sgn j=1∧DT.sgn (j+1)= -1
 |0,_=>⟨rfl,rfl⟩
 |1,h=>by omega
 |j+2,h=>by
  obtain⟨h1,h2⟩:=sgn_even j (by omega);have e1:DT.sgn (j+2)= - DT.sgn (j+1):=by first|rfl|simp[DT.sgn]
  have e2:DT.sgn (j+2+1)= - DT.sgn (j+2):=by first|rfl|simp[DT.sgn]
  exact⟨by rw[e1,h2];rfl,by rw[e2,e1,h2];rfl⟩
theorem p_9 (j:Nat)(h:j%2=1):DT.sgn j= -1:=by
 obtain⟨i,rfl⟩:∃i,j=i+1:=⟨j - 1,by omega⟩;exact(sgn_even i (by omega)).2
theorem n_s {q:Bool}{n d k:Nat}{A:Option Addr}{F:Nat→Nat→Int}{w:World}(ha:Mt q w 0 0 A n d k F):Calls Tryz.prog 43 #[.agg #[.int .i64 0,.int .i64 0,.slice A n d]] w (RetK (kC 1 1) w):=by
 obtain⟨w1,hw1,b1,b2,z1,s1⟩:=boxes2 w 24 37 [.int .i64 0,.int .i64 0,.slice A n d] [.bool false,.slice none 0 0];have HW:=Lib.hid hw1;have HZ:=Lib.hid z1;clear hw1 z1 s1;go_enter Tryz.func43,Tryz.ntmps43
 go_upto_region 1 with fail
 rw[HW.out];refine Run.start 3 ?_;refine .fa .o (fM0 0) ?_;refine .ld (.i 0) (ldInt b1 0) ?_;refine .two (.i 1) .o (opEq (by decide:decide ((0:Int)=0)=true)) ?_;refine .donep [some 6,some 7,some 8] ?_;intro w2 B2;change Shut (wpList _ _ _ [] _ _);refine⟨?_⟩;simp only[Act.put,lS,lZ,lC];replace b2:=b2.below B2;have HZ2:=Lib.hid (zup HZ.out B2);clear B2 HZ;go_upto_region 2 with fail
 refine Run.start 1 ?_;refine .c1 .o (x:=kC 1 1) (by rintro u w3 hB rfl;exact h_j (by omega) (by omega) w3) ?_;refine .donep [some 9] ?_;intro w3 B3;rintro v ⟨s_,A_,n_,c_,rfl,hz,hk⟩;change Shut (wpList _ _ _ [_] _ _);refine⟨?_⟩;simp only[Act.put,lS,lZ,lC];have I:=Ib.entry (b2.below B3);have P:=Lib.hid (retC hz I (k:=1) (by omega) (by omega) (zup HZ2.out B3));obtain⟨i1,i2,i3,i4,i5⟩:=I;clear hz
 go_wp2_with fail
 exact bodyPost_ret (v:=.agg #[.bool s_,.slice A_ n_ c_]) (by simp[results,Tryz.results43,go_sem,i1,i2]) rfl P.out
theorem n_t {q:Bool}{R r n d k:Nat}{A:Option Addr}{F:Nat→Nat→Int}{w:World}(hR:R=r+1)(ha:Mt q w R R A n d k F)(hK:dk k (r+1)≤549755813888)(ih:∀(q':Bool) (n' d':Nat) (A':Option Addr) (G:Nat→Nat→Int) (w':World),Mt q' w' r r A' n' d' k G→Calls Tryz.prog 43 #[.agg #[.int .i64 (r:Int),.int .i64 (r:Int),.slice A' n' d']] w' (RetK (kC (DT.det r G) (dk k r)) w')):
  Calls Tryz.prog 43 #[.agg #[.int .i64 (R:Int),.int .i64 (R:Int),.slice A n d]] w (RetK (kC (DT.det (r+1) F) (dk k (r+1))) w):=by
 have hR1:R≤r+1:=Nat.le_of_eq hR;have hR2:r+1≤R:=Nat.le_of_eq hR.symm;clear hR;have h3:=ha.hr;have hd:=p_l k r;have hK2:dk k r+k+66≤549755813888:=hK;obtain⟨w1,hw1,b1,b2,z1,s1⟩:=boxes2 w 24 37 [.int .i64 (R:Int),.int .i64 (R:Int),.slice A n d] [.bool false,.slice none 0 0];have HW:=Lib.hid hw1;have HZ:=Lib.hid z1;clear hw1 z1;go_enter Tryz.func43,Tryz.ntmps43
 go_upto_region 1 with fail
 rw[HW.out];refine Run.start 3 ?_;refine .fa .o (fM0 0) ?_;refine .ld (.i 0) (ldInt b1 0) ?_;refine .two (.i 1) .o (opEq (decide_eq_false (by omega:¬((R:Int)=0)))) ?_;refine .donep [some 6,some 7,some 8] ?_;intro w2 B2;change Shut (wpList _ _ _ [] _ _);refine⟨?_⟩;simp only[Act.put,lS,lZ,lC];have B0:=zup HZ.out B2;replace b1:=b1.below B2;replace b2:=b2.below B2;have hl1:=b1.lt;have hl2:=b2.lt;clear B2 HZ;go_upto_region 3 with fail
 refine Run.start 2 ?_;refine .c1 .o (x:=kC 0 1) (by rintro u w3 hB rfl;exact h_j (by omega) (by omega) w3) ?_;refine .al ?_;refine .donep [some 10,some 3] ?_;intro w3 B3;rintro v ⟨s_,A_,n_,c_,rfl,hz,hk⟩;rintro g3 hg3 hl3 hc3 -;change Shut (wpList _ _ _ [_] _ _);refine⟨?_⟩;simp only[Act.put,lS,lZ,lC];have b3:=zeroZ (T:=0) hc3;have hs3:=B0.size;replace B0:=zup B0 B3;replace b1:=b1.below B3;replace b2:=b2.below B3;clear hc3 B3;obtain⟨w4,hw4⟩:∃x,zput w3 g3 s_ A_ n_ c_=x:=⟨_,rfl⟩;obtain⟨f1_,f2_,f3_,f4_,f5_⟩:=Ib.entry b3;replace b1:=b1.zo (g:=g3) (s:=s_) (A:=A_) (n:=n_) (c:=c_) (by omega);rw[hw4]at b1;replace b2:=b2.zo (g:=g3) (s:=s_) (A:=A_) (n:=n_) (c:=c_) (by omega);rw[hw4]at b2;replace hz:=hz.zp (s':=s_) (A':=A_) (n':=n_) (c':=c_) b3;rw[hw4]at hz;replace B0:=a_j (g:=g3) (s:=s_) (A:=A_) (n:=n_) (c:=c_) B0 (by omega);rw[hw4]at B0;replace b3:=b3.zp (s:=s_) (A:=A_) (n:=n_) (c:=c_);rw[hw4]at b3;have Hw4:=Lib.hid hw4;unfold zput at Hw4;clear hw4;go_upto_region 4 with fail
 rw[Hw4.out];clear f1_ f2_ f3_ f4_ f5_ Hw4;have H0:Hid (Below w.heap.size w w4∧Bx w4 w.heap.size 24 [.int .i64 (R:Int),.int .i64 (R:Int),.slice A n d]∧Bx w4 (w.heap.size+1) 37 [.bool false,.slice none 0 0]∧∃s A n c,Bx w4 g3 37 [.bool s,.slice A n c]∧Zc w4 s A n c (DT.sumN (0) (dtm r F))∧n≤k+dk k r+(0)):=Lib.hid ⟨B0,b1,b2,s_,A_,n_,c_,b3,hz,by omega⟩;have hsz4:=B0.size;have hg3':w.heap.size+1<g3:=by omega
 have HM:=Lib.hid ha;have HI:=Lib.hid ih;clear b1 b2 b3 hz hk B0 ha ih hsz4 hs3 hg3 hl3
 go_wp2_with fail
 go_loopw [4] (fun s4 wr=>∃j:Nat,s4= .int .i64 (j:Int)∧j≤r+1∧Hid (Below w.heap.size w wr∧Bx wr w.heap.size 24 [.int .i64 (R:Int),.int .i64 (R:Int),.slice A n d]∧Bx wr (w.heap.size+1) 37 [.bool false,.slice none 0 0]∧∃s A n c,Bx wr g3 37 [.bool s,.slice A n c]∧Zc wr s A n c (DT.sumN (j) (dtm r F))∧n≤k+dk k r+(j))) (fun s4 _=>r+1 - (intOf s4).toNat)
 case atStart=>exact⟨0,rfl,Nat.zero_le _,H0⟩
 case round=>
  obtain⟨j,rfl,hj,HB⟩:=hrel;clear H0;obtain⟨B0,b1,b2,s1_,A1,n1,c1,b3,hz1,hk1⟩:=HB.out;obtain⟨i0,i1,i2,i3,i4,i5,i6⟩:=b1.m3;by_cases hlt:j<r+1
  ·have u2:(j:Int)<(R:Int):=by omega
   clear HB;go_upto_region 7 with fail
   clear i0 i1 i2 i3 i4 i5 i6;refine Run.start 9 ?_;refine .ld .o (ldM b1 0) ?_;refine .mv .o ?_;refine .c3 (.i 0) .o (.i 1) (x:=kV (F 0 j) k) (by rintro u v x w5 hB rfl rfl rfl;exact d_p (i:=0) (HM.out.below (zup B0 hB)) (by omega) (show j<R by omega)) ?_;refine .ld .o (ldM b1 0) ?_;refine .mv .o ?_;refine .c3 (.i 3) .o (.i 4) (x:=kM false r r k (DT.minor F j)) (by rintro u v x w5 hB rfl rfl rfl;rw[←k_e];have hh:=t_3 (i:=0) (HM.out.below (zup B0 hB)) (by omega) (show j<R by omega);rw[show R - 1=r by omega]at hh;exact hh) ?_;refine .c1 (.i 5) (x:=kC (DT.det r (DT.minor F j)) (dk k r)) (by rintro u w5 hB ⟨A',n',d',rfl,hM⟩;exact HI.out _ _ _ _ _ _ hM) ?_;refine .c2 (.i 2) (.i 6) (x:=kC (F 0 j*DT.det r (DT.minor F j)) (k+dk k r)) (by rintro u v w5 hB hu hv;exact c_5 hu hv.v (by omega) (by omega) (Nat.le_refl _)) ?_;refine .al ?_;refine .done [some 17,some 18,some 19,some 20,some 21,some 22,some 23,some 24,some 5] ?_;intro w5 B5;rintro v19 -;rintro v22 -;rintro v23 -;rintro v ⟨s2,A2,n2,c2,rfl,hz2,hk2⟩;rintro g5 hg5 hl5 hc5 -;change Shut (wpList _ _ _ [_] _ _);refine⟨?_⟩;simp only[Act.put,lS,lZ,lC];have b5:=zeroZ (T:=0) hc5;have hs5:=B0.size;have hl3:=b3.lt;replace B0:=zup B0 B5;replace b1:=b1.below B5;replace b2:=b2.below B5;replace b3:=b3.below B5;replace hz1:=hz1.below B5;clear hc5 B5;obtain⟨w6,hw6⟩:∃x,zput w5 g5 s2 A2 n2 c2=x:=⟨_,rfl⟩;obtain⟨f1_,f2_,f3_,f4_,f5_⟩:=Ib.entry b5;replace b1:=b1.zo (g:=g5) (s:=s2) (A:=A2) (n:=n2) (c:=c2) (by omega);rw[hw6]at b1;replace b2:=b2.zo (g:=g5) (s:=s2) (A:=A2) (n:=n2) (c:=c2) (by omega);rw[hw6]at b2;replace b3:=b3.zo (g:=g5) (s:=s2) (A:=A2) (n:=n2) (c:=c2) (by omega);rw[hw6]at b3;replace hz1:=hz1.zp (s':=s2) (A':=A2) (n':=n2) (c':=c2) b5;rw[hw6]at hz1;replace hz2:=hz2.zp (s':=s2) (A':=A2) (n':=n2) (c':=c2) b5;rw[hw6]at hz2;replace B0:=a_j (g:=g5) (s:=s2) (A:=A2) (n:=n2) (c:=c2) B0 (by omega);rw[hw6]at B0;replace b5:=b5.zp (s:=s2) (A:=A2) (n:=n2) (c:=c2);rw[hw6]at b5;have Hw6:=Lib.hid hw6;unfold zput at Hw6;clear hw6;go_upto_region 8 with fail
   rw[Hw6.out];clear f1_ f2_ f3_ f4_ f5_ Hw6;obtain⟨t,ht⟩:∃t,decide (((j%2:Nat):Int)=1)=t:=⟨_,rfl⟩;have HT:=Lib.hid ht;clear ht;cases t
   ·refine Run.start 3 ?_;refine .mv .o ?_;refine .two (.i 0) .o (opRem2 j (by omega)) ?_;refine .two (.i 1) .o (opEq HT.out) ?_;refine .donep [some 25,some 26,some 27] ?_;intro w7 B7;change Shut (wpList _ _ _ [] _ _);refine⟨?_⟩;simp only[Act.put,lS,lZ,lC];replace B0:=zup B0 B7;replace b1:=b1.below B7;replace b2:=b2.below B7;replace b3:=b3.below B7;replace b5:=b5.below B7;replace hz1:=hz1.below B7;replace hz2:=hz2.below B7;have he:j%2=0:=by have:=of_decide_eq_false HT.out;omega
    have HE:Hid (DT.sumN (j+1) (dtm r F)=DT.sumN j (dtm r F)+F 0 j*DT.det r (DT.minor F j)):=Lib.hid (by
     show DT.sumN j (dtm r F)+dtm r F j=_
     unfold dtm;rw[(sgn_even j he).1,Int.one_mul])
    clear B7;go_upto_region 10 with fail
    refine Run.start 3 ?_;refine .ld .o (ldZ b3 0) ?_;refine .ld .o (ldZ b5 0) ?_;refine .c2 (.i 0) (.i 1) (x:=kC (DT.sumN (j+1) (dtm r F)) (k+dk k r+(j+1))) (by rintro u v w10 hB rfl rfl;rw[show DT.sumN (j+1) (dtm r F)=DT.sumN j (dtm r F)+F 0 j*DT.det r (DT.minor F j)from HE.out];exact f_d ⟨_,_,_,_,rfl,(hz1.below hB).zv,hk1⟩ ⟨_,_,_,_,rfl,(hz2.below hB).zv,hk2⟩ (by omega) (by omega) (by omega)) ?_;refine .donep [some 30,some 31,some 32] ?_;intro w8 B8;rintro v ⟨s3,A3,n3,c3,rfl,hz3,hk3⟩;change Shut (wpList _ _ _ [_] _ _);refine⟨?_⟩;simp only[Act.put,lS,lZ,lC];replace B0:=zup B0 B8;replace b1:=b1.below B8;replace b2:=b2.below B8;replace b3:=b3.below B8;have hg3w:=B0.size;clear B8 b5 hz2 hz1;obtain⟨f1_,f2_,f3_,f4_,f5_⟩:=Ib.entry b3;have HS:Hid (Below w.heap.size w ((w8.setCell ⟨g3,0,none⟩ (.bool s3)).setCell ⟨g3,1,none⟩ (.slice A3 n3 c3))∧Bx ((w8.setCell ⟨g3,0,none⟩ (.bool s3)).setCell ⟨g3,1,none⟩ (.slice A3 n3 c3)) w.heap.size 24 [.int .i64 (R:Int),.int .i64 (R:Int),.slice A n d]∧Bx ((w8.setCell ⟨g3,0,none⟩ (.bool s3)).setCell ⟨g3,1,none⟩ (.slice A3 n3 c3)) (w.heap.size+1) 37 [.bool false,.slice none 0 0]∧∃s A n c,Bx ((w8.setCell ⟨g3,0,none⟩ (.bool s3)).setCell ⟨g3,1,none⟩ (.slice A3 n3 c3)) g3 37 [.bool s,.slice A n c]∧Zc ((w8.setCell ⟨g3,0,none⟩ (.bool s3)).setCell ⟨g3,1,none⟩ (.slice A3 n3 c3)) s A n c (DT.sumN (j+1) (dtm r F))∧n≤k+dk k r+(j+1)):=Lib.hid ⟨a_j B0 (by omega),b1.zo (by omega),b2.zo (by omega),s3,A3,n3,c3,b3.zp,hz3.zp b3,hk3⟩;clear b1 b2 b3 hz3 B0
    go_wp2_with fail
    go_roundw
    case rel=>exact⟨j+1,by go_num,by omega,HS⟩
    case measure=>first|(simp[intOf];done)|(simp[intOf];omega)
   ·refine Run.start 3 ?_;refine .mv .o ?_;refine .two (.i 0) .o (opRem2 j (by omega)) ?_;refine .two (.i 1) .o (opEq HT.out) ?_;refine .donep [some 25,some 26,some 27] ?_;intro w7 B7;change Shut (wpList _ _ _ [] _ _);refine⟨?_⟩;simp only[Act.put,lS,lZ,lC];replace B0:=zup B0 B7;replace b1:=b1.below B7;replace b2:=b2.below B7;replace b3:=b3.below B7;replace b5:=b5.below B7;replace hz1:=hz1.below B7;replace hz2:=hz2.below B7;have he:j%2=1:=by have:=of_decide_eq_true HT.out;omega
    have HE:Hid (DT.sumN (j+1) (dtm r F)=DT.sumN j (dtm r F)+ -(F 0 j*DT.det r (DT.minor F j))):=Lib.hid (by
     show DT.sumN j (dtm r F)+dtm r F j=_
     unfold dtm;rw[p_9 j he,Int.neg_mul,Int.one_mul,Int.neg_mul])
    clear B7;go_upto_region 9 with fail
    refine Run.start 2 ?_;refine .ld .o (ldZ b5 0) ?_;refine .c1 (.i 0) (x:=kC (-(F 0 j*DT.det r (DT.minor F j))) (k+dk k r)) (by rintro u w8 hB rfl;exact(k_r ⟨_,_,_,_,rfl,(hz2.below hB).zv,Nat.le_refl _⟩ (by omega)).mono fun e w' h=>h.mono fun v w2 ⟨s,A,n,c,e,h1,h2⟩=>⟨s,A,n,c,e,h1,by omega⟩) ?_;refine .donep [some 28,some 29] ?_;intro w8 B8;rintro v ⟨s4,A4,n4,c4,rfl,hz4,hk4⟩;change Shut (wpList _ _ _ [_] _ _);refine⟨?_⟩;simp only[Act.put,lS,lZ,lC];have hs8:=B0.size;replace B0:=zup B0 B8;replace b1:=b1.below B8;replace b2:=b2.below B8;have hl3b:=b3.lt;replace b3:=b3.below B8;replace b5:=b5.below B8;replace hz1:=hz1.below B8;clear B8 hz2;obtain⟨w9,hw9⟩:∃x,zput w8 g5 s4 A4 n4 c4=x:=⟨_,rfl⟩;obtain⟨f1_,f2_,f3_,f4_,f5_⟩:=Ib.entry b5;replace b1:=b1.zo (g:=g5) (s:=s4) (A:=A4) (n:=n4) (c:=c4) (by omega);rw[hw9]at b1;replace b2:=b2.zo (g:=g5) (s:=s4) (A:=A4) (n:=n4) (c:=c4) (by omega);rw[hw9]at b2;replace b3:=b3.zo (g:=g5) (s:=s4) (A:=A4) (n:=n4) (c:=c4) (by omega);rw[hw9]at b3;replace hz1:=hz1.zp (s':=s4) (A':=A4) (n':=n4) (c':=c4) b5;rw[hw9]at hz1;replace hz4:=hz4.zp (s':=s4) (A':=A4) (n':=n4) (c':=c4) b5;rw[hw9]at hz4;replace B0:=a_j (g:=g5) (s:=s4) (A:=A4) (n:=n4) (c:=c4) B0 (by omega);rw[hw9]at B0;replace b5:=b5.zp (s:=s4) (A:=A4) (n:=n4) (c:=c4);rw[hw9]at b5;have Hw9:=Lib.hid hw9;unfold zput at Hw9;clear hw9;go_upto_region 10 with fail
    rw[Hw9.out];clear f1_ f2_ f3_ f4_ f5_ Hw9;refine Run.start 3 ?_;refine .ld .o (ldZ b3 0) ?_;refine .ld .o (ldZ b5 0) ?_;refine .c2 (.i 0) (.i 1) (x:=kC (DT.sumN (j+1) (dtm r F)) (k+dk k r+(j+1))) (by rintro u v w10 hB rfl rfl;rw[show DT.sumN (j+1) (dtm r F)=DT.sumN j (dtm r F)+ -(F 0 j*DT.det r (DT.minor F j))from HE.out];exact f_d ⟨_,_,_,_,rfl,(hz1.below hB).zv,hk1⟩ ⟨_,_,_,_,rfl,(hz4.below hB).zv,hk4⟩ (by omega) (by omega) (by omega)) ?_;refine .donep [some 30,some 31,some 32] ?_;intro w10 B10;rintro v ⟨s3,A3,n3,c3,rfl,hz3,hk3⟩;change Shut (wpList _ _ _ [_] _ _);refine⟨?_⟩;simp only[Act.put,lS,lZ,lC];replace B0:=zup B0 B10;replace b1:=b1.below B10;replace b2:=b2.below B10;replace b3:=b3.below B10;have hg3w:=B0.size;clear B10 b5 hz4 hz1;obtain⟨f1_,f2_,f3_,f4_,f5_⟩:=Ib.entry b3;have HS:Hid (Below w.heap.size w ((w10.setCell ⟨g3,0,none⟩ (.bool s3)).setCell ⟨g3,1,none⟩ (.slice A3 n3 c3))∧Bx ((w10.setCell ⟨g3,0,none⟩ (.bool s3)).setCell ⟨g3,1,none⟩ (.slice A3 n3 c3)) w.heap.size 24 [.int .i64 (R:Int),.int .i64 (R:Int),.slice A n d]∧Bx ((w10.setCell ⟨g3,0,none⟩ (.bool s3)).setCell ⟨g3,1,none⟩ (.slice A3 n3 c3)) (w.heap.size+1) 37 [.bool false,.slice none 0 0]∧∃s A n c,Bx ((w10.setCell ⟨g3,0,none⟩ (.bool s3)).setCell ⟨g3,1,none⟩ (.slice A3 n3 c3)) g3 37 [.bool s,.slice A n c]∧Zc ((w10.setCell ⟨g3,0,none⟩ (.bool s3)).setCell ⟨g3,1,none⟩ (.slice A3 n3 c3)) s A n c (DT.sumN (j+1) (dtm r F))∧n≤k+dk k r+(j+1)):=Lib.hid ⟨a_j B0 (by omega),b1.zo (by omega),b2.zo (by omega),s3,A3,n3,c3,b3.zp,hz3.zp b3,hk3⟩;clear b1 b2 b3 hz3 B0
    go_wp2_with fail
    go_roundw
    case rel=>exact⟨j+1,by go_num,by omega,HS⟩
    case measure=>first|(simp[intOf];done)|(simp[intOf];omega)
  ·obtain rfl:j=r+1:=by omega
   have u2:¬(R:Int)<(R:Int):=by omega
   have I:=Ib.entry b2;have hz':Zc wr s1_ A1 n1 c1 (DT.det (r+1) F):=hz1;have P:=Lib.hid (retC hz' I (k:=dk k (r+1)) (by unfold dk;omega) (by omega) B0);obtain⟨f1_,f2_,f3_,f4_,f5_⟩:=Ib.entry b3;obtain⟨k1,k2,k3,k4,k5⟩:=I;clear HB b1 b2 b3 hz1 hz' B0
   go_wp2_with fail
   exact bodyPost_ret (v:=.agg #[.bool s1_,.slice A1 n1 c1]) (by simp[results,Tryz.results43,go_sem,k1,k2]) rfl P.out
theorem rdt_q:∀ {q:Bool} {r n d k:Nat} {A:Option Addr} {F:Nat→Nat→Int} {w:World},Mt q w r r A n d k F→dk k r≤549755813888→Calls Tryz.prog 43 #[.agg #[.int .i64 (r:Int),.int .i64 (r:Int),.slice A n d]] w (RetK (kC (DT.det r F) (dk k r)) w)
 |q,0,n,d,k,A,F,w,ha,hK=>n_s ha
 |q,r+1,n,d,k,A,F,w,ha,hK=>n_t rfl ha hK fun _ _ _ _ _ _ h=>rdt_q h (by unfold dk at hK;omega)
end
section
open Go.RowKit
theorem m_7 {u:Value}{x:Int}{n k:Nat}{w:World}(hx:IsV x n u w)(hn:n≤k)(hk:k≤1099511627776):Calls Tryz.prog 42 #[u] w (RetK (kC (x.natAbs:Int) k) w):=by
 obtain⟨s,A,a,c,rfl,h1,h2⟩:=hx;exact(s_b h1 (by omega)).mono fun e w' h=>h.q (by omega)
theorem n_a {q:Bool}{r n d k:Nat}{A:Option Addr}{F:Nat→Nat→Int}{w:World}(ha:Mt q w r r A n d k F)(hk:dk k r≤549755813888)(hb:DT.det r F=1∨DT.det r F= -1):Calls Tryz.prog 15 #[.agg #[.int .i64 (r:Int),.int .i64 (r:Int),.slice A n d]] w (RetK (.k (.bool true)) w):=by
 have hfm:=ha.fmd;have HM:=Lib.hid ha;have HD:=Lib.hid (show((DT.det r F).natAbs:Int)=1 by omega);clear ha hb;obtain⟨w1,hw1,b1,z1,s1⟩:=boxes1 w 24 [.int .i64 (r:Int),.int .i64 (r:Int),.slice A n d];have HW:=Lib.hid hw1;have HZ:=Lib.hid z1;have hfm_:=Lib.hid hfm;clear hw1 z1 hfm s1;go_enter Tryz.func15,Tryz.ntmps15
 go_upto_region 1 with fail
 rw[HW.out];refine Run.start 10 ?_;refine .ld .o (ldM b1 0) ?_;refine .c1 (.i 0) (x:=.k (.bool true)) (by rintro u w4 hB rfl;exact a_h hfm_.out w4) ?_;refine .nt (.i 1) ?_;refine .mv (.i 2) ?_;refine .fa .o (fM0 0) ?_;refine .ld (.i 4) (ldInt b1 0) ?_;refine .fa .o (fM1 1) ?_;refine .ld (.i 6) (ldInt b1 1) ?_;refine .two (.i 5) (.i 7) (opNe (by simp:decide ((r:Int)≠(r:Int))=false)) ?_;refine .pk (.i 3) (.i 8) false ?_;refine .donep [some 3,some 4,some 5,some 6,some 7,some 8,some 9,some 10,some 11,some 12] ?_;intro w2 B2;change Shut (wpList _ _ _ [] _ _);refine⟨?_⟩;simp only[Act.put,lS,lZ,lC];have B0:=zup HZ.out B2;replace b1:=b1.below B2;clear B2 HZ;go_upto_region 3 with fail
 refine Run.start 6 ?_;refine .ld .o (ldM b1 0) ?_;refine .c1 (.i 0) (x:=kC (DT.det r F) (dk k r)) (by rintro u w4 hB rfl;exact rdt_q (HM.out.below (zup B0 hB)) hk) ?_;refine .c1 (.i 1) (x:=kC 1 (dk k r)) (by rintro u w4 hB h;exact HD.out ▸ m_7 h.v (Nat.le_refl _) (by omega)) ?_;refine .c1 .o (x:=kC 1 1) (by rintro u w4 hB rfl;exact h_j (by decide) (by decide) w4) ?_;refine .c2 (.i 2) (.i 3) (x:=.k (.bool true)) (by rintro u v w4 hB h1 h2;exact e_f h1.v h2.v (by omega) (by decide) (by decide)) ?_;refine .mv (.i 4) ?_;refine .donep [some 13,some 14,some 15,some 16,some 17,some 2] ?_;intro w3 B3;rintro v14 -;rintro v15 -;rintro v16 -;change Shut (wpList _ _ _ [] _ _);refine⟨?_⟩;simp only[Act.put,lS,lZ,lC]
 go_wp2_with fail
 exact bodyPost_ret (v:=.bool true) (by simp[results,Tryz.results15,go_sem]) rfl (a_r rfl (zup B0 B3))
end
section
open Go.RowKit
theorem herm_no' {r c:Int}{n d:Nat}{A:Option Addr}{w:World}(h1:fmd r c n=false):Calls Tryz.prog 10 #[.agg #[.int .i64 r,.int .i64 c,.slice A n d]] w (RetK (kT3 (.k (.agg #[.int .i64 0,.int .i64 0,.slice none 0 0])) (.k (.agg #[.int .i64 0,.int .i64 0,.slice none 0 0])) (.k (.int .i64 2))) w):=
 (r_n h1).mono fun e w' h=>h.mono fun v w2 hv=>by
  obtain rfl:v=_:=hv;exact⟨_,_,_,rfl,rfl,rfl,rfl⟩
theorem t_s (k:Nat):∀r,dk k r=(k+66)*r+1
 |0=>rfl
 |r+1=>by unfold dk;rw[t_s k r,Nat.mul_succ];omega
end
end Go.Proofs.YtgohglhefhocgaaGreat
