/- PbX09 -/
import Derived.Test.YtlgjjnmmepgafaaPbX04
import Derived.Test.YtlgjjnmmepgafaaPbX05
import Derived.IntWalk
import Derived.Laws.AppendOwn
import Derived.Deep.RegionWith
import Derived.Deep.AppendLies
import Derived.RegionTactic
import Derived.BigRegion
set_option linter.unusedVariables false
set_option linter.unusedSimpArgs false
set_option linter.unusedSectionVars false
set_option maxRecDepth 100000
set_option maxHeartbeats 8000000
namespace Go.Proofs.Ytlgjjnmmepgafaa
section
open Go.RowKit
section
variable {w w':World}{g h:Nat}{T U:TypeId}{cs ds:List Value}
end
section
variable {g o:Nat}
end
section
variable {x y r:Int}{T:TypeId}{b:Bool}{X Y:Operand}{U:TypeId}
theorem opSub (h:x - y=r)(h1:-9223372036854775808<=r)(h2:r<=9223372036854775807)(w:World):RunTwo Try.prog (.binOp .sub T X Y U) w (.int .i64 x) (.int .i64 y) (.int .i64 r):=by unfold RunTwo;subst h;simp[go_sem,IntWalk.i64_in _ ⟨h1,h2⟩]
end
end
section
open Go.RowKit
section
variable {q:Bool}{w w':World}{r c n d k k':Nat}{A:Option Addr}{F G:Nat->Nat->Int}
theorem Mt.mono (h:Mt q w r c A n d k F)(hk:k<=k'):Mt q w r c A n d k' F:=⟨h.zl.mono hk,h.hr,h.hc⟩
end
section
variable {u v:Value}{x y:Int}{n m k:Nat}{w:World}
end
end
section
open Go.RowKit
theorem exK {vs:Array Value}{u:Value}{j:Nat}(h:vs[j]? =some u):∀v w,(FK.k (.tuple vs)).F v w->∃vs:Array Value,∃u',v= .tuple vs/\vs[j]? =some u'/\(FK.k u).F u' w:=fun v w e=>⟨vs,u,e,h,rfl⟩
end
section
open Go.RowKit
theorem o_v (w:World):Calls Try.prog 17 #[.agg #[.int .i64 0,.int .i64 0,.slice none 0 0]] w (RetK (.k (.bool true)) w):=by
 obtain⟨w1,hw1,b1,z1,s1⟩:=boxes1 w 24 [.int .i64 0,.int .i64 0,.slice none 0 0];have HW:=Lib.hid hw1;have HZ:=Lib.hid z1;clear hw1 z1 s1;go_enter Try.func17,Try.ntmps17
 go_upto_region 1 with fail
 rw[HW.out];refine Run.start 15 ?_;refine .fa .o (fM0 0) ?_;refine .ld (.i 0) (ldInt b1 0) ?_;refine .two (.i 1) .o (opEq (by decide:decide ((0:Int)=0)=true)) ?_;refine .mv (.i 2) ?_;refine .fa .o (fM1 1) ?_;refine .ld (.i 4) (ldInt b1 1) ?_;refine .two (.i 5) .o (opEq (by decide:decide ((0:Int)=0)=true)) ?_;refine .pk (.i 3) (.i 6) true ?_;refine .mv (.i 7) ?_;refine .fa .o (fM2 2) ?_;refine .ld (.i 9) (ldSl b1 2) ?_;refine .len (.i 10) Try.underlying22 ?_;refine .two (.i 11) .o (opEq (by decide:decide (((0:Nat):Int)=0)=true)) ?_;refine .pk (.i 8) (.i 12) true ?_;refine .mv (.i 13) ?_;refine .donep [some 3,some 4,some 5,some 6,some 7,some 8,some 9,some 10,some 11,some 12,some 13,some 14,some 15,some 16,some 2] ?_;intro w2 B2;refine sh [] ?_;simp only[Act.put,lS,lZ,lC]
 go_wp2_with fail
 exact bodyPost_ret (v:=.bool true) (by simp[results,Try.results17,go_sem]) rfl (a_s rfl (zup HZ.out B2))
end
section
namespace DT
variable {R C:Nat}{M N H K:Mx}{u v:Nat->Int}
theorem piv_lt:∀(c:Nat),∀x∈piv R M c,x<c
 |0,x,h=>by simp[piv]at h
 |c+1,x,h=>by
  by_cases hs:Som R M ((piv R M c).length+1) fun j=>(piv R M c++[c]).getD j 0
  ·rw[piv_yes hs,List.mem_append]at h;rcases h with h|h
   ·have:=piv_lt c x h;omega
   ·simp at h;omega
  ·rw[piv_no hs]at h;have:=piv_lt c x h;omega
theorem getD_lt {l:List Nat}{c n:Nat}(h:∀x∈l,x<n)(hc:c<n)(j:Nat):(l++[c]).getD j 0<n:=by
 rw[List.getD_eq_getElem?_getD];rcases Nat.lt_or_ge j (l++[c]).length with h1|h1
 ·rw[List.getElem?_eq_getElem h1,Option.getD_some]
  have:=List.getElem_mem h1;rw[List.mem_append]at this;rcases this with h2|h2
  ·exact h _ h2
  ·simp at h2;omega
 ·rw[List.getElem?_eq_none h1];simp;omega
theorem piv_len_le:∀c,(piv R M c).length<=R:=by
 intro c;induction c with
 |zero=>exact Nat.zero_le _
 |succ c ih=>
  by_cases hs:Som R M ((piv R M c).length+1) fun j=>(piv R M c++[c]).getD j 0
  ·rw[piv_yes hs,List.length_append];obtain⟨f,hf,_⟩:=hs;have h1:=hf.ge (piv R M c).length (by omega);have h2:=hf.lt (piv R M c).length (by omega);simp;omega
  ·rw[piv_no hs];exact ih
end DT
end
section
open Go.RowKit
def kT3 (x y z:FK):FK:=.f (fun v w=>∃a b c,v= .tuple #[a,b,c]/\x.F a w/\y.F b w/\z.F c w) (fun v w w' ⟨a,b,c,e,h1,h2,h3⟩ hb=>⟨a,b,c,e,x.stays _ _ _ h1 hb,y.stays _ _ _ h2 hb,z.stays _ _ _ h3 hb⟩)
theorem s_d {x y z:FK}:∀v w,(kT3 x y z).F v w->∃vs:Array Value,∃u,v= .tuple vs/\vs[0]? =some u/\x.F u w:=fun v w ⟨a,b,c,e,h1,h2,h3⟩=>⟨_,a,e,rfl,h1⟩
theorem s_c {x y z:FK}:∀v w,(kT3 x y z).F v w->∃vs:Array Value,∃u,v= .tuple vs/\vs[1]? =some u/\y.F u w:=fun v w ⟨a,b,c,e,h1,h2,h3⟩=>⟨_,b,e,rfl,h2⟩
theorem s_b {x y z:FK}:∀v w,(kT3 x y z).F v w->∃vs:Array Value,∃u,v= .tuple vs/\vs[2]? =some u/\z.F u w:=fun v w ⟨a,b,c,e,h1,h2,h3⟩=>⟨_,c,e,rfl,h3⟩
section
variable {ops:Array Oper}{Q:Exit->Act->World->Prop}{m i:Nat}{a0:Act}{w0:World}{l:List FK}{b:Bool}{id:Nat}
end
section
variable {ops:Array Oper}{Q:Exit->Act->World->Prop}{m i:Nat}{a0:Act}{w0:World}{l:List FK}{b:Bool}{id:Nat}
end
end
section
open Go.RowKit
theorem g_e {P:Program}{w:World}(t ty e:TypeId)(i:TypeInfo)(ht:P.underlying t=some (.slice e))(hi:P.info? e=some i)(g m cap c:Nat)(hm:m<=cap):(Builtin.append_ #[t,t] ty #[.slice (some ⟨g,0,none⟩) m cap,.slice none 0 c]).run P w= .ok (.slice (some ⟨g,0,none⟩) m cap) w:=by
 simp[Builtin.append_,run_underlying ht,sizeOf,typeInfo,hi,Builtin.lenOf,Builtin.firstCells,hm,storeCells]
theorem ZAt.spot {q:Bool}{w:World}{p:Addr}{k:Nat}{z:Int}(h:ZAt q w p k z):p.spot=none:=by
 obtain⟨s,A,n,c,h1,-⟩:=h;unfold World.cell? at h1;cases hb:w.heap[p.block]? with
 |none=>rw[hb]at h1;simp at h1
 |some o=>
  rw[hb]at h1;cases hs:p.spot with
  |none=>rfl
  |some x=>
   rw[hs]at h1;cases o<;>simp at h1
theorem d_j {zs ys:List Int}{m:Nat}(h:m+ys.length<=zs.length):(splice zs ys m).length=zs.length:=by unfold splice;simp;omega
theorem f_9 {zs ys:List Int}{m j:Nat}(h:m+ys.length<=zs.length):ith (splice zs ys m) j=if j<m then ith zs j else if j<m+ys.length then ith ys (j - m)else ith zs j:=by
 unfold splice ith;simp only[List.getD];have h1:(zs.take m).length=m:=by rw[List.length_take];omega
 by_cases a:j<m
 ·rw[if_pos a,List.append_assoc,List.getElem?_append_left (by omega),List.getElem?_take_of_lt a]
 ·rw[if_neg a];by_cases b:j<m+ys.length
  ·rw[if_pos b,List.append_assoc,List.getElem?_append_right (by omega),h1,List.getElem?_append_left (by omega)]
  ·rw[if_neg b,List.getElem?_append_right (by rw[List.length_append];omega),List.length_append,h1,List.getElem?_drop];congr 2;omega
theorem f_2 {P:Program}{w:World}{ops:Array Oper}{rest:List Oper}{o:Oper}{a:Act}{Q:Exit->Act->World->Prop}(hgd:o.guard=none)(s x:Operand)(t:TypeId)
  (ho:o.op= .call { callee:=.builtin .append,args:=#[s,x],argTypes:=#[t,t] })
  (ht:P.underlying t=some (.slice 30)) (hinfo:(P.info? 30).map (fun i=>(i.zero,i.size,i.bytes))=some (some (.agg #[.bool false,.slice none 0 0]),2,32))
  {g k m cap n c:Nat} {A:Option Addr} {zs ys:List Int} (hs:a.eval s= .slice (some ⟨g,0,none⟩) m cap) (hx:a.eval x= .slice A n c)
  (hz:ZL true w A n c k ys) (hb:ZB w g k zs) (hm:m+n<=zs.length) (hcap:cap=zs.length)
  (K:∀w',ZB w' g k (splice zs ys m)->w.grownBy w' (some g)->wpList P ops Q rest (a.put o.dst (.slice (some ⟨g,0,none⟩) (m+n) cap)) w'):
  wpList P ops Q (o::rest) a w:=by
 obtain⟨i,hi,hz0,hz1,hz2⟩:=info_parts hinfo;have hno:=hb.now;have hyl:=hz.len;rcases Nat.eq_zero_or_pos n with h0|h0
 ·subst h0;obtain rfl:ys=[]:=List.length_eq_zero_iff.1 hyl;have hsp:splice zs [] m=zs:=by unfold splice;simp
  rw[hsp]at K;cases A with
  |none=>
   have hrun:=g_e (P:=P) (w:=w) t o.type _ i ht hi g m cap c (by omega);refine wpList_plain hgd fun K' hK'=>?_;unfold Oper.wp execOp;simp only[ho,resolve,invoke,builtin,Sem.run_bind,Sem.run_pure,Result.andThen_ok,List.map_toArray,List.map_cons,List.map_nil,hs,hx,hrun];exact hK' _ _ (K _ hb (a_2 _ _))
  |some ad=>
   obtain⟨cs,h1,h2,h3⟩:=id hb;have hrun:=run_append_room (P:=P) w t o.type 30 i ht hi g m cap cs h1 ad 0 c [] (by simp) (fun j u hu=>by simp at hu) (fun u hu=>by simp at hu) (by omega) (by rw[hz1,h2];simp;omega);obtain⟨w',hw'⟩:∃w',w'=w.setRow g (cs.toList.take (m*i.size)++[]++cs.toList.drop (m*i.size+([]:List Value).length)).toArray:=⟨_,rfl⟩;have hg:w'.heap[g]? =w.heap[g]? :=by
    rw[hw',setRow_heap w g cs _ _ _ h1,h1];simp
   have hgr:w.grownBy w' (some g):=by
    subst hw';exact⟨rfl,rfl,rfl,by simp[World.setRow],fun j _ hj=>setRow_other w g j _ (fun e=>hj (by rw[e]))⟩
   rw[<-hw']at hrun;refine wpList_plain hgd fun K' hK'=>?_;unfold Oper.wp execOp;simp only[ho,resolve,invoke,builtin,Sem.run_bind,Sem.run_pure,Result.andThen_ok,List.map_toArray,List.map_cons,List.map_nil,hs,hx,hrun];refine hK' _ _ (K _ ?_ hgr);exact hb.below ⟨hgr.os,hgr.tape,hgr.output,hgr.size,fun j hj=>by
    by_cases e:j=g
    ·rw[e];exact hg
    ·exact hgr.block j hj (fun h=>e (Option.some.inj h))⟩
 ·obtain⟨ad,rfl,hab,hat⟩:=hz.at' h0;have hsp:ad.spot=none:=by
   have:=(hat 0 h0).spot;rw[Nat.zero_mul,a_u]at this;exact this
  obtain⟨x0,o0,sp⟩:=ad;simp only at hsp;subst hsp;have hz':∀j,j<n->∃s A n c,w.cell? ⟨x0,o0+j*2,none⟩=some (.bool s)/\w.cell? ⟨x0,o0+(j*2+1),none⟩=some (.slice A n c)/\Zc w s A n c (ith ys j)/\n<=k:=fun j hj=>by
   obtain⟨s,A,n',c',e1,e2,ze,hk⟩:=hat j hj;rw[c_m]at e1 e2;exact⟨s,A,n',c',e1,e2,ze.2 rfl,hk⟩
  have hcell:∀t,t<n*2->∃u,w.cell? ⟨x0,o0+t,none⟩=some u/\u.oneCell'=true:=fun t ht=>by
   obtain⟨s,A,n',c',e1,e2,-⟩:=hz' (t / 2) (by omega);rcases(by omega:t=t / 2*2\/t=t / 2*2+1)with h|h
   ·exact⟨_,by rw[h];exact e1,rfl⟩
   ·exact⟨_,by rw[h];exact e2,rfl⟩
  obtain⟨news,hnl,hng⟩:∃news:List Value,news.length=n*2/\∀t,t<n*2->w.cell? ⟨x0,o0+t,none⟩=news[t]? /\∀u,news[t]? =some u->u.oneCell'=true:=by
   refine⟨(List.range (n*2)).map fun t=>(w.cell? ⟨x0,o0+t,none⟩).getD undef,by simp,fun t ht=>?_⟩;obtain⟨u,hu,h1⟩:=hcell t ht;have e:((List.range (n*2)).map fun t=>(w.cell? ⟨x0,o0+t,none⟩).getD undef)[t]? =some u:=by simp[ht,hu]
   exact⟨by rw[e,hu],fun v hv=>by rw[e]at hv;cases hv;exact h1⟩
  obtain⟨cs,h1,h2,h3⟩:=id hb;have hrun:=run_append_room (P:=P) w t o.type 30 i ht hi g m cap cs h1 ⟨x0,o0,none⟩ n c news (by rw[hz1];exact hnl) (fun j u hu=>by
    have hj:j<n*2:=by
     rcases Nat.lt_or_ge j (n*2)with h|h
     ·exact h
     ·rw[List.getElem?_eq_none (by omega)]at hu;cases hu
    rw[c_m,(hng j hj).1,hu]) (fun u hu=>by
    obtain⟨j,hj,rfl⟩:=List.getElem_of_mem hu;exact(hng j (by omega)).2 _ (List.getElem?_eq_getElem hj)) (by omega) (by rw[hz1,h2,hnl];omega)
  rw[hz1,hnl]at hrun;obtain⟨C,hC⟩:∃C,(cs.toList.take (m*2)++news++cs.toList.drop (m*2+n*2)).toArray=C:=⟨_,rfl⟩;have hCg:∀j:Nat,C[j]? =if j<m*2 then cs[j]? else if j<m*2+n*2 then news[j - m*2]? else cs[j]? :=fun j=>by
   rw[<-hC,<-Array.getElem?_toList];simp only;have hl:cs.toList.length=zs.length*2:=by rw[Array.length_toList,h2]
   have h1:(cs.toList.take (m*2)).length=m*2:=by rw[List.length_take];omega
   by_cases a:j<m*2
   ·rw[if_pos a,List.append_assoc,List.getElem?_append_left (by omega),List.getElem?_take_of_lt a,Array.getElem?_toList]
   ·rw[if_neg a];by_cases b:j<m*2+n*2
    ·rw[if_pos b,List.append_assoc,List.getElem?_append_right (by omega),h1,List.getElem?_append_left (by omega)]
    ·rw[if_neg b,List.getElem?_append_right (by rw[List.length_append];omega),List.length_append,h1,List.getElem?_drop,hnl,<-Array.getElem?_toList];congr 1;omega
  have hCs:C.size=zs.length*2:=by
   rw[<-hC];simp[hnl,h2];omega
  rw[hC]at hrun;obtain⟨w',hw'⟩:∃w',w'=w.setRow g C:=⟨_,rfl⟩;have hgr:w.grownBy w' (some g):=by
   subst hw';exact⟨rfl,rfl,rfl,by simp[World.setRow],fun j _ hj=>setRow_other w g j _ (fun e=>hj (by rw[e]))⟩
  rw[<-hw']at hrun;refine wpList_plain hgd fun K' hK'=>?_;unfold Oper.wp execOp;simp only[ho,resolve,invoke,builtin,Sem.run_bind,Sem.run_pure,Result.andThen_ok,List.map_toArray,List.map_cons,List.map_nil,hs,hx,hrun];refine hK' _ _ (K _ ⟨C, ?_,by rw[d_j (by omega)];exact hCs,fun j hj=>?_⟩ hgr)
  ·rw[hw',setRow_heap w g cs _ _ _ h1]
  ·rw[d_j (by omega)]at hj;rw[f_9 (by omega),hyl];by_cases a:j<m
   ·obtain⟨s',A',n',c',c1,c2,c3,c4⟩:=h3 j hj;exact⟨s',A',n',c',by rw[hCg,if_pos (by omega)];exact c1,by rw[hCg,if_pos (by omega)];exact c2,by rw[if_pos a];exact c3.gro hno hgr,c4⟩
   ·rw[if_neg a];by_cases b:j<m+n
    ·obtain⟨s',A',n',c',c1,c2,c3,c4⟩:=hz' (j - m) (by omega);refine⟨s',A',n',c', ?_, ?_,by rw[if_pos b];exact c3.gro hno hgr,c4⟩
     ·rw[hCg,if_neg (by omega),if_pos (by omega),<-(hng _ (by omega)).1,<-c1];congr 2;omega
     ·rw[hCg,if_neg (by omega),if_pos (by omega),<-(hng _ (by omega)).1,<-c2];congr 2;omega
    ·obtain⟨s',A',n',c',c1,c2,c3,c4⟩:=h3 j hj;exact⟨s',A',n',c',by rw[hCg,if_neg (by omega),if_neg (by omega)];exact c1,by rw[hCg,if_neg (by omega),if_neg (by omega)];exact c2,by rw[if_neg b];exact c3.gro hno hgr,c4⟩
theorem i_y {L:List Int}{m n:Nat}{ys:List Int}(hy:ys=(L.drop m).take n)(h:m+n<=L.length):splice (fil L m) ys m=fil L (m+n):=by
 have hl:ys.length=n:=by rw[hy];simp;omega
 have hf:(fil L m).length=L.length:=b_x (by omega);apply List.ext_getElem
 ·rw[d_j (by omega),hf,b_x h]
 ·intro j h1 h2;have e1:ith (splice (fil L m) ys m) j=(splice (fil L m) ys m)[j]:=by simp[ith,List.getD,h1]
  have e2:ith (fil L (m+n)) j=(fil L (m+n))[j]:=by simp[ith,List.getD,h2]
  rw[<-e1,<-e2,f_9 (by omega),hl];rw[b_x h]at h2;have g:∀m',m'<=L.length->ith (fil L m') j=if j<m' then ith L j else 0:=fun m' hm'=>by
   unfold fil ith;simp only[List.getD];by_cases a:j<m'
   ·rw[if_pos a,List.getElem?_append_left (by rw[List.length_take];omega),List.getElem?_take_of_lt a]
   ·rw[if_neg a,List.getElem?_append_right (by rw[List.length_take];omega),List.getElem?_replicate];split<;>rfl
  rw[g _ (by omega),g _ h];by_cases a:j<m
  ·rw[if_pos a,if_pos a,if_pos (by omega)]
  ·rw[if_neg a,if_neg a];by_cases b:j<m+n
   ·rw[if_pos b,if_pos b,hy,f_p (by omega),f_q];congr 1;omega
   ·rw[if_neg b,if_neg b]
def RowsAt (w:World)(A:Option Addr)(R W K:Nat)(M:Nat->Nat->Int):Prop:=0<R->∃H,A=some ⟨H,0,none⟩/\H<w.heap.size/\∀i,i<R->∃A' c',w.cell? ⟨H,i,none⟩=some (.slice A' W c')/\ZL true w A' W c' K (rw' W (M i))
theorem RowsAt.below {w w':World}{A:Option Addr}{R W K:Nat}{M:Nat->Nat->Int}(h:RowsAt w A R W K M)(hb:Below w.heap.size w w'):RowsAt w' A R W K M:=fun h0=>by
 obtain⟨H,e,hl,hr⟩:=h h0;refine⟨H,e,Nat.lt_of_lt_of_le hl hb.size,fun i hi=>?_⟩;obtain⟨A',c',h1,h2⟩:=hr i hi;exact⟨A',c',(hb.cell (p:=⟨H,i,none⟩) hl).trans h1,h2.below hb⟩
theorem ZL.part {q:Bool}{w:World}{A:Option Addr}{n c k lo hi:Nat}{zs:List Int}(h:ZL q w A n c k zs)(h1:lo<=hi)(h2:hi<=n):ZL q w (if c=lo then A else A.map (·.add (lo*2))) (hi - lo) (c - lo) k ((zs.drop lo).take (hi - lo)):=by
 have hle:=h.le;have hcp:=h.cap;rcases Nat.eq_zero_or_pos (hi - lo)with h0|h0
 ·rw[h0];exact⟨by simp,by omega,by omega,fun h=>by omega⟩
 ·obtain⟨ad,rfl,-⟩:=h.at' (by omega);rw[if_neg (by omega),Option.map_some];exact(h.drop (m:=lo) (d:=c - lo) (by omega) (by omega) (by omega)).take (by omega) (by omega) (by omega)
theorem o_j {W lo hi:Nat}{f:Nat->Int}(h1:lo<=hi)(h2:hi<=W):((rw' W f).drop lo).take (hi - lo)=rw' (hi - lo) fun j=>f (lo+j):=by
 apply List.ext_getElem
 ·rw[List.length_take,List.length_drop,b_p,b_p];omega
 ·intro j h3 h4;rw[b_p]at h4;simp[rw']
theorem o_y {R W lo hi K cA:Nat}{A:Option Addr}{M:Nat->Nat->Int}{w:World}(hrow:RowsAt w A R W K M)(hlo:lo<=hi)(hhi:hi<=W)(hW:W<=1048576)(hR:R<=64)(hC:hi - lo<=64):Calls Try.prog 39 #[.slice A R cA,.int .i64 (lo:Int),.int .i64 (hi:Int)] w (RetK (kM true R (hi - lo) K fun i j=>M i (lo+j)) w):=by
 obtain⟨w1,hw1,b4,z1,s1⟩:=boxes1 w 24 [.int .i64 0,.int .i64 0,.slice none 0 0];have HW:=Lib.hid hw1;have HR:=Lib.hid hrow;obtain⟨C,hCe⟩:∃C,hi - lo=C:=⟨_,rfl⟩;obtain⟨M',hM'⟩:∃M',(fun i j=>M i (lo+j))=M':=⟨_,rfl⟩;have HM':=Lib.hid hM';have HC:=Lib.hid hCe;rw[hCe]at hC;rw[hCe,hM'];have e13:(hi:Int) - (lo:Int)=(C:Int):=by omega
 clear hM' hCe;obtain⟨N,hN⟩:∃N,R*C=N:=⟨_,rfl⟩;have hN2:N<=4096:=by rw[<-hN];exact Nat.mul_le_mul hR hC
 have e14:(R:Int)*(C:Int)=(N:Int):=by rw[<-hN];simp
 have HN:=Lib.hid hN;clear hw1 hrow hN;go_enter Try.func39,Try.ntmps39
 go_upto_region 1 with fail
 rw[HW.out]
 go_wp2_with (at_make;refine c_6 _ rfl _ _ 22 rfl Try.underlying22 info_zint N rfl rfl (by omega) ?_)
 intro w2 hb B2 s2;have s3:w2.heap.size=w.heap.size+1+1:=by omega
 rw[<-s1]at B2;have hb:ZB w2 (w.heap.size+1) 0 (List.replicate N 0):=by first|exact hb|(rw[s1]at hb;exact hb)
 obtain⟨w3,hw3,b5,z3,s4⟩:=boxes1 w2 24 [.int .i64 (R:Int),.int .i64 (C:Int),.slice (some ⟨w.heap.size+1,0,none⟩) 0 N];rw[s3]at b5;have HW3:=Lib.hid hw3;have HB:Hid (Below w.heap.size w w3/\Bx w3 w.heap.size 24 [.int .i64 0,.int .i64 0,.slice none 0 0]/\Bx w3 (w.heap.size+1+1) 24 [.int .i64 (R:Int),.int .i64 (C:Int),.slice (some ⟨w.heap.size+1,0,none⟩) (0*C) N]/\ZB w3 (w.heap.size+1) K (fil (mk R C M') (0*C))):=Lib.hid ⟨zup (zup z1 B2) z3,(b4.below B2).below z3,by rw[Nat.zero_mul];exact b5,by rw[Nat.zero_mul,i_g,a_y,HN.out];exact(hb.below z3).mono (Nat.zero_le _)⟩;clear hw3 b5 b4 z1 z3 hb B2 s1 s2 s4;go_upto_region 2 with fail
 rw[HW3.out];clear s3 HW3
 go_wp2_with fail
 go_loopw [25] (fun s25 wr=>∃i:Nat,s25= .int .i64 (i:Int)/\i<=R/\Hid (Below w.heap.size w wr/\Bx wr w.heap.size 24 [.int .i64 0,.int .i64 0,.slice none 0 0]/\Bx wr (w.heap.size+1+1) 24 [.int .i64 (R:Int),.int .i64 (C:Int),.slice (some ⟨w.heap.size+1,0,none⟩) (i*C) N]/\ZB wr (w.heap.size+1) K (fil (mk R C M') (i*C)))) (fun s25 _=>R - (intOf s25).toNat)
 case atStart=>exact⟨0,rfl,Nat.zero_le _,HB⟩
 case round=>
  clear HB;obtain⟨i,rfl,hi,HB⟩:=hrel;by_cases hlt:i<R
  ·have u1:(i:Int)<(R:Int):=by omega
   obtain⟨B0,b4,b5,hb⟩:=HB.out;obtain⟨H,rfl,hHl,hrr⟩:=HR.out (by omega);obtain⟨Av,cv,hv,hz0⟩:=hrr i hlt;have x1:=(B0.cell (p:=⟨H,i,none⟩) hHl).trans hv;have hz:=((hz0.below B0).part hlo hhi);rw[o_j hlo hhi,HC.out]at hz;have hle0:=hz0.le;have hm:i*C+C<=N:=by rw[<-HN.out,<-Nat.succ_mul];exact Nat.mul_le_mul_right C hlt
   have hL:(fil (mk R C M') (i*C)).length=N:=by rw[b_x (by rw[a_y,HN.out];omega),a_y,HN.out]
   obtain⟨Ar,hAr⟩:∃Ar,(if cv=lo then Av else Av.map (·.add (lo*2)))=Ar:=⟨_,rfl⟩;rw[hAr]at hz;have hle1:=hz0.le;have HAr:=Lib.hid hAr;clear HB hv hz0 hrr hAr;go_upto_region 5 with fail
   refine Run.start 6 ?_;refine .fa .o (fM2 2) ?_;refine .ld (.i 0) (ldSl b5 2) ?_;refine .mv .o ?_;refine .mv .o ?_;refine .mv .o ?_;refine .sl2 (.i 2) (.i 3) (.i 4) (A:=Av) (n:=W) (cap:=cv) hlo (by omega) ?_;refine .done [some 29,some 30,some 31,some 32,some 33,some 34] ?_;intro w4 B4;refine sh [_,_,_] ?_;simp only[Act.put,lS,lZ,lC];rw[HAr.out,HC.out];have HZ6:=Lib.hid (hz.below B4);replace b4:=b4.below B4;replace b5:=b5.below B4;replace hb:=hb.below B4;replace B0:=zup B0 B4;have i2:=b5.cell 2;simp only[List.getElem?_cons_succ,List.getElem?_cons_zero]at i2;clear B4 x1 hz
   go_wp2_with (at_builtin;refine f_2 rfl _ _ 22 rfl Try.underlying22 info_zint rfl rfl HZ6.out hb (by omega) hL.symm ?_)
   intro w5 hb5 hg5;have hzl:=HZ6.out.len;rw[i_y (n:=C) (by rw[n_q hlt,<-HM'.out]) (by rw[a_y,HN.out];exact hm)]at hb5;have b5':=c_x b5 hg5 (by omega);have b4':=c_x b4 hg5 (by omega);have j2:=b5'.cell 2;have j2':=b5'.free 2;simp only[List.getElem?_cons_succ,List.getElem?_cons_zero]at j2;have HS:Hid (Below w.heap.size w (w5.setCell ⟨w.heap.size+1+1,2,none⟩ (.slice (some ⟨w.heap.size+1,0,none⟩) (i*C+C) N))/\Bx (w5.setCell ⟨w.heap.size+1+1,2,none⟩ (.slice (some ⟨w.heap.size+1,0,none⟩) (i*C+C) N)) w.heap.size 24 [.int .i64 0,.int .i64 0,.slice none 0 0]/\Bx (w5.setCell ⟨w.heap.size+1+1,2,none⟩ (.slice (some ⟨w.heap.size+1,0,none⟩) (i*C+C) N)) (w.heap.size+1+1) 24 [.int .i64 (R:Int),.int .i64 (C:Int),.slice (some ⟨w.heap.size+1,0,none⟩) ((i+1)*C) N]/\ZB (w5.setCell ⟨w.heap.size+1+1,2,none⟩ (.slice (some ⟨w.heap.size+1,0,none⟩) (i*C+C) N)) (w.heap.size+1) K (fil (mk R C M') ((i+1)*C))):=by
    refine Lib.hid ⟨(e_5 B0 hg5 (by omega)).setCell (by show _<=w.heap.size+1+1;omega) _,b4'.off (by omega) _ _,by rw[Nat.succ_mul];exact b5'.set 2 _, ?_⟩;rw[Nat.succ_mul];exact hb5.gro (by omega) (b5'.now (by simp)) (a_o (q:=⟨w.heap.size+1+1,2,none⟩) (a_2 _ _) rfl _)
   clear b4 b5 b4' b5' hb hb5 hg5 HZ6 hL B0
   go_wp2_with fail
   go_roundw
   case rel=>exact⟨i+1,by go_num,by omega,HS⟩
   case measure=>first|(simp[intOf];done)|(simp[intOf];omega)
  ·obtain rfl:i=R:=by omega
   have u1:¬(i:Int)<(i:Int):=by omega
   obtain⟨B0,b4,b5,hb⟩:=HB.out;rw[show fil (mk i C M') (i*C)=mk i C M' by have:=h_n (mk i C M');rwa [a_y]at this]at hb;have hM:Mt true wr i C (some ⟨w.heap.size+1,0,none⟩) (i*C) N K M':=⟨by
    have:=hb.zl0 true (n:=i*C) (c:=N) (by rw[a_y];exact Nat.le_refl _) (by rw[HN.out];exact Nat.le_refl _) (by omega);rwa [List.take_of_length_le (by rw[a_y];exact Nat.le_refl _)]at this,hR,hC⟩
   have P:=Lib.hid (retM hM b4 (Nat.le_refl _) B0);have i0:=b5.cell 0;have i1:=b5.cell 1;have i2:=b5.cell 2;obtain⟨j0,j1,j2,j3,j4,j5,j6⟩:=b4.m3;simp only[List.getElem?_cons_succ,List.getElem?_cons_zero]at i0 i1 i2;clear b4 b5 hb hM B0 HB;unfold mput at P
   go_wp2_with fail
   exact bodyPost_ret (v:=.agg #[.int .i64 (i:Int),.int .i64 (C:Int),.slice (some ⟨w.heap.size+1,0,none⟩) (i*C) N]) (by simp[results,Try.results39,go_sem,j0,j1,j2]) rfl P.out
theorem o_z {R W hi K cA:Nat}{A:Option Addr}{M:Nat->Nat->Int}{w:World}(hrow:RowsAt w A R W K M)(hhi:hi<=W)(hW:W<=1048576)(hR:R<=64)(hC:hi<=64):Calls Try.prog 39 #[.slice A R cA,.int .i64 0,.int .i64 (hi:Int)] w (RetK (kM true R hi K M) w):=by
 have h:=o_y (cA:=cA) (lo:=0) hrow (Nat.zero_le hi) hhi hW hR (by omega);simp only[Nat.sub_zero,Nat.zero_add]at h;exact h
end
section
open Go.RowKit
theorem l_7 {q:Bool}{r c n d k:Nat}{A:Option Addr}{F:Nat->Nat->Int}{w:World}(ha:Mt q w r c A n d k F)(hk1:1<=k)(hK:kb k r<=549755813888):Calls Try.prog 14 #[.agg #[.int .i64 (r:Int),.int .i64 (c:Int),.slice A n d]] w (RetK (.k (.tuple #[.int .i64 ((DT.piv r F c).length:Int),.int .i64 0])) w):=by
 have h1:=ha.fmd;have h3:=ha.hr;have h4:=ha.hc;obtain⟨w1,hw1,b1,z1,s1⟩:=boxes1 w 24 [.int .i64 (r:Int),.int .i64 (c:Int),.slice A n d];have HW:=Lib.hid hw1;have HZ:=Lib.hid z1;have h1_:=Lib.hid h1;clear hw1 z1 h1;go_enter Try.func14,Try.ntmps14
 go_upto_region 1 with fail
 rw[HW.out];refine Run.start 3 ?_;refine .ld .o (ldM b1 0) ?_;refine .c1 (.i 0) (x:=.k (.bool true)) (by rintro u w2 hB rfl;exact b_c h1_.out w2) ?_;refine .nt (.i 1) ?_;refine .donep [some 5,some 6,some 7] ?_;intro w2 B2;refine sh [] ?_;simp only[Act.put,lS,lZ,lC];have B0:=zup HZ.out B2;replace b1:=b1.below B2;have hM:=ha.below B0;have hl_b1:=b1.lt;clear B2 HZ ha;go_upto_region 3 with fail
 refine Run.start 3 ?_;refine .ld .o (ldM b1 0) ?_;refine .c1 (.i 0) (x:=kRof w2.heap.size r c k F) (by rintro u w4 hB rfl;exact rof_q' (hM.below hB) hk1 (by have:=k_m k r;omega) hB.size) ?_;refine .mf (.i 1) ?_;refine .donep [some 8,some 9,some 4] ?_;intro w4 B4;rintro v3_ -;rintro v ⟨g,b,rfl,hbb,hbs,hr⟩;refine sh [] ?_;simp only[Act.put,lS,lZ,lC];replace B0:=zup B0 B4;replace b1:=b1.below B4;clear B4 hM;go_upto_region 4 with fail
 refine Run.start 5 ?_;refine .mv .o ?_;refine .nc (.i 0) ?_;refine .fa (.i 1) (fB0 0) ?_;refine .fa .o (fM1 1) ?_;refine .ld (.i 3) (ldInt b1 1) ?_;refine .done [some 10,some 11,some 12,some 13,some 14] ?_;intro w9 B9;refine sh [_] ?_;simp only[Act.put,lS,lZ,lC];replace B0:=zup B0 B9;replace b1:=b1.below B9;have HR:=Lib.hid (hr.below B9);replace hbs:=Nat.le_trans hbs B9.size;clear B9 hr
 go_wp2_with fail
 refine(f_l HR.out (Nat.le_refl _) hbs (by omega) (by omega) hK).mono ?_;rintro e w5 ⟨rfl,B5,hrs⟩;have hb5:w.heap.size<=b:=by omega
 replace B0:=B0.trans (B5.mono hb5);replace b1:=b1.upto (by omega) B5;clear HR B5;obtain⟨s,G,ps,M,h,hr,H,vp,sa,A',n',c',rows,hm⟩:=hrs;obtain⟨Ap,cp,rfl⟩:=hm.vpf;have bx:=hm.bx;have e5:ps.length=(DT.piv r F c).length:=by rw[<-hr.pv]
 have HE:=Lib.hid e5;clear e5 hr hm;go_upto_region 5 with fail
 refine Run.start 8 ?_;refine .mv .o ?_;refine .nc (.i 0) ?_;refine .fa (.i 1) (fB0 0) ?_;refine .fa (.i 2) (fE1 1) ?_;refine .ld (.i 3) (ldIs bx 1) ?_;refine .len (.i 4) Try.underlying40 ?_;refine .mv (.i 5) ?_;refine .mv .o ?_;refine .donep [some 16,some 17,some 18,some 19,some 20,some 21,some 2,some 3] ?_;intro w6 B6;refine sh [] ?_;simp only[Act.put,lS,lZ,lC];have P:Hid (RetK (.k (.tuple #[.int .i64 ((DT.piv r F c).length:Int),.int .i64 0])) w (.returned (.tuple #[.int .i64 (ps.length:Int),.int .i64 0])) w6):=Lib.hid ⟨_,rfl,by rw[HE.out];rfl,zup B0 B6⟩;clear bx B0 B6
 go_wp2_with fail
 exact bodyPost_ret (v:=.tuple #[.int .i64 (ps.length:Int),.int .i64 0]) (by simp[results,Try.results14,go_sem]) rfl P.out
theorem o_1 {r c:Int}{n d:Nat}{A:Option Addr}{w:World}(h:fmd r c n=false):Calls Try.prog 14 #[.agg #[.int .i64 r,.int .i64 c,.slice A n d]] w (RetK (.k (.tuple #[.int .i64 0,.int .i64 2])) w):=by
 obtain⟨w1,hw1,b1,z1,s1⟩:=boxes1 w 24 [.int .i64 r,.int .i64 c,.slice A n d];have HW:=Lib.hid hw1;have HZ:=Lib.hid z1;have h_:=Lib.hid h;clear hw1 z1 h s1;go_enter Try.func14,Try.ntmps14
 go_upto_region 1 with fail
 rw[HW.out];refine Run.start 3 ?_;refine .ld .o (ldM b1 0) ?_;refine .c1 (.i 0) (x:=.k (.bool false)) (by rintro u w2 hB rfl;exact b_c h_.out w2) ?_;refine .nf (.i 1) ?_;refine .donep [some 5,some 6,some 7] ?_;intro w2 B2;refine sh [] ?_;simp only[Act.put,lS,lZ,lC];have P:Hid (RetK (.k (.tuple #[.int .i64 0,.int .i64 2])) w (.returned (.tuple #[.int .i64 0,.int .i64 2])) w2):=Lib.hid ⟨_,rfl,rfl,zup HZ.out B2⟩
 go_wp2_with fail
 exact bodyPost_ret (v:=.tuple #[.int .i64 0,.int .i64 2]) (by simp[results,Try.results14,go_sem]) rfl P.out
end
section
open Go.RowKit
def ints' (ps:List Nat):List Value:=ps.map fun p:Nat=>Value.int .i64 (p:Int)
structure Iz (w:World) (A:Option Addr) (n c:Nat) (ps:List Nat):Prop where
 len:ps.length=n
 le:n<=c
 cap:c<=9223372036854775807
 at':0<n->∃ad cs fr,A=some ad/\w.heap[ad.block]? =some (.cells cs 3 fr)/\∀j,j<n->w.cell? (ad.add j)=some (.int .i64 ((ps.getD j 0:Nat):Int))
theorem Iz.nil (w:World):Iz w none 0 0 []:=⟨rfl,Nat.le_refl _,by omega,fun h=>by omega⟩
theorem Iz.lt {w:World}{A:Option Addr}{n c:Nat}{ps:List Nat}(h:Iz w A n c ps)(h0:0<n):∃ad,A=some ad/\ad.block<w.heap.size/\∀j,j<n->w.cell? (ad.add j)=some (.int .i64 ((ps.getD j 0:Nat):Int)):=by
 obtain⟨ad,cs,fr,e,h1,h2⟩:=h.at' h0;exact⟨ad,e,(Array.getElem?_eq_some_iff.1 h1).1,h2⟩
theorem Iz.block {w w':World}{A:Option Addr}{n c:Nat}{ps:List Nat}(h:Iz w A n c ps)(hb:∀(g:Nat) cs fr,w.heap[g]? =some (.cells cs 3 fr)->w'.heap[g]? =w.heap[g]?):Iz w' A n c ps:=⟨h.len,h.le,h.cap,fun h0=>by
 obtain⟨ad,cs,fr,e,h1,h2⟩:=h.at' h0;have hk:=hb _ _ _ h1;exact⟨ad,cs,fr,e,hk.trans h1,fun j hj=>(World.cell?_of_block (by rw[a_a];exact hk)).trans (h2 j hj)⟩⟩
theorem Iz.below {w w':World}{A:Option Addr}{n c:Nat}{ps:List Nat}(h:Iz w A n c ps)(hb:Below w.heap.size w w'):Iz w' A n c ps:=h.block fun g cs fr e=>hb.block g (Array.getElem?_eq_some_iff.1 e).1
theorem l_1 {w:World}{b s n g:Nat}{e:TypeId}{v:Value}{xs:List Value}(h:w.ownsRow b e s v n xs)(hg:v.ownBlock=some g):∃cs,w.heap[g]? =some (.cells cs e (0,0)):=by
 rcases h.2 with⟨rfl,_⟩|⟨g',cap,cur,rfl,hb,hh,_⟩
 ·cases hg
 ·have e':g'=g:=by simpa [Value.ownBlock] using hg
  subst e';exact⟨cur,hh⟩
theorem Iz.grown {w w':World}{A:Option Addr}{n c b s m:Nat}{ps:List Nat}{e:TypeId}{v:Value}{xs:List Value}(h:Iz w A n c ps)(ho:w.ownsRow b e s v m xs)(he:e≠3)(hg:w.grownBy w' v.ownBlock):Iz w' A n c ps:=h.block fun g cs fr e1=>hg.block g (Array.getElem?_eq_some_iff.1 e1).1 fun e2=>by
 obtain⟨cs',e3⟩:=l_1 ho e2.symm;rw[e1]at e3;injection e3 with e3
 injection e3 with _ e4
 exact he e4.symm
theorem k_c {w:World}{b n:Nat}{v:Value}{ps:List Nat}(h:w.ownsRow b 3 1 v n (ints' ps)):∃A c,v= .slice A n c/\Iz w A n c ps:=by
 have hl:ps.length=n:=by have:=h.1;simpa [ints'] using this
 rcases h.2 with⟨rfl,rfl⟩|⟨g,cap,cur,rfl,hb,hh,hn,hm,hcs,ht⟩
 ·exact⟨none,0,rfl,hl,Nat.le_refl _,by omega,fun h=>by omega⟩
 ·refine⟨_,cap,rfl,hl,hn,by unfold maxLen at hm;omega,fun h0=>⟨_,_,_,rfl,hh,fun j hj=>?_⟩⟩;exact h.cells (g:=g) rfl j _ (by simp[ints',List.getD,hl,hj])
theorem c_j {w w':World}{b s n:Nat}{e:TypeId}{v:Value}{xs:List Value}(h:w.ownsRow b e s v n xs)(hb:Below w.heap.size w w'):w'.ownsRow b e s v n xs:=h.kept (row:=none) ⟨hb.os,hb.tape,hb.output,hb.size,fun k hk _=>hb.block k hk⟩ (by cases hv:v.ownBlock<;>simp)
theorem d_5 {w:World}{b b' s n:Nat}{e:TypeId}{v:Value}{xs:List Value}(h:w.ownsRow b e s v n xs)(hb:b'<=b):w.ownsRow b' e s v n xs:=by
 refine⟨h.1, ?_⟩;rcases h.2 with h1|⟨g,cap,cur,h1,h2,h3⟩
 ·exact .inl h1
 ·exact .inr ⟨g,cap,cur,h1,Nat.le_trans hb h2,h3⟩
theorem info_int2:(Try.prog.info? 3).map (fun i=>(i.zero,i.size,i.bytes))=some (some (.int .i64 0),1,8):=by kernel_rfl
theorem info_is:(Try.prog.info? 40).map (fun i=>(i.zero,i.size,i.bytes))=some (some (.slice none 0 0),1,24):=by kernel_rfl
theorem d_y {w:World}{ops:Array Oper}{rest:List Oper}{o:Oper}{a:Act}{Q:Exit->Act->World->Prop}(hgd:o.guard=none)(s x:Operand)
  (ho:o.op= .call { callee:=.builtin .append,args:=#[s,x],argTypes:=#[40,40] }) (base:Nat)
  (v:Value) (n:Nat) (ps:List Nat) (hs:a.eval s=v) (hown:w.ownsRow base 3 1 v n (ints' ps)) {A:Option Addr} {m c:Nat} {qs:List Nat} (hq:Iz w A m c qs)
  (hx:a.eval x= .slice A m c) (hlen:n+m<=1099511627776) (hbase:base<=w.heap.size)
  (h:∀v' w',w'.ownsRow base 3 1 v' (n+m) (ints' (ps++qs))->w.grownBy w' v.ownBlock->(v'.ownBlock=v.ownBlock\/v'.ownBlock=some w.heap.size)->wpList Try.prog ops Q rest (a.put o.dst v') w'):wpList Try.prog ops Q (o::rest) a w:=by
 obtain⟨i,hi,hz0,hz1,hz2⟩:=info_parts info_int2;rcases Nat.eq_zero_or_pos m with h0|h0
 ·subst h0;obtain rfl:qs=[]:=List.length_eq_zero_iff.1 hq.len;rw[List.append_nil]at h;cases A with
  |none=>
   have hr:=run_append_nil (P:=Try.prog) w (t:=40) (ty:=o.type) Try.underlying40 hi hown c;refine wpList_plain hgd fun K hK=>?_;unfold Oper.wp execOp;simp only[ho,resolve,invoke,builtin,Sem.run_bind,Sem.run_pure,Result.andThen_ok,List.map_toArray,List.map_cons,List.map_nil,hs,hx,hr];exact hK _ _ (h v w hown (World.grownBy.mk rfl rfl rfl (Nat.le_refl _) fun _ _ _=>rfl) (.inl rfl))
  |some ad=>
   obtain⟨v',w',hr,h2,h3,-,h5⟩:=run_append_own_at (P:=Try.prog) w base 40 o.type 3 i (.int .i64 0) 1 8 Try.underlying40 hi hz0 hz1 hz2 rfl (by omega) v n _ hown ad 0 c [] rfl (fun j u hu=>by simp at hu) (fun u hu=>by simp at hu) (by unfold maxLen;omega) (by omega) hbase;refine wpList_plain hgd fun K hK=>?_;unfold Oper.wp execOp;simp only[ho,resolve,invoke,builtin,Sem.run_bind,Sem.run_pure,Result.andThen_ok,List.map_toArray,List.map_cons,List.map_nil,hs,hx,hr];rw[List.append_nil]at h2;exact hK _ _ (h v' w' h2 h3 h5)
 ·obtain⟨ad,rfl,hlt,hc⟩:=hq.lt h0;obtain⟨v',w',hr,h2,h3,-,h5⟩:=run_append_own_at (P:=Try.prog) w base 40 o.type 3 i (.int .i64 0) 1 8 Try.underlying40 hi hz0 hz1 hz2 rfl (by omega) v n _ hown ad m c (ints' qs) (by simp[ints',hq.len]) (fun j u hu=>by
   have hj:j<qs.length:=by
    rcases Nat.lt_or_ge j qs.length with h|h
    ·exact h
    ·rw[List.getElem?_eq_none (by simp[ints'];exact h)]at hu;cases hu
   have:=hc j (by rw[<-hq.len];exact hj);simp[ints',hj]at hu;subst hu;simpa [List.getD,hj] using this) (fun u hu=>by
   simp only[ints',List.mem_map]at hu;obtain⟨p,_,rfl⟩:=hu;rfl) (by unfold maxLen;omega) (by omega) hbase
  refine wpList_plain hgd fun K hK=>?_;unfold Oper.wp execOp;simp only[ho,resolve,invoke,builtin,Sem.run_bind,Sem.run_pure,Result.andThen_ok,List.map_toArray,List.map_cons,List.map_nil,hs,hx,hr];rw[show ints' ps++ints' qs=ints' (ps++qs) by simp[ints']]at h2;exact hK _ _ (h v' w' h2 h3 h5)
theorem b_3 {wr:World}{ops:Array Oper}{rest:List Oper}{o:Oper}{a:Act}{Q:Exit->Act->World->Prop}(hgd:o.guard=none)(s x:Operand)(t e:TypeId)(zv:Value)(bytes:Nat)
  (ho:o.op= .call { callee:=.builtin .append,args:=#[s,x],argTypes:=#[t,t] }) (ht:Try.prog.underlying t=some (.slice e)) (hinfo:(Try.prog.info? e).map (fun i=>(i.zero,i.size,i.bytes))=some (some zv,1,bytes)) (hzs:zv.cells.size=1) (hby:bytes<=64) (base:Nat)
  (v:Value) (n:Nat) (xs:List Value) (hs:a.eval s=v) (hown:wr.ownsRow base e 1 v n xs) (u:Value) (h1:u.oneCell'=true)
  (hx:a.eval x= .slice (some ⟨wr.heap.size,0,none⟩) 1 1) (hlen:n<=1048576) (hbase:base<=wr.heap.size)
  (h:∀v' w',w'.ownsRow base e 1 v' (n+1) (xs++[u])->(wr.alloc (.cells #[u] e)).grownBy w' v.ownBlock->(v'.ownBlock=v.ownBlock\/v'.ownBlock=some (wr.heap.size+1))->wpList Try.prog ops Q rest (a.put o.dst v') w'):wpList Try.prog ops Q (o::rest) a (wr.alloc (.cells #[u] e)):=by
 obtain⟨i,hi,hz0,hz1,hz2⟩:=info_parts hinfo;have hone:Bx (wr.alloc (.cells #[u] e)) wr.heap.size e [u]:=Bx.new wr e [u];obtain⟨v',w',hr,h2,h3,-,h5⟩:=run_append_own_at (P:=Try.prog) (wr.alloc (.cells #[u] e)) base t o.type e i zv 1 bytes ht hi hz0 hz1 hz2 hzs (by omega) v n xs (hown.alloc _) ⟨wr.heap.size,0,none⟩ 1 1 [u] rfl (fun j y hy=>by
  rw[b_d];match j,hy with
  |0,hy=>simp at hy;subst hy;exact hone.cell 0) (by simpa using h1) (by unfold maxLen;omega) (by have:(n+1)*bytes<=(1048576+1)*64:=Nat.mul_le_mul (by omega) hby;omega) (by simp;omega)
 refine wpList_plain hgd fun K hK=>?_;unfold Oper.wp execOp;simp only[ho,resolve,invoke,builtin,Sem.run_bind,Sem.run_pure,Result.andThen_ok,List.map_toArray,List.map_cons,List.map_nil,hs,hx,hr];exact hK _ _ (h v' w' h2 h3 (by simpa using h5))
def LLat (w:World)(vs:List Value)(ll:List (List Nat)):Prop:=vs.length=ll.length/\∀j,j<ll.length->∃A c,vs[j]? =some (.slice A (ll.getD j []).length c)/\Iz w A (ll.getD j []).length c (ll.getD j [])
theorem LLat.below {w w':World}{vs:List Value}{ll:List (List Nat)}(h:LLat w vs ll)(hb:Below w.heap.size w w'):LLat w' vs ll:=⟨h.1,fun j hj=>let⟨A,c,h1,h2⟩:=h.2 j hj;⟨A,c,h1,h2.below hb⟩⟩
theorem LLat.grown {w w':World}{vs:List Value}{ll:List (List Nat)}{b s m:Nat}{e:TypeId}{v:Value}{xs:List Value}(h:LLat w vs ll)(ho:w.ownsRow b e s v m xs)(he:e≠3)(hg:w.grownBy w' v.ownBlock):LLat w' vs ll:=⟨h.1,fun j hj=>let⟨A,c,h1,h2⟩:=h.2 j hj;⟨A,c,h1,h2.grown ho he hg⟩⟩
theorem LLat.app {w:World}{vs:List Value}{ll:List (List Nat)}{A:Option Addr}{n c:Nat}{ps:List Nat}(h:LLat w vs ll)(hz:Iz w A n c ps):LLat w (vs++[.slice A n c]) (ll++[ps]):=by
 refine⟨by simp[h.1],fun j hj=>?_⟩;rw[List.length_append,List.length_singleton]at hj;rcases Nat.lt_or_ge j ll.length with h1|h1
 ·obtain⟨A',c',h2,h3⟩:=h.2 j h1;have e:(ll++[ps]).getD j []=ll.getD j []:=by simp[List.getD,List.getElem?_append_left h1]
  exact⟨A',c',by rw[List.getElem?_append_left (by rw[h.1];exact h1),e];exact h2,by rw[e];exact h3⟩
 ·have e0:j=ll.length:=by omega
  subst e0;have e:(ll++[ps]).getD ll.length []=ps:=by simp[List.getD]
  refine⟨A,c, ?_, ?_⟩
  ·rw[List.getElem?_append_right (by rw[h.1];exact Nat.le_refl _),h.1,Nat.sub_self,e,hz.len];rfl
  ·rw[e,hz.len];exact hz
def IsLo (b:Nat)(ll:List (List Nat)):FVal:=fun v w=>∃vs,w.ownsRow b 40 1 v ll.length vs/\LLat w vs ll
def kLo (b:Nat)(ll:List (List Nat)):FK:=.f (IsLo b ll) (fun v w w' ⟨vs,h1,h2⟩ hb=>⟨vs,c_j h1 hb,h2.below hb⟩)
def rch:Nat->Nat->List (List Nat)
 |_,0=>[[]]
 |0,_+1=>[]
 |m+1,n+1=>if m+1<n+1 then[]else rch m (n+1)++(rch m n).map (· ++[m])
theorem rch_len:∀m n,(rch m n).length<=2^m
 |0,0=>by simp[rch]
 |m+1,0=>by simp[rch];exact Nat.one_le_two_pow
 |0,n+1=>by simp[rch]
 |m+1,n+1=>by
  unfold rch;split
  ·simp
  ·rw[List.length_append,List.length_map,Nat.pow_succ];have h1:=rch_len m (n+1);have h2:=rch_len m n;omega
theorem rch_size:∀(m n:Nat) (l:List Nat),l∈rch m n->l.length=n
 |_,0,l,h=>by simp[rch]at h;subst h;rfl
 |0,n+1,l,h=>by simp[rch]at h
 |m+1,n+1,l,h=>by
  unfold rch at h;split at h
  ·simp at h
  ·rw[List.mem_append,List.mem_map]at h;rcases h with h|⟨x,h,rfl⟩
   ·exact rch_size m (n+1) l h
   ·have:=rch_size m n x h;simp[this]
theorem d_7 {α}{l:List α}{j:Nat}{d:α}(h:j<l.length):l.getD j d∈l:=by
 rw[List.getD_eq_getElem?_getD,List.getElem?_eq_getElem h];exact List.getElem_mem h
end
section
open Go.RowKit
theorem p_5 (m:Int)(w:World):Calls Try.prog 66 #[.int .i64 m,.int .i64 0] w (RetK (kLo w.heap.size [[]]) w):=by
 have P:Hid (RetK (kLo w.heap.size [[]]) w (.returned (.slice (some ⟨w.heap.size,0,none⟩) 1 1)) (w.alloc (.cells #[.slice none 0 0] 40))):=Lib.hid ⟨_,rfl,⟨[.slice none 0 0],⟨rfl,.inr ⟨w.heap.size,1,_,rfl,Nat.le_refl _,heap_alloc_new w _,Nat.le_refl _,by unfold maxLen;omega,rfl,rfl⟩⟩,⟨rfl,fun j hj=>by
  have e:j=0:=by simp at hj;omega
  subst e;exact⟨none,0,rfl,Iz.nil _⟩⟩⟩,zba w _⟩
 go_enter Try.func66,Try.ntmps66
 go_wp2_with fail
 exact bodyPost_ret (v:=.slice (some ⟨w.heap.size,0,none⟩) 1 1) (by simp[results,Try.results66,go_sem]) rfl P.out
theorem l_e {M N:Nat}(h0:0<N)(h:M<N)(w:World):Calls Try.prog 66 #[.int .i64 (M:Int),.int .i64 (N:Int)] w (RetK (kLo w.heap.size []) w):=by
 have u1:¬(N:Int)=0:=by omega
 have u2:(M:Int)<(N:Int):=by omega
 have P:Hid (RetK (kLo w.heap.size []) w (.returned (.slice none 0 0)) w):=Lib.hid ⟨_,rfl,⟨[],World.ownsRow_nil w _ _ _,rfl,fun j hj=>by simp at hj⟩,Below.refl _ _⟩;go_enter Try.func66,Try.ntmps66
 go_wp2_with fail
 exact bodyPost_ret (v:=.slice none 0 0) (by simp[results,Try.results66,go_sem]) rfl P.out
theorem p_6 {M N m n:Nat}(hM1:M<=m+1)(hM2:m+1<=M)(hN1:N<=n+1)(hN2:n+1<=N)(h:¬m+1<n+1)(hm:m<=16){w:World}
  (ih1:∀w,Calls Try.prog 66 #[.int .i64 (m:Int),.int .i64 (N:Int)] w (RetK (kLo w.heap.size (rch m (n+1))) w)) (ih2:∀w,Calls Try.prog 66 #[.int .i64 (m:Int),.int .i64 (n:Int)] w (RetK (kLo w.heap.size (rch m n)) w)):
  Calls Try.prog 66 #[.int .i64 (M:Int),.int .i64 (N:Int)] w (RetK (kLo w.heap.size (rch (m+1) (n+1))) w):=by
 have hr:rch (m+1) (n+1)=rch m (n+1)++(rch m n).map (· ++[m]):=by
  show(if m+1<n+1 then[]else _)=_
  rw[if_neg h]
 have hl1:=rch_len m (n+1);have hl2:=rch_len m n;have hp:2^m<=2^16:=Nat.pow_le_pow_right (by omega) hm;obtain⟨L1,hL1⟩:∃L,rch m (n+1)=L:=⟨_,rfl⟩;obtain⟨L2,hL2⟩:∃L,rch m n=L:=⟨_,rfl⟩;have hL2n:∀l,l∈L2->l.length=n:=fun l hl=>rch_size m n l (hL2 ▸ hl);rw[hL1]at hl1 ih1 hr;rw[hL2]at hl2 ih2 hr;have HR:=Lib.hid hr;have HI1:=Lib.hid ih1;have HI2:=Lib.hid ih2;have HN:=Lib.hid hL2n;have u1:¬(N:Int)=0:=by omega
 have u2:¬(M:Int)<(N:Int):=by omega
 have hml:L1.length<=65536:=by omega
 have hml2:L2.length<=65536:=by omega
 have hmn:n<=m:=by omega
 clear hr hL1 hL2 ih1 ih2 hL2n hp hl1 hl2;go_enter Try.func66,Try.ntmps66
 go_upto_region 5 with fail
 refine Run.start 5 ?_;refine .mv .o ?_;refine .two (.i 0) .o (opSub (show(M:Int) - 1=(m:Int) by omega) (by omega) (by omega)) ?_;refine .mv .o ?_;refine .c2 (.i 1) (.i 2) (x:=kLo w.heap.size L1) (by rintro u v w2 hB rfl rfl;exact(HI1.out w2).mono fun e w' h=>h.mono fun v w ⟨vs,h1,h2⟩=>⟨vs,d_5 h1 hB.size,h2⟩) ?_;refine .mf (.i 3) ?_;refine .donep [some 15,some 16,some 17,some 18,some 5] ?_;intro w2 B2;rintro v18 -;rintro v5 ⟨vs5,h5,h5'⟩;refine sh [] ?_;simp only[Act.put,lS,lZ,lC];have B0:=B2;clear B2;go_upto_region 6 with fail
 refine Run.start 6 ?_;refine .mv .o ?_;refine .two (.i 0) .o (opSub (show(M:Int) - 1=(m:Int) by omega) (by omega) (by omega)) ?_;refine .mv .o ?_;refine .two (.i 2) .o (opSub (show(N:Int) - 1=(n:Int) by omega) (by omega) (by omega)) ?_;refine .c2 (.i 1) (.i 3) (x:=kLo w2.heap.size L2) (by rintro u v w3 hB rfl rfl;exact(HI2.out w3).mono fun e w' h=>h.mono fun v w ⟨vs,h1,h2⟩=>⟨vs,d_5 h1 hB.size,h2⟩) ?_;refine .mf (.i 4) ?_;refine .donep [some 19,some 20,some 21,some 22,some 23,some 6] ?_;intro w3 B3;rintro v23 -;rintro v6 ⟨vs6,h6,h6'⟩;refine sh [] ?_;simp only[Act.put,lS,lZ,lC];obtain⟨A6,c6,e6⟩:∃A c,v6= .slice A L2.length c:=by
  rcases h6.2 with⟨e,e0⟩|⟨g,cap,cur,e,_⟩
  ·exact⟨none,0,by rw[e0];exact e⟩
  ·exact⟨_,cap,e⟩
 have hd:v6.ownBlock=none\/v6.ownBlock≠v5.ownBlock:=by
  cases hv:v6.ownBlock with
  |none=>exact .inl rfl
  |some g=>
   right;intro e;have a1:=(h6.lt g hv).1;have a2:=(h5.lt g e.symm).2;omega
 have H0:Hid (Below w.heap.size w w3/\(∃vs,w3.ownsRow w.heap.size 40 1 v5 (L1.length+(0)) vs/\LLat w3 vs (L1++(L2.take (0)).map (· ++[m])))/\(∃vs,w3.ownsRow w.heap.size 40 1 v6 L2.length vs/\LLat w3 vs L2)/\(v6.ownBlock=none\/v6.ownBlock≠v5.ownBlock)):=Lib.hid ⟨zup B0 B3,⟨vs5,c_j h5 B3,by simpa using h5'.below B3⟩,⟨vs6,d_5 h6 B0.size,h6'⟩,hd⟩;have E6:=Lib.hid e6;clear h5 h5' h6 h6' hd B0 B3 e6
 go_wp2_with fail
 go_loopw [7,5] (fun s7 s5 wr=>∃i:Nat,s7= .int .i64 (i:Int)/\i<=L2.length/\Hid (Below w.heap.size w wr/\(∃vs,wr.ownsRow w.heap.size 40 1 s5 (L1.length+(i)) vs/\LLat wr vs (L1++(L2.take (i)).map (· ++[m])))/\(∃vs,wr.ownsRow w.heap.size 40 1 v6 L2.length vs/\LLat wr vs L2)/\(v6.ownBlock=none\/v6.ownBlock≠s5.ownBlock))) (fun s7 _ _=>L2.length - (intOf s7).toNat)
 case atStart=>exact⟨0,rfl,Nat.zero_le _,H0⟩
 case round=>
  obtain⟨i,rfl,hi,HB⟩:=hrel;clear H0;have e6:=E6.out;by_cases hlt:i<L2.length
  ·have u3:(i:Int)<(L2.length:Int):=by omega
   obtain⟨B0,⟨vs5,h5,h5'⟩,⟨vs6,h6,h6'⟩,hd⟩:=HB.out;clear HB;subst e6;obtain⟨Ai,cell,eli,hz⟩:=h6'.2 i hlt;have hcell:∃ad,A6=some ad/\wr.cell? (ad.add i)=some (.slice Ai (L2.getD i []).length cell):=by
    rcases h6.2 with⟨e,e0⟩|⟨g,cap,cur,e,_⟩
    ·omega
    ·cases e;exact⟨_,rfl,h6.cells (g:=g) rfl i _ eli⟩
   obtain⟨ad,rfl,d1⟩:=hcell;have hsz:(L2.getD i []).length<=16:=by rw[HN.out _ (d_7 hlt)];omega
   obtain⟨pl,hpl⟩:∃p,L2.getD i []=p:=⟨_,rfl⟩;rw[hpl]at d1 hz hsz;have HPL:=Lib.hid hpl;obtain⟨K,hK⟩:∃K,pl.length=K:=⟨_,rfl⟩;rw[hK]at d1 hz hsz;clear hpl eli
   go_wp2_with (at_builtin;refine d_y rfl _ _ rfl wr.heap.size (.slice none 0 0) 0 [] rfl (World.ownsRow_nil wr _ _ _) hz rfl (by omega) (Nat.le_refl _) ?_)
   intro vx w4 hx hgx hxb;have B4:Below wr.heap.size wr w4:=⟨hgx.os,hgx.tape,hgx.output,hgx.size,fun k hk=>hgx.block k hk (by simp[Value.ownBlock])⟩;clear d1 hxb hgx
   go_wp2_with (at_builtin;(refine b_3 (wr:=w4) rfl _ _ 40 3 (.int .i64 0) 8 rfl Try.underlying40 info_int2 rfl (by omega) wr.heap.size vx K _ rfl hx (.int .i64 ((M:Int) - 1)) rfl rfl (by omega) B4.size ?_))
   intro vy w5 hy hgy hyb;have hy2:w5.ownsRow wr.heap.size 3 1 vy (K+1) (ints' (pl++[m])):=by
    rw[show(M:Int) - 1=(m:Int) by omega]at hy;simpa [ints'] using hy
   have B5:Below wr.heap.size wr w5:=by
    refine(B4.trans ((zba w4 _).mono B4.size)).trans ⟨hgy.os,hgy.tape,hgy.output,hgy.size,fun k hk=>hgy.block k (by have:=B4.size;simp;omega) fun e=>?_⟩
    have:=(hx.lt k e.symm).1;omega
   obtain⟨Ay,cy,rfl,hzy⟩:=k_c hy2;have h5b:=c_j h5 B5;have h5b':=(h5'.below B5).app hzy;have h6b:=c_j h6 B5;have h6b':=h6'.below B5;have B6:=B0.trans (B5.mono B0.size);have e25:L1++(L2.take i).map (· ++[m])++[pl++[m]]=L1++(L2.take (i+1)).map (· ++[m]):=by
    rw[List.append_assoc,List.take_succ_eq_append_getElem hlt,List.map_append]
    have:=HPL.out;simp[List.getD,hlt]at this;simp[this]
   rw[e25]at h5b';clear h5 h5' h6 h6' hx hy hy2 hgy hyb hzy e25 hz
   go_wp2_with (at_builtin;go_loud (refine b_3 (wr:=w5) rfl _ _ 93 40 (.slice none 0 0) 24 rfl Try.underlying93 info_is rfl (by omega) w.heap.size u5 (L1.length+i) _ rfl h5b (.slice Ay (K+1) cy) rfl rfl (by omega) B6.size ?_))
   intro vo w7 ho hgo hob;have B7:Below w.heap.size w w7:=(B6.trans ((zba w5 _).mono B6.size)).trans ⟨hgo.os,hgo.tape,hgo.output,hgo.size,fun k hk=>hgo.block k (by have:=B6.size;simp;omega) fun e=>by have:=(h5b.lt k e.symm).1;omega⟩;have hX5:=h5b.alloc (.cells #[.slice Ay (K+1) cy] 40);have hl6:=c_j h6b (zba w5 (.cells #[.slice Ay (K+1) cy] 40));have h6c:=hl6.kept hgo hd;have h6c':=(h6b'.below (zba w5 (.cells #[.slice Ay (K+1) cy] 40))).grown hX5 (by decide) hgo;have h5c':=(h5b'.below (zba w5 (.cells #[.slice Ay (K+1) cy] 40)));have hd7:(Value.slice (some ad) L2.length c6).ownBlock=none\/(Value.slice (some ad) L2.length c6).ownBlock≠vo.ownBlock:=by
    right;rcases hob with e|e
    ·rw[e];exact hd.resolve_left (by simp[Value.ownBlock])
    ·rw[e];intro e2
     have:=(h6b.lt _ e2).2;omega
   have HS:Hid (Below w.heap.size w w7/\(∃vs,w7.ownsRow w.heap.size 40 1 vo (L1.length+(i+1)) vs/\LLat w7 vs (L1++(L2.take (i+1)).map (· ++[m])))/\(∃vs,w7.ownsRow w.heap.size 40 1 (Value.slice (some ad) L2.length c6) L2.length vs/\LLat w7 vs L2)/\((Value.slice (some ad) L2.length c6).ownBlock=none\/(Value.slice (some ad) L2.length c6).ownBlock≠vo.ownBlock)):=Lib.hid ⟨B7,⟨_,ho,h5c'.grown hX5 (by decide) hgo⟩,⟨vs6,h6c,h6c'⟩,hd7⟩;clear h5b h5b' h6b h6b' h5c' h6c h6c' ho hgo hob hd hd7 hX5 hl6 B4 B5 B6 B7 B0
   go_wp2_with fail
   go_roundw
   case rel=>exact⟨i+1,by go_num,by omega,HS⟩
   case measure=>first|(simp[intOf];done)|(simp[intOf];omega)
  ·obtain rfl:i=L2.length:=by omega
   have u3:¬(L2.length:Int)<(L2.length:Int):=by omega
   obtain⟨B0,⟨vs5,h5,h5'⟩,-,-⟩:=HB.out;subst e6;rw[List.take_length,<-HR.out]at h5';have e5:L1.length+L2.length=(rch (m+1) (n+1)).length:=by rw[HR.out];simp
   rw[e5]at h5;have P:=Lib.hid (show RetK (kLo w.heap.size (rch (m+1) (n+1))) w (.returned u5) wr from⟨_,rfl,⟨vs5,h5,h5'⟩,B0⟩);clear HB h5 h5' B0 e5
   go_wp2_with fail
   exact bodyPost_ret (v:=u5) (by simp[results,Try.results66,go_sem]) rfl P.out
theorem choices_q:∀(m n:Nat) (w:World),m<=16->Calls Try.prog 66 #[.int .i64 (m:Int),.int .i64 (n:Int)] w (RetK (kLo w.heap.size (rch m n)) w)
 |m,0,w,_=>by
  have e:rch m 0=[[]]:=by cases m<;>rfl
  rw[e];exact p_5 m w
 |0,n+1,w,_=>l_e (M:=0) (N:=n+1) (by omega) (by omega) w
 |m+1,n+1,w,hm=>by
  by_cases h:m+1<n+1
  ·have e:rch (m+1) (n+1)=[]:=by show(if m+1<n+1 then[]else _)=_;rw[if_pos h]
   rw[e];exact l_e (by omega) h w
  ·exact p_6 (Nat.le_refl _) (Nat.le_refl _) (Nat.le_refl _) (Nat.le_refl _) h (by omega) (fun w=>choices_q m (n+1) w (by omega)) (fun w=>choices_q m n w (by omega))
end
section
open Go.RowKit
theorem rch_inc:∀(m k:Nat) (l:List Nat),l∈rch m k->DT.Inc k m fun i=>l.getD i 0
 |m,0,l,h=>⟨fun i hi=>by omega,fun i hi=>by omega⟩
 |0,k+1,l,h=>by simp[rch]at h
 |m+1,k+1,l,h=>by
  unfold rch at h;split at h
  ·simp at h
  ·rw[List.mem_append,List.mem_map]at h;rcases h with h|⟨x,h,rfl⟩
   ·have e:=rch_inc m (k+1) l h;exact⟨e.up,fun i hi=>Nat.lt_succ_of_lt (e.lt i hi)⟩
   ·have e:=rch_inc m k x h;have hl:=rch_size m k x h;have g:∀i,i<k->(x++[m]).getD i 0=x.getD i 0:=fun i hi=>by simp[List.getD,List.getElem?_append_left (show i<x.length by omega)]
    have gk:(x++[m]).getD k 0=m:=by simp[List.getD,<-hl]
    refine⟨fun i hi=>?_,fun i hi=>?_⟩
    ·show(x++[m]).getD i 0<(x++[m]).getD (i+1) 0
     rw[g i (by omega)];rcases Nat.lt_or_ge (i+1) k with h1|h1
     ·rw[g _ h1];exact e.up i h1
     ·rw[show i+1=k by omega,gk];exact e.lt i (by omega)
    ·show(x++[m]).getD i 0<m+1
     rcases Nat.lt_or_ge i k with h1|h1
     ·rw[g _ h1];exact Nat.lt_succ_of_lt (e.lt i h1)
     ·rw[show i=k by omega,gk];omega
theorem k_q {k n:Nat}{f:Nat->Nat}(h:DT.Inc k n f):∀d i,i+d<k->f i<=f (i+d)
 |0,i,_=>Nat.le_refl _
 |d+1,i,hi=>Nat.le_trans (k_q h d i (by omega)) (Nat.le_of_lt (h.up (i+d) (by omega)))
theorem inc_rch:∀(m k:Nat) (f:Nat->Nat),DT.Inc k m f->∃l,l∈rch m k/\∀i,i<k->l.getD i 0=f i
 |m,0,f,h=>⟨[],by cases m<;>simp[rch],fun i hi=>by omega⟩
 |0,k+1,f,h=>by have:=h.lt 0 (by omega);omega
 |m+1,k+1,f,h=>by
  have hk:¬m+1<k+1:=fun e=>by have:=h.ge k (by omega);have:=h.lt k (by omega);omega
  have e:rch (m+1) (k+1)=rch m (k+1)++(rch m k).map (· ++[m]):=by show(if m+1<k+1 then[]else _)=_;rw[if_neg hk]
  rw[e];by_cases hf:f k=m
  ·have hlt:∀i,i<k->f i<m:=fun i hi=>by
    have h1:=h.up i (by omega);have h2:=k_q h (k - (i+1)) (i+1) (by omega);rw[show i+1+(k - (i+1))=k by omega]at h2;omega
   obtain⟨l,hl,hg⟩:=inc_rch m k f ⟨fun i hi=>h.up i (by omega),hlt⟩;have hs:=rch_size m k l hl;refine⟨l++[m],List.mem_append.2 (.inr (List.mem_map.2 ⟨l,hl,rfl⟩)),fun i hi=>?_⟩;rcases Nat.lt_or_ge i k with h1|h1
   ·rw[<-hg i h1];simp[List.getD,List.getElem?_append_left (show i<l.length by omega)]
   ·have:i=k:=by omega
    subst this;rw[hf];simp[List.getD,<-hs]
  ·have hkm:=h.lt k (by omega);obtain⟨l,hl,hg⟩:=inc_rch m (k+1) f ⟨h.up,fun i hi=>by
    have h2:=k_q h (k - i) i (by omega);rw[show i+(k - i)=k by omega]at h2;omega⟩
   exact⟨l,List.mem_append.2 (.inl hl),hg⟩
theorem o_b {R k:Nat}{F:Nat->Nat->Int}{cols:Nat->Nat}:DT.Som R F k cols↔∃i,i<(rch R k).length/\DT.det k (fun a b=>F (((rch R k).getD i []).getD a 0) (cols b))≠0:=by
 constructor
 ·rintro⟨f,hf,hd⟩;obtain⟨l,hl,hg⟩:=inc_rch R k f hf;obtain⟨i,hi,e⟩:=List.getElem_of_mem hl;refine⟨i,hi, ?_⟩;have e2:(rch R k).getD i []=l:=by simp[List.getD,hi,e]
  rw[e2,DT.det_ext (N:=fun a b=>F (f a) (cols b)) fun a b ha hb=>by rw[hg a ha]];exact hd
 ·rintro⟨i,hi,hd⟩;exact⟨_,rch_inc R k _ (d_7 hi),hd⟩
theorem o_s {w:World}{ad:Addr}{n c k:Nat}(h:k<n):(Instr.indexAt 40 (.slice (some ad) n c) (.int .i64 (k:Int))).run Try.prog w= .ok (.pointer (some (ad.add k))) w:=by
 simp[go_sem,Try.underlying40,show Try.prog.cellsOf 3=1 by kernel_rfl];omega
theorem opIxK {ad:Addr}{n c k:Nat}{X Y:Operand}(h:k<n)(w:World):RunTwo Try.prog (.indexAddr 40 X Y) w (.slice (some ad) n c) (.int .i64 (k:Int)) (.pointer (some (ad.add k))):=o_s h
theorem ldI {w:World}{p:Addr}{x:Int}(hp:p.block<w.heap.size)(h:w.cell? p=some (.int .i64 x)):∀w',Below w.heap.size w w'->(Instr.loadAt 3 (.pointer (some p))).run Try.prog w'= .ok (.int .i64 x) w':=fun w' hb=>by
 have:=(hb.cell hp).trans h;simp[go_sem,a_u,this]
theorem l_z {w:World}{ad:Addr}{n c k:Nat}(h:k<n):(Instr.indexAt 93 (.slice (some ad) n c) (.int .i64 (k:Int))).run Try.prog w= .ok (.pointer (some (ad.add k))) w:=by
 simp[go_sem,Try.underlying93,show Try.prog.cellsOf 40=1 by kernel_rfl];omega
theorem opIxLL {ad:Addr}{n c k:Nat}{X Y:Operand}(h:k<n)(w:World):RunTwo Try.prog (.indexAddr 93 X Y) w (.slice (some ad) n c) (.int .i64 (k:Int)) (.pointer (some (ad.add k))):=l_z h
theorem ldSI {w:World}{p:Addr}{A:Option Addr}{n c:Nat}(hp:p.block<w.heap.size)(h:w.cell? p=some (.slice A n c)):∀w',Below w.heap.size w w'->(Instr.loadAt 40 (.pointer (some p))).run Try.prog w'= .ok (.slice A n c) w':=fun w' hb=>by
 have:=(hb.cell hp).trans h;simp[go_sem,a_u,this]
theorem j_z {q:Bool}{r c n d k p s e1 e2:Nat}{A Ar Ac:Option Addr}{F:Nat->Nat->Int}{qs cs:List Nat}{f g:Nat->Nat}{w:World}(ha:Mt q w r c A n d k F)(hq:Iz w Ar p e1 qs)(hc:Iz w Ac s e2 cs)(hp:p<=64)(hs:s<=64)(hf:∀a,a<p->qs.getD a 0=f a)(hg:∀a,a<s->cs.getD a 0=g a)(hqr:∀a,a<p->f a<r)(hcc:∀b,b<s->g b<c):Calls Try.prog 67 #[.agg #[.int .i64 (r:Int),.int .i64 (c:Int),.slice A n d],.slice Ar p e1,.slice Ac s e2] w (RetK (kM false p s k (fun a b=>F (f a) (g b))) w):=by
 have h3:=ha.hr;have h4:=ha.hc;obtain⟨L,hL⟩:∃L,mk p s (fun a b=>F (f a) (g b))=L:=⟨_,rfl⟩;have hLl:L.length=p*s:=by rw[<-hL,a_y]
 have hL2:p*s<=64*64:=Nat.mul_le_mul hp hs;have HQ:=Lib.hid hq;have HC:=Lib.hid hc;obtain⟨w1,hw1,b3,b6,z1,s1⟩:=boxes2 w 24 24 [.int .i64 (r:Int),.int .i64 (c:Int),.slice A n d] [.int .i64 0,.int .i64 0,.slice none 0 0];have HW:=Lib.hid hw1;have HZ:=Lib.hid z1;have hL_:=Lib.hid hL;clear hw1 z1 hL hq hc;go_enter Try.func67,Try.ntmps67
 go_upto_region 1 with fail
 rw[HW.out];obtain⟨w2,hw2,b7,z2,s2⟩:=boxes1 w1 24 [.int .i64 (p:Int),.int .i64 (s:Int),.slice none 0 0];rw[s1]at b7;have HW2:=Lib.hid hw2;have HM:=Lib.hid ha;have H0:Hid (∃v,Bx w2 w.heap.size 24 [.int .i64 (r:Int),.int .i64 (c:Int),.slice A n d]/\Bx w2 (w.heap.size+1) 24 [.int .i64 0,.int .i64 0,.slice none 0 0]/\Bx w2 (w.heap.size+1+1) 24 [.int .i64 (p:Int),.int .i64 (s:Int),v]/\OwnW w w2 k v (L.take (0*s))/\v.ownBlock≠some (w.heap.size+1+1)/\v.ownBlock≠some (w.heap.size+1)/\v.ownBlock≠some w.heap.size):=Lib.hid ⟨_,b3.below z2,b6.below z2,b7,by rw[Nat.zero_mul];exact OwnW.nil' (zup HZ.out z2) k,by simp[Value.ownBlock],by simp[Value.ownBlock],by simp[Value.ownBlock]⟩;clear hw2 b7 b6 b3 z2 s2 ha HZ;go_upto_region 2 with fail
 rw[HW2.out];clear HW2 HW s1
 go_wp2_with fail
 go_loopw [8] (fun s8 wr=>∃a:Nat,s8= .int .i64 (a:Int)/\a<=p/\Hid (∃v,Bx wr w.heap.size 24 [.int .i64 (r:Int),.int .i64 (c:Int),.slice A n d]/\Bx wr (w.heap.size+1) 24 [.int .i64 0,.int .i64 0,.slice none 0 0]/\Bx wr (w.heap.size+1+1) 24 [.int .i64 (p:Int),.int .i64 (s:Int),v]/\OwnW w wr k v (L.take (a*s))/\v.ownBlock≠some (w.heap.size+1+1)/\v.ownBlock≠some (w.heap.size+1)/\v.ownBlock≠some w.heap.size)) (fun s8 _=>p - (intOf s8).toNat)
 case atStart=>exact⟨0,rfl,Nat.zero_le _,H0⟩
 case round=>
  obtain⟨a,rfl,har,HB⟩:=hrel;clear H0;by_cases hlt:a<p
  ·have u2:(a:Int)<(p:Int):=by omega
   go_wp2_with fail
   go_loopw [9] (fun s9 wr=>∃e:Nat,s9= .int .i64 (e:Int)/\e<=s/\Hid (∃v,Bx wr w.heap.size 24 [.int .i64 (r:Int),.int .i64 (c:Int),.slice A n d]/\Bx wr (w.heap.size+1) 24 [.int .i64 0,.int .i64 0,.slice none 0 0]/\Bx wr (w.heap.size+1+1) 24 [.int .i64 (p:Int),.int .i64 (s:Int),v]/\OwnW w wr k v (L.take (a*s+e))/\v.ownBlock≠some (w.heap.size+1+1)/\v.ownBlock≠some (w.heap.size+1)/\v.ownBlock≠some w.heap.size)) (fun s9 _=>s - (intOf s9).toNat)
   case atStart=>exact⟨0,rfl,Nat.zero_le _,HB⟩
   case round=>
    clear HB;obtain⟨e,rfl,hec,HB⟩:=hrel;by_cases hel:e<s
    ·have u7:(e:Int)<(s:Int):=by omega
     obtain⟨v,b3,b6,b7,ho,n1,n2,n3⟩:=HB.out;have B0:=ho.old;have hM:=HM.out.below B0;obtain⟨adr,rfl,hbr,hcr⟩:=(HQ.out.below B0).lt (by omega);obtain⟨adc,rfl,hbc,hccc⟩:=(HC.out.below B0).lt (by omega);have x1:=hcr a hlt;have x2:=hccc e hel;rw[hf a hlt]at x1;rw[hg e hel]at x2;obtain⟨Av,cv,rfl,-⟩:=ho.form;obtain⟨nv,hnv⟩:∃nv,(List.take (a*s+e) L).length=nv:=⟨_,rfl⟩;rw[hnv]at b7 n1 n2 n3 ho;have hlen:((L.take (a*s+e))).length<=4096:=by rw[List.length_take];omega
     clear HB hnv hcr hccc;go_upto_region 8 with fail
     refine Run.start 13 ?_;refine .fa .o (fM2 2) ?_;refine .ld (.i 0) (ldSl b7 2) ?_;refine .ld .o (ldM b3 0) ?_;refine .mv .o ?_;refine .mv .o ?_;refine .two (.i 3) (.i 4) (opIxK hlt) ?_;refine .ld (.i 5) (ldI (by rw[a_a];exact hbr) x1) ?_;refine .mv .o ?_;refine .mv .o ?_;refine .two (.i 7) (.i 8) (opIxK hel) ?_;refine .ld (.i 9) (ldI (by rw[a_a];exact hbc) x2) ?_;refine .c3 (.i 2) (.i 6) (.i 10) (x:=kV (F (f a) (g e)) k) (by rintro u v x w4 hB rfl rfl rfl;exact l_6 (i:=f a) (j:=g e) (hM.below hB) (hqr a hlt) (hcc e hel)) ?_;refine .bsv (.i 11) (Nat.le_refl _) ?_;refine .done [some 27,some 28,some 29,some 30,some 31,some 32,some 33,some 34,some 35,some 36,some 37,some 38,some 39] ?_;intro w4 B4;rintro v38 -;rintro v ⟨gx,s_,A_,n_,c_,rfl,bg,hge,hz,hk⟩;refine sh [_,_,_] ?_;simp only[Act.put,lS,lZ,lC];have hg0:=bg.cell 0;have hg1:=bg.cell 1;simp only[List.getElem?_cons_succ,List.getElem?_cons_zero]at hg0 hg1;have ho4:=ho.below B4;replace b3:=b3.below B4;replace b6:=b6.below B4;replace b7:=b7.below B4;clear B4 ho hM x1 x2 hbr hbc
     go_wp2_with (at_builtin;refine d_x w _ rfl _ _ 22 rfl Try.underlying22 info_zint k _ _ rfl ho4 hg0 hg1 hz hk rfl (by omega) ?_)
     intro v5 w5 ho5 hG;have b3':=hG.bx b3 n3;have b6':=hG.bx b6 n2;have b7':=hG.bx b7 n1;have n1':=hG.ne b7.lt n1;have n2':=hG.ne b6.lt n2;have n3':=hG.ne b3.lt n3;have hm:a*s+e<L.length:=by rw[hLl];exact f_y hlt hel
     have hz5:F (f a) (g e)=ith L (a*s+e):=by rw[<-hL_.out,h_f hlt hel]
     rw[hz5,take_one' hm,Nat.add_assoc]at ho5;obtain⟨A5,c5,rfl,-⟩:=ho5.form;obtain⟨nl,hnl⟩:∃nl,(List.take (a*s+(e+1)) L).length=nl:=⟨_,rfl⟩;have i2:=b7'.cell 2;have i2':=b7'.free 2;simp only[List.getElem?_cons_succ,List.getElem?_cons_zero]at i2;have HS:Hid (∃v,Bx (w5.setCell ⟨w.heap.size+1+1,2,none⟩ (.slice A5 (List.take (a*s+(e+1)) L).length c5)) w.heap.size 24 [.int .i64 (r:Int),.int .i64 (c:Int),.slice A n d]/\Bx (w5.setCell ⟨w.heap.size+1+1,2,none⟩ (.slice A5 (List.take (a*s+(e+1)) L).length c5)) (w.heap.size+1) 24 [.int .i64 0,.int .i64 0,.slice none 0 0]/\Bx (w5.setCell ⟨w.heap.size+1+1,2,none⟩ (.slice A5 (List.take (a*s+(e+1)) L).length c5)) (w.heap.size+1+1) 24 [.int .i64 (p:Int),.int .i64 (s:Int),v]/\OwnW w (w5.setCell ⟨w.heap.size+1+1,2,none⟩ (.slice A5 (List.take (a*s+(e+1)) L).length c5)) k v (L.take (a*s+(e+1)))/\v.ownBlock≠some (w.heap.size+1+1)/\v.ownBlock≠some (w.heap.size+1)/\v.ownBlock≠some w.heap.size):=Lib.hid ⟨_,b3'.off (by omega) _ _,b6'.off (by omega) _ _,b7'.set 2 _,ho5.set b7' (by simp) (by omega) n1' 2,n1',n2',n3'⟩;rw[hnl]at HS;try rw[hnl]
     clear b3 b6 b7 b3' b6' b7' ho4 ho5 hG bg hge hz hk hg0 hg1 hz5 hnl
     go_wp2_with fail
     go_roundw
     case rel=>exact⟨e+1,by go_num,by omega,HS⟩
     case measure=>first|(simp[intOf];done)|(simp[intOf];omega)
    ·obtain rfl:e=s:=by omega
     have u7:¬(e:Int)<(e:Int):=by omega
     rw[show a*e+e=(a+1)*e by rw[Nat.succ_mul]]at HB
     go_wp2_with fail
     go_roundw
     case rel=>exact⟨a+1,by go_num,by omega,HB⟩
     case measure=>first|(simp[intOf];done)|(simp[intOf];omega)
  ·obtain rfl:a=p:=by omega
   have u2:¬(a:Int)<(a:Int):=by omega
   obtain⟨v,b3,b6,b7,ho,n1,n2,n3⟩:=HB.out;rw[<-hLl,List.take_length,<-hL_.out]at ho;obtain⟨Av,cv,rfl,-⟩:=ho.form;obtain⟨N,hN⟩:∃N,(mk a s (fun a b=>F (f a) (g b))).length=N:=⟨_,rfl⟩;rw[hN]at ho b7;have hM:=ho.mt hp hs;have P:=Lib.hid (retM hM b6 (by omega) ho.old);have j0:=b7.cell 0;have j1:=b7.cell 1;have j2:=b7.cell 2;obtain⟨k0,k1,k2,k3,k4,k5,k6⟩:=b6.m3;simp only[List.getElem?_cons_succ,List.getElem?_cons_zero]at j0 j1 j2;clear b3 b6 b7 hM HB ho n1 n2 n3;unfold mput at P
   go_wp2_with fail
   exact bodyPost_ret (v:=.agg #[.int .i64 (a:Int),.int .i64 (s:Int),.slice Av N cv]) (by simp[results,Try.results67,go_sem,k0,k1,k2]) rfl P.out
theorem j_y {q:Bool}{r c n d k K e2:Nat}{A Ac:Option Addr}{F:Nat->Nat->Int}{cs:List Nat}{b:Bool}{w:World}(ha:Mt q w r c A n d k F)(hc:Iz w Ac K e2 cs)(hr:r<=16)(hK:K<=64)(hcc:∀b,b<K->cs.getD b 0<c)(hd:dk k K<=549755813888)(hb:b=true↔DT.Som r F K fun j=>cs.getD j 0):Calls Try.prog 40 #[.agg #[.int .i64 (r:Int),.int .i64 (c:Int),.slice A n d],.slice Ac K e2] w (RetK (.k (.bool b)) w):=by
 have HC:=Lib.hid hc;have hb2:=hb.trans o_b;clear hb;have HB:=Lib.hid hb2;have HCC:=Lib.hid hcc;obtain⟨w1,hw1,b2,z1,s1⟩:=boxes1 w 24 [.int .i64 (r:Int),.int .i64 (c:Int),.slice A n d];have HW:=Lib.hid hw1;have HZ:=Lib.hid z1;clear hw1 z1 s1 hb2 hcc;go_enter Try.func40,Try.ntmps40
 go_upto_region 1 with fail
 rw[HW.out];refine Run.start 6 ?_;refine .fa .o (fM0 0) ?_;refine .ld (.i 0) (ldInt b2 0) ?_;refine .mv .o ?_;refine .len (.i 2) Try.underlying40 ?_;refine .c2 (.i 1) (.i 3) (x:=kLo w1.heap.size (rch r K)) (by rintro u v w3 hB rfl rfl;exact(choices_q r K w3 hr).mono fun e w' h=>h.mono fun v w ⟨vs,h1,h2⟩=>⟨vs,d_5 h1 hB.size,h2⟩) ?_;refine .mf (.i 4) ?_;refine .donep [some 7,some 8,some 9,some 10,some 11,some 5] ?_;intro w2 B2;rintro v11 -;rintro v5 ⟨vs,h5,h5'⟩;refine sh [] ?_;simp only[Act.put,lS,lZ,lC];have B0:=zup HZ.out B2;replace b2:=b2.below B2;obtain⟨A5,c5,e5,hat⟩:∃A c,v5= .slice A (rch r K).length c/\∀i,i<(rch r K).length->∃ad Ai ci,A=some ad/\ad.block<w2.heap.size/\w2.cell? (ad.add i)=some (.slice Ai K ci)/\Iz w2 Ai K ci ((rch r K).getD i []):=by
  have hsz:∀i,i<(rch r K).length->((rch r K).getD i []).length=K:=fun i hi=>rch_size r K _ (d_7 hi);rcases h5.2 with⟨e,e0⟩|⟨g,cap,cur,e,hbg,hh,_⟩
  ·exact⟨none,0,by rw[e0];exact e,fun i hi=>by omega⟩
  ·refine⟨_,cap,e,fun i hi=>?_⟩;obtain⟨Ai,ci,h1,h2⟩:=h5'.2 i hi;rw[hsz i hi]at h1 h2;exact⟨⟨g,0,none⟩,Ai,ci,rfl,(Array.getElem?_eq_some_iff.1 hh).1,by subst e;exact h5.cells (g:=g) rfl i _ h1,h2⟩
 obtain⟨NL,hNL⟩:∃N,(rch r K).length=N:=⟨_,rfl⟩;rw[hNL]at e5 hat;have hrl:=rch_len r K;have hp16:2^r<=2^16:=Nat.pow_le_pow_right (by omega) hr;have hNL2:NL<=65536:=by omega
 have HNL:=Lib.hid hNL;have HAT:=Lib.hid hat;have HM:=Lib.hid ha;have H0:Hid (Below w.heap.size w w2/\∀a,a<0->DT.det K (fun u_ v_=>F (((rch r K).getD a []).getD u_ 0) (cs.getD v_ 0))=0):=Lib.hid ⟨B0,fun a h=>by omega⟩;have HB2:=Lib.hid b2;have HB0:=Lib.hid B0;subst e5;clear b2 h5 h5' hat ha hc hNL hrl hp16 B0 B2 HZ HW
 go_wp2_with fail
 go_loopw [6] (fun s6 wr=>∃i:Nat,s6= .int .i64 (i:Int)/\i<=NL/\Hid (Below w2.heap.size w2 wr/\∀a,a<i->DT.det K (fun u_ v_=>F (((rch r K).getD a []).getD u_ 0) (cs.getD v_ 0))=0)) (fun s6 _=>NL - (intOf s6).toNat)
 case atStart=>exact⟨0,rfl,Nat.zero_le _,Lib.hid ⟨Below.refl _ _,fun a h=>by omega⟩⟩
 case round=>
  obtain⟨i,rfl,hi,HI⟩:=hrel;clear H0;by_cases hlt:i<NL
  ·have u2:(i:Int)<(NL:Int):=by omega
   obtain⟨B1,hall⟩:=HI.out;have HA:=Lib.hid hall;clear HI hall;obtain⟨ad,Ai,ci,rfl,hab,hcell,hz⟩:=HAT.out i hlt;have x1:=(B1.cell (p:=ad.add i) (by rw[a_a];exact hab)).trans hcell;have hab2:=Nat.lt_of_lt_of_le hab B1.size;have b2:=HB2.out.below B1;obtain⟨z,hzz⟩:∃z,DT.det K (fun u_ v_=>F (((rch r K).getD i []).getD u_ 0) (cs.getD v_ 0))=z:=⟨_,rfl⟩;obtain⟨x,hx⟩:∃x,z.sign=x:=⟨_,rfl⟩;obtain⟨t,ht⟩:∃t,decide (x≠0)=t:=⟨_,rfl⟩;have HZZ:=Lib.hid hzz;have HX:=Lib.hid hx;have HT:=Lib.hid ht;have hil:i<(rch r K).length:=by rw[HNL.out];exact hlt
   have hinc:=rch_inc r K _ (d_7 (d:=[]) hil);obtain⟨f,hf⟩:∃f:Nat->Nat,(fun a=>((rch r K).getD i []).getD a 0)=f:=⟨_,rfl⟩;obtain⟨g,hg⟩:∃g:Nat->Nat,(fun a=>cs.getD a 0)=g:=⟨_,rfl⟩;rw[hf]at hinc;have hzz2:DT.det K (fun a b=>F (f a) (g b))=z:=by rw[<-hzz,<-hf,<-hg]
   have HF:=Lib.hid hf;have HG:=Lib.hid hg;have HZ2:=Lib.hid hzz2;clear hf hg hzz2;clear hzz hx ht hcell hab hil;go_upto_region 5 with fail
   cases t
   ·refine Run.start 10 ?_;refine .ld .o (ldM b2 0) ?_;refine .mv .o ?_;refine .mv .o ?_;refine .two (.i 1) (.i 2) (opIxLL hlt) ?_;refine .ld (.i 3) (ldSI (by rw[a_a];exact hab2) x1) ?_;refine .mv .o ?_;refine .c3 (.i 0) (.i 4) (.i 5) (x:=kM false K K k (fun a b=>F (f a) (g b))) (by rintro u v x w4 hB rfl rfl rfl;exact j_z (HM.out.below ((HB0.out.trans (B1.mono HB0.out.size)).trans (hB.mono (Nat.le_trans HB0.out.size B1.size)))) (hz.below (B1.trans (hB.mono B1.size))) (HC.out.below ((HB0.out.trans (B1.mono HB0.out.size)).trans (hB.mono (Nat.le_trans HB0.out.size B1.size)))) hK hK (fun a _=>by rw[<-HF.out]) (fun a _=>by rw[<-HG.out]) (fun a h=>hinc.lt a h) (fun a h=>by rw[<-HG.out];exact HCC.out a h)) ?_;refine .c1 (.i 6) (x:=kC z (dk k K)) (by rintro u w4 hB ⟨A',n',d',rfl,hM'⟩;rw[<-HZ2.out];exact rdt_q hM' hd) ?_;refine .c1 (.i 7) (x:=.k (.int .i64 x)) (by rintro u w4 hB hu;exact b_n hu.v (by omega) HX.out) ?_;refine .two (.i 8) .o (opNe HT.out) ?_;refine .done [some 18,some 19,some 20,some 21,some 22,some 23,some 24,some 25,some 26,some 27] ?_;intro w4 B4;rintro v24 -;rintro v25 -;refine sh [] ?_;simp only[Act.put,lS,lZ,lC];have HS:Hid (Below w2.heap.size w2 w4/\∀a,a<i+1->DT.det K (fun u_ v_=>F (((rch r K).getD a []).getD u_ 0) (cs.getD v_ 0))=0):=Lib.hid ⟨B1.trans (B4.mono B1.size),fun a h=>by
     rcases Nat.lt_or_ge a i with h1|h1
     ·exact HA.out a h1
     ·have h4:=HT.out;rw[<-HX.out]at h4;have h5:=Int.sign_eq_zero_iff_zero.1 (by simpa using h4);have ea:i=a:=by omega
      rw[<-HZZ.out,ea]at h5;exact h5⟩
    clear b2 B1 B4 x1 hz
    go_wp2_with fail
    go_roundw
    case rel=>exact⟨i+1,by go_num,by omega,HS⟩
    case measure=>first|(simp[intOf];done)|(simp[intOf];omega)
   ·refine Run.start 10 ?_;refine .ld .o (ldM b2 0) ?_;refine .mv .o ?_;refine .mv .o ?_;refine .two (.i 1) (.i 2) (opIxLL hlt) ?_;refine .ld (.i 3) (ldSI (by rw[a_a];exact hab2) x1) ?_;refine .mv .o ?_;refine .c3 (.i 0) (.i 4) (.i 5) (x:=kM false K K k (fun a b=>F (f a) (g b))) (by rintro u v x w4 hB rfl rfl rfl;exact j_z (HM.out.below ((HB0.out.trans (B1.mono HB0.out.size)).trans (hB.mono (Nat.le_trans HB0.out.size B1.size)))) (hz.below (B1.trans (hB.mono B1.size))) (HC.out.below ((HB0.out.trans (B1.mono HB0.out.size)).trans (hB.mono (Nat.le_trans HB0.out.size B1.size)))) hK hK (fun a _=>by rw[<-HF.out]) (fun a _=>by rw[<-HG.out]) (fun a h=>hinc.lt a h) (fun a h=>by rw[<-HG.out];exact HCC.out a h)) ?_;refine .c1 (.i 6) (x:=kC z (dk k K)) (by rintro u w4 hB ⟨A',n',d',rfl,hM'⟩;rw[<-HZ2.out];exact rdt_q hM' hd) ?_;refine .c1 (.i 7) (x:=.k (.int .i64 x)) (by rintro u w4 hB hu;exact b_n hu.v (by omega) HX.out) ?_;refine .two (.i 8) .o (opNe HT.out) ?_;refine .done [some 18,some 19,some 20,some 21,some 22,some 23,some 24,some 25,some 26,some 27] ?_;intro w4 B4;rintro v24 -;rintro v25 -;refine sh [] ?_;simp only[Act.put,lS,lZ,lC];have hb1:b=true:=HB.out.2 ⟨i,by rw[HNL.out];exact hlt,fun e=>by
     have h4:=HT.out;rw[<-HX.out,<-HZZ.out,e]at h4;simp at h4⟩
    have P:Hid (RetK (.k (.bool b)) w (.returned (.bool true)) w4):=Lib.hid ⟨_,rfl,by rw[hb1];rfl,(HB0.out.trans (B1.mono HB0.out.size)).trans (B4.mono (Nat.le_trans HB0.out.size B1.size))⟩;clear b2 B1 B4 x1 hz hb1
    go_wp2_with fail
    exact bodyPost_ret (v:=.bool true) (by simp[results,Try.results40,go_sem]) rfl P.out
  ·obtain rfl:i=NL:=by omega
   have u2:¬(i:Int)<(i:Int):=by omega
   obtain⟨B1,hall⟩:=HI.out;have hb1:b=false:=by
    cases hbb:b with
    |false=>rfl
    |true=>
     obtain⟨a,h1,h2⟩:=HB.out.1 hbb;exact absurd (hall a (by rw[HNL.out]at h1;exact h1)) h2
   have P:Hid (RetK (.k (.bool b)) w (.returned (.bool false)) wr):=Lib.hid ⟨_,rfl,by rw[hb1];rfl,HB0.out.trans (B1.mono HB0.out.size)⟩;clear HI hall B1 hb1
   go_wp2_with fail
   exact bodyPost_ret (v:=.bool false) (by simp[results,Try.results40,go_sem]) rfl P.out
end
section
open Go.RowKit
def IsIz (ps:List Nat):FVal:=fun v w=>∃A c,v= .slice A ps.length c/\Iz w A ps.length c ps
def kIz (ps:List Nat):FK:=.f (IsIz ps) (fun v w w' ⟨A,c,e,h1⟩ hb=>⟨A,c,e,h1.below hb⟩)
theorem p_w (k:Nat):∀r,dk k r=r*(k+66)+1
 |0=>by simp[dk]
 |r+1=>by unfold dk;rw[p_w k r,Nat.succ_mul];omega
theorem q_c (p:Prop):∃b:Bool,b=true↔p:=by
 rcases Classical.em p with h|h
 ·exact⟨true,by simp[h]⟩
 ·exact⟨false,by simp[h]⟩
theorem q_9 {q:Bool}{r c n d k:Nat}{A:Option Addr}{F:Nat->Nat->Int}{w:World}(ha:Mt q w r c A n d k F)(hr:r<=16)(hk:k<=1000):Calls Try.prog 18 #[.agg #[.int .i64 (r:Int),.int .i64 (c:Int),.slice A n d]] w (RetK (kIz (DT.piv r F c)) w):=by
 have h4:=ha.hc;obtain⟨w1,hw1,b1,z1,s1⟩:=boxes1 w 24 [.int .i64 (r:Int),.int .i64 (c:Int),.slice A n d];have HW:=Lib.hid hw1;have HZ:=Lib.hid z1;clear hw1 z1 s1;go_enter Try.func18,Try.ntmps18
 go_upto_region 1 with fail
 rw[HW.out];have HM:=Lib.hid ha;have H0:Hid (Below w.heap.size w w1/\Bx w1 w.heap.size 24 [.int .i64 (r:Int),.int .i64 (c:Int),.slice A n d]/\∃A' c' L,L=DT.piv r F (0)/\Value.slice none 0 0= .slice A' L.length c'/\Iz w1 A' L.length c' L):=Lib.hid ⟨HZ.out,b1,none,0,[],rfl,rfl,Iz.nil _⟩;clear b1 ha HZ HW
 go_wp2_with fail
 go_loopw [4,3] (fun s4 s3 wr=>∃j:Nat,s4= .int .i64 (j:Int)/\j<=c/\Hid (Below w.heap.size w wr/\Bx wr w.heap.size 24 [.int .i64 (r:Int),.int .i64 (c:Int),.slice A n d]/\∃A' c' L,L=DT.piv r F (j)/\s3= .slice A' L.length c'/\Iz wr A' L.length c' L)) (fun s4 _ _=>c - (intOf s4).toNat)
 case atStart=>exact⟨0,rfl,Nat.zero_le _,H0⟩
 case round=>
  obtain⟨j,rfl,hj,HB⟩:=hrel;clear H0;obtain⟨B0,b1,Av,cv,L,hL,rfl,hz⟩:=HB.out;obtain⟨i0,i1,i2,i3,i4,i5,i6⟩:=b1.m3;clear HB;by_cases hlt:j<c
  ·have u2:(j:Int)<(c:Int):=by omega
   have hlen:L.length<=r:=by rw[hL];exact DT.piv_len_le j
   have hlt2:∀x,x∈L->x<j:=fun x hx=>DT.piv_lt j x (by rw[<-hL];exact hx);have hM:=HM.out.below B0;have HL:=Lib.hid hL;have HL2:=Lib.hid hlt2;obtain⟨N,hN⟩:∃N,L.length=N:=⟨_,rfl⟩;rw[hN]at hz hlen ⊢;have HN:=Lib.hid hN;clear hL hlt2 hN
   go_wp2_with (at_builtin;refine d_y rfl _ _ rfl wr.heap.size (.slice none 0 0) 0 [] rfl (World.ownsRow_nil wr _ _ _) hz rfl (by omega) (Nat.le_refl _) ?_)
   intro vx w4 hx hgx hxb;have B4:Below wr.heap.size wr w4:=⟨hgx.os,hgx.tape,hgx.output,hgx.size,fun k hk=>hgx.block k hk (by simp[Value.ownBlock])⟩;clear hxb hgx
   go_wp2_with (at_builtin;(refine b_3 (wr:=w4) rfl _ _ 40 3 (.int .i64 0) 8 rfl Try.underlying40 info_int2 rfl (by omega) wr.heap.size vx N _ rfl hx (.int .i64 (j:Int)) rfl rfl (by omega) B4.size ?_))
   intro vy w5 hy hgy hyb;have hy2:w5.ownsRow wr.heap.size 3 1 vy (N+1) (ints' (L++[j])):=by simpa [ints'] using hy
   have B5:Below wr.heap.size wr w5:=by
    refine(B4.trans ((zba w4 _).mono B4.size)).trans ⟨hgy.os,hgy.tape,hgy.output,hgy.size,fun k hk=>hgy.block k (by have:=B4.size;simp;omega) fun e=>?_⟩
    have:=(hx.lt k e.symm).1;omega
   obtain⟨Ay,cy,rfl,hzy⟩:=k_c hy2;obtain⟨b,hb⟩:=q_c (DT.Som r F (N+1) fun a=>(L++[j]).getD a 0);have HBB:=Lib.hid hb;have b1':=b1.below B5;have hzl:=hz.below B5;clear i0 i1 i2 i3 i4 i5 i6 hb hx hy hy2 hgy hyb B4 b1 hz;go_upto_region 8 with fail
   cases b
   ·refine Run.start 3 ?_;refine .ld .o (ldM b1' 0) ?_;refine .mv .o ?_;refine .c2 (.i 0) (.i 1) (x:=.k (.bool false)) (by rintro u v w6 hB rfl rfl;exact j_y (hM.below (B5.trans (hB.mono B5.size))) (hzy.below hB) hr (by omega) (fun a ha=>DT.getD_lt (fun x hx=>by have:=HL2.out x hx;omega) hlt a) (by rw[p_w];have:(N+1)*(k+66)<=17*1066:=Nat.mul_le_mul (by omega) (by omega);omega) HBB.out) ?_;refine .donep [some 19,some 20,some 21] ?_;intro w6 B6;refine sh [] ?_;simp only[Act.put,lS,lZ,lC];have HS:Hid (Below w.heap.size w w6/\Bx w6 w.heap.size 24 [.int .i64 (r:Int),.int .i64 (c:Int),.slice A n d]/\∃A' c' L,L=DT.piv r F (j+1)/\Value.slice Av N cv= .slice A' L.length c'/\Iz w6 A' L.length c' L):=Lib.hid ⟨B0.trans ((B5.trans (B6.mono B5.size)).mono B0.size),b1'.below B6,Av,cv,L,by rw[DT.piv_no (by rw[<-HL.out,HN.out];exact fun h=>by have:=HBB.out.2 h;cases this)];exact HL.out,by rw[HN.out],by rw[HN.out];exact hzl.below B6⟩;clear b1' hzl hzy B0 B5 B6 hM
    go_wp2_with fail
    go_roundw
    case rel=>exact⟨j+1,by go_num,by omega,HS⟩
    case measure=>first|(simp[intOf];done)|(simp[intOf];omega)
   ·refine Run.start 3 ?_;refine .ld .o (ldM b1' 0) ?_;refine .mv .o ?_;refine .c2 (.i 0) (.i 1) (x:=.k (.bool true)) (by rintro u v w6 hB rfl rfl;exact j_y (hM.below (B5.trans (hB.mono B5.size))) (hzy.below hB) hr (by omega) (fun a ha=>DT.getD_lt (fun x hx=>by have:=HL2.out x hx;omega) hlt a) (by rw[p_w];have:(N+1)*(k+66)<=17*1066:=Nat.mul_le_mul (by omega) (by omega);omega) HBB.out) ?_;refine .donep [some 19,some 20,some 21] ?_;intro w6 B6;refine sh [] ?_;simp only[Act.put,lS,lZ,lC];have HS:Hid (Below w.heap.size w w6/\Bx w6 w.heap.size 24 [.int .i64 (r:Int),.int .i64 (c:Int),.slice A n d]/\∃A' c' L,L=DT.piv r F (j+1)/\Value.slice Ay (N+1) cy= .slice A' L.length c'/\Iz w6 A' L.length c' L):=Lib.hid ⟨B0.trans ((B5.trans (B6.mono B5.size)).mono B0.size),b1'.below B6,Ay,cy,L++[j],by rw[DT.piv_yes (by rw[<-HL.out,HN.out];exact HBB.out.1 rfl),<-HL.out],by rw[List.length_append,HN.out];rfl,by rw[List.length_append,HN.out];exact hzy.below B6⟩;clear b1' hzl hzy B0 B5 B6 hM
    go_wp2_with fail
    go_roundw
    case rel=>exact⟨j+1,by go_num,by omega,HS⟩
    case measure=>first|(simp[intOf];done)|(simp[intOf];omega)
  ·obtain rfl:j=c:=by omega
   have u2:¬(j:Int)<(j:Int):=by omega
   have P:Hid (RetK (kIz (DT.piv r F j)) w (.returned (.slice Av L.length cv)) wr):=Lib.hid ⟨_,rfl,⟨Av,cv,by rw[<-hL],by rw[<-hL];exact hz⟩,B0⟩;clear b1 hz B0 hL
   go_wp2_with fail
   exact bodyPost_ret (v:=.slice Av L.length cv) (by simp[results,Try.results18,go_sem]) rfl P.out
theorem r_j {A B:Option Addr}{n m e f:Nat}{ps qs:List Nat}{b:Bool}{w:World}(hx:Iz w A n e ps)(hy:Iz w B m f qs)(hb:decide (ps=qs)=b):Calls Try.prog 19 #[.slice A n e,.slice B m f] w (RetK (.k (.bool b)) w):=by
 have HX:=Lib.hid hx;have HY:=Lib.hid hy;have HB:=Lib.hid hb;have hnd:=hx.le;have hdm:=hx.cap;clear hx hy hb;by_cases hn:n=m
 ·subst hn;go_enter Try.func19,Try.ntmps19
  go_wp2_with fail
  go_loopw [5] (fun s5 wr=>∃j:Nat,s5= .int .i64 (j:Int)/\j<=n/\Hid (Below w.heap.size w wr/\∀a,a<j->ps.getD a 0=qs.getD a 0)) (fun s5 _=>n - (intOf s5).toNat)
  case atStart=>exact⟨0,rfl,Nat.zero_le _,Lib.hid ⟨Below.refl _ _,fun i hi=>by omega⟩⟩
  case round=>
   obtain⟨j,rfl,hj,HI⟩:=hrel;by_cases hlt:j<n
   ·have u2:(j:Int)<(n:Int):=by omega
    obtain⟨B0,hall⟩:=HI.out;have HA:=Lib.hid hall;clear hall HI;obtain⟨ad,rfl,hab,hA⟩:=(HX.out.below B0).lt (by omega);obtain⟨ad',rfl,hab',hA'⟩:=(HY.out.below B0).lt (by omega);have e1:=hA j hlt;have e2:=hA' j hlt;obtain⟨x,hx⟩:∃x,ps.getD j 0=x:=⟨_,rfl⟩;obtain⟨y,hy⟩:∃y,qs.getD j 0=y:=⟨_,rfl⟩;rw[hx]at e1;rw[hy]at e2;obtain⟨t,ht⟩:∃t,decide ((x:Int)≠(y:Int))=t:=⟨_,rfl⟩;have HT:=Lib.hid ht;have HXX:=Lib.hid hx;have HYY:=Lib.hid hy;clear ht hx hy hA hA';go_upto_region 6 with fail
    cases t
    ·refine Run.start 9 ?_;refine .mv .o ?_;refine .mv .o ?_;refine .two (.i 0) (.i 1) (opIxK hlt) ?_;refine .ld (.i 2) (ldI (by rw[a_a];exact hab) e1) ?_;refine .mv .o ?_;refine .mv .o ?_;refine .two (.i 4) (.i 5) (opIxK hlt) ?_;refine .ld (.i 6) (ldI (by rw[a_a];exact hab') e2) ?_;refine .two (.i 3) (.i 7) (opNe HT.out) ?_;refine .done [some 17,some 18,some 19,some 20,some 21,some 22,some 23,some 24,some 25] ?_;intro w2 B2;refine sh [] ?_;simp only[Act.put,lS,lZ,lC];have HS:Hid (Below w.heap.size w w2/\∀a,a<j+1->ps.getD a 0=qs.getD a 0):=Lib.hid ⟨zup B0 B2,fun a h=>by
      rcases Nat.lt_or_ge a j with h1|h1
      ·exact HA.out a h1
      ·have ea:a=j:=by omega
       rw[ea,HXX.out,HYY.out]
       have:=of_decide_eq_false HT.out;omega⟩
     clear e1 e2 hab hab' B0 B2
     go_wp2_with fail
     go_roundw
     case rel=>exact⟨j+1,by go_num,by omega,HS⟩
     case measure=>first|(simp[intOf];done)|(simp[intOf];omega)
    ·refine Run.start 9 ?_;refine .mv .o ?_;refine .mv .o ?_;refine .two (.i 0) (.i 1) (opIxK hlt) ?_;refine .ld (.i 2) (ldI (by rw[a_a];exact hab) e1) ?_;refine .mv .o ?_;refine .mv .o ?_;refine .two (.i 4) (.i 5) (opIxK hlt) ?_;refine .ld (.i 6) (ldI (by rw[a_a];exact hab') e2) ?_;refine .two (.i 3) (.i 7) (opNe HT.out) ?_;refine .done [some 17,some 18,some 19,some 20,some 21,some 22,some 23,some 24,some 25] ?_;intro w2 B2;refine sh [] ?_;simp only[Act.put,lS,lZ,lC];have e:b=false:=by
      rw[<-HB.out];refine decide_eq_false fun h=>?_;have h2:=of_decide_eq_true HT.out;rw[<-HXX.out,<-HYY.out,h]at h2;exact h2 rfl
     subst e
     go_wp2_with fail
     exact bodyPost_ret (v:=.bool false) (by simp[results,Try.results19,go_sem]) rfl (a_s rfl (zup B0 B2))
   ·obtain rfl:j=n:=by omega
    have u2:¬(j:Int)<(j:Int):=by omega
    obtain⟨B0,hall⟩:=HI.out;have e:b=true:=by
     rw[<-HB.out];refine decide_eq_true (List.ext_getElem (by rw[HX.out.len,HY.out.len]) fun i h1 h2=>?_)
     have:=hall i (by rw[HX.out.len]at h1;exact h1);simp[List.getD,h1,h2]at this;exact this
    subst e;clear HI hall
    go_wp2_with fail
    exact bodyPost_ret (v:=.bool true) (by simp[results,Try.results19,go_sem]) rfl (a_s rfl B0)
 ·have u1:¬(n:Int)=(m:Int):=by omega
  have e:b=false:=by
   rw[<-HB.out];exact decide_eq_false fun h=>hn (by rw[<-HX.out.len,<-HY.out.len,h])
  subst e;go_enter Try.func19,Try.ntmps19
  go_wp2_with fail
  exact bodyPost_ret (v:=.bool false) (by simp[results,Try.results19,go_sem]) rfl (a_s rfl (Below.refl _ _))
end
section
open Go.RowKit
def IsEch (r c k:Nat)(F:Nat->Nat->Int):FVal:=fun v w=>∃s G M h,DT.Red r c c F s G (DT.piv r F c) M h/\IsM true r c k M v w
def kEch (r c k:Nat)(F:Nat->Nat->Int):FK:=.f (IsEch r c k F) (fun v w w' ⟨s,G,M,h,h1,h2⟩ hb=>⟨s,G,M,h,h1,(kM true r c k M).stays _ _ _ h2 hb⟩)
theorem IsEch.mt {r c k:Nat}{F:Nat->Nat->Int}{v:Value}{w:World}(h:IsEch r c k F v w):∃A n d M,v= .agg #[.int .i64 (r:Int),.int .i64 (c:Int),.slice A n d]/\Mt true w r c A n d k M:=by
 obtain⟨s,G,M,h,h1,A,n,d,e,h2⟩:=h;exact⟨A,n,d,M,e,h2⟩
theorem OwnI.gro' {w w':World}{b g n:Nat}{e:TypeId}{v:Value}{xs:List Value}(h:OwnI w b e v n xs)(hg:w.grownBy w' (some g))(hne:v.ownBlock≠some g):OwnI w' b e v n xs:=h.kept hg hne
theorem p_v {b g H r c k kk n' c' n6 d6 cp:Nat}{F M:Nat->Nat->Int}{G:DT.Mx}{h:Int}{s sa:Bool}{Ap A' A6:Option Addr}{rows:List Value}{w w5 w6:World}(hm:RAt bareX b w5 g H r c kk (fun _=>kk) M (DT.piv r F c) h s (.slice Ap (DT.piv r F c).length cp) sa A' n' c' rows)(hr:DT.Red r c c F s G (DT.piv r F c) M h)
  (b2:Bx w5 (w.heap.size+1) 24 [.int .i64 0,.int .i64 0,.slice none 0 0]) (B0:Below w.heap.size w w5) (B6:Below w5.heap.size w5 w6) (hM:Mt true w6 r c A6 n6 d6 kk M) (hgb:b<=g) (hkk:kk<=kb k r) (hb:w.heap.size+1<b):
  Hid (RetK (kT3 (kEch r c (kb k r) F) (kIz (DT.piv r F c)) (.k (.int .i64 0))) w (.returned (.tuple #[.agg #[.int .i64 (r:Int),.int .i64 (c:Int),.slice A6 n6 d6],.slice Ap (DT.piv r F c).length cp,.int .i64 0])) (((w6.setCell ⟨w.heap.size+1,0,none⟩ (.int .i64 (r:Int))).setCell ⟨w.heap.size+1,1,none⟩ (.int .i64 (c:Int))).setCell ⟨w.heap.size+1,2,none⟩ (.slice A6 n6 d6)))/\
  (w6.cell? ⟨w.heap.size+1,0,none⟩=some (.int .i64 0)/\w6.cell? ⟨w.heap.size+1,1,none⟩=some (.int .i64 0)/\w6.cell? ⟨w.heap.size+1,2,none⟩=some (.slice none 0 0)/\w6.frozen? ⟨w.heap.size+1,0,none⟩=false/\w6.frozen? ⟨w.heap.size+1,1,none⟩=false/\w6.frozen? ⟨w.heap.size+1,2,none⟩=false)/\
  w6.cell? ⟨g,1,none⟩=some (.slice Ap (DT.piv r F c).length cp)/\
  (((w6.setCell ⟨w.heap.size+1,0,none⟩ (.int .i64 (r:Int))).setCell ⟨w.heap.size+1,1,none⟩ (.int .i64 (c:Int))).setCell ⟨w.heap.size+1,2,none⟩ (.slice A6 n6 d6)).cell? ⟨g,1,none⟩=some (.slice Ap (DT.piv r F c).length cp):=by
 have b6:=b2.below B6;have m6:=hm.below B6;obtain⟨k0,k1,k2,k3,k4,k5,-⟩:=b6.m3;have hgr:=c_s w6 (w.heap.size+1) (r:Int) (c:Int) A6 n6 d6;have hne:(Value.slice Ap (DT.piv r F c).length cp).ownBlock≠some (w.heap.size+1):=fun e=>by have:=(m6.own.lt e).1;omega
 have ho:=m6.own.gro' hgr hne;obtain⟨Ax,cx,ex,hz⟩:=k_c (ps:=DT.piv r F c) ho.1;cases ex;refine⟨Lib.hid ⟨_,rfl,⟨_,_,_,rfl,⟨s,G,M,h,hr,A6,n6,d6,rfl,(hM.put b6).mono hkk⟩,⟨_,_,rfl,hz⟩,rfl⟩,a_q (zup B0 B6) (by omega)⟩,⟨k0,k1,k2,k3,k4,k5⟩,m6.bx.cell 1, ?_⟩;exact(c_x m6.bx hgr (by omega)).cell 1
theorem p_u {q:Bool}{r c n d k:Nat}{A:Option Addr}{F:Nat->Nat->Int}{w:World}(ha:Mt q w r c A n d k F)(hk1:1<=k)(hK:kb k r<=549755813888):Calls Try.prog 15 #[.agg #[.int .i64 (r:Int),.int .i64 (c:Int),.slice A n d]] w (RetK (kT3 (kEch r c (kb k r) F) (kIz (DT.piv r F c)) (.k (.int .i64 0))) w):=by
 have h1:=ha.fmd;have h3:=ha.hr;have h4:=ha.hc;obtain⟨w1,hw1,b1,b2,z1,s1⟩:=boxes2 w 24 24 [.int .i64 (r:Int),.int .i64 (c:Int),.slice A n d] [.int .i64 0,.int .i64 0,.slice none 0 0];have HW:=Lib.hid hw1;have HZ:=Lib.hid z1;have h1_:=Lib.hid h1;clear hw1 z1 h1;go_enter Try.func15,Try.ntmps15
 go_upto_region 1 with fail
 rw[HW.out];refine Run.start 3 ?_;refine .ld .o (ldM b1 0) ?_;refine .c1 (.i 0) (x:=.k (.bool true)) (by rintro u w2 hB rfl;exact b_c h1_.out w2) ?_;refine .nt (.i 1) ?_;refine .donep [some 6,some 7,some 8] ?_;intro w2 B2;refine sh [] ?_;simp only[Act.put,lS,lZ,lC];have B0:=zup HZ.out B2;replace b1:=b1.below B2;replace b2:=b2.below B2;have hM:=ha.below B0;have hl_b1:=b1.lt;have hl_b2:=b2.lt;clear B2 HZ ha;go_upto_region 3 with fail
 refine Run.start 3 ?_;refine .ld .o (ldM b1 0) ?_;refine .c1 (.i 0) (x:=kRof w2.heap.size r c k F) (by rintro u w4 hB rfl;exact rof_q' (hM.below hB) hk1 (by have:=k_m k r;omega) hB.size) ?_;refine .mf (.i 1) ?_;refine .donep [some 10,some 11,some 5] ?_;intro w4 B4;rintro v3_ -;rintro v ⟨g,b,rfl,hbb,hbs,hr⟩;refine sh [] ?_;simp only[Act.put,lS,lZ,lC];replace B0:=zup B0 B4;replace b1:=b1.below B4;replace b2:=b2.below B4;clear B4 hM;go_upto_region 4 with fail
 refine Run.start 5 ?_;refine .mv .o ?_;refine .nc (.i 0) ?_;refine .fa (.i 1) (fB0 0) ?_;refine .fa .o (fM1 1) ?_;refine .ld (.i 3) (ldInt b1 1) ?_;refine .done [some 12,some 13,some 14,some 15,some 16] ?_;intro w9 B9;refine sh [_] ?_;simp only[Act.put,lS,lZ,lC];replace B0:=zup B0 B9;replace b1:=b1.below B9;replace b2:=b2.below B9;have HR:=Lib.hid (hr.below B9);replace hbs:=Nat.le_trans hbs B9.size;clear B9 hr
 go_wp2_with fail
 refine(f_l HR.out (Nat.le_refl _) hbs (by omega) (by omega) hK).mono ?_;rintro e w5 ⟨rfl,B5,hrs⟩;have hb5:w.heap.size<=b:=by omega
 replace B0:=B0.trans (B5.mono hb5);replace b1:=b1.upto (by omega) B5;replace b2:=b2.upto (by omega) B5;clear HR B5;obtain⟨s,G,ps,M,h,hr,H,vp,sa,A',n',c',rows,hm⟩:=hrs;obtain⟨Ap,cp,rfl⟩:=hm.vpf;have hps:=hr.pv;subst hps;have bx:=hm.bx;have c0:w5.cell? ⟨g,0,none⟩=some (.slice (some ⟨H,0,none⟩) r r):=bx.cell 0;have c1:w5.cell? ⟨g,1,none⟩=some (.slice Ap (DT.piv r F c).length cp):=bx.cell 1;have i1:w5.cell? ⟨w.heap.size,1,none⟩=some (.int .i64 (c:Int)):=b1.cell 1;have hgb:=hm.bg;have hkk:=e_w (K:=k) hr.nR;have HMM:=Lib.hid hm;have HRA:Hid (RowsAt w5 (some ⟨H,0,none⟩) r c (kb k (DT.piv r F c).length) M):=Lib.hid fun h0=>⟨H,rfl,hm.hd.lt,fun i hi=>by
  obtain⟨v,e1,A1,c1,rfl,hz1,-⟩:=hm.row i hi;exact⟨A1,c1,(hm.hd.cell i).trans e1,hz1⟩⟩
 have HRR:=Lib.hid hr;have HB2:=Lib.hid b2;have HB0:=Lib.hid B0;clear hm hr bx b1 b2 B0;go_upto_region 5 with fail
 go_region_with ((go_at_call 39;(with_reducible refine(o_z (HRA.out.below (a_j _)) (Nat.le_refl _) (by omega) h3 h4).mono ?_);rintro e w6 ⟨u6,rfl,⟨A6,n6,d6,rfl,hM6⟩,B6⟩;have Q6:=zup (a_j _) B6;obtain⟨P,⟨j0,j1,j2,j3,j4,j5⟩,k1,l1⟩:=p_v HMM.out HRR.out HB2.out HB0.out Q6 hM6 hgb hkk (by omega)))
 all_goals
  go_wp2_with fail
  exact bodyPost_ret (v:=.tuple #[.agg #[.int .i64 (r:Int),.int .i64 (c:Int),.slice A6 n6 d6],.slice Ap (DT.piv r F c).length cp,.int .i64 0]) (by simp[results,Try.results15,go_sem,j0,j1,j2]) rfl P.out
theorem r_q {r c:Int}{n d:Nat}{A:Option Addr}{w:World}(h:fmd r c n=false):Calls Try.prog 15 #[.agg #[.int .i64 r,.int .i64 c,.slice A n d]] w (RetK (.k (.tuple #[.agg #[.int .i64 0,.int .i64 0,.slice none 0 0],.slice none 0 0,.int .i64 2])) w):=by
 obtain⟨w1,hw1,b1,b2,z1,s1⟩:=boxes2 w 24 24 [.int .i64 r,.int .i64 c,.slice A n d] [.int .i64 0,.int .i64 0,.slice none 0 0];have HW:=Lib.hid hw1;have HZ:=Lib.hid z1;have h_:=Lib.hid h;clear hw1 z1 h s1;go_enter Try.func15,Try.ntmps15
 go_upto_region 1 with fail
 rw[HW.out];refine Run.start 3 ?_;refine .ld .o (ldM b1 0) ?_;refine .c1 (.i 0) (x:=.k (.bool false)) (by rintro u w2 hB rfl;exact b_c h_.out w2) ?_;refine .nf (.i 1) ?_;refine .donep [some 6,some 7,some 8] ?_;intro w2 B2;refine sh [] ?_;simp only[Act.put,lS,lZ,lC];have P:Hid (RetK (.k (.tuple #[.agg #[.int .i64 0,.int .i64 0,.slice none 0 0],.slice none 0 0,.int .i64 2])) w (.returned (.tuple #[.agg #[.int .i64 0,.int .i64 0,.slice none 0 0],.slice none 0 0,.int .i64 2])) (mput w2 (w.heap.size+1) 0 0 none 0 0)):=Lib.hid ⟨_,rfl,rfl,a_q (zup HZ.out B2) (by omega)⟩;unfold mput at P;obtain⟨i0,i1,i2,i3,i4,i5,i6⟩:=(b2.below B2).m3
 go_wp2_with fail
 exact bodyPost_ret (v:=.tuple #[.agg #[.int .i64 0,.int .i64 0,.slice none 0 0],.slice none 0 0,.int .i64 2]) (by simp[results,Try.results15,go_sem,i0,i1,i2]) rfl P.out
end
end Go.Proofs.Ytlgjjnmmepgafaa
