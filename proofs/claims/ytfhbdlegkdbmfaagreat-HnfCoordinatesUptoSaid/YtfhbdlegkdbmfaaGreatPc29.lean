/- Pc29 -/
import Derived.Test.YtfhbdlegkdbmfaaGreatPc17
import Derived.Deep.RegionWith
set_option linter.unusedVariables false
set_option linter.unusedSimpArgs false
set_option linter.unusedSectionVars false
set_option maxRecDepth 100000
set_option maxHeartbeats 8000000
namespace Go.Proofs.YtfhbdlegkdbmfaaGreat
open Go.RowKit
theorem g_g {P:Program}{w:World}(t ty e:TypeId)(i:TypeInfo)(ht:P.underlying t=some (.slice e))(hi:P.info? e=some i)(g m cap c:Nat)(hm:m<=cap):(Builtin.append_ #[t,t] ty #[.slice (some ⟨g,0,none⟩) m cap,.slice none 0 c]).run P w= .ok (.slice (some ⟨g,0,none⟩) m cap) w:=by
 simp[Builtin.append_,run_underlying ht,sizeOf,typeInfo,hi,Builtin.lenOf,Builtin.firstCells,hm,storeCells]
theorem ZAt.spot {q:Bool}{w:World}{p:Addr}{k:Nat}{z:Int}(h:ZAt q w p k z):p.spot=none:=by
 obtain⟨s,A,n,c,h1,-⟩:=h;unfold World.cell? at h1;cases hb:w.heap[p.block]? with
 |none=>rw[hb]at h1;simp at h1
 |some o=>
  rw[hb]at h1;cases hs:p.spot with
  |none=>rfl
  |some x=>
   rw[hs]at h1;cases o<;>simp at h1
def splice (zs ys:List Int)(m:Nat):List Int:=zs.take m++ys++zs.drop (m+ys.length)
theorem d_a {zs ys:List Int}{m:Nat}(h:m+ys.length<=zs.length):(splice zs ys m).length=zs.length:=by unfold splice;simp;omega
theorem g_d {zs ys:List Int}{m j:Nat}(h:m+ys.length<=zs.length):ith (splice zs ys m) j=if j<m then ith zs j else if j<m+ys.length then ith ys (j - m)else ith zs j:=by
 unfold splice ith;simp only[List.getD];have h1:(zs.take m).length=m:=by rw[List.length_take];omega
 by_cases a:j<m
 ·rw[if_pos a,List.append_assoc,List.getElem?_append_left (by omega),List.getElem?_take_of_lt a]
 ·rw[if_neg a];by_cases b:j<m+ys.length
  ·rw[if_pos b,List.append_assoc,List.getElem?_append_right (by omega),h1,List.getElem?_append_left (by omega)]
  ·rw[if_neg b,List.getElem?_append_right (by rw[List.length_append];omega),List.length_append,h1,List.getElem?_drop];congr 2;omega
theorem f_5 {P:Program}{w:World}{ops:Array Oper}{rest:List Oper}{o:Oper}{a:Act}{Q:Exit->Act->World->Prop}(hgd:o.guard=none)(s x:Operand)(t:TypeId)
  (ho:o.op= .call { callee:=.builtin .append,args:=#[s,x],argTypes:=#[t,t] })
  (ht:P.underlying t=some (.slice 31)) (hinfo:(P.info? 31).map (fun i=>(i.zero,i.size,i.bytes))=some (some (.agg #[.bool false,.slice none 0 0]),2,32))
  {g k m cap n c:Nat} {A:Option Addr} {zs ys:List Int} (hs:a.eval s= .slice (some ⟨g,0,none⟩) m cap) (hx:a.eval x= .slice A n c)
  (hz:ZL true w A n c k ys) (hb:ZB w g k zs) (hm:m+n<=zs.length) (hcap:cap=zs.length)
  (K:∀w',ZB w' g k (splice zs ys m)->w.grownBy w' (some g)->wpList P ops Q rest (a.put o.dst (.slice (some ⟨g,0,none⟩) (m+n) cap)) w'):
  wpList P ops Q (o::rest) a w:=by
 obtain⟨i,hi,hz0,hz1,hz2⟩:=info_parts hinfo;have hno:=hb.now;have hyl:=hz.len;rcases Nat.eq_zero_or_pos n with h0|h0
 ·subst h0;obtain rfl:ys=[]:=List.length_eq_zero_iff.1 hyl;have hsp:splice zs [] m=zs:=by unfold splice;simp
  rw[hsp]at K;cases A with
  |none=>
   have hrun:=g_g (P:=P) (w:=w) t o.type _ i ht hi g m cap c (by omega);refine wpList_plain hgd fun K' hK'=>?_;unfold Oper.wp execOp;simp only[ho,resolve,invoke,builtin,Sem.run_bind,Sem.run_pure,Result.andThen_ok,List.map_toArray,List.map_cons,List.map_nil,hs,hx,hrun];exact hK' _ _ (K _ hb (a_6 _ _))
  |some ad=>
   obtain⟨cs,h1,h2,h3⟩:=id hb;have hrun:=run_append_room (P:=P) w t o.type 31 i ht hi g m cap cs h1 ad 0 c [] (by simp) (fun j u hu=>by simp at hu) (fun u hu=>by simp at hu) (by omega) (by rw[hz1,h2];simp;omega);obtain⟨w',hw'⟩:∃w',w'=w.setRow g (cs.toList.take (m*i.size)++[]++cs.toList.drop (m*i.size+([]:List Value).length)).toArray:=⟨_,rfl⟩;have hg:w'.heap[g]? =w.heap[g]? :=by
    rw[hw',setRow_heap w g cs _ _ _ h1,h1];simp
   have hgr:w.grownBy w' (some g):=by
    subst hw';exact⟨rfl,rfl,rfl,by simp[World.setRow],fun j _ hj=>setRow_other w g j _ (fun e=>hj (by rw[e]))⟩
   rw[<-hw']at hrun;refine wpList_plain hgd fun K' hK'=>?_;unfold Oper.wp execOp;simp only[ho,resolve,invoke,builtin,Sem.run_bind,Sem.run_pure,Result.andThen_ok,List.map_toArray,List.map_cons,List.map_nil,hs,hx,hrun];refine hK' _ _ (K _ ?_ hgr);exact hb.below ⟨hgr.os,hgr.tape,hgr.output,hgr.size,fun j hj=>by
    by_cases e:j=g
    ·rw[e];exact hg
    ·exact hgr.block j hj (fun h=>e (Option.some.inj h))⟩
 ·obtain⟨ad,rfl,hab,hat⟩:=hz.at' h0;have hsp:ad.spot=none:=by
   have:=(hat 0 h0).spot;rw[Nat.zero_mul,a_y]at this;exact this
  obtain⟨x0,o0,sp⟩:=ad;simp only at hsp;subst hsp;have hz':∀j,j<n->∃s A n c,w.cell? ⟨x0,o0+j*2,none⟩=some (.bool s)/\w.cell? ⟨x0,o0+(j*2+1),none⟩=some (.slice A n c)/\Zc w s A n c (ith ys j)/\n<=k:=fun j hj=>by
   obtain⟨s,A,n',c',e1,e2,ze,hk⟩:=hat j hj;rw[b_l]at e1 e2;exact⟨s,A,n',c',e1,e2,ze.2 rfl,hk⟩
  have hcell:∀t,t<n*2->∃u,w.cell? ⟨x0,o0+t,none⟩=some u/\u.oneCell'=true:=fun t ht=>by
   obtain⟨s,A,n',c',e1,e2,-⟩:=hz' (t / 2) (by omega);rcases(by omega:t=t / 2*2\/t=t / 2*2+1)with h|h
   ·exact⟨_,by rw[h];exact e1,rfl⟩
   ·exact⟨_,by rw[h];exact e2,rfl⟩
  obtain⟨news,hnl,hng⟩:∃news:List Value,news.length=n*2/\∀t,t<n*2->w.cell? ⟨x0,o0+t,none⟩=news[t]? /\∀u,news[t]? =some u->u.oneCell'=true:=by
   refine⟨(List.range (n*2)).map fun t=>(w.cell? ⟨x0,o0+t,none⟩).getD undef,by simp,fun t ht=>?_⟩;obtain⟨u,hu,h1⟩:=hcell t ht;have e:((List.range (n*2)).map fun t=>(w.cell? ⟨x0,o0+t,none⟩).getD undef)[t]? =some u:=by simp[ht,hu]
   exact⟨by rw[e,hu],fun v hv=>by rw[e]at hv;cases hv;exact h1⟩
  obtain⟨cs,h1,h2,h3⟩:=id hb;have hrun:=run_append_room (P:=P) w t o.type 31 i ht hi g m cap cs h1 ⟨x0,o0,none⟩ n c news (by rw[hz1];exact hnl) (fun j u hu=>by
    have hj:j<n*2:=by
     rcases Nat.lt_or_ge j (n*2)with h|h
     ·exact h
     ·rw[List.getElem?_eq_none (by omega)]at hu;cases hu
    rw[b_l,(hng j hj).1,hu]) (fun u hu=>by
    obtain⟨j,hj,rfl⟩:=List.getElem_of_mem hu;exact(hng j (by omega)).2 _ (List.getElem?_eq_getElem hj)) (by omega) (by rw[hz1,h2,hnl];omega)
  rw[hz1,hnl]at hrun;obtain⟨C,hC⟩:∃C,(cs.toList.take (m*2)++news++cs.toList.drop (m*2+n*2)).toArray=C:=⟨_,rfl⟩;have hCg:∀j:Nat,C[j]? =if j<m*2 then cs[j]? else if j<m*2+n*2 then news[j - m*2]? else cs[j]? :=fun j=>by
   rw[<-hC,<-Array.getElem?_toList];simp only;have hl:cs.toList.length=zs.length*2:=by rw[Array.length_toList,h2]
   have h1:(cs.toList.take (m*2)).length=m*2:=by rw[List.length_take];omega
   by_cases a:j<m*2
   ·rw[if_pos a,List.append_assoc,List.getElem?_append_left (by omega),List.getElem?_take_of_lt a,Array.getElem?_toList]
   ·rw[if_neg a];by_cases b:j<m*2+n*2
    ·rw[if_pos b,List.append_assoc,List.getElem?_append_right (by omega),h1,List.getElem?_append_left (by omega)]
    ·rw[if_neg b,List.getElem?_append_right (by rw[List.length_append];omega),List.length_append,h1,List.getElem?_drop,hnl,<-Array.getElem?_toList];congr 1;omega
  have hCs:C.size=zs.length*2:=by
   rw[<-hC];simp[hnl,h2];omega
  rw[hC]at hrun;obtain⟨w',hw'⟩:∃w',w'=w.setRow g C:=⟨_,rfl⟩;have hgr:w.grownBy w' (some g):=by
   subst hw';exact⟨rfl,rfl,rfl,by simp[World.setRow],fun j _ hj=>setRow_other w g j _ (fun e=>hj (by rw[e]))⟩
  rw[<-hw']at hrun;refine wpList_plain hgd fun K' hK'=>?_;unfold Oper.wp execOp;simp only[ho,resolve,invoke,builtin,Sem.run_bind,Sem.run_pure,Result.andThen_ok,List.map_toArray,List.map_cons,List.map_nil,hs,hx,hrun];refine hK' _ _ (K _ ⟨C, ?_,by rw[d_a (by omega)];exact hCs,fun j hj=>?_⟩ hgr)
  ·rw[hw',setRow_heap w g cs _ _ _ h1]
  ·rw[d_a (by omega)]at hj;rw[g_d (by omega),hyl];by_cases a:j<m
   ·obtain⟨s',A',n',c',c1,c2,c3,c4⟩:=h3 j hj;exact⟨s',A',n',c',by rw[hCg,if_pos (by omega)];exact c1,by rw[hCg,if_pos (by omega)];exact c2,by rw[if_pos a];exact c3.gro hno hgr,c4⟩
   ·rw[if_neg a];by_cases b:j<m+n
    ·obtain⟨s',A',n',c',c1,c2,c3,c4⟩:=hz' (j - m) (by omega);refine⟨s',A',n',c', ?_, ?_,by rw[if_pos b];exact c3.gro hno hgr,c4⟩
     ·rw[hCg,if_neg (by omega),if_pos (by omega),<-(hng _ (by omega)).1,<-c1];congr 2;omega
     ·rw[hCg,if_neg (by omega),if_pos (by omega),<-(hng _ (by omega)).1,<-c2];congr 2;omega
    ·obtain⟨s',A',n',c',c1,c2,c3,c4⟩:=h3 j hj;exact⟨s',A',n',c',by rw[hCg,if_neg (by omega),if_neg (by omega)];exact c1,by rw[hCg,if_neg (by omega),if_neg (by omega)];exact c2,by rw[if_neg b];exact c3.gro hno hgr,c4⟩
theorem i_3 {L:List Int}{m n:Nat}{ys:List Int}(hy:ys=(L.drop m).take n)(h:m+n<=L.length):splice (fil L m) ys m=fil L (m+n):=by
 have hl:ys.length=n:=by rw[hy];simp;omega
 have hf:(fil L m).length=L.length:=c_g (by omega);apply List.ext_getElem
 ·rw[d_a (by omega),hf,c_g h]
 ·intro j h1 h2;have e1:ith (splice (fil L m) ys m) j=(splice (fil L m) ys m)[j]:=by simp[ith,List.getD,h1]
  have e2:ith (fil L (m+n)) j=(fil L (m+n))[j]:=by simp[ith,List.getD,h2]
  rw[<-e1,<-e2,g_d (by omega),hl];rw[c_g h]at h2;have g:∀m',m'<=L.length->ith (fil L m') j=if j<m' then ith L j else 0:=fun m' hm'=>by
   unfold fil ith;simp only[List.getD];by_cases a:j<m'
   ·rw[if_pos a,List.getElem?_append_left (by rw[List.length_take];omega),List.getElem?_take_of_lt a]
   ·rw[if_neg a,List.getElem?_append_right (by rw[List.length_take];omega),List.getElem?_replicate];split<;>rfl
  rw[g _ (by omega),g _ h];by_cases a:j<m
  ·rw[if_pos a,if_pos a,if_pos (by omega)]
  ·rw[if_neg a,if_neg a];by_cases b:j<m+n
   ·rw[if_pos b,if_pos b,hy,f_u (by omega),f_v];congr 1;omega
   ·rw[if_neg b,if_neg b]
def RowsAt (w:World)(A:Option Addr)(R W K:Nat)(M:Nat->Nat->Int):Prop:=0<R->∃H,A=some ⟨H,0,none⟩/\H<w.heap.size/\∀i,i<R->∃A' c',w.cell? ⟨H,i,none⟩=some (.slice A' W c')/\ZL true w A' W c' K (rw' W (M i))
theorem RowsAt.below {w w':World}{A:Option Addr}{R W K:Nat}{M:Nat->Nat->Int}(h:RowsAt w A R W K M)(hb:Below w.heap.size w w'):RowsAt w' A R W K M:=fun h0=>by
 obtain⟨H,e,hl,hr⟩:=h h0;refine⟨H,e,Nat.lt_of_lt_of_le hl hb.size,fun i hi=>?_⟩;obtain⟨A',c',h1,h2⟩:=hr i hi;exact⟨A',c',(hb.cell (p:=⟨H,i,none⟩) hl).trans h1,h2.below hb⟩
theorem ZL.part {q:Bool}{w:World}{A:Option Addr}{n c k lo hi:Nat}{zs:List Int}(h:ZL q w A n c k zs)(h1:lo<=hi)(h2:hi<=n):ZL q w (if c=lo then A else A.map (·.add (lo*2))) (hi - lo) (c - lo) k ((zs.drop lo).take (hi - lo)):=by
 have hle:=h.le;have hcp:=h.cap;rcases Nat.eq_zero_or_pos (hi - lo)with h0|h0
 ·rw[h0];exact⟨by simp,by omega,by omega,fun h=>by omega⟩
 ·obtain⟨ad,rfl,-⟩:=h.at' (by omega);rw[if_neg (by omega),Option.map_some];exact(h.drop (m:=lo) (d:=c - lo) (by omega) (by omega) (by omega)).take (by omega) (by omega) (by omega)
theorem o_2 {W lo hi:Nat}{f:Nat->Int}(h1:lo<=hi)(h2:hi<=W):((rw' W f).drop lo).take (hi - lo)=rw' (hi - lo) fun j=>f (lo+j):=by
 apply List.ext_getElem
 ·rw[List.length_take,List.length_drop,c_q,c_q];omega
 ·intro j h3 h4;rw[c_q]at h4;simp[rw']
theorem k_l {R W lo hi K cA:Nat}{A:Option Addr}{M:Nat->Nat->Int}{w:World}(hrow:RowsAt w A R W K M)(hlo:lo<=hi)(hhi:hi<=W)(hW:W<=1048576)(hR:R<=64)(hC:hi - lo<=64):Calls Tryz.prog 85 #[.slice A R cA,.int .i64 (lo:Int),.int .i64 (hi:Int)] w (RetK (kM true R (hi - lo) K fun i j=>M i (lo+j)) w):=by
 obtain⟨w1,hw1,b4,z1,s1⟩:=boxes1 w 27 [.int .i64 0,.int .i64 0,.slice none 0 0];have HW:=Lib.hid hw1;have HR:=Lib.hid hrow;obtain⟨C,hCe⟩:∃C,hi - lo=C:=⟨_,rfl⟩;obtain⟨M',hM'⟩:∃M',(fun i j=>M i (lo+j))=M':=⟨_,rfl⟩;have HM':=Lib.hid hM';have HC:=Lib.hid hCe;rw[hCe]at hC;rw[hCe,hM'];have e13:(hi:Int) - (lo:Int)=(C:Int):=by omega
 clear hM' hCe;obtain⟨N,hN⟩:∃N,R*C=N:=⟨_,rfl⟩;have hN2:N<=4096:=by rw[<-hN];exact Nat.mul_le_mul hR hC
 have e14:(R:Int)*(C:Int)=(N:Int):=by rw[<-hN];simp
 have HN:=Lib.hid hN;clear hw1 hrow hN;go_enter Tryz.func85,Tryz.ntmps85
 go_upto_region 1 with fail
 rw[HW.out]
 go_wp2_with (at_make;refine c_0 _ rfl _ _ 25 rfl Tryz.underlying25 info_zint N rfl rfl (by omega) ?_)
 intro w2 hb B2 s2;have s3:w2.heap.size=w.heap.size+1+1:=by omega
 rw[<-s1]at B2;have hb:ZB w2 (w.heap.size+1) 0 (List.replicate N 0):=by first|exact hb|(rw[s1]at hb;exact hb)
 obtain⟨w3,hw3,b5,z3,s4⟩:=boxes1 w2 27 [.int .i64 (R:Int),.int .i64 (C:Int),.slice (some ⟨w.heap.size+1,0,none⟩) 0 N];rw[s3]at b5;have HW3:=Lib.hid hw3;have HB:Hid (Below w.heap.size w w3/\Bx w3 w.heap.size 27 [.int .i64 0,.int .i64 0,.slice none 0 0]/\Bx w3 (w.heap.size+1+1) 27 [.int .i64 (R:Int),.int .i64 (C:Int),.slice (some ⟨w.heap.size+1,0,none⟩) (0*C) N]/\ZB w3 (w.heap.size+1) K (fil (mk R C M') (0*C))):=Lib.hid ⟨zup (zup z1 B2) z3,(b4.below B2).below z3,by rw[Nat.zero_mul];exact b5,by rw[Nat.zero_mul,i_q,a_1,HN.out];exact(hb.below z3).mono (Nat.zero_le _)⟩;clear hw3 b5 b4 z1 z3 hb B2 s1 s2 s4;go_upto_region 2 with fail
 rw[HW3.out];clear s3 HW3
 go_wp2_with fail
 go_loopw [25] (fun s25 wr=>∃i:Nat,s25= .int .i64 (i:Int)/\i<=R/\Hid (Below w.heap.size w wr/\Bx wr w.heap.size 27 [.int .i64 0,.int .i64 0,.slice none 0 0]/\Bx wr (w.heap.size+1+1) 27 [.int .i64 (R:Int),.int .i64 (C:Int),.slice (some ⟨w.heap.size+1,0,none⟩) (i*C) N]/\ZB wr (w.heap.size+1) K (fil (mk R C M') (i*C)))) (fun s25 _=>R - (intOf s25).toNat)
 case atStart=>exact⟨0,rfl,Nat.zero_le _,HB⟩
 case round=>
  clear HB;obtain⟨i,rfl,hi,HB⟩:=hrel;by_cases hlt:i<R
  ·have u1:(i:Int)<(R:Int):=by omega
   obtain⟨B0,b4,b5,hb⟩:=HB.out;obtain⟨H,rfl,hHl,hrr⟩:=HR.out (by omega);obtain⟨Av,cv,hv,hz0⟩:=hrr i hlt;have x1:=(B0.cell (p:=⟨H,i,none⟩) hHl).trans hv;have hz:=((hz0.below B0).part hlo hhi);rw[o_2 hlo hhi,HC.out]at hz;have hle0:=hz0.le;have hm:i*C+C<=N:=by rw[<-HN.out,<-Nat.succ_mul];exact Nat.mul_le_mul_right C hlt
   have hL:(fil (mk R C M') (i*C)).length=N:=by rw[c_g (by rw[a_1,HN.out];omega),a_1,HN.out]
   obtain⟨Ar,hAr⟩:∃Ar,(if cv=lo then Av else Av.map (·.add (lo*2)))=Ar:=⟨_,rfl⟩;rw[hAr]at hz;have hle1:=hz0.le;have HAr:=Lib.hid hAr;clear HB hv hz0 hrr hAr;go_upto_region 5 with fail
   refine Run.start 6 ?_;refine .fa .o (fM2 2) ?_;refine .ld (.i 0) (ldSl b5 2) ?_;refine .mv .o ?_;refine .mv .o ?_;refine .mv .o ?_;refine .sl2 (.i 2) (.i 3) (.i 4) (A:=Av) (n:=W) (cap:=cv) hlo (by omega) ?_;refine .done [some 29,some 30,some 31,some 32,some 33,some 34] ?_;intro w4 B4;refine sh [_,_,_] ?_;simp only[Act.put,lS,lZ,lC];rw[HAr.out,HC.out];have HZ6:=Lib.hid (hz.below B4);replace b4:=b4.below B4;replace b5:=b5.below B4;replace hb:=hb.below B4;replace B0:=zup B0 B4;have i2:=b5.cell 2;simp only[List.getElem?_cons_succ,List.getElem?_cons_zero]at i2;clear B4 x1 hz
   go_wp2_with (at_builtin;refine f_5 rfl _ _ 25 rfl Tryz.underlying25 info_zint rfl rfl HZ6.out hb (by omega) hL.symm ?_)
   intro w5 hb5 hg5;have hzl:=HZ6.out.len;rw[i_3 (n:=C) (by rw[r_j hlt,<-HM'.out]) (by rw[a_1,HN.out];exact hm)]at hb5;have b5':=a_t b5 hg5 (by omega);have b4':=a_t b4 hg5 (by omega);have j2:=b5'.cell 2;have j2':=b5'.free 2;simp only[List.getElem?_cons_succ,List.getElem?_cons_zero]at j2;have HS:Hid (Below w.heap.size w (w5.setCell ⟨w.heap.size+1+1,2,none⟩ (.slice (some ⟨w.heap.size+1,0,none⟩) (i*C+C) N))/\Bx (w5.setCell ⟨w.heap.size+1+1,2,none⟩ (.slice (some ⟨w.heap.size+1,0,none⟩) (i*C+C) N)) w.heap.size 27 [.int .i64 0,.int .i64 0,.slice none 0 0]/\Bx (w5.setCell ⟨w.heap.size+1+1,2,none⟩ (.slice (some ⟨w.heap.size+1,0,none⟩) (i*C+C) N)) (w.heap.size+1+1) 27 [.int .i64 (R:Int),.int .i64 (C:Int),.slice (some ⟨w.heap.size+1,0,none⟩) ((i+1)*C) N]/\ZB (w5.setCell ⟨w.heap.size+1+1,2,none⟩ (.slice (some ⟨w.heap.size+1,0,none⟩) (i*C+C) N)) (w.heap.size+1) K (fil (mk R C M') ((i+1)*C))):=by
    refine Lib.hid ⟨(g_s B0 hg5 (by omega)).setCell (by show _<=w.heap.size+1+1;omega) _,b4'.off (by omega) _ _,by rw[Nat.succ_mul];exact b5'.set 2 _, ?_⟩;rw[Nat.succ_mul];exact hb5.gro (by omega) (b5'.now (by simp)) (a_8 (q:=⟨w.heap.size+1+1,2,none⟩) (a_6 _ _) rfl _)
   clear b4 b5 b4' b5' hb hb5 hg5 HZ6 hL B0
   go_wp2_with fail
   go_roundw
   case rel=>exact⟨i+1,by go_num,by omega,HS⟩
   case measure=>first|(simp[intOf];done)|(simp[intOf];omega)
  ·obtain rfl:i=R:=by omega
   have u1:¬(i:Int)<(i:Int):=by omega
   obtain⟨B0,b4,b5,hb⟩:=HB.out;rw[show fil (mk i C M') (i*C)=mk i C M' by have:=l_a (mk i C M');rwa [a_1]at this]at hb;have hM:Mt true wr i C (some ⟨w.heap.size+1,0,none⟩) (i*C) N K M':=⟨by
    have:=hb.zl0 true (n:=i*C) (c:=N) (by rw[a_1];exact Nat.le_refl _) (by rw[HN.out];exact Nat.le_refl _) (by omega);rwa [List.take_of_length_le (by rw[a_1];exact Nat.le_refl _)]at this,hR,hC⟩
   have P:=Lib.hid (retM hM b4 (Nat.le_refl _) B0);have i0:=b5.cell 0;have i1:=b5.cell 1;have i2:=b5.cell 2;obtain⟨j0,j1,j2,j3,j4,j5,j6⟩:=b4.m3;simp only[List.getElem?_cons_succ,List.getElem?_cons_zero]at i0 i1 i2;clear b4 b5 hb hM B0 HB;unfold mput at P
   go_wp2_with fail
   exact bodyPost_ret (v:=.agg #[.int .i64 (i:Int),.int .i64 (C:Int),.slice (some ⟨w.heap.size+1,0,none⟩) (i*C) N]) (by simp[results,Tryz.results85,go_sem,j0,j1,j2]) rfl P.out
theorem r_d {g i c:Nat}:Value.slice (if(i+1)*c=i*c then some ⟨g,0,none⟩else(some (⟨g,0,none⟩:Addr)).map (·.add (i*c*2))) ((i+1)*c - i*c) ((i+1)*c - i*c)=rwV g (i*c*2) c c:=by
 have h:(i+1)*c=i*c+c:=Nat.succ_mul i c;have h2:(i+1)*c - i*c=c:=by omega
 rw[h2];unfold rwV;by_cases e:c=0
 ·subst e;simp
 ·rw[if_neg (by omega),Option.map_some,b_i]
theorem ZB.rw {w:World}{b g k r c:Nat}{F:Nat->Nat->Int}(h:ZB w g k (mk r c F))(hb:b<=g){a:Nat}(ha:a<r):Rw b w g (a*c*2) c (F a):=by
 have hno:=h.now;obtain⟨cs,h1,h2,h3⟩:=h;rw[a_1]at h2 h3;have h5:(a+1)*c<=r*c:=Nat.mul_le_mul_right c ha;rw[Nat.succ_mul]at h5;refine⟨⟨cs,h1,by omega,fun j hj=>?_⟩,hno,hb⟩;obtain⟨s,A,n,d,c1,c2,c3,-⟩:=h3 (a*c+j) (g_x ha hj);rw[g_m ha hj]at c3;rw[Nat.add_mul]at c1 c2;exact⟨s,A,n,d,c1,c2,c3⟩
theorem ZB.bd {w:World}{g k r c:Nat}{F:Nat->Nat->Int}(h:ZB w g k (mk r c F)){a:Nat}(ha:a<r):Bd c k (F a):=fun j hj=>by
 obtain⟨cs,h1,h2,h3⟩:=h;rw[a_1]at h3;obtain⟨s,A,n,d,c1,c2,c3,c4⟩:=h3 (a*c+j) (g_x ha hj);rw[g_m ha hj]at c3;exact c3.lt c4
def RwOfPost (w:World)(r c k:Nat)(F:Nat->Nat->Int)(e:Ending)(w':World):Prop:=
 ∃H g0,e= .returned (.slice (some ⟨H,0,none⟩) r r)/\Below w.heap.size w w'/\w.heap.size<=H/\Bx w' H 25 (rcs r c (fun _=>g0) (fun a=>a*c*2) fun _=>c)/\Rws w.heap.size w' r c (fun _=>g0) (fun a=>a*c*2) F/\∀a,a<r->Bd c k (F a)
theorem i_b {q:Bool}{r c n d k:Nat}{A:Option Addr}{F:Nat->Nat->Int}{w:World}(ha:Mt q w r c A n d k F)(hk:k<=549755813888):Calls Tryz.prog 88 #[.agg #[.int .i64 (r:Int),.int .i64 (c:Int),.slice A n d]] w (RwOfPost w r c k F):=by
 have h1:=ha.fmd;have h3:=ha.hr;have h4:=ha.hc;obtain⟨w1,hw1,b1,z1,s1⟩:=boxes1 w 27 [.int .i64 (r:Int),.int .i64 (c:Int),.slice A n d];have HW:=Lib.hid hw1;have HZ:=Lib.hid z1;clear hw1 z1 s1 h1;go_enter Tryz.func88,Tryz.ntmps88
 go_upto_region 1 with fail
 rw[HW.out];refine Run.start 6 ?_;refine .ld .o (ldM b1 0) ?_;refine .c1 (.i 0) (x:=kT (kMB w.heap.size r c k F) (.k (.int .i64 0))) (by rintro u w2 hB rfl;exact(p_p (ha.below (zup HZ.out hB)) (by omega)).mono fun e w' h=>h.mono fun v w ⟨a,b,e,h1,h2⟩=>⟨a,b,e,IsMB.lo (zup HZ.out hB).size _ _ h1,h2⟩) ?_;refine .mf (.i 1) ?_;refine .ex (.i 2) 0 kT_0 ?_;refine .ex (.i 2) 1 kT_1 ?_;refine .al ?_;refine .donep [some 8,some 9,some 7,some 10,some 11,some 3] ?_;intro w2 B2;rintro v9 -;rintro v7 -;rintro v ⟨g0,N0,rfl,eN,hM,hge,-,-⟩;rintro g3 hg3 hl3 hc3 -;refine sh [_,_] ?_;simp only[Act.put,lS,lZ,lC];have b3:=zeroM hc3;have B0:=zup HZ.out B2;have hl1:=b1.lt;replace b1:=b1.below B2;clear B2 hc3 ha HZ;obtain⟨w3,hw3⟩:∃x,mput w2 g3 (r:Int) (c:Int) (some ⟨g0,0,none⟩) N0 N0=x:=⟨_,rfl⟩;obtain⟨f0_,f1_,f2_,f3_,f4_,f5_,f6_⟩:=b3.m3;replace b1:=b1.mo (g:=g3) (r:=(r:Int)) (c:=(c:Int)) (A:=some ⟨g0,0,none⟩) (n:=N0) (d:=N0) (by omega);rw[hw3]at b1;have HEN:=Lib.hid eN;clear eN;have n03:g0≠g3:=by obtain⟨cs,x1,-⟩:=hM;exact r_g x1 b3 (by decide)
 replace hM:=hM.gro n03 (b3.now (by simp)) (d_1 w2 g3 (r:Int) (c:Int) (some ⟨g0,0,none⟩) N0 N0);rw[hw3]at hM;replace B0:=a_j (g:=g3) (r:=(r:Int)) (c:=(c:Int)) (A:=some ⟨g0,0,none⟩) (n:=N0) (d:=N0) B0 (by omega);rw[hw3]at B0;replace b3:=b3.mp (g:=g3) (r:=(r:Int)) (c:=(c:Int)) (A:=some ⟨g0,0,none⟩) (n:=N0) (d:=N0);rw[hw3]at b3;have Hw3:=Lib.hid hw3;unfold mput at Hw3;clear hw3;go_upto_region 2 with fail
 rw[Hw3.out];clear f0_ f1_ f2_ f3_ f4_ f5_ f6_ Hw3;refine Run.start 4 ?_;refine .fa .o (fM0 0) ?_;refine .ld (.i 0) (ldInt b1 0) ?_;refine .mkS (.i 1) (r:=r) (b0:=w3.heap.size) (by omega) (Nat.le_refl _) ?_;refine .mf (.i 2) ?_;refine .donep [some 12,some 13,some 14,some 5] ?_;intro w5 B5;rintro v14 -;rintro v5 ⟨H,rfl,bh,hH⟩;refine sh [] ?_;simp only[Act.put,lS,lZ,lC];have hs3:=B0.size;replace B0:=zup B0 B5;have hown:=Lib.hid hM;have hl3:=b3.lt;replace b1:=b1.below B5;replace b3:=b3.below B5;replace hM:=hM.below B5;have hg0l:=hown.out.lt;clear hown B5;go_upto_region 3 with fail
 refine Run.start 3 ?_;refine .mv .o ?_;refine .len (.i 0) Tryz.underlying98 ?_;refine .mv .o ?_;refine .donep [some 15,some 16,some 17] ?_;intro w6 B6;refine sh [] ?_;simp only[Act.put,lS,lZ,lC];replace B0:=zup B0 B6;replace b1:=b1.below B6;replace b3:=b3.below B6;replace bh:=bh.below B6;replace hM:=hM.below B6;have hg0:=hM.lt;have hno:Wless w6 H:=bh.now (by intro v hv m e;rw[(List.mem_replicate.1 hv).2]at e;cases e);have HN:=Lib.hid hno;have HB1:=Lib.hid b1;have HB3:=Lib.hid b3;have HBH:=Lib.hid bh;have HM:=Lib.hid hM;have HB0:=Lib.hid B0;clear hno b1 b3 bh hM B0 B6
 go_wp2_with fail
 go_loopw [17] (fun s17 wr=>∃i:Nat,s17= .int .i64 (i:Int)/\i<=r/\Hid (w6.grownBy wr (some H)/\∃rows,Bx wr H 25 rows/\rows.length=r/\∀a,a<i->rows[a]? =some (rwV g0 (a*c*2) c c))) (fun s17 _=>r - (intOf s17).toNat)
 case atStart=>exact⟨0,rfl,Nat.zero_le _,Lib.hid ⟨a_6 _ _,_,HBH.out,by simp,fun a ha=>by omega⟩⟩
 case round=>
  obtain⟨i,rfl,hir,HB⟩:=hrel;obtain⟨hgr,rows,hb,hlr,hall⟩:=HB.out;by_cases hlt:i<r
  ·have u2:(i:Int)<(r:Int):=by omega
   have hr5:(i+1)*c<=r*c:=Nat.mul_le_mul_right c hlt;have hr6:r*c<=64*64:=Nat.mul_le_mul h3 h4;have hr7:i*c<=(i+1)*c:=Nat.mul_le_mul_right c (Nat.le_succ i);have b1:=a_t HB1.out hgr (by omega);have b3:=a_t HB3.out hgr (by omega);have HGr:=Lib.hid hgr;have HA:=Lib.hid hall;clear HB hgr hall;go_upto_region 6 with fail
   refine Run.start 20 ?_;refine .mv .o ?_;refine .mv .o ?_;refine .fa .o (fM2 2) ?_;refine .ld (.i 2) (ldSl b3 2) ?_;refine .mv .o ?_;refine .fa .o (fM1 1) ?_;refine .ld (.i 5) (ldInt b1 1) ?_;refine .two (.i 4) (.i 6) (opMulN i c (by omega)) ?_;refine .mv .o ?_;refine .two (.i 8) .o (opAddN i 1 (by omega)) ?_;refine .fa .o (fM1 1) ?_;refine .ld (.i 10) (ldInt b1 1) ?_;refine .two (.i 9) (.i 11) (opMulN (i+1) c (by omega)) ?_;refine .mv .o ?_;refine .two (.i 13) .o (opAddN i 1 (by omega)) ?_;refine .fa .o (fM1 1) ?_;refine .ld (.i 15) (ldInt b1 1) ?_;refine .two (.i 14) (.i 16) (opMulN (i+1) c (by omega)) ?_;refine .sl3 (.i 3) (.i 7) (.i 12) (.i 17) (A:=some ⟨g0,0,none⟩) (n:=N0) (cap:=N0) hr7 (Nat.le_refl _) (by have:=HEN.out;omega) ?_;refine .two (.i 0) (.i 1) (opIxS hlt) ?_;refine .donep [some 20,some 21,some 22,some 23,some 24,some 25,some 26,some 27,some 28,some 29,some 30,some 31,some 32,some 33,some 34,some 35,some 36,some 37,some 38,some 39] ?_;intro w7 B7;refine sh [_] ?_;simp only[Act.put,lS,lZ,lC];rw[r_d (g:=g0) (i:=i) (c:=c)];obtain⟨vr,hvr⟩:∃vr,rwV g0 (i*c*2) c c=vr:=⟨_,rfl⟩;rw[hvr];have hb7:=hb.below B7;have x1:=(hb7.cell i).trans (List.getElem?_eq_getElem (by rw[hlr];exact hlt));have y1:=hb7.free i;have HS:Hid (w6.grownBy (w7.setCell ⟨H,i,none⟩ vr) (some H)/\∃rows,Bx (w7.setCell ⟨H,i,none⟩ vr) H 25 rows/\rows.length=r/\∀a,a<i+1->rows[a]? =some (rwV g0 (a*c*2) c c)):=Lib.hid ⟨a_8 (a_i HGr.out (a_2 B7 _)) rfl _,_,hb7.set i vr,by rw[List.length_set];exact hlr,fun a ha=>by
    by_cases e:a=i
    ·subst e;rw[List.getElem?_set_self (by rw[hlr];exact hlt),hvr]
    ·rw[List.getElem?_set_ne (Ne.symm e)];exact HA.out a (by omega)⟩
   obtain⟨A_,n_,d_,hvf⟩:∃A n d,vr= .slice A n d:=⟨_,_,_,hvr.symm⟩;subst hvf;clear hb hb7 b1 b3 B7 hvr
   go_wp2_with fail
   go_roundw
   case rel=>exact⟨i+1,by go_num,by omega,HS⟩
   case measure=>first|(simp[intOf];done)|(simp[intOf];omega)
  ·obtain rfl:i=r:=by omega
   have u2:¬(i:Int)<(i:Int):=by omega
   have hgw:=hgr.size;have hh8:=hb.lt;have P:Hid (RwOfPost w i c k F (.returned (.slice (some ⟨H,0,none⟩) i i)) wr):=by
    have hsz:=HB0.out.size;refine Lib.hid ⟨H,g0,rfl,g_s HB0.out hgr (by omega),by omega, ?_,⟨fun a ha=>?_,fun a a' ha ha' hne=>.inr ?_⟩,fun a ha=>?_⟩
    ·have e:rows=rcs i c (fun _=>g0) (fun a=>a*c*2) fun _=>c:=by
      apply List.ext_getElem?;intro a;rcases Nat.lt_or_ge a i with h5|h5
      ·rw[hall a h5,e_j h5]
      ·rw[List.getElem?_eq_none (by omega),List.getElem?_eq_none (by simp[rcs];omega)]
     rw[<-e];exact hb
    ·have hz:=HM.out.gro (by omega) HN.out hgr;exact hz.rw (by omega) ha
    ·rcases Nat.lt_or_gt_of_ne hne with h5|h5
     ·left;have:(a+1)*c<=a'*c:=Nat.mul_le_mul_right c h5;rw[Nat.succ_mul]at this;omega
     ·right;have:(a'+1)*c<=a*c:=Nat.mul_le_mul_right c h5;rw[Nat.succ_mul]at this;omega
    ·exact HM.out.bd ha
   clear HB hgr hb hall
   go_wp2_with fail
   exact bodyPost_ret (v:=.slice (some ⟨H,0,none⟩) i i) (by simp[results,Tryz.results88,go_sem]) rfl P.out
end Go.Proofs.YtfhbdlegkdbmfaaGreat
