/- PmX08 -/
import Derived.Test.YtkgghhklbbfdiaaGreatPmX02
import Derived.Test.YtkgghhklbbfdiaaGreatPmX03
import Derived.Deep.AppendLies
set_option linter.unusedVariables false
set_option linter.unusedSimpArgs false
set_option linter.unusedSectionVars false
set_option maxRecDepth 100000
set_option maxHeartbeats 8000000
section
namespace Go.Proofs.YtkgghhklbbfdiaaGreat
open Go.RowKit
end Go.Proofs.YtkgghhklbbfdiaaGreat
namespace Go.Proofs.YtkgghhklbbfdiaaGreat
open Go.RowKit
theorem run_append_nil {P:Program}(w:World){base:Nat}{t ty e:TypeId}{i:TypeInfo}{size:Nat}(ht:P.underlying t=some (.slice e))(hi:P.info? e=some i)
  {v:Value} {n:Nat} {xs:List Value} (hown:w.ownsRow base e size v n xs) (c:Nat):(Builtin.append_ #[t,t] ty #[v,.slice none 0 c]).run P w= .ok v w:=by
 rcases hown.2 with⟨rfl,rfl⟩|⟨g,cap,cur,rfl,_,_,hnc,_⟩
 ·simp[Builtin.append_,run_underlying ht,sizeOf,typeInfo,hi,Builtin.lenOf,Builtin.firstCells]
 ·simp[Builtin.append_,run_underlying ht,sizeOf,typeInfo,hi,Builtin.lenOf,Builtin.firstCells,hnc,storeCells]
end Go.Proofs.YtkgghhklbbfdiaaGreat
namespace Go.Proofs.YtkgghhklbbfdiaaGreat
open Go.RowKit
end Go.Proofs.YtkgghhklbbfdiaaGreat
namespace Go.Proofs.YtkgghhklbbfdiaaGreat
open Go.RowKit
end Go.Proofs.YtkgghhklbbfdiaaGreat
end
namespace Go.Proofs.YtkgghhklbbfdiaaGreat
section
open Go.RowKit
section
variable {q:Bool}{w w':World}{s t:Bool}{A B:Option Addr}{n c m d g:Nat}{x:Rat}
theorem Qe.weak (h:Qe q w s A n c t B m d x):Qe false w s A n c t B m d x:=⟨h.1,fun e=>nomatch e⟩
end
section
variable {q:Bool}{w w':World}{A:Option Addr}{n c k g:Nat}{xs:List Rat}
theorem QAt.weak {p:Addr}{z:Rat}(h:QAt q w p k z):QAt false w p k z:=by
 obtain⟨s,A,n,c,t,B,m,d,h1,h2,h3,h4,h5,h6⟩:=h;exact⟨s,A,n,c,t,B,m,d,h1,h2,h3,h4,h5.weak,h6⟩
theorem QL.weak (h:QL q w A n c k xs):QL false w A n c k xs:=⟨h.len,h.le,h.cap,fun h0=>by
 obtain⟨ad,rfl,h1,h2⟩:=h.at' h0;exact⟨ad,rfl,h1,fun j hj=>(h2 j hj).weak⟩⟩
end
section
variable {w w':World}{g k b:Nat}{f:Nat→Bool}{xs:List Rat}
end
end
section
open Go.RowKit
section
variable {u v:Value}{x y:Rat}{n m K:Nat}{w:World}
end
section
variable {q:Bool}{w w':World}{r c n d k k':Nat}{A:Option Addr}{F G:Nat→Nat→Rat}
theorem Mq.weak (h:Mq q w r c A n d k F):Mq false w r c A n d k F:=⟨h.ql.weak,h.hr,h.hc⟩
end
end
section
open Go.RowKit
theorem QAt.spot {q:Bool}{w:World}{p:Addr}{k:Nat}{z:Rat}(h:QAt q w p k z):p.spot=none:=by
 obtain⟨s,A,n,c,t,B,m,d,h1,-⟩:=h;unfold World.cell? at h1;cases hb:w.heap[p.block]? with
 |none=>rw[hb]at h1;simp at h1
 |some o=>
  rw[hb]at h1;cases hs:p.spot with
  |none=>rfl
  |some x=>
   rw[hs]at h1;cases o<;>simp at h1
theorem EL.nil (q:Bool)(w:World)(k:Nat):EL q w k [] []:=⟨rfl,fun j hj=>by simp at hj⟩
theorem EL.below {q:Bool}{w w':World}{k:Nat}{vs:List Value}{xs:List Rat}(h:EL q w k vs xs)(hb:Below w.heap.size w w'):EL q w' k vs xs:=⟨h.1,fun j hj=>by
 obtain⟨s,A,n,c,t,B,m,d,c1,c2,c3,c4,c5,c6⟩:=h.2 j hj;exact⟨s,A,n,c,t,B,m,d,c1,c2,c3,c4,c5.below hb,c6⟩⟩
theorem EL.app {q:Bool}{w:World}{k:Nat}{vs us:List Value}{xs ys:List Rat}(h:EL q w k vs xs)(h2:EL q w k us ys):EL q w k (vs++us) (xs++ys):=⟨by rw[List.length_append,List.length_append,h.1,h2.1,Nat.add_mul],fun j hj=>by
 rw[List.length_append]at hj;by_cases hl:j<xs.length
 ·obtain⟨s,A,n,c,t,B,m,d,c1,c2,c3,c4,c5,c6⟩:=h.2 j hl;have hv:=h.1;refine⟨s,A,n,c,t,B,m,d,by rw[List.getElem?_append_left (by omega)];exact c1,by rw[List.getElem?_append_left (by omega)];exact c2,by rw[List.getElem?_append_left (by omega)];exact c3,by rw[List.getElem?_append_left (by omega)];exact c4, ?_,c6⟩;rw[show rth (xs++ys) j=rth xs j by simp[rth,List.getD,List.getElem?_append_left hl]];exact c5
 ·obtain⟨i,rfl⟩:∃i,j=xs.length+i:=⟨j - xs.length,by omega⟩;obtain⟨s,A,n,c,t,B,m,d,c1,c2,c3,c4,c5,c6⟩:=h2.2 i (by omega);have hv:=h.1;refine⟨s,A,n,c,t,B,m,d, ?_, ?_, ?_, ?_, ?_,c6⟩
  ·rw[List.getElem?_append_right (by omega),show(xs.length+i)*4 - vs.length=i*4 by omega];exact c1
  ·rw[List.getElem?_append_right (by omega),show(xs.length+i)*4+1 - vs.length=i*4+1 by omega];exact c2
  ·rw[List.getElem?_append_right (by omega),show(xs.length+i)*4+2 - vs.length=i*4+2 by omega];exact c3
  ·rw[List.getElem?_append_right (by omega),show(xs.length+i)*4+3 - vs.length=i*4+3 by omega];exact c4
  ·rw[show rth (xs++ys) (xs.length+i)=rth ys i by simp[rth,List.getD,List.getElem?_append_right]];exact c5⟩
theorem r_6 {q:Bool}{w:World}{ad:Addr}{n c k:Nat}{xs:List Rat}(h:QL q w (some ad) n c k xs)(h0:0<n):∃news:List Value,(∀j u,news[j]? =some u→w.cell? (ad.add j)=some u)∧(∀u∈news,u.oneCell'=true)∧EL q w k news xs:=by
 have hsp:ad.spot=none:=by
  have:=(h.elem h0).spot;rw[Nat.zero_mul,a_1]at this;exact this
 have hl:=h.len;obtain⟨x0,o0,sp⟩:=ad;simp only at hsp;subst hsp;have hz':∀j,j<n→∃s A n c t B m d,w.cell? ⟨x0,o0+j*4,none⟩=some (.bool s)∧w.cell? ⟨x0,o0+(j*4+1),none⟩=some (.slice A n c)∧w.cell? ⟨x0,o0+(j*4+2),none⟩=some (.bool t)∧w.cell? ⟨x0,o0+(j*4+3),none⟩=some (.slice B m d)∧Qe q w s A n c t B m d (rth xs j)∧n≤k∧m≤k:=fun j hj=>by
  obtain⟨s,A,n',c',t,B,m,d,e1,e2,e3,e4,ze,hk⟩:=h.elem hj;rw[d_z]at e1 e2 e3 e4;exact⟨s,A,n',c',t,B,m,d,e1,e2,e3,e4,ze,hk⟩
 have hcell:∀t,t<n*4→∃u,w.cell? ⟨x0,o0+t,none⟩=some u∧u.oneCell'=true:=fun t ht=>by
  obtain⟨s,A,n',c',t',B,m,d,e1,e2,e3,e4,-⟩:=hz' (t / 4) (by omega);rcases(by omega:t=t / 4*4∨t=t / 4*4+1∨t=t / 4*4+2∨t=t / 4*4+3)with h|h|h|h
  ·exact⟨_,by rw[h];exact e1,rfl⟩
  ·exact⟨_,by rw[h];exact e2,rfl⟩
  ·exact⟨_,by rw[h];exact e3,rfl⟩
  ·exact⟨_,by rw[h];exact e4,rfl⟩
 have hget:∀t,t<n*4→((List.range (n*4)).map fun t=>(w.cell? ⟨x0,o0+t,none⟩).getD undef)[t]? =w.cell? ⟨x0,o0+t,none⟩:=fun t ht=>by
  obtain⟨u,hu,-⟩:=hcell t ht;simp[ht,hu]
 refine⟨(List.range (n*4)).map fun t=>(w.cell? ⟨x0,o0+t,none⟩).getD undef,fun j u hu=>?_,fun u hu=>?_,by simp[hl],fun j hj=>?_⟩
 ·have hj:j<n*4:=by
   rcases Nat.lt_or_ge j (n*4)with h|h
   ·exact h
   ·rw[List.getElem?_eq_none (by simpa using h)]at hu;cases hu
  rw[hget j hj]at hu;rw[d_z];exact hu
 ·obtain⟨t,ht,rfl⟩:=List.mem_map.1 hu;obtain⟨u,hu,h1⟩:=hcell t (List.mem_range.1 ht);rw[hu];exact h1
 ·obtain⟨s,A,n',c',t,B,m,d,e1,e2,e3,e4,ze,hk⟩:=hz' j (by omega);exact⟨s,A,n',c',t,B,m,d,by rw[hget _ (by omega)];exact e1,by rw[hget _ (by omega)];exact e2,by rw[hget _ (by omega)];exact e3,by rw[hget _ (by omega)];exact e4,ze,hk⟩
theorem t_6 {w:World}{b n:Nat}{v:Value}{vs:List Value}(h:w.ownsRow b 46 4 v n vs):∃A c,v= .slice A n c:=by
 rcases h.2 with⟨rfl,rfl⟩|⟨g,cap,cur,rfl,-⟩
 ·exact⟨none,0,rfl⟩
 ·exact⟨_,cap,rfl⟩
theorem p_r {w:World}{b n g:Nat}{v:Value}{vs:List Value}(h:w.ownsRow b 46 4 v n vs)(hg:v.ownBlock=some g):b≤g∧g<w.heap.size∧∃cs,w.heap[g]? =some (.cells cs 46 (0,0)):=by
 obtain⟨h1,h2⟩:=h.lt g hg;refine⟨h1,h2, ?_⟩;rcases h.2 with⟨rfl,_⟩|⟨g',cap,cur,rfl,hb,hh,_⟩
 ·cases hg
 ·have e':g'=g:=by simpa [Value.ownBlock] using hg
  subst e';exact⟨cur,hh⟩
theorem y_c {q:Bool}{w:World}{b n k c:Nat}{A:Option Addr}{vs:List Value}{xs:List Rat}(h:w.ownsRow b 46 4 (.slice A n c) n vs)(he:EL q w k vs xs)(hn:xs.length=n):QL q w A n c k xs:=by
 have hc:=fun g hg=>h.cells (g:=g) hg;rcases h.2 with⟨e,rfl⟩|⟨g,cap,cur,e,hb,hh,hn2,hm,hcs,ht⟩
 ·injection e with e1 e2 e3
  subst e1 e3;exact⟨hn,Nat.le_refl _,by omega,fun h=>by omega⟩
 ·injection e with e1 e2 e3
  subst e1 e3;refine⟨hn,hn2,by unfold maxLen at hm;omega,fun h0=>⟨_,rfl,(Array.getElem?_eq_some_iff.1 hh).1,fun j hj=>?_⟩⟩;obtain⟨s,A,n',c',t,B,m,d,c1,c2,c3,c4,c5⟩:=he.2 j (by omega);have hc:=hc g rfl;have e1:=hc _ _ c2;have e2:=hc _ _ c3;have e3:=hc _ _ c4;rw[a_8]at e1 e2 e3;exact⟨s,A,n',c',t,B,m,d,hc _ _ c1,by rw[a_8];exact e1,by rw[a_8];exact e2,by rw[a_8];exact e3,c5⟩
theorem g_f {w w0:World}{ops:Array Oper}{rest:List Oper}{o:Oper}{a:Act}{Q:Exit→Act→World→Prop}(hgd:o.guard=none)(s x:Operand)
  (ho:o.op= .call { callee:=.builtin .append,args:=#[s,x],argTypes:=#[22,22] }) (base:Nat)
  (v:Value) (xs:List Rat) (vs:List Value) (hs:a.eval s=v) (hown:w.ownsRow base 46 4 v xs.length vs) {q:Bool} {k:Nat} (hel:EL q w0 k vs xs) {A:Option Addr} {m c:Nat} {ys:List Rat} (hq:QL q w0 A m c k ys) (hB:Below w0.heap.size w0 w)
  (hx:a.eval x= .slice A m c) (hlen:xs.length+m≤1099511627776) (hbase:base≤w.heap.size)
  (h:∀v' w' vs',w'.ownsRow base 46 4 v' (xs++ys).length vs'→EL q w0 k vs' (xs++ys)→w.grownBy w' v.ownBlock→(v'.ownBlock=v.ownBlock∨v'.ownBlock=some w.heap.size)→wpList Tryz.prog ops Q rest (a.put o.dst v') w'):wpList Tryz.prog ops Q (o::rest) a w:=by
 obtain⟨i,hi,hz0,hz1,hz2⟩:=info_parts info_rat;have hyl:=hq.len;rw[List.length_append,hyl]at h;rcases Nat.eq_zero_or_pos m with h0|h0
 ·subst h0;obtain rfl:ys=[]:=List.length_eq_zero_iff.1 hyl;rw[List.append_nil]at h;cases A with
  |none=>
   have hr:=run_append_nil (P:=Tryz.prog) w (t:=22) (ty:=o.type) Tryz.underlying22 hi hown c;refine wpList_plain hgd fun K hK=>?_;unfold Oper.wp execOp;simp only[ho,resolve,invoke,builtin,Sem.run_bind,Sem.run_pure,Result.andThen_ok,List.map_toArray,List.map_cons,List.map_nil,hs,hx,hr];exact hK _ _ (h v w vs hown hel (World.grownBy.mk rfl rfl rfl (Nat.le_refl _) fun _ _ _=>rfl) (.inl rfl))
  |some ad=>
   obtain⟨v',w',hr,h2,h3,-,h5⟩:=run_append_own_at (P:=Tryz.prog) w base 22 o.type 46 i (.agg #[.bool false,.slice none 0 0,.bool false,.slice none 0 0]) 4 64 Tryz.underlying22 hi hz0 hz1 hz2 rfl (by omega) v xs.length _ hown ad 0 c [] rfl (fun j u hu=>by simp at hu) (fun u hu=>by simp at hu) (by unfold maxLen;omega) (by omega) hbase;refine wpList_plain hgd fun K hK=>?_;unfold Oper.wp execOp;simp only[ho,resolve,invoke,builtin,Sem.run_bind,Sem.run_pure,Result.andThen_ok,List.map_toArray,List.map_cons,List.map_nil,hs,hx,hr];rw[List.append_nil]at h2;exact hK _ _ (h v' w' vs h2 hel h3 h5)
 ·obtain⟨ad,rfl,hlt,hc⟩:=hq.at' h0;obtain⟨news,g1,g2,g3⟩:=r_6 hq h0;obtain⟨v',w',hr,h2,h3,-,h5⟩:=run_append_own_at (P:=Tryz.prog) w base 22 o.type 46 i (.agg #[.bool false,.slice none 0 0,.bool false,.slice none 0 0]) 4 64 Tryz.underlying22 hi hz0 hz1 hz2 rfl (by omega) v xs.length _ hown ad m c news (by rw[g3.1,hyl]) (fun j u hu=>(hB.cell (p:=ad.add j) (by rw[a_b];exact hlt)).trans (g1 j u hu)) g2 (by unfold maxLen;omega) (by omega) hbase;refine wpList_plain hgd fun K hK=>?_;unfold Oper.wp execOp;simp only[ho,resolve,invoke,builtin,Sem.run_bind,Sem.run_pure,Result.andThen_ok,List.map_toArray,List.map_cons,List.map_nil,hs,hx,hr];exact hK _ _ (h v' w' _ h2 (hel.app g3) h3 h5)
theorem v_h (R S C:Nat)(F G:Nat→Nat→Rat):qmk R C F++qmk S C G=qmk (R+S) C (RT.stk R F G):=by
 apply List.ext_getElem
 ·rw[List.length_append,a_4,a_4,a_4,Nat.add_mul]
 ·intro m h1 h2;rw[a_4,Nat.add_mul]at h2;have hc:0<C:=Nat.pos_of_ne_zero fun e=>by subst e;simp at h2
  by_cases hm:m<R*C
  ·rw[List.getElem_append_left (by rw[a_4];exact hm)];have:m / C<R:=Nat.div_lt_of_lt_mul (by rw[Nat.mul_comm];exact hm);simp[qmk,RT.stk,this]
  ·obtain⟨t,rfl⟩:∃t,m=R*C+t:=⟨m - R*C,by omega⟩;rw[List.getElem_append_right (by rw[a_4];omega)];have e1:(R*C+t) / C=R+t / C:=by rw[Nat.mul_comm,Nat.mul_add_div hc]
   have e2:(R*C+t)%C=t%C:=by rw[Nat.mul_comm,Nat.mul_add_mod]
   simp only[qmk,List.getElem_map,List.getElem_range,e1,e2,List.length_map,List.length_range,Nat.add_sub_cancel_left];unfold RT.stk;rw[if_neg (Nat.not_lt.2 (Nat.le_add_right _ _)),Nat.add_sub_cancel_left]
theorem v_u {w w':World}{b s n:Nat}{e:TypeId}{v:Value}{xs:List Value}(hb:Below w.heap.size w w')(h:w.ownsRow b e s v n xs):w'.ownsRow b e s v n xs:=h.kept (row:=none) ⟨hb.os,hb.tape,hb.output,hb.size,fun k hk _=>hb.block k hk⟩ (by cases hv:v.ownBlock<;>simp)
theorem p_j {q q':Bool}{R S C n d n' d' k k' K:Nat}{A A':Option Addr}{F G:Nat→Nat→Rat}{w:World}(ha:Mq q w R C A n d k F)(hb:Mq q' w S C A' n' d' k' G)(hRS:R+S≤64)(hk:k≤K)(hk':k'≤K):Calls Tryz.prog 18 #[.agg #[.int .i64 (R:Int),.int .i64 (C:Int),.slice A n d],.agg #[.int .i64 (S:Int),.int .i64 (C:Int),.slice A' n' d']] w (RetK (kMq false (R+S) C K (RT.stk R F G)) w):=by
 have hC:=ha.hc;have hbg:=ha.big;have hbg':=hb.big;have HA:=Lib.hid (ha.weak.mono hk);have HB:=Lib.hid (hb.weak.mono hk');have hN:R*C+S*C=(R+S)*C:=(Nat.add_mul _ _ _).symm;have HNN:=Lib.hid hN;have hnl:=ha.len;have hnl':=hb.len;subst hnl hnl';obtain⟨N1,hN1⟩:∃N1,R*C=N1:=⟨_,rfl⟩;obtain⟨T,hT⟩:∃T,R+S=T:=⟨_,rfl⟩;have HT:=Lib.hid hT;have hTe:(R:Int)+(S:Int)=(T:Int):=by omega
 rw[hT]at hRS HNN;rw[hT];obtain⟨N2,hN2⟩:∃N2,S*C=N2:=⟨_,rfl⟩;have HN1:=Lib.hid hN1;have HN2:=Lib.hid hN2;rw[hN1,hN2];rw[hN1]at hbg;rw[hN2]at hbg';clear ha hb hN hN1 hN2 hT;obtain⟨w1,hw1,b2,b3,b4,z1,s1⟩:=boxes3 w 24 24 24 [.int .i64 (R:Int),.int .i64 (C:Int),.slice A N1 d] [.int .i64 (S:Int),.int .i64 (C:Int),.slice A' N2 d'] [.int .i64 0,.int .i64 0,.slice none 0 0];have HW:=Lib.hid hw1;have HZ:=Lib.hid z1;clear hw1 z1 s1;go_enter Tryz.func18,Tryz.ntmps18
 go_upto_region 1 with fail
 rw[HW.out];refine Run.start 9 ?_;refine .fa .o (fQ0 0) ?_;refine .ld (.i 0) (ldInt b2 0) ?_;refine .fa .o (fQ0 0) ?_;refine .ld (.i 2) (ldInt b3 0) ?_;refine .two (.i 1) (.i 3) (opAdd (r:=(T:Int)) (by omega) (by omega) (by omega)) ?_;refine .fa .o (fQ1 1) ?_;refine .ld (.i 5) (ldInt b2 1) ?_;refine .bdMq (.i 4) (.i 6) (x:=(T:Int)) (y:=(C:Int)) ?_;refine .al ?_;refine .donep [some 6,some 7,some 8,some 9,some 10,some 11,some 12,some 13,some 5] ?_;intro w2 B2;rintro g5 hg5 hl5 hc5 -;change Shut (wpList _ _ _ [_] _ _);refine⟨?_⟩;simp only[Act.put,lS,lZ,lC];have b5:=zeroMq hc5;have B0:=zup HZ.out B2;have l2:=b2.lt;have l3:=b3.lt;have l4:=b4.lt;replace b2:=b2.below B2;replace b3:=b3.below B2;replace b4:=b4.below B2;obtain⟨w3,hw3⟩:∃x,mput w2 g5 (T:Int) (C:Int) none 0 0=x:=⟨_,rfl⟩;obtain⟨f0_,f1_,f2_,f3_,f4_,f5_,f6_⟩:=b5.m3T;have hgr_:=a_k w2 g5 (T:Int) (C:Int) none 0 0;rw[hw3]at hgr_;replace b2:=a_a b2 hgr_ (by omega);replace b3:=a_a b3 hgr_ (by omega);replace b4:=a_a b4 hgr_ (by omega);replace B0:=a_c B0 hgr_ (by omega);replace b5:=b5.mpT (r':=(T:Int)) (c':=(C:Int)) (C:=none) (n':=0) (d':=0);rw[hw3]at b5;have Hw3:=Lib.hid hw3;unfold mput at Hw3;have l5:=b5.lt;clear hw3 hgr_ B2 hc5 HZ HW;go_upto_region 2 with fail
 rw[Hw3.out];clear f0_ f1_ f2_ f3_ f4_ f5_ f6_ Hw3;refine Run.start 4 ?_;refine .fa .o (fQ2 2) ?_;refine .ld (.i 0) (ldQl b5 2) ?_;refine .fa .o (fQ2 2) ?_;refine .ld (.i 2) (ldQl b2 2) ?_;refine .donep [some 14,some 15,some 16,some 17] ?_;intro w4 B4;change Shut (wpList _ _ _ [_,_,_] _ _);refine⟨?_⟩;simp only[Act.put,lS,lZ,lC];replace B0:=zup B0 B4;replace b2:=b2.below B4;replace b3:=b3.below B4;replace b4:=b4.below B4;replace b5:=b5.below B4;clear B4;have hs4:=B0.size;have hs4':=b5.lt;obtain⟨bs,hbs⟩:∃bs,w4.heap.size=bs:=⟨_,rfl⟩;have hbs2:bs≤w4.heap.size:=by omega
 have ho0:w4.ownsRow bs 46 4 (.slice none 0 0) ([]:List Rat).length []:=World.ownsRow_nil w4 _ _ _;have he0:=EL.nil false w K;have hln:([]:List Rat).length+N1≤1099511627776:=by simp;omega
 have HL0:=Lib.hid hln;clear hln;rw[hbs]at hs4'
 go_wp2_with (at_builtin;refine g_f (w0:=w) rfl _ _ rfl bs _ [] [] rfl ho0 he0 (by have h:=HA.out.ql;rw[HN1.out]at h;exact h) B0 rfl HL0.out hbs2 ?_)
 intro v5 w5 vs5 ho5 he5 hG5 hw5;try rw[List.nil_append]at ho5 he5
 have hG5':w4.grownBy w5 none:=hG5;have B45:Below w4.heap.size w4 w5:=⟨hG5'.os,hG5'.tape,hG5'.output,hG5'.size,fun k hk=>hG5'.block k hk (by simp)⟩;replace B0:=zup B0 B45;replace b2:=b2.below B45;replace b3:=b3.below B45;replace b4:=b4.below B45;replace b5:=b5.below B45;have hqn:(qmk R C F).length=N1:=by rw[a_4,HN1.out]
 rw[hqn]at ho5;obtain⟨A5,c5,rfl⟩:=t_6 ho5;have hv5:(Value.slice A5 N1 c5).ownBlock≠some g5:=fun e=>by
  have:=(p_r ho5 e).1;omega
 obtain⟨i0,i1,i2,i3,i4,i5,i6⟩:=b5.m3T;have hgr:=a_n (q:=⟨g5,2,none⟩) (a_u w5 (some g5)) rfl (.slice A5 N1 c5);have ho6:=ho5.kept hgr (.inr hv5);have hsz5:=B45.size;replace b2:=a_a b2 hgr (by omega);replace b3:=a_a b3 hgr (by omega);replace b4:=a_a b4 hgr (by omega);have b5':=b5.set 2 (.slice A5 N1 c5);replace B0:=a_c B0 hgr (by omega);have hs6:=hgr.size;obtain⟨w6,hw6⟩:∃x,w5.setCell ⟨g5,2,none⟩ (.slice A5 N1 c5)=x:=⟨_,rfl⟩;rw[hw6]at ho6 b2 b3 b4 b5' B0 hs6;have Hw6:=Lib.hid hw6;have HEL:=Lib.hid he5;clear b5 hw6 hgr hG5 hG5' hw5 B45 ho5 ho0 he0 he5;go_upto_region 3 with fail
 rw[Hw6.out];clear i0 i1 i2 i3 i4 i5 i6 Hw6;refine Run.start 4 ?_;refine .fa .o (fQ2 2) ?_;refine .ld (.i 0) (ldQl b5' 2) ?_;refine .fa .o (fQ2 2) ?_;refine .ld (.i 2) (ldQl b3 2) ?_;refine .donep [some 20,some 21,some 22,some 23] ?_;intro w7 B7;change Shut (wpList _ _ _ [_,_,_] _ _);refine⟨?_⟩;simp only[Act.put,lS,lZ,lC];replace B0:=zup B0 B7;replace b4:=b4.below B7;replace b5':=b5'.below B7;have ho7:=v_u B7 ho6;have hs7:=B7.size;clear B7 b2 b3 ho6;have hl7:(qmk R C F).length=N1:=hqn;have HL1:Hid ((qmk R C F).length+N2≤1099511627776):=Lib.hid (by rw[hqn];omega);have ho7':=ho7;rw[←hqn]at ho7
 go_wp2_with (at_builtin;refine g_f (w0:=w) rfl _ _ rfl bs _ (qmk R C F) vs5 rfl (by rw[hqn]at ho7 ⊢;exact ho7) HEL.out (by have h:=HB.out.ql;rw[HN2.out]at h;exact h) B0 rfl HL1.out (by omega) ?_)
 intro v8 w8 vs8 ho8 he8 hG8 hw8;rw[v_h,HT.out]at he8;have hv7:(Value.slice A5 N1 c5).ownBlock≠some g5:=hv5;have hq8:(qmk T C (RT.stk R F G)).length=N1+N2:=by rw[a_4,←HNN.out,HN1.out,HN2.out]
 have hl8:N1+(qmk S C G).length=N1+N2:=by rw[a_4,HN2.out]
 rw[hl8]at ho8;obtain⟨A8,c8,rfl⟩:=t_6 ho8;have hb7:∀g,(Value.slice A5 N1 c5).ownBlock=some g→bs≤g:=fun g hg=>(p_r ho7' hg).1;have h8w:∀g,(Value.slice A8 (N1+N2) c8).ownBlock=some g→bs≤g:=fun g hg=>(p_r ho8 hg).1;have B78:Below w.heap.size w w8:=by
  cases e:(Value.slice A5 N1 c5).ownBlock with
  |none=>rw[e]at hG8;exact zup B0 ⟨hG8.os,hG8.tape,hG8.output,hG8.size,fun k hk=>hG8.block k hk (by simp)⟩
  |some g=>rw[e]at hG8;exact a_c B0 hG8 (by have:=hb7 g e;omega)
 have b4':Bx w8 (w.heap.size+1+1) 24 [.int .i64 0,.int .i64 0,.slice none 0 0]:=(hG8.block _ b4.lt (fun e=>by have:=hb7 _ e.symm;omega)).trans b4;have b5'':Bx w8 g5 24 _:=(hG8.block _ b5'.lt (fun e=>hv7 e.symm)).trans b5';have hv8:(Value.slice A8 (N1+N2) c8).ownBlock≠some g5:=fun e=>by have:=h8w _ e;omega
 obtain⟨i0,i1,i2,i3,i4,i5,i6⟩:=b5''.m3T;have hgr:=a_n (q:=⟨g5,2,none⟩) (a_u w8 (some g5)) rfl (.slice A8 (N1+N2) c8);have ho9:=ho8.kept hgr (.inr hv8);replace b4':=a_a b4' hgr (by omega);have b9:=b5''.set 2 (.slice A8 (N1+N2) c8);replace B78:=a_c B78 hgr (by omega);obtain⟨w9,hw9⟩:∃x,w8.setCell ⟨g5,2,none⟩ (.slice A8 (N1+N2) c8)=x:=⟨_,rfl⟩;rw[hw9]at ho9 b4' b9 B78;have Hw9:=Lib.hid hw9;have HEL8:=Lib.hid he8;clear b5'' b5' hw9 hgr hG8 hw8 ho8 ho7 ho7' he8 b4 B0;go_upto_region 4 with fail
 rw[Hw9.out];clear i0 i1 i2 i3 i4 i5 i6 Hw9;have hM9:Mq false w9 T C A8 (N1+N2) c8 K (RT.stk R F G):=⟨y_c ho9 (HEL8.out.below B78) hq8,hRS,hC⟩;change Bx w9 g5 24 [.int .i64 (T:Int),.int .i64 (C:Int),.slice A8 (N1+N2) c8]at b9;refine Run.start 1 ?_;refine .ld .o (ldQm b9 0) ?_;refine .donep [some 26] ?_;intro w10 B10;change Shut (wpList _ _ _ [_] _ _);refine⟨?_⟩;simp only[Act.put,lS,lZ,lC];replace b4':=b4'.below B10;replace hM9:=hM9.below B10;have P:=Lib.hid (retMq hM9 b4' (by omega) (zup B78 B10));unfold mput at P;obtain⟨i0,i1,i2,i3,i4,i5,i6⟩:=b4'.m3T;clear hM9 ho9 B10 b9
 go_wp2_with fail
 exact bodyPost_ret (v:=.agg #[.int .i64 (T:Int),.int .i64 (C:Int),.slice A8 (N1+N2) c8]) (by simp[results,Tryz.results18,go_sem,i0,i1,i2]) rfl P.out
end
end Go.Proofs.YtkgghhklbbfdiaaGreat
