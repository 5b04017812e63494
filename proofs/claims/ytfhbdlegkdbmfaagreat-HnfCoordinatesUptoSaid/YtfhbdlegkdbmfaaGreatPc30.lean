/- Pc30 -/
import Derived.Test.YtfhbdlegkdbmfaaGreatPc29
import Derived.Laws.AppendOwn
import Derived.Test.YtfhbdlegkdbmfaaGreatPc28
import Derived.Deep.RegionHeld3
set_option linter.unusedVariables false
set_option linter.unusedSimpArgs false
set_option linter.unusedSectionVars false
set_option maxRecDepth 100000
set_option maxHeartbeats 8000000
namespace Go.Proofs.YtfhbdlegkdbmfaaGreat
section
open Go.RowKit
theorem Rw.list {b:Nat}{w:World}{g o W:Nat}{f:Nat->Int}(h:Rw b w g o W f):∃xs:List Value,xs.length=W*2/\(∀j u,xs[j]? =some u->w.cell? ⟨g,o+j,none⟩=some u)/\∀j,j<W->∃s A n c,xs[j*2]? =some (.bool s)/\xs[j*2+1]? =some (.slice A n c)/\Zc w s A n c (f j):=by
 obtain⟨cs,h1,h2,h3⟩:=h.ex;have hl:((cs.toList.drop o).take (W*2)).length=W*2:=by rw[List.length_take,List.length_drop,Array.length_toList];omega
 have hg:∀j,j<W*2->((cs.toList.drop o).take (W*2))[j]? =cs[o+j]? :=fun j hj=>by
  rw[List.getElem?_take_of_lt hj,List.getElem?_drop,Array.getElem?_toList]
 refine⟨(cs.toList.drop o).take (W*2),hl,fun j u hu=>?_,fun j hj=>?_⟩
 ·have hj:j<W*2:=by
   rw[<-hl];exact(List.getElem?_eq_some_iff.1 hu).1
  rw[hg j hj]at hu;rw[cell_of_row w g _ _ _ _ h1,hu]
 ·obtain⟨s,A,n,c,c1,c2,c3⟩:=h3 j hj;exact⟨s,A,n,c,by rw[hg _ (by omega)];exact c1,by rw[hg _ (by omega),show o+(j*2+1)=o+j*2+1 by omega];exact c2,c3⟩
def cat2 (C:Nat)(f f':Nat->Int):Nat->Int:=fun j=>if j<C then f j else f' (j - C)
theorem i_5 {b b':Nat}{w:World}{g o C g' o' R c':Nat}{f f':Nat->Int}(h:Rw b w g o C f)(h':Rw b' w g' o' R f')(hR:0<R)(hs:C+R<=1048576)(ty:TypeId):∃cp w',(Builtin.append_ #[25,25] ty #[rwV g o C C,rwV g' o' R c']).run Tryz.prog w= .ok (rwV w.heap.size 0 (C+R) cp) w'/\Below w.heap.size w w'/\Rw w.heap.size w' w.heap.size 0 (C+R) (cat2 C f f')/\C+R<=cp/\cp<=9223372036854775807/\w'.heap.size=w.heap.size+1:=by
 obtain⟨i,hi,hz0,hz1,hz2⟩:=info_parts info_zint;obtain⟨xs,hx1,hx2,hx3⟩:=h.list;obtain⟨ys,hy1,hy2,hy3⟩:=h'.list;have hrun:=Go.run_append_grow (P:=Tryz.prog) w 25 ty 31 i (.agg #[.bool false,.slice none 0 0]) Tryz.underlying25 hi hz0 ⟨g,o,none⟩ C C xs (by rw[hx1,hz1]) (fun j u hu=>by rw[b_l];exact hx2 j u hu) ⟨g',o',none⟩ R c' ys (by rw[hy1,hz1]) (fun j u hu=>by rw[b_l];exact hy2 j u hu) (by omega) (by omega) (growslice_fits (by omega) (by rw[hz2];omega));rw[show xs.toArray++ys.toArray=(xs++ys).toArray by simp]at hrun;obtain⟨cp,hcp⟩:∃cp,grownCap w (C+R) C 31=cp:=⟨_,rfl⟩;have hge:=grownCap_ge w (C+R) C 31;have hle:=grownCap_le_maxLen w (C+R) C 31 (by unfold maxLen;omega);rw[hcp]at hrun hge hle;have hB:Below w.heap.size w (w.drew.alloc (.cells ((xs++ys).toArray++Builtin.zeroCells (Value.agg #[.bool false,.slice none 0 0]).cells (cp - (C+R))) 31)):=(a_a w).alloc (Nat.le_refl _) _;have hnew:(w.drew.alloc (.cells ((xs++ys).toArray++Builtin.zeroCells (Value.agg #[.bool false,.slice none 0 0]).cells (cp - (C+R))) 31)).heap[w.heap.size]? =some (.cells ((xs++ys).toArray++Builtin.zeroCells (Value.agg #[.bool false,.slice none 0 0]).cells (cp - (C+R))) 31 (0,0)):=heap_alloc_new w.drew _;have hcell:∀j,j<(C+R)*2->((xs++ys).toArray++Builtin.zeroCells (Value.agg #[.bool false,.slice none 0 0]).cells (cp - (C+R)))[j]? =(xs++ys)[j]? :=fun j hj=>by
  rw[Array.getElem?_append_left (by simp;omega)];simp
 have hat:∀j,j<C+R->∃s A n c,(xs++ys)[j*2]? =some (.bool s)/\(xs++ys)[j*2+1]? =some (.slice A n c)/\Zc w s A n c (cat2 C f f' j):=fun j hj=>by
  unfold cat2;by_cases e:j<C
  ·obtain⟨s,A,n,c,c1,c2,c3⟩:=hx3 j e;exact⟨s,A,n,c,by rw[List.getElem?_append_left (by omega)];exact c1,by rw[List.getElem?_append_left (by omega)];exact c2,by rw[if_pos e];exact c3⟩
  ·obtain⟨s,A,n,c,c1,c2,c3⟩:=hy3 (j - C) (by omega);exact⟨s,A,n,c,by rw[List.getElem?_append_right (by omega),hx1,show j*2 - C*2=(j - C)*2 by omega];exact c1,by rw[List.getElem?_append_right (by omega),hx1,show j*2+1 - C*2=(j - C)*2+1 by omega];exact c2,by rw[if_neg e];exact c3⟩
 refine⟨cp,_,hrun,hB,⟨⟨_,hnew,by simp;omega,fun j hj=>?_⟩,fun p m hp hc=>?_,Nat.le_refl _⟩,hge,by unfold maxLen at hle;omega,by simp⟩
 ·obtain⟨s,A,n,c,c1,c2,c3⟩:=hat j hj;exact⟨s,A,n,c,by rw[Nat.zero_add,hcell _ (by omega)];exact c1,by rw[Nat.zero_add,hcell _ (by omega)];exact c2,c3.below hB⟩
 ·obtain⟨pb,po,ps⟩:=p;simp only at hp;subst hp;unfold World.cell? at hc;rw[hnew]at hc;have hc:ps=none/\((xs++ys).toArray++Builtin.zeroCells (Value.agg #[.bool false,.slice none 0 0]).cells (cp - (C+R)))[po]? =some (.int .u64 m):=by simpa using hc
  by_cases e:po<(C+R)*2
  ·have h2:=hc.2;rw[hcell _ e]at h2;obtain⟨s,A,n,c,c1,c2,-⟩:=hat (po / 2) (by omega);rcases(by omega:po=po / 2*2\/po=po / 2*2+1)with ho|ho
   ·rw[ho,c1]at h2;cases h2
   ·rw[ho,c2]at h2;cases h2
  ·have h2:=hc.2;rw[Array.getElem?_append_right (by simp;omega)]at h2;have h3:=(Array.getElem?_eq_some_iff.1 h2);obtain⟨h4,h5⟩:=h3;have h6:Value.int .u64 m∈(Builtin.zeroCells (Value.agg #[.bool false,.slice none 0 0]).cells (cp - (C+R))).toList:=by rw[<-h5];exact Array.getElem_mem_toList _
   unfold Builtin.zeroCells at h6;rw[Array.toList_map,List.mem_map]at h6;obtain⟨i,hi,h7⟩:=h6;have h8:(Value.agg #[.bool false,.slice none 0 0]).cells= #[.bool false,.slice none 0 0]:=rfl;rw[h8]at h7;have h9:i%(#[Value.bool false,.slice none 0 0]:Array Value).size=0\/i%(#[Value.bool false,.slice none 0 0]:Array Value).size=1:=by show i%2=0\/i%2=1;omega
   rcases h9 with h9|h9<;>rw[h9]at h7<;>cases h7
theorem f_3 {w:World}{ops:Array Oper}{rest:List Oper}{op:Oper}{a:Act}{Q:Exit->Act->World->Prop}(hgd:op.guard=none)(s x:Operand)
  (ho:op.op= .call { callee:=.builtin .append,args:=#[s,x],argTypes:=#[25,25] })
  {b b' g o C g' o' R c':Nat} {f f':Nat->Int} (hs:a.eval s=rwV g o C C) (hx:a.eval x=rwV g' o' R c') (h:Rw b w g o C f) (h':Rw b' w g' o' R f') (hR:0<R) (hz:C+R<=1048576)
  (K:∀cp w',Below w.heap.size w w'->Rw w.heap.size w' w.heap.size 0 (C+R) (cat2 C f f')->C+R<=cp->cp<=9223372036854775807->w'.heap.size=w.heap.size+1->wpList Tryz.prog ops Q rest (a.put op.dst (rwV w.heap.size 0 (C+R) cp)) w'):
  wpList Tryz.prog ops Q (op::rest) a w:=by
 obtain⟨cp,w',hrun,h1,h2,h3,h4,h5⟩:=i_5 (c':=c') h h' hR hz op.type;refine wpList_plain hgd fun K' hK'=>?_;unfold Oper.wp execOp;simp only[ho,resolve,invoke,builtin,Sem.run_bind,Sem.run_pure,Result.andThen_ok,List.map_toArray,List.map_cons,List.map_nil,hs,hx,hrun];exact hK' _ _ (K _ _ h1 h2 h3 h4 h5)
def bsm (C:Nat)(F:Nat->Nat->Int)(i:Nat):Nat->Int:=cat2 C (F i) fun j=>if i=j then 1 else 0
def BsPost (w:World)(R C k:Nat)(F:Nat->Nat->Int)(e:Ending)(w':World):Prop:=
 ∃L g cp,e= .returned (.slice (some ⟨L,0,none⟩) R R)/\Below w.heap.size w w'/\w.heap.size<=L/\Bx w' L 25 (rcs R (C+R) g (fun _=>0) cp)/\Rws w.heap.size w' R (C+R) g (fun _=>0) (bsm C F)/\(∀a,a<R->Bd (C+R) k (bsm C F a))/\∀a,a<R->C+R<=cp a/\cp a<=9223372036854775807
def rcm (R C g0 i:Nat)(g cp:Nat->Nat):List Value:=(List.range R).map fun a=>if a<i then rwV (g a) 0 (C+R) (cp a)else rwV g0 (a*C*2) C C
theorem r_a {R C g0 i a:Nat}{g cp:Nat->Nat}(h:a<R)(hi:i<=a):(rcm R C g0 i g cp)[a]? =some (rwV g0 (a*C*2) C C):=by simp[rcm,h,show ¬a<i by omega]
theorem p_g {R C g0 i x c:Nat}{g cp:Nat->Nat}(h:i<R):(rcm R C g0 i g cp).set i (rwV x 0 (C+R) c)=rcm R C g0 (i+1) (fun a=>if a=i then x else g a) fun a=>if a=i then c else cp a:=by
 apply List.ext_getElem
 ·simp[rcm]
 ·intro j h1 h2;rw[List.getElem_set];by_cases e:i=j
  ·subst e;simp[rcm]
  ·rw[if_neg e];have e':¬j=i:=fun h=>e h.symm;by_cases hj:j<i
   ·simp[rcm,hj,e',show j<i+1 by omega]
   ·simp[rcm,hj,show ¬j<i+1 by omega]
theorem q_k {q:Bool}{r c n d k:Nat}{A:Option Addr}{F:Nat->Nat->Int}{w:World}(ha:Mt q w r c A n d k F)(hk1:1<=k)(hk:k<=549755813888):Calls Tryz.prog 83 #[.agg #[.int .i64 (r:Int),.int .i64 (c:Int),.slice A n d]] w (BsPost w r c k F):=by
 have h3:=ha.hr;have h4:=ha.hc;obtain⟨w1,hw1,b1,z1,s1⟩:=boxes1 w 27 [.int .i64 (r:Int),.int .i64 (c:Int),.slice A n d];have HW:=Lib.hid hw1;have HZ:=Lib.hid z1;clear hw1 z1;go_enter Tryz.func83,Tryz.ntmps83
 go_upto_region 1 with fail
 rw[HW.out];have HA:=Lib.hid ha;clear ha;refine Run.start 7 ?_;refine .fa .o (fM0 0) ?_;refine .ld (.i 0) (ldInt b1 0) ?_;refine .c1 (.i 1) (x:=kT (kM true r r 1 (fun i j=>if i=j then 1 else 0)) (.k (.int .i64 0))) (by rintro u w4 hB rfl;exact p_r h3) ?_;refine .mf (.i 2) ?_;refine .ex (.i 3) 0 kT_0 ?_;refine .ex (.i 3) 1 kT_1 ?_;refine .al ?_;refine .donep [some 9,some 10,some 11,some 8,some 12,some 13,some 3] ?_;intro w2 B2;rintro v1 -;rintro v2 -;rintro v ⟨A3,n3,d3,rfl,hM⟩;rintro g3 hg3 hl3 hc3 -;refine sh [_,_] ?_;simp only[Act.put,lS,lZ,lC];have b3:=zeroM hc3;have B0:=zup HZ.out B2;have hl1:=b1.lt;replace b1:=b1.below B2;clear B2 hc3 HZ;obtain⟨w3,hw3⟩:∃x,mput w2 g3 (r:Int) (r:Int) A3 n3 d3=x:=⟨_,rfl⟩;obtain⟨f0_,f1_,f2_,f3_,f4_,f5_,f6_⟩:=b3.m3;replace b1:=b1.mo (g:=g3) (r:=(r:Int)) (c:=(r:Int)) (A:=A3) (n:=n3) (d:=d3) (by omega);rw[hw3]at b1;replace hM:=hM.put (r':=(r:Int)) (c':=(r:Int)) (C:=A3) (n':=n3) (d':=d3) b3;rw[hw3]at hM;replace B0:=a_j (g:=g3) (r:=(r:Int)) (c:=(r:Int)) (A:=A3) (n:=n3) (d:=d3) B0 (by omega);rw[hw3]at B0;replace b3:=b3.mp (g:=g3) (r:=(r:Int)) (c:=(r:Int)) (A:=A3) (n:=n3) (d:=d3);rw[hw3]at b3;have Hw3:=Lib.hid hw3;unfold mput at Hw3;clear hw3;go_upto_region 2 with fail
 rw[Hw3.out];clear f0_ f1_ f2_ f3_ f4_ f5_ f6_ Hw3;have HA3:=Lib.hid (HA.out.below B0);obtain⟨c0,c1,c2,-,-,-,-⟩:=b1.m3;have HM:=Lib.hid hM;have HB0:=Lib.hid B0;have HB1:=Lib.hid b1;have HB3:=Lib.hid b3;clear hM B0 b1 b3
 go_wp2_with fail
 refine(i_b HA3.out hk).mono ?_;rintro e w5 ⟨L,g0,rfl,B5,hL,bL,R0,hbd⟩;have HB5:=Lib.hid (zup HB0.out B5);have HM5:=Lib.hid (HM.out.below B5);have HL:=Lib.hid bL;have HR0:=Lib.hid R0;have HBD:=Lib.hid hbd;have hLl:=bL.lt;obtain⟨e0,e1,e2,-,-,-,-⟩:=(HB3.out.below B5).m3;have hs3:=HB0.out.size;have hs5:=B5.size;clear c0 c1 c2 B5 bL R0 hbd HA3 HM HB0 HB1
 go_wp2_with fail
 refine(i_b HM5.out (by omega)).mono ?_;rintro e w6 ⟨L1,g1,rfl,B6,hL1,bL1,R1,hbd1⟩;have HB6:=Lib.hid (zup HB5.out B6);have HL6:=Lib.hid (HL.out.below B6);have HR6:=Lib.hid (HR0.out.below B6);have HL1:=Lib.hid bL1;have HR1:=Lib.hid R1;have hl1l:=bL1.lt;have hs6:=B6.size;have hne:=fun a (h:a<r)=>HR6.out.ne HL6.out (by decide) h;have HNE:=Lib.hid hne;have HNE1:=Lib.hid (fun a (h:a<r)=>R1.ne HL6.out (by decide) h);clear B6 bL1 R1 hbd1 HM5 HL HR0 HB5 HB3 e0 e1 e2 hne
 go_wp2_with fail
 have HI:Hid (w6.grownBy w6 (some L)/\∃g cp,Bx w6 L 25 (rcm r c g0 0 g cp)/\(∀a,a<0->Rw w6.heap.size w6 (g a) 0 (c+r) (bsm c F a)/\c+r<=cp a/\cp a<=9223372036854775807)/\∀a a',a<0->a'<0->a≠a'->g a≠g a'):=Lib.hid ⟨a_6 _ _,fun _=>0,fun _=>0,by
  have e:rcm r c g0 0 (fun _=>0) (fun _=>0)=rcs r c (fun _=>g0) (fun a=>a*c*2) fun _=>c:=by simp[rcm,rcs]
  rw[e];exact HL6.out,fun a h=>by omega,fun a a' h=>by omega⟩
 go_loopw [19] (fun s19 wr=>∃i:Nat,s19= .int .i64 (i:Int)/\i<=r/\Hid (w6.grownBy wr (some L)/\∃g cp,Bx wr L 25 (rcm r c g0 i g cp)/\(∀a,a<i->Rw w6.heap.size wr (g a) 0 (c+r) (bsm c F a)/\c+r<=cp a/\cp a<=9223372036854775807)/\∀a a',a<i->a'<i->a≠a'->g a≠g a')) (fun s19 _=>r - (intOf s19).toNat)
 case atStart=>exact⟨0,rfl,Nat.zero_le _,HI⟩
 case round=>
  obtain⟨i,rfl,hir,HB⟩:=hrel;clear HI;by_cases hlt:i<r
  ·have u2:(i:Int)<(r:Int):=by omega
   obtain⟨hG,g,cp,bL,hR,hD⟩:=HB.out;have bL1:=a_t HL1.out hG (by omega);have hgs:=hG.size;have hw0:=(HR6.out.row i hlt).gro (HNE.out i hlt) (HL6.out.now (by intro v hv m e;obtain⟨a,-,rfl⟩:=List.mem_map.1 hv;cases e)) hG;have hw1:=(HR1.out.row i hlt).gro (HNE1.out i hlt) (HL6.out.now (by intro v hv m e;obtain⟨a,-,rfl⟩:=List.mem_map.1 hv;cases e)) hG;have x0:wr.cell? ⟨L1,i,none⟩=some (rwV g1 (i*r*2) r r):=(bL1.cell i).trans (e_j hlt);have x1:wr.cell? ⟨L,i,none⟩=some (rwV g0 (i*c*2) c c):=(bL.cell i).trans (r_a hlt (Nat.le_refl _));have y1:=bL.free i;have HBL:=Lib.hid bL;have HG:=Lib.hid hG;have HRI:=Lib.hid hR;have HD:=Lib.hid hD;obtain⟨o0,ho0⟩:∃x,i*c*2=x:=⟨_,rfl⟩;obtain⟨o1,ho1⟩:∃x,i*r*2=x:=⟨_,rfl⟩;rw[ho0]at x1 hw0;rw[ho1]at x0 hw1;clear HB bL1 bL hG hR hD ho0 ho1
   go_wp2_with (at_builtin;refine f_3 rfl _ _ rfl rfl rfl hw0 hw1 (by omega) (by omega) ?_)
   intro cpn w7 B7 hN hc1 hc2 hs7;have bL7:=HBL.out.below B7;have hL7:=bL7.lt;have y7:=bL7.free i;have x7:=(B7.cell (p:=⟨L,i,none⟩) HBL.out.lt).trans x1;have hnL:Wless w7 L:=bL7.now (by intro v hv m e;obtain⟨a,-,rfl⟩:=List.mem_map.1 hv;split at e<;>cases e);have hgr:=a_8 (q:=⟨L,i,none⟩) (a_6 w7 (some L)) rfl (rwV wr.heap.size 0 (c+r) cpn);have HI:Hid (w6.grownBy (w7.setCell ⟨L,i,none⟩ (rwV wr.heap.size 0 (c+r) cpn)) (some L)/\∃g cp,Bx (w7.setCell ⟨L,i,none⟩ (rwV wr.heap.size 0 (c+r) cpn)) L 25 (rcm r c g0 (i+1) g cp)/\(∀a,a<(i+1)->Rw w6.heap.size (w7.setCell ⟨L,i,none⟩ (rwV wr.heap.size 0 (c+r) cpn)) (g a) 0 (c+r) (bsm c F a)/\c+r<=cp a/\cp a<=9223372036854775807)/\∀a a',a<(i+1)->a'<(i+1)->a≠a'->g a≠g a'):=by
    refine Lib.hid ⟨a_i (a_i HG.out (a_2 B7 _)) hgr,_,_,by rw[<-p_g hlt];exact bL7.set i _,fun a ha=>?_,fun a a' ha ha' hne=>?_⟩
    ·by_cases e:a=i
     ·subst e;rw[if_pos rfl,if_pos rfl];exact⟨((hN.congr fun j _=>rfl).low hgs).gro (by omega) hnL hgr,hc1,hc2⟩
     ·rw[if_neg e,if_neg e];obtain⟨p1,p2,p3⟩:=HRI.out a (by omega);have hlo:=p1.lo;exact⟨(p1.below B7).gro (by omega) hnL hgr,p2,p3⟩
    ·by_cases e:a=i
     ·rw[if_pos e,if_neg (by omega)]
      have:=(HRI.out a' (by omega)).1.lt;omega
     ·rw[if_neg e];by_cases e2:a'=i
      ·rw[if_pos e2]
       have:=(HRI.out a (by omega)).1.lt;omega
      ·rw[if_neg e2];exact HD.out a a' (by omega) (by omega) hne
   clear hN B7 bL7 x0 x1 y1 hnL hgr hw0 hw1 HBL HG HRI HD
   go_wp2_with fail
   go_roundw
   case rel=>exact⟨i+1,by go_num,by omega,HI⟩
   case measure=>first|(simp[intOf];done)|(simp[intOf];omega)
  ·obtain rfl:i=r:=by omega
   have u2:¬(i:Int)<(i:Int):=by omega
   have P:Hid (BsPost w i c k F (.returned (.slice (some ⟨L,0,none⟩) i i)) wr):=by
    obtain⟨hG,g,cp,bL,hR,hD⟩:=HB.out;refine Lib.hid ⟨L,g,cp,rfl,g_s HB6.out hG (by omega),by omega, ?_,⟨fun a ha=>(hR a ha).1.low (by omega),fun a a' ha ha' hne=>.inl (hD a a' ha ha' hne)⟩,fun a ha j hj=>?_,fun a ha=>(hR a ha).2⟩
    ·have e:rcm i c g0 i g cp=rcs i (c+i) g (fun _=>0) cp:=by
      unfold rcm rcs;exact List.map_congr_left fun a ha=>by rw[if_pos (List.mem_range.1 ha)]
     rw[<-e];exact bL
    ·unfold bsm cat2;by_cases e:j<c
     ·rw[if_pos e];exact HBD.out a ha j e
     ·rw[if_neg e];have h1:18446744073709551616^1<=18446744073709551616^k:=g_h hk1;show(if a=j - c then(1:Int)else 0).natAbs<_
      split
      ·show 1<_;omega
      ·show 0<_;omega
   clear HB
   go_wp2_with fail
   exact bodyPost_ret (v:=.slice (some ⟨L,0,none⟩) i i) (by simp[results,Tryz.results83,go_sem]) rfl P.out
end
section
open Go.RowKit
theorem RowsAt.of {b:Nat}{w:World}{R W H k i:Nat}{g o cp:Nat->Nat}{A F:Nat->Nat->Int}{p:Nat->Option Nat}{v:Value}(T:TrOk b w R W H k g o cp A F p i)(hi:i<=R)(hcp:∀a,a<R->W<=cp a/\cp a<=9223372036854775807){base:Nat}(ho:OwnI w base 25 v (DT.rl p W).length ((DT.rl p W).map fun a=>rwV (g a) (o a) W (cp a))):∃B c,v= .slice B (DT.rl p W).length c/\RowsAt w B (DT.rl p W).length W (tm k W) (DT.srt F p W):=by
 obtain⟨B,c,e,-,-,h⟩:=ho.form;refine⟨B,c,e,fun h0=>?_⟩;obtain⟨x,e2,hx,hc⟩:=h h0;refine⟨x,e2,hx,fun j hj=>?_⟩;obtain⟨l,a,h1,h2,-,h3,-⟩:=T.tri.row hj;have ha:=T.tri.lt l a h1 h2;have hja:(DT.rl p W)[j]? =some ((DT.rl p W).getD j 0):=by simp[List.getD,hj]
 obtain⟨l',hl1,hl2,-⟩:=DT.rl_at (p:=p) hj;have ha':=T.tri.lt l' _ hl1 hl2;refine⟨_,_,hc j _ (by rw[List.getElem?_map,hja];rfl), ?_⟩;have hm:(DT.rl p W).getD j 0<R:=by omega
 exact(T.rws.row _ hm).zl (T.bd l' _ hl1 hl2) true (hcp _ hm).1 (hcp _ hm).2
theorem nwd_sl:∀u,u∈(Value.slice none 0 0).cells.toList->NWd u:=by
 intro u hu m e;subst e;simp[Value.cells]at hu
def TwPost (w:World)(W m:Nat)(F:Nat->Nat->Int)(p:Nat->Option Nat)(e:Ending)(w':World):Prop:=
 ∃B c,e= .returned (.slice B (DT.rl p W).length c)/\RowsAt w' B (DT.rl p W).length W m (DT.srt F p W)/\Below w.heap.size w w'
theorem o_o {b R W H k i:Nat}{g o cp:Nat->Nat}{A F:Nat->Nat->Int}{p:Nat->Option Nat}{w:World}(T:TrOk b w R W H k g o cp A F p i)(hi:i<=R)(hW:W<=1048576)(hcp:∀a,a<R->W<=cp a/\cp a<=9223372036854775807):
  Calls Tryz.prog 84 #[.slice (some ⟨H,0,none⟩) W W] w (TwPost w W (tm k W) F p):=by
 have HT:=Lib.hid T;have HCP:=Lib.hid hcp;clear T hcp;have HI:Hid (Below w.heap.size w w/\OwnI w w.heap.size 25 (.slice none 0 0) (DT.rl p 0).length ((DT.rl p 0).map fun a=>rwV (g a) (o a) W (cp a))):=Lib.hid ⟨Below.refl _ _,OwnI.nil _ _ _⟩;go_enter Tryz.func84,Tryz.ntmps84
 go_wp2_with fail
 go_loopw [3,8] (fun s3 s8 wr=>∃j:Nat,s8= .int .i64 (j:Int)/\j<=W/\Hid (Below w.heap.size w wr/\OwnI wr w.heap.size 25 s3 (DT.rl p j).length ((DT.rl p j).map fun a=>rwV (g a) (o a) W (cp a)))) (fun _ s8 _=>W - (intOf s8).toNat)
 case atStart=>exact⟨0,rfl,Nat.zero_le _,HI⟩
 case round=>
  obtain⟨j,rfl,hjW,HB⟩:=hrel;clear HI;by_cases hlt:j<W
  ·have u2:(j:Int)<(W:Int):=by omega
   obtain⟨B0,ho⟩:=HB.out;have b0:=HT.out.bx.below B0;clear HB;cases hpk:p j with
   |none=>
    have c0:wr.cell? ⟨H,j,none⟩=some (.slice none 0 0):=(b0.cell j).trans (d_y hlt hpk);have HPK:=Lib.hid hpk;have HO:=Lib.hid ho;clear ho hpk;go_upto_region 5 with fail
    refine Run.start 2 ?_;refine .mv .o ?_;refine .two (.i 0) .o (opSn (T:=0) rfl) ?_;refine .donep [some 12,some 13] ?_;intro w3 B3;refine sh [] ?_;simp only[Act.put,lS,lZ,lC];have HI:Hid (Below w.heap.size w w3/\OwnI w3 w.heap.size 25 u3 (DT.rl p (j+1)).length ((DT.rl p (j+1)).map fun a=>rwV (g a) (o a) W (cp a))):=Lib.hid ⟨zup B0 B3,by rw[DT.rl_none HPK.out];exact HO.out.below B3⟩;clear b0 B0 B3 HO c0
    go_wp2_with fail
    go_roundw
    case rel=>exact⟨j+1,by go_num,by omega,HI⟩
    case measure=>first|(simp[intOf];done)|(simp[intOf];omega)
   |some a=>
    have c0:wr.cell? ⟨H,j,none⟩=some (rwV (g a) (o a) W (cp a)):=(b0.cell j).trans (f_g hlt hpk);have HPK:=Lib.hid hpk;have HO:=Lib.hid ho;clear ho hpk;go_upto_region 5 with fail
    refine Run.start 2 ?_;refine .mv .o ?_;refine .two (.i 0) .o (opSn (T:=0) rfl) ?_;refine .donep [some 12,some 13] ?_;intro w3 B3;refine sh [] ?_;simp only[Act.put,lS,lZ,lC];have HO3:=Lib.hid (HO.out.below B3);have HB0:=Lib.hid (zup B0 B3);clear b0 B0 B3 c0 HO
    go_wp2_with (at_builtin;refine i_z rfl _ _ 98 rfl w.heap.size 25 24 (.slice none 0 0) Tryz.underlying98 info_zs rfl nwd_sl (by omega) u3 _ _ rfl (HO3.out.below (zba w3 _)) (Bx.new w3 25 [rwV (g a) (o a) W (cp a)]) rfl (fun m e=>by cases e) rfl (by have:=DT.rl_len_le p j;omega) (by have:=HB0.out.size;simp;omega) ?_)
    intro v5 w5 ho5 hG;have HI:Hid (Below w.heap.size w w5/\OwnI w5 w.heap.size 25 v5 (DT.rl p (j+1)).length ((DT.rl p (j+1)).map fun a=>rwV (g a) (o a) W (cp a))):=Lib.hid ⟨(HO3.out.below (zba w3 (.cells #[rwV (g a) (o a) W (cp a)] 25))).up (zup HB0.out (zba w3 _)) hG (Nat.le_refl _),by
     rw[DT.rl_some HPK.out,List.length_append,List.map_append];exact ho5⟩
    clear ho5 hG HO3 HB0
    go_wp2_with fail
    go_roundw
    case rel=>exact⟨j+1,by go_num,by omega,HI⟩
    case measure=>first|(simp[intOf];done)|(simp[intOf];omega)
  ·obtain rfl:j=W:=by omega
   have u2:¬(j:Int)<(j:Int):=by omega
   obtain⟨B0,ho⟩:=HB.out;obtain⟨B,c,rfl,hr⟩:=RowsAt.of (HT.out.below B0) hi HCP.out ho;have P:Hid (TwPost w j (tm k j) F p (.returned (.slice B (DT.rl p j).length c)) wr):=Lib.hid ⟨B,c,rfl,hr,B0⟩;clear HB ho hr B0
   go_wp2_with fail
   exact bodyPost_ret (v:=.slice B (DT.rl p j).length c) (by simp[results,Tryz.results84,go_sem]) rfl P.out
end
section
structure HermOk (R C:Nat) (F H U:Nat->Nat->Int):Prop where
 mul:∀i j,i<R->j<C->H i j=DT.sumN R fun l=>U i l*F l j
 un:DT.det R U=1\/DT.det R U= -1
 hm:DT.Herm R C H
 lat:∀v,DT.Lat R C H v↔DT.Lat R C F v
theorem o_l {x y:Int}(h:x*y=1):y=1\/y= -1:=by
 have h1:=congrArg Int.natAbs h;rw[Int.natAbs_mul]at h1;have h2:y.natAbs=1:=Nat.dvd_one.mp ⟨_,by rw[Nat.mul_comm];exact h1.symm⟩;omega
theorem o_c {C i j:Nat}{F:Nat->Nat->Int}(h:j<C):bsm C F i j=F i j:=by unfold bsm cat2;rw[if_pos h]
theorem i_x {C i j:Nat}{F:Nat->Nat->Int}:bsm C F i (C+j)=DT.one i j:=by
 unfold bsm cat2 DT.one;rw[if_neg (by omega),Nat.add_sub_cancel_left]
section
variable {R C r:Nat}{F G:Nat->Nat->Int}
theorem n_b {V:Nat}(h:DT.Herm R V G)(hC:C<=V):DT.Herm R C G:=by
 have e:∀i,DT.fst C (G i)<C->DT.fst V (G i)=DT.fst C (G i):=fun i hi=>DT.fst_of (by omega) (fun j hj=>DT.fst_zero hj) (DT.fst_ne hi);have e2:∀i,DT.fst V (G i)<C->DT.fst C (G i)=DT.fst V (G i):=fun i hi=>DT.fst_of hi (fun j hj=>DT.fst_zero hj) (DT.fst_ne (C:=V) (by omega));refine⟨fun i hi hlt=>?_,fun i hi hlt=>?_,fun i hi hlt r hr=>?_⟩
 ·have h1:=h.up i hi (by rw[e _ hlt];omega);rw[e _ hlt]at h1;rw[e2 i (by omega)];exact h1
 ·have:=h.pos i hi (by rw[e _ hlt];omega);rwa [e _ hlt]at this
 ·have:=h.red i hi (by rw[e _ hlt];omega) r hr;rwa [e _ hlt]at this
theorem l_t (h:DT.Steps r (C+R) G)(hn:∀l,l<r->DT.fst (C+R) (G l)<C+R)(e:∀v,DT.Lat r (C+R) G v↔DT.Lat R (C+R) (bsm C F) v):r=R:=by
 have hX:∀i,∃x:Nat->Int,i<r->∀j,j<C+R->G i j=DT.sumN R fun l=>x l*bsm C F l j:=fun i=>by
  by_cases hi:i<r
  ·obtain⟨x,hx⟩:=(e (G i)).mp (DT.Lat.row _ _ _ hi);exact⟨x,fun _=>hx⟩
  ·exact⟨fun _=>0,fun h=>absurd h hi⟩
 obtain⟨X,hX2⟩:=Classical.axiomOfChoice hX;have hZ:∀i,∃x:Nat->Int,i<R->∀j,j<C+R->bsm C F i j=DT.sumN r fun l=>x l*G l j:=fun i=>by
  by_cases hi:i<R
  ·obtain⟨x,hx⟩:=(e (bsm C F i)).mpr (DT.Lat.row _ _ _ hi);exact⟨x,fun _=>hx⟩
  ·exact⟨fun _=>0,fun h=>absurd h hi⟩
 obtain⟨Z,hZ2⟩:=Classical.axiomOfChoice hZ;rcases Nat.lt_trichotomy r R with h1|h1|h1
 ·exfalso
  have h2:=DT.det_thin h1 Z fun a j=>G a (C+j);have h3:DT.det R DT.one=DT.det R fun i j=>DT.sumN r fun a=>Z i a*G a (C+j):=DT.det_ext fun i j hi hj=>by
   rw[<-hZ2 i hi (C+j) (by omega),i_x]
  rw[DT.det_one,h2]at h3;exact absurd h3 (by decide)
 ·exact h1
 ·exfalso
  have h2:=DT.det_thin h1 X fun a j=>bsm C F a (DT.fst (C+R) (G j));have h3:DT.det r (fun i j=>G i (DT.fst (C+R) (G j)))=DT.det r fun i j=>DT.sumN R fun a=>X i a*bsm C F a (DT.fst (C+R) (G j)):=DT.det_ext fun i j hi hj=>hX2 i hi _ (hn j hj);rw[h2,h.det hn]at h3;exact DT.prod_ne (fun k hk=>DT.fst_ne (hn k hk)) h3
theorem q_l (h:DT.Herm R (C+R) G)(e:∀v,DT.Lat R (C+R) G v↔DT.Lat R (C+R) (bsm C F) v):HermOk R C F G fun i j=>G i (C+j):=by
 have hmul:∀i,i<R->∀j,j<C->G i j=DT.sumN R fun l=>G i (C+l)*F l j:=fun i hi j hj=>by
  obtain⟨y,hy⟩:=(e (G i)).mp (DT.Lat.row _ _ _ hi);rw[hy j (by omega)];refine DT.sum_ext fun l hl=>?_;rw[o_c hj];congr 1
  rw[hy (C+l) (by omega),DT.sum_one hl fun k hk hne=>by rw[i_x,DT.one_ne hne,Int.mul_zero]];rw[i_x,DT.one_self,Int.mul_one]
 have hZ:∀i,∃x:Nat->Int,i<R->∀j,j<C+R->bsm C F i j=DT.sumN R fun l=>x l*G l j:=fun i=>by
  by_cases hi:i<R
  ·obtain⟨x,hx⟩:=(e (bsm C F i)).mpr (DT.Lat.row _ _ _ hi);exact⟨x,fun _=>hx⟩
  ·exact⟨fun _=>0,fun h=>absurd h hi⟩
 obtain⟨Z,hZ2⟩:=Classical.axiomOfChoice hZ;refine⟨fun i j hi hj=>hmul i hi j hj, ?_,n_b h (by omega), ?_⟩
 ·refine o_l (x:=DT.det R Z) ?_;rw[<-DT.det_mul];refine(DT.det_ext fun i j hi hj=>?_).trans (DT.det_one R);show DT.sumN R (fun l=>Z i l*G l (C+j))=DT.one i j
  rw[<-hZ2 i hi (C+j) (by omega),i_x]
 ·refine DT.lat_both (fun i hi=>⟨fun l=>G i (C+l),hmul i hi⟩) (fun i hi=>⟨Z i,fun j hj=>?_⟩);rw[<-hZ2 i hi j (by omega),o_c hj]
end
noncomputable def hvf (R C:Nat)(F:Nat->Nat->Int):Nat->Nat->Int:=open Classical in if h:∃G:Nat->Nat->Int,DT.Herm R (C+R) G/\∀v,DT.Lat R (C+R) G v↔DT.Lat R (C+R) (bsm C F) v then Classical.choose h else fun _ _=>0
theorem m_9 {R C:Nat}{F G:Nat->Nat->Int}(h:DT.Herm R (C+R) G)(e:∀v,DT.Lat R (C+R) G v↔DT.Lat R (C+R) (bsm C F) v):HermOk R C F (hvf R C F) (fun i j=>hvf R C F i (C+j))/\∀i j,i<R->j<C+R->hvf R C F i j=G i j:=by
 have he:∃G:Nat->Nat->Int,DT.Herm R (C+R) G/\∀v,DT.Lat R (C+R) G v↔DT.Lat R (C+R) (bsm C F) v:=⟨G,h,e⟩;have hs:=Classical.choose_spec he;have hv:hvf R C F=Classical.choose he:=by unfold hvf;rw[dif_pos he]
 rw[<-hv]at hs;exact⟨q_l hs.1 hs.2,DT.herm_uniq hs.1 h fun v=>(hs.2 v).trans (e v).symm⟩
structure LatOk (R C r:Nat) (F G:Nat->Nat->Int):Prop where
 hm:DT.Herm r C G
 full:∀l,l<r->DT.fst C (G l)<C
 lat:∀v,DT.Lat r C G v↔DT.Lat R C F v
theorem TrOk.form {b:Nat}{w:Go.World}{R W H k i:Nat}{g o cp:Nat->Nat}{A F:Nat->Nat->Int}{p:Nat->Option Nat}(T:TrOk b w R W H k g o cp A F p i):LatOk i W (DT.rl p W).length A (DT.srt F p W):=
 ⟨T.tri.herm T.rdc,fun l hl=>T.tri.full hl,fun v=>(T.tri.lat T.rst v).trans (T.lat v)⟩
end
section
open Go.RowKit
def hbd (k W:Nat):Prop:=1<=k/\k<=549755813888/\t1 k W*(W+3)<=68719476736
noncomputable def kHm (R C k:Nat)(F:Nat->Nat->Int):FK:=kT3 (kP (HermOk R C F (hvf R C F) fun i j=>hvf R C F i (C+j)) (kM true R C k (hvf R C F))) (kM true R R k fun i j=>hvf R C F i (C+j)) (.k (.int .i64 0))
def HePost (w:World)(R C k:Nat)(F:Nat->Nat->Int)(A:Option Addr)(r:Nat)(w':World):Prop:=
 Below w.heap.size w w'/\r=R/\∃G:Nat->Nat->Int,RowsAt w' A R (C+R) k G/\DT.Herm R (C+R) G/\∀v,DT.Lat R (C+R) G v↔DT.Lat R (C+R) (bsm C F) v
theorem f_w {q:Bool}{r c n d k:Nat}{A:Option Addr}{F:Nat->Nat->Int}{w:World}(ha:Mt q w r c A n d k F)(hk:hbd k (c+r)):Calls Tryz.prog 33 #[.agg #[.int .i64 (r:Int),.int .i64 (c:Int),.slice A n d]] w (RetK (kHm r c (tm k (c+r)) F) w):=by
 have h1:=ha.fmd;have h3:=ha.hr;have h4:=ha.hc;obtain⟨hk1,hk2,hk3⟩:=hk;have HA:=Lib.hid ha;have HK:=Lib.hid hk3;clear ha hk3;obtain⟨w1,hw1,b1,b2,b3,z1,s1⟩:=boxes3 w 27 27 27 [.int .i64 (r:Int),.int .i64 (c:Int),.slice A n d] [.int .i64 0,.int .i64 0,.slice none 0 0] [.int .i64 0,.int .i64 0,.slice none 0 0];have HW:=Lib.hid hw1;have HZ:=Lib.hid z1;have h1_:=Lib.hid h1;clear hw1 z1 h1;go_enter Tryz.func33,Tryz.ntmps33
 go_upto_region 1 with fail
 rw[HW.out];refine Run.start 3 ?_;refine .ld .o (ldM b1 0) ?_;refine .c1 (.i 0) (x:=.k (.bool true)) (by rintro u w4 hB rfl;exact b_f h1_.out w4) ?_;refine .nt (.i 1) ?_;refine .donep [some 6,some 7,some 8] ?_;intro w2 B2;refine sh [] ?_;simp only[Act.put,lS,lZ,lC];have BW:=zup HZ.out B2;replace b1:=b1.below B2;replace b2:=b2.below B2;replace b3:=b3.below B2;have HA2:=Lib.hid (HA.out.below BW);have hs1:=s1;have hs2:=B2.size;have HB1:=Lib.hid b1;have HB2:=Lib.hid b2;have HB3:=Lib.hid b3;have HBW:=Lib.hid BW;have hl1:=b1.lt;obtain⟨c0,c1,c2,-,-,-,-⟩:=b1.m3;have d0:=(b1.below (a_a w2)).cell 0;obtain⟨V,hV⟩:∃V,c+r=V:=⟨_,rfl⟩;have hsum:IntKind.i64.wrap ((c:Int)+(r:Int))=(V:Int):=by rw[IntKind.wrap_i64];omega
 rw[hV]at HK;have hVl:V<=128:=by omega
 have HV:=Lib.hid hV;clear b1 b2 b3 B2 BW HZ s1 d0 HA hV;go_upto_region 3 with fail
 go_region_held3 (fun w'=>w'.cell? ⟨w.heap.size,0,none⟩=some (.int .i64 (r:Int))/\w'.cell? ⟨w.heap.size,1,none⟩=some (.int .i64 (c:Int))/\w'.cell? ⟨w.heap.size,2,none⟩=some (.slice A n d)) (go_keep) (first
  |(go_at_call 83;(with_reducible refine(q_k (HA2.out.below (a_a _)) hk1 hk2).mono ?_);rintro e w4 ⟨L,g,cp,rfl,B4,hL,bL,R4,hbd4,hcp⟩;have Q4:=zup (a_a _) B4;rw[HV.out]at bL R4 hbd4 hcp;obtain⟨x0,x1,x2,-,-,-,-⟩:=(HB1.out.below Q4).m3)
  |(go_at_call 82;(with_reducible refine(q_t bL R4 B4.size hcp hbd4 (by omega) (by omega) HK.out).mono ?_);rintro e w5 ⟨H,Fh,p,rfl,hH,T,hC⟩;have Q5:=hC.up Q4 (by have:=Q4.size;omega) (fun a ha=>by have:=(R4.row a ha).lo;have:=a_a w2;have:=this.size;omega);obtain⟨y0,y1,y2,-,-,-,-⟩:=(HB1.out.below Q5).m3)
  |(go_at_call 84;(with_reducible refine(o_o T (Nat.le_refl _) (by omega) hcp).mono ?_);rintro e w6 ⟨Br,cr,rfl,hRA,B6⟩;have Q6:=zup Q5 B6;obtain⟨z0,z1,z2,-,-,-,-⟩:=(HB1.out.below Q6).m3)
  |fail)
 have HP:Hid (HePost w2 r c (tm k V) F Br (DT.rl p V).length w6):=by
  have hf:=T.form;have hV:=HV.out;subst hV;have hrr:=l_t hf.hm.steps hf.full hf.lat;rw[hrr]at hf hRA ⊢;exact Lib.hid ⟨Q6,rfl,_,hRA,hf.hm,hf.lat⟩
 have hbr:=HP.out.2.1;obtain⟨Lr,hLr⟩:∃x,(DT.rl p V).length=x:=⟨_,rfl⟩;rw[hLr]at HP hbr ⊢;have HB1':=Lib.hid (HB1.out.below Q6);have HB2':=Lib.hid (HB2.out.below Q6);have HB3':=Lib.hid (HB3.out.below Q6);have HQ6:=Lib.hid Q6;have hs6:=Q6.size;clear T hRA hC bL R4 hbd4 hcp B4 B6 Q4 Q5 Q6 x0 x1 x2 y0 y1 y2 z0 z1 z2 c0 c1 c2 HB1 HB2 HB3 hLr hH hL;obtain⟨G,HG⟩:∃G,Hid (RowsAt w6 Br r V (tm k V) G/\DT.Herm r V G/\∀v,DT.Lat r V G v↔DT.Lat r V (bsm c F) v):=by
  obtain⟨-,-,G,h1,h2,h3⟩:=HP.out;rw[HV.out]at h1 h2 h3;exact⟨G,Lib.hid ⟨h1,h2,h3⟩⟩
 clear HP;subst hbr;have hV1:c+Lr<=V:=by have:=HV.out;omega
 have hV2:V<=c+Lr:=by have:=HV.out;omega
 have b1:=HB1'.out;have b2:=HB2'.out;have b3:=HB3'.out;go_upto_region 4 with fail
 refine Run.start 13 ?_;refine .mv .o ?_;refine .fa .o (fM1 1) ?_;refine .ld (.i 1) (ldInt b1 1) ?_;refine .c3 (.i 0) .o (.i 2) (x:=kM true Lr c (tm k V) G) (by rintro u v x w7 hB rfl rfl rfl;have h:=k_l (lo:=0) (hi:=c) (cA:=cr) (HG.out.1.below hB) (by omega) (by omega) (by omega) h3 (by omega);simp only[Nat.sub_zero,Nat.zero_add]at h;exact h) ?_;refine .mv .o ?_;refine .fa .o (fM1 1) ?_;refine .ld (.i 5) (ldInt b1 1) ?_;refine .fa .o (fM1 1) ?_;refine .ld (.i 7) (ldInt b1 1) ?_;refine .fa .o (fM0 0) ?_;refine .ld (.i 9) (ldInt b1 0) ?_;refine .two (.i 8) (.i 10) (opAdd (show(c:Int)+(Lr:Int)=(V:Int) by omega) (by omega) (by omega)) ?_;refine .c3 (.i 4) (.i 6) (.i 11) (x:=kM true Lr Lr (tm k V) fun i j=>G i (c+j)) (by rintro u v x w7 hB rfl rfl rfl;have h:=k_l (lo:=c) (hi:=V) (cA:=cr) (HG.out.1.below hB) (by omega) (Nat.le_refl _) (by omega) h3 (by omega);rw[show V - c=Lr by omega]at h;exact h) ?_;refine .done [some 20,some 21,some 22,some 23,some 24,some 25,some 26,some 27,some 28,some 29,some 30,some 31,some 32] ?_;intro w7 B7;rintro v ⟨A5,n5,d5,rfl,m5⟩;rintro v ⟨A6,n6,d6,rfl,m6⟩;refine sh [_,_,_] ?_;simp only[Act.put,lS,lZ,lC];have HBW7:=Lib.hid (zup (zup HBW.out HQ6.out) B7);replace b2:=b2.below B7;replace b3:=b3.below B7;have hsp:=m_9 (R:=Lr) (C:=c) (F:=F) (G:=G) (by have h:=HG.out.2.1;rw[<-HV.out]at h;exact h) (by have h:=HG.out.2.2;rw[<-HV.out]at h;exact h);have hm1:=(m5.congr (G:=hvf Lr c F) fun i j hi hj=>(hsp.2 i j hi (by omega)).symm);have hm2:=(m6.congr (G:=fun i j=>hvf Lr c F i (c+j)) fun i j hi hj=>(hsp.2 i (c+j) hi (by omega)).symm);have P:Hid (RetK (kHm Lr c (tm k (c+Lr)) F) w (.returned (.tuple #[.agg #[.int .i64 (Lr:Int),.int .i64 (c:Int),.slice A5 n5 d5],.agg #[.int .i64 (Lr:Int),.int .i64 (Lr:Int),.slice A6 n6 d6],.int .i64 0])) (mput (mput w7 (w.heap.size+1) (Lr:Int) (c:Int) A5 n5 d5) (w.heap.size+1+1) (Lr:Int) (Lr:Int) A6 n6 d6)):=by
  rw[HV.out];have h2:=hm1.put (r':=(Lr:Int)) (c':=(c:Int)) (C:=A5) (n':=n5) (d':=d5) b2;have h3:=hm2.put (r':=(Lr:Int)) (c':=(c:Int)) (C:=A5) (n':=n5) (d':=d5) b2;have b3':=b3.mo (g:=w.heap.size+1) (r:=(Lr:Int)) (c:=(c:Int)) (A:=A5) (n:=n5) (d:=d5) (by omega);exact Lib.hid ⟨_,rfl,⟨_,_,_,rfl,⟨⟨_,_,_,rfl,h2.put b3'⟩,hsp.1⟩,⟨_,_,_,rfl,h3.put b3'⟩,rfl⟩,a_j (a_j HBW7.out (by omega)) (by omega)⟩
 unfold mput at P;obtain⟨i0,i1,i2,i3,i4,i5,i6⟩:=b2.m3;have b3':=b3.mo (g:=w.heap.size+1) (r:=(Lr:Int)) (c:=(c:Int)) (A:=A5) (n:=n5) (d:=d5) (by omega);have b2':=b2.mp (r:=(Lr:Int)) (c:=(c:Int)) (A:=A5) (n:=n5) (d:=d5);unfold mput at b3' b2';obtain⟨j0,j1,j2,j3,j4,j5,j6⟩:=b3'.m3;have nn:¬(w.heap.size+1=w.heap.size+1+1):=by omega
 have b2q:=b2'.mo (g:=w.heap.size+1+1) (r:=(Lr:Int)) (c:=(Lr:Int)) (A:=A6) (n:=n6) (d:=d6) (by omega);have b3q:=b3'.mp (r:=(Lr:Int)) (c:=(Lr:Int)) (A:=A6) (n:=n6) (d:=d6);unfold mput at b2q b3q;obtain⟨p0,p1,p2,-,-,-,-⟩:=b2q.m3;obtain⟨q0,q1,q2,-,-,-,-⟩:=b3q.m3;clear hm1 hm2 hsp m5 m6 b1 b2 b3 b2' b3' b2q b3q B7
 go_wp2_with fail
 exact bodyPost_ret (v:=.tuple #[.agg #[.int .i64 (Lr:Int),.int .i64 (c:Int),.slice A5 n5 d5],.agg #[.int .i64 (Lr:Int),.int .i64 (Lr:Int),.slice A6 n6 d6],.int .i64 0]) (by simp[results,Tryz.results33,go_sem,p0,p1,p2,q0,q1,q2]) rfl P.out
end
end Go.Proofs.YtfhbdlegkdbmfaaGreat
