/- Pb33 -/
import Derived.Test.YtlgjjnmmepgafaaPb32
import Derived.Deep.RegionWith
import Derived.Test.YtlgjjnmmepgafaaPb30
set_option linter.unusedVariables false
set_option linter.unusedSimpArgs false
set_option linter.unusedSectionVars false
set_option maxRecDepth 100000
set_option maxHeartbeats 8000000
namespace Go.Proofs.Ytlgjjnmmepgafaa
section
open Go.RowKit
def splice (zs ys:List Int)(m:Nat):List Int:=zs.take m++ys++zs.drop (m+ys.length)
theorem r_d {g i c:Nat}:Value.slice (if(i+1)*c=i*c then some ⟨g,0,none⟩else(some (⟨g,0,none⟩:Addr)).map (·.add (i*c*2))) ((i+1)*c - i*c) ((i+1)*c - i*c)=rwV g (i*c*2) c c:=by
 have h:(i+1)*c=i*c+c:=Nat.succ_mul i c;have h2:(i+1)*c - i*c=c:=by omega
 rw[h2];unfold rwV;by_cases e:c=0
 ·subst e;simp
 ·rw[if_neg (by omega),Option.map_some,b_d]
theorem ZB.rw {w:World}{b g k r c:Nat}{F:Nat->Nat->Int}(h:ZB w g k (mk r c F))(hb:b<=g){a:Nat}(ha:a<r):Rw b w g (a*c*2) c (F a):=by
 have hno:=h.now;obtain⟨cs,h1,h2,h3⟩:=h;rw[a_y]at h2 h3;have h5:(a+1)*c<=r*c:=Nat.mul_le_mul_right c ha;rw[Nat.succ_mul]at h5;refine⟨⟨cs,h1,by omega,fun j hj=>?_⟩,hno,hb⟩;obtain⟨s,A,n,d,c1,c2,c3,-⟩:=h3 (a*c+j) (f_y ha hj);rw[h_f ha hj]at c3;rw[Nat.add_mul]at c1 c2;exact⟨s,A,n,d,c1,c2,c3⟩
theorem ZB.bd {w:World}{g k r c:Nat}{F:Nat->Nat->Int}(h:ZB w g k (mk r c F)){a:Nat}(ha:a<r):Bd c k (F a):=fun j hj=>by
 obtain⟨cs,h1,h2,h3⟩:=h;rw[a_y]at h3;obtain⟨s,A,n,d,c1,c2,c3,c4⟩:=h3 (a*c+j) (f_y ha hj);rw[h_f ha hj]at c3;exact c3.lt c4
def RwOfPost (w:World)(r c k:Nat)(F:Nat->Nat->Int)(e:Ending)(w':World):Prop:=
 ∃H g0,e= .returned (.slice (some ⟨H,0,none⟩) r r)/\Below w.heap.size w w'/\w.heap.size<=H/\Bx w' H 22 (rcs r c (fun _=>g0) (fun a=>a*c*2) fun _=>c)/\Rws w.heap.size w' r c (fun _=>g0) (fun a=>a*c*2) F/\∀a,a<r->Bd c k (F a)
theorem q_7 {q:Bool}{r c n d k:Nat}{A:Option Addr}{F:Nat->Nat->Int}{w:World}(ha:Mt q w r c A n d k F)(hk:k<=549755813888):Calls Try.prog 57 #[.agg #[.int .i64 (r:Int),.int .i64 (c:Int),.slice A n d]] w (RwOfPost w r c k F):=by
 have h1:=ha.fmd;have h3:=ha.hr;have h4:=ha.hc;obtain⟨w1,hw1,b1,z1,s1⟩:=boxes1 w 24 [.int .i64 (r:Int),.int .i64 (c:Int),.slice A n d];have HW:=Lib.hid hw1;have HZ:=Lib.hid z1;clear hw1 z1 s1 h1;go_enter Try.func57,Try.ntmps57
 go_upto_region 1 with fail
 rw[HW.out];refine Run.start 6 ?_;refine .ld .o (ldM b1 0) ?_;refine .c1 (.i 0) (x:=kT (kMB w.heap.size r c k F) (.k (.int .i64 0))) (by rintro u w2 hB rfl;exact(p_d (ha.below (zup HZ.out hB)) (by omega)).mono fun e w' h=>h.mono fun v w ⟨a,b,e,h1,h2⟩=>⟨a,b,e,IsMB.lo (zup HZ.out hB).size _ _ h1,h2⟩) ?_;refine .mf (.i 1) ?_;refine .ex (.i 2) 0 kT_0 ?_;refine .ex (.i 2) 1 kT_1 ?_;refine .al ?_;refine .donep [some 8,some 9,some 7,some 10,some 11,some 3] ?_;intro w2 B2;rintro v9 -;rintro v7 -;rintro v ⟨g0,N0,rfl,eN,hM,hge,-,-⟩;rintro g3 hg3 hl3 hc3 -;refine sh [_,_] ?_;simp only[Act.put,lS,lZ,lC];have b3:=zeroM hc3;have B0:=zup HZ.out B2;have hl1:=b1.lt;replace b1:=b1.below B2;clear B2 hc3 ha HZ;obtain⟨w3,hw3⟩:∃x,mput w2 g3 (r:Int) (c:Int) (some ⟨g0,0,none⟩) N0 N0=x:=⟨_,rfl⟩;obtain⟨f0_,f1_,f2_,f3_,f4_,f5_,f6_⟩:=b3.m3;replace b1:=b1.mo (g:=g3) (r:=(r:Int)) (c:=(c:Int)) (A:=some ⟨g0,0,none⟩) (n:=N0) (d:=N0) (by omega);rw[hw3]at b1;have HEN:=Lib.hid eN;clear eN;have n03:g0≠g3:=by obtain⟨cs,x1,-⟩:=hM;exact r_f x1 b3 (by decide)
 replace hM:=hM.gro n03 (b3.now (by simp)) (c_s w2 g3 (r:Int) (c:Int) (some ⟨g0,0,none⟩) N0 N0);rw[hw3]at hM;replace B0:=a_q (g:=g3) (r:=(r:Int)) (c:=(c:Int)) (A:=some ⟨g0,0,none⟩) (n:=N0) (d:=N0) B0 (by omega);rw[hw3]at B0;replace b3:=b3.mp (g:=g3) (r:=(r:Int)) (c:=(c:Int)) (A:=some ⟨g0,0,none⟩) (n:=N0) (d:=N0);rw[hw3]at b3;have Hw3:=Lib.hid hw3;unfold mput at Hw3;clear hw3;go_upto_region 2 with fail
 rw[Hw3.out];clear f0_ f1_ f2_ f3_ f4_ f5_ f6_ Hw3;refine Run.start 4 ?_;refine .fa .o (fM0 0) ?_;refine .ld (.i 0) (ldInt b1 0) ?_;refine .mkS (.i 1) (r:=r) (b0:=w3.heap.size) (by omega) (Nat.le_refl _) ?_;refine .mf (.i 2) ?_;refine .donep [some 12,some 13,some 14,some 5] ?_;intro w5 B5;rintro v14 -;rintro v5 ⟨H,rfl,bh,hH⟩;refine sh [] ?_;simp only[Act.put,lS,lZ,lC];have hs3:=B0.size;replace B0:=zup B0 B5;have hown:=Lib.hid hM;have hl3:=b3.lt;replace b1:=b1.below B5;replace b3:=b3.below B5;replace hM:=hM.below B5;have hg0l:=hown.out.lt;clear hown B5;go_upto_region 3 with fail
 refine Run.start 3 ?_;refine .mv .o ?_;refine .len (.i 0) Try.underlying59 ?_;refine .mv .o ?_;refine .donep [some 15,some 16,some 17] ?_;intro w6 B6;refine sh [] ?_;simp only[Act.put,lS,lZ,lC];replace B0:=zup B0 B6;replace b1:=b1.below B6;replace b3:=b3.below B6;replace bh:=bh.below B6;replace hM:=hM.below B6;have hg0:=hM.lt;have hno:Wless w6 H:=bh.now (by intro v hv m e;rw[(List.mem_replicate.1 hv).2]at e;cases e);have HN:=Lib.hid hno;have HB1:=Lib.hid b1;have HB3:=Lib.hid b3;have HBH:=Lib.hid bh;have HM:=Lib.hid hM;have HB0:=Lib.hid B0;clear hno b1 b3 bh hM B0 B6
 go_wp2_with fail
 go_loopw [17] (fun s17 wr=>∃i:Nat,s17= .int .i64 (i:Int)/\i<=r/\Hid (w6.grownBy wr (some H)/\∃rows,Bx wr H 22 rows/\rows.length=r/\∀a,a<i->rows[a]? =some (rwV g0 (a*c*2) c c))) (fun s17 _=>r - (intOf s17).toNat)
 case atStart=>exact⟨0,rfl,Nat.zero_le _,Lib.hid ⟨a_2 _ _,_,HBH.out,by simp,fun a ha=>by omega⟩⟩
 case round=>
  obtain⟨i,rfl,hir,HB⟩:=hrel;obtain⟨hgr,rows,hb,hlr,hall⟩:=HB.out;by_cases hlt:i<r
  ·have u2:(i:Int)<(r:Int):=by omega
   have hr5:(i+1)*c<=r*c:=Nat.mul_le_mul_right c hlt;have hr6:r*c<=64*64:=Nat.mul_le_mul h3 h4;have hr7:i*c<=(i+1)*c:=Nat.mul_le_mul_right c (Nat.le_succ i);have b1:=c_x HB1.out hgr (by omega);have b3:=c_x HB3.out hgr (by omega);have HGr:=Lib.hid hgr;have HA:=Lib.hid hall;clear HB hgr hall;go_upto_region 6 with fail
   refine Run.start 20 ?_;refine .mv .o ?_;refine .mv .o ?_;refine .fa .o (fM2 2) ?_;refine .ld (.i 2) (ldSl b3 2) ?_;refine .mv .o ?_;refine .fa .o (fM1 1) ?_;refine .ld (.i 5) (ldInt b1 1) ?_;refine .two (.i 4) (.i 6) (opMulN i c (by omega)) ?_;refine .mv .o ?_;refine .two (.i 8) .o (opAddN i 1 (by omega)) ?_;refine .fa .o (fM1 1) ?_;refine .ld (.i 10) (ldInt b1 1) ?_;refine .two (.i 9) (.i 11) (opMulN (i+1) c (by omega)) ?_;refine .mv .o ?_;refine .two (.i 13) .o (opAddN i 1 (by omega)) ?_;refine .fa .o (fM1 1) ?_;refine .ld (.i 15) (ldInt b1 1) ?_;refine .two (.i 14) (.i 16) (opMulN (i+1) c (by omega)) ?_;refine .sl3 (.i 3) (.i 7) (.i 12) (.i 17) (A:=some ⟨g0,0,none⟩) (n:=N0) (cap:=N0) hr7 (Nat.le_refl _) (by have:=HEN.out;omega) ?_;refine .two (.i 0) (.i 1) (opIxS hlt) ?_;refine .donep [some 20,some 21,some 22,some 23,some 24,some 25,some 26,some 27,some 28,some 29,some 30,some 31,some 32,some 33,some 34,some 35,some 36,some 37,some 38,some 39] ?_;intro w7 B7;refine sh [_] ?_;simp only[Act.put,lS,lZ,lC];rw[r_d (g:=g0) (i:=i) (c:=c)];obtain⟨vr,hvr⟩:∃vr,rwV g0 (i*c*2) c c=vr:=⟨_,rfl⟩;rw[hvr];have hb7:=hb.below B7;have x1:=(hb7.cell i).trans (List.getElem?_eq_getElem (by rw[hlr];exact hlt));have y1:=hb7.free i;have HS:Hid (w6.grownBy (w7.setCell ⟨H,i,none⟩ vr) (some H)/\∃rows,Bx (w7.setCell ⟨H,i,none⟩ vr) H 22 rows/\rows.length=r/\∀a,a<i+1->rows[a]? =some (rwV g0 (a*c*2) c c)):=Lib.hid ⟨a_o (k_v HGr.out (n_t B7 _)) rfl _,_,hb7.set i vr,by rw[List.length_set];exact hlr,fun a ha=>by
    by_cases e:a=i
    ·subst e;rw[List.getElem?_set_self (by rw[hlr];exact hlt),hvr]
    ·rw[List.getElem?_set_ne (Ne.symm e)];exact HA.out a (by omega)⟩
   obtain⟨A_,n_,d_,hvf⟩:∃A n d,vr= .slice A n d:=⟨_,_,_,hvr.symm⟩;subst hvf;clear hb hb7 b1 b3 B7 hvr
   go_wp2_with fail
   go_roundw
   case rel=>exact⟨i+1,by go_num,by omega,HS⟩
   case measure=>first|(simp[intOf];done)|(simp[intOf];omega)
  ·obtain rfl:i=r:=by omega
   have u2:¬(i:Int)<(i:Int):=by omega
   have hgw:=hgr.size;have hh8:=hb.lt;have P:Hid (RwOfPost w i c k F (.returned (.slice (some ⟨H,0,none⟩) i i)) wr):=by
    have hsz:=HB0.out.size;refine Lib.hid ⟨H,g0,rfl,e_5 HB0.out hgr (by omega),by omega, ?_,⟨fun a ha=>?_,fun a a' ha ha' hne=>.inr ?_⟩,fun a ha=>?_⟩
    ·have e:rows=rcs i c (fun _=>g0) (fun a=>a*c*2) fun _=>c:=by
      apply List.ext_getElem?;intro a;rcases Nat.lt_or_ge a i with h5|h5
      ·rw[hall a h5,n_m h5]
      ·rw[List.getElem?_eq_none (by omega),List.getElem?_eq_none (by simp[rcs];omega)]
     rw[<-e];exact hb
    ·have hz:=HM.out.gro (by omega) HN.out hgr;exact hz.rw (by omega) ha
    ·rcases Nat.lt_or_gt_of_ne hne with h5|h5
     ·left;have:(a+1)*c<=a'*c:=Nat.mul_le_mul_right c h5;rw[Nat.succ_mul]at this;omega
     ·right;have:(a'+1)*c<=a*c:=Nat.mul_le_mul_right c h5;rw[Nat.succ_mul]at this;omega
    ·exact HM.out.bd ha
   clear HB hgr hb hall
   go_wp2_with fail
   exact bodyPost_ret (v:=.slice (some ⟨H,0,none⟩) i i) (by simp[results,Try.results57,go_sem]) rfl P.out
end
section
open Go.RowKit
def bareX:Xt:=⟨63,[],fun v h=>by simp at h,fun _ _=>True,fun _ _ _ _ _=>trivial,fun _ _ _ _ _ _ _ _=>trivial,fun _ _ _ _ _=>trivial⟩
theorem fB0 {g o:Nat}(o':Nat)(h:o+0=o':=by rfl)(w:World):(Instr.fieldAt 63 (.pointer (some ⟨g,o,none⟩)) 0).run Try.prog w= .ok (.pointer (some ⟨g,o',none⟩)) w:=by subst h;simp[go_sem]
def RofPost (w:World)(r c k:Nat)(F:Nat->Nat->Int)(e:Ending)(w':World):Prop:=∃g H sa A' n' c' rows,e= .returned (.pointer (some ⟨g,0,none⟩))/\Below w.heap.size w w'/\RAt bareX w.heap.size w' g H r c k (fun _=>k) F [] 1 false (.slice none 0 0) sa A' n' c' rows
def IsE (H r:Nat):FVal:=fun v w=>∃s A n c,v= .agg #[.slice (some ⟨H,0,none⟩) r r,.slice none 0 0,.bool s,.slice A n c,.bool false]/\Zc w s A n c 1/\n<=1
def kE (H r:Nat):FK:=.f (IsE H r) (fun v w w' ⟨s,A,n,c,e,h3,h4⟩ hb=>⟨s,A,n,c,e,h3.below hb,h4⟩)
section
variable {ops:Array Oper}{Q:Exit->Act->World->Prop}{m i:Nat}{a0:Act}{w0:World}{l:List FK}{b:Bool}{id:Nat}
def bdX (o:Op):Operand × Operand:=match o with| .build _ xs=>(match xs.toList with| [(0,x),(2,y)]=>(x,y)|_=>(.func 0,.func 0))|_=>(.func 0,.func 0)
def okBd (ops:Array Oper)(m i:Nat)(s t:Src):Bool:=okH ops m i&&(match(opAt ops i).op with| .build T xs=>(match xs.toList with| [(0,x),(2,y)]=>T==61&&s.ok ops m i x&&t.ok ops m i y|_=>false)|_=>false)
theorem q_8 (w:World)(H r:Nat)(s:Bool)(A:Option Addr)(n c:Nat):(Instr.build 61 #[(0,.slice (some ⟨H,0,none⟩) r r),(2,.agg #[.bool s,.slice A n c])]).run Try.prog w= .ok (.agg #[.slice (some ⟨H,0,none⟩) r r,.slice none 0 0,.bool s,.slice A n c,.bool false]) w:=by kernel_rfl
theorem Run.bd (s t:Src){H r:Nat}(rest:R ops Q m a0 w0 b id (kE H r::l) (i+1))(hx:s.K l i a0 (bdX (opAt ops i).op).1= .k (.slice (some ⟨H,0,none⟩) r r):=by rfl)(hy:t.K l i a0 (bdX (opAt ops i).op).2=kC 1 1:=by rfl)(hc:okBd ops m i s t=true:=by kernel_rfl)(hg:Gd l i (opAt ops i):=by first|exact trivial|exact rfl):R ops Q m a0 w0 b id l i:=by
 unfold okBd at hc;rw[Bool.and_eq_true]at hc;obtain⟨hh,h4⟩:=hc;refine Run.val (x:=kE H r) hh (FK.fne _) hg (fun a w h=>?_) rest;split at h4
 ·rename_i T xs e;split at h4
  ·rename_i x y ex;obtain⟨ys⟩:=xs;simp only at ex;subst ex;simp only[Bool.and_eq_true,beq_iff_eq]at h4;obtain⟨⟨rfl,h1⟩,h2⟩:=h4;rw[e]at hx hy;have e1:=h.src h1;have e2:=h.src h2;change(s.K l i a0 x)=_ at hx;change(t.K l i a0 y)=_ at hy;rw[hx]at e1;rw[hy]at e2;obtain⟨s',A,n,c,e15,hz,hn⟩:=e2;have e14:a.eval x= .slice (some ⟨H,0,none⟩) r r:=e1;refine⟨_, ?_,⟨s',A,n,c,rfl,hz,hn⟩⟩;unfold execOp;rw[e];simp only[List.map_toArray,List.map_cons,List.map_nil,e14,e15];simp[q_8]
  ·cases h4
 ·cases h4
end
def eput (w:World)(g:Nat)(v0 v1 v2 v3 v4:Value):World:=((((w.setCell ⟨g,0,none⟩ v0).setCell ⟨g,1,none⟩ v1).setCell ⟨g,2,none⟩ v2).setCell ⟨g,3,none⟩ v3).setCell ⟨g,4,none⟩ v4
theorem m_w (w:World)(g:Nat)(v0 v1 v2 v3 v4:Value):w.grownBy (eput w g v0 v1 v2 v3 v4) (some g):=a_o (q:=⟨g,4,none⟩) (a_o (q:=⟨g,3,none⟩) (a_o (q:=⟨g,2,none⟩) (a_o (q:=⟨g,1,none⟩) (a_o (q:=⟨g,0,none⟩) (a_2 w (some g)) rfl _) rfl _) rfl _) rfl _) rfl _
theorem s_e {H r:Nat}{w:World}:Calls Try.prog 56 #[.slice (some ⟨H,0,none⟩) r r] w (RetK (kE H r) w):=by
 obtain⟨w1,hw1,b2,z1,s1⟩:=boxes1 w 61 [.slice none 0 0,.slice none 0 0,.bool false,.slice none 0 0,.bool false];have HW:=Lib.hid hw1;have HZ:=Lib.hid z1;clear hw1 z1 s1;go_enter Try.func56,Try.ntmps56
 go_upto_region 1 with fail
 rw[HW.out];refine Run.start 3 ?_;refine .mv .o ?_;refine .c1 .o (x:=kC 1 1) (by rintro u w4 hB rfl;exact i_v (by omega) (by omega) w4) ?_;refine .bd (.i 0) (.i 1) (H:=H) (r:=r) ?_;refine .donep [some 3,some 4,some 5] ?_;intro w2 B2;rintro v4 -;rintro v ⟨s_,A_,n_,c_,rfl,hz,hk⟩;refine sh [_] ?_;simp only[Act.put,lS,lZ,lC];replace b2:=b2.below B2;have hgr:=m_w w2 w.heap.size (.slice (some ⟨H,0,none⟩) r r) (.slice none 0 0) (.bool s_) (.slice A_ n_ c_) (.bool false);have P:Hid (RetK (kE H r) w (.returned (.agg #[.slice (some ⟨H,0,none⟩) r r,.slice none 0 0,.bool s_,.slice A_ n_ c_,.bool false])) (eput w2 w.heap.size (.slice (some ⟨H,0,none⟩) r r) (.slice none 0 0) (.bool s_) (.slice A_ n_ c_) (.bool false))):=Lib.hid ⟨_,rfl,⟨s_,A_,n_,c_,rfl,hz.gro (b2.now (by simp)) hgr,hk⟩,e_5 (zup HZ.out B2) hgr (Nat.le_refl _)⟩;unfold eput at P;have i0:=b2.cell 0;have i1:=b2.cell 1;have i2:=b2.cell 2;have i3:=b2.cell 3;have i4:=b2.cell 4;have f0:=b2.free 0;have f1:=b2.free 1;have f2:=b2.free 2;have f3:=b2.free 3;have f4:=b2.free 4;simp only[List.getElem?_cons_succ,List.getElem?_cons_zero]at i0 i1 i2 i3 i4;clear b2 hz B2 hgr
 go_wp2_with fail
 exact bodyPost_ret (v:=.agg #[.slice (some ⟨H,0,none⟩) r r,.slice none 0 0,.bool s_,.slice A_ n_ c_,.bool false]) (by simp[results,Try.results56,go_sem,i0,i1,i2,i3,i4]) rfl P.out
theorem r_5 {b g o c k:Nat}{S:List Nat}{f:Nat->Int}{w:World}(h:Rw b w g o c f)(hB:Bd c k f)(hc:c<=64)(hS:g ∉ S):RowOk w S (rwV g o c c) c k f:=
 ⟨some ⟨g,o,none⟩,c,rfl,h.zl hB true (Nat.le_refl _) (by omega),fun _ ad e=>by cases e;exact hS⟩
theorem r_6 {q:Bool}{r c n d k:Nat}{A:Option Addr}{F:Nat->Nat->Int}{w:World}(ha:Mt q w r c A n d k F)(hk1:1<=k)(hk:k<=549755813888):Calls Try.prog 31 #[.agg #[.int .i64 (r:Int),.int .i64 (c:Int),.slice A n d]] w (RofPost w r c k F):=by
 have h3:=ha.hr;have h4:=ha.hc;obtain⟨w1,hw1,b1,z1,s1⟩:=boxes1 w 24 [.int .i64 (r:Int),.int .i64 (c:Int),.slice A n d];have HW:=Lib.hid hw1;have HZ:=Lib.hid z1;clear hw1 z1 s1;go_enter Try.func31,Try.ntmps31
 go_upto_region 1 with fail
 rw[HW.out];obtain⟨i0,i1,i2,i3,i4,i5,i6⟩:=b1.m3
 go_wp2_with fail
 clear i0 i1 i2 i3 i4 i5 i6 b1;refine(q_7 (ha.below HZ.out) hk).mono ?_;rintro e w3 ⟨H,g0,rfl,B3,hHb,hH,hR,hB⟩
 go_wp2_with fail
 refine(s_e (H:=H) (r:=r)).mono ?_;rintro e w8 ⟨v,rfl,⟨sa,A',n',c',rfl,hz,hn⟩,B8⟩;have hs1:=HZ.out.size;have hs3:=B3.size;have hs8:=B8.size;have hhl:=hH.lt;obtain⟨g,hg⟩:∃g,w8.heap.size=g:=⟨_,rfl⟩;have BA:=zba w8 (.cells #[.slice (some ⟨H,0,none⟩) r r,.slice none 0 0,.bool sa,.slice A' n' c',.bool false] 63);have bnew:=Bx.new w8 63 [.slice (some ⟨H,0,none⟩) r r,.slice none 0 0,.bool sa,.slice A' n' c',.bool false];rw[hg]at bnew;have P:Hid (RofPost w r c k F (.returned (.pointer (some ⟨g,0,none⟩))) (w8.alloc (.cells #[.slice (some ⟨H,0,none⟩) r r,.slice none 0 0,.bool sa,.slice A' n' c',.bool false] 63))):=Lib.hid ⟨g,H,sa,A',n',c',_,rfl,zup HZ.out (zup B3 (zup B8 BA)),{
  bx:=bnew
  hd:=(hH.below B8).below BA
  len:=by simp[rcs]
  ne:=by omega
  bg:=by omega
  bh:=by omega
  own:=OwnI.nil _ _ _
  pg:=by simp[Value.ownBlock]
  ph:=by simp[Value.ownBlock]
  az:=hz.below BA
  an:=by omega
  row:=fun a ha=>by
   have h8:=hR.row a ha;have hl:=h8.lt;have hne:g0≠H:=hR.ne hH (by decide) ha;exact⟨_,n_m ha,r_5 ((h8.below B8).below BA) (hB a ha) h4 (by simp[blkOf,Value.ownBlock];omega)⟩
  ct:=trivial }⟩
 clear hz hR hH BA bnew B3 B8 ha
 go_wp2_with fail
 exact bodyPost_ret (v:=.pointer (some ⟨g,0,none⟩)) (by simp[results,Try.results31,go_sem]) rfl P.out
end
end Go.Proofs.Ytlgjjnmmepgafaa
