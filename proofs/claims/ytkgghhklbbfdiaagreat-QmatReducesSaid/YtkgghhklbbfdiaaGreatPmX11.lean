/- PmX11 -/
import Derived.Test.YtkgghhklbbfdiaaGreatPmX05
import Derived.Test.YtkgghhklbbfdiaaGreatPmX08
import Derived.Deep.DeepCutAuto
set_option linter.unusedVariables false
set_option linter.unusedSimpArgs false
set_option linter.unusedSectionVars false
set_option maxRecDepth 100000
set_option maxHeartbeats 8000000
namespace Go.Proofs.YtkgghhklbbfdiaaGreat
section
open Go.RowKit
section
variable {g o:Nat}
end
theorem QPost.q' {x:Rat}{k:Nat}{w w':World}{e:Ending}(h:QPost x k w e w'):RetK (kQ x k) w e w':=by
 obtain⟨s,A,n,c,t,B,m,d,e,h1,h2,h3,h4⟩:=h;exact⟨_,e,⟨s,A,n,c,t,B,m,d,rfl,h1,h2,h3⟩,h4⟩
section
variable {w w0:World}{s t s0 t0 s' t' u v u' v':Bool}{A B A0 B0 A' B' C E C' E':Option Addr}{n c m d n0 c0 m0 d0 n' c' m' d' l e f h l' e' f' h' g g2:Nat}{T U:TypeId}{cs:List Value}
end
section
variable {ops:Array Oper}{Q:Exit→Act→World→Prop}{m i:Nat}{a0:Act}{w0:World}{l:List FK}{b:Bool}{id:Nat}
end
section
variable {w w0:World}{s t s' t':Bool}{A B A' B':Option Addr}{n c m d n' c' m' d' g g2:Nat}
end
end
section
open Go.RowKit
theorem x_y {A B C D':Option Addr}{n c m d l e' f' h' k:Nat}{s t u v:Bool}{N D M E:Int}{w:World}(hn:Zv w s A n c N)(hd:Zv w t B m d D)(hm:Zv w u C l e' M)(he:Zv w v D' f' h' E)(hnk:n≤k)(hmk:m≤k)(hlk:l≤k)(hfk:f'≤k)(h1:1≤k)(hk:k≤1073741824):
  Calls Tryz.prog 61 #[.agg #[.bool s,.slice A n c,.bool t,.slice B m d],.agg #[.bool u,.slice C l e',.bool v,.slice D' f' h']] w (QPost (Rat.divInt N D - Rat.divInt M E) (2*k+1) w):=by
 rw[Rat.sub_eq_add_neg,Rat.neg_divInt];obtain⟨w1,hw1,b2,b3,b4,z1,z2⟩:=boxes3 w 46 46 46 [.bool s,.slice A n c,.bool t,.slice B m d] [.bool u,.slice C l e',.bool v,.slice D' f' h'] [.bool false,.slice none 0 0,.bool false,.slice none 0 0];have HW:=Lib.hid hw1;have HZ:=Lib.hid z1;replace hn:=hn.below z1;replace hd:=hd.below z1;replace hm:=hm.below z1;replace he:=he.below z1;clear hw1 z1;go_enter Tryz.func61,Tryz.ntmps61
 go_upto_region 1 with fail
 rw[HW.out];refine Run.start 8 ?_;refine .ld .o (ldQr b2) ?_;refine .fa .o (fR0 0) ?_;refine .ld (.i 1) (ldZ b3 0) ?_;refine .c1 (.i 2) (x:=kC (-M) l) (by rintro _ w2 hB rfl;exact o_l ⟨_,_,_,_,rfl,hm.below hB,Nat.le_refl _⟩ (by omega)) ?_;refine .fa .o (fR1 2) ?_;refine .ld (.i 4) (ldZ b3 2) ?_;refine(Run.bd2 (.i 3) (.i 5) (x:=kR (-M) E k) (by rintro _ _ w2 hB ⟨s,A,n,c,rfl,h2,h3⟩ rfl;exact⟨_,by kernel_rfl,_,_,_,_,_,_,_,_,rfl,h2.zv,he.below hB,by omega,by omega⟩) ?_);refine(Run.c2 (.i 0) (.i 6) (x:=kQ (Rat.divInt N D+Rat.divInt (-M) E) (2*k+1)) (by rintro _ _ w2 hB rfl ⟨s,A,n,c,t,B,m,d,rfl,i1,i2,i3,i4⟩;exact(t_2 (hn.below hB) (hd.below hB) i1 i2 (by omega) (by omega) (by omega) (by omega) h1 hk).mono fun e w h=>h.q') ?_);refine .done [some 5,some 6,some 7,some 8,some 9,some 10,some 11,some 12] ?_;intro w2 B2;rintro _ - _ -;rintro _ ⟨s1,A1,n1,c1,t1,B1,m1,d1,rfl,hq,g1,g2⟩;change Shut (wpList _ _ _ [_] _ _);refine⟨?_⟩;simp only[Act.put,lS,lZ,lC];have b5:=(b4.below B2).rb;have P:=Lib.hid (qfin (w:=w) (k:=2*k+1) hq b5 g1 g2 (by omega) (zup HZ.out B2));obtain⟨r1,r2,r3,r4,r5,r6,r7,r8,r9⟩:=b5;unfold rput at P;clear B2 hq b2 b3 b4 HZ HW
 go_wp2_with fail
 exact bodyPost_ret (v:=(.agg #[.bool s1,.slice A1 n1 c1,.bool t1,.slice B1 m1 d1])) (by simp[results,Tryz.results61,go_sem,r1,r2,r3,r4]) rfl P.out
end
section
open Go.RowKit
section
variable {w w':World}{g:Nat}{s t s' t' s0 t0 u v:Bool}{A B A' B' A0 B0 C D':Option Addr}{n c m d n' c' m' d' n0 c0 m0 d0 l e' f' h' k:Nat}{p q:Rat}
theorem sub_q (ha:Qv w s A n c t B m d p)(hb:Qv w u C l e' v D' f' h' q)(k:Nat)(hnk:n≤k)(hmk:m≤k)(hlk:l≤k)(hfk:f'≤k)(h1:1≤k)(hk:k≤1073741824):
  Calls Tryz.prog 61 #[.agg #[.bool s,.slice A n c,.bool t,.slice B m d],.agg #[.bool u,.slice C l e',.bool v,.slice D' f' h']] w (QPost (p - q) (2*k+1) w):=by
 obtain⟨N,D,a1,a2,a3⟩:=ha;obtain⟨M,E,b1,b2,b3⟩:=hb;rw[←a3.out,←b3.out];exact x_y a1 a2 b1 b2 hnk hmk hlk hfk h1 hk
end
end
section
open Go.RowKit
section
variable {u v:Value}{x y:Rat}{n m K:Nat}{w:World}
theorem x_z (k:Nat)(hx:IsQv x n u w)(hy:IsQv y m v w)(hn:n≤k)(hm:m≤k)(h1:1≤k)(hk:k≤1073741824)(hK:2*k+1≤K):Calls Tryz.prog 61 #[u,v] w (RetK (kQ (x - y) K) w):=by
 obtain⟨s,A,a,c,t,B,b,d,rfl,g1,g2,g3⟩:=hx;obtain⟨s',A',a',c',t',B',b',d',rfl,i1,i2,i3⟩:=hy;exact(sub_q g1 i1 k (by omega) (by omega) (by omega) (by omega) h1 hk).mono fun e w' h=>h.q hK
end
section
variable {q:Bool}{w w':World}{r c n d k k':Nat}{A:Option Addr}{F G:Nat→Nat→Rat}
end
end
section
namespace RT
attribute [local instance] rdvd
open DT (Inc)
variable {α:Type}[CR α]
variable[Fld α]
attribute [local simp] a_d a_h a_o a_g a_f a_l a_m
variable {R C:Nat}{M N H K A:Mx α}{u v:Nat→α}{p q:List Nat}
theorem t_u {B:Mx α}{i:Nat}(h:i<R):stk R A B i=A i:=funext fun j=>by unfold stk;rw[if_pos h]
theorem Lat.hi {S:Nat}{B:Mx α}(h:Lat R C A v):Lat (R+S) C (stk R A B) v:=Lat.within (fun i hi=>by rw[←t_u (A:=A) (B:=B) hi];exact Lat.row _ _ _ (by omega)) h
theorem x_h {S:Nat}{B:Mx α}(h:∀i,i<S→Lat R C A (B i)):Sp (R+S) R C (stk R A B) A:=
 Sp.of (fun i hi=>by
  by_cases h1:i<R
  ·rw[t_u h1];exact Lat.row R C A h1
  ·obtain⟨t,rfl⟩:∃t,i=R+t:=⟨i - R,by omega⟩;rw[x_i];exact h t (by omega)) fun i hi=>(Lat.row R C A hi).hi
theorem RedOf.stk (h:RedOf R C A M p)(h2:RedOf (R+R) C (stk R A M) N q):q=p:=by
 rw[←h2.piv,(x_h fun i hi=>(h.sp _).mpr (Lat.row R C M hi)).piv,h.piv]
end RT
end
section
namespace RT
attribute [local instance] rdvd
attribute [local simp] a_d a_h a_o a_g a_f a_l a_m
open DT (Inc)
section
variable {R C S:Nat}{A B M:Mx Rat}{p:List Nat}
theorem rdP_mem {x:Nat}(h:x∈rdP R C A):x<C:=piv_cols x h
end
end RT
end
section
open Go.RowKit
theorem v_f {q:Bool}{R C n d k b np cp:Nat}{A Ap:Option Addr}{F:Nat→Nat→Rat}{ps:List Nat}{w:World}(ha:Mq q w R C A n d k F)(hnp:ps.length=np)(hI:IsIq b ps (.slice Ap np cp) w)(hF:RT.RedF R C F ps)(hk0:1≤k)(hk:k≤1073741824):Calls Tryz.prog 16 #[.agg #[.int .i64 (R:Int),.int .i64 (C:Int),.slice A n d],.slice Ap np cp] w (RetK (.k (.bool true)) w):=by
 have hR:=ha.hr;have hC:=ha.hc;have hnR:np≤R:=by rw[←hnp];exact hF.le
 have hpC:∀i,i<np→ps.getD i 0<C:=fun i hi=>hF.inc.lt i (by omega);have HX:=Lib.hid ha;have HF:=Lib.hid hF;have HNP:=Lib.hid hnp;have HI:Hid (0<np→∃g,Ap=some ⟨g,0,none⟩∧g<w.heap.size∧∀j,j<np→w.cell? ⟨g,j,none⟩=some (.int .i64 ((ps.getD j 0:Nat):Int))):=Lib.hid fun h0=>by
  obtain⟨A',c',e,h⟩:=hI;injection e with e1 e2 e3
  subst e1;rw[hnp]at h;obtain⟨g,h1,-,h2,h3⟩:=h h0;exact⟨g,h1,h2,h3⟩
 clear ha hF hnp hI;obtain⟨w1,hw1,b2,z1,s1⟩:=boxes1 w 24 [.int .i64 (R:Int),.int .i64 (C:Int),.slice A n d];have HW:=Lib.hid hw1;have HZ:=Lib.hid z1;clear hw1 z1 s1;go_enter Tryz.func16,Tryz.ntmps16
 go_upto_region 1 with fail
 rw[HW.out];have HB:Hid (Below w.heap.size w w1∧Bx w1 w.heap.size 24 [.int .i64 (R:Int),.int .i64 (C:Int),.slice A n d]):=Lib.hid ⟨HZ.out,b2⟩;obtain⟨i0,i1,i2,i3,i4,i5,i6⟩:=b2.m3T;have u0:¬(R:Int)<(np:Int):=by omega
 clear b2 HW HZ
 go_wp2_with fail
 clear i0 i1 i2 i3 i4 i5 i6;go_loopw [5] (fun s5 wr=>∃i:Nat,s5= .int .i64 (i:Int)∧i≤R∧Hid (Below w.heap.size w wr∧Bx wr w.heap.size 24 [.int .i64 (R:Int),.int .i64 (C:Int),.slice A n d])) (fun s5 _=>R - (intOf s5).toNat)
 case atStart=>exact⟨0,rfl,Nat.zero_le _,HB⟩
 case round=>
  clear HB;obtain⟨i,rfl,hi,HB⟩:=hrel;obtain⟨B0,b1⟩:=HB.out;obtain⟨i0,i1,i2,i3,i4,i5,i6⟩:=b1.m3T;by_cases hlt:i<R
  ·have u1:(i:Int)<(R:Int):=by omega
   go_wp2_with fail
   clear i0 i1 i2 i3 i4 i5 i6 b1 B0;go_loopw [6] (fun s6 wr=>∃j:Nat,s6= .int .i64 (j:Int)∧j≤C∧Hid (Below w.heap.size w wr∧Bx wr w.heap.size 24 [.int .i64 (R:Int),.int .i64 (C:Int),.slice A n d])) (fun s6 _=>C - (intOf s6).toNat)
   case atStart=>exact⟨0,rfl,Nat.zero_le _,HB⟩
   case round=>
    clear HB;obtain⟨j,rfl,hj,HB⟩:=hrel;obtain⟨B0,b1⟩:=HB.out;clear HB;obtain⟨i0,i1,i2,i3,i4,i5,i6⟩:=b1.m3T;by_cases hjl:j<C
    ·have u2:(j:Int)<(C:Int):=by omega
     go_upto_region 9 with fail
     clear i0 i1 i2 i3 i4 i5 i6;by_cases hin:np≤i
     ·skip
      refine Run.start 20 ?_;refine .mv .o ?_;refine .mv .o ?_;refine .len (.i 1) Tryz.underlying27 ?_;refine .two (.i 0) (.i 2) (opGe (decide_eq_true (show(i:Int) ≥ (np:Int) by omega))) ?_;refine .mv (.i 3) ?_;refine .no ?_;refine .no ?_;refine .no ?_;refine .no ?_;refine .no ?_;refine .no ?_;refine .pk (.i 4) .o true ?_;refine .mv (.i 11) ?_;refine .ld .o (ldQm b1 0) ?_;refine .mv .o ?_;refine .mv .o ?_;refine .c3 (.i 13) (.i 14) (.i 15) (x:=kQv (F i j) k) (by rintro u v x w4 hB rfl rfl rfl;exact c_4 (HX.out.below (zup B0 hB)) hlt hjl) ?_;refine .c1 (.i 16) (x:=.k (.int .i64 0)) (by intro u w4 hB hu;exact g_w k hu (Nat.le_refl _) hk (by rw[HF.out.zr i j (by rw[HNP.out];exact hin) hlt hjl];rfl)) ?_;refine .two (.i 17) .o (opNe (by decide:decide ((0:Int)≠0)=false)) ?_;refine .pk (.i 12) (.i 18) true ?_;refine .donep [some 28,some 29,some 30,some 31,some 32,some 33,some 34,some 35,some 36,some 37,some 38,some 39,some 40,some 41,some 42,some 43,some 44,some 45,some 46,some 47] ?_;intro w6 B6;rintro v44 -;change Shut (wpList _ _ _ [] _ _);refine⟨?_⟩;simp only[Act.put,lS,lZ,lC];have HN:Hid (Below w.heap.size w w6∧Bx w6 w.heap.size 24 [.int .i64 (R:Int),.int .i64 (C:Int),.slice A n d]):=Lib.hid ⟨zup B0 B6,b1.below B6⟩;clear B0 b1 B6
      go_wp2_with fail
      go_roundw
      case rel=>exact⟨j+1,by go_num,by omega,HN⟩
      case measure=>first|(simp[intOf];done)|(simp[intOf];omega)
     ·obtain⟨gp,rfl,hgp,hcp⟩:=HI.out (by omega);have hip:i<np:=by omega
      obtain⟨pp,hpp⟩:∃pp,ps.getD i 0=pp:=⟨_,rfl⟩;have c1:wr.cell? ⟨gp,i,none⟩=some (.int .i64 (pp:Int)):=(B0.cell (p:=⟨gp,i,none⟩) hgp).trans (by rw[hcp i hip,hpp]);have hgpr:gp<wr.heap.size:=Nat.lt_of_lt_of_le hgp B0.size;clear hcp;by_cases hjp:j<pp
      ·skip
       refine Run.start 20 ?_;refine .mv .o ?_;refine .mv .o ?_;refine .len (.i 1) Tryz.underlying27 ?_;refine .two (.i 0) (.i 2) (opGe (decide_eq_false (show ¬(i:Int) ≥ (np:Int) by omega))) ?_;refine .mv (.i 3) ?_;refine .mv .o ?_;refine .mv .o ?_;refine .mv .o ?_;refine .two (.i 6) (.i 7) (opIxI hip) ?_;refine .ld (.i 8) (ldIn (p:=⟨gp,i,none⟩) hgpr c1) ?_;refine .two (.i 5) (.i 9) (opLt (decide_eq_true (show(j:Int)<(pp:Int) by omega))) ?_;refine .pk (.i 4) (.i 10) false ?_;refine .mv (.i 11) ?_;refine .ld .o (ldQm b1 0) ?_;refine .mv .o ?_;refine .mv .o ?_;refine .c3 (.i 13) (.i 14) (.i 15) (x:=kQv (F i j) k) (by rintro u v x w4 hB rfl rfl rfl;exact c_4 (HX.out.below (zup B0 hB)) hlt hjl) ?_;refine .c1 (.i 16) (x:=.k (.int .i64 0)) (by intro u w4 hB hu;exact g_w k hu (Nat.le_refl _) hk (by rw[HF.out.zl i (by rw[HNP.out];exact hip) j (by rw[hpp];exact hjp)];rfl)) ?_;refine .two (.i 17) .o (opNe (by decide:decide ((0:Int)≠0)=false)) ?_;refine .pk (.i 12) (.i 18) true ?_;refine .donep [some 28,some 29,some 30,some 31,some 32,some 33,some 34,some 35,some 36,some 37,some 38,some 39,some 40,some 41,some 42,some 43,some 44,some 45,some 46,some 47] ?_;intro w6 B6;rintro v44 -;change Shut (wpList _ _ _ [] _ _);refine⟨?_⟩;simp only[Act.put,lS,lZ,lC];clear c1;have HN:Hid (Below w.heap.size w w6∧Bx w6 w.heap.size 24 [.int .i64 (R:Int),.int .i64 (C:Int),.slice A n d]):=Lib.hid ⟨zup B0 B6,b1.below B6⟩;clear B0 b1 B6
       go_wp2_with fail
       go_roundw
       case rel=>exact⟨j+1,by go_num,by omega,HN⟩
       case measure=>first|(simp[intOf];done)|(simp[intOf];omega)
      ·skip
       refine Run.start 20 ?_;refine .mv .o ?_;refine .mv .o ?_;refine .len (.i 1) Tryz.underlying27 ?_;refine .two (.i 0) (.i 2) (opGe (decide_eq_false (show ¬(i:Int) ≥ (np:Int) by omega))) ?_;refine .mv (.i 3) ?_;refine .mv .o ?_;refine .mv .o ?_;refine .mv .o ?_;refine .two (.i 6) (.i 7) (opIxI hip) ?_;refine .ld (.i 8) (ldIn (p:=⟨gp,i,none⟩) hgpr c1) ?_;refine .two (.i 5) (.i 9) (opLt (decide_eq_false (show ¬(j:Int)<(pp:Int) by omega))) ?_;refine .pk (.i 4) (.i 10) false ?_;refine .mv (.i 11) ?_;refine .no ?_;refine .no ?_;refine .no ?_;refine .no ?_;refine .no ?_;refine .no ?_;refine .pk (.i 12) .o false ?_;refine .donep [some 28,some 29,some 30,some 31,some 32,some 33,some 34,some 35,some 36,some 37,some 38,some 39,some 40,some 41,some 42,some 43,some 44,some 45,some 46,some 47] ?_;intro w6 B6;change Shut (wpList _ _ _ [] _ _);refine⟨?_⟩;simp only[Act.put,lS,lZ,lC];clear c1;have HN:Hid (Below w.heap.size w w6∧Bx w6 w.heap.size 24 [.int .i64 (R:Int),.int .i64 (C:Int),.slice A n d]):=Lib.hid ⟨zup B0 B6,b1.below B6⟩;clear B0 b1 B6
       go_wp2_with fail
       go_roundw
       case rel=>exact⟨j+1,by go_num,by omega,HN⟩
       case measure=>first|(simp[intOf];done)|(simp[intOf];omega)
    ·obtain rfl:j=C:=by omega
     have u2:¬(j:Int)<(j:Int):=by omega
     have HN:Hid (Below w.heap.size w wr∧Bx wr w.heap.size 24 [.int .i64 (R:Int),.int .i64 (j:Int),.slice A n d]):=Lib.hid ⟨B0,b1⟩
     go_wp2_with fail
     go_roundw
     case rel=>exact⟨i+1,by go_num,by omega,HN⟩
     case measure=>first|(simp[intOf];done)|(simp[intOf];omega)
  ·obtain rfl:i=R:=by omega
   have u1:¬(i:Int)<(i:Int):=by omega
   clear b1 B0
   go_wp2_with fail
   clear i0 i1 i2 i3 i4 i5 i6;go_loopw [8,7] (fun s8 s7 wr=>∃(t:Nat) (z:Int),s8= .int .i64 (t:Int)∧s7= .int .i64 z∧t≤np∧Hid ((∀j,t≤j→j<np→z<((ps.getD j 0:Nat):Int))∧Below w.heap.size w wr∧Bx wr w.heap.size 24 [.int .i64 (i:Int),.int .i64 (C:Int),.slice A n d])) (fun s8 _ _=>np - (intOf s8).toNat)
   case atStart=>exact⟨0,-1,rfl,by first|rfl|decide,Nat.zero_le _,Lib.hid ⟨fun j _ _=>by omega,HB.out⟩⟩
   case round=>
    clear HB;obtain⟨t,z,rfl,rfl,ht,HB⟩:=hrel;obtain⟨hz,B0,b1⟩:=HB.out;clear HB;by_cases htl:t<np
    ·have u2:(t:Int)<(np:Int):=by omega
     obtain⟨gp,rfl,hgp,hcp⟩:=HI.out (by omega);obtain⟨pp,hpp⟩:∃pp,ps.getD t 0=pp:=⟨_,rfl⟩;have c1:wr.cell? ⟨gp,t,none⟩=some (.int .i64 (pp:Int)):=(B0.cell (p:=⟨gp,t,none⟩) hgp).trans (by rw[hcp t htl,hpp]);have hgpr:gp<wr.heap.size:=Nat.lt_of_lt_of_le hgp B0.size;have hzp:z<(pp:Int):=by rw[←hpp];exact hz t (Nat.le_refl _) htl
     have hppC:pp<C:=by rw[←hpp];exact hpC t htl
     have HPP:=Lib.hid hpp;have HNX:Hid (∀j,t+1≤j→j<np→(pp:Int)<((ps.getD j 0:Nat):Int)):=Lib.hid fun j h1 h2=>by
      rw[←hpp];have h3:ps.getD t 0<ps.getD j 0:=RT.Inc.le_of HF.out.inc (show t<j by omega) (by rw[HNP.out];exact h2);omega
     clear hcp hz hpp;go_upto_region 15 with fail
     refine Run.start 15 ?_;refine .mv .o ?_;refine .mv .o ?_;refine .two (.i 0) (.i 1) (opIxI htl) ?_;refine .ld (.i 2) (ldIn (p:=⟨gp,t,none⟩) hgpr c1) ?_;refine .mv .o ?_;refine .two (.i 3) (.i 4) (opLe (decide_eq_false (show ¬(pp:Int)≤z by omega))) ?_;refine .mv (.i 5) ?_;refine .mv .o ?_;refine .mv .o ?_;refine .two (.i 7) (.i 8) (opIxI htl) ?_;refine .ld (.i 9) (ldIn (p:=⟨gp,t,none⟩) hgpr c1) ?_;refine .fa .o (fQ1 1) ?_;refine .ld (.i 11) (ldInt b1 1) ?_;refine .two (.i 10) (.i 12) (opGe (decide_eq_false (show ¬(pp:Int) ≥ (C:Int) by omega))) ?_;refine .pk (.i 6) (.i 13) false ?_;refine .done [some 54,some 55,some 56,some 57,some 58,some 59,some 60,some 61,some 62,some 63,some 64,some 65,some 66,some 67,some 68] ?_;intro w2 B2;change Shut (wpList _ _ _ [] _ _);refine⟨?_⟩;simp only[Act.put,lS,lZ,lC];have c1':=(B2.cell (p:=⟨gp,t,none⟩) hgpr).trans c1;have HB:Hid (Below w.heap.size w w2∧Bx w2 w.heap.size 24 [.int .i64 (i:Int),.int .i64 (C:Int),.slice A n d]):=Lib.hid ⟨zup B0 B2,b1.below B2⟩;clear c1 B0 b1 B2
     go_wp2_with fail
     clear c1';go_loopw [9] (fun s9 wr=>∃a:Nat,s9= .int .i64 (a:Int)∧a≤i∧Hid (Below w.heap.size w wr∧Bx wr w.heap.size 24 [.int .i64 (i:Int),.int .i64 (C:Int),.slice A n d])) (fun s9 _=>i - (intOf s9).toNat)
     case atStart=>exact⟨0,rfl,Nat.zero_le _,HB⟩
     case round=>
      clear HB;obtain⟨a,rfl,ha,HB⟩:=hrel;obtain⟨B0,b1⟩:=HB.out;clear HB;obtain⟨i0,i1,i2,i3,i4,i5,i6⟩:=b1.m3T;by_cases hal:a<i
      ·have u3:(a:Int)<(i:Int):=by omega
       go_upto_region 21 with fail
       clear i0 i1 i2 i3 i4 i5 i6;refine Run.start 2 ?_;refine .c1 .o (x:=kC 0 1) (by rintro u w2 hB rfl;exact e_h (by decide) (by decide) w2) ?_;refine .al ?_;refine .donep [some 79,some 10] ?_;intro w2 B2;rintro v0 ⟨s8,A8,n8,d8,rfl,hz8,hk8⟩;rintro g10 hg10 hl10 hc10 -;change Shut (wpList _ _ _ [_] _ _);refine⟨?_⟩;simp only[Act.put,lS,lZ,lC];have b10:=zeroZ (T:=0) hc10;have hl1:=b1.lt;have hB0:=B0.size;replace B0:=zup B0 B2;replace b1:=b1.below B2;clear B2 hc10 hl10;obtain⟨w3,hw3⟩:∃x,zput w2 g10 s8 A8 n8 d8=x:=⟨_,rfl⟩;obtain⟨f1_,f2_,f3_,f4_,f5_⟩:=Ib.entry b10;replace b1:=b1.zo (g:=g10) (s:=s8) (A:=A8) (n:=n8) (c:=d8) (by omega);rw[hw3]at b1;replace hz8:=hz8.zp (s':=s8) (A':=A8) (n':=n8) (c':=d8) b10;rw[hw3]at hz8;replace B0:=b_h (g:=g10) (s:=s8) (A:=A8) (n:=n8) (c:=d8) B0 (by omega);rw[hw3]at B0;replace b10:=b10.zp (s:=s8) (A:=A8) (n:=n8) (c:=d8);rw[hw3]at b10;have Hw3:=Lib.hid hw3;unfold zput at Hw3;clear hw3;go_upto_region 22 with fail
       rw[Hw3.out];clear f1_ f2_ f3_ f4_ f5_ Hw3;have hl10:=b10.lt;have hB3:=B0.size;by_cases hij:a=t
       ·have u3:(a:Int)=(t:Int):=by omega
        clear hz8;go_upto_region 23 with fail
        clear u3;refine Run.start 1 ?_;refine .c1 .o (x:=kC 1 1) (by rintro u w2 hB rfl;exact e_h (by decide) (by decide) w2) ?_;refine .donep [some 83] ?_;intro w4 B4;rintro v0 ⟨s9,A9,n9,d9,rfl,hz9,hk9⟩;change Shut (wpList _ _ _ [_] _ _);refine⟨?_⟩;simp only[Act.put,lS,lZ,lC];replace B0:=zup B0 B4;replace b1:=b1.below B4;replace b10:=b10.below B4;clear B4;obtain⟨w5,hw5⟩:∃x,zput w4 g10 s9 A9 n9 d9=x:=⟨_,rfl⟩;obtain⟨f1_,f2_,f3_,f4_,f5_⟩:=Ib.entry b10;replace b1:=b1.zo (g:=g10) (s:=s9) (A:=A9) (n:=n9) (c:=d9) (by omega);rw[hw5]at b1;replace hz9:=hz9.zp (s':=s9) (A':=A9) (n':=n9) (c':=d9) b10;rw[hw5]at hz9;replace B0:=b_h (g:=g10) (s:=s9) (A:=A9) (n:=n9) (c:=d9) B0 (by omega);rw[hw5]at B0;replace b10:=b10.zp (s:=s9) (A:=A9) (n:=n9) (c:=d9);rw[hw5]at b10;have Hw5:=Lib.hid hw5;unfold zput at Hw5;clear hw5;go_upto_region 24 with fail
        rw[Hw5.out];clear f1_ f2_ f3_ f4_ f5_ Hw5;refine Run.start 8 ?_;refine .ld .o (ldQm b1 0) ?_;refine .mv .o ?_;refine .mv .o ?_;refine .c3 (.i 0) (.i 1) (.i 2) (x:=kQv (F a pp) k) (by rintro u v x w4 hB rfl rfl rfl;exact c_4 (HX.out.below (zup B0 hB)) hal hppC) ?_;refine .ld .o (ldZ b10 0) ?_;refine .c1 (.i 4) (x:=kQ ((1:Int):Rat) 1) (by rintro u w4 hB rfl;exact h_m 1 ⟨_,_,_,_,rfl,(hz9.below hB).zv,hk9⟩ (Nat.le_refl _) (Nat.le_refl _) (by omega)) ?_;refine .c2 (.i 3) (.i 5) (x:=.k (.int .i64 0)) (by intro u v w4 hB hu hv;exact g_y k hu hv.v (Nat.le_refl _) hk0 hk0 hk (rsg_sub_zero.2 (by rw[←HPP.out,HF.out.on t a (by rw[HNP.out];exact htl) hal];unfold RT.one;rw[if_pos hij];rfl))) ?_;refine .two (.i 6) .o (opNe (by decide:decide ((0:Int)≠0)=false)) ?_;refine .done [some 84,some 85,some 86,some 87,some 88,some 89,some 90,some 91] ?_;intro w6 B6;rintro v87 -;rintro v89 -;change Shut (wpList _ _ _ [] _ _);refine⟨?_⟩;simp only[Act.put,lS,lZ,lC];have HN:Hid (Below w.heap.size w w6∧Bx w6 w.heap.size 24 [.int .i64 (i:Int),.int .i64 (C:Int),.slice A n d]):=Lib.hid ⟨zup B0 B6,b1.below B6⟩;clear B0 b1 b10 B6 hz9
        go_wp2_with fail
        go_roundw
        case rel=>exact⟨a+1,by go_num,by omega,HN⟩
        case measure=>first|(simp[intOf];done)|(simp[intOf];omega)
       ·have u3:¬(a:Int)=(t:Int):=by omega
        go_upto_region 24 with fail
        clear u3;refine Run.start 8 ?_;refine .ld .o (ldQm b1 0) ?_;refine .mv .o ?_;refine .mv .o ?_;refine .c3 (.i 0) (.i 1) (.i 2) (x:=kQv (F a pp) k) (by rintro u v x w4 hB rfl rfl rfl;exact c_4 (HX.out.below (zup B0 hB)) hal hppC) ?_;refine .ld .o (ldZ b10 0) ?_;refine .c1 (.i 4) (x:=kQ ((0:Int):Rat) 1) (by rintro u w4 hB rfl;exact h_m 1 ⟨_,_,_,_,rfl,(hz8.below hB).zv,hk8⟩ (Nat.le_refl _) (Nat.le_refl _) (by omega)) ?_;refine .c2 (.i 3) (.i 5) (x:=.k (.int .i64 0)) (by intro u v w4 hB hu hv;exact g_y k hu hv.v (Nat.le_refl _) hk0 hk0 hk (rsg_sub_zero.2 (by rw[←HPP.out,HF.out.on t a (by rw[HNP.out];exact htl) hal];unfold RT.one;rw[if_neg hij];rfl))) ?_;refine .two (.i 6) .o (opNe (by decide:decide ((0:Int)≠0)=false)) ?_;refine .done [some 84,some 85,some 86,some 87,some 88,some 89,some 90,some 91] ?_;intro w6 B6;rintro v87 -;rintro v89 -;change Shut (wpList _ _ _ [] _ _);refine⟨?_⟩;simp only[Act.put,lS,lZ,lC];have HN:Hid (Below w.heap.size w w6∧Bx w6 w.heap.size 24 [.int .i64 (i:Int),.int .i64 (C:Int),.slice A n d]):=Lib.hid ⟨zup B0 B6,b1.below B6⟩;clear B0 b1 b10 B6 hz8
        go_wp2_with fail
        go_roundw
        case rel=>exact⟨a+1,by go_num,by omega,HN⟩
        case measure=>first|(simp[intOf];done)|(simp[intOf];omega)
      ·obtain rfl:a=i:=by omega
       have u3:¬(a:Int)<(a:Int):=by omega
       have HN:Hid ((∀j,t+1≤j→j<np→(pp:Int)<((ps.getD j 0:Nat):Int))∧Below w.heap.size w wr∧Bx wr w.heap.size 24 [.int .i64 (a:Int),.int .i64 (C:Int),.slice A n d]):=Lib.hid ⟨HNX.out,B0,b1⟩;clear B0 b1
       go_wp2_with fail
       go_roundw
       case rel=>exact⟨t+1,_,by go_num,rfl,by omega,HN⟩
       case measure=>first|(simp[intOf];done)|(simp[intOf];omega)
    ·obtain rfl:t=np:=by omega
     have u2:¬(t:Int)<(t:Int):=by omega
     clear b1 hz
     go_wp2_with fail
     exact bodyPost_ret (v:=.bool true) (by simp[results,Tryz.results16,go_sem]) rfl (a_9 rfl B0)
end
section
open Go.RowKit
theorem w_l {q q':Bool}{R R' C n d n' d' k K b np cp i:Nat}{A A' Ap:Option Addr}{F M:Nat→Nat→Rat}{ps:List Nat}{w:World}(ha:Mq q w R C A n d k F)(hm:Mq q' w R' C A' n' d' k M)(hnp:ps.length=np)(hI:IsIq b ps (.slice Ap np cp) w)(hi:i<R)(hR':np≤R')(hpC:∀r,r<np→ps.getD r 0<C)(hh:∀j,j<C→F i j=RT.sumN np fun r=>F i (ps.getD r 0)*M r j)(hk0:1≤k)(hK:kb (2*k) np≤K)(hKb:K≤1073741824):Calls Tryz.prog 17 #[.agg #[.int .i64 (R:Int),.int .i64 (C:Int),.slice A n d],.int .i64 (i:Int),.agg #[.int .i64 (R':Int),.int .i64 (C:Int),.slice A' n' d'],.slice Ap np cp] w (RetK (.k (.bool true)) w):=by
 have hR:=ha.hr;have hC:=ha.hc;have hRb:=hm.hr;have HA:=Lib.hid ha;have HM:=Lib.hid hm;have HH:=Lib.hid hh;have HPC:=Lib.hid hpC;have hkt:∀t,t≤np→kb (2*k) t≤K:=fun t ht=>Nat.le_trans (k_j ht) hK;have HKT:=Lib.hid hkt;have HI:Hid (0<np→∃g,Ap=some ⟨g,0,none⟩∧g<w.heap.size∧∀j,j<np→w.cell? ⟨g,j,none⟩=some (.int .i64 ((ps.getD j 0:Nat):Int))):=Lib.hid fun h0=>by
  obtain⟨A',c',e,h⟩:=hI;injection e with e1 e2 e3
  subst e1;rw[hnp]at h;obtain⟨g,h1,-,h2,h3⟩:=h h0;exact⟨g,h1,h2,h3⟩
 clear ha hm hI hnp hh hpC hkt;obtain⟨w1,hw1,b4,b6,z1,s1⟩:=boxes2 w 24 24 [.int .i64 (R:Int),.int .i64 (C:Int),.slice A n d] [.int .i64 (R':Int),.int .i64 (C:Int),.slice A' n' d'];have HW:=Lib.hid hw1;have HZ:=Lib.hid z1;clear hw1 z1 s1;go_enter Tryz.func17,Tryz.ntmps17
 go_upto_region 1 with fail
 rw[HW.out];have H0:Hid (Below w.heap.size w w1∧Bx w1 w.heap.size 24 [.int .i64 (R:Int),.int .i64 (C:Int),.slice A n d]∧Bx w1 (w.heap.size+1) 24 [.int .i64 (R':Int),.int .i64 (C:Int),.slice A' n' d']):=Lib.hid ⟨HZ.out,b4,b6⟩;clear b4 b6 HZ HW
 go_wp2_with fail
 go_loopw [9] (fun s9 wr=>∃j:Nat,s9= .int .i64 (j:Int)∧j≤C∧Hid (Below w.heap.size w wr∧Bx wr w.heap.size 24 [.int .i64 (R:Int),.int .i64 (C:Int),.slice A n d]∧Bx wr (w.heap.size+1) 24 [.int .i64 (R':Int),.int .i64 (C:Int),.slice A' n' d'])) (fun s9 _=>C - (intOf s9).toNat)
 case atStart=>exact⟨0,rfl,Nat.zero_le _,H0⟩
 case round=>
  clear H0;obtain⟨j,rfl,hj,HB⟩:=hrel;obtain⟨B0,b4,b6⟩:=HB.out;clear HB;obtain⟨i0,i1,i2,i3,i4,i5,i6⟩:=b4.m3T;by_cases hjl:j<C
  ·have u1:(j:Int)<(C:Int):=by omega
   go_upto_region 4 with fail
   clear i0 i1 i2 i3 i4 i5 i6;refine Run.start 5 ?_;refine .ld .o (ldQm b4 0) ?_;refine .mv .o ?_;refine .mv .o ?_;refine .c3 (.i 0) (.i 1) (.i 2) (x:=kQv (F i j) k) (by rintro u v x w4 hB rfl rfl rfl;exact c_4 (HA.out.below (zup B0 hB)) hi hjl) ?_;refine .al ?_;refine .donep [some 18,some 19,some 20,some 21,some 10] ?_;intro w3 B3;rintro v ⟨s_,A_,n_,c_,t_,B_,m_,d_,rfl,hz,hk1,hk2⟩;rintro g10 hg10 hl10 hc10 -;change Shut (wpList _ _ _ [_] _ _);refine⟨?_⟩;simp only[Act.put,lS,lZ,lC];have b10:=zeroQ hc10;have hs0:=B0.size;have l4:=b4.lt;have l6:=b6.lt;replace B0:=zup B0 B3;replace b4:=b4.below B3;replace b6:=b6.below B3;have h10:w.heap.size+1<g10:=by omega
   clear B3 hc10;obtain⟨w4,hw4⟩:∃x,rput w3 g10 s_ A_ n_ c_ t_ B_ m_ d_=x:=⟨_,rfl⟩;obtain⟨f1_,f2_,f3_,f4_,f5_,f6_,f7_,f8_,f9_⟩:=b10.rb;have hgr_:=b_p w3 g10 s_ A_ n_ c_ t_ B_ m_ d_;have hno_:Wless w3 g10:=b10.now (by simp);rw[hw4]at hgr_;replace b4:=a_a b4 hgr_ (by omega);replace b6:=a_a b6 hgr_ (by omega);replace hz:=hz.gro hno_ hgr_;replace B0:=a_c B0 hgr_ (by omega);replace b10:=b10.rp (s':=s_) (A':=A_) (n':=n_) (c':=c_) (t':=t_) (B':=B_) (m':=m_) (d':=d_);rw[hw4]at b10;have Hw4:=Lib.hid hw4;unfold rput at Hw4;clear hw4 hgr_ hno_;have hke:=e_q (2*k);have H0:Hid (Below w.heap.size w w4∧Bx w4 w.heap.size 24 [.int .i64 (R:Int),.int .i64 (C:Int),.slice A n d]∧Bx w4 (w.heap.size+1) 24 [.int .i64 (R':Int),.int .i64 (C:Int),.slice A' n' d']∧∃e1 e2 e3 e4 e5 e6 e7 e8,Bx w4 g10 46 [.bool e1,.slice e2 e3 e4,.bool e5,.slice e6 e7 e8]∧Qv w4 e1 e2 e3 e4 e5 e6 e7 e8 (F i j - RT.sumN (0) fun r=>F i (ps.getD r 0)*M r j)∧e3≤kb (2*k) (0)∧e7≤kb (2*k) (0)):=Lib.hid ⟨B0,b4,b6,_,_,_,_,_,_,_,_,b10,by rw[show(F i j - RT.sumN (0) fun r=>F i (ps.getD r 0)*M r j)=F i j by show F i j - 0=_;grind];exact hz,by omega,by omega⟩;clear b4 b6 b10 B0 hz hk1 hk2 hl10 hg10
   go_wp2_with fail
   rw[Hw4.out];clear f1_ f2_ f3_ f4_ f5_ f6_ f7_ f8_ f9_ Hw4;go_loopw [11] (fun s11 wr=>∃t:Nat,s11= .int .i64 (t:Int)∧t≤np∧Hid (Below w.heap.size w wr∧Bx wr w.heap.size 24 [.int .i64 (R:Int),.int .i64 (C:Int),.slice A n d]∧Bx wr (w.heap.size+1) 24 [.int .i64 (R':Int),.int .i64 (C:Int),.slice A' n' d']∧∃e1 e2 e3 e4 e5 e6 e7 e8,Bx wr g10 46 [.bool e1,.slice e2 e3 e4,.bool e5,.slice e6 e7 e8]∧Qv wr e1 e2 e3 e4 e5 e6 e7 e8 (F i j - RT.sumN (t) fun r=>F i (ps.getD r 0)*M r j)∧e3≤kb (2*k) (t)∧e7≤kb (2*k) (t))) (fun s11 _=>np - (intOf s11).toNat)
   case atStart=>exact⟨0,rfl,Nat.zero_le _,H0⟩
   case round=>
    clear H0;obtain⟨t,rfl,ht,HB⟩:=hrel;obtain⟨B0,b4,b6,s8,A8,n8,c8,t8,B8,m8,d8,b10,hz8,hk1,hk2⟩:=HB.out;clear HB;by_cases htl:t<np
    ·have u2:(t:Int)<(np:Int):=by omega
     have hkt1:=HKT.out (t+1) (by omega);have hks:=i_4 (2*k) t;have hkl:=k_j (K:=2*k) (i:=0) (j:=t) (Nat.zero_le _);rw[e_q]at hkl;have hls:=B0.size;obtain⟨gp,rfl,hgp,hcp⟩:=HI.out (by omega);obtain⟨pp,hpp⟩:∃pp,ps.getD t 0=pp:=⟨_,rfl⟩;have hppC:pp<C:=by rw[←hpp];exact HPC.out t htl
     have c1:wr.cell? ⟨gp,t,none⟩=some (.int .i64 (pp:Int)):=(B0.cell (p:=⟨gp,t,none⟩) hgp).trans (by rw[hcp t htl,hpp]);have hgpr:gp<wr.heap.size:=Nat.lt_of_lt_of_le hgp hls;have HPP:=Lib.hid hpp;clear hcp hpp;go_upto_region 8 with fail
     refine Run.start 14 ?_;refine .ld .o (ldQr b10) ?_;refine .ld .o (ldQm b4 0) ?_;refine .mv .o ?_;refine .mv .o ?_;refine .mv .o ?_;refine .two (.i 3) (.i 4) (opIxI htl) ?_;refine .ld (.i 5) (ldIn (p:=⟨gp,t,none⟩) hgpr c1) ?_;refine .c3 (.i 1) (.i 2) (.i 6) (x:=kQv (F i pp) k) (by rintro u v x w4 hB rfl rfl rfl;exact c_4 (HA.out.below (zup B0 hB)) hi hppC) ?_;refine .ld .o (ldQm b6 0) ?_;refine .mv .o ?_;refine .mv .o ?_;refine .c3 (.i 8) (.i 9) (.i 10) (x:=kQv (M t j) k) (by rintro u v x w4 hB rfl rfl rfl;exact c_4 (HM.out.below (zup B0 hB)) (by omega) hjl) ?_;refine .c2 (.i 7) (.i 11) (x:=kQ (F i pp*M t j) (2*k)) (by intro u v w4 hB hu hv;exact t_z k hu hv (Nat.le_refl _) (Nat.le_refl _) hk0 (by omega) (Nat.le_refl _)) ?_;refine .c2 (.i 0) (.i 12) (x:=kQ (F i j - RT.sumN (t+1) fun r=>F i (ps.getD r 0)*M r j) (kb (2*k) (t+1))) (by rintro u v w4 hB rfl hv;have h:=x_z (K:=kb (2*k) (t+1)) (kb (2*k) t) ⟨_,_,_,_,_,_,_,_,rfl,hz8.below hB,hk1,hk2⟩ hv.v (Nat.le_refl _) hkl (by omega) (by omega) (by omega);rw[show(F i j - RT.sumN (t) fun r=>F i (ps.getD r 0)*M r j) - F i pp*M t j=(F i j - RT.sumN (t+1) fun r=>F i (ps.getD r 0)*M r j) by rw[←HPP.out];show _=F i j - (RT.sumN t (fun r=>F i (ps.getD r 0)*M r j)+F i (ps.getD t 0)*M t j);grind]at h;exact h) ?_;refine .done [some 28,some 29,some 30,some 31,some 32,some 33,some 34,some 35,some 36,some 37,some 38,some 39,some 40,some 41] ?_;intro w6 B6;rintro v35 -;rintro v39 -;rintro v40 -;rintro v ⟨s9,A9,n9,c9,t9,B9,m9,d9,rfl,hz9,hk3,hk4⟩;change Shut (wpList _ _ _ [_] _ _);refine⟨?_⟩;simp only[Act.put,lS,lZ,lC];replace B0:=zup B0 B6;have l4:=b4.lt;have l6:=b6.lt;replace b4:=b4.below B6;replace b6:=b6.below B6;replace b10:=b10.below B6;clear B6 hz8 c1;obtain⟨w7,hw7⟩:∃x,rput w6 g10 s9 A9 n9 c9 t9 B9 m9 d9=x:=⟨_,rfl⟩;obtain⟨f1_,f2_,f3_,f4_,f5_,f6_,f7_,f8_,f9_⟩:=b10.rb;have hgr_:=b_p w6 g10 s9 A9 n9 c9 t9 B9 m9 d9;have hno_:Wless w6 g10:=b10.now (by simp);rw[hw7]at hgr_;replace b4:=a_a b4 hgr_ (by omega);replace b6:=a_a b6 hgr_ (by omega);replace hz9:=hz9.gro hno_ hgr_;replace B0:=a_c B0 hgr_ (by omega);replace b10:=b10.rp (s':=s9) (A':=A9) (n':=n9) (c':=c9) (t':=t9) (B':=B9) (m':=m9) (d':=d9);rw[hw7]at b10;have Hw7:=Lib.hid hw7;unfold rput at Hw7;clear hw7 hgr_ hno_;have HN:Hid (Below w.heap.size w w7∧Bx w7 w.heap.size 24 [.int .i64 (R:Int),.int .i64 (C:Int),.slice A n d]∧Bx w7 (w.heap.size+1) 24 [.int .i64 (R':Int),.int .i64 (C:Int),.slice A' n' d']∧∃e1 e2 e3 e4 e5 e6 e7 e8,Bx w7 g10 46 [.bool e1,.slice e2 e3 e4,.bool e5,.slice e6 e7 e8]∧Qv w7 e1 e2 e3 e4 e5 e6 e7 e8 (F i j - RT.sumN (t+1) fun r=>F i (ps.getD r 0)*M r j)∧e3≤kb (2*k) (t+1)∧e7≤kb (2*k) (t+1)):=Lib.hid ⟨B0,b4,b6,_,_,_,_,_,_,_,_,b10,hz9.qv,hk3,hk4⟩;clear b4 b6 b10 B0 hz9
     go_wp2_with fail
     rw[Hw7.out];clear f1_ f2_ f3_ f4_ f5_ f6_ f7_ f8_ f9_ Hw7;go_roundw
     case rel=>exact⟨t+1,by go_num,by omega,HN⟩
     case measure=>first|(simp[intOf];done)|(simp[intOf];omega)
    ·obtain rfl:t=np:=by omega
     have u2:¬(t:Int)<(t:Int):=by omega
     have hkt1:=HKT.out t (Nat.le_refl _);have hx0:(F i j - RT.sumN (t) fun r=>F i (ps.getD r 0)*M r j)=0:=by rw[←HH.out j hjl];grind
     rw[hx0]at hz8;clear hx0;go_upto_region 9 with fail
     refine Run.start 3 ?_;refine .ld .o (ldQr b10) ?_;refine .c1 (.i 0) (x:=.k (.int .i64 0)) (by rintro u w4 hB rfl;exact g_w K ⟨_,_,_,_,_,_,_,_,rfl,hz8.below hB,by omega,by omega⟩ (Nat.le_refl _) hKb rfl) ?_;refine .two (.i 1) .o (opNe (by decide:decide ((0:Int)≠0)=false)) ?_;refine .donep [some 42,some 43,some 44] ?_;intro w6 B6;change Shut (wpList _ _ _ [] _ _);refine⟨?_⟩;simp only[Act.put,lS,lZ,lC];have HN:Hid (Below w.heap.size w w6∧Bx w6 w.heap.size 24 [.int .i64 (R:Int),.int .i64 (C:Int),.slice A n d]∧Bx w6 (w.heap.size+1) 24 [.int .i64 (R':Int),.int .i64 (C:Int),.slice A' n' d']):=Lib.hid ⟨zup B0 B6,b4.below B6,b6.below B6⟩;clear b4 b6 b10 B0 B6 hz8
     go_wp2_with fail
     go_roundw
     case rel=>exact⟨j+1,by go_num,by omega,HN⟩
     case measure=>first|(simp[intOf];done)|(simp[intOf];omega)
  ·obtain rfl:j=C:=by omega
   have u1:¬(j:Int)<(j:Int):=by omega
   clear b6 b4
   go_wp2_with fail
   exact bodyPost_ret (v:=.bool true) (by simp[results,Tryz.results17,go_sem]) rfl (a_9 rfl B0)
end
end Go.Proofs.YtkgghhklbbfdiaaGreat
