/- Pq15 -/
import Derived.Test.YtfhbdlegkdbmfaaGreatPq14
import Derived.Laws.BytesArg
import Derived.Laws.Strings2
import Derived.Laws.Strings3
set_option linter.unusedVariables false
set_option linter.unusedSimpArgs false
set_option linter.unusedSectionVars false
set_option maxRecDepth 100000
set_option maxHeartbeats 8000000
namespace Go.Proofs.YtfhbdlegkdbmfaaGreat
section
open Go.RowKit
theorem x_x {A B C D':Option Addr}{n c m d l e' f' h' k:Nat}{s t u v:Bool}{N D M E:Int}{w:World}(hn:Zv w s A n c N)(hd:Zv w t B m d D)(hm:Zv w u C l e' M)(he:Zv w v D' f' h' E)(hnk:n<=k)(hmk:m<=k)(hlk:l<=k)(hfk:f'<=k)(h1:1<=k)(hk:k<=1073741824):
  Calls Tryz.prog 77 #[.agg #[.bool s,.slice A n c,.bool t,.slice B m d],.agg #[.bool u,.slice C l e',.bool v,.slice D' f' h']] w (QPost (Rat.divInt N D*Rat.divInt M E) (2*k) w):=by
 rw[k_s];obtain⟨w1,hw1,b2,b3,b4,z1,z2⟩:=boxes3 w 42 42 42 [.bool s,.slice A n c,.bool t,.slice B m d] [.bool u,.slice C l e',.bool v,.slice D' f' h'] [.bool false,.slice none 0 0,.bool false,.slice none 0 0];have HW:=Lib.hid hw1;have HZ:=Lib.hid z1;replace hn:=hn.below z1;replace hd:=hd.below z1;replace hm:=hm.below z1;replace he:=he.below z1;clear hw1 z1;go_enter Tryz.func77,Tryz.ntmps77
 go_upto_region 1 with fail
 rw[HW.out];refine Run.start 11 ?_;refine .fa .o (fR0 0) ?_;refine .ld (.i 0) (ldZ b2 0) ?_;refine .fa .o (fR0 0) ?_;refine .ld (.i 2) (ldZ b3 0) ?_;refine .c2 (.i 1) (.i 3) (x:=kC (N*M) (n+l)) (by rintro _ _ w2 hB rfl rfl;exact b_u ⟨_,_,_,_,rfl,hn.below hB,Nat.le_refl _⟩ ⟨_,_,_,_,rfl,hm.below hB,Nat.le_refl _⟩ (by omega) (by omega) (by omega)) ?_;refine .fa .o (fR1 2) ?_;refine .ld (.i 5) (ldZ b2 2) ?_;refine .fa .o (fR1 2) ?_;refine .ld (.i 7) (ldZ b3 2) ?_;refine .c2 (.i 6) (.i 8) (x:=kC (D*E) (m+f')) (by rintro _ _ w2 hB rfl rfl;exact b_u ⟨_,_,_,_,rfl,hd.below hB,Nat.le_refl _⟩ ⟨_,_,_,_,rfl,he.below hB,Nat.le_refl _⟩ (by omega) (by omega) (by omega)) ?_;refine .c2 (.i 4) (.i 9) (x:=kQ (Rat.divInt (N*M) (D*E)) (2*k)) (by rintro _ _ w2 hB h2 h3;exact e_t h2.v h3.v (by omega) (by omega) (by omega) (by omega)) ?_;refine .done [some 5,some 6,some 7,some 8,some 9,some 10,some 11,some 12,some 13,some 14,some 15] ?_;intro w2 B2;rintro _ - _ -;rintro _ ⟨s1,A1,n1,c1,t1,B1,m1,d1,rfl,hq,g1,g2⟩;refine sh [_] ?_;simp only[Act.put,lS,lZ,lC];have b5:=(b4.below B2).rb;have P:=Lib.hid (qfin (w:=w) (k:=2*k) hq b5 g1 g2 (by omega) (zup HZ.out B2));obtain⟨r1,r2,r3,r4,r5,r6,r7,r8,r9⟩:=b5;unfold rput at P;clear B2 hq b2 b3 b4 HZ HW
 go_wp2_with fail
 exact bodyPost_ret (v:=(.agg #[.bool s1,.slice A1 n1 c1,.bool t1,.slice B1 m1 d1])) (by simp[results,Tryz.results77,go_sem,r1,r2,r3,r4]) rfl P.out
theorem v_b {A B:Option Addr}{n c m d:Nat}{s t:Bool}{N D r:Int}{w:World}(hn:Zv w s A n c N)(hd:Zv w t B m d D)(hnk:n<=1099511627776)(hmk:m<=1099511627776)(hr:N.sign*D.sign=r):
  Calls Tryz.prog 191 #[.agg #[.bool s,.slice A n c,.bool t,.slice B m d]] w (IPost r w):=by
 have hb:=e_d (c_j N) (c_j D);rw[hr]at hb;have HR:=Lib.hid hr;obtain⟨w1,hw1,b2,z1,z2⟩:=boxes1 w 42 [.bool s,.slice A n c,.bool t,.slice B m d];have HW:=Lib.hid hw1;have HZ:=Lib.hid z1;replace hn:=hn.below z1;replace hd:=hd.below z1;clear hw1 z1 hr;go_enter Tryz.func191,Tryz.ntmps191
 go_upto_region 1 with fail
 rw[HW.out];refine Run.start 7 ?_;refine .fa .o (fR0 0) ?_;refine .ld (.i 0) (ldZ b2 0) ?_;refine .c1 (.i 1) (x:=.k (.int .i64 N.sign)) (by rintro _ w2 hB rfl;exact a_z ⟨_,_,_,_,rfl,hn.below hB,Nat.le_refl _⟩ (by omega) rfl) ?_;refine .fa .o (fR1 2) ?_;refine .ld (.i 3) (ldZ b2 2) ?_;refine .c1 (.i 4) (x:=.k (.int .i64 D.sign)) (by rintro _ w2 hB rfl;exact a_z ⟨_,_,_,_,rfl,hd.below hB,Nat.le_refl _⟩ (by omega) rfl) ?_;refine .two (.i 2) (.i 5) (opMul HR.out (by omega) (by omega)) ?_;refine .done [some 3,some 4,some 5,some 6,some 7,some 8,some 9] ?_;intro w2 B2;refine sh [_] ?_;simp only[Act.put,lS,lZ,lC];have P:=zup HZ.out B2;clear B2 b2 HZ HW HR
 go_wp2_with fail
 exact bodyPost_ret (v:=.int .i64 r) (by simp[results,Tryz.results191,go_sem]) rfl ⟨rfl,P⟩
theorem x_v {A B C D':Option Addr}{n c m d l e' f' h' k:Nat}{s t u v:Bool}{N D M E:Int}{w:World}(hn:Zv w s A n c N)(hd:Zv w t B m d D)(hm:Zv w u C l e' M)(he:Zv w v D' f' h' E)(hnk:n<=k)(hmk:m<=k)(hlk:l<=k)(hfk:f'<=k)(h1:1<=k)(hk:k<=1073741824){b:Bool}(hb0:decide (Rat.divInt M E≠0)=b):
  Calls Tryz.prog 166 #[.agg #[.bool s,.slice A n c,.bool t,.slice B m d],.agg #[.bool u,.slice C l e',.bool v,.slice D' f' h']] w (QbPost (Rat.divInt N D / Rat.divInt M E) b (2*k) w):=by
 rw[<-u_1];obtain⟨sr,hsr⟩:∃r,M.sign*E.sign=r:=⟨_,rfl⟩;have hb1:decide (sr≠0)=b:=by rw[<-hsr,<-hb0,<-h_b,decide_eq_decide];exact not_congr x_r
 have HB:=Lib.hid hb1;have HSR:=Lib.hid hsr;obtain⟨w1,hw1,b2,b3,b4,z1,z2⟩:=boxes3 w 42 42 42 [.bool s,.slice A n c,.bool t,.slice B m d] [.bool u,.slice C l e',.bool v,.slice D' f' h'] [.bool false,.slice none 0 0,.bool false,.slice none 0 0];have HW:=Lib.hid hw1;have HZ:=Lib.hid z1;replace hn:=hn.below z1;replace hd:=hd.below z1;replace hm:=hm.below z1;replace he:=he.below z1;clear hw1 z1 hb0 hb1 hsr;go_enter Tryz.func166,Tryz.ntmps166
 go_upto_region 1 with fail
 rw[HW.out];refine Run.start 14 ?_;refine .fa .o (fR0 0) ?_;refine .ld (.i 0) (ldZ b2 0) ?_;refine .fa .o (fR1 2) ?_;refine .ld (.i 2) (ldZ b3 2) ?_;refine .c2 (.i 1) (.i 3) (x:=kC (N*E) (n+f')) (by rintro _ _ w2 hB rfl rfl;exact b_u ⟨_,_,_,_,rfl,hn.below hB,Nat.le_refl _⟩ ⟨_,_,_,_,rfl,he.below hB,Nat.le_refl _⟩ (by omega) (by omega) (by omega)) ?_;refine .fa .o (fR1 2) ?_;refine .ld (.i 5) (ldZ b2 2) ?_;refine .fa .o (fR0 0) ?_;refine .ld (.i 7) (ldZ b3 0) ?_;refine .c2 (.i 6) (.i 8) (x:=kC (D*M) (m+l)) (by rintro _ _ w2 hB rfl rfl;exact b_u ⟨_,_,_,_,rfl,hd.below hB,Nat.le_refl _⟩ ⟨_,_,_,_,rfl,hm.below hB,Nat.le_refl _⟩ (by omega) (by omega) (by omega)) ?_;refine .c2 (.i 4) (.i 9) (x:=kQ (Rat.divInt (N*E) (D*M)) (2*k)) (by rintro _ _ w2 hB h2 h3;exact e_t h2.v h3.v (by omega) (by omega) (by omega) (by omega)) ?_;refine .ld .o (ldQr b3) ?_;refine .c1 (.i 11) (x:=.k (.int .i64 sr)) (by rintro _ w2 hB rfl;exact(v_b (hm.below hB) (he.below hB) (by omega) (by omega) HSR.out).mono fun e w h=>h.q) ?_;refine .two (.i 12) .o (opNe HB.out) ?_;refine .donef [13] [some 6,some 7,some 8,some 9,some 10,some 11,some 12,some 13,some 14,some 15,some 16,some 17,some 18,some 19] (e_w (j_7 (k:=12) (by kernel_rfl) rfl rfl (opNe HB.out))) ?_;intro w2 B2;rintro _ - _ -;rintro _ ⟨s1,A1,n1,c1,t1,B1,m1,d1,rfl,hq,g1,g2⟩;refine sh [_,_] ?_;simp only[Act.put,lS,lZ,lC];have b5:=(b4.below B2).rb;have P:=Lib.hid (qbfin (b:=b) (w:=w) (k:=2*k) hq b5 g1 g2 (by omega) (zup HZ.out B2));obtain⟨r1,r2,r3,r4,r5,r6,r7,r8,r9⟩:=b5;unfold rput at P;clear B2 hq b2 b3 b4 HZ HW HB
 go_wp2_with fail
 exact bodyPost_ret (v:=.tuple #[.agg #[.bool s1,.slice A1 n1 c1,.bool t1,.slice B1 m1 d1],.bool b]) (by simp[results,Tryz.results166,go_sem,r1,r2,r3,r4]) rfl P.out
theorem y_j {A B:Option Addr}{n c m d k:Nat}{s t:Bool}{N D:Int}{w:World}(hn:Zv w s A n c N)(hd:Zv w t B m d D)(hnk:n<=k)(hmk:m<=k)(h1:1<=k)(hk:k<=1073741824){b:Bool}(hb0:decide (D≠0)=b):
  Calls Tryz.prog 105 #[.agg #[.bool s,.slice A n c],.agg #[.bool t,.slice B m d]] w (QbPost (Rat.divInt N D) b k w):=by
 have hb1:decide (D.sign≠0)=b:=by rw[<-hb0,decide_eq_decide];exact not_congr Int.sign_eq_zero_iff_zero
 have HB:=Lib.hid hb1;obtain⟨w1,hw1,b2,b3,b4,z1,z2⟩:=boxes3 w 31 31 42 [.bool s,.slice A n c] [.bool t,.slice B m d] [.bool false,.slice none 0 0,.bool false,.slice none 0 0];have HW:=Lib.hid hw1;have HZ:=Lib.hid z1;replace hn:=hn.below z1;replace hd:=hd.below z1;clear hw1 z1 hb0 hb1;go_enter Tryz.func105,Tryz.ntmps105
 go_upto_region 1 with fail
 rw[HW.out];refine Run.start 6 ?_;refine .ld .o (ldZ b2 0) ?_;refine .ld .o (ldZ b3 0) ?_;refine .c2 (.i 0) (.i 1) (x:=kQ (Rat.divInt N D) k) (by rintro _ _ w2 hB rfl rfl;exact e_t ⟨_,_,_,_,rfl,hn.below hB,hnk⟩ ⟨_,_,_,_,rfl,hd.below hB,hmk⟩ (Nat.le_refl _) (Nat.le_refl _) h1 (by omega)) ?_;refine .ld .o (ldZ b3 0) ?_;refine .c1 (.i 3) (x:=.k (.int .i64 D.sign)) (by rintro _ w2 hB rfl;exact a_z ⟨_,_,_,_,rfl,hd.below hB,Nat.le_refl _⟩ (by omega) rfl) ?_;refine .two (.i 4) .o (opNe HB.out) ?_;refine .donef [5] [some 6,some 7,some 8,some 9,some 10,some 11] (e_w (j_7 (k:=4) (by kernel_rfl) rfl rfl (opNe HB.out))) ?_;intro w2 B2;rintro _ ⟨s1,A1,n1,c1,t1,B1,m1,d1,rfl,hq,g1,g2⟩;refine sh [_,_] ?_;simp only[Act.put,lS,lZ,lC];have b5:=(b4.below B2).rb;have P:=Lib.hid (qbfin (b:=b) (w:=w) (k:=k) hq b5 g1 g2 (by omega) (zup HZ.out B2));obtain⟨r1,r2,r3,r4,r5,r6,r7,r8,r9⟩:=b5;unfold rput at P;clear B2 hq b2 b3 b4 HZ HW HB
 go_wp2_with fail
 exact bodyPost_ret (v:=.tuple #[.agg #[.bool s1,.slice A1 n1 c1,.bool t1,.slice B1 m1 d1],.bool b]) (by simp[results,Tryz.results105,go_sem,r1,r2,r3,r4]) rfl P.out
theorem qof_v {A:Option Addr}{n c k:Nat}{s:Bool}{N:Int}{w:World}(hn:Zv w s A n c N)(hnk:n<=k)(h1:1<=k)(hk:k<=1073741824):
  Calls Tryz.prog 30 #[.agg #[.bool s,.slice A n c]] w (QPost (N:Rat) k w):=by
 rw[<-o_y];obtain⟨w1,hw1,b2,b4,z1,z2⟩:=boxes2 w 31 42 [.bool s,.slice A n c] [.bool false,.slice none 0 0,.bool false,.slice none 0 0];have HW:=Lib.hid hw1;have HZ:=Lib.hid z1;replace hn:=hn.below z1;clear hw1 z1;go_enter Tryz.func30,Tryz.ntmps30
 go_upto_region 1 with fail
 rw[HW.out];refine Run.start 3 ?_;refine .ld .o (ldZ b2 0) ?_;refine .c1 .o (x:=kC 1 1) (by rintro _ w2 hB rfl;exact h_x (by omega) (by omega) _) ?_;refine .c2 (.i 0) (.i 1) (x:=kQ (Rat.divInt N 1) k) (by rintro _ _ w2 hB rfl h3;exact e_t ⟨_,_,_,_,rfl,hn.below hB,hnk⟩ h3.v (Nat.le_refl _) h1 h1 (by omega)) ?_;refine .done [some 3,some 4,some 5] ?_;intro w2 B2;rintro _ -;rintro _ ⟨s1,A1,n1,c1,t1,B1,m1,d1,rfl,hq,g1,g2⟩;refine sh [_] ?_;simp only[Act.put,lS,lZ,lC];have b5:=(b4.below B2).rb;have P:=Lib.hid (qfin (w:=w) (k:=k) hq b5 g1 g2 (by omega) (zup HZ.out B2));obtain⟨r1,r2,r3,r4,r5,r6,r7,r8,r9⟩:=b5;unfold rput at P;clear B2 hq b2 b4 HZ HW
 go_wp2_with fail
 exact bodyPost_ret (v:=(.agg #[.bool s1,.slice A1 n1 c1,.bool t1,.slice B1 m1 d1])) (by simp[results,Tryz.results30,go_sem,r1,r2,r3,r4]) rfl P.out
theorem e_y {A B:Option Addr}{n c m d k:Nat}{s t:Bool}{N D:Int}{w:World}(hn:Zv w s A n c N)(hd:Zv w t B m d D)(hnk:n<=k)(hmk:m<=k)(h1:1<=k)(hk:k<=1073741824):
  Calls Tryz.prog 48 #[.agg #[.bool s,.slice A n c,.bool t,.slice B m d]] w (RPost (cN N D) (cD D) k w):=by
 obtain⟨w1,hw1,b2,b3,z1,z2⟩:=boxes2 w 42 42 [.bool s,.slice A n c,.bool t,.slice B m d] [.bool false,.slice none 0 0,.bool false,.slice none 0 0];have HW:=Lib.hid hw1;have HZ:=Lib.hid z1;replace hn:=hn.below z1;replace hd:=hd.below z1;obtain⟨b,hb⟩:∃b,decide (D.sign=0)=b:=⟨_,rfl⟩;have HB:=Lib.hid hb;clear hw1 z1 hb;go_enter Tryz.func48,Tryz.ntmps48
 go_upto_region 1 with fail
 rw[HW.out];refine Run.start 4 ?_;refine .fa .o (fR1 2) ?_;refine .ld (.i 0) (ldZ b2 2) ?_;refine .c1 (.i 1) (x:=.k (.int .i64 D.sign)) (by rintro _ w2 hB rfl;exact a_z ⟨_,_,_,_,rfl,hd.below hB,Nat.le_refl _⟩ (by omega) rfl) ?_;refine .two (.i 2) .o (opEq HB.out) ?_;refine .donep [some 3,some 4,some 5,some 6] ?_;intro w2 B2;refine sh [] ?_;simp only[Act.put,lS,lZ,lC];have B0:=zup HZ.out B2;replace b2:=b2.below B2;replace b3:=b3.below B2;replace hn:=hn.below B2;replace hd:=hd.below B2;have hlt:=b3.lt;obtain⟨a1,a2,a3,a4,a5,a6,a7,a8,a9⟩:=b2.rb;obtain⟨r1,r2,r3,r4,r5,r6,r7,r8,r9⟩:=b3.rb;cases b
 ·have h0:D≠0:=fun e=>by have:=of_decide_eq_false HB.out;rw[e]at this;exact this rfl
  have P:=rfinq (k:=k) hn hd b3.rb hnk hmk (by omega) B0;rw[show RPost N D k w=RPost (cN N D) (cD D) k w by unfold cN cD;rw[if_neg h0,if_neg h0]]at P;replace P:=Lib.hid P;unfold rput at P;clear h0 hn hd b2 b3 B0 B2 HB HW HZ
  go_wp2_with fail
  exact bodyPost_ret (v:=(.agg #[.bool s,.slice A n c,.bool t,.slice B m d])) (by simp[results,Tryz.results48,go_sem,r1,r2,r3,r4]) rfl P.out
 ·have h0:D=0:=Int.sign_eq_zero_iff_zero.1 (of_decide_eq_true HB.out);have C1:=Lib.hid (show RPost 0 1 k w=RPost (cN N D) (cD D) k w by unfold cN cD;rw[if_pos h0,if_pos h0]);have HB0:=Lib.hid B0;clear h0 hn hd b2 B0 B2 HB HW HZ a1 a2 a3 a4 a5 a6 a7 a8 a9
  go_wp2_with fail
  clear r1 r2 r3 r4 r5 r6 r7 r8 r9;refine(u_a 1 (by omega) (by omega) _).mono ?_;rintro e w3 ⟨s1,A1,n1,c1,rfl,p1,k1,B3⟩;have b4:=(b3.below B3).rb;have P:=rfinq (k:=k) (i_3 w3).zv p1.zv b4 (by omega) (by omega) (by omega) (zup HB0.out B3);rw[C1.out]at P;replace P:=Lib.hid P;unfold rput at P;obtain⟨r1,r2,r3,r4,r5,r6,r7,r8,r9⟩:=b4;clear p1 B3 b3 HB0 C1
  go_wp2_with fail
  exact bodyPost_ret (v:=(.agg #[.bool false,.slice none 0 0,.bool s1,.slice A1 n1 c1])) (by simp[results,Tryz.results48,go_sem,r1,r2,r3,r4]) rfl P.out
theorem x_4 {A B C D':Option Addr}{n c m d l e' f' h' k:Nat}{s t u v:Bool}{N D M E:Int}{w:World}(hn:Zv w s A n c N)(hd:Zv w t B m d D)(hm:Zv w u C l e' M)(he:Zv w v D' f' h' E)(hnk:n<=k)(hmk:m<=k)(hlk:l<=k)(hfk:f'<=k)(h1:1<=k)(hk:k<=1073741824):
  Calls Tryz.prog 61 #[.agg #[.bool s,.slice A n c,.bool t,.slice B m d],.agg #[.bool u,.slice C l e',.bool v,.slice D' f' h']] w (QPost (Rat.divInt N D+Rat.divInt M E) (2*k+1) w):=by
 rw[<-cq N D,<-cq M E,k_x (s_9 D) (s_9 E)];obtain⟨w1,hw1,b2,b3,b4,z1,z2⟩:=boxes3 w 42 42 42 [.bool s,.slice A n c,.bool t,.slice B m d] [.bool u,.slice C l e',.bool v,.slice D' f' h'] [.bool false,.slice none 0 0,.bool false,.slice none 0 0];have HW:=Lib.hid hw1;have HZ:=Lib.hid z1;replace hn:=hn.below z1;replace hd:=hd.below z1;replace hm:=hm.below z1;replace he:=he.below z1;clear hw1 z1;go_enter Tryz.func61,Tryz.ntmps61
 go_upto_region 1 with fail
 rw[HW.out];refine Run.start 4 ?_;refine .ld .o (ldQr b2) ?_;refine .c1 (.i 0) (x:=kR (cN N D) (cD D) k) (by rintro _ w2 hB rfl;exact(e_y (hn.below hB) (hd.below hB) (by omega) (by omega) h1 hk).mono fun e w h=>h.q) ?_;refine .ld .o (ldQr b3) ?_;refine .c1 (.i 2) (x:=kR (cN M E) (cD E) k) (by rintro _ w2 hB rfl;exact(e_y (hm.below hB) (he.below hB) (by omega) (by omega) h1 hk).mono fun e w h=>h.q) ?_;refine .done [some 6,some 7,some 8,some 9] ?_;intro w2 B2;clear hn hd hm he;rintro _ ⟨s5,A5,n5,c5,t5,B5,m5,d5,rfl,hn,hd,g1,g2⟩;rintro _ ⟨s6,A6,n6,c6,t6,B6,m6,d6,rfl,hm,he,g3,g4⟩;refine sh [_,_] ?_;simp only[Act.put,lS,lZ,lC];have B0:=zup HZ.out B2;have hlt:=b3.lt;replace b2:=b2.below B2;replace b3:=b3.below B2;replace b4:=b4.below B2;obtain⟨w3,hw3,b5,b6,B3,zv,bo⟩:=l_1 (s':=s5) (A':=A5) (n':=n5) (c':=c5) (t':=t5) (B':=B5) (m':=m5) (d':=d5) (u':=s6) (C':=A6) (l':=n6) (e':=c6) (v':=t6) (E':=B6) (f':=m6) (h':=d6) b2 b3 (by omega) (Nat.le_refl _) (by omega) B0;obtain⟨a1,a2,a3,a4,a5,a6,a7,a8,a9⟩:=b2.rb;obtain⟨r1,r2,r3,r4,r5,r6,r7,r8,r9⟩:=b3.rb;replace b4:=bo b4 (by omega) (by omega);replace hn:=zv hn;replace hd:=zv hd;replace hm:=zv hm;replace he:=zv he;have Hw3:=Lib.hid hw3;unfold rput at Hw3;have nn:¬(w.heap.size=w.heap.size+1):=by omega
 have nm:¬(w.heap.size+1=w.heap.size):=by omega
 clear hw3 zv bo b2 b3 B2 B0 HZ;go_upto_region 2 with fail
 rw[Hw3.out];clear a1 a2 a3 a4 a5 a6 a7 a8 a9 r1 r2 r3 r4 r5 r6 r7 r8 r9 Hw3;refine Run.start 12 ?_;refine .fa .o (fR0 0) ?_;refine .ld (.i 0) (ldZ b5 0) ?_;refine .fa .o (fR1 2) ?_;refine .ld (.i 2) (ldZ b6 2) ?_;refine .c2 (.i 1) (.i 3) (x:=kC ((cN N D)*(cD E)) (2*k)) (by rintro _ _ w2 hB rfl rfl;exact b_u ⟨_,_,_,_,rfl,hn.below hB,Nat.le_refl _⟩ ⟨_,_,_,_,rfl,he.below hB,Nat.le_refl _⟩ (by omega) (by omega) (by omega)) ?_;refine .fa .o (fR0 0) ?_;refine .ld (.i 5) (ldZ b6 0) ?_;refine .fa .o (fR1 2) ?_;refine .ld (.i 7) (ldZ b5 2) ?_;refine .c2 (.i 6) (.i 8) (x:=kC ((cN M E)*(cD D)) (2*k)) (by rintro _ _ w2 hB rfl rfl;exact b_u ⟨_,_,_,_,rfl,hm.below hB,Nat.le_refl _⟩ ⟨_,_,_,_,rfl,hd.below hB,Nat.le_refl _⟩ (by omega) (by omega) (by omega)) ?_;refine .c2 (.i 4) (.i 9) (x:=kC ((cN N D)*(cD E)+(cN M E)*(cD D)) (2*k+1)) (by rintro _ _ w2 hB h2 h3;exact l_z h2.v h3.v (by omega) (by omega) (by omega)) ?_;refine .al ?_;refine .done [some 10,some 11,some 12,some 13,some 14,some 15,some 16,some 17,some 18,some 19,some 20,some 5] ?_;intro w4 B4;rintro _ - _ - _ ⟨s7,A7,n7,c7,rfl,hs,g5⟩;rintro G hG hl hc -;refine sh [_] ?_;simp only[Act.put,lS,lZ,lC];have b7:=zeroZ (T:=0) hc;have B5:=zup B3 B4;have hl4:=b4.lt;replace b5:=b5.below B4;replace b6:=b6.below B4;replace b4:=b4.below B4;replace hd:=hd.below B4;replace he:=he.below B4;obtain⟨w5,hw5⟩:∃x,zput w4 G s7 A7 n7 c7=x:=⟨_,rfl⟩;obtain⟨a1,a2,a3,a4,a5⟩:=Ib.entry b7;replace hs:=hs.zp (s':=s7) (A':=A7) (n':=n7) (c':=c7) b7;replace hd:=hd.zp (s':=s7) (A':=A7) (n':=n7) (c':=c7) b7;replace he:=he.zp (s':=s7) (A':=A7) (n':=n7) (c':=c7) b7;replace b5:=b5.zo (g:=G) (s:=s7) (A:=A7) (n:=n7) (c:=c7) (by omega);replace b6:=b6.zo (g:=G) (s:=s7) (A:=A7) (n:=n7) (c:=c7) (by omega);replace b4:=b4.zo (g:=G) (s:=s7) (A:=A7) (n:=n7) (c:=c7) (by omega);replace B5:=a_8 (s:=s7) (A:=A7) (n:=n7) (c:=c7) B5 (show w.heap.size<=G by omega);replace b7:=b7.zp (s:=s7) (A:=A7) (n:=n7) (c:=c7);rw[hw5]at hs hd he b5 b6 b4 b7 B5;have Hw5:=Lib.hid hw5;unfold zput at Hw5;clear hw5 hc B3 B4;go_upto_region 3 with fail
 rw[Hw5.out];clear a1 a2 a3 a4 a5 Hw5;refine Run.start 7 ?_;refine .ld .o (ldZ b7 0) ?_;refine .fa .o (fR1 2) ?_;refine .ld (.i 1) (ldZ b5 2) ?_;refine .fa .o (fR1 2) ?_;refine .ld (.i 3) (ldZ b6 2) ?_;refine .c2 (.i 2) (.i 4) (x:=kC ((cD D)*(cD E)) (2*k)) (by rintro _ _ w2 hB rfl rfl;exact b_u ⟨_,_,_,_,rfl,hd.below hB,Nat.le_refl _⟩ ⟨_,_,_,_,rfl,he.below hB,Nat.le_refl _⟩ (by omega) (by omega) (by omega)) ?_;refine .c2 (.i 0) (.i 5) (x:=kQ (Rat.divInt ((cN N D)*(cD E)+(cN M E)*(cD D)) ((cD D)*(cD E))) (2*k+1)) (by rintro _ _ w2 hB rfl h3;exact e_t ⟨_,_,_,_,rfl,hs.zv.below hB,g5⟩ h3.v (Nat.le_refl _) (by omega) (by omega) (by omega)) ?_;refine .done [some 21,some 22,some 23,some 24,some 25,some 26,some 27] ?_;intro w2 B2;rintro _ -;rintro _ ⟨s1,A1,n1,c1,t1,B1,m1,d1,rfl,hq,i1,i2⟩;refine sh [_] ?_;simp only[Act.put,lS,lZ,lC];have b8:=(b4.below B2).rb;have P:=Lib.hid (qfin (w:=w) (k:=2*k+1) hq b8 i1 i2 (by omega) (zup B5 B2));obtain⟨r1,r2,r3,r4,r5,r6,r7,r8,r9⟩:=b8;unfold rput at P;clear B2 hq hs hd he b4 b5 b6 b7 B5 HW
 go_wp2_with fail
 exact bodyPost_ret (v:=(.agg #[.bool s1,.slice A1 n1 c1,.bool t1,.slice B1 m1 d1])) (by simp[results,Tryz.results61,go_sem,r1,r2,r3,r4]) rfl P.out
theorem x_3 {A B C D':Option Addr}{n c m d l e' f' h' k:Nat}{s t u v:Bool}{N D M E:Int}{w:World}(hn:Zv w s A n c N)(hd:Zv w t B m d D)(hm:Zv w u C l e' M)(he:Zv w v D' f' h' E)(hnk:n<=k)(hmk:m<=k)(hlk:l<=k)(hfk:f'<=k)(h1:1<=k)(hk:k<=1073741824){r:Int}(hr:rsg (Rat.divInt N D - Rat.divInt M E)=r):
  Calls Tryz.prog 12 #[.agg #[.bool s,.slice A n c,.bool t,.slice B m d],.agg #[.bool u,.slice C l e',.bool v,.slice D' f' h']] w (IPost r w):=by
 rw[<-cq N D,<-cq M E,<-u_8 (s_9 D) (s_9 E)]at hr;obtain⟨o,ho⟩:∃r,((cN N D)*(cD E) - (cN M E)*(cD D)).sign=r:=⟨_,rfl⟩;obtain⟨p,hp⟩:∃r,(cD D).sign=r:=⟨_,rfl⟩;obtain⟨q,hq⟩:∃r,(cD E).sign=r:=⟨_,rfl⟩;have hb0:=c_j ((cN N D)*(cD E) - (cN M E)*(cD D));have hb1:=c_j (cD D);have hb2:=c_j (cD E);rw[ho,hp,hq]at hr;rw[ho]at hb0;rw[hp]at hb1;rw[hq]at hb2;have hb3:=e_d hb0 hb1;have hb4:=e_d hb3 hb2;rw[hr]at hb4;obtain⟨y,hy⟩:∃y,o*p=y:=⟨_,rfl⟩;rw[hy]at hr hb3;have HR:=Lib.hid hr;have HO:=Lib.hid ho;have HP:=Lib.hid hp;have HQ:=Lib.hid hq;have HY:=Lib.hid hy;obtain⟨w1,hw1,b2,b3,z1,z2⟩:=boxes2 w 42 42 [.bool s,.slice A n c,.bool t,.slice B m d] [.bool u,.slice C l e',.bool v,.slice D' f' h'];have HW:=Lib.hid hw1;have HZ:=Lib.hid z1;replace hn:=hn.below z1;replace hd:=hd.below z1;replace hm:=hm.below z1;replace he:=he.below z1;clear hw1 z1 hr ho hp hq hy;go_enter Tryz.func12,Tryz.ntmps12
 go_upto_region 1 with fail
 rw[HW.out];refine Run.start 4 ?_;refine .ld .o (ldQr b2) ?_;refine .c1 (.i 0) (x:=kR (cN N D) (cD D) k) (by rintro _ w2 hB rfl;exact(e_y (hn.below hB) (hd.below hB) (by omega) (by omega) h1 hk).mono fun e w h=>h.q) ?_;refine .ld .o (ldQr b3) ?_;refine .c1 (.i 2) (x:=kR (cN M E) (cD E) k) (by rintro _ w2 hB rfl;exact(e_y (hm.below hB) (he.below hB) (by omega) (by omega) h1 hk).mono fun e w h=>h.q) ?_;refine .done [some 6,some 7,some 8,some 9] ?_;intro w2 B2;clear hn hd hm he;rintro _ ⟨s5,A5,n5,c5,t5,B5,m5,d5,rfl,hn,hd,g1,g2⟩;rintro _ ⟨s6,A6,n6,c6,t6,B6,m6,d6,rfl,hm,he,g3,g4⟩;refine sh [_,_] ?_;simp only[Act.put,lS,lZ,lC];have B0:=zup HZ.out B2;have hlt:=b3.lt;replace b2:=b2.below B2;replace b3:=b3.below B2;obtain⟨w3,hw3,b5,b6,B3,zv,bo⟩:=l_1 (s':=s5) (A':=A5) (n':=n5) (c':=c5) (t':=t5) (B':=B5) (m':=m5) (d':=d5) (u':=s6) (C':=A6) (l':=n6) (e':=c6) (v':=t6) (E':=B6) (f':=m6) (h':=d6) b2 b3 (by omega) (Nat.le_refl _) (by omega) B0;obtain⟨a1,a2,a3,a4,a5,a6,a7,a8,a9⟩:=b2.rb;obtain⟨r1,r2,r3,r4,r5,r6,r7,r8,r9⟩:=b3.rb;replace hn:=zv hn;replace hd:=zv hd;replace hm:=zv hm;replace he:=zv he;have Hw3:=Lib.hid hw3;unfold rput at Hw3;have nn:¬(w.heap.size=w.heap.size+1):=by omega
 have nm:¬(w.heap.size+1=w.heap.size):=by omega
 clear hw3 zv bo b2 b3 B2 B0 HZ;go_upto_region 2 with fail
 rw[Hw3.out];clear a1 a2 a3 a4 a5 a6 a7 a8 a9 r1 r2 r3 r4 r5 r6 r7 r8 r9 Hw3;refine Run.start 11 ?_;refine .fa .o (fR0 0) ?_;refine .ld (.i 0) (ldZ b5 0) ?_;refine .fa .o (fR1 2) ?_;refine .ld (.i 2) (ldZ b6 2) ?_;refine .c2 (.i 1) (.i 3) (x:=kC ((cN N D)*(cD E)) (2*k)) (by rintro _ _ w2 hB rfl rfl;exact b_u ⟨_,_,_,_,rfl,hn.below hB,Nat.le_refl _⟩ ⟨_,_,_,_,rfl,he.below hB,Nat.le_refl _⟩ (by omega) (by omega) (by omega)) ?_;refine .fa .o (fR0 0) ?_;refine .ld (.i 5) (ldZ b6 0) ?_;refine .fa .o (fR1 2) ?_;refine .ld (.i 7) (ldZ b5 2) ?_;refine .c2 (.i 6) (.i 8) (x:=kC ((cN M E)*(cD D)) (2*k)) (by rintro _ _ w2 hB rfl rfl;exact b_u ⟨_,_,_,_,rfl,hm.below hB,Nat.le_refl _⟩ ⟨_,_,_,_,rfl,hd.below hB,Nat.le_refl _⟩ (by omega) (by omega) (by omega)) ?_;refine .c2 (.i 4) (.i 9) (x:=.k (.int .i64 o)) (by rintro _ _ w2 hB ⟨_,_,_,_,rfl,h2,_⟩ ⟨_,_,_,_,rfl,h3,_⟩;exact(t_k h2.zv h3.zv (by omega) (by omega) HO.out).mono fun e w h=>h.q) ?_;refine .done [some 10,some 11,some 12,some 13,some 14,some 15,some 16,some 17,some 18,some 19,some 20] ?_;intro w4 B4;rintro _ - _ -;refine sh [_] ?_;simp only[Act.put,lS,lZ,lC];have B5:=zup B3 B4;replace b5:=b5.below B4;replace b6:=b6.below B4;replace hd:=hd.below B4;replace he:=he.below B4;clear B3 B4 HO;go_upto_region 3 with fail
 refine Run.start 9 ?_;refine .mv .o ?_;refine .fa .o (fR1 2) ?_;refine .ld (.i 1) (ldZ b5 2) ?_;refine .c1 (.i 2) (x:=.k (.int .i64 p)) (by rintro _ w2 hB rfl;exact a_z ⟨_,_,_,_,rfl,hd.below hB,Nat.le_refl _⟩ (by omega) HP.out) ?_;refine .two (.i 0) (.i 3) (opMul HY.out (by omega) (by omega)) ?_;refine .fa .o (fR1 2) ?_;refine .ld (.i 5) (ldZ b6 2) ?_;refine .c1 (.i 6) (x:=.k (.int .i64 q)) (by rintro _ w2 hB rfl;exact a_z ⟨_,_,_,_,rfl,he.below hB,Nat.le_refl _⟩ (by omega) HQ.out) ?_;refine .two (.i 4) (.i 7) (opMul HR.out (by omega) (by omega)) ?_;refine .done [some 21,some 22,some 23,some 24,some 25,some 26,some 27,some 28,some 29] ?_;intro w2 B2;refine sh [_] ?_;simp only[Act.put,lS,lZ,lC];have P:=zup B5 B2;clear B2 b5 b6 B5 HW HR HP HQ HY hn hd hm he
 go_wp2_with fail
 exact bodyPost_ret (v:=.int .i64 r) (by simp[results,Tryz.results12,go_sem]) rfl ⟨rfl,P⟩
end
end Go.Proofs.YtfhbdlegkdbmfaaGreat
section
namespace Go.Proofs.YtfhbdlegkdbmfaaGreat
def fw:Nat->Nat->List Nat
 |0,_=>[]
 |k+1,x=>fw k (x / 10)++[48+x%10]
theorem b_6 (k x:Nat):(fw k x).length=k:=by
 induction k generalizing x with
 |zero=>rfl
 |succ k ih=>simp[fw,ih]
theorem p_y (a b x:Nat):fw (a+b) x=fw a (x / 10^b)++fw b x:=by
 induction b generalizing x with
 |zero=>simp[fw]
 |succ b ih=>
  rw[<-Nat.add_assoc,fw,ih,fw,Nat.div_div_eq_div_mul,<-Nat.pow_succ',List.append_assoc]
theorem y_t (k x:Nat):fw k (x%10^k)=fw k x:=by
 induction k generalizing x with
 |zero=>rfl
 |succ k ih=>
  have e1:x%10^(k+1) / 10=x / 10%10^k:=by rw[Nat.pow_succ',Nat.mod_mul_right_div_self]
  have e2:x%10^(k+1)%10=x%10:=Nat.mod_mod_of_dvd _ (Nat.pow_succ' ▸ Nat.dvd_mul_right 10 _);rw[fw,e1,e2,ih,fw]
theorem p_x (k x:Nat):fw (k+1) x=(48+x / 10^k%10)::fw k x:=by
 rw[Nat.add_comm k 1,p_y];rfl
def Dig (l:List Nat):Prop:=∀c∈l,48<=c/\c<=57
theorem Dig.snoc {l:List Nat}(h:Dig l){c:Nat}(hc:48<=c/\c<=57):Dig (l++[c]):=fun d hd=>by
 rcases List.mem_append.1 hd with hd|hd
 ·exact h d hd
 ·rw[List.mem_singleton.1 hd];exact hc
theorem y_4 (k x:Nat):Dig (fw k x):=by
 induction k generalizing x with
 |zero=>intro c hc;cases hc
 |succ k ih=>exact(ih _).snoc (by omega)
def hv (l:List Nat):Nat:=l.foldl (fun a c=>10*a+(c - 48)) 0
def nd (v:Nat):Nat:=if h:v<10 then 1 else nd (v / 10)+1
termination_by v
decreasing_by omega
theorem t_w (v:Nat):0<nd v:=by unfold nd;split<;>omega
theorem y_f (v:Nat):v<10^nd v/\(nd v=1\/10^(nd v - 1)<=v):=by
 induction v using Nat.strongRecOn with
 |ind v ih=>
  unfold nd;split
  ·rename_i h;exact⟨by simpa using h,.inl rfl⟩
  ·rename_i h;have i:=ih (v / 10) (by omega);refine⟨by rw[Nat.pow_succ];omega,.inr ?_⟩;rw[Nat.add_sub_cancel];obtain⟨m,hm⟩:∃m,nd (v / 10)=m+1:=⟨nd (v / 10) - 1,by have:=t_w (v / 10);omega⟩;rw[hm]at i ⊢;rw[Nat.add_sub_cancel]at i;rw[Nat.pow_succ];rcases i.2 with h1|h1
   ·obtain rfl:m=0:=by omega
    simp;omega
   ·omega
theorem y_g {v k:Nat}(h0:0<k)(h1:v<10^k)(h2:k=1\/10^(k - 1)<=v):nd v=k:=by
 have i:=y_f v;have p:=t_w v;rcases Nat.lt_trichotomy (nd v) k with h|h|h
 ·rcases h2 with h2|h2
  ·omega
  ·have:=Nat.pow_le_pow_right (n:=10) (by omega) (show nd v<=k - 1 from by omega);omega
 ·exact h
 ·rcases i.2 with h3|h3
  ·omega
  ·have:=Nat.pow_le_pow_right (n:=10) (by omega) (show k<=nd v - 1 from by omega);omega
theorem nd_le {v k:Nat}(h0:0<k)(h:v<10^k):nd v<=k:=by
 rcases Nat.lt_or_ge k (nd v)with h1|h1
 ·rcases(y_f v).2 with h3|h3
  ·omega
  ·have:=Nat.pow_le_pow_right (n:=10) (by omega) (show k<=nd v - 1 from by omega);omega
 ·exact h1
def dgs (v:Nat):List Nat:=fw (nd v) v
theorem h_t (v:Nat):(dgs v).length=nd v:=b_6 _ _
theorem p_9 (v:Nat):Dig (dgs v):=y_4 _ _
theorem t_c (v n:Nat)(h:bl v<=59*2^n):v<10^(18*2^n):=by
 have h1:=bl_le.1 h;have h2:(2:Nat)^(59*2^n)<=10^(18*2^n):=by
  rw[Nat.pow_mul,Nat.pow_mul];exact Nat.pow_le_pow_left (by omega) _
 omega
end Go.Proofs.YtfhbdlegkdbmfaaGreat
namespace Go.Proofs.YtfhbdlegkdbmfaaGreat
def bys (s:ByteArray):List Nat:=s.data.toList.map UInt8.toNat
def str (l:List Nat):ByteArray:=⟨(l.map UInt8.ofNat).toArray⟩
theorem h_u (s:ByteArray):(bys s).length=s.size:=by simp[bys]
theorem q_k {l:List Nat}(h:∀c∈l,c<256):bys (str l)=l:=by
 unfold bys str;simp only[List.map_map];conv=>rhs;rw[<-List.map_id l]
 exact List.map_congr_left fun c hc=>by simp[Nat.mod_eq_of_lt (h c hc)]
theorem Dig.low {l:List Nat}(h:Dig l):∀c∈l,c<256:=fun c hc=>by have:=h c hc;omega
theorem u_i (l:List Nat):strOfNums (l.map fun n:Nat=>((n:Nat):Int))=str l:=by
 unfold strOfNums str;rw[List.map_map];rfl
end Go.Proofs.YtfhbdlegkdbmfaaGreat
namespace Go.Proofs.YtfhbdlegkdbmfaaGreat
open Go.RowKit
def DblPost (l s:Nat)(w:World)(e:Ending)(w':World):Prop:=
 (∃n:Nat,e= .returned (.int .i64 n)/\s<=l*2^n/\(n=0\/l*2^(n - 1)<s))/\w=w'
theorem q_d (l s:Nat)(hl:0<l)(hl2:l<=1099511627776)(hs:s<=1099511627776)(w:World):
  Calls Tryz.prog 175 #[.int .i64 l,.int .i64 s] w (DblPost l s w):=by
 go_enter Tryz.func175,Tryz.ntmps175
 go_wp2
 go_loop [0,5] (fun a i=>∃(k p:Nat),i= .int .i64 k/\a= .int .i64 p/\Hid (p=l*2^k)/\0<p/\p<=2199023255552/\k<p+1/\(Hid (k=0\/l*2^(k - 1)<s))) (fun a _=>s - (intOf a).toNat)
 case atStart=>exact⟨0,l,rfl,rfl,Lib.hid (by simp),hl,by omega,by omega,Lib.hid (.inl rfl)⟩
 case round=>
  obtain⟨k,p,rfl,rfl,H1,h0,h1,h3,H2⟩:=hrel;by_cases hlt:p<s
  ·go_wp2
   go_round
   case rel=>exact⟨k+1,p*2,by go_num,by go_num,Lib.hid (by rw[H1.out,Nat.pow_succ,Nat.mul_assoc]),by omega,by omega,by omega,Lib.hid (.inr (by rw[Nat.add_sub_cancel,<-H1.out];exact hlt))⟩
   case measure=>simp[intOf];omega
  ·go_wp2
   go_ret
   exact⟨⟨k,rfl,by rw[<-H1.out];omega,H2.out⟩,rfl⟩
theorem q_c {l s n m:Nat}(hl:0<l)(h:n=0\/l*2^(n - 1)<s)(hs:s<=l*2^m):n<=m:=by
 rcases h with rfl|h
 ·exact Nat.zero_le _
 ·have h1:2^(n - 1)<2^m:=Nat.lt_of_mul_lt_mul_left (Nat.lt_of_lt_of_le h hs);have h2:=(Nat.pow_lt_pow_iff_right (a:=2) (by omega)).1 h1;omega
theorem x_c {k n:Nat}(h:k<=n):(10:Nat)^k<=10^n:=Nat.pow_le_pow_right (by omega) h
end Go.Proofs.YtfhbdlegkdbmfaaGreat
end
