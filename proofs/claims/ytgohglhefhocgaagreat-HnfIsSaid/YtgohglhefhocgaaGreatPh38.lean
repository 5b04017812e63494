/- Ph38 -/
import Derived.Test.YtgohglhefhocgaaGreatPh37
import Derived.Deep.RegionHeld3
set_option linter.unusedVariables false
set_option linter.unusedSimpArgs false
set_option linter.unusedSectionVars false
set_option maxRecDepth 100000
set_option maxHeartbeats 8000000
namespace Go.Proofs.YtgohglhefhocgaaGreat
section
open Go.RowKit
def hbd (k W:Nat):Prop:=1≤k∧k≤549755813888∧t1 k W*(W+3)≤68719476736
noncomputable def kHm (R C k:Nat)(F:Nat→Nat→Int):FK:=kT3 (kP (HermOk R C F (hvf R C F) fun i j=>hvf R C F i (C+j)) (kM true R C k (hvf R C F))) (kM true R R k fun i j=>hvf R C F i (C+j)) (.k (.int .i64 0))
def HePost (w:World)(R C k:Nat)(F:Nat→Nat→Int)(A:Option Addr)(r:Nat)(w':World):Prop:=
 Below w.heap.size w w'∧r=R∧∃G:Nat→Nat→Int,RowsAt w' A R (C+R) k G∧DT.Herm R (C+R) G∧∀v,DT.Lat R (C+R) G v↔DT.Lat R (C+R) (bsm C F) v
theorem d_f {q:Bool}{r c n d k:Nat}{A:Option Addr}{F:Nat→Nat→Int}{w:World}(ha:Mt q w r c A n d k F)(hk:hbd k (c+r)):Calls Tryz.prog 10 #[.agg #[.int .i64 (r:Int),.int .i64 (c:Int),.slice A n d]] w (RetK (kHm r c (tm k (c+r)) F) w):=by
 have h1:=ha.fmd;have h3:=ha.hr;have h4:=ha.hc;obtain⟨hk1,hk2,hk3⟩:=hk;have HA:=Lib.hid ha;have HK:=Lib.hid hk3;clear ha hk3;obtain⟨w1,hw1,b1,b2,b3,z1,s1⟩:=boxes3 w 24 24 24 [.int .i64 (r:Int),.int .i64 (c:Int),.slice A n d] [.int .i64 0,.int .i64 0,.slice none 0 0] [.int .i64 0,.int .i64 0,.slice none 0 0];have HW:=Lib.hid hw1;have HZ:=Lib.hid z1;have h1_:=Lib.hid h1;clear hw1 z1 h1;go_enter Tryz.func10,Tryz.ntmps10
 go_upto_region 1 with fail
 rw[HW.out];refine Run.start 3 ?_;refine .ld .o (ldM b1 0) ?_;refine .c1 (.i 0) (x:=.k (.bool true)) (by rintro u w4 hB rfl;exact a_n h1_.out w4) ?_;refine .nt (.i 1) ?_;refine .donep [some 6,some 7,some 8] ?_;intro w2 B2;change Shut (wpList _ _ _ [] _ _);refine⟨?_⟩;simp only[Act.put,lS,lZ,lC];have BW:=zup HZ.out B2;replace b1:=b1.below B2;replace b2:=b2.below B2;replace b3:=b3.below B2;have HA2:=Lib.hid (HA.out.below BW);have hs1:=s1;have hs2:=B2.size;have HB1:=Lib.hid b1;have HB2:=Lib.hid b2;have HB3:=Lib.hid b3;have HBW:=Lib.hid BW;have hl1:=b1.lt;obtain⟨c0,c1,c2,-,-,-,-⟩:=b1.m3;have d0:=(b1.below (a_a w2)).cell 0;obtain⟨V,hV⟩:∃V,c+r=V:=⟨_,rfl⟩;have hsum:IntKind.i64.wrap ((c:Int)+(r:Int))=(V:Int):=by rw[IntKind.wrap_i64];omega
 rw[hV]at HK;have hVl:V≤128:=by omega
 have HV:=Lib.hid hV;clear b1 b2 b3 B2 BW HZ s1 d0 HA hV;go_upto_region 3 with fail
 go_region_held3 (fun w'=>w'.cell? ⟨w.heap.size,0,none⟩=some (.int .i64 (r:Int))∧w'.cell? ⟨w.heap.size,1,none⟩=some (.int .i64 (c:Int))∧w'.cell? ⟨w.heap.size,2,none⟩=some (.slice A n d)) (go_keep) (first
  |(go_at_call 37;(with_reducible refine(r_5 (HA2.out.below (a_a _)) hk1 hk2).mono ?_);rintro e w4 ⟨L,g,cp,rfl,B4,hL,bL,R4,hbd4,hcp⟩;have Q4:=zup (a_a _) B4;rw[HV.out]at bL R4 hbd4 hcp;obtain⟨x0,x1,x2,-,-,-,-⟩:=(HB1.out.below Q4).m3)
  |(go_at_call 36;(with_reducible refine(k_2 bL R4 B4.size hcp hbd4 (by omega) (by omega) HK.out).mono ?_);rintro e w5 ⟨H,Fh,p,rfl,hH,T,hC⟩;have Q5:=hC.up Q4 (by have:=Q4.size;omega) (fun a ha=>by have:=(R4.row a ha).lo;have:=a_a w2;have:=this.size;omega);obtain⟨y0,y1,y2,-,-,-,-⟩:=(HB1.out.below Q5).m3)
  |(go_at_call 38;(with_reducible refine(k_1 T (Nat.le_refl _) (by omega) hcp).mono ?_);rintro e w6 ⟨Br,cr,rfl,hRA,B6⟩;have Q6:=zup Q5 B6;obtain⟨z0,z1,z2,-,-,-,-⟩:=(HB1.out.below Q6).m3)
  |fail)
 have HP:Hid (HePost w2 r c (tm k V) F Br (DT.rl p V).length w6):=by
  have hf:=T.form;have hV:=HV.out;subst hV;have hrr:=m_y hf.hm.steps hf.full hf.lat;rw[hrr]at hf hRA ⊢;exact Lib.hid ⟨Q6,rfl,_,hRA,hf.hm,hf.lat⟩
 have hbr:=HP.out.2.1;obtain⟨Lr,hLr⟩:∃x,(DT.rl p V).length=x:=⟨_,rfl⟩;rw[hLr]at HP hbr ⊢;have HB1':=Lib.hid (HB1.out.below Q6);have HB2':=Lib.hid (HB2.out.below Q6);have HB3':=Lib.hid (HB3.out.below Q6);have HQ6:=Lib.hid Q6;have hs6:=Q6.size;clear T hRA hC bL R4 hbd4 hcp B4 B6 Q4 Q5 Q6 x0 x1 x2 y0 y1 y2 z0 z1 z2 c0 c1 c2 HB1 HB2 HB3 hLr hH hL;obtain⟨G,HG⟩:∃G,Hid (RowsAt w6 Br r V (tm k V) G∧DT.Herm r V G∧∀v,DT.Lat r V G v↔DT.Lat r V (bsm c F) v):=by
  obtain⟨-,-,G,h1,h2,h3⟩:=HP.out;rw[HV.out]at h1 h2 h3;exact⟨G,Lib.hid ⟨h1,h2,h3⟩⟩
 clear HP;subst hbr;have hV1:c+Lr≤V:=by have:=HV.out;omega
 have hV2:V≤c+Lr:=by have:=HV.out;omega
 have b1:=HB1'.out;have b2:=HB2'.out;have b3:=HB3'.out;go_upto_region 4 with fail
 refine Run.start 13 ?_;refine .mv .o ?_;refine .fa .o (fM1 1) ?_;refine .ld (.i 1) (ldInt b1 1) ?_;refine .c3 (.i 0) .o (.i 2) (x:=kM true Lr c (tm k V) G) (by rintro u v x w7 hB rfl rfl rfl;have h:=h_4 (lo:=0) (hi:=c) (cA:=cr) (HG.out.1.below hB) (by omega) (by omega) (by omega) h3 (by omega);simp only[Nat.sub_zero,Nat.zero_add]at h;exact h) ?_;refine .mv .o ?_;refine .fa .o (fM1 1) ?_;refine .ld (.i 5) (ldInt b1 1) ?_;refine .fa .o (fM1 1) ?_;refine .ld (.i 7) (ldInt b1 1) ?_;refine .fa .o (fM0 0) ?_;refine .ld (.i 9) (ldInt b1 0) ?_;refine .two (.i 8) (.i 10) (opAdd (show(c:Int)+(Lr:Int)=(V:Int) by omega) (by omega) (by omega)) ?_;refine .c3 (.i 4) (.i 6) (.i 11) (x:=kM true Lr Lr (tm k V) fun i j=>G i (c+j)) (by rintro u v x w7 hB rfl rfl rfl;have h:=h_4 (lo:=c) (hi:=V) (cA:=cr) (HG.out.1.below hB) (by omega) (Nat.le_refl _) (by omega) h3 (by omega);rw[show V - c=Lr by omega]at h;exact h) ?_;refine .done [some 20,some 21,some 22,some 23,some 24,some 25,some 26,some 27,some 28,some 29,some 30,some 31,some 32] ?_;intro w7 B7;rintro v ⟨A5,n5,d5,rfl,m5⟩;rintro v ⟨A6,n6,d6,rfl,m6⟩;change Shut (wpList _ _ _ [_,_,_] _ _);refine⟨?_⟩;simp only[Act.put,lS,lZ,lC];have HBW7:=Lib.hid (zup (zup HBW.out HQ6.out) B7);replace b2:=b2.below B7;replace b3:=b3.below B7;have hsp:=o_i (R:=Lr) (C:=c) (F:=F) (G:=G) (by have h:=HG.out.2.1;rw[←HV.out]at h;exact h) (by have h:=HG.out.2.2;rw[←HV.out]at h;exact h);have hm1:=(m5.congr (G:=hvf Lr c F) fun i j hi hj=>(hsp.2 i j hi (by omega)).symm);have hm2:=(m6.congr (G:=fun i j=>hvf Lr c F i (c+j)) fun i j hi hj=>(hsp.2 i (c+j) hi (by omega)).symm);have P:Hid (RetK (kHm Lr c (tm k (c+Lr)) F) w (.returned (.tuple #[.agg #[.int .i64 (Lr:Int),.int .i64 (c:Int),.slice A5 n5 d5],.agg #[.int .i64 (Lr:Int),.int .i64 (Lr:Int),.slice A6 n6 d6],.int .i64 0])) (mput (mput w7 (w.heap.size+1) (Lr:Int) (c:Int) A5 n5 d5) (w.heap.size+1+1) (Lr:Int) (Lr:Int) A6 n6 d6)):=by
  rw[HV.out];have h2:=hm1.put (r':=(Lr:Int)) (c':=(c:Int)) (C:=A5) (n':=n5) (d':=d5) b2;have h3:=hm2.put (r':=(Lr:Int)) (c':=(c:Int)) (C:=A5) (n':=n5) (d':=d5) b2;have b3':=b3.mo (g:=w.heap.size+1) (r:=(Lr:Int)) (c:=(c:Int)) (A:=A5) (n:=n5) (d:=d5) (by omega);exact Lib.hid ⟨_,rfl,⟨_,_,_,rfl,⟨⟨_,_,_,rfl,h2.put b3'⟩,hsp.1⟩,⟨_,_,_,rfl,h3.put b3'⟩,rfl⟩,a_c (a_c HBW7.out (by omega)) (by omega)⟩
 unfold mput at P;obtain⟨i0,i1,i2,i3,i4,i5,i6⟩:=b2.m3;have b3':=b3.mo (g:=w.heap.size+1) (r:=(Lr:Int)) (c:=(c:Int)) (A:=A5) (n:=n5) (d:=d5) (by omega);have b2':=b2.mp (r:=(Lr:Int)) (c:=(c:Int)) (A:=A5) (n:=n5) (d:=d5);unfold mput at b3' b2';obtain⟨j0,j1,j2,j3,j4,j5,j6⟩:=b3'.m3;have nn:¬(w.heap.size+1=w.heap.size+1+1):=by omega
 have b2q:=b2'.mo (g:=w.heap.size+1+1) (r:=(Lr:Int)) (c:=(Lr:Int)) (A:=A6) (n:=n6) (d:=d6) (by omega);have b3q:=b3'.mp (r:=(Lr:Int)) (c:=(Lr:Int)) (A:=A6) (n:=n6) (d:=d6);unfold mput at b2q b3q;obtain⟨p0,p1,p2,-,-,-,-⟩:=b2q.m3;obtain⟨q0,q1,q2,-,-,-,-⟩:=b3q.m3;clear hm1 hm2 hsp m5 m6 b1 b2 b3 b2' b3' b2q b3q B7
 go_wp2_with fail
 exact bodyPost_ret (v:=.tuple #[.agg #[.int .i64 (Lr:Int),.int .i64 (c:Int),.slice A5 n5 d5],.agg #[.int .i64 (Lr:Int),.int .i64 (Lr:Int),.slice A6 n6 d6],.int .i64 0]) (by simp[results,Tryz.results10,go_sem,p0,p1,p2,q0,q1,q2]) rfl P.out
end
section
open Go.RowKit
structure PM where
 r:Nat
 c:Nat
 F:Nat→Nat→Int
def pz:PM:=⟨0,0,fun _ _=>0⟩
section
variable {w w':World}{r c r' c':Int}{A A':Option Addr}{n d k n' d' k':Nat}{x y:Option PM}
end
end
section
open Go.RowKit
def hrow (c:Nat)(F:Nat→Nat→Int)(i:Nat):Prop:=DT.fst c (F i)<c→(0<i→DT.fst c (F (i - 1))<DT.fst c (F i))∧0<F i (DT.fst c (F i))∧∀x,x<i→0≤F x (DT.fst c (F i))∧F x (DT.fst c (F i))<F i (DT.fst c (F i))
end
section
open Go.RowKit
def l46:Nat→Nat→Int:=fun i j=>([4,6]:List Int).getD (i*1+j) 0
theorem r_o {H U:Nat→Nat→Int}(h:HermOk 2 1 l46 H U):H 0 0=2:=by
 have hK:DT.Herm 2 1 (fun i j=>if i=0 then 2 else 0):=by
  have f0:DT.fst 1 (fun j:Nat=>(2:Int))=0:=by decide
  have f1:DT.fst 1 (fun j:Nat=>(0:Int))=1:=by decide
  refine⟨fun i hi hc=>?_,fun i hi hc=>?_,fun i hi hc x hx=>?_⟩
  ·obtain rfl:i=0:=by omega
   exact absurd hc (by decide)
  ·rcases Nat.lt_or_ge 0 i with h0|h0
   ·obtain rfl:i=1:=by omega
    exact absurd hc (by decide)
   ·obtain rfl:i=0:=by omega
    decide
  ·obtain rfl:i=1:=by omega
   exact absurd hc (by decide)
 refine DT.herm_uniq h.hm hK (fun v=>(h.lat v).trans ?_) 0 0 (by decide) (by decide);constructor
 ·rintro⟨x,hx⟩;refine⟨fun _=>2*x 0+3*x 1,fun j hj=>?_⟩;obtain rfl:j=0:=by omega
  have:=hx 0 (by decide);simp[DT.sumN,l46]at this ⊢;omega
 ·rintro⟨x,hx⟩;refine⟨fun i=>if i=0 then - x 0 else x 0,fun j hj=>?_⟩;obtain rfl:j=0:=by omega
  have:=hx 0 (by decide);simp[DT.sumN,l46]at this ⊢;omega
theorem n_o {w:World}{x y:Int}:(Instr.buildSlice 90 2 #[(0,.int .i64 x),(1,.int .i64 y)]).run Tryz.prog w= .ok (.slice (some ⟨w.heap.size,0,none⟩) 2 2) (w.alloc (.cells #[.int .i64 x,.int .i64 y] 2)):=by kernel_rfl
theorem Run.bsJ2 {ops:Array Oper}{Q:Exit→Act→World→Prop}{m i:Nat}{a0:Act}{w0:World}{l:List FK}{b:Bool}{id:Nat}(s t:Src){x y:Int}(hb:∀v,v∈[x,y]→ -9223372036854775808≤v∧v≤9223372036854775807)(rest:R ops Q m a0 w0 b id (kIJ [x,y]::l) (i+1))(hx:srcsK l i a0 (bsL (opAt ops i).op) [s,t] [.int .i64 x,.int .i64 y]:=by exact⟨rfl,rfl,trivial⟩)(hc:okBsJ ops m i [s,t]=true:=by kernel_rfl)(hg:Gd l i (opAt ops i):=by first|exact trivial|exact rfl):R ops Q m a0 w0 b id l i:=by
 unfold okBsJ at hc;rw[Bool.and_eq_true]at hc;obtain⟨h1,h2⟩:=hc;refine Run.mem (x:=kIJ [x,y]) (fun a w h=>?_) rest (FK.fne _) h1 hg;split at h2
 ·rename_i T n xs e;rw[e]at hx;simp only[Bool.and_eq_true,beq_iff_eq]at h2;obtain⟨⟨⟨rfl,rfl⟩,h3⟩,h4⟩:=h2;have hv:=h.srcs h4 hx;have hp:(xs.map fun(i,y)=>(i,a.eval y))= #[(0,.int .i64 x),(1,.int .i64 y)]:=by
   obtain⟨ys⟩:=xs;match ys,h3,hv with
   | [(k0,x0),(k1,x1)],h3,hv=>
    have h3':[k0,k1]=[0,1]:=h3;have hv':[a.eval x0,a.eval x1]=[.int .i64 x,.int .i64 y]:=hv;simp only[List.cons.injEq,and_true]at h3' hv';simp[h3'.1,h3'.2,hv'.1,hv'.2]
  have B:=zba w (.cells #[.int .i64 x,.int .i64 y] 2);have b4:=Bx.new w 2 [.int .i64 x,.int .i64 y];refine⟨_,_, ?_,⟨w.heap.size,rfl,rfl,Nat.le_refl _,by show 2≤9223372036854775807;decide,fun _=>⟨_,rfl,b4.lt,fun j hj=>?_⟩,fun j hj=>?_⟩,B⟩
  ·unfold execOp;rw[e];simp only[hp];simp[n_o]
  ·rw[b_k];refine(b4.cell j).trans ?_;match j,hj with
   |0,_=>rfl
   |1,_=>rfl
  ·match j,hj with
   |0,_=>exact hb x (by simp)
   |1,_=>exact hb y (by simp)
 ·cases h2
theorem a_k (w:World):Calls Tryz.prog 8 #[] w (RetK (.k (.bool true)) w):=by
 have B0:=Below.refl w.heap.size w;go_enter Tryz.func8,Tryz.ntmps8
 go_upto_region 1 with fail
 refine Run.start 6 ?_;refine .bsJ2 .o .o (x:=4) (y:=6) (by decide) ?_;refine .c3 .o .o (.i 0) (x:=kT (kM true 2 1 1 l46) (.k (.int .i64 0))) (by rintro u v x w2 hB rfl rfl ⟨g,rfl,hl⟩;exact q_1 (r:=2) (c:=1) hl rfl (by decide) (by decide)) ?_;refine .mf (.i 1) ?_;refine .ex (.i 2) 0 kT_0 ?_;refine .ex (.i 2) 1 kT_1 ?_;refine .al ?_;refine .donep [some 7,some 8,some 6,some 9,some 10,some 1] ?_;intro w2 B2;rintro v0 -;rintro v1 -;rintro v2 -;rintro v3 ⟨A1,n1,d1,rfl,m1⟩;rintro g1 hg1 hl1 hc1 -;change Shut (wpList _ _ _ [_,_] _ _);refine⟨?_⟩;simp only[Act.put,lS,lZ,lC];have b1:=zeroM hc1;replace B0:=zup B0 B2;clear B2 hc1;obtain⟨w3,hw3⟩:∃x,mput w2 g1 2 1 A1 n1 d1=x:=⟨_,rfl⟩;obtain⟨f0_,f1_,f2_,f3_,f4_,f5_,f6_⟩:=b1.m3;replace m1:=m1.put (r':=2) (c':=1) (C:=A1) (n':=n1) (d':=d1) b1;rw[hw3]at m1;replace B0:=a_c (g:=g1) (r:=2) (c:=1) (A:=A1) (n:=n1) (d:=d1) B0 (by omega);rw[hw3]at B0;replace b1:=b1.mp (g:=g1) (r:=2) (c:=1) (A:=A1) (n:=n1) (d:=d1);rw[hw3]at b1;have Hw3:=Lib.hid hw3;unfold mput at Hw3;clear hw3;go_upto_region 2 with fail
 rw[Hw3.out];clear f0_ f1_ f2_ f3_ f4_ f5_ f6_ Hw3;refine Run.start 8 ?_;refine .ld .o (ldM b1 0) ?_;refine .c1 (.i 0) (x:=kHm 2 1 (tm 1 (1+2)) l46) (by rintro u w2 hB rfl;exact d_f (r:=2) (c:=1) (m1.below hB) ⟨by decide,by decide,by decide⟩) ?_;refine .mf (.i 1) ?_;refine .ex (.i 2) 0 h_b ?_;refine .ex (.i 2) 1 f_c ?_;refine .ex (.i 2) 2 f_b ?_;refine .al ?_;refine .al ?_;refine .donep [some 12,some 13,some 11,some 14,some 15,some 16,some 3,some 4] ?_;intro w4 B4;rintro v1 -;rintro v2 -;rintro v3 ⟨⟨A3,n3,d3,rfl,m3⟩,hok⟩;rintro v3 ⟨A4,n4,d4,rfl,m4⟩;rintro g3 hg3 hl3 hc3 -;rintro g4 hg4 hl4 hc4 ⟨n10,-⟩;change Shut (wpList _ _ _ [_,_,_] _ _);refine⟨?_⟩;simp only[Act.put,lS,lZ,lC];have b3:=zeroM hc3;have b4:=zeroM hc4;have hsz_:=B0.size;have hl_b1:=b1.lt;replace B0:=zup B0 B4;replace b1:=b1.below B4;replace m1:=m1.below B4;clear B4 hc3 hc4;obtain⟨w5,hw5⟩:∃x,mput w4 g3 2 1 A3 n3 d3=x:=⟨_,rfl⟩;obtain⟨fa00_,fa01_,fa02_,fa03_,fa04_,fa05_,fa06_⟩:=b3.m3;replace b1:=b1.mo (g:=g3) (r:=2) (c:=1) (A:=A3) (n:=n3) (d:=d3) (by omega);rw[hw5]at b1;replace b4:=b4.mo (g:=g3) (r:=2) (c:=1) (A:=A3) (n:=n3) (d:=d3) (by omega);rw[hw5]at b4;replace m1:=m1.put (r':=2) (c':=1) (C:=A3) (n':=n3) (d':=d3) b3;rw[hw5]at m1;replace m3:=m3.put (r':=2) (c':=1) (C:=A3) (n':=n3) (d':=d3) b3;rw[hw5]at m3;replace m4:=m4.put (r':=2) (c':=1) (C:=A3) (n':=n3) (d':=d3) b3;rw[hw5]at m4;replace B0:=a_c (g:=g3) (r:=2) (c:=1) (A:=A3) (n:=n3) (d:=d3) B0 (by omega);rw[hw5]at B0;replace b3:=b3.mp (g:=g3) (r:=2) (c:=1) (A:=A3) (n:=n3) (d:=d3);rw[hw5]at b3;have Hw5:=Lib.hid hw5;unfold mput at Hw5;clear hw5;obtain⟨w6,hw6⟩:∃x,mput w5 g4 2 2 A4 n4 d4=x:=⟨_,rfl⟩;obtain⟨fa10_,fa11_,fa12_,fa13_,fa14_,fa15_,fa16_⟩:=b4.m3;replace b1:=b1.mo (g:=g4) (r:=2) (c:=2) (A:=A4) (n:=n4) (d:=d4) (by omega);rw[hw6]at b1;replace b3:=b3.mo (g:=g4) (r:=2) (c:=2) (A:=A4) (n:=n4) (d:=d4) (by omega);rw[hw6]at b3;replace m1:=m1.put (r':=2) (c':=2) (C:=A4) (n':=n4) (d':=d4) b4;rw[hw6]at m1;replace m3:=m3.put (r':=2) (c':=2) (C:=A4) (n':=n4) (d':=d4) b4;rw[hw6]at m3;replace m4:=m4.put (r':=2) (c':=2) (C:=A4) (n':=n4) (d':=d4) b4;rw[hw6]at m4;replace B0:=a_c (g:=g4) (r:=2) (c:=2) (A:=A4) (n:=n4) (d:=d4) B0 (by omega);rw[hw6]at B0;replace b4:=b4.mp (g:=g4) (r:=2) (c:=2) (A:=A4) (n:=n4) (d:=d4);rw[hw6]at b4;have Hw6:=Lib.hid hw6;unfold mput at Hw6;clear hw6;rw[←Hw5.out]at fa10_ fa11_ fa12_ fa13_ fa14_ fa15_ fa16_ Hw6;go_upto_region 3 with fail
 rw[Hw6.out];clear fa00_ fa01_ fa02_ fa03_ fa04_ fa05_ fa06_ fa10_ fa11_ fa12_ fa13_ fa14_ fa15_ fa16_ Hw5 Hw6 hsz_ hl_b1;have hH:=r_o hok;have HH:=Lib.hid hH;clear hok m4 m1 b1 b4 hH;refine Run.start 20 ?_;refine .mv .o ?_;refine .two (.i 0) .o (opEq (by decide:decide ((0:Int)=0)=true)) ?_;refine .mv (.i 1) ?_;refine .fa .o (fM0 0) ?_;refine .ld (.i 3) (ldInt b3 0) ?_;refine .two (.i 4) .o (opEq (by decide:decide ((2:Int)=2)=true)) ?_;refine .pk (.i 2) (.i 5) true ?_;refine .mv (.i 6) ?_;refine .ld .o (ldM b3 0) ?_;refine .c3 (.i 8) .o .o (x:=kC 2 (tm 1 (1+2))) (by rintro u v x w2 hB rfl rfl rfl;have h:=l_0 (i:=0) (j:=0) (m3.below hB) (by decide) (by decide) (by decide);rw[HH.out]at h;exact h) ?_;refine .c1 .o (x:=kC 2 1) (by rintro u w2 hB rfl;exact h_j (by decide) (by decide) w2) ?_;refine .c2 (.i 9) (.i 10) (x:=.k (.bool true)) (by rintro u v w2 hB h1 h2;exact e_f h1.v h2.v (by decide) (by decide) (by decide)) ?_;refine .pk (.i 7) (.i 11) true ?_;refine .mv (.i 12) ?_;refine .ld .o (ldM b3 0) ?_;refine .c3 (.i 14) .o .o (x:=kC 2 (tm 1 (1+2))) (by rintro u v x w2 hB rfl rfl rfl;have h:=l_0 (i:=0) (j:=0) (m3.below hB) (by decide) (by decide) (by decide);rw[HH.out]at h;exact h) ?_;refine .c1 (.i 15) (x:=.k (.int .i64 1)) (by rintro u w2 hB h;exact a_s h.v (by decide) (by decide)) ?_;refine .two (.i 16) .o (opEq (by decide:decide ((1:Int)=1)=true)) ?_;refine .pk (.i 13) (.i 17) true ?_;refine .mv (.i 18) ?_;refine .donep [some 17,some 18,some 19,some 20,some 21,some 22,some 23,some 24,some 25,some 26,some 27,some 28,some 29,some 30,some 31,some 32,some 33,some 34,some 35,some 0] ?_;intro w7 B7;rintro v4 -;rintro v5 -;rintro v6 -;change Shut (wpList _ _ _ [] _ _);refine⟨?_⟩;simp only[Act.put,lS,lZ,lC]
 go_wp2_with fail
 exact bodyPost_ret (v:=.bool true) (by simp[results,Tryz.results8,go_sem]) rfl (a_r rfl (zup B0 B7))
end
end Go.Proofs.YtgohglhefhocgaaGreat
