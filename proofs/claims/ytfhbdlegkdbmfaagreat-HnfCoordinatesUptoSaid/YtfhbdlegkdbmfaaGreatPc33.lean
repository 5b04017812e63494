/- Pc33 -/
import Derived.Test.YtfhbdlegkdbmfaaGreatPc32
import Derived.Deep.RegionHeld3
set_option linter.unusedVariables false
set_option linter.unusedSimpArgs false
set_option linter.unusedSectionVars false
set_option maxRecDepth 100000
set_option maxHeartbeats 8000000
namespace Go.Proofs.YtfhbdlegkdbmfaaGreat
section
open Go.RowKit
def l46:Nat->Nat->Int:=fun i j=>([4,6]:List Int).getD (i*1+j) 0
theorem p_7 {H U:Nat->Nat->Int}(h:HermOk 2 1 l46 H U):H 0 0=2:=by
 have hK:DT.Herm 2 1 (fun i j=>if i=0 then 2 else 0):=by
  have f0:DT.fst 1 (fun j:Nat=>(2:Int))=0:=by decide
  have f1:DT.fst 1 (fun j:Nat=>(0:Int))=1:=by decide
  refine⟨fun i hi hc=>?_,fun i hi hc=>?_,fun i hi hc x hx=>?_⟩
  ·obtain rfl:i=0:=by omega
   exact absurd hc (by decide)
  ·rcases Nat.lt_or_ge 0 i with h0|h0
   ·obtain rfl:i=1:=by omega
    exact absurd hc (by decide)
   ·obtain rfl:i=0:=by omega
    decide
  ·obtain rfl:i=1:=by omega
   exact absurd hc (by decide)
 refine DT.herm_uniq h.hm hK (fun v=>(h.lat v).trans ?_) 0 0 (by decide) (by decide);constructor
 ·rintro⟨x,hx⟩;refine⟨fun _=>2*x 0+3*x 1,fun j hj=>?_⟩;obtain rfl:j=0:=by omega
  have:=hx 0 (by decide);simp[DT.sumN,l46]at this ⊢;omega
 ·rintro⟨x,hx⟩;refine⟨fun i=>if i=0 then - x 0 else x 0,fun j hj=>?_⟩;obtain rfl:j=0:=by omega
  have:=hx 0 (by decide);simp[DT.sumN,l46]at this ⊢;omega
theorem m_k {w:World}{x y:Int}:(Instr.buildSlice 110 2 #[(0,.int .i64 x),(1,.int .i64 y)]).run Tryz.prog w= .ok (.slice (some ⟨w.heap.size,0,none⟩) 2 2) (w.alloc (.cells #[.int .i64 x,.int .i64 y] 2)):=by kernel_rfl
theorem Run.bsJ2 {ops:Array Oper}{Q:Exit->Act->World->Prop}{m i:Nat}{a0:Act}{w0:World}{l:List FK}{b:Bool}{id:Nat}(s t:Src){x y:Int}(hb:∀v,v∈[x,y]-> -9223372036854775808<=v/\v<=9223372036854775807)(rest:R ops Q m a0 w0 b id (kIJ [x,y]::l) (i+1))(hx:srcsK l i a0 (bsL (opAt ops i).op) [s,t] [.int .i64 x,.int .i64 y]:=by exact⟨rfl,rfl,trivial⟩)(hc:okBsJ ops m i [s,t]=true:=by kernel_rfl)(hg:Gd l i (opAt ops i):=by first|exact trivial|exact rfl):R ops Q m a0 w0 b id l i:=by
 unfold okBsJ at hc;rw[Bool.and_eq_true]at hc;obtain⟨h1,h2⟩:=hc;refine Run.mem (x:=kIJ [x,y]) (fun a w h=>?_) rest (FK.fne _) h1 hg;split at h2
 ·rename_i T n xs e;rw[e]at hx;simp only[Bool.and_eq_true,beq_iff_eq]at h2;obtain⟨⟨⟨rfl,rfl⟩,h3⟩,h4⟩:=h2;have hv:=h.srcs h4 hx;have hp:(xs.map fun(i,y)=>(i,a.eval y))= #[(0,.int .i64 x),(1,.int .i64 y)]:=by
   obtain⟨ys⟩:=xs;match ys,h3,hv with
   | [(k0,x0),(k1,x1)],h3,hv=>
    have h3':[k0,k1]=[0,1]:=h3;have hv':[a.eval x0,a.eval x1]=[.int .i64 x,.int .i64 y]:=hv;simp only[List.cons.injEq,and_true]at h3' hv';simp[h3'.1,h3'.2,hv'.1,hv'.2]
  have B:=zba w (.cells #[.int .i64 x,.int .i64 y] 2);have b4:=Bx.new w 2 [.int .i64 x,.int .i64 y];refine⟨_,_, ?_,⟨w.heap.size,rfl,rfl,Nat.le_refl _,by show 2<=9223372036854775807;decide,fun _=>⟨_,rfl,b4.lt,fun j hj=>?_⟩,fun j hj=>?_⟩,B⟩
  ·unfold execOp;rw[e];simp only[hp];simp[m_k]
  ·rw[b_i];refine(b4.cell j).trans ?_;match j,hj with
   |0,_=>rfl
   |1,_=>rfl
  ·match j,hj with
   |0,_=>exact hb x (by simp)
   |1,_=>exact hb y (by simp)
 ·cases h2
theorem e_p (F G:Nat->Nat->Int)(i j:Nat):∀n,dot F G i j n=DT.sumN n fun k=>F i k*G k j
 |0=>rfl
 |n+1=>by show dot F G i j n+F i n*G n j=DT.sumN n (fun k=>F i k*G k j)+F i n*G n j;rw[e_p F G i j n]
theorem hbd_one:∀ {V:Nat},V<=9->hbd 1 V:=fun {V} h=>⟨by decide,by decide,by
 have:∀V,V<10->t1 1 V*(V+3)<=68719476736:=by decide
 exact this V (by omega)⟩
theorem b_w (w:World):Calls Tryz.prog 32 #[] w (RetK (.k (.bool true)) w):=by
 have B0:=Below.refl w.heap.size w;go_enter Tryz.func32,Tryz.ntmps32
 go_upto_region 1 with fail
 refine Run.start 6 ?_;refine .bsJ2 .o .o (x:=4) (y:=6) (by decide) ?_;refine .c3 .o .o (.i 0) (x:=kT (kM true 2 1 1 l46) (.k (.int .i64 0))) (by rintro u v x w2 hB rfl rfl ⟨g,rfl,hl⟩;exact p_o (r:=2) (c:=1) hl rfl (by decide) (by decide)) ?_;refine .mf (.i 1) ?_;refine .ex (.i 2) 0 kT_0 ?_;refine .ex (.i 2) 1 kT_1 ?_;refine .al ?_;refine .donep [some 7,some 8,some 6,some 9,some 10,some 1] ?_;intro w2 B2;rintro v0 -;rintro v1 -;rintro v2 -;rintro v3 ⟨A1,n1,d1,rfl,m1⟩;rintro g1 hg1 hl1 hc1 -;refine sh [_,_] ?_;simp only[Act.put,lS,lZ,lC];have b1:=zeroM hc1;replace B0:=zup B0 B2;clear B2 hc1;obtain⟨w3,hw3⟩:∃x,mput w2 g1 2 1 A1 n1 d1=x:=⟨_,rfl⟩;obtain⟨f0_,f1_,f2_,f3_,f4_,f5_,f6_⟩:=b1.m3;replace m1:=m1.put (r':=2) (c':=1) (C:=A1) (n':=n1) (d':=d1) b1;rw[hw3]at m1;replace B0:=a_j (g:=g1) (r:=2) (c:=1) (A:=A1) (n:=n1) (d:=d1) B0 (by omega);rw[hw3]at B0;replace b1:=b1.mp (g:=g1) (r:=2) (c:=1) (A:=A1) (n:=n1) (d:=d1);rw[hw3]at b1;have Hw3:=Lib.hid hw3;unfold mput at Hw3;clear hw3;go_upto_region 2 with fail
 rw[Hw3.out];clear f0_ f1_ f2_ f3_ f4_ f5_ f6_ Hw3;refine Run.start 8 ?_;refine .ld .o (ldM b1 0) ?_;refine .c1 (.i 0) (x:=kHm 2 1 (tm 1 (1+2)) l46) (by rintro u w2 hB rfl;exact f_w (r:=2) (c:=1) (m1.below hB) ⟨by decide,by decide,by decide⟩) ?_;refine .mf (.i 1) ?_;refine .ex (.i 2) 0 j_d ?_;refine .ex (.i 2) 1 f_t ?_;refine .ex (.i 2) 2 f_s ?_;refine .al ?_;refine .al ?_;refine .donep [some 12,some 13,some 11,some 14,some 15,some 16,some 3,some 4] ?_;intro w4 B4;rintro v1 -;rintro v2 -;rintro v3 ⟨⟨A3,n3,d3,rfl,m3⟩,hok⟩;rintro v3 ⟨A4,n4,d4,rfl,m4⟩;rintro g3 hg3 hl3 hc3 -;rintro g4 hg4 hl4 hc4 ⟨n10,-⟩;refine sh [_,_,_] ?_;simp only[Act.put,lS,lZ,lC];have b3:=zeroM hc3;have b4:=zeroM hc4;have hsz_:=B0.size;have hl_b1:=b1.lt;replace B0:=zup B0 B4;replace b1:=b1.below B4;replace m1:=m1.below B4;clear B4 hc3 hc4;obtain⟨w5,hw5⟩:∃x,mput w4 g3 2 1 A3 n3 d3=x:=⟨_,rfl⟩;obtain⟨fa00_,fa01_,fa02_,fa03_,fa04_,fa05_,fa06_⟩:=b3.m3;replace b1:=b1.mo (g:=g3) (r:=2) (c:=1) (A:=A3) (n:=n3) (d:=d3) (by omega);rw[hw5]at b1;replace b4:=b4.mo (g:=g3) (r:=2) (c:=1) (A:=A3) (n:=n3) (d:=d3) (by omega);rw[hw5]at b4;replace m1:=m1.put (r':=2) (c':=1) (C:=A3) (n':=n3) (d':=d3) b3;rw[hw5]at m1;replace m3:=m3.put (r':=2) (c':=1) (C:=A3) (n':=n3) (d':=d3) b3;rw[hw5]at m3;replace m4:=m4.put (r':=2) (c':=1) (C:=A3) (n':=n3) (d':=d3) b3;rw[hw5]at m4;replace B0:=a_j (g:=g3) (r:=2) (c:=1) (A:=A3) (n:=n3) (d:=d3) B0 (by omega);rw[hw5]at B0;replace b3:=b3.mp (g:=g3) (r:=2) (c:=1) (A:=A3) (n:=n3) (d:=d3);rw[hw5]at b3;have Hw5:=Lib.hid hw5;unfold mput at Hw5;clear hw5;obtain⟨w6,hw6⟩:∃x,mput w5 g4 2 2 A4 n4 d4=x:=⟨_,rfl⟩;obtain⟨fa10_,fa11_,fa12_,fa13_,fa14_,fa15_,fa16_⟩:=b4.m3;replace b1:=b1.mo (g:=g4) (r:=2) (c:=2) (A:=A4) (n:=n4) (d:=d4) (by omega);rw[hw6]at b1;replace b3:=b3.mo (g:=g4) (r:=2) (c:=2) (A:=A4) (n:=n4) (d:=d4) (by omega);rw[hw6]at b3;replace m1:=m1.put (r':=2) (c':=2) (C:=A4) (n':=n4) (d':=d4) b4;rw[hw6]at m1;replace m3:=m3.put (r':=2) (c':=2) (C:=A4) (n':=n4) (d':=d4) b4;rw[hw6]at m3;replace m4:=m4.put (r':=2) (c':=2) (C:=A4) (n':=n4) (d':=d4) b4;rw[hw6]at m4;replace B0:=a_j (g:=g4) (r:=2) (c:=2) (A:=A4) (n:=n4) (d:=d4) B0 (by omega);rw[hw6]at B0;replace b4:=b4.mp (g:=g4) (r:=2) (c:=2) (A:=A4) (n:=n4) (d:=d4);rw[hw6]at b4;have Hw6:=Lib.hid hw6;unfold mput at Hw6;clear hw6;rw[<-Hw5.out]at fa10_ fa11_ fa12_ fa13_ fa14_ fa15_ fa16_ Hw6;go_upto_region 3 with fail
 rw[Hw6.out];clear fa00_ fa01_ fa02_ fa03_ fa04_ fa05_ fa06_ fa10_ fa11_ fa12_ fa13_ fa14_ fa15_ fa16_ Hw5 Hw6 hsz_ hl_b1;have hH:=p_7 hok;have HH:=Lib.hid hH;clear hok m4 m1 b1 b4 hH;refine Run.start 20 ?_;refine .mv .o ?_;refine .two (.i 0) .o (opEq (by decide:decide ((0:Int)=0)=true)) ?_;refine .mv (.i 1) ?_;refine .fa .o (fM0 0) ?_;refine .ld (.i 3) (ldInt b3 0) ?_;refine .two (.i 4) .o (opEq (by decide:decide ((2:Int)=2)=true)) ?_;refine .pk (.i 2) (.i 5) true ?_;refine .mv (.i 6) ?_;refine .ld .o (ldM b3 0) ?_;refine .c3 (.i 8) .o .o (x:=kC 2 (tm 1 (1+2))) (by rintro u v x w2 hB rfl rfl rfl;have h:=k_w (i:=0) (j:=0) (m3.below hB) (by decide) (by decide) (by decide);rw[HH.out]at h;exact h) ?_;refine .c1 .o (x:=kC 2 1) (by rintro u w2 hB rfl;exact j_r (by decide) (by decide) w2) ?_;refine .c2 (.i 9) (.i 10) (x:=.k (.bool true)) (by rintro u v w2 hB h1 h2;exact j_p h1.v h2.v (by decide) (by decide) (by decide)) ?_;refine .pk (.i 7) (.i 11) true ?_;refine .mv (.i 12) ?_;refine .ld .o (ldM b3 0) ?_;refine .c3 (.i 14) .o .o (x:=kC 2 (tm 1 (1+2))) (by rintro u v x w2 hB rfl rfl rfl;have h:=k_w (i:=0) (j:=0) (m3.below hB) (by decide) (by decide) (by decide);rw[HH.out]at h;exact h) ?_;refine .c1 (.i 15) (x:=.k (.int .i64 1)) (by rintro u w2 hB h;exact a_m h.v (by decide) (by decide)) ?_;refine .two (.i 16) .o (opEq (by decide:decide ((1:Int)=1)=true)) ?_;refine .pk (.i 13) (.i 17) true ?_;refine .mv (.i 18) ?_;refine .donep [some 17,some 18,some 19,some 20,some 21,some 22,some 23,some 24,some 25,some 26,some 27,some 28,some 29,some 30,some 31,some 32,some 33,some 34,some 35,some 0] ?_;intro w7 B7;rintro v4 -;rintro v5 -;rintro v6 -;refine sh [] ?_;simp only[Act.put,lS,lZ,lC]
 go_wp2_with fail
 exact bodyPost_ret (v:=.bool true) (by simp[results,Tryz.results32,go_sem]) rfl (b_k rfl (zup B0 B7))
end
section
open Go.RowKit
theorem ldSlA {w:World}{p:Addr}{A:Option Addr}{n c:Nat}(hp:p.block<w.heap.size)(h:w.cell? p=some (.slice A n c)):∀w',Below w.heap.size w w'->(Instr.loadAt 25 (.pointer (some p))).run Tryz.prog w'= .ok (.slice A n c) w':=fun w' hb=>by
 have h:=(hb.cell hp).trans h;simp[go_sem,a_y,h]
theorem o_4 {H n cap h:Nat}(h2:h<=cap)(w:World):(Instr.sliceAt 98 (.slice (some ⟨H,0,none⟩) n cap) none (some (.int .i64 (h:Int))) none).run Tryz.prog w= .ok (.slice (some ⟨H,0,none⟩) h cap) w:=by
 have a4:(h:Int)<=(cap:Int):=by omega
 simp[go_sem,Tryz.underlying98,show Tryz.prog.cellsOf 25=1 by kernel_rfl,h2,Addr.add]
section
variable {ops:Array Oper}{Q:Exit->Act->World->Prop}{m i:Nat}{a0:Act}{w0:World}{l:List FK}{b:Bool}{id:Nat}
def slH (o:Op):List Operand:=match o with| .slice _ x none (some h) none=>[x,h] |_=>[]
def okSlH (ops:Array Oper)(m i:Nat)(s u:Src):Bool:=okH ops m i&&(match(opAt ops i).op with| .slice T x none (some h) none=>T==98&&s.ok ops m i x&&u.ok ops m i h|_=>false)
theorem Run.slH (s u:Src){H n cap y:Nat}(h2:y<=cap)(rest:R ops Q m a0 w0 b id (.k (.slice (some ⟨H,0,none⟩) y cap)::l) (i+1))(hx:srcsK l i a0 (Proofs.YtfhbdlegkdbmfaaGreat.slH (opAt ops i).op) [s,u] [.slice (some ⟨H,0,none⟩) n cap,.int .i64 (y:Int)]:=by exact⟨rfl,rfl,trivial⟩)(hc:okSlH ops m i s u=true:=by kernel_rfl)(hg:Gd l i (opAt ops i):=by first|exact trivial|exact rfl):R ops Q m a0 w0 b id l i:=by
 unfold okSlH at hc;rw[Bool.and_eq_true]at hc;obtain⟨hh,h4⟩:=hc;refine Run.run (fun a w h=>?_) rest hh hg;split at h4
 ·rename_i T X M e;simp only[Bool.and_eq_true,beq_iff_eq]at h4;obtain⟨⟨rfl,k1⟩,k2⟩:=h4;rw[e]at hx;obtain⟨e1,e2,-⟩:=hx;unfold execOp;rw[e];simp only[Option.map_some,Option.map_none,h.srcK k1 e1,h.srcK k2 e2];simp[o_4 h2 w]
 ·cases h4
end
theorem s_f {b g od C cp ka k g3 g6 n c:Nat}{f:Nat->Int}{w:World}{s:Bool}{A:Option Addr}{z:Int}(r:Rw b w g od C f)(hB:Bd C ka f)(hk:k<C)(hka:ka<=1099511627776)(b3:Bx w g3 3 [.int .i64 (k:Int)])(b6:Bx w g6 31 [.bool s,.slice A n c])(hz:Zv w s A n c z)(hn:n<=1099511627776):Calls Tryz.prog 164 #[rwV g od C cp,.pointer (some ⟨g3,0,none⟩),.pointer (some ⟨g6,0,none⟩)] w (RetK (.k (.bool (decide (f k<0\/z<=f k)))) w):=by
 obtain⟨p,hp⟩:∃p,decide (f k<0\/z<=f k)=p:=⟨_,rfl⟩;have HP:=Lib.hid hp;rw[hp];have R:=Lib.hid r;have hlt:=r.lt;obtain⟨s1,A1,n1,c1,e0,e1,hz1⟩:=r.cells hk;have hn1:=hz1.le (hB k hk);obtain⟨y,hy⟩:∃y,f k=y:=⟨_,rfl⟩;rw[hy]at hp hz1;have HPY:=Lib.hid hp;obtain⟨x,hx⟩:∃x,od+k*2=x:=⟨_,rfl⟩;rw[hx]at e0 e1;unfold rwV;clear hp r hB hy HP;go_enter Tryz.func164,Tryz.ntmps164
 go_upto_region 1 with fail
 by_cases gn:y<0
 ·skip
  refine Run.start 16 ?_;refine .mv .o ?_;refine .ld .o (ldInt b3 0) ?_;refine .two (.i 0) (.i 1) (opIxR hk hx) ?_;refine .ld (.i 2) (ldE (p:=⟨g,x,none⟩) hlt e0 e1) ?_;refine .c1 (.i 3) (x:=.k (.int .i64 y.sign)) (by rintro u w8 hB rfl;exact a_m ⟨_,_,_,_,rfl,(hz1.below hB).zv,Nat.le_refl _⟩ (by omega) rfl) ?_;refine .two (.i 4) .o (opLt (decide_eq_true (Int.sign_neg_iff.mpr gn):decide (y.sign<0)=true)) ?_;refine .mv (.i 5) ?_;refine .no ?_;refine .no ?_;refine .no ?_;refine .no ?_;refine .no ?_;refine .no ?_;refine .no ?_;refine .pk (.i 6) .o true ?_;refine .mv (.i 14) ?_;refine .done [some 5,some 6,some 7,some 8,some 9,some 10,some 11,some 12,some 13,some 14,some 15,some 16,some 17,some 18,some 19,some 4] ?_;intro w2 B2;refine sh [] ?_;simp only[Act.put,lS,lZ,lC];have P:Hid (RetK (.k (.bool p)) w (.returned (.bool true)) w2):=Lib.hid ⟨_,rfl,by rw[<-HPY.out];exact congrArg Value.bool (by simp;omega),B2⟩;clear hz1 b3 b6 hz
  go_wp2_with fail
  exact bodyPost_ret (v:=.bool true) (by simp[results,Tryz.results164,go_sem]) rfl P.out
 ·by_cases gz:z<=y
  ·skip
   refine Run.start 16 ?_;refine .mv .o ?_;refine .ld .o (ldInt b3 0) ?_;refine .two (.i 0) (.i 1) (opIxR hk hx) ?_;refine .ld (.i 2) (ldE (p:=⟨g,x,none⟩) hlt e0 e1) ?_;refine .c1 (.i 3) (x:=.k (.int .i64 y.sign)) (by rintro u w8 hB rfl;exact a_m ⟨_,_,_,_,rfl,(hz1.below hB).zv,Nat.le_refl _⟩ (by omega) rfl) ?_;refine .two (.i 4) .o (opLt (decide_eq_false (fun h=>gn (Int.sign_neg_iff.mp h)):decide (y.sign<0)=false)) ?_;refine .mv (.i 5) ?_;refine .mv .o ?_;refine .ld .o (ldInt b3 0) ?_;refine .two (.i 7) (.i 8) (opIxR hk hx) ?_;refine .ld (.i 9) (ldE (p:=⟨g,x,none⟩) hlt e0 e1) ?_;refine .ld .o (ldZ b6 0) ?_;refine .c2 (.i 10) (.i 11) (x:=.k (.int .i64 (y - z).sign)) (by rintro u v w8 hB rfl rfl;exact d_w ⟨_,_,_,_,rfl,(hz1.below hB).zv,Nat.le_refl _⟩ ⟨_,_,_,_,rfl,hz.below hB,Nat.le_refl _⟩ (by omega) hn rfl) ?_;refine .two (.i 12) .o (opGe (decide_eq_true (Int.sign_nonneg_iff.mpr (by omega)):decide (0<=(y - z).sign)=true)) ?_;refine .pk (.i 6) (.i 13) false ?_;refine .mv (.i 14) ?_;refine .done [some 5,some 6,some 7,some 8,some 9,some 10,some 11,some 12,some 13,some 14,some 15,some 16,some 17,some 18,some 19,some 4] ?_;intro w2 B2;refine sh [] ?_;simp only[Act.put,lS,lZ,lC];have P:Hid (RetK (.k (.bool p)) w (.returned (.bool true)) w2):=Lib.hid ⟨_,rfl,by rw[<-HPY.out];exact congrArg Value.bool (by simp;omega),B2⟩;clear hz1 b3 b6 hz
   go_wp2_with fail
   exact bodyPost_ret (v:=.bool true) (by simp[results,Tryz.results164,go_sem]) rfl P.out
  ·skip
   refine Run.start 16 ?_;refine .mv .o ?_;refine .ld .o (ldInt b3 0) ?_;refine .two (.i 0) (.i 1) (opIxR hk hx) ?_;refine .ld (.i 2) (ldE (p:=⟨g,x,none⟩) hlt e0 e1) ?_;refine .c1 (.i 3) (x:=.k (.int .i64 y.sign)) (by rintro u w8 hB rfl;exact a_m ⟨_,_,_,_,rfl,(hz1.below hB).zv,Nat.le_refl _⟩ (by omega) rfl) ?_;refine .two (.i 4) .o (opLt (decide_eq_false (fun h=>gn (Int.sign_neg_iff.mp h)):decide (y.sign<0)=false)) ?_;refine .mv (.i 5) ?_;refine .mv .o ?_;refine .ld .o (ldInt b3 0) ?_;refine .two (.i 7) (.i 8) (opIxR hk hx) ?_;refine .ld (.i 9) (ldE (p:=⟨g,x,none⟩) hlt e0 e1) ?_;refine .ld .o (ldZ b6 0) ?_;refine .c2 (.i 10) (.i 11) (x:=.k (.int .i64 (y - z).sign)) (by rintro u v w8 hB rfl rfl;exact d_w ⟨_,_,_,_,rfl,(hz1.below hB).zv,Nat.le_refl _⟩ ⟨_,_,_,_,rfl,hz.below hB,Nat.le_refl _⟩ (by omega) hn rfl) ?_;refine .two (.i 12) .o (opGe (decide_eq_false (fun h=>gz (by have:=Int.sign_nonneg_iff.mp h;omega)):decide (0<=(y - z).sign)=false)) ?_;refine .pk (.i 6) (.i 13) false ?_;refine .mv (.i 14) ?_;refine .done [some 5,some 6,some 7,some 8,some 9,some 10,some 11,some 12,some 13,some 14,some 15,some 16,some 17,some 18,some 19,some 4] ?_;intro w2 B2;refine sh [] ?_;simp only[Act.put,lS,lZ,lC];have P:Hid (RetK (.k (.bool p)) w (.returned (.bool false)) w2):=Lib.hid ⟨_,rfl,by rw[<-HPY.out];exact congrArg Value.bool (by simp;omega),B2⟩;clear hz1 b3 b6 hz
   go_wp2_with fail
   exact bodyPost_ret (v:=.bool false) (by simp[results,Tryz.results164,go_sem]) rfl P.out
def kIy (p:Bool):FK:=.f (fun v _=>∃z:Int,v= .int .i64 z/\decide (0<=z)=p) (fun v w w' h _=>h)
theorem r_s {b N C L m k ka g3 g6 n c cap:Nat}{g od cp:Nat->Nat}{F:Nat->Nat->Int}{w:World}{s:Bool}{A:Option Addr}{z:Int}{p:Bool}(r:Rws b w N C g od F)(bl:Bx w L 25 (rcs N C g od cp))(hm:m<=N)(hA:∀i,i<N->Bd C ka (F i))(hk:k<C)(hka:ka<=1099511627776)(b3:Bx w g3 3 [.int .i64 (k:Int)])(b6:Bx w g6 31 [.bool s,.slice A n c])(hz:Zv w s A n c z)(hn:n<=1099511627776)(hN:N<=1048576)(hp:p=true↔∃i,i<m/\(F i k<0\/z<=F i k)):Calls Tryz.prog 190 #[.slice (some ⟨L,0,none⟩) m cap,.func (.func 164) #[] #[.pointer (some ⟨g3,0,none⟩),.pointer (some ⟨g6,0,none⟩)]] w (RetK (kIy p) w):=by
 have HR:=Lib.hid r;have HL:=Lib.hid bl;have HA:=Lib.hid hA;have H3:=Lib.hid b3;have H6:=Lib.hid b6;have HZ:=Lib.hid hz;have HP:=Lib.hid hp;have H0:Hid (Below w.heap.size w w/\∀a,a<0->¬(F a k<0\/z<=F a k)):=Lib.hid ⟨Below.refl _ _,fun a ha=>by omega⟩;clear r bl hA b3 b6 hz hp;go_enter Tryz.func190,Tryz.ntmps190
 go_wp2_with fail
 go_loopw [8] (fun s8 wr=>∃j:Nat,s8= .int .i64 (j:Int)/\j<=m/\Hid (Below w.heap.size w wr/\∀a,a<j->¬(F a k<0\/z<=F a k))) (fun s8 _=>m - (intOf s8).toNat)
 case atStart=>exact⟨0,rfl,Nat.zero_le _,H0⟩
 case round=>
  obtain⟨j,rfl,hj,HB⟩:=hrel;clear H0;by_cases hlt:j<m
  ·have u2:(j:Int)<(m:Int):=by omega
   have B:=HB.out.1;have c1:wr.cell? ⟨L,j,none⟩=some (rwV (g j) (od j) C (cp j)):=((HL.out.below B).cell j).trans (e_j (by omega));have HC:=Lib.hid (s_f (cp:=cp j) ((HR.out.row j (by omega)).below B) (HA.out j (by omega)) hk hka (H3.out.below B) (H6.out.below B) (HZ.out.below B) hn);obtain⟨d,hd⟩:∃d,decide (F j k<0\/z<=F j k)=d:=⟨_,rfl⟩;rw[hd]at HC;have HD:=Lib.hid hd;clear hd B
   go_wp2_with fail
   refine HC.out.mono ?_;rintro e w2 ⟨v,rfl,rfl,B2⟩;have B3:=Lib.hid (zup HB.out.1 B2);clear B2 HC c1;cases d
   ·have HI:Hid (Below w.heap.size w w2/\∀a,a<j+1->¬(F a k<0\/z<=F a k)):=Lib.hid ⟨B3.out,fun a ha=>by
     by_cases e:a=j
     ·subst e;exact of_decide_eq_false HD.out
     ·exact HB.out.2 a (by omega)⟩
    clear HB B3 HD
    go_wp2_with fail
    go_roundw
    case rel=>exact⟨j+1,by go_num,by omega,HI⟩
    case measure=>first|(simp[intOf];done)|(simp[intOf];omega)
   ·have P:Hid (RetK (kIy p) w (.returned (.int .i64 (j:Int))) w2):=Lib.hid ⟨_,rfl,⟨_,rfl,by rw[HP.out.mpr ⟨j,hlt,of_decide_eq_true HD.out⟩];simp⟩,B3.out⟩;clear HB B3 HD
    go_wp2_with fail
    exact bodyPost_ret (v:=.int .i64 (j:Int)) (by simp[results,Tryz.results190,go_sem]) rfl P.out
  ·obtain rfl:j=m:=by omega
   have u2:¬(j:Int)<(j:Int):=by omega
   have hpf:=Lib.hid (show p=false from Bool.eq_false_iff.mpr fun h=>by
    obtain⟨i,hi,h⟩:=HP.out.mp h;exact HB.out.2 i hi h)
   have P:Hid (RetK (kIy p) w (.returned (.int .i64 (-1))) wr):=Lib.hid ⟨_,rfl,⟨_,rfl,by rw[hpf.out];rfl⟩,HB.out.1⟩;clear HB
   go_wp2_with fail
   exact bodyPost_ret (v:=.int .i64 (-1)) (by simp[results,Tryz.results190,go_sem]) rfl P.out
theorem r_t {b N C L m k ka g3 g6 n c cap:Nat}{g od cp:Nat->Nat}{F:Nat->Nat->Int}{w:World}{s:Bool}{A:Option Addr}{z:Int}{p:Bool}(r:Rws b w N C g od F)(bl:Bx w L 25 (rcs N C g od cp))(hm:m<=N)(hA:∀i,i<N->Bd C ka (F i))(hk:k<C)(hka:ka<=1099511627776)(b3:Bx w g3 3 [.int .i64 (k:Int)])(b6:Bx w g6 31 [.bool s,.slice A n c])(hz:Zv w s A n c z)(hn:n<=1099511627776)(hN:N<=1048576)(hp:p=true↔∃i,i<m/\(F i k<0\/z<=F i k)):Calls Tryz.prog 163 #[.slice (some ⟨L,0,none⟩) m cap,.func (.func 164) #[] #[.pointer (some ⟨g3,0,none⟩),.pointer (some ⟨g6,0,none⟩)]] w (RetK (.k (.bool p)) w):=by
 have HC:=Lib.hid (r_s (cap:=cap) r bl hm hA hk hka b3 b6 hz hn hN hp);clear r bl hA b3 b6 hz hp;go_enter Tryz.func163,Tryz.ntmps163
 go_wp2_with fail
 refine HC.out.mono ?_;rintro e w2 ⟨v,rfl,⟨x,rfl,hx⟩,B⟩;have HB:=Lib.hid B;have HX:=Lib.hid hx;clear B HC hx;by_cases u1:(0:Int)<=x
 ·have P:Hid (RetK (.k (.bool p)) w (.returned (.bool true)) w2):=Lib.hid ⟨_,rfl,by rw[<-HX.out,decide_eq_true u1];rfl,HB.out⟩
  go_wp2_with fail
  exact bodyPost_ret (v:=.bool true) (by simp[results,Tryz.results163,go_sem]) rfl P.out
 ·have P:Hid (RetK (.k (.bool p)) w (.returned (.bool false)) w2):=Lib.hid ⟨_,rfl,by rw[<-HX.out,decide_eq_false u1];rfl,HB.out⟩
  go_wp2_with fail
  exact bodyPost_ret (v:=.bool false) (by simp[results,Tryz.results163,go_sem];try omega) rfl P.out
theorem n_2 {b N C L i k ka cap:Nat}{g od cp:Nat->Nat}{F:Nat->Nat->Int}{w:World}{p:Bool}(r:Rws b w N C g od F)(bl:Bx w L 25 (rcs N C g od cp))(hi:i<N)(hA:∀i,i<N->Bd C ka (F i))(hk:k<C)(hC:C<=1048576)(hka:ka<=549755813888)(hN:N<=1048576)(hcap:N<=cap)(hp:p=true↔0<F i k/\∀x,x<i->0<=F x k/\F x k<F i k):Calls Tryz.prog 128 #[.slice (some ⟨L,0,none⟩) (i+1) cap,.int .i64 (k:Int)] w (RetK (.k (.bool p)) w):=by
 obtain⟨p2,hp2⟩:∃p2,decide (∃x,x<i/\(F x k<0\/F i k<=F x k))=p2:=⟨_,rfl⟩;have hp3:p2=true↔∃x,x<i/\(F x k<0\/F i k<=F x k):=by rw[<-hp2];exact decide_eq_true_iff
 have hpp:p=(decide (0<F i k)&& !p2):=by
  apply Bool.eq_iff_iff.mpr;rw[hp,Bool.and_eq_true,decide_eq_true_eq,Bool.not_eq_true',Bool.eq_false_iff,ne_eq,hp3];constructor
  ·rintro⟨h1,h2⟩;refine⟨h1,fun⟨x,hx,h⟩=>?_⟩
   have:=h2 x hx;omega
  ·rintro⟨h1,h2⟩;refine⟨h1,fun x hx=>?_⟩;by_cases e:0<=F x k/\F x k<F i k
   ·exact e
   ·exact absurd ⟨x,hx,by omega⟩ h2
 have HP:=Lib.hid hp3;have HPP:=Lib.hid hpp;have HR:=Lib.hid r;have HL:=Lib.hid bl;have HA:=Lib.hid hA;obtain⟨i1,hi1⟩:∃i1,i+1=i1:=⟨_,rfl⟩;rw[hi1];clear r bl hA hp hp2 hp3 hpp;obtain⟨w1,hw1,b3,z1,s1⟩:=boxes1 w 3 [.int .i64 (k:Int)];have HW:=Lib.hid hw1;have HZ:=Lib.hid z1;clear hw1 z1 s1;go_enter Tryz.func128,Tryz.ntmps128
 go_upto_region 1 with fail
 rw[HW.out];refine Run.start 4 ?_;refine .mv .o ?_;refine .len (.i 0) Tryz.underlying98 ?_;refine .two (.i 1) .o (opSub (x:=(i1:Int)) (y:=1) (r:=(i:Int)) (by omega) (by omega) (by omega)) ?_;refine .mv (.i 2) ?_;refine .donep [some 7,some 8,some 9,some 5] ?_;intro w2 B2;refine sh [] ?_;simp only[Act.put,lS,lZ,lC];have B0:=zup HZ.out B2;replace b3:=b3.below B2;clear B2 HZ;have hL:=HL.out.below B0;have hll:=hL.lt;have c1:w2.cell? ⟨L,i,none⟩=some (.slice (some ⟨g i,od i,none⟩) C (cp i)):=(hL.cell i).trans (e_j hi);obtain⟨s1,A1,n1,c1_,e0,e1,hz1⟩:=((HR.out.row i hi).below B0).cells hk;have hgl:=((HR.out.row i hi).below B0).lt;have hn1:=hz1.le (HA.out i hi k hk);obtain⟨y,hy⟩:∃y,F i k=y:=⟨_,rfl⟩;rw[hy]at hz1;have HY:=Lib.hid hy;obtain⟨x,hx⟩:∃x,od i+k*2=x:=⟨_,rfl⟩;rw[hx]at e0 e1;have hs2:=B0.size;have hl3:=b3.lt;clear hL hy;go_upto_region 2 with fail
 refine Run.start 8 ?_;refine .mv .o ?_;refine .mv .o ?_;refine .two (.i 0) (.i 1) (opIxS (by omega:i<i1)) ?_;refine .ld (.i 2) (ldSlA hll c1) ?_;refine .ld .o (ldInt b3 0) ?_;refine .two (.i 3) (.i 4) (opIxR hk hx) ?_;refine .ld (.i 5) (ldE (p:=⟨g i,x,none⟩) hgl e0 e1) ?_;refine .al ?_;refine .done [some 10,some 11,some 12,some 13,some 14,some 15,some 16,some 6] ?_;intro w3 B3;rintro g6 hg6 hl6 hc6 -;refine sh [_] ?_;simp only[Act.put,lS,lZ,lC];have b6:=zeroZ (T:=0) hc6;replace B0:=zup B0 B3;replace b3:=b3.below B3;replace hz1:=hz1.below B3;clear B3 hc6 c1 e0 e1;obtain⟨w4,hw4⟩:∃x,zput w3 g6 s1 A1 n1 c1_=x:=⟨_,rfl⟩;obtain⟨f1_,f2_,f3_,f4_,f5_⟩:=Ib.entry b6;replace b3:=b3.zo (g:=g6) (s:=s1) (A:=A1) (n:=n1) (c:=c1_) (by omega);rw[hw4]at b3;replace hz1:=hz1.zp (s':=s1) (A':=A1) (n':=n1) (c':=c1_) b6;rw[hw4]at hz1;replace B0:=a_l (g:=g6) (s:=s1) (A:=A1) (n:=n1) (c:=c1_) B0 (by omega);rw[hw4]at B0;replace b6:=b6.zp (s:=s1) (A:=A1) (n:=n1) (c:=c1_);rw[hw4]at b6;have Hw4:=Lib.hid hw4;unfold zput at Hw4;clear hw4;go_upto_region 3 with fail
 rw[Hw4.out];clear f1_ f2_ f3_ f4_ f5_ Hw4;by_cases gp:0<y
 ·skip
  refine Run.start 12 ?_;refine .ld .o (ldZ b6 0) ?_;refine .c1 (.i 0) (x:=.k (.int .i64 y.sign)) (by rintro u w8 hB rfl;exact a_m ⟨_,_,_,_,rfl,(hz1.below hB).zv,Nat.le_refl _⟩ (by omega) rfl) ?_;refine .two (.i 1) .o (opGt (decide_eq_true (Int.sign_pos_iff.mpr gp):decide (0<y.sign)=true)) ?_;refine .mv (.i 2) ?_;refine .mv .o ?_;refine .mv .o ?_;refine .slH (.i 4) (.i 5) (y:=i) (cap:=cap) (by omega) ?_;refine .fn [] [.o,.o] [] [_,_] (trivial) (⟨rfl,rfl,trivial⟩) ?_;refine .c2 (.i 6) (.i 7) (x:=.k (.bool p2)) (by rintro u v w8 hB rfl rfl;exact r_t (HR.out.below (zup B0 hB)) (HL.out.below (zup B0 hB)) (by omega) HA.out hk (by omega) (b3.below hB) (b6.below hB) (hz1.below hB).zv (by omega) hN (by rw[<-HY.out];exact HP.out)) ?_;refine .not (.i 8) ?_;refine .pk (.i 3) (.i 9) true ?_;refine .mv (.i 10) ?_;refine .donep [some 17,some 18,some 19,some 20,some 21,some 22,some 23,some 24,some 25,some 26,some 27,some 4] ?_;intro w5 B5;refine sh [] ?_;simp only[Act.put,lS,lZ,lC];have P:Hid (RetK (.k (.bool p)) w (.returned (.bool (!p2))) w5):=Lib.hid ⟨_,rfl,by rw[HPP.out,HY.out,decide_eq_true gp];rfl,zup B0 B5⟩;clear b3 b6 hz1 B0 B5
  go_wp2_with fail
  exact bodyPost_ret (v:=.bool (!p2)) (by simp[results,Tryz.results128,go_sem]) rfl P.out
 ·skip
  refine Run.start 12 ?_;refine .ld .o (ldZ b6 0) ?_;refine .c1 (.i 0) (x:=.k (.int .i64 y.sign)) (by rintro u w8 hB rfl;exact a_m ⟨_,_,_,_,rfl,(hz1.below hB).zv,Nat.le_refl _⟩ (by omega) rfl) ?_;refine .two (.i 1) .o (opGt (decide_eq_false (fun h=>gp (Int.sign_pos_iff.mp h)):decide (0<y.sign)=false)) ?_;refine .mv (.i 2) ?_;refine .no ?_;refine .no ?_;refine .no ?_;refine .no ?_;refine .no ?_;refine .no ?_;refine .pk (.i 3) .o false ?_;refine .mv (.i 10) ?_;refine .donep [some 17,some 18,some 19,some 20,some 21,some 22,some 23,some 24,some 25,some 26,some 27,some 4] ?_;intro w5 B5;refine sh [] ?_;simp only[Act.put,lS,lZ,lC];have P:Hid (RetK (.k (.bool p)) w (.returned (.bool false)) w5):=Lib.hid ⟨_,rfl,by rw[HPP.out,HY.out,decide_eq_false gp];rfl,zup B0 B5⟩;clear b3 b6 hz1 B0 B5
  go_wp2_with fail
  exact bodyPost_ret (v:=.bool false) (by simp[results,Tryz.results128,go_sem]) rfl P.out
def ahd (c:Nat)(F:Nat->Nat->Int):Nat->Int
 |0=>-1
 |i+1=>(DT.fst c (F i):Int)
theorem is_q {q:Bool}{r c n d k:Nat}{A:Option Addr}{F:Nat->Nat->Int}{w:World}{b:Bool}(ha:Mt q w r c A n d k F)(hk:k<=549755813888)(hb:b=true↔DT.Herm r c F):Calls Tryz.prog 86 #[.agg #[.int .i64 (r:Int),.int .i64 (c:Int),.slice A n d]] w (RetK (.k (.bool b)) w):=by
 have hf:=ha.fmd;have h3:=ha.hr;have h4:=ha.hc;have HM:=Lib.hid ha;have HB_:=Lib.hid (hb.trans g_r);clear ha hb;obtain⟨w1,hw1,b1,z1,s1⟩:=boxes1 w 27 [.int .i64 (r:Int),.int .i64 (c:Int),.slice A n d];have HW:=Lib.hid hw1;have HZ:=Lib.hid z1;have hf_:=Lib.hid hf;clear hw1 z1 hf s1;go_enter Tryz.func86,Tryz.ntmps86
 go_upto_region 1 with fail
 rw[HW.out];refine Run.start 3 ?_;refine .ld .o (ldM b1 0) ?_;refine .c1 (.i 0) (x:=.k (.bool true)) (by rintro u w4 hB rfl;exact b_f hf_.out w4) ?_;refine .nt (.i 1) ?_;refine .donep [some 8,some 9,some 10] ?_;intro w2 B2;refine sh [] ?_;simp only[Act.put,lS,lZ,lC];have B0:=zup HZ.out B2;replace b1:=b1.below B2;have HOF:=Lib.hid (i_b (HM.out.below B0) hk);obtain⟨x0,x1,x2,-,-,-,-⟩:=b1.m3;clear B2 HZ HW
 go_wp2_with fail
 refine HOF.out.mono ?_;rintro e w3 ⟨L,g0,rfl,B3,hL,bL,R3,hbd⟩;have HBD:=Lib.hid hbd;have H0:Hid (Below w.heap.size w w3/\Bx w3 w.heap.size 27 [.int .i64 (r:Int),.int .i64 (c:Int),.slice A n d]/\Bx w3 L 25 (rcs r c (fun _=>g0) (fun a=>a*c*2) fun _=>c)/\Rws w2.heap.size w3 r c (fun _=>g0) (fun a=>a*c*2) F/\∀x,x<0->hrow c F x):=Lib.hid ⟨zup B0 B3,b1.below B3,bL,R3,fun x hx=>by omega⟩;have hrel0:(-1:Int)=ahd c F 0:=rfl;clear b1 B0 B3 bL R3 hbd HOF hL x0 x1 x2
 go_wp2_with fail
 go_loopw [15,3] (fun s15 s3 wr=>∃i:Nat,s15= .int .i64 (i:Int)/\s3= .int .i64 (ahd c F i)/\i<=r/\Hid (Below w.heap.size w wr/\Bx wr w.heap.size 27 [.int .i64 (r:Int),.int .i64 (c:Int),.slice A n d]/\Bx wr L 25 (rcs r c (fun _=>g0) (fun a=>a*c*2) fun _=>c)/\Rws w2.heap.size wr r c (fun _=>g0) (fun a=>a*c*2) F/\∀x,x<i->hrow c F x)) (fun s15 _ _=>r - (intOf s15).toNat)
 case atStart=>exact⟨0,rfl,rfl,Nat.zero_le _,H0⟩
 case round=>
  obtain⟨i,rfl,rfl,hir,HB⟩:=hrel;clear H0;obtain⟨B0,b1,bL,R3,hzr⟩:=HB.out;have HR:=Lib.hid hzr;have HIH:=Lib.hid HB.out;by_cases hi:i<r
  ·have u2:(i:Int)<(r:Int):=by omega
   have c1:wr.cell? ⟨L,i,none⟩=some (rwV g0 (i*c*2) c c):=(bL.cell i).trans (e_j hi);have HLD:=Lib.hid (i_j (c:=c) (R3.row i hi) (HBD.out i hi) (Nat.le_refl _) (by omega) (by omega) (by omega));obtain⟨f,hf⟩:∃f,DT.fst c (F i)=f:=⟨_,rfl⟩;have hfc:f<=c:=by rw[<-hf];exact DT.fst_le _ _
   rw[hf]at HLD;have HF:=Lib.hid hf;clear HB hzr bL R3 B0 b1 hf;unfold rwV at HLD c1
   go_wp2_with fail
   refine HLD.out.mono ?_;rintro e w4 ⟨v,rfl,rfl,B4⟩;obtain⟨B0,b1,bL,R3,-⟩:=HIH.out;replace B0:=zup B0 B4;replace b1:=b1.below B4;replace bL:=bL.below B4;replace R3:=R3.below B4;clear B4 c1 HLD HIH;obtain⟨t,ht⟩:∃t,decide (0<F i f/\∀x,x<i->0<=F x f/\F x f<F i f)=t:=⟨_,rfl⟩;have HT:=Lib.hid ht;clear ht;have hz:ahd c F i= -1/\i=0\/0<i/\ahd c F i=(DT.fst c (F (i - 1)):Int):=by
    cases i with
    |zero=>exact .inl ⟨rfl,rfl⟩
    |succ i=>exact .inr ⟨by omega,rfl⟩
   obtain⟨z,hze⟩:∃z,ahd c F i=z:=⟨_,rfl⟩;rw[hze]at hz;have HZZ:=Lib.hid hze;have hzl:-1<=z/\z<=64:=by
    have:=DT.fst_le c (F (i - 1));omega
   have hnf:f<c->(hrow c F i↔(z<(f:Int)/\t=true)):=fun hc=>by
    unfold hrow;rw[HF.out,<-HT.out,decide_eq_true_eq];refine⟨fun h=>⟨?_,(h hc).2⟩,fun h _=>⟨fun h0=>?_,h.2⟩⟩
    ·rcases hz with h1|h1
     ·omega
     ·have:=(h hc).1 h1.1;omega
    ·rcases hz with h1|h1
     ·omega
     ·omega
   have HNF:=Lib.hid hnf;rw[hze];clear hnf;go_upto_region 8 with fail
   by_cases gc:f<c
   ·by_cases ga:(f:Int)<=z
    ·skip
     refine Run.start 18 ?_;refine .mv .o ?_;refine .fa .o (fM1 1) ?_;refine .ld (.i 1) (ldInt b1 1) ?_;refine .two (.i 0) (.i 2) (opLt (by simp;omega:decide ((f:Int)<(c:Int))=true)) ?_;refine .mv (.i 3) ?_;refine .mv .o ?_;refine .mv .o ?_;refine .two (.i 5) (.i 6) (opLe (decide_eq_true ga)) ?_;refine .mv (.i 7) ?_;refine .no ?_;refine .no ?_;refine .no ?_;refine .no ?_;refine .no ?_;refine .no ?_;refine .no ?_;refine .pk (.i 8) .o true ?_;refine .pk (.i 4) (.i 16) true ?_;refine .donep [some 22,some 23,some 24,some 25,some 26,some 27,some 28,some 29,some 30,some 31,some 32,some 33,some 34,some 35,some 36,some 37,some 38,some 39] ?_;intro w5 B5;refine sh [] ?_;simp only[Act.put,lS,lZ,lC];have hno0:b=false:=Bool.eq_false_iff.mpr fun h=>by
      have h9:=(HNF.out gc).mp (HB_.out.mp h i hi);omega
     have hno:=Lib.hid hno0;clear hno0;have P:Hid (RetK (.k (.bool b)) w (.returned (.bool false)) w5):=Lib.hid ⟨_,rfl,by rw[hno.out];rfl,zup B0 B5⟩;clear B0 b1 bL R3 B5 HR
     go_wp2_with fail
     exact bodyPost_ret (v:=.bool false) (by simp[results,Tryz.results86,go_sem]) rfl P.out
    ·cases t
     ·skip
      refine Run.start 18 ?_;refine .mv .o ?_;refine .fa .o (fM1 1) ?_;refine .ld (.i 1) (ldInt b1 1) ?_;refine .two (.i 0) (.i 2) (opLt (by simp;omega:decide ((f:Int)<(c:Int))=true)) ?_;refine .mv (.i 3) ?_;refine .mv .o ?_;refine .mv .o ?_;refine .two (.i 5) (.i 6) (opLe (decide_eq_false ga)) ?_;refine .mv (.i 7) ?_;refine .mv .o ?_;refine .mv .o ?_;refine .two (.i 10) .o (opAddN i 1 (by omega)) ?_;refine .slH (.i 9) (.i 11) (y:=i+1) (cap:=r) (by omega) ?_;refine .mv .o ?_;refine .c2 (.i 12) (.i 13) (x:=.k (.bool false)) (by rintro u v w8 hB rfl rfl;exact n_2 (R3.below hB) (bL.below hB) hi HBD.out gc (by omega) hk (by omega) (Nat.le_refl _) ⟨fun h=>of_decide_eq_true (HT.out.trans h),fun h=>HT.out.symm.trans (decide_eq_true h)⟩) ?_;refine .nf (.i 14) ?_;refine .pk (.i 8) (.i 15) false ?_;refine .pk (.i 4) (.i 16) true ?_;refine .donep [some 22,some 23,some 24,some 25,some 26,some 27,some 28,some 29,some 30,some 31,some 32,some 33,some 34,some 35,some 36,some 37,some 38,some 39] ?_;intro w5 B5;refine sh [] ?_;simp only[Act.put,lS,lZ,lC];have hno0:b=false:=Bool.eq_false_iff.mpr fun h=>by
       have h9:=(HNF.out gc).mp (HB_.out.mp h i hi);exact absurd h9.2 (by decide)
      have hno:=Lib.hid hno0;clear hno0;have P:Hid (RetK (.k (.bool b)) w (.returned (.bool false)) w5):=Lib.hid ⟨_,rfl,by rw[hno.out];rfl,zup B0 B5⟩;clear B0 b1 bL R3 B5 HR
      go_wp2_with fail
      exact bodyPost_ret (v:=.bool false) (by simp[results,Tryz.results86,go_sem]) rfl P.out
     ·skip
      refine Run.start 18 ?_;refine .mv .o ?_;refine .fa .o (fM1 1) ?_;refine .ld (.i 1) (ldInt b1 1) ?_;refine .two (.i 0) (.i 2) (opLt (by simp;omega:decide ((f:Int)<(c:Int))=true)) ?_;refine .mv (.i 3) ?_;refine .mv .o ?_;refine .mv .o ?_;refine .two (.i 5) (.i 6) (opLe (decide_eq_false ga)) ?_;refine .mv (.i 7) ?_;refine .mv .o ?_;refine .mv .o ?_;refine .two (.i 10) .o (opAddN i 1 (by omega)) ?_;refine .slH (.i 9) (.i 11) (y:=i+1) (cap:=r) (by omega) ?_;refine .mv .o ?_;refine .c2 (.i 12) (.i 13) (x:=.k (.bool true)) (by rintro u v w8 hB rfl rfl;exact n_2 (R3.below hB) (bL.below hB) hi HBD.out gc (by omega) hk (by omega) (Nat.le_refl _) ⟨fun h=>of_decide_eq_true (HT.out.trans h),fun h=>HT.out.symm.trans (decide_eq_true h)⟩) ?_;refine .nt (.i 14) ?_;refine .pk (.i 8) (.i 15) false ?_;refine .pk (.i 4) (.i 16) true ?_;refine .donep [some 22,some 23,some 24,some 25,some 26,some 27,some 28,some 29,some 30,some 31,some 32,some 33,some 34,some 35,some 36,some 37,some 38,some 39] ?_;intro w5 B5;refine sh [] ?_;simp only[Act.put,lS,lZ,lC];have HS:Hid (Below w.heap.size w w5/\Bx w5 w.heap.size 27 [.int .i64 (r:Int),.int .i64 (c:Int),.slice A n d]/\Bx w5 L 25 (rcs r c (fun _=>g0) (fun a=>a*c*2) fun _=>c)/\Rws w2.heap.size w5 r c (fun _=>g0) (fun a=>a*c*2) F/\∀x,x<(i+1)->hrow c F x):=Lib.hid ⟨zup B0 B5,b1.below B5,bL.below B5,R3.below B5,fun x hx=>by
       by_cases e:x=i
       ·subst e;exact(HNF.out gc).mpr ⟨by omega,rfl⟩
       ·exact HR.out x (by omega)⟩
      have HFE:(f:Int)=ahd c F (i+1):=by show(f:Int)=(DT.fst c (F i):Int);rw[HF.out]
      clear B0 b1 bL R3 B5 HR
      go_wp2_with fail
      go_roundw
      case rel=>exact⟨i+1,by go_num,by rw[HFE],by omega,HS⟩
      case measure=>first|(simp[intOf];done)|(simp[intOf];omega)
   ·skip
    refine Run.start 18 ?_;refine .mv .o ?_;refine .fa .o (fM1 1) ?_;refine .ld (.i 1) (ldInt b1 1) ?_;refine .two (.i 0) (.i 2) (opLt (by simp;omega:decide ((f:Int)<(c:Int))=false)) ?_;refine .mv (.i 3) ?_;refine .no ?_;refine .no ?_;refine .no ?_;refine .no ?_;refine .no ?_;refine .no ?_;refine .no ?_;refine .no ?_;refine .no ?_;refine .no ?_;refine .no ?_;refine .no ?_;refine .pk (.i 4) .o false ?_;refine .donep [some 22,some 23,some 24,some 25,some 26,some 27,some 28,some 29,some 30,some 31,some 32,some 33,some 34,some 35,some 36,some 37,some 38,some 39] ?_;intro w5 B5;refine sh [] ?_;simp only[Act.put,lS,lZ,lC];have HS:Hid (Below w.heap.size w w5/\Bx w5 w.heap.size 27 [.int .i64 (r:Int),.int .i64 (c:Int),.slice A n d]/\Bx w5 L 25 (rcs r c (fun _=>g0) (fun a=>a*c*2) fun _=>c)/\Rws w2.heap.size w5 r c (fun _=>g0) (fun a=>a*c*2) F/\∀x,x<(i+1)->hrow c F x):=Lib.hid ⟨zup B0 B5,b1.below B5,bL.below B5,R3.below B5,fun x hx=>by
     by_cases e:x=i
     ·subst e;intro h0;rw[HF.out]at h0;exact absurd h0 gc
     ·exact HR.out x (by omega)⟩
    have HFE:(f:Int)=ahd c F (i+1):=by show(f:Int)=(DT.fst c (F i):Int);rw[HF.out]
    clear B0 b1 bL R3 B5 HR
    go_wp2_with fail
    go_roundw
    case rel=>exact⟨i+1,by go_num,by rw[HFE],by omega,HS⟩
    case measure=>first|(simp[intOf];done)|(simp[intOf];omega)
  ·obtain rfl:i=r:=by omega
   have u2:¬(i:Int)<(i:Int):=by omega
   have P:Hid (RetK (.k (.bool b)) w (.returned (.bool true)) wr):=Lib.hid ⟨_,rfl,by rw[HB_.out.mpr HR.out];rfl,B0⟩;clear HB HIH bL R3 B0 b1 hzr
   go_wp2_with fail
   exact bodyPost_ret (v:=.bool true) (by simp[results,Tryz.results86,go_sem]) rfl P.out
end
end Go.Proofs.YtfhbdlegkdbmfaaGreat
