/- Pc35 -/
import Derived.Test.YtfhbdlegkdbmfaaGreatPc34
set_option linter.unusedVariables false
set_option linter.unusedSimpArgs false
set_option linter.unusedSectionVars false
set_option maxRecDepth 100000
set_option maxHeartbeats 8000000
namespace Go.Proofs.YtfhbdlegkdbmfaaGreat
section
open Go.RowKit
theorem k_f (w:World)(n:Nat)(hn:n<=1048576):(Instr.makeSlice 25 (.int .i64 (n:Int)) (.int .i64 (n:Int))).run Tryz.prog w= .ok (.slice (some ⟨w.heap.size,0,none⟩) n n) (w.alloc (.cells (madeCells #[.bool false,.slice none 0 0] (n*2)) 31)):=by
 obtain⟨i,hi,hz0,hz1,hz2⟩:=info_parts info_zint;rw[run_make w _ _ i (.agg #[.bool false,.slice none 0 0]) Tryz.underlying25 hi hz0 .i64 .i64 (n:Int) (n:Int) (by omega) (Int.le_refl _) (by rw[hz2];omega) (by omega)];rw[hz1];rfl
def CoSt (w w5:World)(r c n d kv:Nat)(A:Option Addr)(vs:List Int)(B':Option Addr)(cb go:Nat):Prop:=
 Below w.heap.size w w5/\Bx w5 w.heap.size 27 [.int .i64 (r:Int),.int .i64 (c:Int),.slice A n d]/\ZB w5 go 0 (List.replicate r 0)/\w.heap.size<go/\c<=cb/\cb<=9223372036854775807/\∃gr,gr≠go/\(0<c->B'=some ⟨gr,0,none⟩/\w.heap.size<gr/\Rv kv w.heap.size w5 gr 0 c (ith vs))
def xls (c:Nat)(F:Nat->Nat->Int)(v:Nat->Int)(r i:Nat):List Int:=(List.range r).map fun j=>if j<i then cxx c F v j else 0
theorem g_y {c r i:Nat}{F:Nat->Nat->Int}{v:Nat->Int}:(xls c F v r i).length=r:=by simp[xls]
theorem l_1 {c r:Nat}{F:Nat->Nat->Int}{v:Nat->Int}:xls c F v r 0=List.replicate r 0:=by
 apply List.ext_getElem
 ·simp[xls]
 ·intro j h1 h2;simp[xls]
theorem o_h {c r i:Nat}{F:Nat->Nat->Int}{v:Nat->Int}:(xls c F v r i).set i (cxx c F v i)=xls c F v r (i+1):=by
 apply List.ext_getElem
 ·simp[xls]
 ·intro j h1 h2;rw[List.getElem_set];by_cases e:i=j
  ·subst e;simp[xls]
  ·rw[if_neg e];have e':¬j=i:=fun h=>e h.symm;by_cases hj:j<i
   ·simp[xls,hj,show j<i+1 by omega]
   ·simp[xls,hj,show ¬j<i+1 by omega]
theorem l_2 {c r i:Nat}{F:Nat->Nat->Int}{v:Nat->Int}(h:cxx c F v i=0):xls c F v r i=xls c F v r (i+1):=by
 unfold xls;refine List.map_congr_left fun j _=>?_;by_cases e:j=i
 ·subst e;simp[h]
 ·by_cases hj:j<i
  ·simp[hj,show j<i+1 by omega]
  ·simp[hj,show ¬j<i+1 by omega]
theorem o_i {c r:Nat}{F:Nat->Nat->Int}{v:Nat->Int}:xls c F v r r=rw' r (cxx c F v):=by
 unfold xls rw';exact List.map_congr_left fun j hj=>by rw[if_pos (List.mem_range.1 hj)]
def kCo (r c KX:Nat)(F:Nat->Nat->Int)(v:Nat->Int)(b:Bool):FK:=if b then kT (kZs KX (rw' r (cxx c F v))) (.k (.int .i64 0))else .k (.tuple #[.slice none 0 0,.int .i64 10])
theorem m_2 {r c KX:Nat}{F:Nat->Nat->Int}{v:Nat->Int}:kCo r c KX F v true=kT (kZs KX (rw' r (cxx c F v))) (.k (.int .i64 0)):=rfl
theorem p_1 {r c KX:Nat}{F:Nat->Nat->Int}{v:Nat->Int}:kCo r c KX F v false= .k (.tuple #[.slice none 0 0,.int .i64 10]):=rfl
theorem q_e {r c:Nat}{F:Nat->Nat->Int}{v:Nat->Int}(hH:DT.Herm r c F):DT.Lat r c F v↔¬DT.fst c (cst c F v r)<c:=by
 constructor
 ·intro h;rw[DT.fst_none (l_m hH h)];omega
 ·intro h;refine⟨cxx c F v,fun j hj=>?_⟩;have h1:=f_x (F:=F) (v:=v) hj r;rw[DT.row_zero h hj,Int.add_zero]at h1;exact h1
theorem l_o {q:Bool}{r c n d k kv cv:Nat}{A B:Option Addr}{F:Nat->Nat->Int}{vs:List Int}{w:World}(ha:Mt q w r c A n d k F)(hv:ZL false w B c cv kv vs)(hH:DT.Herm r c F){KX:Nat}(hKX:kv+r*(k+1)=KX)(hk:KX+k+4<=549755813888){b:Bool}(hb:b=true↔DT.Lat r c F (ith vs)):Calls Tryz.prog 34 #[.agg #[.int .i64 (r:Int),.int .i64 (c:Int),.slice A n d],.slice B c cv] w (RetK (kCo r c KX F (ith vs) b) w):=by
 have hf:=ha.fmd;have h3:=ha.hr;have h4:=ha.hc;have HM:=Lib.hid ha;have HV:=Lib.hid hv;have HHm:=Lib.hid hH;have HKX:=Lib.hid hKX;have HB_:=Lib.hid hb;have hkk:kv<=KX:=by omega
 clear ha hv hH hKX hb;obtain⟨w1,hw1,b2,z1,s1⟩:=boxes1 w 27 [.int .i64 (r:Int),.int .i64 (c:Int),.slice A n d];have HW:=Lib.hid hw1;have HZ:=Lib.hid z1;have hf_:=Lib.hid hf;clear hw1 z1 hf s1;go_enter Tryz.func34,Tryz.ntmps34
 go_upto_region 1 with fail
 rw[HW.out];refine Run.start 11 ?_;refine .ld .o (ldM b2 0) ?_;refine .c1 (.i 0) (x:=.k (.bool true)) (by rintro u w4 hB rfl;exact b_f hf_.out w4) ?_;refine .nt (.i 1) ?_;refine .mv (.i 2) ?_;refine .mv .o ?_;refine .len (.i 4) Tryz.underlying25 ?_;refine .fa .o (fM1 1) ?_;refine .ld (.i 6) (ldInt b2 1) ?_;refine .two (.i 5) (.i 7) (opNe (by simp:decide ((c:Int)≠(c:Int))=false)) ?_;refine .pk (.i 3) (.i 8) false ?_;refine .mv (.i 9) ?_;refine .donep [some 12,some 13,some 14,some 15,some 16,some 17,some 18,some 19,some 20,some 21,some 11] ?_;intro w2 B2;refine sh [] ?_;simp only[Act.put,lS,lZ,lC];have B0:=zup HZ.out B2;replace b2:=b2.below B2;clear B2 HZ HW;go_upto_region 3 with fail
 refine Run.start 4 ?_;refine .ld .o (ldM b2 0) ?_;refine .c1 (.i 0) (x:=.k (.bool true)) (by rintro u w4 hB rfl;exact is_q (HM.out.below (zup B0 hB)) (by omega) ⟨fun _=>HHm.out,fun _=>rfl⟩) ?_;refine .nt (.i 1) ?_;refine .mv (.i 2) ?_;refine .donep [some 23,some 24,some 25,some 22] ?_;intro w3 B3;refine sh [] ?_;simp only[Act.put,lS,lZ,lC];replace B0:=zup B0 B3;replace b2:=b2.below B3;clear B3;have HB2:=Lib.hid b2;have HBW:=Lib.hid B0;obtain⟨c0,c1,c2,-,-,-,-⟩:=b2.m3;clear b2 B0;go_upto_region 5 with fail
 have hmk:=fun w'=>k_f w' r (by omega)
 go_region_held3 (fun w'=>w'.cell? ⟨w.heap.size,0,none⟩=some (.int .i64 (r:Int))) (go_keep) (first
  |(go_at_call 87;(with_reducible refine(l_s ((HV.out.below HBW.out).below (a_a w3)) (by omega)).mono ?_);rintro e w4 ⟨B',cb,rfl,B4,hcb,hcb2,hB'⟩;have Q4:=zup (a_a w3) B4;obtain⟨x0,x1,x2,-,-,-,-⟩:=(HB2.out.below Q4).m3)
  |(go_at_call 87;(with_reducible refine(l_s ((HV.out.below HBW.out).below (zup (zba w3 _) (a_a _))) (by omega)).mono ?_);rintro e w4 ⟨B',cb,rfl,B4,hcb,hcb2,hB'⟩;have Q4:=zup (zup (zba w3 _) (a_a _)) B4;obtain⟨x0,x1,x2,-,-,-,-⟩:=(HB2.out.below Q4).m3)
  |fail)
 obtain⟨go,hgo⟩:∃x,w4.heap.size=x:=⟨_,rfl⟩;obtain⟨w5,hw5⟩:∃x,w4.alloc (.cells (madeCells #[.bool false,.slice none 0 0] (r*2)) 31)=x:=⟨_,rfl⟩;have B5:=zba w4 (.cells (madeCells #[.bool false,.slice none 0 0] (r*2)) 31);have hO:=ZB.made w4 r;have hs3:w3.heap.size<=w3.drew.heap.size:=(a_a w3).size;have hs4:=B4.size;have hsw:=HBW.out.size;have hl2:=HB2.out.lt;rw[hw5]at B5 hO;have HF:Hid (CoSt w w5 r c n d kv A vs B' cb go):=Lib.hid ⟨zup HBW.out (zup Q4 B5),(HB2.out.below Q4).below B5,by rw[<-hgo];exact hO,by omega,hcb,hcb2,by
  by_cases h0:0<c
  ·obtain⟨g,e1,e2,e3⟩:=hB' h0
   have:=e3.lt;exact⟨g,by omega,fun _=>⟨e1,by omega,⟨(e3.below B5).ex,(e3.below B5).now,by omega⟩⟩⟩
  ·exact⟨go+1,by omega,fun h=>absurd h h0⟩⟩
 rw[hgo,hw5];clear hw5 hgo B5 hO B4 Q4 x0 x1 x2 hB' hs3 hs4 hsw hl2 c0 c1 c2 hmk hcb hcb2;rotate_left
 obtain⟨go,hgo⟩:∃x,w3.heap.size=x:=⟨_,rfl⟩;obtain⟨w5,hw5⟩:∃x,x=w4:=⟨_,rfl⟩;subst hw5;have hs3:(w3.alloc (.cells (madeCells #[.bool false,.slice none 0 0] (r*2)) 31)).heap.size<=(w3.alloc (.cells (madeCells #[.bool false,.slice none 0 0] (r*2)) 31)).drew.heap.size:=(a_a _).size;have hs3':(w3.alloc (.cells (madeCells #[.bool false,.slice none 0 0] (r*2)) 31)).heap.size=w3.heap.size+1:=by simp
 have hO:=((ZB.made w3 r).below (a_a _)).below B4;have hs4:=B4.size;have hsw:=HBW.out.size;have hl2:=HB2.out.lt;have HF:Hid (CoSt w w5 r c n d kv A vs B' cb go):=Lib.hid ⟨zup HBW.out Q4,HB2.out.below Q4,by rw[<-hgo];exact hO,by omega,hcb,hcb2,by
  by_cases h0:0<c
  ·obtain⟨g,e1,e2,e3⟩:=hB' h0;exact⟨g,by omega,fun _=>⟨e1,by omega,⟨e3.ex,e3.now,by omega⟩⟩⟩
  ·exact⟨go+1,by omega,fun h=>absurd h h0⟩⟩
 rw[hgo];clear hgo hO B4 Q4 x0 x1 x2 hB' hs3 hs3' hs4 hsw hl2 c0 c1 c2 hmk hcb hcb2;rotate_left
 all_goals
  skip
  obtain⟨B0,b2,hO,hgo,hcb1,hcb2,gr,hne,hR⟩:=HF.out;have HOF:=Lib.hid (i_b (HM.out.below B0) (by omega:k<=549755813888));obtain⟨x0,x1,x2,-,-,-,-⟩:=b2.m3;have hgo5:=hO.lt;have hgr5:0<c->gr<w5.heap.size:=fun h=>(hR h).2.2.lt;have HBQ:=Lib.hid (fun h=>And.intro (hR h).1 (hR h).2.1);clear HF
  go_wp2_with fail
  refine HOF.out.mono ?_;rintro e w6 ⟨L,g0,rfl,B6,hL,bL,R6,hbd⟩;have HBD:=Lib.hid hbd;have hs6:=B6.size;have hsw5:=B0.size;have hg0:0<r->w5.heap.size<=g0:=fun h=>(R6.row 0 h).lo;have H0:Hid (Below w.heap.size w w6/\Bx w6 w.heap.size 27 [.int .i64 (r:Int),.int .i64 (c:Int),.slice A n d]/\Bx w6 L 25 (rcs r c (fun _=>g0) (fun a=>a*c*2) fun _=>c)/\Rws w5.heap.size w6 r c (fun _=>g0) (fun a=>a*c*2) F/\(0<c->Rv (kv+(0)*(k+1)) w.heap.size w6 gr 0 c (cst c F (ith vs) (0)))/\ZB w6 go KX (xls c F (ith vs) r (0))):=Lib.hid ⟨zup B0 B6,b2.below B6,bL,R6,fun h=>by
   have h1:=(hR h).2.2.below B6;exact h1.mono (by omega),by rw[l_1];exact(hO.below B6).mono (Nat.zero_le _)⟩
  clear b2 B0 B6 bL R6 hbd HOF x0 x1 x2 hO hR
  go_wp2_with fail
  go_loopw [34] (fun s34 wr=>∃i:Nat,s34= .int .i64 (i:Int)/\i<=r/\Hid (Below w.heap.size w wr/\Bx wr w.heap.size 27 [.int .i64 (r:Int),.int .i64 (c:Int),.slice A n d]/\Bx wr L 25 (rcs r c (fun _=>g0) (fun a=>a*c*2) fun _=>c)/\Rws w5.heap.size wr r c (fun _=>g0) (fun a=>a*c*2) F/\(0<c->Rv (kv+(i)*(k+1)) w.heap.size wr gr 0 c (cst c F (ith vs) (i)))/\ZB wr go KX (xls c F (ith vs) r (i)))) (fun s34 _=>r - (intOf s34).toNat)
  case atStart=>exact⟨0,rfl,Nat.zero_le _,H0⟩
  case round=>
   obtain⟨i,rfl,hir,HB⟩:=hrel;clear H0;obtain⟨B0,b2,bL,R6,hR,hO⟩:=HB.out;have HIH:=Lib.hid HB.out;by_cases hi:i<r
   ·have u2:(i:Int)<(r:Int):=by omega
    have c1:wr.cell? ⟨L,i,none⟩=some (rwV g0 (i*c*2) c c):=(bL.cell i).trans (e_j hi);have HLD:=Lib.hid (i_j (c:=c) (R6.row i hi) (HBD.out i hi) (Nat.le_refl _) (by omega) (by omega) (by omega));obtain⟨f,hf⟩:∃f,DT.fst c (F i)=f:=⟨_,rfl⟩;have hfc:f<=c:=by rw[<-hf];exact DT.fst_le _ _
    rw[hf]at HLD;have HF:=Lib.hid hf;clear HB bL R6 B0 b2 hf hR hO;unfold rwV at HLD c1
    go_wp2_with fail
    refine HLD.out.mono ?_;rintro e w7 ⟨v,rfl,rfl,B7⟩;obtain⟨B0,b2,bL,R6,hR,hO⟩:=HIH.out;replace B0:=zup B0 B7;replace b2:=b2.below B7;replace bL:=bL.below B7;replace R6:=R6.below B7;replace hR:=fun h=>(hR h).below B7;replace hO:=hO.below B7;clear B7 c1 HLD HIH;by_cases gc:f<c
    ·go_upto_region 10 with fail
     refine Run.start 4 ?_;refine .mv .o ?_;refine .fa .o (fM1 1) ?_;refine .ld (.i 1) (ldInt b2 1) ?_;refine .two (.i 0) (.i 2) (opLt (by simp;omega:decide ((f:Int)<(c:Int))=true)) ?_;refine .donep [some 41,some 42,some 43,some 44] ?_;intro w8 B8;refine sh [] ?_;simp only[Act.put,lS,lZ,lC];replace B0:=zup B0 B8;replace b2:=b2.below B8;replace bL:=bL.below B8;replace R6:=R6.below B8;replace hR:=fun h=>(hR h).below B8;replace hO:=hO.below B8;clear B8;have h0c:0<c:=by omega
     have hr0:0<r:=by omega
     obtain⟨hBe,hgrw⟩:=HBQ.out h0c;subst hBe;have RV:=hR h0c;have hgr':=hgr5 h0c;have hg0':=hg0 hr0;have hpos:0<F i f:=by
      have:=HHm.out.pos i hi (by rw[HF.out];exact gc);rwa [HF.out]at this
     have hz0:∀j,j<f->F i j=0:=fun j hj=>DT.fst_zero (C:=c) (by rw[HF.out];exact hj);have hmul:i*(k+1)+(k+1)<=r*(k+1):=by
      have h1:(i+1)*(k+1)=i*(k+1)+(k+1):=Nat.succ_mul i (k+1);have h2:(i+1)*(k+1)<=r*(k+1):=Nat.mul_le_mul_right _ hi;omega
     have hKX:=HKX.out;obtain⟨KI,hKI⟩:∃K,kv+i*(k+1)=K:=⟨_,rfl⟩;rw[hKI]at RV;have HT:=Lib.hid (q_x (ca:=cb) (cc:=c) ⟨RV,(R6.row i hi).low (by omega),by omega⟩ (by have:=B0.size;omega) gc (by omega) hz0 hpos (HBD.out i hi) (by omega));unfold rwV at HT;have HLW:=Lib.hid (And.intro B0 (And.intro b2 (And.intro bL (And.intro R6 (And.intro RV hO)))));have hl2:=b2.lt;have hlL:=bL.lt;clear B0 b2 bL R6 hR hO RV
     go_wp2_with fail
     refine HT.out.mono ?_;rintro e w9 ⟨s9,A9,n9,d9,rfl,hz9,hk9,R9,hG9⟩;obtain⟨B0,b2,bL,R6,RV,hO⟩:=HLW.out;have hnr:=RV.now;have B9:Below w.heap.size w w9:=B0.grown hG9 B0.size (fun g hg=>by cases hg;omega);have b9:=a_t b2 hG9 (by omega);have bL9:=a_t bL hG9 (by omega);have R69:=R6.gro (fun a ha=>by omega) hnr hG9;have hO9:=hO.gro (Ne.symm hne) hnr hG9;have hRv:=R9.v;have hgr9:=a_w w9 go (i*2) s9 A9 n9 d9;have hno:=hO9.now;obtain⟨t1,t2,t3,t4,x1,x2,-⟩:=hO9.cells (j:=i) (by rw[g_y];exact hi);have y1:=hO9.free (i*2);have y2:=hO9.free (i*2+1);have hxi:cxx c F (ith vs) i=cst c F (ith vs) i f / F i f:=by rw[l_k (by rw[HF.out];exact gc),HF.out]
     have hsi:cst c F (ith vs) (i+1)=fun j=>cst c F (ith vs) i j - cst c F (ith vs) i f / F i f*F i j:=by rw[h_s (by rw[HF.out];exact gc),HF.out]
     have hmul2:(i+1)*(k+1)=i*(k+1)+(k+1):=Nat.succ_mul i (k+1);have HS:Hid (Below w.heap.size w (zputo w9 go (i*2) s9 A9 n9 d9)/\Bx (zputo w9 go (i*2) s9 A9 n9 d9) w.heap.size 27 [.int .i64 (r:Int),.int .i64 (c:Int),.slice A n d]/\Bx (zputo w9 go (i*2) s9 A9 n9 d9) L 25 (rcs r c (fun _=>g0) (fun a=>a*c*2) fun _=>c)/\Rws w5.heap.size (zputo w9 go (i*2) s9 A9 n9 d9) r c (fun _=>g0) (fun a=>a*c*2) F/\(0<c->Rv (kv+(i+1)*(k+1)) w.heap.size (zputo w9 go (i*2) s9 A9 n9 d9) gr 0 c (cst c F (ith vs) (i+1)))/\ZB (zputo w9 go (i*2) s9 A9 n9 d9) go KX (xls c F (ith vs) r (i+1))):=Lib.hid ⟨B9.grown hgr9 B9.size (fun g hg=>by cases hg;omega),a_t b9 hgr9 (by omega),a_t bL9 hgr9 (by omega),R69.gro (fun a ha=>by omega) hno hgr9,fun _=>by
      rw[hsi];exact(hRv.gro hne hno hgr9).mono (by omega),by
      rw[<-o_h,hxi];exact hO9.put (by rw[g_y];exact hi) hz9 (by omega)⟩
     unfold zputo at HS;clear B0 b2 bL R6 RV hO hnr B9 b9 bL9 R69 hO9 hRv hgr9 hno R9 hG9 hz9 HT HLW hxi hsi
     go_wp2_with fail
     go_roundw
     case rel=>exact⟨i+1,by go_num,by omega,HS⟩
     case measure=>first|(simp[intOf];done)|(simp[intOf];omega)
    ·go_upto_region 10 with fail
     refine Run.start 4 ?_;refine .mv .o ?_;refine .fa .o (fM1 1) ?_;refine .ld (.i 1) (ldInt b2 1) ?_;refine .two (.i 0) (.i 2) (opLt (by simp;omega:decide ((f:Int)<(c:Int))=false)) ?_;refine .donep [some 41,some 42,some 43,some 44] ?_;intro w8 B8;refine sh [] ?_;simp only[Act.put,lS,lZ,lC];replace B0:=zup B0 B8;replace b2:=b2.below B8;replace bL:=bL.below B8;replace R6:=R6.below B8;replace hR:=fun h=>(hR h).below B8;replace hO:=hO.below B8;clear B8;have hmul2:(i+1)*(k+1)=i*(k+1)+(k+1):=Nat.succ_mul i (k+1);have HS:Hid (Below w.heap.size w w8/\Bx w8 w.heap.size 27 [.int .i64 (r:Int),.int .i64 (c:Int),.slice A n d]/\Bx w8 L 25 (rcs r c (fun _=>g0) (fun a=>a*c*2) fun _=>c)/\Rws w5.heap.size w8 r c (fun _=>g0) (fun a=>a*c*2) F/\(0<c->Rv (kv+(i+1)*(k+1)) w.heap.size w8 gr 0 c (cst c F (ith vs) (i+1)))/\ZB w8 go KX (xls c F (ith vs) r (i+1))):=Lib.hid ⟨B0,b2,bL,R6,fun h=>by
      rw[l_l (by rw[HF.out];exact gc)];exact(hR h).mono (by omega),by rw[<-l_2 (n_8 (by rw[HF.out];exact gc))];exact hO⟩
     clear B0 b2 bL R6 hR hO
     go_wp2_with fail
     go_roundw
     case rel=>exact⟨i+1,by go_num,by omega,HS⟩
     case measure=>first|(simp[intOf];done)|(simp[intOf];omega)
   ·obtain rfl:i=r:=by omega
    have u2:¬(i:Int)<(i:Int):=by omega
    have hbb:=HB_.out.trans (q_e HHm.out);obtain⟨f,hf⟩:∃f,DT.fst c (cst c F (ith vs) i)=f:=⟨_,rfl⟩;have hfc:f<=c:=by rw[<-hf];exact DT.fst_le _ _
    have hKX:=HKX.out;have HLR:Hid (∀w',Below wr.heap.size wr w'->Calls Tryz.prog 89 #[.slice B' c cb] w' (RetK (.k (.int .i64 (f:Int))) w')):=Lib.hid fun w' hB=>by
     rw[<-hf];by_cases h0:0<c
     ·obtain⟨e1,-⟩:=HBQ.out h0;rw[e1];exact r_l ((hR h0).below hB) hcb1 hcb2 (by omega) (by omega)
     ·obtain rfl:c=0:=by omega
      exact k_y (q:=false) (k:=0) (zs:=[]) ⟨rfl,Nat.zero_le _,hcb2,fun h=>absurd h (Nat.not_lt_zero _)⟩ (by omega) (by omega)
    rw[hf]at hbb;have HBB:=Lib.hid hbb;clear HB HIH bL R6 hR hbb hf;cases b
    ·go_upto_region 13 with fail
     have hlt:f<c:=Classical.byContradiction fun h=>Bool.noConfusion (HBB.out.mpr h);refine Run.start 5 ?_;refine .mv .o ?_;refine .c1 (.i 0) (x:=.k (.int .i64 (f:Int))) (by rintro u_ w4 hB rfl;exact HLR.out _ hB) ?_;refine .fa .o (fM1 1) ?_;refine .ld (.i 2) (ldInt b2 1) ?_;refine .two (.i 1) (.i 3) (opLt (by simp;omega:decide ((f:Int)<(c:Int))=true)) ?_;refine .done [some 53,some 54,some 55,some 56,some 57] ?_;intro w8 B8;refine sh [] ?_;simp only[Act.put,lS,lZ,lC];have P:Hid (RetK (kCo i c KX F (ith vs) false) w (.returned (.tuple #[.slice none 0 0,.int .i64 10])) w8):=Lib.hid (by rw[p_1];exact⟨_,rfl,rfl,zup B0 B8⟩);clear B0 b2 hO B8
     go_wp2_with fail
     exact bodyPost_ret (v:=.tuple #[.slice none 0 0,.int .i64 10]) (by simp[results,Tryz.results34,go_sem]) rfl P.out
    ·go_upto_region 13 with fail
     have hnl:=HBB.out.mp rfl;refine Run.start 5 ?_;refine .mv .o ?_;refine .c1 (.i 0) (x:=.k (.int .i64 (f:Int))) (by rintro u_ w4 hB rfl;exact HLR.out _ hB) ?_;refine .fa .o (fM1 1) ?_;refine .ld (.i 2) (ldInt b2 1) ?_;refine .two (.i 1) (.i 3) (opLt (by simp;omega:decide ((f:Int)<(c:Int))=false)) ?_;refine .done [some 53,some 54,some 55,some 56,some 57] ?_;intro w8 B8;refine sh [] ?_;simp only[Act.put,lS,lZ,lC];have P:Hid (RetK (kCo i c KX F (ith vs) true) w (.returned (.tuple #[.slice (some ⟨go,0,none⟩) i i,.int .i64 0])) w8):=Lib.hid (by
      rw[m_2];refine⟨_,rfl,⟨_,_,rfl,⟨_,_,_,rfl, ?_⟩,rfl⟩,zup B0 B8⟩;have h1:=(hO.below B8).zl0 true (n:=i) (c:=i) (by rw[g_y];exact Nat.le_refl _) (Nat.le_refl _) (by omega);rwa [o_i,List.take_of_length_le (by rw[c_q];exact Nat.le_refl _)]at h1)
     clear B0 b2 hO B8
     go_wp2_with fail
     exact bodyPost_ret (v:=.tuple #[.slice (some ⟨go,0,none⟩) i i,.int .i64 0]) (by simp[results,Tryz.results34,go_sem]) rfl P.out
end
section
open Go.RowKit
theorem n_f {r c:Int}{A B:Option Addr}{n d m e:Nat}{w:World}(h:fmd r c n=false\/(m:Int)≠c):Calls Tryz.prog 34 #[.agg #[.int .i64 r,.int .i64 c,.slice A n d],.slice B m e] w (RetK (kT (.k (.slice none 0 0)) (.k (.int .i64 2))) w):=by
 obtain⟨t,ht⟩:∃t,fmd r c n=t:=⟨_,rfl⟩;rw[ht]at h;obtain⟨w1,hw1,b2,z1,s1⟩:=boxes1 w 27 [.int .i64 r,.int .i64 c,.slice A n d];have HW:=Lib.hid hw1;have HZ:=Lib.hid z1;have h_:=Lib.hid h;have ht_:=Lib.hid ht;clear hw1 z1 h ht s1;go_enter Tryz.func34,Tryz.ntmps34
 go_upto_region 1 with fail
 rw[HW.out];cases t
 ·skip
  refine Run.start 11 ?_;refine .ld .o (ldM b2 0) ?_;refine .c1 (.i 0) (x:=.k (.bool false)) (by rintro u w4 hB rfl;exact b_f ht_.out w4) ?_;refine .nf (.i 1) ?_;refine .mv (.i 2) ?_;refine .no ?_;refine .no ?_;refine .no ?_;refine .no ?_;refine .no ?_;refine .pk (.i 3) .o true ?_;refine .mv (.i 9) ?_;refine .donep [some 12,some 13,some 14,some 15,some 16,some 17,some 18,some 19,some 20,some 21,some 11] ?_;intro w2 B2;refine sh [] ?_;simp only[Act.put,lS,lZ,lC];clear b2;have P:Hid (RetK (kT (.k (.slice none 0 0)) (.k (.int .i64 2))) w (.returned (.tuple #[.slice none 0 0,.int .i64 2])) w2):=Lib.hid ⟨_,rfl,⟨_,_,rfl,rfl,rfl⟩,zup HZ.out B2⟩
  go_wp2_with fail
  exact bodyPost_ret (v:=.tuple #[.slice none 0 0,.int .i64 2]) (by simp[results,Tryz.results34,go_sem]) rfl P.out
 ·have hne:(m:Int)≠c:=by
   rcases h_.out with h|h
   ·exact absurd h (by decide)
   ·exact h
  refine Run.start 11 ?_;refine .ld .o (ldM b2 0) ?_;refine .c1 (.i 0) (x:=.k (.bool true)) (by rintro u w4 hB rfl;exact b_f ht_.out w4) ?_;refine .nt (.i 1) ?_;refine .mv (.i 2) ?_;refine .mv .o ?_;refine .len (.i 4) Tryz.underlying25 ?_;refine .fa .o (fM1 1) ?_;refine .ld (.i 6) (ldInt b2 1) ?_;refine .two (.i 5) (.i 7) (opNe (decide_eq_true hne:decide ((m:Int)≠c)=true)) ?_;refine .pk (.i 3) (.i 8) false ?_;refine .mv (.i 9) ?_;refine .donep [some 12,some 13,some 14,some 15,some 16,some 17,some 18,some 19,some 20,some 21,some 11] ?_;intro w2 B2;refine sh [] ?_;simp only[Act.put,lS,lZ,lC];clear b2;have P:Hid (RetK (kT (.k (.slice none 0 0)) (.k (.int .i64 2))) w (.returned (.tuple #[.slice none 0 0,.int .i64 2])) w2):=Lib.hid ⟨_,rfl,⟨_,_,rfl,rfl,rfl⟩,zup HZ.out B2⟩
  go_wp2_with fail
  exact bodyPost_ret (v:=.tuple #[.slice none 0 0,.int .i64 2]) (by simp[results,Tryz.results34,go_sem]) rfl P.out
theorem r_4 {q:Bool}{r c n d k e:Nat}{A B:Option Addr}{F:Nat->Nat->Int}{w:World}(ha:Mt q w r c A n d k F)(hk:k<=549755813888)(hH:¬DT.Herm r c F):Calls Tryz.prog 34 #[.agg #[.int .i64 (r:Int),.int .i64 (c:Int),.slice A n d],.slice B c e] w (RetK (kT (.k (.slice none 0 0)) (.k (.int .i64 1))) w):=by
 have hf:=ha.fmd;have HM:=Lib.hid ha;clear ha;obtain⟨w1,hw1,b2,z1,s1⟩:=boxes1 w 27 [.int .i64 (r:Int),.int .i64 (c:Int),.slice A n d];have HW:=Lib.hid hw1;have HZ:=Lib.hid z1;have hf_:=Lib.hid hf;clear hw1 z1 hf s1;go_enter Tryz.func34,Tryz.ntmps34
 go_upto_region 1 with fail
 rw[HW.out];refine Run.start 11 ?_;refine .ld .o (ldM b2 0) ?_;refine .c1 (.i 0) (x:=.k (.bool true)) (by rintro u w4 hB rfl;exact b_f hf_.out w4) ?_;refine .nt (.i 1) ?_;refine .mv (.i 2) ?_;refine .mv .o ?_;refine .len (.i 4) Tryz.underlying25 ?_;refine .fa .o (fM1 1) ?_;refine .ld (.i 6) (ldInt b2 1) ?_;refine .two (.i 5) (.i 7) (opNe (by simp:decide ((c:Int)≠(c:Int))=false)) ?_;refine .pk (.i 3) (.i 8) false ?_;refine .mv (.i 9) ?_;refine .donep [some 12,some 13,some 14,some 15,some 16,some 17,some 18,some 19,some 20,some 21,some 11] ?_;intro w2 B2;refine sh [] ?_;simp only[Act.put,lS,lZ,lC];have B0:=zup HZ.out B2;replace b2:=b2.below B2;clear B2 HZ HW;go_upto_region 3 with fail
 refine Run.start 4 ?_;refine .ld .o (ldM b2 0) ?_;refine .c1 (.i 0) (x:=.k (.bool false)) (by rintro u w4 hB rfl;exact is_q (HM.out.below (zup B0 hB)) hk ⟨fun h=>Bool.noConfusion h,fun h=>absurd h hH⟩) ?_;refine .nf (.i 1) ?_;refine .mv (.i 2) ?_;refine .donep [some 23,some 24,some 25,some 22] ?_;intro w3 B3;refine sh [] ?_;simp only[Act.put,lS,lZ,lC];clear b2;have P:Hid (RetK (kT (.k (.slice none 0 0)) (.k (.int .i64 1))) w (.returned (.tuple #[.slice none 0 0,.int .i64 1])) w3):=Lib.hid ⟨_,rfl,⟨_,_,rfl,rfl,rfl⟩,zup B0 B3⟩
 go_wp2_with fail
 exact bodyPost_ret (v:=.tuple #[.slice none 0 0,.int .i64 1]) (by simp[results,Tryz.results34,go_sem]) rfl P.out
end
section
open Go.RowKit
theorem k_o {q:Bool}{n c k i:Nat}{A:Option Addr}{zs:List Int}{w:World}(hx:ZL q w A n c k zs)(hi:i<n)(hn:n<=1048576):Calls Tryz.prog 134 #[.slice A n c,.int .i64 (i:Int)] w (RetK (kV (ith zs i) k) w):=by
 have HX:=Lib.hid hx;clear hx;obtain⟨w1,hw1,b4,z1,s1⟩:=boxes1 w 31 [.bool false,.slice none 0 0];have HW:=Lib.hid hw1;have HZ:=Lib.hid z1;clear hw1 z1 s1;go_enter Tryz.func134,Tryz.ntmps134
 go_upto_region 1 with fail
 rw[HW.out];obtain⟨ad,rfl,hab,hA⟩:=(HX.out.below HZ.out).at hi;obtain⟨s,A1,n1,c1,e1,e2,ze,hk1⟩:=hA;have hz:=ze.1;clear ze;refine Run.start 8 ?_;refine .mv .o ?_;refine .two (.i 0) .o (opGe (by simp:decide ((0:Int)<=(i:Int))=true)) ?_;refine .mv (.i 1) ?_;refine .mv .o ?_;refine .mv .o ?_;refine .len (.i 4) Tryz.underlying25 ?_;refine .two (.i 3) (.i 5) (opLt (by simp;omega:decide ((i:Int)<(n:Int))=true)) ?_;refine .pk (.i 2) (.i 6) true ?_;refine .donep [some 5,some 6,some 7,some 8,some 9,some 10,some 11,some 12] ?_;intro w2 B2;refine sh [] ?_;simp only[Act.put,lS,lZ,lC];have BW:=zup HZ.out B2;replace b4:=b4.below B2;replace hz:=hz.below B2;have f1:=(B2.cell (p:=ad.add (i*2)) (by rw[a_b];exact hab)).trans e1;have f2:=(B2.cell (p:=⟨(ad.add (i*2)).block,(ad.add (i*2)).off+1,none⟩) (by show(ad.add (i*2)).block<_;rw[a_b];exact hab)).trans e2;have hab2:ad.block<w2.heap.size:=Nat.lt_of_lt_of_le hab B2.size;clear B2 e1 e2 hab;go_upto_region 2 with fail
 refine Run.start 4 ?_;refine .mv .o ?_;refine .mv .o ?_;refine .two (.i 0) (.i 1) (opIx hi) ?_;refine .ld (.i 2) (ldE (by rw[a_b];exact hab2) f1 f2) ?_;refine .donep [some 13,some 14,some 15,some 16] ?_;intro w3 B3;refine sh [_] ?_;simp only[Act.put,lS,lZ,lC];replace hz:=hz.below B3;have I:=Ib.entry (b4.below B3);have P:=Lib.hid (retV hz I (k:=k) (by omega) (by omega) (zup BW B3));obtain⟨i1,i2,i3,i4,i5⟩:=I;clear hz f1 f2
 go_wp2_with fail
 exact bodyPost_ret (v:=.agg #[.bool s,.slice A1 n1 c1]) (by simp[results,Tryz.results134,go_sem,i1,i2]) rfl P.out
theorem k_j {q q':Bool}{n c k c' k':Nat}{A A':Option Addr}{zs zs':List Int}{w:World}(hx:ZL q w A n c k zs)(hy:ZL q' w A' n c' k' zs')(hn:n<=1048576)(hk:k<=1099511627776)(hk':k'<=1099511627776)(he:∀i,i<n->ith zs i=ith zs' i):Calls Tryz.prog 91 #[.slice A n c,.slice A' n c'] w (RetK (.k (.bool true)) w):=by
 have HX:=Lib.hid hx;have HY:=Lib.hid hy;have HE:=Lib.hid he;clear hx hy he;go_enter Tryz.func91,Tryz.ntmps91
 go_wp2_with fail
 go_loopw [5] (fun s5 wr=>∃i:Nat,s5= .int .i64 (i:Int)/\i<=n/\Hid (Below w.heap.size w wr)) (fun s5 _=>n - (intOf s5).toNat)
 case atStart=>exact⟨0,rfl,Nat.zero_le _,Lib.hid (Below.refl _ _)⟩
 case round=>
  obtain⟨i,rfl,hi,HB⟩:=hrel;have B0:=HB.out;clear HB;by_cases hlt:i<n
  ·have u2:decide ((i:Int)<(n:Int))=true:=decide_eq_true (by omega);go_upto_region 2 with fail
   refine Run.start 10 ?_;refine .mv .o ?_;refine .mv .o ?_;refine .len (.i 1) Tryz.underlying25 ?_;refine .two (.i 0) (.i 2) (opLt u2) ?_;refine .mv (.i 3) ?_;refine .no ?_;refine .no ?_;refine .no ?_;refine .no ?_;refine .pk (.i 4) .o true ?_;refine .donep [some 6,some 7,some 8,some 9,some 10,some 11,some 12,some 13,some 14,some 15] ?_;intro w2 B2;refine sh [] ?_;simp only[Act.put,lS,lZ,lC];replace B0:=zup B0 B2;clear B2;go_upto_region 4 with fail
   refine Run.start 8 ?_;refine .mv .o ?_;refine .mv .o ?_;refine .c2 (.i 0) (.i 1) (x:=kV (ith zs i) k) (by rintro u v w4 hB rfl rfl;exact k_o (HX.out.below (zup B0 hB)) hlt hn) ?_;refine .mv .o ?_;refine .mv .o ?_;refine .c2 (.i 3) (.i 4) (x:=kV (ith zs i) k') (by rintro u v w4 hB rfl rfl;rw[HE.out i hlt];exact k_o (HY.out.below (zup B0 hB)) hlt hn) ?_;refine .c2 (.i 2) (.i 5) (x:=.k (.bool true)) (by rintro u v w4 hB h1 h2;exact j_p h1 h2 hk hk' (by simp)) ?_;refine .nt (.i 6) ?_;refine .donep [some 18,some 19,some 20,some 21,some 22,some 23,some 24,some 25] ?_;intro w3 B3;rintro v20 -;rintro v23 -;refine sh [] ?_;simp only[Act.put,lS,lZ,lC];have HS:Hid (Below w.heap.size w w3):=Lib.hid (zup B0 B3);clear B0 B3
   go_wp2_with fail
   go_roundw
   case rel=>exact⟨i+1,by go_num,by omega,HS⟩
   case measure=>first|(simp[intOf];done)|(simp[intOf];omega)
  ·obtain rfl:i=n:=by omega
   have u2:decide ((i:Int)<(i:Int))=false:=decide_eq_false (by omega);go_upto_region 2 with fail
   refine Run.start 10 ?_;refine .mv .o ?_;refine .mv .o ?_;refine .len (.i 1) Tryz.underlying25 ?_;refine .two (.i 0) (.i 2) (opLt u2) ?_;refine .mv (.i 3) ?_;refine .mv .o ?_;refine .mv .o ?_;refine .len (.i 6) Tryz.underlying25 ?_;refine .two (.i 5) (.i 7) (opLt u2) ?_;refine .pk (.i 4) (.i 8) false ?_;refine .donep [some 6,some 7,some 8,some 9,some 10,some 11,some 12,some 13,some 14,some 15] ?_;intro w2 B2;refine sh [] ?_;simp only[Act.put,lS,lZ,lC];have P:Hid (RetK (.k (.bool true)) w (.returned (.bool true)) w2):=Lib.hid ⟨_,rfl,rfl,zup B0 B2⟩
   go_wp2_with fail
   exact bodyPost_ret (v:=.bool true) (by simp[results,Tryz.results91,go_sem]) rfl P.out
end
section
open Go.RowKit
section
variable {ops:Array Oper}{Q:Exit->Act->World->Prop}{m i:Nat}{a0:Act}{w0:World}{l:List FK}{b:Bool}{id:Nat}
def b3X (o:Op):Operand × Operand × Operand:=match o with| .build _ xs=>(match xs.toList with| [(0,x),(1,y),(2,z)]=>(x,y,z)|_=>(.func 0,.func 0,.func 0))|_=>(.func 0,.func 0,.func 0)
def b3T (o:Op):TypeId:=match o with| .build T _=>T|_=>0
def okB3 (ops:Array Oper)(m i:Nat)(s1 s2 s3:Src):Bool:=okH ops m i&&(match(opAt ops i).op with| .build _ xs=>(match xs.toList with| [(0,x),(1,y),(2,z)]=>s1.ok ops m i x&&s2.ok ops m i y&&s3.ok ops m i z|_=>false)|_=>false)
theorem Run.bd3 (s1 s2 s3:Src){v1 v2 v3 v:Value}(H:∀w,(Instr.build (b3T (opAt ops i).op) #[(0,v1),(1,v2),(2,v3)]).run Tryz.prog w= .ok v w)
  (rest:R ops Q m a0 w0 b id (.k v::l) (i+1)) (h1:s1.K l i a0 (b3X (opAt ops i).op).1= .k v1:=by rfl) (h2:s2.K l i a0 (b3X (opAt ops i).op).2.1= .k v2:=by rfl) (h3:s3.K l i a0 (b3X (opAt ops i).op).2.2= .k v3:=by rfl)
  (hc:okB3 ops m i s1 s2 s3=true:=by kernel_rfl) (hg:Gd l i (opAt ops i):=by first|exact trivial|exact rfl):R ops Q m a0 w0 b id l i:=by
 unfold okB3 at hc;rw[Bool.and_eq_true]at hc;obtain⟨hh,hq⟩:=hc;refine Run.val (x:=.k v) hh (FK.kne _) hg (fun a w h=>⟨v, ?_,rfl⟩) rest;split at hq
 ·rename_i T xs e;split at hq
  ·rename_i x y z ex;obtain⟨ys⟩:=xs;simp only at ex;subst ex;simp only[Bool.and_eq_true]at hq;obtain⟨⟨k1,k2⟩,k3⟩:=hq;rw[e]at H h1 h2 h3;have e1:=h.srcK k1 h1;have e2:=h.srcK k2 h2;have e3:=h.srcK k3 h3;have h5:(Instr.build T #[(0,v1),(1,v2),(2,v3)]).run Tryz.prog w= .ok v w:=H w;unfold execOp;rw[e];simp only[List.map_toArray,List.map_cons,List.map_nil,e1,e2,e3];simp[h5]
  ·cases hq
 ·cases hq
end
theorem ZL.one {q:Bool}{w:World}{A:Option Addr}{r c k:Nat}{xs:List Int}(h:ZL q w A r c k xs)(hr:r<=64):Mt q w 1 r A r c k (fun i j=>ith xs (i*r+j)):=⟨by rw[r_k (by rw[h.len,Nat.one_mul])];exact h,by omega,hr⟩
theorem g_n {q qx qv:Bool}{r c n d k cx kx cv kv:Nat}{A B C:Option Addr}{F:Nat->Nat->Int}{xs vs:List Int}{w:World}(hm:Mt q w r c A n d k F)(hx:ZL qx w B r cx kx xs)(hv:ZL qv w C c cv kv vs)(he:∀j,j<c->ith vs j=DT.sumN r fun l=>ith xs l*F l j)(hk:kx+k<=549755813000)(hkv:kv<=549755813888):Calls Tryz.prog 35 #[.agg #[.int .i64 (r:Int),.int .i64 (c:Int),.slice A n d],.slice B r cx,.slice C c cv] w (RetK (.k (.bool true)) w):=by
 have h3:=hm.hr;have h4:=hm.hc;have HM:=Lib.hid hm;have HX:=Lib.hid (hx.one h3);have HV:=Lib.hid hv;have HE:=Lib.hid he;clear hm hx hv he;obtain⟨w1,hw1,b3,z1,s1⟩:=boxes1 w 27 [.int .i64 (r:Int),.int .i64 (c:Int),.slice A n d];have HW:=Lib.hid hw1;have HZ:=Lib.hid z1;clear hw1 z1 s1;go_enter Tryz.func35,Tryz.ntmps35
 go_upto_region 1 with fail
 rw[HW.out];refine Run.start 5 ?_;refine .mv .o ?_;refine .len (.i 0) Tryz.underlying25 ?_;refine .fa .o (fM0 0) ?_;refine .ld (.i 2) (ldInt b3 0) ?_;refine .two (.i 1) (.i 3) (opNe (by simp:decide ((r:Int)≠(r:Int))=false)) ?_;refine .donep [some 8,some 9,some 10,some 11,some 12] ?_;intro w2 B2;refine sh [] ?_;simp only[Act.put,lS,lZ,lC];have B0:=zup HZ.out B2;replace b3:=b3.below B2;clear B2 HZ HW;go_upto_region 3 with fail
 refine Run.start 5 ?_;refine .fa .o (fM0 0) ?_;refine .ld (.i 0) (ldInt b3 0) ?_;refine .mv .o ?_;refine .bd3 .o (.i 1) (.i 2) (v1:=.int .i64 1) (fun w=>k_i) ?_;refine .al ?_;refine .donep [some 13,some 14,some 15,some 16,some 7] ?_;intro w3 B3;rintro g7 hg7 hl7 hc7 -;refine sh [_] ?_;simp only[Act.put,lS,lZ,lC];have b7:=zeroM hc7;have hs3:=B0.size;have hl_b3:=b3.lt;replace B0:=zup B0 B3;replace b3:=b3.below B3;clear B3 hc7;obtain⟨w4,hw4⟩:∃x,mput w3 g7 1 (r:Int) B r cx=x:=⟨_,rfl⟩;obtain⟨f0_,f1_,f2_,f3_,f4_,f5_,f6_⟩:=b7.m3;replace b3:=b3.mo (g:=g7) (r:=1) (c:=(r:Int)) (A:=B) (n:=r) (d:=cx) (by omega);rw[hw4]at b3;replace B0:=a_j (g:=g7) (r:=1) (c:=(r:Int)) (A:=B) (n:=r) (d:=cx) B0 (by omega);rw[hw4]at B0;replace b7:=b7.mp (g:=g7) (r:=1) (c:=(r:Int)) (A:=B) (n:=r) (d:=cx);rw[hw4]at b7;have Hw4:=Lib.hid hw4;unfold mput at Hw4;clear hw4;go_upto_region 4 with fail
 rw[Hw4.out];clear f0_ f1_ f2_ f3_ f4_ f5_ f6_ Hw4;refine Run.start 6 ?_;refine .ld .o (ldM b7 0) ?_;refine .ld .o (ldM b3 0) ?_;refine .c2 (.i 0) (.i 1) (x:=kZs (kx+k+r) (mk 1 c fun i j=>dot (fun i j=>ith xs (i*r+j)) F i j r)) (by rintro u v w5 hB rfl rfl;exact q_8 (r:=1) (HX.out.below (zup B0 hB)) (HM.out.below (zup B0 hB)) rfl (by omega)) ?_;refine .mv .o ?_;refine .c2 (.i 2) (.i 3) (x:=.k (.bool true)) (by
   rintro u v w5 hB ⟨A8,n8,d8,rfl,hz8⟩ rfl;obtain rfl:n8=c:=by
    have:=hz8.len;rw[a_1]at this;omega
   exact k_j hz8 (HV.out.below (zup B0 hB)) (by omega) (by omega) (by omega) fun j hj=>by
    have h1:=g_m (r:=1) (i:=0) (F:=fun i j=>dot (fun i j=>ith xs (i*r+j)) F i j r) (by decide) hj;rw[Nat.zero_mul,Nat.zero_add]at h1;rw[h1,HE.out j hj,e_p];exact DT.sum_ext fun l _=>by rw[Nat.zero_mul,Nat.zero_add]) ?_
 refine .mv (.i 4) ?_;refine .donep [some 17,some 18,some 19,some 20,some 21,some 6] ?_;intro w5 B5;rintro v19 -;refine sh [] ?_;simp only[Act.put,lS,lZ,lC]
 go_wp2_with fail
 exact bodyPost_ret (v:=.bool true) (by simp[results,Tryz.results35,go_sem]) rfl (b_k rfl (zup B0 B5))
end
end Go.Proofs.YtfhbdlegkdbmfaaGreat
