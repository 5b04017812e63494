/- Pc23 -/
import Derived.Test.YtfhbdlegkdbmfaaGreatPc22
set_option linter.unusedVariables false
set_option linter.unusedSimpArgs false
set_option linter.unusedSectionVars false
set_option maxRecDepth 100000
set_option maxHeartbeats 8000000
namespace Go.Proofs.YtfhbdlegkdbmfaaGreat
open Go.RowKit
def GoRel (w:World)(base h u m G N g:Nat)(wr:World):Prop:=WayAt wr base h u m G N g/\Below base w wr
def GoMid (w:World)(base h u m G N g:Nat)(wx:World):Prop:=WayMid wx base h u m G N g/\Below base w wx
def WayEnd (w:World)(base h u m G N:Nat):Prop:=
 ∃(n ga gb gx gy x y:Nat) (t:Bool),Wy w h (.slice (some ⟨ga,0,none⟩) n N) (.slice (some ⟨gb,0,none⟩) n N) (.slice (some ⟨gx,0,none⟩) N N) (.slice (some ⟨gy,0,none⟩) N N) t/\
  Cv w (some ⟨ga,0,none⟩) n N G/\Nv w (some ⟨gx,0,none⟩) N N x/\Nv w (some ⟨gy,0,none⟩) N N y/\n<=N/\Hid (G*y=m)/\Hid ((m:Int)∣(G:Int) - sgt t*x*u)
theorem Four.cva {w:World}{base N n ga gb gx gy a b x y:Nat}{La Lb Lx Ly:List Nat}(f:Four w base N n ga gb gx gy La Lb Lx Ly a b x y)(ht:n=0\/nth La (n - 1)≠0):Cv w (some ⟨ga,0,none⟩) n N a:=by
 have hlen:(La.take n).length=n:=by have:=f.la;have:=f.hn;simp;omega
 have hs:sl (La.take n)=n:=by
  refine j_7 (fun j hj=>c_c (by omega)) ?_;rcases ht with h|h
  ·exact .inl h
  ·rcases Nat.eq_zero_or_pos n with h0|h0
   ·exact .inl h0
   ·rw[b_n (by omega)];exact .inr h
 have e:=j_i 18446744073709551616 (by omega) (La.take n) (f.wa.2.take n);rw[hs,List.take_take,Nat.min_self,f.va]at e;refine⟨by rw[e];exact f.wa.1.rd0.take n,by rw[e];exact hlen,f.hn,by have:=f.hN;omega⟩
theorem WayAt.fin {w:World}{base h u m G N n ga gb gx gy a x y:Nat}{La Lb Lx Ly:List Nat}{t:Bool}(hW:Wy w h (.slice (some ⟨ga,0,none⟩) n N) (.slice (some ⟨gb,0,none⟩) n N) (.slice (some ⟨gx,0,none⟩) N N) (.slice (some ⟨gy,0,none⟩) N N) t)
  (f:Four w base N n ga gb gx gy La Lb Lx Ly a 0 x y) (M:Wm u m G a 0 x y t) (ht:n=0\/nth La (n - 1)≠0):WayEnd w base h u m G N:=by
 have hg:=M.g;rw[Nat.gcd_zero_right]at hg;subst hg;exact⟨n,ga,gb,gx,gy,x,y,t,hW,f.cva ht,f.nvx,f.nvy,f.hn,Lib.hid (by have:=M.s;omega),Lib.hid M.ca⟩
def GoPost (w:World)(base h u m G N:Nat)(e:Ending)(w':World):Prop:=e= .returned (.tuple #[])/\WayEnd w' base h u m G N/\Below base w w'
theorem p_3 {w w':World}{base N n ga gb gx gy a b x y D1 D2:Nat}{La Lb Lx Ly:List Nat}{e:Ending}(f:Four w base N n ga gb gx gy La Lb Lx Ly a b x y)(h:TkPost w base ga gb n D1 D2 La Lb e w'):
  e= .returned (.tuple #[])/\(∃La' Lb',Four w' base N n ga gb gx gy La' Lb' Lx Ly D1 D2 x y)/\Tch (Tk2 w ga gb) w w':=by
 obtain⟨us1,us2,rfl,l1,l2,e1,e2,W1,W2,B,T⟩:=h;have hla:=f.la;have hlb:=f.lb;have hn:=f.hn;have zx:=f.wx.1.lt;have zy:=f.wy.1.lt;refine⟨rfl,⟨_,_,⟨f.dab,f.dax,f.day,f.dbx,f.dby,f.dxy,f.ba,f.bb,f.bx,f.bY,by simp;omega,by simp;omega,f.lx,f.ly,f.hn,f.hN,W1,W2,
  f.wx.tch T fun j _ hs=>hs.elim (fun e=>f.dax e.symm) fun hs=>hs.elim (fun e=>f.dbx e.symm) fun e=>by simp only at e;omega,
  f.wy.tch T fun j _ hs=>hs.elim (fun e=>f.day e.symm) fun hs=>hs.elim (fun e=>f.dby e.symm) fun e=>by simp only at e;omega, ?_, ?_,f.vx,f.vy⟩⟩,T⟩
 ·rw[d_i l1];exact e1.out
 ·rw[d_i l2];exact e2.out
theorem p_2 {w w':World}{base N n ga gb gx gy a b x y D1 D2:Nat}{La Lb Lx Ly:List Nat}{e:Ending}(f:Four w base N n ga gb gx gy La Lb Lx Ly a b x y)(h:TkPost w base gx gy N D1 D2 Lx Ly e w'):
  e= .returned (.tuple #[])/\(∃Lx' Ly',Four w' base N n ga gb gx gy La Lb Lx' Ly' a b D1 D2)/\Tch (Tk2 w gx gy) w w':=by
 obtain⟨us1,us2,rfl,l1,l2,e1,e2,W1,W2,B,T⟩:=h;have hlx:=f.lx;have hly:=f.ly;have za:=f.wa.1.lt;have zb:=f.wb.1.lt;rw[List.drop_of_length_le (by omega),List.append_nil]at W1 W2;refine⟨rfl,⟨_,_,⟨f.dab,f.dax,f.day,f.dbx,f.dby,f.dxy,f.ba,f.bb,f.bx,f.bY,f.la,f.lb,l1,l2,f.hn,f.hN,
  f.wa.tch T fun j _ hs=>hs.elim (fun e=>f.dax e) fun hs=>hs.elim (fun e=>f.day e) fun e=>by simp only at e;omega,
  f.wb.tch T fun j _ hs=>hs.elim (fun e=>f.dbx e) fun hs=>hs.elim (fun e=>f.dby e) fun e=>by simp only at e;omega,W1,W2,f.va,f.vb,e1.out,e2.out⟩⟩,T⟩
theorem Wy.tk {w w':World}{h g1 g2:Nat}{A B X Y:Value}{t:Bool}(k:Wy w h A B X Y t)(ht:Tch (Tk2 w g1 g2) w w')(h1:h≠g1)(h2:h≠g2):Wy w' h A B X Y t:=
 k.tch ht fun a ha hs=>by
  have:=k.lt;rcases hs with e|e|e
  ·exact h1 (ha.symm.trans e)
  ·exact h2 (ha.symm.trans e)
  ·omega
theorem r_o (w:World):Wb (w.alloc (.cells #[.int .u64 0,.int .u64 0,.int .u64 0,.int .u64 0] 162)).drew w.heap.size 162 [0,0,0,0]:=
 ⟨(c_5 w 0 0 0 0).drew,low4 (by omega) (by omega) (by omega) (by omega)⟩
def GoCut (w:World)(base h N n ga gb gx gy a b x y:Nat)(La Lb Lx Ly:List Nat)(t:Bool)(v2:Value)(wx:World):Prop:=
 ∃(j p q r s:Nat),v2= .pointer (some ⟨j,0,none⟩)/\base<=j/\j≠ga/\j≠gb/\j≠gx/\j≠gy/\Wb wx j 162 [p,q,r,s]/\1<=p/\1<=s/\Hid (Jok a b p q r s)/\
  Wy wx h (.slice (some ⟨ga,0,none⟩) n N) (.slice (some ⟨gb,0,none⟩) n N) (.slice (some ⟨gx,0,none⟩) N N) (.slice (some ⟨gy,0,none⟩) N N) t/\Four wx base N n ga gb gx gy La Lb Lx Ly a b x y/\Below base w wx
theorem GoCut.a {w wr w4:World}{base h N n ga gb gx gy a b x y p q r s:Nat}{La Lb Lx Ly:List Nat}{t:Bool}(hW:Wy wr h (.slice (some ⟨ga,0,none⟩) n N) (.slice (some ⟨gb,0,none⟩) n N) (.slice (some ⟨gx,0,none⟩) N N) (.slice (some ⟨gy,0,none⟩) N N) t)
  (f:Four wr base N n ga gb gx gy La Lb Lx Ly a b x y) (hB:Below base w wr) (hbr:base<=wr.heap.size) (hQ:Below wr.heap.size wr w4) (hp:p<18446744073709551616) (hq:q<18446744073709551616) (hr:r<18446744073709551616) (hs:s<18446744073709551616) (hp1:1<=p) (hs1:1<=s) (hJ:Jok a b p q r s):
  GoCut w base h N n ga gb gx gy a b x y La Lb Lx Ly t (.pointer (some ⟨w4.heap.size,0,none⟩)) (w4.alloc (.cells #[.int .u64 p,.int .u64 q,.int .u64 r,.int .u64 s] 162)):=by
 have Q5:=zup hQ (zb0 w4 (.cells #[.int .u64 p,.int .u64 q,.int .u64 r,.int .u64 s] 162));have z:=hQ.size;have za:=f.wa.1.lt;have zb:=f.wb.1.lt;have zx:=f.wx.1.lt;have zy:=f.wy.1.lt;exact⟨w4.heap.size,p,q,r,s,rfl,by omega,by omega,by omega,by omega,by omega,⟨c_5 w4 p q r s,low4 hp hq hr hs⟩,hp1,hs1,Lib.hid hJ,hW.below Q5,f.below Q5,hB.trans (Q5.mono hbr)⟩
theorem GoCut.b {w wr w4:World}{base h N n ga gb gx gy a b x y p q r s:Nat}{La Lb Lx Ly:List Nat}{t:Bool}(hW:Wy wr h (.slice (some ⟨ga,0,none⟩) n N) (.slice (some ⟨gb,0,none⟩) n N) (.slice (some ⟨gx,0,none⟩) N N) (.slice (some ⟨gy,0,none⟩) N N) t)
  (f:Four wr base N n ga gb gx gy La Lb Lx Ly a b x y) (hB:Below base w wr) (hbr:base<=wr.heap.size) (hQ:Below wr.heap.size wr w4) (hp:p<18446744073709551616) (hq:q<18446744073709551616) (hr:r<18446744073709551616) (hs:s<18446744073709551616) (hp1:1<=p) (hs1:1<=s) (hJ:Jok a b p q r s)
  (J4:Wb w4 wr.heap.size 162 [0,0,0,0]):
  GoCut w base h N n ga gb gx gy a b x y La Lb Lx Ly t (.pointer (some ⟨wr.heap.size,0,none⟩)) ((((w4.setCell ⟨wr.heap.size,0,none⟩ (.int .u64 (p:Int))).setCell ⟨wr.heap.size,1,none⟩ (.int .u64 (q:Int))).setCell ⟨wr.heap.size,2,none⟩ (.int .u64 (r:Int))).setCell ⟨wr.heap.size,3,none⟩ (.int .u64 (s:Int))):=by
 obtain⟨X,T⟩:=d_7 J4 hp hq hr hs;have z:=hQ.size;have Q5:=hQ.trans (T.below (B:=wr.heap.size) z fun a h=>by rw[h];exact Nat.le_refl _);have za:=f.wa.1.lt;have zb:=f.wb.1.lt;have zx:=f.wx.1.lt;have zy:=f.wy.1.lt;exact⟨wr.heap.size,p,q,r,s,rfl,by omega,by omega,by omega,by omega,by omega,X,hp1,hs1,Lib.hid hJ,hW.below Q5,f.below Q5,hB.trans (Q5.mono hbr)⟩
theorem g_3 (w:World)(base h u m G N g0:Nat)(hb:base<=w.heap.size)(hm:m<18446744073709551616^N)(P:WayAt w base h u m G N g0):
  Calls Tryz.prog 212 #[.pointer (some ⟨h,0,none⟩)] w (GoPost w base h u m G N):=by
 have HM0:=Lib.hid hm;have HP:=Lib.hid P;clear hm P;go_enter Tryz.func212,Tryz.ntmps212
 go_wp2_with fail
 go_loopg [] g0 (fun g wr=>GoRel w base h u m G N g wr)
 case atStart=>exact⟨HP.out,Below.refl _ _⟩
 case round=>
  clear HP;obtain⟨⟨n,ga,gb,gx,gy,a,b,x,y,La,Lb,Lx,Ly,t,hW,hH,f,M,hle,htop,hsum⟩,hB⟩:=hrel;have HW:=Lib.hid hW;have HF:=Lib.hid f;have HM:=Lib.hid M;have HLE:=Lib.hid hle;have HTOP:=Lib.hid htop;have HSUM:=Lib.hid hsum;have HB:=Lib.hid hB;have hbr:base<=wr.heap.size:=by have:=hB.size;omega
  have hN:=f.hN;have hn:=f.hn;have nvb:=f.nvb;obtain⟨B,hBl⟩:∃B,bl b=B:=⟨_,rfl⟩;have HBL:=Lib.hid hBl;obtain⟨c0,c1,c2,c3,c4,_⟩:=hW.cells;clear hW f M hle htop hsum hB;rcases Nat.eq_zero_or_pos b with rfl|h0
  ·obtain rfl:B=0:=by rw[<-hBl];rfl
   clear hBl;have P:Hid (GoPost w base h u m G N (.returned (.tuple #[])) wr):=Lib.hid ⟨rfl,WayAt.fin HW.out HF.out HM.out HTOP.out,HB.out⟩
   go_wp2_with fail
   refine(c_9 nvb (by omega) HBL.out).mono ?_;rintro e w2 ⟨rfl,rfl⟩;clear nvb
   go_wp2_with fail
   go_end0
   exact P.out
  ·have hB0:0<B:=by rw[<-hBl];exact bl_lt.2 (by simpa using h0)
   clear hBl;have hn0:0<n:=by
    rcases Nat.eq_zero_or_pos n with h|h
    ·have:=nvb.lt;rw[h]at this;omega
    ·exact h
   have htn':nth (La.take n) (n - 1)≠0:=by
    rw[b_n (by omega)];rcases HTOP.out with h|h
    ·omega
    ·exact h
   have htn:=Lib.hid htn';clear htn';have hla:Hid ((La.take n).length=n):=Lib.hid (by have:=HF.out.la;simp;omega);have hlb:Hid ((Lb.take n).length=n):=Lib.hid (by have:=HF.out.lb;simp;omega);have lowa:=HF.out.wa.2.take n;have lowb:=HF.out.wb.2.take n;have HEV:Hid (ev 18446744073709551616 (Lb.take n)<=ev 18446744073709551616 (La.take n)):=Lib.hid (by rw[HF.out.va,HF.out.vb];exact HLE.out);have ra:=HF.out.wa.1.rd0.take n;have rb:=HF.out.wb.1.rd0.take n
   go_wp2_with fail
   refine(c_9 nvb (by omega) HBL.out).mono ?_;rintro e w2 ⟨rfl,rfl⟩;clear nvb;go_upto_region 1 with fail
   go_cut [2] (GoCut w base h N n ga gb gx gy a b x y La Lb Lx Ly t)
   case first=>
    have hlt:=HW.out.lt;have hnr:¬(wr.heap.size=h):=by omega
    have hnr':¬(h=wr.heap.size):=by omega
    go_region_held3 (fun w'=>w'.cell? ⟨h,0,none⟩=some (.slice (some ⟨ga,0,none⟩) n N)/\w'.cell? ⟨h,1,none⟩=some (.slice (some ⟨gb,0,none⟩) n N)) (go_keep) (first
     |(go_at_call 150;(with_reducible refine(g_q _ _ n N N (La.take n) (Lb.take n) _ (ra.below (a_a _)) (rb.below (a_a _)) hla.out hlb.out lowa lowb hn0 htn.out HEV.out (by omega)).mono ?_);rintro e w4 ⟨p,q,r,s,rfl,hp,hq,hr,hs,hp1,hs1,hJ,B4⟩;have Q4:=zup (a_a _) B4;have hl4:=(HW.out.below Q4).lt;have hn4:¬(w4.heap.size=h):=(by omega);have hn4':¬(h=w4.heap.size):=(by omega);obtain⟨d0,d1,d2,d3,d4,_⟩:=(HW.out.below Q4).cells)
     |(go_at_call 150;(with_reducible refine(g_q _ _ n N N (La.take n) (Lb.take n) _ (ra.below (zbd _ _)) (rb.below (zbd _ _)) hla.out hlb.out lowa lowb hn0 htn.out HEV.out (by omega)).mono ?_);rintro e w4 ⟨p,q,r,s,rfl,hp,hq,hr,hs,hp1,hs1,hJ,B4⟩;have Q4:=zup (zbd _ _) B4;have J4:=(r_o _).below B4;obtain⟨z0,z1,z2,z3,_,_,_,_,k0,k1,k2,k3⟩:=wb4 J4;have hl4:=(HW.out.below Q4).lt;have hn4:¬(w4.heap.size=h):=(by omega);have hn4':¬(h=w4.heap.size):=(by omega);obtain⟨d0,d1,d2,d3,d4,_⟩:=(HW.out.below Q4).cells)
     |fail)
    all_goals
     have HJ:Jok a b p q r s:=by
      have:=hJ.out;rwa [HF.out.va,HF.out.vb]at this
     first
      |have P:=Lib.hid (GoCut.b HW.out HF.out HB.out hbr Q4 hp hq hr hs hp1 hs1 HJ J4)
      |have P:=Lib.hid (GoCut.a (t:=t) HW.out HF.out HB.out hbr Q4 hp hq hr hs hp1 hs1 HJ)
     clear HJ
     go_wp2_with fail
     go_meet
     exact P.out
   case rest=>
    clear HW HF HB ra rb HEV hla hlb htn lowa lowb c0 c1 c2 c3 c4;obtain⟨j,p,q,r,s,rfl,hj0,hja,hjb,hjx,hjy,WJ,hp1,hs1,hJ,hW,f,hB⟩:=hcut;obtain⟨j0,j1,j2,j3,bp,bq,br,bs,_⟩:=wb4 WJ;have HWJ:=Lib.hid WJ;have HW:=Lib.hid hW;have HF:=Lib.hid f;have HB:=Lib.hid hB;have hbc:base<=wc.heap.size:=by have:=hB.size;omega
    obtain⟨bb,hbb⟩:∃bb,((q:Int)==0)=bb:=⟨_,rfl⟩;have HBB:=Lib.hid hbb;clear hbb WJ hW f hB
    go_wp2_with fail
    refine(j_a p q r s HBB.out _).mono ?_;rintro e w5 ⟨rfl,B5⟩;have HWJ5:=Lib.hid (HWJ.out.below B5);have HW5:=Lib.hid (HW.out.below B5);have HF5:=Lib.hid (HF.out.below B5);have HB5:=Lib.hid (HB.out.trans (B5.mono hbc));have hb5:base<=w5.heap.size:=by have:=B5.size;omega
    clear B5 HWJ HW HF HB hbc j0 j1 j2 j3;go_upto_if 19 with fail
    go_cut [] (GoMid w base h u m G N gk)
    case first=>
     cases bb
     ·have hq1:¬q=0:=by
       have:=HBB.out;rw[beq_eq_false_iff_ne]at this;omega
      obtain⟨D1,D2,e1,e2,e3,e4,e5⟩:=hJ.out;have hc:=e5.resolve_left hq1;have M2:=HM.out.jump e1 e2 e3 e4;obtain⟨bd1,bd2⟩:=M2.bound hc;have hless:=k_2 e3 e4 (show 1<=q by omega) hp1 hs1 h0;have lta:=HF5.out.nva.lt;have ltb:=HF5.out.nvb.lt;have F1:D1<18446744073709551616^n:=by
       have:=Nat.le_mul_of_pos_left D1 hs1;omega
      have F2:D2<18446744073709551616^n:=by
       have:=Nat.le_mul_of_pos_left D2 hp1;omega
      have G1:Hid (x*p+y*q<18446744073709551616^N):=Lib.hid (by have:=HM0.out;omega);have G2:Hid (y*s+x*r<18446744073709551616^N):=Lib.hid (by have:=HM0.out;omega);have HE1:Hid (pre 18446744073709551616 La n*p=pre 18446744073709551616 Lb n*q+D1):=Lib.hid (by unfold pre;rw[HF5.out.va,HF5.out.vb];exact e1);have HE2:Hid (pre 18446744073709551616 Lb n*s=pre 18446744073709551616 La n*r+D2):=Lib.hid (by unfold pre;rw[HF5.out.va,HF5.out.vb];exact e2);have HM2:=Lib.hid M2;have HLS:Hid (D1+D2<gk):=Lib.hid (by rw[<-HSUM.out];exact hless);have HF1:=Lib.hid F1;have HF2:=Lib.hid F2;clear e1 e2 e3 e4 e5 hc M2 bd1 bd2 hless lta ltb F1 F2;obtain⟨c0,c1,c2,c3,c4,_⟩:=HW5.out.cells;obtain⟨j0,j1,j2,j3,_⟩:=wb4 HWJ5.out
      go_wp2_with fail
      go_still_tail 9,(by kernel_rfl)
      change wpList _ _ _ _ _ w5.drew;obtain⟨w6,hw6⟩:∃w6,w6=w5.drew:=⟨_,rfl⟩;have D6:Below w5.heap.size w5 w6:=by rw[hw6];exact a_a _
      rw[<-hw6];have HW6:=Lib.hid (HW5.out.below D6);have HF6:=Lib.hid (HF5.out.below D6);have HWJ6:=Lib.hid (HWJ5.out.below D6);have HB6:=Lib.hid (HB5.out.trans (D6.mono hb5));have hb6:base<=w6.heap.size:=by have:=D6.size;omega
      clear hw6 D6 c0 c1 c2 c3 c4 j0 j1 j2 j3 HW5 HF5 HWJ5 HB5 hb5
      go_wp2_with fail
      refine(h_j w6 base ga gb n N N p q r s D1 D2 La Lb HF6.out.wa HF6.out.wb HF6.out.dab HF6.out.ba HF6.out.bb (by rw[HF6.out.la];exact hn) (by rw[HF6.out.lb];exact hn) (by omega) bp bq br bs HE1.out HF1.out HE2.out HF2.out).mono ?_;intro e w7 P7;obtain⟨he7,⟨La',Lb',F7⟩,T7⟩:=p_3 HF6.out P7;subst he7;have W7:=HW6.out.tk T7 hH.ha hH.hb;have zj:=HWJ6.out.1.lt;have WJ7:=HWJ6.out.tch T7 fun i _ hs=>hs.elim (fun e=>hja e) fun hs=>hs.elim (fun e=>hjb e) fun e=>by simp only at e;omega
      have HW7:=Lib.hid W7;have HF7:=Lib.hid F7;have HWJ7:=Lib.hid WJ7;have HB7:Hid (Below base w w7):=Lib.hid (HB6.out.trans (by obtain⟨_,_,_,_,_,_,_,_,_,B,_⟩:=P7;exact B));have hb7:base<=w7.heap.size:=by have:=T7.size;omega
      obtain⟨c0,c1,c2,c3,c4,_⟩:=W7.cells;obtain⟨j0,j1,j2,j3,_⟩:=wb4 WJ7;clear P7 F7 T7 W7 WJ7 zj HW6 HF6 HWJ6 HB6 hb6 HE1 HE2 HF1 HF2
      go_wp2_with fail
      go_still_tail 9,(by kernel_rfl)
      change wpList _ _ _ _ _ w7.drew;obtain⟨w8,hw8⟩:∃w8,w8=w7.drew:=⟨_,rfl⟩;have D8:Below w7.heap.size w7 w8:=by rw[hw8];exact a_a _
      rw[<-hw8];have HW8:=Lib.hid (HW7.out.below D8);have HF8:=Lib.hid (HF7.out.below D8);have HB8:=Lib.hid (HB7.out.trans (D8.mono hb7));have HX1:Hid (pre 18446744073709551616 Lx N*p+pre 18446744073709551616 Ly N*q=x*p+y*q):=Lib.hid (by rw[b_a (xs:=Lx) (k:=N) _ (by have:=HF8.out.lx;omega),b_a (xs:=Ly) (k:=N) _ (by have:=HF8.out.ly;omega),HF8.out.vx,HF8.out.vy]);have HX2:Hid (pre 18446744073709551616 Ly N*s+pre 18446744073709551616 Lx N*r=y*s+x*r):=Lib.hid (by rw[b_a (xs:=Lx) (k:=N) _ (by have:=HF8.out.lx;omega),b_a (xs:=Ly) (k:=N) _ (by have:=HF8.out.ly;omega),HF8.out.vx,HF8.out.vy]);clear hw8 D8 c0 c1 c2 c3 c4 j0 j1 j2 j3 HW7 HF7 HWJ7 HB7 hb7
      go_wp2_with fail
      refine(h_k w8 base gx gy N N N p q r s (x*p+y*q) (y*s+x*r) Lx Ly HF8.out.wx HF8.out.wy HF8.out.dxy HF8.out.bx HF8.out.bY (by rw[HF8.out.lx];exact Nat.le_refl _) (by rw[HF8.out.ly];exact Nat.le_refl _) (by omega) bp bq br bs HX1.out G1.out HX2.out G2.out).mono ?_;intro e w9 P9;obtain⟨he9,⟨Lx',Ly',F9⟩,T9⟩:=p_2 HF8.out P9;subst he9;have P:Hid (GoMid w base h u m G N gk w9):=Lib.hid ⟨⟨n,ga,gb,gx,gy,D1,D2,x*p+y*q,y*s+x*r,_,_,Lx',Ly',t,HW8.out.tk T9 hH.hx hH.hy,hH,F9,HM2.out,HLS.out⟩,HB8.out.trans (by obtain⟨_,_,_,_,_,_,_,_,_,B,_⟩:=P9;exact B)⟩;clear P9 F9 T9
      go_wp2_with fail
      go_meet
      exact P.out
     ·go_wp2_with fail
      refine(g_z w5 base h u m G N n ga gb gx gy a b x y La Lb Lx Ly t HW5.out hH HF5.out HM.out HLE.out h0 HM0.out).mono ?_;rintro e w6 ⟨rfl,hmid,hbl⟩;rw[HSUM.out]at hmid;have P:Hid (GoMid w base h u m G N gk w6):=Lib.hid ⟨hmid,HB5.out.trans hbl⟩;clear hmid hbl
      go_wp2_with fail
      go_meet
      exact P.out
    case rest=>
     clear HWJ5 HW5 HF5 HB5 hb5 hJ HBB;obtain⟨hmid,hB⟩:=hcut;have hbc:base<=wc.heap.size:=by have:=hB.size;omega
     have HMID:=Lib.hid hmid;have HBC:=Lib.hid hB;clear hmid hB
     go_wp2_with fail
     refine(f_7 wc base h u m G N gk hbc HMID.out).mono ?_;rintro e w6 ⟨rfl,g',hg',hat,hbl⟩;have HAT:=Lib.hid hat;have HBL2:=Lib.hid (HBC.out.trans hbl);have HG:=Lib.hid hg';clear hat hbl hg'
     go_wp2_with fail
     go_roundg g'
     case rel=>exact⟨HAT.out,HBL2.out⟩
     case measure=>exact HG.out
end Go.Proofs.YtfhbdlegkdbmfaaGreat
