/- Pb26 -/
import Derived.Test.YtlgjjnmmepgafaaPb25
import Derived.Test.YtlgjjnmmepgafaaPb11
import Derived.Deep.QuietTactic
import Derived.BigQuiet
set_option linter.unusedVariables false
set_option linter.unusedSimpArgs false
set_option linter.unusedSectionVars false
set_option maxRecDepth 100000
set_option maxHeartbeats 8000000
namespace Go.Proofs.Ytlgjjnmmepgafaa
section
open Go.RowKit
def DmPost (q r:Nat)(w:World)(e:Ending)(w':World):Prop:=
 ∃A c A' c',e= .returned (.tuple #[.slice A (cn 18446744073709551616 q).length c,.slice A' (cn 18446744073709551616 r).length c',.bool true])/\Got w w' 81 .u64 A c (cn 18446744073709551616 q)/\Got w w' 81 .u64 A' c' (cn 18446744073709551616 r)
theorem h_0 (xs:List Nat):(xs.take (sl xs)).length=sl xs:=by simp[Nat.min_eq_left (a_3 xs)]
theorem Nv.trim {w:World}{A:Option Addr}{n c v:Nat}(h:Nv w A n c v):∃xs,Rd w .u64 A xs/\xs.length=n/\n<=c/\c<=9223372036854775807/\Low 18446744073709551616 xs/\Nv w A (sl xs) c v/\sl xs<=n/\(v=0↔sl xs=0)/\
  Rd w .u64 A (xs.take (sl xs))/\(xs.take (sl xs)).length=sl xs/\Low 18446744073709551616 (xs.take (sl xs))/\ev 18446744073709551616 (xs.take (sl xs))=v/\sl xs=(cn 18446744073709551616 v).length:=by
 obtain⟨xs,h1,h2,h3,h4,h5,rfl⟩:=h;have hs:sl xs<=n:=h2 ▸ a_3 xs;refine⟨xs,h1,h2,h3,h4,h5,⟨_,h1.take (sl xs),h_0 xs,by omega,h4,h5.take _,a_m _ _⟩,hs, ?_,h1.take _,h_0 xs,h5.take _,a_m _ _,c_i _ (by omega) h5⟩;rw[c_i _ (by omega) h5];exact(c_w _ _ (by omega)).symm
theorem Got.on {w w1 w':World}{t:TypeId}{K:IntKind}{A:Option Addr}{c:Nat}{zs:List Nat}(h:Got w w1 t K A c zs)(hb:Below w1.heap.size w1 w'):Got w w' t K A c zs:=by
 obtain⟨A',c',e,g⟩:=(OwnV.below (w0:=w) (v:=.slice A zs.length c) h hb).form;injection e with e1 e2 e3
 subst e1 e3;exact g
theorem f_r {A B:Option Addr}{n m c d x y:Nat}{w:World}(hx:Nv w A n c x)(hy:Nv w B m d y)(hn:n<=549755813888)(hm:m<=549755813888)(h:0<y):
  Calls Try.prog 104 #[.slice A n c,.slice B m d] w (DmPost (x / y) (x%y) w):=by
 obtain⟨xs,x1,x2,x3,x4,x5,x6,x7,x8,x9,x10,x11,x12,x13⟩:=hx.trim;obtain⟨ys,y1,y2,y3,y4,y5,y6,y7,y8,y9,y10,y11,y12,y13⟩:=hy.trim;have hs0:0<sl ys:=by
  rcases Nat.eq_zero_or_pos (sl ys)with h0|h0
  ·have:=y8.2 h0;omega
  ·exact h0
 obtain⟨l,hl⟩:∃l,sl ys=l+1:=⟨sl ys - 1,by omega⟩;have htop:=g_a hs0;rw[hl,Nat.add_sub_cancel,<-c_q (n:=sl ys) (by omega)]at htop;have hlt:sl xs<sl ys->x<y:=fun h0=>by rw[x13,y13]at h0;exact g_m _ _ _ (by omega) h0
 have X2:=Lib.hid x2;have Y2:=Lib.hid y2;have X10:=Lib.hid x10;have Y10:=Lib.hid y10;have X12:=Lib.hid x12;have Y12:=Lib.hid y12;have HL:=Lib.hid hl;have HLT:=Lib.hid hlt;have HT:=Lib.hid htop;have sx:sl xs<=n:=x7;clear x2 y2 x8 y8 x10 y10 x12 y12 x13 y13 hlt hl htop;generalize xs.take (sl xs)=us at *;generalize ys.take (sl ys)=vs at *;generalize hsx:sl xs=p at *;generalize hsy:sl ys=q at *;have HSX:=Lib.hid hsx;have HSY:=Lib.hid hsy;clear hsx hsy;by_cases h1:q=1
 ·subst h1;obtain⟨ae,rfl,_,c1⟩:=y9.at (k:=0) (by rw[Y10.out];omega);have w1:=y11.any (by omega) 0;have hv:ev 18446744073709551616 vs=nth vs 0:=by
   have:=a_d 18446744073709551616 vs 0;rw[a_1,Nat.zero_add,show(1:Nat)=vs.length from Y10.out.symm,a_8]at this;simpa using this
  have hv2:nth vs 0=y:=by rw[<-hv,Y12.out]
  rw[hv2]at c1 w1;have ez:ae.add 0=ae:=by unfold Addr.add;simp
  rw[ez]at c1;clear hv hv2 ez;go_enter Try.func104,Try.ntmps104
  go_wp2_with fail
  refine(a_0 _ _ _ xs _ x1 X2.out x3 x4 x5 (by omega)).mono ?_;rintro e w' ⟨rfl,rfl⟩;rw[HSX.out]
  go_wp2_with fail
  refine(a_0 _ _ _ ys _ y1 Y2.out y3 y4 y5 (by omega)).mono ?_;rintro e w' ⟨rfl,rfl⟩;rw[HSY.out]
  go_wp2_with fail
  refine(g_v _ _ _ us y _ x9 X10.out (by omega) x11 h w1).mono ?_;rw[X12.out];rintro e w2 ⟨A2,c2,rfl,G2⟩;have hr:=Nat.mod_lt x h;clear c1
  go_wp2_with fail
  refine(d_6 (x%y) (by omega) _).mono ?_;rintro e w3 ⟨A3,c3,rfl,G3⟩;have P:Hid (DmPost (x / y) (x%y) w (.returned (.tuple #[.slice A2 (cn 18446744073709551616 (x / y)).length c2,.slice A3 (cn 18446744073709551616 (x%y)).length c3,.bool true])) w3):=
   Lib.hid ⟨A2,c2,A3,c3,rfl,Got.on G2 G3.2,G3.up G2.2⟩
  clear G2 G3
  go_wp2_with fail
  go_ret3
  exact P.out
 ·have q1:((q:Int)==0)=false:=by rw[beq_eq_false_iff_ne];omega
  have q2:((q:Int)==1)=false:=by rw[beq_eq_false_iff_ne];omega
  have q3:2<=q:=by omega
  clear h1;by_cases h2:p<q
  ·have hxy:=HLT.out h2;have hdiv:x / y=0:=Nat.div_eq_of_lt hxy;have hmod:x%y=x:=Nat.mod_eq_of_lt hxy;rw[hdiv,hmod];clear hdiv hmod;go_enter Try.func104,Try.ntmps104
   go_wp2_with fail
   refine(a_0 _ _ _ xs _ x1 X2.out x3 x4 x5 (by omega)).mono ?_;rintro e w' ⟨rfl,rfl⟩;rw[HSX.out]
   go_wp2_with fail
   refine(a_0 _ _ _ ys _ y1 Y2.out y3 y4 y5 (by omega)).mono ?_;rintro e w' ⟨rfl,rfl⟩;rw[HSY.out]
   go_wp2_with fail
   refine(d_o _ _ _ us _ x9 X10.out (by omega) (by omega) x11 (by omega)).mono ?_;rw[X12.out];rintro e w2 ⟨A2,c2,rfl,G2⟩;have P:Hid (DmPost 0 x w (.returned (.tuple #[.slice none 0 0,.slice A2 (cn 18446744073709551616 x).length c2,.bool true])) w2):=
    Lib.hid ⟨none,0,A2,c2,rfl,Got.nil' _ _ G2.2,G2⟩
   clear G2
   go_wp2_with fail
   go_ret3
   exact P.out
  ·go_enter Try.func104,Try.ntmps104
   go_wp2_with fail
   refine(a_0 _ _ _ xs _ x1 X2.out x3 x4 x5 (by omega)).mono ?_;rintro e w' ⟨rfl,rfl⟩;rw[HSX.out]
   go_wp2_with fail
   refine(a_0 _ _ _ ys _ y1 Y2.out y3 y4 y5 (by omega)).mono ?_;rintro e w' ⟨rfl,rfl⟩;rw[HSY.out]
   go_wp2_with fail
   refine(f_x _ _ p q _ _ l us vs _ x9 y9 X10.out Y10.out HL.out q3 (by omega) (by omega) (by omega) (by omega) (by omega) x11 y11 HT.out (by omega)).mono ?_;rw[X12.out,Y12.out];rintro e w2 ⟨A2,c2,A3,c3,rfl,G2,G3⟩;have P:Hid (DmPost (x / y) (x%y) w (.returned (.tuple #[.slice A2 (cn 18446744073709551616 (x / y)).length c2,.slice A3 (cn 18446744073709551616 (x%y)).length c3,.bool true])) w2):=
    Lib.hid ⟨A2,c2,A3,c3,rfl,G2,G3⟩
   clear G2 G3
   go_wp2_with fail
   go_ret3
   exact P.out
theorem h_o {A B:Option Addr}{n m c d x y:Nat}{w:World}(hx:Nv w A n c x)(hy:Nv w B m d y)(hn:n<=549755813888)(hm:m<=549755813888)(h:0<y)(h0:x%y=0):
  Calls Try.prog 108 #[.slice A n c,.slice B m d] w (TwoPost (x / y) w):=by
 have H0:=Lib.hid h0;clear h0;go_enter Try.func108,Try.ntmps108
 go_wp2_with fail
 refine(f_r hx hy hn hm h).mono ?_;rw[H0.out];rintro e w2 ⟨A2,c2,A3,c3,rfl,G2,G3⟩;have P:Hid (TwoPost (x / y) w (.returned (.tuple #[.slice A2 (cn 18446744073709551616 (x / y)).length c2,.bool true])) w2):=Lib.hid ⟨A2,c2,rfl,G2⟩;clear G2 G3;rw[show(cn 18446744073709551616 0).length=0 from rfl]
 go_wp2_with fail
 go_ret2
 exact P.out
theorem Got.cv {w w':World}{A:Option Addr}{c v:Nat}(h:Got w w' 81 .u64 A c (cn 18446744073709551616 v)):Cv w' A (cn 18446744073709551616 v).length c v:=by
 have hc:=h.cap;exact⟨h.rd,rfl,hc.1,by have:=hc.2;unfold maxLen at this;omega⟩
theorem d_t {x y n:Nat}(h:x<18446744073709551616^n):x / y<18446744073709551616^n:=Nat.lt_of_le_of_lt (Nat.div_le_self _ _) h
def TwoCv (v k:Nat)(w:World)(e:Ending)(w':World):Prop:=
 ∃A n c,e= .returned (.tuple #[.slice A n c,.bool true])/\Cv w' A n c v/\n<=k/\Below w.heap.size w w'
theorem TwoPost.cv {v k:Nat}{w w':World}{e:Ending}(h:TwoPost v w e w')(hk:v<18446744073709551616^k):TwoCv v k w e w':=by
 obtain⟨A,c,rfl,hg⟩:=h;exact⟨A,_,c,rfl,hg.cv,a_f _ _ _ (by omega) hk,hg.2⟩
theorem p_s {A B:Option Addr}{n m c d x y:Nat}{w:World}(hx:Nv w A n c x)(hy:Nv w B m d y)(hn:n<=549755813888)(hm:m<=549755813888)(h:0<y)(h0:x%y=0):
  Calls Try.prog 108 #[.slice A n c,.slice B m d] w (TwoCv (x / y) n w):=
 (h_o hx hy hn hm h h0).mono fun _ _ k=>k.cv (d_t hx.lt)
end
end Go.Proofs.Ytlgjjnmmepgafaa
section
namespace Go.Proofs.Ytlgjjnmmepgafaa
open Go.RowKit
theorem k_0 {s t:Bool}{X Y:Nat}{x y q:Int}(ex:x=sg s X)(ey:y=sg t Y)(h0:0<Y)(hq:q*y=x):X%Y=0/\sg (!(s==t)) (X / Y)=q:=by
 have e1:q.natAbs*Y=X:=by
  have:=congrArg Int.natAbs hq;rwa [Int.natAbs_mul,ex,ey,h_4,h_4]at this
 have e2:X / Y=q.natAbs:=by rw[<-e1];exact Nat.mul_div_cancel _ h0
 refine⟨by rw[<-e1];exact Nat.mul_mod_left _ _, ?_⟩;have e3:sg (!(s==t)) (X / Y)*y=q*y:=by
  have h1:=n_l (!(s==t)) t (X / Y) Y;have h2:X / Y*Y=X:=by rw[e2,e1]
  rw[h2]at h1;rw[hq,ey,<-h1,ex];cases s<;>cases t<;>rfl
 have hy:y≠0:=by rw[ey];cases t<;>simp[sg]<;>omega
 exact Int.eq_of_mul_eq_mul_right hy e3
theorem i_w {A B:Option Addr}{n m c d:Nat}{s t:Bool}{x y q:Int}{w:World}(hx:Zv w s A n c x)(hy:Zv w t B m d y)(hn:n<=549755813888)(hm:m<=549755813888)(h0:y≠0)(hq:q*y=x):
  Calls Try.prog 99 #[.agg #[.bool s,.slice A n c],.agg #[.bool t,.slice B m d]] w (ZPowPost q n w):=by
 obtain⟨w3,hw3,IA,IB,IR,z0⟩:=open3 w s t A B n c m d;obtain⟨hx1,ex⟩:=hx.up z0;obtain⟨hy1,ey⟩:=hy.up z0;have hY:0<y.natAbs:=by omega
 obtain⟨hmod,hs⟩:=k_0 ex.out ey.out hY hq;generalize x.natAbs=X at *;generalize y.natAbs=Y at *;obtain⟨b,hb⟩:∃b,(!(s==t))=b:=⟨_,rfl⟩;rw[hb]at hs;have HZ:=Lib.hid z0;have HS:=Lib.hid hs;have HW:=Lib.hid hw3.symm;have HM:=Lib.hid hmod;have HA:=Lib.hid IA;have HB:=Lib.hid IB;have HR:=Lib.hid IR;clear hx hy ex ey hs z0 hw3 IR h0 hq hmod;obtain⟨a1,a2,a3,a4,a5⟩:=IA;obtain⟨b1,b2,b3,b4,b5⟩:=IB;go_enter Try.func99,Try.ntmps99
 go_wp2_with fail
 rw[HW.out];refine(p_s hx1 hy1 hn hm hY HM.out).mono ?_;rintro e w4 ⟨A4,n4,c4,rfl,p4,k4,B4⟩;obtain⟨u1,u2,_⟩:=HA.out.below B4;obtain⟨u3,u4,_⟩:=HB.out.below B4;clear a1 a2 a3 a4 a5 b1 b2 b3 b4 b5 hx1 hy1
 go_wp2_with fail
 refine(b_v p4).mono ?_;rintro e w5 ⟨s5,A5,n5,c5,rfl,p5,k5,B5⟩;have Q5:=zup B4 B5;rw[HS.out]at p5;obtain⟨r1,r2,r3,r4,r5⟩:=HR.out.below Q5;have P:=Lib.hid (zfin2 p5 ⟨r1,r2,r3,r4,r5⟩ (k:=n) (by omega) (by omega) (zup HZ.out Q5));clear p4 p5 B4 B5 Q5 k4 k5 u1 u2 u3 u4
 go_wp2_with fail
 exact bodyPost_ret (v:=.tuple #[.agg #[.bool s5,.slice A5 n5 c5],.bool true]) (by simp[results,Try.results99,go_sem,r1,r2]) rfl P.out
end Go.Proofs.Ytlgjjnmmepgafaa
namespace Go.Proofs.Ytlgjjnmmepgafaa
open Go.RowKit
end Go.Proofs.Ytlgjjnmmepgafaa
end
