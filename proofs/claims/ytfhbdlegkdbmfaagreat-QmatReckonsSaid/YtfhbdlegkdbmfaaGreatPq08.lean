/- Pq08 -/
import Derived.Test.YtfhbdlegkdbmfaaGreatPq07
import Derived.Test.YtfhbdlegkdbmfaaGreatPq05
import Derived.Deep.QuietTactic
import Derived.BigQuiet
import Derived.StillTailTactics
import Derived.BigRegion
set_option linter.unusedVariables false
set_option linter.unusedSimpArgs false
set_option linter.unusedSectionVars false
set_option maxRecDepth 100000
set_option maxHeartbeats 8000000
namespace Go.Proofs.YtfhbdlegkdbmfaaGreat
section
open Go.RowKit
def DmPost (q r:Nat)(w:World)(e:Ending)(w':World):Prop:=
 ∃A c A' c',e= .returned (.tuple #[.slice A (cn 18446744073709551616 q).length c,.slice A' (cn 18446744073709551616 r).length c',.bool true])/\Got w w' 85 .u64 A c (cn 18446744073709551616 q)/\Got w w' 85 .u64 A' c' (cn 18446744073709551616 r)
theorem h_4 (xs:List Nat):(xs.take (sl xs)).length=sl xs:=by simp[Nat.min_eq_left (b_o xs)]
theorem Nv.trim {w:World}{A:Option Addr}{n c v:Nat}(h:Nv w A n c v):∃xs,Rd w .u64 A xs/\xs.length=n/\n<=c/\c<=9223372036854775807/\Low 18446744073709551616 xs/\Nv w A (sl xs) c v/\sl xs<=n/\(v=0↔sl xs=0)/\
  Rd w .u64 A (xs.take (sl xs))/\(xs.take (sl xs)).length=sl xs/\Low 18446744073709551616 (xs.take (sl xs))/\ev 18446744073709551616 (xs.take (sl xs))=v/\sl xs=(cn 18446744073709551616 v).length:=by
 obtain⟨xs,h1,h2,h3,h4,h5,rfl⟩:=h;have hs:sl xs<=n:=h2 ▸ b_o xs;refine⟨xs,h1,h2,h3,h4,h5,⟨_,h1.take (sl xs),h_4 xs,by omega,h4,h5.take _,a_v _ _⟩,hs, ?_,h1.take _,h_4 xs,h5.take _,a_v _ _,c_5 _ (by omega) h5⟩;rw[c_5 _ (by omega) h5];exact(d_a _ _ (by omega)).symm
theorem Got.on {w w1 w':World}{t:TypeId}{K:IntKind}{A:Option Addr}{c:Nat}{zs:List Nat}(h:Got w w1 t K A c zs)(hb:Below w1.heap.size w1 w'):Got w w' t K A c zs:=by
 obtain⟨A',c',e,g⟩:=(OwnV.below (w0:=w) (v:=.slice A zs.length c) h hb).form;injection e with e1 e2 e3
 subst e1 e3;exact g
theorem p_6 {A B:Option Addr}{n m c d x:Nat}{w:World}(hx:Nv w A n c x)(hy:Nv w B m d 0)(hn:n<=549755813888)(hm:m<=549755813888):
  Calls Tryz.prog 148 #[.slice A n c,.slice B m d] w fun e w'=>e= .returned (.tuple #[.slice none 0 0,.slice none 0 0,.bool false])/\w=w':=by
 obtain⟨xs,x1,x2,x3,x4,x5,x6,x7,x8,-⟩:=hx.trim;obtain⟨ys,y1,y2,y3,y4,y5,y6,y7,y8,-⟩:=hy.trim;have h0:=Lib.hid (y8.1 rfl);have X2:=Lib.hid x2;have Y2:=Lib.hid y2;clear x2 y2 x8 y8 x6 y6;go_enter Tryz.func148,Tryz.ntmps148
 go_wp2_with fail
 refine(a_u _ _ _ xs _ x1 X2.out x3 x4 x5 (by omega)).mono ?_;rintro e w' ⟨rfl,rfl⟩
 go_wp2_with fail
 refine(a_u _ _ _ ys _ y1 Y2.out y3 y4 y5 (by omega)).mono ?_;rintro e w' ⟨rfl,rfl⟩;rw[h0.out]
 go_wp2
 go_ret3
 exact⟨rfl,rfl⟩
theorem f_7 {A B:Option Addr}{n m c d x y:Nat}{w:World}(hx:Nv w A n c x)(hy:Nv w B m d y)(hn:n<=549755813888)(hm:m<=549755813888)(h:0<y):
  Calls Tryz.prog 148 #[.slice A n c,.slice B m d] w (DmPost (x / y) (x%y) w):=by
 obtain⟨xs,x1,x2,x3,x4,x5,x6,x7,x8,x9,x10,x11,x12,x13⟩:=hx.trim;obtain⟨ys,y1,y2,y3,y4,y5,y6,y7,y8,y9,y10,y11,y12,y13⟩:=hy.trim;have hs0:0<sl ys:=by
  rcases Nat.eq_zero_or_pos (sl ys)with h0|h0
  ·have:=y8.2 h0;omega
  ·exact h0
 obtain⟨l,hl⟩:∃l,sl ys=l+1:=⟨sl ys - 1,by omega⟩;have htop:=f_k hs0;rw[hl,Nat.add_sub_cancel,<-c_p (n:=sl ys) (by omega)]at htop;have hlt:sl xs<sl ys->x<y:=fun h0=>by rw[x13,y13]at h0;exact j_1 _ _ _ (by omega) h0
 have X2:=Lib.hid x2;have Y2:=Lib.hid y2;have X10:=Lib.hid x10;have Y10:=Lib.hid y10;have X12:=Lib.hid x12;have Y12:=Lib.hid y12;have HL:=Lib.hid hl;have HLT:=Lib.hid hlt;have HT:=Lib.hid htop;have sx:sl xs<=n:=x7;clear x2 y2 x8 y8 x10 y10 x12 y12 x13 y13 hlt hl htop;generalize xs.take (sl xs)=us at *;generalize ys.take (sl ys)=vs at *;generalize hsx:sl xs=p at *;generalize hsy:sl ys=q at *;have HSX:=Lib.hid hsx;have HSY:=Lib.hid hsy;clear hsx hsy;by_cases h1:q=1
 ·subst h1;obtain⟨ae,rfl,_,c1⟩:=y9.at (k:=0) (by rw[Y10.out];omega);have w1:=y11.any (by omega) 0;have hv:ev 18446744073709551616 vs=nth vs 0:=by
   have:=a_f 18446744073709551616 vs 0;rw[b_r,Nat.zero_add,show(1:Nat)=vs.length from Y10.out.symm,b_p]at this;simpa using this
  have hv2:nth vs 0=y:=by rw[<-hv,Y12.out]
  rw[hv2]at c1 w1;have ez:ae.add 0=ae:=by unfold Addr.add;simp
  rw[ez]at c1;clear hv hv2 ez;go_enter Tryz.func148,Tryz.ntmps148
  go_wp2_with fail
  refine(a_u _ _ _ xs _ x1 X2.out x3 x4 x5 (by omega)).mono ?_;rintro e w' ⟨rfl,rfl⟩;rw[HSX.out]
  go_wp2_with fail
  refine(a_u _ _ _ ys _ y1 Y2.out y3 y4 y5 (by omega)).mono ?_;rintro e w' ⟨rfl,rfl⟩;rw[HSY.out]
  go_wp2_with fail
  refine(f_s _ _ _ us y _ x9 X10.out (by omega) x11 h w1).mono ?_;rw[X12.out];rintro e w2 ⟨A2,c2,rfl,G2⟩;have hr:=Nat.mod_lt x h;clear c1
  go_wp2_with fail
  refine(f_1 (x%y) (by omega) _).mono ?_;rintro e w3 ⟨A3,c3,rfl,G3⟩;have P:Hid (DmPost (x / y) (x%y) w (.returned (.tuple #[.slice A2 (cn 18446744073709551616 (x / y)).length c2,.slice A3 (cn 18446744073709551616 (x%y)).length c3,.bool true])) w3):=
   Lib.hid ⟨A2,c2,A3,c3,rfl,Got.on G2 G3.2,G3.up G2.2⟩
  clear G2 G3
  go_wp2_with fail
  go_ret3
  exact P.out
 ·have q1:((q:Int)==0)=false:=by rw[beq_eq_false_iff_ne];omega
  have q2:((q:Int)==1)=false:=by rw[beq_eq_false_iff_ne];omega
  have q3:2<=q:=by omega
  clear h1;by_cases h2:p<q
  ·have hxy:=HLT.out h2;have hdiv:x / y=0:=Nat.div_eq_of_lt hxy;have hmod:x%y=x:=Nat.mod_eq_of_lt hxy;rw[hdiv,hmod];clear hdiv hmod;go_enter Tryz.func148,Tryz.ntmps148
   go_wp2_with fail
   refine(a_u _ _ _ xs _ x1 X2.out x3 x4 x5 (by omega)).mono ?_;rintro e w' ⟨rfl,rfl⟩;rw[HSX.out]
   go_wp2_with fail
   refine(a_u _ _ _ ys _ y1 Y2.out y3 y4 y5 (by omega)).mono ?_;rintro e w' ⟨rfl,rfl⟩;rw[HSY.out]
   go_wp2_with fail
   refine(e_7 _ _ _ us _ x9 X10.out (by omega) (by omega) x11 (by omega)).mono ?_;rw[X12.out];rintro e w2 ⟨A2,c2,rfl,G2⟩;have P:Hid (DmPost 0 x w (.returned (.tuple #[.slice none 0 0,.slice A2 (cn 18446744073709551616 x).length c2,.bool true])) w2):=
    Lib.hid ⟨none,0,A2,c2,rfl,Got.nil' _ _ G2.2,G2⟩
   clear G2
   go_wp2_with fail
   go_ret3
   exact P.out
  ·go_enter Tryz.func148,Tryz.ntmps148
   go_wp2_with fail
   refine(a_u _ _ _ xs _ x1 X2.out x3 x4 x5 (by omega)).mono ?_;rintro e w' ⟨rfl,rfl⟩;rw[HSX.out]
   go_wp2_with fail
   refine(a_u _ _ _ ys _ y1 Y2.out y3 y4 y5 (by omega)).mono ?_;rintro e w' ⟨rfl,rfl⟩;rw[HSY.out]
   go_wp2_with fail
   refine(i_y _ _ p q _ _ l us vs _ x9 y9 X10.out Y10.out HL.out q3 (by omega) (by omega) (by omega) (by omega) (by omega) x11 y11 HT.out (by omega)).mono ?_;rw[X12.out,Y12.out];rintro e w2 ⟨A2,c2,A3,c3,rfl,G2,G3⟩;have P:Hid (DmPost (x / y) (x%y) w (.returned (.tuple #[.slice A2 (cn 18446744073709551616 (x / y)).length c2,.slice A3 (cn 18446744073709551616 (x%y)).length c3,.bool true])) w2):=
    Lib.hid ⟨A2,c2,A3,c3,rfl,G2,G3⟩
   clear G2 G3
   go_wp2_with fail
   go_ret3
   exact P.out
def NoPost (w:World)(e:Ending)(w':World):Prop:=e= .returned (.tuple #[.slice none 0 0,.bool false])/\Below w.heap.size w w'
theorem j_0 {A B:Option Addr}{n m c d x y:Nat}{w:World}(hx:Nv w A n c x)(hy:Nv w B m d y)(hn:n<=549755813888)(hm:m<=549755813888)(h:0<y):
  Calls Tryz.prog 116 #[.slice A n c,.slice B m d] w (TwoPost (x%y) w):=by
 go_enter Tryz.func116,Tryz.ntmps116
 go_wp2_with fail
 refine(f_7 hx hy hn hm h).mono ?_;rintro e w2 ⟨A2,c2,A3,c3,rfl,G2,G3⟩;have P:Hid (TwoPost (x%y) w (.returned (.tuple #[.slice A3 (cn 18446744073709551616 (x%y)).length c3,.bool true])) w2):=Lib.hid ⟨A3,c3,rfl,G3⟩;clear G2 G3
 go_wp2_with fail
 go_ret2
 exact P.out
theorem s_c {A B:Option Addr}{n m c d x:Nat}{w:World}(hx:Nv w A n c x)(hy:Nv w B m d 0)(hn:n<=549755813888)(hm:m<=549755813888):
  Calls Tryz.prog 116 #[.slice A n c,.slice B m d] w (NoPost w):=by
 go_enter Tryz.func116,Tryz.ntmps116
 go_wp2_with fail
 refine(p_6 hx hy hn hm).mono ?_;rintro e w2 ⟨rfl,rfl⟩
 go_wp2_with fail
 go_ret2
 exact⟨rfl,Below.refl _ _⟩
theorem l_j {A B:Option Addr}{n m c d x y:Nat}{w:World}(hx:Nv w A n c x)(hy:Nv w B m d y)(hn:n<=549755813888)(hm:m<=549755813888)(h:0<y)(h0:x%y=0):
  Calls Tryz.prog 147 #[.slice A n c,.slice B m d] w (TwoPost (x / y) w):=by
 have H0:=Lib.hid h0;clear h0;go_enter Tryz.func147,Tryz.ntmps147
 go_wp2_with fail
 refine(f_7 hx hy hn hm h).mono ?_;rw[H0.out];rintro e w2 ⟨A2,c2,A3,c3,rfl,G2,G3⟩;have P:Hid (TwoPost (x / y) w (.returned (.tuple #[.slice A2 (cn 18446744073709551616 (x / y)).length c2,.bool true])) w2):=Lib.hid ⟨A2,c2,rfl,G2⟩;clear G2 G3;rw[show(cn 18446744073709551616 0).length=0 from rfl]
 go_wp2_with fail
 go_ret2
 exact P.out
theorem s_x {A B:Option Addr}{n m c d x y:Nat}{w:World}(hx:Nv w A n c x)(hy:Nv w B m d y)(hn:n<=549755813888)(hm:m<=549755813888)(h:0<y)(h0:x%y≠0):
  Calls Tryz.prog 147 #[.slice A n c,.slice B m d] w (NoPost w):=by
 have hl:0<(cn 18446744073709551616 (x%y)).length:=by
  rcases Nat.eq_zero_or_pos (cn 18446744073709551616 (x%y)).length with h1|h1
  ·exact absurd ((d_a _ _ (by omega)).1 h1) h0
  ·exact h1
 clear h0;go_enter Tryz.func147,Tryz.ntmps147
 go_wp2_with fail
 refine(f_7 hx hy hn hm h).mono ?_;rintro e w2 ⟨A2,c2,A3,c3,rfl,G2,G3⟩;have B2:=G2.2;clear G2 G3;generalize(cn 18446744073709551616 (x%y)).length=k at *
 go_wp2_with fail
 go_ret2
 exact⟨rfl,B2⟩
theorem h_q {A B:Option Addr}{n m c d x:Nat}{w:World}(hx:Nv w A n c x)(hy:Nv w B m d 0)(hn:n<=549755813888)(hm:m<=549755813888):
  Calls Tryz.prog 147 #[.slice A n c,.slice B m d] w (NoPost w):=by
 go_enter Tryz.func147,Tryz.ntmps147
 go_wp2_with fail
 refine(p_6 hx hy hn hm).mono ?_;rintro e w2 ⟨rfl,rfl⟩
 go_wp2_with fail
 go_ret2
 exact⟨rfl,Below.refl _ _⟩
def SmPost (v x:Nat)(w:World)(e:Ending)(w':World):Prop:=
 ∃A c,e= .returned (.tuple #[.slice A (cn 18446744073709551616 (v / x)).length c,.int .u64 ((v%x:Nat):Int),.bool true])/\Got w w' 85 .u64 A c (cn 18446744073709551616 (v / x))
theorem k_o {A:Option Addr}{n c v x:Nat}{w:World}(hx:Nv w A n c v)(hn:n<=549755813888)(h:0<x)(hx2:x<18446744073709551616):
  Calls Tryz.prog 119 #[.slice A n c,.int .u64 x] w (SmPost v x w):=by
 obtain⟨xs,x1,x2,x3,x4,x5,x6,x7,x8,x9,x10,x11,x12,x13⟩:=hx.trim;have X2:=Lib.hid x2;have X10:=Lib.hid x10;have X12:=Lib.hid x12;have q1:((x:Int)==0)=false:=by rw[beq_eq_false_iff_ne];omega
 clear x2 x8 x10 x12 x13;generalize xs.take (sl xs)=us at *;generalize hsx:sl xs=p at *;have HSX:=Lib.hid hsx;clear hsx;go_enter Tryz.func119,Tryz.ntmps119
 go_wp2_with fail
 refine(a_u _ _ _ xs _ x1 X2.out x3 x4 x5 (by omega)).mono ?_;rintro e w' ⟨rfl,rfl⟩;rw[HSX.out]
 go_wp2_with fail
 refine(f_s _ _ _ us x _ x9 X10.out (by omega) x11 h hx2).mono ?_;rw[X12.out];rintro e w2 ⟨A2,c2,rfl,G2⟩;have P:Hid (SmPost v x w (.returned (.tuple #[.slice A2 (cn 18446744073709551616 (v / x)).length c2,.int .u64 ((v%x:Nat):Int),.bool true])) w2):=Lib.hid ⟨A2,c2,rfl,G2⟩;clear G2
 go_wp2_with fail
 go_ret3
 exact P.out
theorem Got.cv {w w':World}{A:Option Addr}{c v:Nat}(h:Got w w' 85 .u64 A c (cn 18446744073709551616 v)):Cv w' A (cn 18446744073709551616 v).length c v:=by
 have hc:=h.cap;exact⟨h.rd,rfl,hc.1,by have:=hc.2;unfold maxLen at this;omega⟩
def DmCv (q r kq kr:Nat)(w:World)(e:Ending)(w':World):Prop:=
 ∃A n c A' n' c',e= .returned (.tuple #[.slice A n c,.slice A' n' c',.bool true])/\Cv w' A n c q/\Cv w' A' n' c' r/\n<=kq/\n'<=kr/\Below w.heap.size w w'
theorem h_r {x y n:Nat}(h:x<18446744073709551616^n):x / y<18446744073709551616^n:=Nat.lt_of_le_of_lt (Nat.div_le_self _ _) h
theorem dm_v {A B:Option Addr}{n m c d x y:Nat}{w:World}(hx:Nv w A n c x)(hy:Nv w B m d y)(hn:n<=549755813888)(hm:m<=549755813888)(h:0<y):
  Calls Tryz.prog 148 #[.slice A n c,.slice B m d] w (DmCv (x / y) (x%y) n m w):=by
 have l1:=hx.lt;have l2:=hy.lt;refine(f_7 hx hy hn hm h).mono ?_;rintro e w' ⟨A2,c2,A3,c3,rfl,G2,G3⟩;exact⟨_,_,_,_,_,_,rfl,G2.cv,G3.cv,a_p _ _ _ (by omega) (h_r l1),a_p _ _ _ (by omega) (Nat.lt_trans (Nat.mod_lt _ h) l2),G2.2⟩
def TwoCv (v k:Nat)(w:World)(e:Ending)(w':World):Prop:=
 ∃A n c,e= .returned (.tuple #[.slice A n c,.bool true])/\Cv w' A n c v/\n<=k/\Below w.heap.size w w'
theorem TwoPost.cv {v k:Nat}{w w':World}{e:Ending}(h:TwoPost v w e w')(hk:v<18446744073709551616^k):TwoCv v k w e w':=by
 obtain⟨A,c,rfl,hg⟩:=h;exact⟨A,_,c,rfl,hg.cv,a_p _ _ _ (by omega) hk,hg.2⟩
theorem p_2 {A B:Option Addr}{n m c d x y:Nat}{w:World}(hx:Nv w A n c x)(hy:Nv w B m d y)(hn:n<=549755813888)(hm:m<=549755813888)(h:0<y)(h0:x%y=0):
  Calls Tryz.prog 147 #[.slice A n c,.slice B m d] w (TwoCv (x / y) n w):=
 (l_j hx hy hn hm h h0).mono fun _ _ k=>k.cv (h_r hx.lt)
theorem ofc_v (x:Nat)(hx:x<18446744073709551616)(w:World):Calls Tryz.prog 55 #[.int .u64 x] w (CvPost x 1 w):=
 (f_1 x hx w).mono fun _ _ ⟨A,c,he,hg⟩=>⟨A,_,c,he,hg.cv,a_p _ _ _ (by omega) (by omega),hg.2⟩
end
end Go.Proofs.YtfhbdlegkdbmfaaGreat
section
namespace Go.Proofs.YtfhbdlegkdbmfaaGreat
open Go.RowKit
theorem p_1 {s t:Bool}{X Y:Nat}{x y q:Int}(ex:x=sg s X)(ey:y=sg t Y)(h0:0<Y)(hq:q*y=x):X%Y=0/\sg (!(s==t)) (X / Y)=q:=by
 have e1:q.natAbs*Y=X:=by
  have:=congrArg Int.natAbs hq;rwa [Int.natAbs_mul,ex,ey,m_a,m_a]at this
 have e2:X / Y=q.natAbs:=by rw[<-e1];exact Nat.mul_div_cancel _ h0
 refine⟨by rw[<-e1];exact Nat.mul_mod_left _ _, ?_⟩;have e3:sg (!(s==t)) (X / Y)*y=q*y:=by
  have h1:=t_q (!(s==t)) t (X / Y) Y;have h2:X / Y*Y=X:=by rw[e2,e1]
  rw[h2]at h1;rw[hq,ey,<-h1,ex];cases s<;>cases t<;>rfl
 have hy:y≠0:=by rw[ey];cases t<;>simp[sg]<;>omega
 exact Int.eq_of_mul_eq_mul_right hy e3
theorem g_8 {A B:Option Addr}{n m c d:Nat}{s t:Bool}{x y q:Int}{w:World}(hx:Zv w s A n c x)(hy:Zv w t B m d y)(hn:n<=549755813888)(hm:m<=549755813888)(h0:y≠0)(hq:q*y=x):
  Calls Tryz.prog 113 #[.agg #[.bool s,.slice A n c],.agg #[.bool t,.slice B m d]] w (ZPowPost q n w):=by
 obtain⟨w3,hw3,IA,IB,IR,z0⟩:=open3 w s t A B n c m d;obtain⟨hx1,ex⟩:=hx.up z0;obtain⟨hy1,ey⟩:=hy.up z0;have hY:0<y.natAbs:=by omega
 obtain⟨hmod,hs⟩:=p_1 ex.out ey.out hY hq;generalize x.natAbs=X at *;generalize y.natAbs=Y at *;obtain⟨b,hb⟩:∃b,(!(s==t))=b:=⟨_,rfl⟩;rw[hb]at hs;have HZ:=Lib.hid z0;have HS:=Lib.hid hs;have HW:=Lib.hid hw3.symm;have HM:=Lib.hid hmod;have HA:=Lib.hid IA;have HB:=Lib.hid IB;have HR:=Lib.hid IR;clear hx hy ex ey hs z0 hw3 IR h0 hq hmod;obtain⟨a1,a2,a3,a4,a5⟩:=IA;obtain⟨b1,b2,b3,b4,b5⟩:=IB;go_enter Tryz.func113,Tryz.ntmps113
 go_wp2_with fail
 rw[HW.out];refine(p_2 hx1 hy1 hn hm hY HM.out).mono ?_;rintro e w4 ⟨A4,n4,c4,rfl,p4,k4,B4⟩;obtain⟨u1,u2,_⟩:=HA.out.below B4;obtain⟨u3,u4,_⟩:=HB.out.below B4;clear a1 a2 a3 a4 a5 b1 b2 b3 b4 b5 hx1 hy1
 go_wp2_with fail
 refine(c_o p4).mono ?_;rintro e w5 ⟨s5,A5,n5,c5,rfl,p5,k5,B5⟩;have Q5:=zup B4 B5;rw[HS.out]at p5;obtain⟨r1,r2,r3,r4,r5⟩:=HR.out.below Q5;have P:=Lib.hid (zfin2 p5 ⟨r1,r2,r3,r4,r5⟩ (k:=n) (by omega) (by omega) (zup HZ.out Q5));clear p4 p5 B4 B5 Q5 k4 k5 u1 u2 u3 u4
 go_wp2_with fail
 exact bodyPost_ret (v:=.tuple #[.agg #[.bool s5,.slice A5 n5 c5],.bool true]) (by simp[results,Tryz.results113,go_sem,r1,r2]) rfl P.out
theorem i_1 {A B:Option Addr}{n m c d:Nat}{s t:Bool}{x y:Int}{w:World}(hx:Zv w s A n c x)(hy:Zv w t B m d y)(hn:n<=549755813888)(hm:m<=549755813888)(h0:y=0\/x.natAbs%y.natAbs≠0):
  Calls Tryz.prog 113 #[.agg #[.bool s,.slice A n c],.agg #[.bool t,.slice B m d]] w (ZNoPost w):=by
 obtain⟨w3,hw3,IA,IB,IR,z0⟩:=open3 w s t A B n c m d;obtain⟨hx1,ex⟩:=hx.up z0;obtain⟨hy1,ey⟩:=hy.up z0;have C:∀w,Nv w A n c x.natAbs->Nv w B m d y.natAbs->Calls Tryz.prog 147 #[.slice A n c,.slice B m d] w (NoPost w):=fun w ha hb=>by
  by_cases h:y=0
  ·subst h;exact h_q ha hb hn hm
  ·rcases h0 with h0|h0
   ·exact absurd h0 h
   ·exact s_x ha hb hn hm (by omega) h0
 obtain⟨b,hb⟩:∃b,(!(s==t))=b:=⟨_,rfl⟩;have HC:=Lib.hid (C w3 hx1 hy1);have HZ:=Lib.hid z0;have HW:=Lib.hid hw3.symm;have HA:=Lib.hid IA;have HB:=Lib.hid IB;have HR:=Lib.hid IR;clear hx hy ex ey z0 hw3 IR h0 C hx1 hy1;obtain⟨a1,a2,a3,a4,a5⟩:=IA;obtain⟨b1,b2,b3,b4,b5⟩:=IB;go_enter Tryz.func113,Tryz.ntmps113
 go_wp2_with fail
 rw[HW.out];refine HC.out.mono ?_;rintro e w4 ⟨rfl,B4⟩;obtain⟨u1,u2,_⟩:=HA.out.below B4;obtain⟨u3,u4,_⟩:=HB.out.below B4;clear a1 a2 a3 a4 a5 b1 b2 b3 b4 b5
 go_wp2_with fail
 refine(f_l none 0 0 b false w4 (by simp)).mono ?_;rintro e w5 ⟨rfl,B5⟩;have Q5:=zup B4 B5;obtain⟨r1,r2,r3,r4,r5⟩:=HR.out.below Q5;have P:=Lib.hid (a_8 (zup HZ.out Q5) (g:=w.heap.size+1+1) (A:=none) (n:=0) (c:=0) (s:=false) (by omega));clear B4 B5 Q5 u1 u2 u3 u4
 go_wp2_with fail
 exact bodyPost_ret (v:=.tuple #[.agg #[.bool false,.slice none 0 0],.bool false]) (by simp[results,Tryz.results113,go_sem,r1,r2]) rfl ⟨rfl,P.out⟩
end Go.Proofs.YtfhbdlegkdbmfaaGreat
namespace Go.Proofs.YtfhbdlegkdbmfaaGreat
open Go.RowKit
end Go.Proofs.YtfhbdlegkdbmfaaGreat
end
namespace Go.Proofs.YtfhbdlegkdbmfaaGreat
section
open Go.RowKit
theorem m_n (x y:Nat)(hx:x<18446744073709551616)(hy:y<18446744073709551616)(w:World):
  Calls Tryz.prog 115 #[.int .u64 x,.int .u64 y] w fun e w'=>e= .returned (.int .u64 ((Nat.gcd x y:Nat):Int))/\Sees w w':=by
 obtain⟨g,hg⟩:∃g,g=Nat.gcd x y:=⟨_,rfl⟩;rw[<-hg];have HG:=Lib.hid hg.symm;clear hg;go_enter Tryz.func115,Tryz.ntmps115
 go_wp2
 go_loopg [0,1] y (fun k s0 s1 wr=>Sees w wr/\∃a:Nat,s0= .int .u64 (a:Int)/\s1= .int .u64 (k:Int)/\a<18446744073709551616/\k<18446744073709551616/\Hid (Nat.gcd a k=g))
 case atStart=>exact⟨Sees.refl _,x,rfl,rfl,hx,hy,HG⟩
 case round=>
  obtain⟨hs,a,rfl,rfl,ha,hk,hgcd⟩:=hrel;rcases Nat.eq_zero_or_pos gk with rfl|h0
  ·have hag:Hid (a=g):=Lib.hid (by rw[<-hgcd.out,Nat.gcd_zero_right])
   go_wp2
   go_ret
   exact⟨by rw[<-hag.out];rfl,hs⟩
  ·obtain⟨r,hr⟩:∃r,r=a%gk:=⟨_,rfl⟩;have e1:(a:Int)%(gk:Int)=(r:Int):=by rw[hr];rfl
   have e2:(a:Int).tmod (gk:Int)=(r:Int):=by rw[hr];rfl
   have hrk:r<gk:=by rw[hr];exact Nat.mod_lt _ h0
   have e3:IntKind.u64.wrap (r:Int)=(r:Int):=by rw[IntKind.wrap_u64];omega
   have b1:((gk:Int)==0)=false:=by rw[beq_eq_false_iff_ne];omega
   have b2:((gk:Int) != 0)=true:=by rw[bne_iff_ne];omega
   have b3:¬(gk=0):=by omega
   have hn:Hid (Nat.gcd gk r=g):=Lib.hid (by rw[<-hgcd.out,hr,Nat.gcd_comm a gk,Nat.gcd_comm gk (a%gk)];exact(Nat.gcd_rec gk a).symm);have hr2:r<18446744073709551616:=by omega
   have HRK:=Lib.hid hrk;clear hr hrk hgcd h0
   go_wp2
   go_quiet (fail)
   go_wp2
   go_roundg r
   case rel=>exact⟨hs.more _,gk,rfl,rfl,hk,hr2,hn⟩
   case measure=>exact HRK.out
def MaPost (v x y:Nat)(w:World)(e:Ending)(w':World):Prop:=
 ∃lo hi:Nat,e= .returned (.tuple #[.int .u64 (lo:Int),.int .u64 (hi:Int)])/\lo+18446744073709551616*hi=v*x+y/\lo<18446744073709551616/\hi<18446744073709551616/\w=w'
theorem n_w (v x y:Nat)(hv:v<18446744073709551616)(hx:x<18446744073709551616)(hy:y<18446744073709551616)(w:World):
  Calls Tryz.prog 219 #[.int .u64 v,.int .u64 x,.int .u64 y] w (MaPost v x y w):=by
 go_enter Tryz.func219,Tryz.ntmps219
 go_wp2_with fail
 refine(c_t _ _ hv hx _).mono ?_;rintro e w' ⟨hi,lo,rfl,h0,h1,h2,rfl⟩;obtain⟨s1,o1,f1,f2,f3,f4⟩:=c_x lo y h2 hy;have hsum:s1+18446744073709551616*(hi+o1)=v*x+y:=by omega
 have P:Hid (MaPost v x y w (.returned (.tuple #[.int .u64 (s1:Int),.int .u64 ((hi+o1:Nat):Int)])) w):=Lib.hid ⟨s1,hi+o1,rfl,hsum,f3,by omega,rfl⟩;clear h0 f2 hsum
 go_wp2_with fail
 go_ret2
 have:=P.out;simpa using this
theorem p_i (v x y:Nat)(hv:v<18446744073709551616)(hx:x<18446744073709551616)(hy:y<18446744073709551616):
  ∃lo hi:Nat,(∀w,Calls Tryz.prog 219 #[.int .u64 v,.int .u64 x,.int .u64 y] w fun e w'=>e= .returned (.tuple #[.int .u64 (lo:Int),.int .u64 (hi:Int)])/\w'=w)/\
   lo+18446744073709551616*hi=v*x+y/\lo<18446744073709551616/\hi<18446744073709551616:=by
 have h1:v*x<=18446744073709551615*18446744073709551615:=Nat.mul_le_mul (by omega) (by omega);refine⟨(v*x+y)%18446744073709551616,(v*x+y) / 18446744073709551616,fun w=>(n_w v x y hv hx hy w).mono ?_,by omega,by omega,by omega⟩;rintro e w' ⟨lo,hi,rfl,h2,h3,h4,rfl⟩;exact⟨by rw[<-h2,show(lo+18446744073709551616*hi)%18446744073709551616=lo by omega,show(lo+18446744073709551616*hi) / 18446744073709551616=hi by omega],rfl⟩
def NxPost (w:World)(h x y m l b v u:Nat)(e:Ending)(w':World):Prop:=
 ∃lo1 lo2 m' l':Nat,e= .returned (.tuple #[.int .u64 (lo1:Int),.int .u64 (lo2:Int)])/\lo1<18446744073709551616/\lo2<18446744073709551616/\Hid (lo1+18446744073709551616*m'=v*x+m)/\Hid (lo2+18446744073709551616*l'=u*y+l)/\m'<18446744073709551616/\l'<18446744073709551616/\
  Wb w' h 192 [x,y,m',l',b]/\Tch (fun a=>a.block=h) w w'/\w'.heap.size=w.heap.size
theorem n_s (w:World)(h x y m l b v u:Nat)(hb:Wb w h 192 [x,y,m,l,b])(hv:v<18446744073709551616)(hu:u<18446744073709551616):
  Calls Tryz.prog 209 #[.pointer (some ⟨h,0,none⟩),.int .u64 v,.int .u64 u] w (NxPost w h x y m l b v u):=by
 have c0:=hb.1.cell (j:=0) (by simp);have c1:=hb.1.cell (j:=1) (by simp);have c2:=hb.1.cell (j:=2) (by simp);have c3:=hb.1.cell (j:=3) (by simp);have f2:=hb.1.free 2;simp only[nth,List.getD_cons_zero,List.getD_cons_succ]at c0 c1 c2 c3;have x1:x<18446744073709551616:=hb.2 0 (by simp);have x2:y<18446744073709551616:=hb.2 1 (by simp);have x3:m<18446744073709551616:=hb.2 2 (by simp);have x4:l<18446744073709551616:=hb.2 3 (by simp);go_enter Tryz.func209,Tryz.ntmps209
 obtain⟨lo1,hi1,M1,E1,y1,y2⟩:=p_i v x m hv x1 x3;obtain⟨lo2,hi2,M2,E2,y3,y4⟩:=p_i u y l hu x2 x4;have HE1:=Lib.hid E1;have HE2:=Lib.hid E2;clear E1 E2
 go_wp2_with fail
 go_still_tail 17,(by kernel_rfl)
 still_call (M1 _)
 repeat still_step
 refine wpStill_nil ?_;change wpList _ _ _ _ _ w.drew;have B1:=a_l w;have W1:Wb w.drew h 192 [x,y,m,l,b]:=hb;have Z1:w.drew.heap.size=w.heap.size:=rfl;obtain⟨w1,hw1⟩:∃w1,w1=w.drew:=⟨_,rfl⟩;rw[<-hw1]at B1 W1 Z1 ⊢;have c2':=W1.1.cell (j:=2) (by simp);have f2':=W1.1.free 2;obtain⟨T2,W2⟩:=Tch.store (S:=fun a=>a.block=h) W1 2 y2 rfl;simp only[List.set_cons_succ,List.set_cons_zero]at W2;clear hw1 c0 c1 c2 c3 f2 hb;have HW1:=Lib.hid W1;have HW2:=Lib.hid W2;have HT2:=Lib.hid T2;have HB1:=Lib.hid B1;have HZ1:=Lib.hid Z1;clear W1 W2 T2 B1 Z1
 go_wp2_with fail
 obtain⟨w2,hw2⟩:∃w2,w2=w1.setCell ⟨h,2,none⟩ (.int .u64 (hi1:Int)):=⟨_,rfl⟩;have W2:=HW2.out;have T2:=HT2.out;have Z2:w2.heap.size=w.heap.size:=by rw[hw2,<-HZ1.out];simp
 rw[<-hw2]at W2 T2 ⊢;have d1:=W2.1.cell (j:=1) (by simp);have d3:=W2.1.cell (j:=3) (by simp);have f3:=W2.1.free 3;simp only[nth,List.getD_cons_zero,List.getD_cons_succ]at d1 d3;have HW3:=Lib.hid W2;have HT3:=Lib.hid T2;have HZ2:=Lib.hid Z2;clear hw2 W2 T2 Z2 HW2 HT2 c2' f2';go_still_tail 17,(by kernel_rfl)
 still_call (M2 _)
 repeat still_step
 refine wpStill_nil ?_;change wpList _ _ _ _ _ w2.drew;have B3:=a_l w2;have W3:Wb w2.drew h 192 [x,y,hi1,l,b]:=HW3.out;have Z3:w2.drew.heap.size=w2.heap.size:=rfl;obtain⟨w3,hw3⟩:∃w3,w3=w2.drew:=⟨_,rfl⟩;rw[<-hw3]at B3 W3 Z3 ⊢;have c3':=W3.1.cell (j:=3) (by simp);have f3':=W3.1.free 3;obtain⟨T4,W4⟩:=Tch.store (S:=fun a=>a.block=h) W3 3 y4 rfl;simp only[List.set_cons_succ,List.set_cons_zero]at W4;have HT:Hid (Tch (fun a=>a.block=h) w (w3.setCell ⟨h,3,none⟩ (.int .u64 (hi2:Int)))):=
  Lib.hid (((Tch.of_below _ HB1.out).trans HT3.out).trans ((Tch.of_below _ B3).trans T4))
 have HW4:=Lib.hid W4;have HZ4:Hid ((w3.setCell ⟨h,3,none⟩ (.int .u64 (hi2:Int))).heap.size=w.heap.size):=Lib.hid (by simp;rw[Z3,HZ2.out]);clear hw3 W3 Z3 W4 T4 B3 d1 d3 f3
 go_wp2_with fail
 go_ret2
 exact⟨lo1,lo2,hi1,hi2,rfl,y1,y3,HE1,HE2,y2,y4,HW4.out,HT.out,HZ4.out⟩
def DfPost (w:World)(h x y m l b v u:Nat)(e:Ending)(w':World):Prop:=
 ∃z m' l' b':Nat,e= .returned (.int .u64 (z:Int))/\z<18446744073709551616/\Hid (z+u*y+l+b+18446744073709551616*m'=v*x+m+18446744073709551616*(l'+b'))/\m'<18446744073709551616/\l'<18446744073709551616/\b'<=1/\
  Wb w' h 192 [x,y,m',l',b']/\Tch (fun a=>a.block=h) w w'/\w'.heap.size=w.heap.size
theorem h_s (w:World)(h x y m l b v u:Nat)(hb:Wb w h 192 [x,y,m,l,b])(hb1:b<=1)(hv:v<18446744073709551616)(hu:u<18446744073709551616):
  Calls Tryz.prog 185 #[.pointer (some ⟨h,0,none⟩),.int .u64 v,.int .u64 u] w (DfPost w h x y m l b v u):=by
 go_enter Tryz.func185,Tryz.ntmps185
 go_wp2_with fail
 refine(n_s w h x y m l b v u hb hv hu).mono ?_;rintro e w1 ⟨lo1,lo2,m',l',rfl,h1,h2,e1,e2,h3,h4,W1,T1,Z1⟩;obtain⟨z,o,s1,s2,s3,s4⟩:=c_3 lo1 lo2 b h1 h2 hb1;have HS:=Lib.hid s2;have c4:=W1.1.cell (j:=4) (by simp);have f4:=W1.1.free 4;simp only[nth,List.getD_cons_zero,List.getD_cons_succ]at c4;obtain⟨T2,W2⟩:=Tch.store (S:=fun a=>a.block=h) W1 4 (n:=o) (by omega) rfl;simp only[List.set_cons_succ,List.set_cons_zero]at W2;have hsum:Hid (z+u*y+l+b+18446744073709551616*m'=v*x+m+18446744073709551616*(l'+o)):=Lib.hid (by have e1:=e1.out;have e2:=e2.out;have e3:=HS.out;generalize v*x=P at*;generalize u*y=Q at*;omega);have HP:Hid (DfPost w h x y m l b v u (.returned (.int .u64 (z:Int))) (w1.setCell ⟨h,4,none⟩ (.int .u64 (o:Int)))):=Lib.hid ⟨z,m',l',o,rfl,s3,hsum,h3,h4,s4,W2,T1.trans T2,by simp;exact Z1⟩;clear s2 W1 W2 T1 T2 Z1 hb e1 e2 hsum HS
 go_wp2_with fail
 go_ret
 exact HP.out
end
section
open Go.RowKit
def Diffing (b:Nat)(xs ys us:List Nat)(x y k m l o:Nat):Prop:=
 us.length=k/\Low b us/\ev b us+pre b ys k*y+b^k*m=pre b xs k*x+b^k*(l+o)
theorem Diffing.start (b:Nat)(xs ys:List Nat)(x y:Nat):Diffing b xs ys [] x y 0 0 0 0:=⟨rfl,Low.nil b,by simp[ev,b_r]⟩
theorem Diffing.step {b:Nat}{xs ys us:List Nat}{x y k m l o z m' l' o':Nat}(h:Diffing b xs ys us x y k m l o)(hz:z<b)(he:z+nth ys k*y+l+o+b*m'=nth xs k*x+m+b*(l'+o')):
  Diffing b xs ys (us++[z]) x y (k+1) m' l' o':=by
 obtain⟨h1,h2,h3⟩:=h;refine⟨by simp[h1],h2.snoc hz, ?_⟩;rw[c_h,a_f,a_f,h1,Nat.pow_succ];generalize b^k=P at *;have e:P*z+P*nth ys k*y+P*(l+o)+P*b*m'=P*nth xs k*x+P*m+P*b*(l'+o'):=by
  have:=congrArg (P* ·) he;grind
 grind
theorem Diffing.stop {b:Nat}{xs ys us:List Nat}{x y k m l o D:Nat}(h:Diffing b xs ys us x y k m l o)(hb:0<b)(hD:pre b xs k*x=pre b ys k*y+D)(hD2:D<b^k):ev b us=D:=by
 obtain⟨h1,h2,h3⟩:=h;have h4:=c_y h2;rw[h1]at h4;rw[hD]at h3;have h5:ev b us+b^k*m=D+b^k*(l+o):=by omega
 have h6:=congrArg (· %b^k) h5;simp only[Nat.add_mul_mod_self_left]at h6;rwa [Nat.mod_eq_of_lt h4,Nat.mod_eq_of_lt hD2]at h6
def TkCut (w:World)(p q r s:Nat)(v6 v7:Value)(wx:World):Prop:=
 ∃h1 h2:Nat,v6= .pointer (some ⟨h1,0,none⟩)/\v7= .pointer (some ⟨h2,0,none⟩)/\h1≠h2/\w.heap.size<=h1/\w.heap.size<=h2/\Wb wx h1 192 [p,q,0,0,0]/\Wb wx h2 192 [s,r,0,0,0]/\Below w.heap.size w wx
theorem low5 {p q:Nat}(hp:p<18446744073709551616)(hq:q<18446744073709551616):Low 18446744073709551616 [p,q,0,0,0]:=
 ((((((Low.nil _).cons (x:=0) (by omega)).cons (x:=0) (by omega)).cons (x:=0) (by omega)).cons hq).cons hp)
theorem t_n (w:World)(p q:Nat):Blk (w.alloc (.cells #[.int .u64 p,.int .u64 q,.int .u64 0,.int .u64 0,.int .u64 0] 192)) w.heap.size 192 .u64 [p,q,0,0,0]:=heap_alloc_new w _
theorem tk_a {w:World}{p q r s:Nat}(o:Obj)(hp:p<18446744073709551616)(hq:q<18446744073709551616)(hr:r<18446744073709551616)(hs:s<18446744073709551616):
  TkCut w p q r s (.pointer (some ⟨w.heap.size+1,0,none⟩)) (.pointer (some ⟨w.heap.size+1+1,0,none⟩)) (((w.alloc o).alloc (.cells #[.int .u64 p,.int .u64 q,.int .u64 0,.int .u64 0,.int .u64 0] 192)).alloc (.cells #[.int .u64 s,.int .u64 r,.int .u64 0,.int .u64 0,.int .u64 0] 192)).drew:=by
 have e1:(w.alloc o).heap.size=w.heap.size+1:=by simp
 have e2:((w.alloc o).alloc (.cells #[.int .u64 p,.int .u64 q,.int .u64 0,.int .u64 0,.int .u64 0] 192)).heap.size=w.heap.size+1+1:=by simp
 have b1:=(t_n (w.alloc o) p q).alloc (.cells #[.int .u64 s,.int .u64 r,.int .u64 0,.int .u64 0,.int .u64 0] 192);have b2:=t_n ((w.alloc o).alloc (.cells #[.int .u64 p,.int .u64 q,.int .u64 0,.int .u64 0,.int .u64 0] 192)) s r;rw[e1]at b1;rw[e2]at b2;exact⟨_,_,rfl,rfl,by omega,by omega,by omega,⟨b1.drew,low5 hp hq⟩,⟨b2.drew,low5 hs hr⟩,((((Below.refl _ _).alloc (Nat.le_refl _) _).alloc (by simp) _).alloc (by simp;omega) _).drew⟩
theorem tk_b {w:World}{p q r s:Nat}(o:Obj)(hp:p<18446744073709551616)(hq:q<18446744073709551616)(hr:r<18446744073709551616)(hs:s<18446744073709551616):
  TkCut w p q r s (.pointer (some ⟨w.heap.size+1+1,0,none⟩)) (.pointer (some ⟨w.heap.size+1,0,none⟩)) (((w.alloc o).alloc (.cells #[.int .u64 s,.int .u64 r,.int .u64 0,.int .u64 0,.int .u64 0] 192)).alloc (.cells #[.int .u64 p,.int .u64 q,.int .u64 0,.int .u64 0,.int .u64 0] 192)).drew:=by
 obtain⟨h1,h2,e1,e2,a1,a2,a3,a4,a5,a6⟩:=tk_a (w:=w) (p:=s) (q:=r) (r:=q) (s:=p) o hs hr hq hp;exact⟨h2,h1,e2,e1,fun h=>a1 h.symm,a3,a2,a5,a4,a6⟩
def Tk2 (w:World)(g1 g2:Nat)(a:Addr):Prop:=a.block=g1\/a.block=g2\/w.heap.size<=a.block
def TkPost (w:World)(base g1 g2 n D1 D2:Nat)(La Lb:List Nat)(e:Ending)(w':World):Prop:=
 ∃us1 us2:List Nat,e= .returned (.tuple #[])/\us1.length=n/\us2.length=n/\Hid (ev 18446744073709551616 us1=D1)/\Hid (ev 18446744073709551616 us2=D2)/\
  Wb w' g1 85 (us1++La.drop n)/\Wb w' g2 85 (us2++Lb.drop n)/\Below base w w'/\Tch (Tk2 w g1 g2) w w'
def TkRel (w:World)(base g1 g2 h1 h2 p q r s:Nat)(La Lb:List Nat)(k:Nat)(wr:World):Prop:=
 ∃(us1 us2:List Nat) (m1 l1 o1 m2 l2 o2:Nat),Diffing 18446744073709551616 La Lb us1 p q k m1 l1 o1/\Diffing 18446744073709551616 Lb La us2 s r k m2 l2 o2/\o1<=1/\o2<=1/\
  Wb wr g1 85 (us1++La.drop k)/\Wb wr g2 85 (us2++Lb.drop k)/\Wb wr h1 192 [p,q,m1,l1,o1]/\Wb wr h2 192 [s,r,m2,l2,o2]/\Tch (Tk2 w g1 g2) w wr
structure TkIn (w:World) (base g1 g2 h1 h2:Nat):Prop where
 b1:base<=g1
 b2:base<=g2
 b3:base<=h1
 b4:base<=h2
 d1:g1≠g2
 d2:g1≠h1
 d3:g1≠h2
 d4:g2≠h1
 d5:g2≠h2
 d6:h1≠h2
 s0:base<=w.heap.size
 s1:w.heap.size<=h1
 s2:w.heap.size<=h2
theorem TkIn.below {w w':World}{base g1 g2 h1 h2:Nat}(k:TkIn w base g1 g2 h1 h2)(h:Tch (Tk2 w g1 g2) w w'):Below base w w':=
 h.below k.s0 fun a ha=>by
  rcases ha with h|h|h
  ·rw[h];exact k.b1
  ·rw[h];exact k.b2
  ·exact Nat.le_trans k.s0 h
theorem l_a (w:World)(base g1 g2 n c1 c2 p q r s D1 D2:Nat)(La Lb:List Nat)(W1:Wb w g1 85 La)(W2:Wb w g2 85 Lb)(hg:g1≠g2)(hb1:base<=g1)(hb2:base<=g2)(n1:n<=La.length)(n2:n<=Lb.length)
  (hm:n<=1099511627776) (hp:p<18446744073709551616) (hq:q<18446744073709551616) (hr:r<18446744073709551616) (hs:s<18446744073709551616)
  (E1:pre 18446744073709551616 La n*p=pre 18446744073709551616 Lb n*q+D1) (F1:D1<18446744073709551616^n) (E2:pre 18446744073709551616 Lb n*s=pre 18446744073709551616 La n*r+D2) (F2:D2<18446744073709551616^n):
  Calls Tryz.prog 153 #[.agg #[.int .u64 p,.int .u64 q,.int .u64 r,.int .u64 s],.slice (some ⟨g1,0,none⟩) n c1,.slice (some ⟨g2,0,none⟩) n c2] w (TkPost w base g1 g2 n D1 D2 La Lb):=by
 have HE1:=Lib.hid E1;have HE2:=Lib.hid E2;have HF1:=Lib.hid F1;have HF2:=Lib.hid F2;clear E1 E2 F1 F2;go_enter Tryz.func153,Tryz.ntmps153
 go_upto_region 1 with fail
 go_cut [6,7] (TkCut w p q r s)
 case first=>
  clear HE1 HE2 HF1 HF2 W1 W2 hg hb1 hb2 n1 n2 hm;go_region
  all_goals
   go_wp2_with fail
   go_meet
   first
    |exact tk_a _ hp hq hr hs
    |exact tk_b _ hp hq hr hs
 case rest=>
  obtain⟨h1,h2,rfl,rfl,hh,hh1,hh2,V1,V2,B0⟩:=hcut;have lt1:=W1.1.lt;have lt2:=W2.1.lt;have I:=Lib.hid (show TkIn w base g1 g2 h1 h2 from⟨hb1,hb2,by omega,by omega,hg,by omega,by omega,by omega,by omega,hh,by omega,hh1,hh2⟩);have W1':Wb wc g1 85 La:=⟨W1.1.below B0 lt1,W1.2⟩;have W2':Wb wc g2 85 Lb:=⟨W2.1.below B0 lt2,W2.2⟩;have lLa:=W1.2;have lLb:=W2.2;have BB:Tch (Tk2 w g1 g2) w wc:=Tch.of_below _ B0;clear W1 W2 B0 hh hh1 hh2 hg lt1 lt2
  go_wp2_with fail
  go_loopw [23] (fun i wr=>∃k:Nat,k<=n/\i= .int .i64 k/\TkRel w base g1 g2 h1 h2 p q r s La Lb k wr) (fun i _=>n - (intOf i).toNat)
  case atStart=>exact⟨0,Nat.zero_le _,rfl,[],[],0,0,0,0,0,0,Diffing.start _ _ _ _ _,Diffing.start _ _ _ _ _,by omega,by omega,by simpa using W1',by simpa using W2',V1,V2,BB⟩
  case round=>
   clear W1' W2' V1 V2 BB;obtain⟨k,hk,rfl,us1,us2,m1,l1,o1,m2,l2,o2,d1,d2,ho1,ho2,W1,W2,V1,V2,BB⟩:=hrel;by_cases hlt:k<n
   ·have cs1:=W1.1.cell (j:=k) (by rw[a_n d1.1 (by omega)];omega);rw[b_y d1.1]at cs1;have cs2:=W2.1.cell (j:=k) (by rw[a_n d2.1 (by omega)];omega);rw[b_y d2.1]at cs2;have x1:=lLa.any (by omega) k;have x2:=lLb.any (by omega) k;have HW1:=Lib.hid W1;have HW2:=Lib.hid W2;have HD1:=Lib.hid d1;have HD2:=Lib.hid d2;have HBB:=Lib.hid BB;clear W1 W2 d1 d2 BB
    go_wp2_with fail
    refine(h_s _ h1 p q m1 l1 o1 _ _ V1 ho1 x1 x2).mono ?_;rintro e w2 ⟨z1,m1',l1',o1',rfl,hz1,he1,hm1,hl1,hoo1,V1',T1,Z1⟩;have V2':=V2.tch T1 fun j _ h=>I.out.d6 h.symm;have W1:=HW1.out.tch T1 fun j _ h=>I.out.d2 h;have W2:=HW2.out.tch T1 fun j _ h=>I.out.d4 h;have HT1:=Lib.hid T1;have HZ1:=Lib.hid Z1;have HWa:=Lib.hid W1;have HWb:=Lib.hid W2;clear V1 V2 cs1 cs2 T1 Z1 W1 W2 HW1 HW2
    go_wp2_with fail
    refine(h_s _ h2 s r m2 l2 o2 _ _ V2' ho2 x2 x1).mono ?_;rintro e w3 ⟨z2,m2',l2',o2',rfl,hz2,he2,hm2,hl2,hoo2,V2'',T2,Z2⟩;have V1'':=V1'.tch T2 fun j _ h=>I.out.d6 h;have W1:=HWa.out.tch T2 fun j _ h=>I.out.d3 h;have W2:=HWb.out.tch T2 fun j _ h=>I.out.d5 h;have cs1:=W1.1.cell (j:=k) (by rw[a_n HD1.out.1 (by omega)];omega);have cf1:=W1.1.free k;obtain⟨T3,X1⟩:=Tch.store (S:=fun a=>a.block=g1) W1 k hz1 rfl;rw[c_k HD1.out.1 (by omega)]at X1;have X2:=W2.tch T3 fun j _ h=>I.out.d1 h.symm;have cs2:=X2.1.cell (j:=k) (by rw[a_n HD2.out.1 (by omega)];omega);have cf2:=X2.1.free k;obtain⟨T4,Y2⟩:=Tch.store (S:=fun a=>a.block=g2) X2 k hz2 rfl;rw[c_k HD2.out.1 (by omega)]at Y2;have Y1:=X1.tch T4 fun j _ h=>I.out.d1 h;have U1:=(V1''.tch T3 fun j _ h=>I.out.d2 h.symm).tch T4 fun j _ h=>I.out.d4 h.symm;have U2:=(V2''.tch T3 fun j _ h=>I.out.d3 h.symm).tch T4 fun j _ h=>I.out.d5 h.symm;have BB2:Hid (Tch (Tk2 w g1 g2) w ((w3.setCell ⟨g1,k,none⟩ (.int .u64 (z1:Int))).setCell ⟨g2,k,none⟩ (.int .u64 (z2:Int)))):=Lib.hid (by
     have b1:=HT1.out.mono (S:=Tk2 w g1 g2) fun a _ h=>.inr (.inr (by rw[h];exact I.out.s1));have b2:=T2.mono (S:=Tk2 w g1 g2) fun a _ h=>.inr (.inr (by rw[h];exact I.out.s2));have b3:=T3.mono (S:=Tk2 w g1 g2) fun a _ h=>.inl h;have b4:=T4.mono (S:=Tk2 w g1 g2) fun a _ h=>.inr (.inl h);exact(((HBB.out.trans b1).trans b2).trans b3).trans b4)
    have R:Hid (TkRel w base g1 g2 h1 h2 p q r s La Lb (k+1) ((w3.setCell ⟨g1,k,none⟩ (.int .u64 (z1:Int))).setCell ⟨g2,k,none⟩ (.int .u64 (z2:Int)))):=
     Lib.hid ⟨_,_,_,_,_,_,_,_,HD1.out.step hz1 he1.out,HD2.out.step hz2 he2.out,hoo1,hoo2,Y1,Y2,U1,U2,BB2.out⟩
    clear V1' V2' V1'' V2'' W1 W2 X1 X2 Y1 Y2 U1 U2 T2 T3 T4 Z2
    go_wp2_with fail
    go_roundw
    case rel=>exact⟨k+1,by omega,by go_num,R.out⟩
    case measure=>simp[intOf];omega
   ·obtain rfl:k=n:=by omega
    have P:Hid (TkPost w base g1 g2 k D1 D2 La Lb (.returned (.tuple #[])) wr):=Lib.hid ⟨us1,us2,rfl,d1.1,d2.1,Lib.hid (d1.stop (by omega) HE1.out HF1.out),Lib.hid (d2.stop (by omega) HE2.out HF2.out),W1,W2,I.out.below BB,BB⟩;clear d1 d2 W1 W2 V1 V2 BB hlt
    go_wp2_with fail
    go_end0
    exact P.out
end
end Go.Proofs.YtfhbdlegkdbmfaaGreat
