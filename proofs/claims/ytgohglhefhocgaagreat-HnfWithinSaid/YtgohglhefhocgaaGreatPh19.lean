/- Ph19 -/
import Derived.Test.YtgohglhefhocgaaGreatPh18
import Derived.Test.YtgohglhefhocgaaGreatPh09
set_option linter.unusedVariables false
set_option linter.unusedSimpArgs false
set_option linter.unusedSectionVars false
set_option maxRecDepth 100000
set_option maxHeartbeats 8000000
namespace Go.Proofs.YtgohglhefhocgaaGreat
section
open Go.RowKit
def DmPost (q r:Nat)(w:World)(e:Ending)(w':World):Prop:=
 ∃A c A' c',e= .returned (.tuple #[.slice A (cn 18446744073709551616 q).length c,.slice A' (cn 18446744073709551616 r).length c',.bool true])∧Got w w' 67 .u64 A c (cn 18446744073709551616 q)∧Got w w' 67 .u64 A' c' (cn 18446744073709551616 r)
theorem f_y (xs:List Nat):(xs.take (sl xs)).length=sl xs:=by simp[Nat.min_eq_left (a_6 xs)]
theorem Nv.trim {w:World}{A:Option Addr}{n c v:Nat}(h:Nv w A n c v):∃xs,Rd w .u64 A xs∧xs.length=n∧n≤c∧c≤9223372036854775807∧Low 18446744073709551616 xs∧Nv w A (sl xs) c v∧sl xs≤n∧(v=0↔sl xs=0)∧
  Rd w .u64 A (xs.take (sl xs))∧(xs.take (sl xs)).length=sl xs∧Low 18446744073709551616 (xs.take (sl xs))∧ev 18446744073709551616 (xs.take (sl xs))=v∧sl xs=(cn 18446744073709551616 v).length:=by
 obtain⟨xs,h1,h2,h3,h4,h5,rfl⟩:=h;have hs:sl xs≤n:=h2 ▸ a_6 xs;refine⟨xs,h1,h2,h3,h4,h5,⟨_,h1.take (sl xs),f_y xs,by omega,h4,h5.take _,a_q _ _⟩,hs, ?_,h1.take _,f_y xs,h5.take _,a_q _ _,c_v _ (by omega) h5⟩;rw[c_v _ (by omega) h5];exact(b_6 _ _ (by omega)).symm
theorem Got.on {w w1 w':World}{t:TypeId}{K:IntKind}{A:Option Addr}{c:Nat}{zs:List Nat}(h:Got w w1 t K A c zs)(hb:Below w1.heap.size w1 w'):Got w w' t K A c zs:=by
 obtain⟨A',c',e,g⟩:=(OwnV.below (w0:=w) (v:=.slice A zs.length c) h hb).form;injection e with e1 e2 e3
 subst e1 e3;exact g
theorem r_z {A B:Option Addr}{n m c d x:Nat}{w:World}(hx:Nv w A n c x)(hy:Nv w B m d 0)(hn:n≤549755813888)(hm:m≤549755813888):
  Calls Tryz.prog 118 #[.slice A n c,.slice B m d] w fun e w'=>e= .returned (.tuple #[.slice none 0 0,.slice none 0 0,.bool false])∧w=w':=by
 obtain⟨xs,x1,x2,x3,x4,x5,x6,x7,x8,-⟩:=hx.trim;obtain⟨ys,y1,y2,y3,y4,y5,y6,y7,y8,-⟩:=hy.trim;have h0:=Lib.hid (y8.1 rfl);have X2:=Lib.hid x2;have Y2:=Lib.hid y2;clear x2 y2 x8 y8 x6 y6;go_enter Tryz.func118,Tryz.ntmps118
 go_wp2_with fail
 refine(a_y _ _ _ xs _ x1 X2.out x3 x4 x5 (by omega)).mono ?_;rintro e w' ⟨rfl,rfl⟩
 go_wp2_with fail
 refine(a_y _ _ _ ys _ y1 Y2.out y3 y4 y5 (by omega)).mono ?_;rintro e w' ⟨rfl,rfl⟩;rw[h0.out]
 go_wp2
 go_ret3
 exact⟨rfl,rfl⟩
theorem d_h {A B:Option Addr}{n m c d x y:Nat}{w:World}(hx:Nv w A n c x)(hy:Nv w B m d y)(hn:n≤549755813888)(hm:m≤549755813888)(h:0<y):
  Calls Tryz.prog 118 #[.slice A n c,.slice B m d] w (DmPost (x / y) (x%y) w):=by
 obtain⟨xs,x1,x2,x3,x4,x5,x6,x7,x8,x9,x10,x11,x12,x13⟩:=hx.trim;obtain⟨ys,y1,y2,y3,y4,y5,y6,y7,y8,y9,y10,y11,y12,y13⟩:=hy.trim;have hs0:0<sl ys:=by
  rcases Nat.eq_zero_or_pos (sl ys)with h0|h0
  ·have:=y8.2 h0;omega
  ·exact h0
 obtain⟨l,hl⟩:∃l,sl ys=l+1:=⟨sl ys - 1,by omega⟩;have htop:=d_4 hs0;rw[hl,Nat.add_sub_cancel,←b_p (n:=sl ys) (by omega)]at htop;have hlt:sl xs<sl ys→x<y:=fun h0=>by rw[x13,y13]at h0;exact g_9 _ _ _ (by omega) h0
 have X2:=Lib.hid x2;have Y2:=Lib.hid y2;have X10:=Lib.hid x10;have Y10:=Lib.hid y10;have X12:=Lib.hid x12;have Y12:=Lib.hid y12;have HL:=Lib.hid hl;have HLT:=Lib.hid hlt;have HT:=Lib.hid htop;have sx:sl xs≤n:=x7;clear x2 y2 x8 y8 x10 y10 x12 y12 x13 y13 hlt hl htop;generalize xs.take (sl xs)=us at *;generalize ys.take (sl ys)=vs at *;generalize hsx:sl xs=p at *;generalize hsy:sl ys=q at *;have HSX:=Lib.hid hsx;have HSY:=Lib.hid hsy;clear hsx hsy;by_cases h1:q=1
 ·subst h1;obtain⟨ae,rfl,_,c1⟩:=y9.at (k:=0) (by rw[Y10.out];omega);have w1:=y11.any (by omega) 0;have hv:ev 18446744073709551616 vs=nth vs 0:=by
   have:=a_d 18446744073709551616 vs 0;rw[a_3,Nat.zero_add,show(1:Nat)=vs.length from Y10.out.symm,a_2]at this;simpa using this
  have hv2:nth vs 0=y:=by rw[←hv,Y12.out]
  rw[hv2]at c1 w1;have ez:ae.add 0=ae:=by unfold Addr.add;simp
  rw[ez]at c1;clear hv hv2 ez;go_enter Tryz.func118,Tryz.ntmps118
  go_wp2_with fail
  refine(a_y _ _ _ xs _ x1 X2.out x3 x4 x5 (by omega)).mono ?_;rintro e w' ⟨rfl,rfl⟩;rw[HSX.out]
  go_wp2_with fail
  refine(a_y _ _ _ ys _ y1 Y2.out y3 y4 y5 (by omega)).mono ?_;rintro e w' ⟨rfl,rfl⟩;rw[HSY.out]
  go_wp2_with fail
  refine(h_i _ _ _ us y _ x9 X10.out (by omega) x11 h w1).mono ?_;rw[X12.out];rintro e w2 ⟨A2,c2,rfl,G2⟩;have hr:=Nat.mod_lt x h;clear c1
  go_wp2_with fail
  refine(f_7 (x%y) (by omega) _).mono ?_;rintro e w3 ⟨A3,c3,rfl,G3⟩;have P:Hid (DmPost (x / y) (x%y) w (.returned (.tuple #[.slice A2 (cn 18446744073709551616 (x / y)).length c2,.slice A3 (cn 18446744073709551616 (x%y)).length c3,.bool true])) w3):=
   Lib.hid ⟨A2,c2,A3,c3,rfl,Got.on G2 G3.2,G3.up G2.2⟩
  clear G2 G3
  go_wp2_with fail
  go_ret3
  exact P.out
 ·have q1:((q:Int)==0)=false:=by rw[beq_eq_false_iff_ne];omega
  have q2:((q:Int)==1)=false:=by rw[beq_eq_false_iff_ne];omega
  have q3:2≤q:=by omega
  clear h1;by_cases h2:p<q
  ·have hxy:=HLT.out h2;have hdiv:x / y=0:=Nat.div_eq_of_lt hxy;have hmod:x%y=x:=Nat.mod_eq_of_lt hxy;rw[hdiv,hmod];clear hdiv hmod;go_enter Tryz.func118,Tryz.ntmps118
   go_wp2_with fail
   refine(a_y _ _ _ xs _ x1 X2.out x3 x4 x5 (by omega)).mono ?_;rintro e w' ⟨rfl,rfl⟩;rw[HSX.out]
   go_wp2_with fail
   refine(a_y _ _ _ ys _ y1 Y2.out y3 y4 y5 (by omega)).mono ?_;rintro e w' ⟨rfl,rfl⟩;rw[HSY.out]
   go_wp2_with fail
   refine(f_j _ _ _ us _ x9 X10.out (by omega) (by omega) x11 (by omega)).mono ?_;rw[X12.out];rintro e w2 ⟨A2,c2,rfl,G2⟩;have P:Hid (DmPost 0 x w (.returned (.tuple #[.slice none 0 0,.slice A2 (cn 18446744073709551616 x).length c2,.bool true])) w2):=
    Lib.hid ⟨none,0,A2,c2,rfl,Got.nil' _ _ G2.2,G2⟩
   clear G2
   go_wp2_with fail
   go_ret3
   exact P.out
  ·go_enter Tryz.func118,Tryz.ntmps118
   go_wp2_with fail
   refine(a_y _ _ _ xs _ x1 X2.out x3 x4 x5 (by omega)).mono ?_;rintro e w' ⟨rfl,rfl⟩;rw[HSX.out]
   go_wp2_with fail
   refine(a_y _ _ _ ys _ y1 Y2.out y3 y4 y5 (by omega)).mono ?_;rintro e w' ⟨rfl,rfl⟩;rw[HSY.out]
   go_wp2_with fail
   refine(g_h _ _ p q _ _ l us vs _ x9 y9 X10.out Y10.out HL.out q3 (by omega) (by omega) (by omega) (by omega) (by omega) x11 y11 HT.out (by omega)).mono ?_;rw[X12.out,Y12.out];rintro e w2 ⟨A2,c2,A3,c3,rfl,G2,G3⟩;have P:Hid (DmPost (x / y) (x%y) w (.returned (.tuple #[.slice A2 (cn 18446744073709551616 (x / y)).length c2,.slice A3 (cn 18446744073709551616 (x%y)).length c3,.bool true])) w2):=
    Lib.hid ⟨A2,c2,A3,c3,rfl,G2,G3⟩
   clear G2 G3
   go_wp2_with fail
   go_ret3
   exact P.out
def NoPost (w:World)(e:Ending)(w':World):Prop:=e= .returned (.tuple #[.slice none 0 0,.bool false])∧Below w.heap.size w w'
theorem l_v {A B:Option Addr}{n m c d x y:Nat}{w:World}(hx:Nv w A n c x)(hy:Nv w B m d y)(hn:n≤549755813888)(hm:m≤549755813888)(h:0<y):
  Calls Tryz.prog 130 #[.slice A n c,.slice B m d] w (TwoPost (x%y) w):=by
 go_enter Tryz.func130,Tryz.ntmps130
 go_wp2_with fail
 refine(d_h hx hy hn hm h).mono ?_;rintro e w2 ⟨A2,c2,A3,c3,rfl,G2,G3⟩;have P:Hid (TwoPost (x%y) w (.returned (.tuple #[.slice A3 (cn 18446744073709551616 (x%y)).length c3,.bool true])) w2):=Lib.hid ⟨A3,c3,rfl,G3⟩;clear G2 G3
 go_wp2_with fail
 go_ret2
 exact P.out
theorem i_l {A B:Option Addr}{n m c d x y:Nat}{w:World}(hx:Nv w A n c x)(hy:Nv w B m d y)(hn:n≤549755813888)(hm:m≤549755813888)(h:0<y)(h0:x%y=0):
  Calls Tryz.prog 122 #[.slice A n c,.slice B m d] w (TwoPost (x / y) w):=by
 have H0:=Lib.hid h0;clear h0;go_enter Tryz.func122,Tryz.ntmps122
 go_wp2_with fail
 refine(d_h hx hy hn hm h).mono ?_;rw[H0.out];rintro e w2 ⟨A2,c2,A3,c3,rfl,G2,G3⟩;have P:Hid (TwoPost (x / y) w (.returned (.tuple #[.slice A2 (cn 18446744073709551616 (x / y)).length c2,.bool true])) w2):=Lib.hid ⟨A2,c2,rfl,G2⟩;clear G2 G3;rw[show(cn 18446744073709551616 0).length=0 from rfl]
 go_wp2_with fail
 go_ret2
 exact P.out
theorem exact_no {A B:Option Addr}{n m c d x y:Nat}{w:World}(hx:Nv w A n c x)(hy:Nv w B m d y)(hn:n≤549755813888)(hm:m≤549755813888)(h:0<y)(h0:x%y≠0):
  Calls Tryz.prog 122 #[.slice A n c,.slice B m d] w (NoPost w):=by
 have hl:0<(cn 18446744073709551616 (x%y)).length:=by
  rcases Nat.eq_zero_or_pos (cn 18446744073709551616 (x%y)).length with h1|h1
  ·exact absurd ((b_6 _ _ (by omega)).1 h1) h0
  ·exact h1
 clear h0;go_enter Tryz.func122,Tryz.ntmps122
 go_wp2_with fail
 refine(d_h hx hy hn hm h).mono ?_;rintro e w2 ⟨A2,c2,A3,c3,rfl,G2,G3⟩;have B2:=G2.2;clear G2 G3;generalize(cn 18446744073709551616 (x%y)).length=k at *
 go_wp2_with fail
 go_ret2
 exact⟨rfl,B2⟩
theorem Got.cv {w w':World}{A:Option Addr}{c v:Nat}(h:Got w w' 67 .u64 A c (cn 18446744073709551616 v)):Cv w' A (cn 18446744073709551616 v).length c v:=by
 have hc:=h.cap;exact⟨h.rd,rfl,hc.1,by have:=hc.2;unfold maxLen at this;omega⟩
def DmCv (q r kq kr:Nat)(w:World)(e:Ending)(w':World):Prop:=
 ∃A n c A' n' c',e= .returned (.tuple #[.slice A n c,.slice A' n' c',.bool true])∧Cv w' A n c q∧Cv w' A' n' c' r∧n≤kq∧n'≤kr∧Below w.heap.size w w'
theorem d_z {x y n:Nat}(h:x<18446744073709551616^n):x / y<18446744073709551616^n:=Nat.lt_of_le_of_lt (Nat.div_le_self _ _) h
theorem dm_v {A B:Option Addr}{n m c d x y:Nat}{w:World}(hx:Nv w A n c x)(hy:Nv w B m d y)(hn:n≤549755813888)(hm:m≤549755813888)(h:0<y):
  Calls Tryz.prog 118 #[.slice A n c,.slice B m d] w (DmCv (x / y) (x%y) n m w):=by
 have l1:=hx.lt;have l2:=hy.lt;refine(d_h hx hy hn hm h).mono ?_;rintro e w' ⟨A2,c2,A3,c3,rfl,G2,G3⟩;exact⟨_,_,_,_,_,_,rfl,G2.cv,G3.cv,a_l _ _ _ (by omega) (d_z l1),a_l _ _ _ (by omega) (Nat.lt_trans (Nat.mod_lt _ h) l2),G2.2⟩
def TwoCv (v k:Nat)(w:World)(e:Ending)(w':World):Prop:=
 ∃A n c,e= .returned (.tuple #[.slice A n c,.bool true])∧Cv w' A n c v∧n≤k∧Below w.heap.size w w'
theorem TwoPost.cv {v k:Nat}{w w':World}{e:Ending}(h:TwoPost v w e w')(hk:v<18446744073709551616^k):TwoCv v k w e w':=by
 obtain⟨A,c,rfl,hg⟩:=h;exact⟨A,_,c,rfl,hg.cv,a_l _ _ _ (by omega) hk,hg.2⟩
theorem u_a {A B:Option Addr}{n m c d x y:Nat}{w:World}(hx:Nv w A n c x)(hy:Nv w B m d y)(hn:n≤549755813888)(hm:m≤549755813888)(h:0<y):
  Calls Tryz.prog 130 #[.slice A n c,.slice B m d] w (TwoCv (x%y) m w):=
 (l_v hx hy hn hm h).mono fun _ _ k=>k.cv (Nat.lt_trans (Nat.mod_lt _ h) hy.lt)
theorem r_t {A B:Option Addr}{n m c d x y:Nat}{w:World}(hx:Nv w A n c x)(hy:Nv w B m d y)(hn:n≤549755813888)(hm:m≤549755813888)(h:0<y)(h0:x%y=0):
  Calls Tryz.prog 122 #[.slice A n c,.slice B m d] w (TwoCv (x / y) n w):=
 (i_l hx hy hn hm h h0).mono fun _ _ k=>k.cv (d_z hx.lt)
end
section
open Go.RowKit
def dqv (s t u:Bool)(X Y:Nat):Int:=if X%Y≠0∧s≠u then sg (!(s==t)) (X / Y+1)else sg (!(s==t)) (X / Y)
def drv (s u:Bool)(X Y:Nat):Int:=if X%Y≠0∧s≠u then sg u (Y - X%Y)else sg u (X%Y)
theorem p_i {s t u:Bool}{X Y:Nat}(hY:0<Y):dqv s t u X Y*sg t Y+drv s u X Y=sg s X:=by
 have h1:=Nat.div_add_mod X Y;have h2:=Nat.mod_lt X hY;unfold dqv drv;generalize X / Y=q at *;generalize X%Y=r at *;subst h1;have e:((Y*q+r:Nat):Int)=(q:Int)*(Y:Int)+(r:Int):=by push_cast;rw[Int.mul_comm]
 by_cases h:r≠0∧s≠u
 ·rw[if_pos h,if_pos h];have e2:((Y - r:Nat):Int)=(Y:Int) - (r:Int):=by omega
  obtain⟨_,h⟩:=h;cases s<;>cases t<;>cases u<;>simp[sg,e,e2,Int.add_mul,Int.neg_mul,Int.mul_neg]at* <;>omega
 ·rw[if_neg h,if_neg h];by_cases h0:r=0
  ·subst h0;cases s<;>cases t<;>cases u<;>simp[sg,e,Int.add_mul,Int.neg_mul,Int.mul_neg,Int.mul_comm]at *
  ·have hsu:s=u:=by
    by_cases h3:s=u
    ·exact h3
    ·exact absurd ⟨h0,h3⟩ h
   subst hsu;cases s<;>cases t<;>simp[sg,e,Int.add_mul,Int.neg_mul,Int.mul_neg]at* <;>omega
theorem p_h {s u:Bool}{X Y:Nat}(hY:0<Y):∃R,R<Y∧drv s u X Y=sg u R:=by
 have h2:=Nat.mod_lt X hY;unfold drv;split
 ·exact⟨_,by omega,rfl⟩
 ·exact⟨_,h2,rfl⟩
def Z2Post (q r:Int)(kq kr:Nat)(w:World)(e:Ending)(w':World):Prop:=
 ∃s A n c t B m d,e= .returned (.tuple #[.agg #[.bool s,.slice A n c],.agg #[.bool t,.slice B m d],.bool true])∧Zc w' s A n c q∧Zc w' t B m d r∧n≤kq∧m≤kr∧Below w.heap.size w w'
theorem Ib.put' {w:World}{A B:Option Addr}{n c g g' m d:Nat}{s t:Bool}(h:Ib w g s A n c)(hg:g≠g'):Ib ((w.setCell ⟨g',0,none⟩ (.bool t)).setCell ⟨g',1,none⟩ (.slice B m d)) g s A n c:=Ib.put (l:=0) (e:=0) (u:=true) (C:=none) h hg
theorem zfin22 {w w2:World}{A B C D:Option Addr}{n c m d g g' kq kr n1 c1 m1 d1:Nat}{s t s1 t1:Bool}{q r:Int}(hq:Zc w2 s A n c q)(hr:Zc w2 t B m d r)(hi:Ib w2 g s1 C n1 c1)(hj:Ib w2 g' t1 D m1 d1)(hne:g≠g')(hk:n≤kq)(hk':m≤kr)
  (hg:w.heap.size≤g) (hg':w.heap.size≤g') (hB:Below w.heap.size w w2):
  Z2Post q r kq kr w (.returned (.tuple #[.agg #[.bool s,.slice A n c],.agg #[.bool t,.slice B m d],.bool true])) ((((w2.setCell ⟨g,0,none⟩ (.bool s)).setCell ⟨g,1,none⟩ (.slice A n c)).setCell ⟨g',0,none⟩ (.bool t)).setCell ⟨g',1,none⟩ (.slice B m d)):=
 ⟨s,A,n,c,t,B,m,d,rfl,(hq.put hi).put (hj.put' (t:=s) (B:=A) (m:=n) (d:=c) (Ne.symm hne)),(hr.put hi).put (hj.put' (t:=s) (B:=A) (m:=n) (d:=c) (Ne.symm hne)),hk,hk',a_j (a_j hB hg) hg'⟩
theorem open4 (w:World)(s t:Bool)(A B:Option Addr)(n c m d:Nat):
  ∃w3,w3=(((w.alloc (.cells #[.bool s,.slice A n c] 37)).alloc (.cells #[.bool t,.slice B m d] 37)).alloc (.cells #[.bool false,.slice none 0 0] 37)).alloc (.cells #[.bool false,.slice none 0 0] 37)∧
   Ib w3 w.heap.size s A n c∧Ib w3 (w.heap.size+1) t B m d∧Ib w3 (w.heap.size+1+1) false none 0 0∧Ib w3 (w.heap.size+1+1+1) false none 0 0∧Below w.heap.size w w3:=by
 obtain⟨w3,h,h1,h2,h3,h4⟩:=open3 w s t A B n c m d;have e:w3.heap.size=w.heap.size+1+1+1:=by rw[h];simp
 refine⟨w3.alloc (.cells #[.bool false,.slice none 0 0] 37),by rw[h],h1.below (zba _ _),h2.below (zba _ _),h3.below (zba _ _), ?_,zup h4 (zba _ _)⟩;rw[←e];exact Ib.new _ _ _ _ _ _
theorem u_l {s t u:Bool}{X Y:Nat}(h:X%Y=0):dqv s t u X Y=sg (!(s==t)) (X / Y)∧drv s u X Y=sg u (X%Y):=by
 unfold dqv drv;rw[if_neg (by omega),if_neg (by omega)];exact⟨rfl,rfl⟩
theorem u_k {s t u:Bool}{X Y:Nat}(h:s=u):dqv s t u X Y=sg (!(s==t)) (X / Y)∧drv s u X Y=sg u (X%Y):=by
 unfold dqv drv;rw[if_neg (fun k=>k.2 h),if_neg (fun k=>k.2 h)];exact⟨rfl,rfl⟩
theorem u_j {s t u:Bool}{X Y:Nat}(h0:X%Y≠0)(h:s≠u):dqv s t u X Y=sg (!(s==t)) (X / Y+1)∧drv s u X Y=sg u (Y - X%Y):=by
 unfold dqv drv;rw[if_pos ⟨h0,h⟩,if_pos ⟨h0,h⟩];exact⟨rfl,rfl⟩
theorem g_k {A B:Option Addr}{n m c d:Nat}{s t u:Bool}{x y q r:Int}{w:World}(hx:Zv w s A n c x)(hy:Zv w t B m d y)(hn:n≤549755813888)(hm:m≤549755813888)(h0:y≠0)
  (hq:dqv s t u x.natAbs y.natAbs=q) (hr:drv s u x.natAbs y.natAbs=r):
  Calls Tryz.prog 112 #[.agg #[.bool s,.slice A n c],.agg #[.bool t,.slice B m d],.bool u] w (Z2Post q r (n+2) m w):=by
 obtain⟨w3,hw3,IA,IB,I6,I7,z0⟩:=open4 w s t A B n c m d;obtain⟨hx1,ex⟩:=hx.up z0;obtain⟨hy1,ey⟩:=hy.up z0;have hY:0<y.natAbs:=by omega
 generalize x.natAbs=X at *;generalize y.natAbs=Y at *;obtain⟨b,hb⟩:∃b,(!(s==t))=b:=⟨_,rfl⟩;have HZ:=Lib.hid z0;have HW:=Lib.hid hw3.symm;have HA:=Lib.hid IA;have HB:=Lib.hid IB;have H6:=Lib.hid I6;have H7:=Lib.hid I7;have HY1:=Lib.hid hy1;have hlt:=Nat.mod_lt X hY;clear hx hy ex ey z0 hw3 I6 I7 h0;obtain⟨a1,a2,a3,a4,a5⟩:=IA;obtain⟨b1,b2,b3,b4,b5⟩:=IB;by_cases hmod:X%Y=0
 ·obtain⟨e1,e2⟩:=u_l (s:=s) (t:=t) (u:=u) hmod;rw[hb]at e1;have HQ:=Lib.hid (e1.symm.trans hq);have HR:=Lib.hid (e2.symm.trans hr);have HM:=Lib.hid hmod;clear e1 e2 hq hr hmod;go_enter Tryz.func112,Tryz.ntmps112
  go_wp2_with fail
  rw[HW.out];refine(dm_v hx1 hy1 hn hm hY).mono ?_;rintro e w4 ⟨A4,n4,c4,A5,n5,c5,rfl,p4,p5,k4,k5,B4⟩;obtain⟨u1,u2,_⟩:=HA.out.below B4;obtain⟨u3,u4,_⟩:=HB.out.below B4;have hn5:n5=0:=by have:=p5.pos;rw[HM.out]at this;simp at this;omega
  subst hn5;clear a1 a2 a3 a4 a5 b1 b2 b3 b4 b5 hx1 hy1
  go_wp2_with fail
  refine(a_0 p4).mono ?_;rintro e w6 ⟨s6,A6,n6,c6,rfl,p6,k6,B6⟩;rw[HQ.out]at p6;have p5':=p5.below B6;have Q6:=zup B4 B6;clear u1 u2 u3 u4 p4 p5
  go_wp2_with fail
  refine(a_0 p5').mono ?_;rintro e w7 ⟨s7,A7,n7,c7,rfl,p7,k7,B7⟩;rw[HR.out]at p7;have Q7:=zup Q6 B7;have p6':=p6.below B7;have J6:=H6.out.below Q7;have J7:=H7.out.below Q7;have P:=Lib.hid (zfin22 p6' p7 J6 J7 (kq:=n+2) (kr:=m) (by omega) (by omega) (by omega) (by omega) (by omega) (zup HZ.out Q7));obtain⟨r1,r2,r3,r4,r5⟩:=J6;obtain⟨t1,t2,t3,t4,t5⟩:=J7;clear p5' p6' p6 p7 B4 B6 B7 Q6 Q7 k4 k5 k6 k7
  go_wp2_with fail
  exact bodyPost_ret (v:=.tuple #[.agg #[.bool s6,.slice A6 n6 c6],.agg #[.bool s7,.slice A7 n7 c7],.bool true]) (by simp[results,Tryz.results112,go_sem,r1,r2,t1,t2]) rfl P.out
 ·by_cases hu:s=u
  ·subst hu;obtain⟨e1,e2⟩:=u_k (s:=s) (t:=t) (u:=s) (X:=X) (Y:=Y) rfl;rw[hb]at e1;have HQ:=Lib.hid (e1.symm.trans hq);have HR:=Lib.hid (e2.symm.trans hr);have q1:(s==s)=true:=by simp
   clear e1 e2 hq hr;go_enter Tryz.func112,Tryz.ntmps112
   go_wp2_with fail
   rw[HW.out];refine(dm_v hx1 hy1 hn hm hY).mono ?_;rintro e w4 ⟨A4,n4,c4,A5,n5,c5,rfl,p4,p5,k4,k5,B4⟩;obtain⟨u1,u2,_⟩:=HA.out.below B4;obtain⟨u3,u4,_⟩:=HB.out.below B4;have hn5:0<n5:=by have:=p5.pos;rw[decide_eq_decide]at this;omega
   clear a1 a2 a3 a4 a5 b1 b2 b3 b4 b5 hx1 hy1
   go_wp2_with fail
   refine(a_0 p4).mono ?_;rintro e w6 ⟨s6,A6,n6,c6,rfl,p6,k6,B6⟩;rw[HQ.out]at p6;have p5':=p5.below B6;have Q6:=zup B4 B6;clear u1 u2 u3 u4 p4 p5
   go_wp2_with fail
   refine(a_0 p5').mono ?_;rintro e w7 ⟨s7,A7,n7,c7,rfl,p7,k7,B7⟩;rw[HR.out]at p7;have Q7:=zup Q6 B7;have p6':=p6.below B7;have J6:=H6.out.below Q7;have J7:=H7.out.below Q7;have P:=Lib.hid (zfin22 p6' p7 J6 J7 (kq:=n+2) (kr:=m) (by omega) (by omega) (by omega) (by omega) (by omega) (zup HZ.out Q7));obtain⟨r1,r2,r3,r4,r5⟩:=J6;obtain⟨t1,t2,t3,t4,t5⟩:=J7;clear p5' p6' p6 p7 B4 B6 B7 Q6 Q7 k4 k5 k6 k7
   go_wp2_with fail
   exact bodyPost_ret (v:=.tuple #[.agg #[.bool s6,.slice A6 n6 c6],.agg #[.bool s7,.slice A7 n7 c7],.bool true]) (by simp[results,Tryz.results112,go_sem,r1,r2,t1,t2]) rfl P.out
  ·obtain⟨e1,e2⟩:=u_j (s:=s) (t:=t) (u:=u) hmod hu;rw[hb]at e1;have HQ:=Lib.hid (e1.symm.trans hq);have HR:=Lib.hid (e2.symm.trans hr);have q1:(s==u)=false:=by cases s<;>cases u<;>simp at *
   clear e1 e2 hq hr hu;go_enter Tryz.func112,Tryz.ntmps112
   go_wp2_with fail
   rw[HW.out];refine(dm_v hx1 hy1 hn hm hY).mono ?_;rintro e w4 ⟨A4,n4,c4,A5,n5,c5,rfl,p4,p5,k4,k5,B4⟩;obtain⟨u1,u2,_⟩:=HA.out.below B4;obtain⟨u3,u4,_⟩:=HB.out.below B4;have hn5:0<n5:=by have:=p5.pos;rw[decide_eq_decide]at this;omega
   clear a1 a2 a3 a4 a5 b1 b2 b3 b4 b5 hx1 hy1
   go_wp2_with fail
   refine(k_q 1 (by omega) _).mono ?_;rintro e w8 ⟨A8,n8,c8,rfl,p8,k8,B8⟩;have p4':=p4.below B8;have p5':=p5.below B8;have Q8:=zup B4 B8;clear u1 u2 u3 u4 p4 p5
   go_wp2_with fail
   refine(m_2 p4'.nv p8.nv (by omega) (by omega)).mono ?_;rintro e w9 ⟨A9,n9,c9,rfl,p9,k9,B9⟩;have p5:=p5'.below B9;have Q9:=zup Q8 B9;obtain⟨u3,u4,_⟩:=HB.out.below Q9;have hy9:=HY1.out.below Q9;clear p4' p8 p5' B8 Q8
   go_wp2_with fail
   refine(f_4 hy9 p5.nv (by omega) (by omega)).mono ?_;rintro e w10 ⟨A10,n10,c10,rfl,p10,k10,B10⟩;have Q10:=zup Q9 B10;have p9':=p9.below B10;clear u3 u4 p5 p9 hy9;obtain⟨u1,u2,_⟩:=HA.out.below Q10;obtain⟨u3,u4,_⟩:=HB.out.below Q10
   go_wp2_with fail
   refine(a_0 p9').mono ?_;rintro e w6 ⟨s6,A6,n6,c6,rfl,p6,k6,B6⟩;rw[HQ.out]at p6;have p10':=p10.below B6;have Q6:=zup Q10 B6;clear u1 u2 u3 u4 p9' p10
   go_wp2_with fail
   refine(a_0 p10').mono ?_;rintro e w7 ⟨s7,A7,n7,c7,rfl,p7,k7,B7⟩;rw[HR.out]at p7;have Q7:=zup Q6 B7;have p6':=p6.below B7;have J6:=H6.out.below Q7;have J7:=H7.out.below Q7;have P:=Lib.hid (zfin22 p6' p7 J6 J7 (kq:=n+2) (kr:=m) (by omega) (by omega) (by omega) (by omega) (by omega) (zup HZ.out Q7));obtain⟨r1,r2,r3,r4,r5⟩:=J6;obtain⟨t1,t2,t3,t4,t5⟩:=J7;clear p10' p6' p6 p7 B4 B6 B7 B9 B10 Q9 Q10 Q6 Q7 k4 k5 k6 k7 k8 k9 k10
   go_wp2_with fail
   exact bodyPost_ret (v:=.tuple #[.agg #[.bool s6,.slice A6 n6 c6],.agg #[.bool s7,.slice A7 n7 c7],.bool true]) (by simp[results,Tryz.results112,go_sem,r1,r2,t1,t2]) rfl P.out
def Z2No (w:World)(e:Ending)(w':World):Prop:=e= .returned (.tuple #[.agg #[.bool false,.slice none 0 0],.agg #[.bool false,.slice none 0 0],.bool false])∧Below w.heap.size w w'
theorem zdivide_no {A B:Option Addr}{n m c d:Nat}{s t u:Bool}{x:Int}{w:World}(hx:Zv w s A n c x)(hy:Zv w t B m d 0)(hn:n≤549755813888)(hm:m≤549755813888):
  Calls Tryz.prog 112 #[.agg #[.bool s,.slice A n c],.agg #[.bool t,.slice B m d],.bool u] w (Z2No w):=by
 obtain⟨w3,hw3,IA,IB,I6,I7,z0⟩:=open4 w s t A B n c m d;obtain⟨hx1,ex⟩:=hx.up z0;obtain⟨hy1,ey⟩:=hy.up z0;rw[show(0:Int).natAbs=0 from rfl]at hy1;have HZ:=Lib.hid z0;have HW:=Lib.hid hw3.symm;have H6:=Lib.hid I6;have H7:=Lib.hid I7;clear hx hy ex ey z0 hw3 I6 I7;obtain⟨b,hb⟩:∃b,(!(s==t))=b:=⟨_,rfl⟩;obtain⟨a1,a2,a3,a4,a5⟩:=IA;obtain⟨b1,b2,b3,b4,b5⟩:=IB;have HA:=Lib.hid (And.intro a1 b1);go_enter Tryz.func112,Tryz.ntmps112
 go_wp2_with fail
 rw[HW.out];refine(r_z hx1 hy1 hn hm).mono ?_;rintro e w4 ⟨rfl,rfl⟩;clear hx1 hy1
 go_wp2_with fail
 refine(c_k none 0 0 b false w3 (by simp)).mono ?_;rintro e w6 ⟨rfl,B6⟩;clear a1 a2 a3 a4 a5 b1 b2 b3 b4 b5
 go_wp2_with fail
 refine(c_k none 0 0 u false w6 (by simp)).mono ?_;rintro e w7 ⟨rfl,B7⟩;have Q7:=zup B6 B7;have P:=Lib.hid (a_j (a_j (zup HZ.out Q7) (g:=w.heap.size+1+1) (A:=none) (n:=0) (c:=0) (s:=false) (by omega)) (g:=w.heap.size+1+1+1) (A:=none) (n:=0) (c:=0) (s:=false) (by omega));obtain⟨r1,r2,r3,r4,r5⟩:=H6.out.below Q7;obtain⟨t1,t2,t3,t4,t5⟩:=H7.out.below Q7;clear B6 B7 Q7
 go_wp2_with fail
 exact bodyPost_ret (v:=.tuple #[.agg #[.bool false,.slice none 0 0],.agg #[.bool false,.slice none 0 0],.bool false]) (by simp[results,Tryz.results112,go_sem,r1,r2,t1,t2]) rfl ⟨rfl,P.out⟩
theorem m_5 {A B:Option Addr}{n m c d:Nat}{s t:Bool}{x y q r:Int}{w:World}(hx:Zv w s A n c x)(hy:Zv w t B m d y)(hn:n≤549755813888)(hm:m≤549755813888)(h0:y≠0)
  (hq:dqv s t t x.natAbs y.natAbs=q) (hr:drv s t x.natAbs y.natAbs=r):
  Calls Tryz.prog 91 #[.agg #[.bool s,.slice A n c],.agg #[.bool t,.slice B m d]] w (Z2Post q r (n+2) m w):=by
 obtain⟨w3,hw3,IA,IB,I6,I7,z0⟩:=open4 w s t A B n c m d;have hX:=hx.below z0;have hY:=hy.below z0;have HZ:=Lib.hid z0;have HW:=Lib.hid hw3.symm;have H6:=Lib.hid I6;have H7:=Lib.hid I7;have HQ:=Lib.hid hq;have HR:=Lib.hid hr;clear hx hy z0 hw3 I6 I7 hq hr;obtain⟨a1,a2,a3,a4,a5⟩:=IA;obtain⟨b1,b2,b3,b4,b5⟩:=IB;go_enter Tryz.func91,Tryz.ntmps91
 go_wp2_with fail
 rw[HW.out];refine(g_k hX hY hn hm h0 HQ.out HR.out).mono ?_;rintro e w4 ⟨s6,A6,n6,c6,s7,A7,n7,c7,rfl,p6,p7,k6,k7,B4⟩;have J6:=H6.out.below B4;have J7:=H7.out.below B4;have P:=Lib.hid (zfin22 p6 p7 J6 J7 (kq:=n+2) (kr:=m) (by omega) (by omega) (by omega) (by omega) (by omega) (zup HZ.out B4));obtain⟨r1,r2,r3,r4,r5⟩:=J6;obtain⟨t1,t2,t3,t4,t5⟩:=J7;clear p6 p7 B4 hX hY a1 a2 a3 a4 a5 b1 b2 b3 b4 b5 k6 k7 h0
 go_wp2_with fail
 exact bodyPost_ret (v:=.tuple #[.agg #[.bool s6,.slice A6 n6 c6],.agg #[.bool s7,.slice A7 n7 c7],.bool true]) (by simp[results,Tryz.results91,go_sem,r1,r2,t1,t2]) rfl P.out
theorem e_h {A B:Option Addr}{n m c d:Nat}{s t:Bool}{x y q r:Int}{w:World}(hx:Zv w s A n c x)(hy:Zv w t B m d y)(hn:n≤549755813888)(hm:m≤549755813888)(h0:y≠0)
  (hq:dqv s t false x.natAbs y.natAbs=q) (hr:drv s false x.natAbs y.natAbs=r):
  Calls Tryz.prog 121 #[.agg #[.bool s,.slice A n c],.agg #[.bool t,.slice B m d]] w (Z2Post q r (n+2) m w):=by
 obtain⟨w3,hw3,IA,IB,I6,I7,z0⟩:=open4 w s t A B n c m d;have hX:=hx.below z0;have hY:=hy.below z0;have HZ:=Lib.hid z0;have HW:=Lib.hid hw3.symm;have H6:=Lib.hid I6;have H7:=Lib.hid I7;have HQ:=Lib.hid hq;have HR:=Lib.hid hr;clear hx hy z0 hw3 I6 I7 hq hr;obtain⟨a1,a2,a3,a4,a5⟩:=IA;obtain⟨b1,b2,b3,b4,b5⟩:=IB;go_enter Tryz.func121,Tryz.ntmps121
 go_wp2_with fail
 rw[HW.out];refine(g_k hX hY hn hm h0 HQ.out HR.out).mono ?_;rintro e w4 ⟨s6,A6,n6,c6,s7,A7,n7,c7,rfl,p6,p7,k6,k7,B4⟩;have J6:=H6.out.below B4;have J7:=H7.out.below B4;have P:=Lib.hid (zfin22 p6 p7 J6 J7 (kq:=n+2) (kr:=m) (by omega) (by omega) (by omega) (by omega) (by omega) (zup HZ.out B4));obtain⟨r1,r2,r3,r4,r5⟩:=J6;obtain⟨t1,t2,t3,t4,t5⟩:=J7;clear p6 p7 B4 hX hY a1 a2 a3 a4 a5 b1 b2 b3 b4 b5 k6 k7 h0
 go_wp2_with fail
 exact bodyPost_ret (v:=.tuple #[.agg #[.bool s6,.slice A6 n6 c6],.agg #[.bool s7,.slice A7 n7 c7],.bool true]) (by simp[results,Tryz.results121,go_sem,r1,r2,t1,t2]) rfl P.out
end
end Go.Proofs.YtgohglhefhocgaaGreat
