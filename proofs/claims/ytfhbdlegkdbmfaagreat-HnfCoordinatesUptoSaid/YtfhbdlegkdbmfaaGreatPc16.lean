/- Pc16 -/
import Derived.Test.YtfhbdlegkdbmfaaGreatPc15
import Derived.Deep.QuietTactic
import Derived.BigQuiet
import Derived.Test.YtfhbdlegkdbmfaaGreatPc12
set_option linter.unusedVariables false
set_option linter.unusedSimpArgs false
set_option linter.unusedSectionVars false
set_option maxRecDepth 100000
set_option maxHeartbeats 8000000
namespace Go.Proofs.YtfhbdlegkdbmfaaGreat
section
open Go.RowKit
def DmPost (q r:Nat)(w:World)(e:Ending)(w':World):Prop:=
 ∃A c A' c',e= .returned (.tuple #[.slice A (cn 18446744073709551616 q).length c,.slice A' (cn 18446744073709551616 r).length c',.bool true])/\Got w w' 85 .u64 A c (cn 18446744073709551616 q)/\Got w w' 85 .u64 A' c' (cn 18446744073709551616 r)
theorem f_f (xs:List Nat):(xs.take (sl xs)).length=sl xs:=by simp[Nat.min_eq_left (a_4 xs)]
theorem Nv.trim {w:World}{A:Option Addr}{n c v:Nat}(h:Nv w A n c v):∃xs,Rd w .u64 A xs/\xs.length=n/\n<=c/\c<=9223372036854775807/\Low 18446744073709551616 xs/\Nv w A (sl xs) c v/\sl xs<=n/\(v=0↔sl xs=0)/\
  Rd w .u64 A (xs.take (sl xs))/\(xs.take (sl xs)).length=sl xs/\Low 18446744073709551616 (xs.take (sl xs))/\ev 18446744073709551616 (xs.take (sl xs))=v/\sl xs=(cn 18446744073709551616 v).length:=by
 obtain⟨xs,h1,h2,h3,h4,h5,rfl⟩:=h;have hs:sl xs<=n:=h2 ▸ a_4 xs;refine⟨xs,h1,h2,h3,h4,h5,⟨_,h1.take (sl xs),f_f xs,by omega,h4,h5.take _,a_n _ _⟩,hs, ?_,h1.take _,f_f xs,h5.take _,a_n _ _,c_p _ (by omega) h5⟩;rw[c_p _ (by omega) h5];exact(c_o _ _ (by omega)).symm
theorem Got.on {w w1 w':World}{t:TypeId}{K:IntKind}{A:Option Addr}{c:Nat}{zs:List Nat}(h:Got w w1 t K A c zs)(hb:Below w1.heap.size w1 w'):Got w w' t K A c zs:=by
 obtain⟨A',c',e,g⟩:=(OwnV.below (w0:=w) (v:=.slice A zs.length c) h hb).form;injection e with e1 e2 e3
 subst e1 e3;exact g
theorem q_d {A B:Option Addr}{n m c d x:Nat}{w:World}(hx:Nv w A n c x)(hy:Nv w B m d 0)(hn:n<=549755813888)(hm:m<=549755813888):
  Calls Tryz.prog 148 #[.slice A n c,.slice B m d] w fun e w'=>e= .returned (.tuple #[.slice none 0 0,.slice none 0 0,.bool false])/\w=w':=by
 obtain⟨xs,x1,x2,x3,x4,x5,x6,x7,x8,-⟩:=hx.trim;obtain⟨ys,y1,y2,y3,y4,y5,y6,y7,y8,-⟩:=hy.trim;have h0:=Lib.hid (y8.1 rfl);have X2:=Lib.hid x2;have Y2:=Lib.hid y2;clear x2 y2 x8 y8 x6 y6;go_enter Tryz.func148,Tryz.ntmps148
 go_wp2_with fail
 refine(a_s _ _ _ xs _ x1 X2.out x3 x4 x5 (by omega)).mono ?_;rintro e w' ⟨rfl,rfl⟩
 go_wp2_with fail
 refine(a_s _ _ _ ys _ y1 Y2.out y3 y4 y5 (by omega)).mono ?_;rintro e w' ⟨rfl,rfl⟩;rw[h0.out]
 go_wp2
 go_ret3
 exact⟨rfl,rfl⟩
theorem c_7 {A B:Option Addr}{n m c d x y:Nat}{w:World}(hx:Nv w A n c x)(hy:Nv w B m d y)(hn:n<=549755813888)(hm:m<=549755813888)(h:0<y):
  Calls Tryz.prog 148 #[.slice A n c,.slice B m d] w (DmPost (x / y) (x%y) w):=by
 obtain⟨xs,x1,x2,x3,x4,x5,x6,x7,x8,x9,x10,x11,x12,x13⟩:=hx.trim;obtain⟨ys,y1,y2,y3,y4,y5,y6,y7,y8,y9,y10,y11,y12,y13⟩:=hy.trim;have hs0:0<sl ys:=by
  rcases Nat.eq_zero_or_pos (sl ys)with h0|h0
  ·have:=y8.2 h0;omega
  ·exact h0
 obtain⟨l,hl⟩:∃l,sl ys=l+1:=⟨sl ys - 1,by omega⟩;have htop:=e_f hs0;rw[hl,Nat.add_sub_cancel,<-b_n (n:=sl ys) (by omega)]at htop;have hlt:sl xs<sl ys->x<y:=fun h0=>by rw[x13,y13]at h0;exact g_o _ _ _ (by omega) h0
 have X2:=Lib.hid x2;have Y2:=Lib.hid y2;have X10:=Lib.hid x10;have Y10:=Lib.hid y10;have X12:=Lib.hid x12;have Y12:=Lib.hid y12;have HL:=Lib.hid hl;have HLT:=Lib.hid hlt;have HT:=Lib.hid htop;have sx:sl xs<=n:=x7;clear x2 y2 x8 y8 x10 y10 x12 y12 x13 y13 hlt hl htop;generalize xs.take (sl xs)=us at *;generalize ys.take (sl ys)=vs at *;generalize hsx:sl xs=p at *;generalize hsy:sl ys=q at *;have HSX:=Lib.hid hsx;have HSY:=Lib.hid hsy;clear hsx hsy;by_cases h1:q=1
 ·subst h1;obtain⟨ae,rfl,_,c1⟩:=y9.at (k:=0) (by rw[Y10.out];omega);have w1:=y11.any (by omega) 0;have hv:ev 18446744073709551616 vs=nth vs 0:=by
   have:=a_c 18446744073709551616 vs 0;rw[a_0,Nat.zero_add,show(1:Nat)=vs.length from Y10.out.symm,a_z]at this;simpa using this
  have hv2:nth vs 0=y:=by rw[<-hv,Y12.out]
  rw[hv2]at c1 w1;have ez:ae.add 0=ae:=by unfold Addr.add;simp
  rw[ez]at c1;clear hv hv2 ez;go_enter Tryz.func148,Tryz.ntmps148
  go_wp2_with fail
  refine(a_s _ _ _ xs _ x1 X2.out x3 x4 x5 (by omega)).mono ?_;rintro e w' ⟨rfl,rfl⟩;rw[HSX.out]
  go_wp2_with fail
  refine(a_s _ _ _ ys _ y1 Y2.out y3 y4 y5 (by omega)).mono ?_;rintro e w' ⟨rfl,rfl⟩;rw[HSY.out]
  go_wp2_with fail
  refine(g_w _ _ _ us y _ x9 X10.out (by omega) x11 h w1).mono ?_;rw[X12.out];rintro e w2 ⟨A2,c2,rfl,G2⟩;have hr:=Nat.mod_lt x h;clear c1
  go_wp2_with fail
  refine(f_o (x%y) (by omega) _).mono ?_;rintro e w3 ⟨A3,c3,rfl,G3⟩;have P:Hid (DmPost (x / y) (x%y) w (.returned (.tuple #[.slice A2 (cn 18446744073709551616 (x / y)).length c2,.slice A3 (cn 18446744073709551616 (x%y)).length c3,.bool true])) w3):=
   Lib.hid ⟨A2,c2,A3,c3,rfl,Got.on G2 G3.2,G3.up G2.2⟩
  clear G2 G3
  go_wp2_with fail
  go_ret3
  exact P.out
 ·have q1:((q:Int)==0)=false:=by rw[beq_eq_false_iff_ne];omega
  have q2:((q:Int)==1)=false:=by rw[beq_eq_false_iff_ne];omega
  have q3:2<=q:=by omega
  clear h1;by_cases h2:p<q
  ·have hxy:=HLT.out h2;have hdiv:x / y=0:=Nat.div_eq_of_lt hxy;have hmod:x%y=x:=Nat.mod_eq_of_lt hxy;rw[hdiv,hmod];clear hdiv hmod;go_enter Tryz.func148,Tryz.ntmps148
   go_wp2_with fail
   refine(a_s _ _ _ xs _ x1 X2.out x3 x4 x5 (by omega)).mono ?_;rintro e w' ⟨rfl,rfl⟩;rw[HSX.out]
   go_wp2_with fail
   refine(a_s _ _ _ ys _ y1 Y2.out y3 y4 y5 (by omega)).mono ?_;rintro e w' ⟨rfl,rfl⟩;rw[HSY.out]
   go_wp2_with fail
   refine(e_5 _ _ _ us _ x9 X10.out (by omega) (by omega) x11 (by omega)).mono ?_;rw[X12.out];rintro e w2 ⟨A2,c2,rfl,G2⟩;have P:Hid (DmPost 0 x w (.returned (.tuple #[.slice none 0 0,.slice A2 (cn 18446744073709551616 x).length c2,.bool true])) w2):=
    Lib.hid ⟨none,0,A2,c2,rfl,Got.nil' _ _ G2.2,G2⟩
   clear G2
   go_wp2_with fail
   go_ret3
   exact P.out
  ·go_enter Tryz.func148,Tryz.ntmps148
   go_wp2_with fail
   refine(a_s _ _ _ xs _ x1 X2.out x3 x4 x5 (by omega)).mono ?_;rintro e w' ⟨rfl,rfl⟩;rw[HSX.out]
   go_wp2_with fail
   refine(a_s _ _ _ ys _ y1 Y2.out y3 y4 y5 (by omega)).mono ?_;rintro e w' ⟨rfl,rfl⟩;rw[HSY.out]
   go_wp2_with fail
   refine(f_z _ _ p q _ _ l us vs _ x9 y9 X10.out Y10.out HL.out q3 (by omega) (by omega) (by omega) (by omega) (by omega) x11 y11 HT.out (by omega)).mono ?_;rw[X12.out,Y12.out];rintro e w2 ⟨A2,c2,A3,c3,rfl,G2,G3⟩;have P:Hid (DmPost (x / y) (x%y) w (.returned (.tuple #[.slice A2 (cn 18446744073709551616 (x / y)).length c2,.slice A3 (cn 18446744073709551616 (x%y)).length c3,.bool true])) w2):=
    Lib.hid ⟨A2,c2,A3,c3,rfl,G2,G3⟩
   clear G2 G3
   go_wp2_with fail
   go_ret3
   exact P.out
def NoPost (w:World)(e:Ending)(w':World):Prop:=e= .returned (.tuple #[.slice none 0 0,.bool false])/\Below w.heap.size w w'
theorem k_s {A B:Option Addr}{n m c d x y:Nat}{w:World}(hx:Nv w A n c x)(hy:Nv w B m d y)(hn:n<=549755813888)(hm:m<=549755813888)(h:0<y):
  Calls Tryz.prog 116 #[.slice A n c,.slice B m d] w (TwoPost (x%y) w):=by
 go_enter Tryz.func116,Tryz.ntmps116
 go_wp2_with fail
 refine(c_7 hx hy hn hm h).mono ?_;rintro e w2 ⟨A2,c2,A3,c3,rfl,G2,G3⟩;have P:Hid (TwoPost (x%y) w (.returned (.tuple #[.slice A3 (cn 18446744073709551616 (x%y)).length c3,.bool true])) w2):=Lib.hid ⟨A3,c3,rfl,G3⟩;clear G2 G3
 go_wp2_with fail
 go_ret2
 exact P.out
theorem h_p {A B:Option Addr}{n m c d x y:Nat}{w:World}(hx:Nv w A n c x)(hy:Nv w B m d y)(hn:n<=549755813888)(hm:m<=549755813888)(h:0<y)(h0:x%y=0):
  Calls Tryz.prog 147 #[.slice A n c,.slice B m d] w (TwoPost (x / y) w):=by
 have H0:=Lib.hid h0;clear h0;go_enter Tryz.func147,Tryz.ntmps147
 go_wp2_with fail
 refine(c_7 hx hy hn hm h).mono ?_;rw[H0.out];rintro e w2 ⟨A2,c2,A3,c3,rfl,G2,G3⟩;have P:Hid (TwoPost (x / y) w (.returned (.tuple #[.slice A2 (cn 18446744073709551616 (x / y)).length c2,.bool true])) w2):=Lib.hid ⟨A2,c2,rfl,G2⟩;clear G2 G3;rw[show(cn 18446744073709551616 0).length=0 from rfl]
 go_wp2_with fail
 go_ret2
 exact P.out
theorem exact_no {A B:Option Addr}{n m c d x y:Nat}{w:World}(hx:Nv w A n c x)(hy:Nv w B m d y)(hn:n<=549755813888)(hm:m<=549755813888)(h:0<y)(h0:x%y≠0):
  Calls Tryz.prog 147 #[.slice A n c,.slice B m d] w (NoPost w):=by
 have hl:0<(cn 18446744073709551616 (x%y)).length:=by
  rcases Nat.eq_zero_or_pos (cn 18446744073709551616 (x%y)).length with h1|h1
  ·exact absurd ((c_o _ _ (by omega)).1 h1) h0
  ·exact h1
 clear h0;go_enter Tryz.func147,Tryz.ntmps147
 go_wp2_with fail
 refine(c_7 hx hy hn hm h).mono ?_;rintro e w2 ⟨A2,c2,A3,c3,rfl,G2,G3⟩;have B2:=G2.2;clear G2 G3;generalize(cn 18446744073709551616 (x%y)).length=k at *
 go_wp2_with fail
 go_ret2
 exact⟨rfl,B2⟩
theorem Got.cv {w w':World}{A:Option Addr}{c v:Nat}(h:Got w w' 85 .u64 A c (cn 18446744073709551616 v)):Cv w' A (cn 18446744073709551616 v).length c v:=by
 have hc:=h.cap;exact⟨h.rd,rfl,hc.1,by have:=hc.2;unfold maxLen at this;omega⟩
def DmCv (q r kq kr:Nat)(w:World)(e:Ending)(w':World):Prop:=
 ∃A n c A' n' c',e= .returned (.tuple #[.slice A n c,.slice A' n' c',.bool true])/\Cv w' A n c q/\Cv w' A' n' c' r/\n<=kq/\n'<=kr/\Below w.heap.size w w'
theorem d_n {x y n:Nat}(h:x<18446744073709551616^n):x / y<18446744073709551616^n:=Nat.lt_of_le_of_lt (Nat.div_le_self _ _) h
theorem dm_v {A B:Option Addr}{n m c d x y:Nat}{w:World}(hx:Nv w A n c x)(hy:Nv w B m d y)(hn:n<=549755813888)(hm:m<=549755813888)(h:0<y):
  Calls Tryz.prog 148 #[.slice A n c,.slice B m d] w (DmCv (x / y) (x%y) n m w):=by
 have l1:=hx.lt;have l2:=hy.lt;refine(c_7 hx hy hn hm h).mono ?_;rintro e w' ⟨A2,c2,A3,c3,rfl,G2,G3⟩;exact⟨_,_,_,_,_,_,rfl,G2.cv,G3.cv,a_h _ _ _ (by omega) (d_n l1),a_h _ _ _ (by omega) (Nat.lt_trans (Nat.mod_lt _ h) l2),G2.2⟩
def TwoCv (v k:Nat)(w:World)(e:Ending)(w':World):Prop:=
 ∃A n c,e= .returned (.tuple #[.slice A n c,.bool true])/\Cv w' A n c v/\n<=k/\Below w.heap.size w w'
theorem TwoPost.cv {v k:Nat}{w w':World}{e:Ending}(h:TwoPost v w e w')(hk:v<18446744073709551616^k):TwoCv v k w e w':=by
 obtain⟨A,c,rfl,hg⟩:=h;exact⟨A,_,c,rfl,hg.cv,a_h _ _ _ (by omega) hk,hg.2⟩
theorem s_j {A B:Option Addr}{n m c d x y:Nat}{w:World}(hx:Nv w A n c x)(hy:Nv w B m d y)(hn:n<=549755813888)(hm:m<=549755813888)(h:0<y):
  Calls Tryz.prog 116 #[.slice A n c,.slice B m d] w (TwoCv (x%y) m w):=
 (k_s hx hy hn hm h).mono fun _ _ k=>k.cv (Nat.lt_trans (Nat.mod_lt _ h) hy.lt)
theorem q_c {A B:Option Addr}{n m c d x y:Nat}{w:World}(hx:Nv w A n c x)(hy:Nv w B m d y)(hn:n<=549755813888)(hm:m<=549755813888)(h:0<y)(h0:x%y=0):
  Calls Tryz.prog 147 #[.slice A n c,.slice B m d] w (TwoCv (x / y) n w):=
 (h_p hx hy hn hm h h0).mono fun _ _ k=>k.cv (d_n hx.lt)
end
section
open Go.RowKit
def dqv (s t u:Bool)(X Y:Nat):Int:=if X%Y≠0/\s≠u then sg (!(s==t)) (X / Y+1)else sg (!(s==t)) (X / Y)
def drv (s u:Bool)(X Y:Nat):Int:=if X%Y≠0/\s≠u then sg u (Y - X%Y)else sg u (X%Y)
theorem n_6 {s t u:Bool}{X Y:Nat}(hY:0<Y):dqv s t u X Y*sg t Y+drv s u X Y=sg s X:=by
 have h1:=Nat.div_add_mod X Y;have h2:=Nat.mod_lt X hY;unfold dqv drv;generalize X / Y=q at *;generalize X%Y=r at *;subst h1;have e:((Y*q+r:Nat):Int)=(q:Int)*(Y:Int)+(r:Int):=by push_cast;rw[Int.mul_comm]
 by_cases h:r≠0/\s≠u
 ·rw[if_pos h,if_pos h];have e2:((Y - r:Nat):Int)=(Y:Int) - (r:Int):=by omega
  obtain⟨_,h⟩:=h;cases s<;>cases t<;>cases u<;>simp[sg,e,e2,Int.add_mul,Int.neg_mul,Int.mul_neg]at* <;>omega
 ·rw[if_neg h,if_neg h];by_cases h0:r=0
  ·subst h0;cases s<;>cases t<;>cases u<;>simp[sg,e,Int.add_mul,Int.neg_mul,Int.mul_neg,Int.mul_comm]at *
  ·have hsu:s=u:=by
    by_cases h3:s=u
    ·exact h3
    ·exact absurd ⟨h0,h3⟩ h
   subst hsu;cases s<;>cases t<;>simp[sg,e,Int.add_mul,Int.neg_mul,Int.mul_neg]at* <;>omega
theorem n_5 {s u:Bool}{X Y:Nat}(hY:0<Y):∃R,R<Y/\drv s u X Y=sg u R:=by
 have h2:=Nat.mod_lt X hY;unfold drv;split
 ·exact⟨_,by omega,rfl⟩
 ·exact⟨_,h2,rfl⟩
def Z2Post (q r:Int)(kq kr:Nat)(w:World)(e:Ending)(w':World):Prop:=
 ∃s A n c t B m d,e= .returned (.tuple #[.agg #[.bool s,.slice A n c],.agg #[.bool t,.slice B m d],.bool true])/\Zc w' s A n c q/\Zc w' t B m d r/\n<=kq/\m<=kr/\Below w.heap.size w w'
theorem Ib.put' {w:World}{A B:Option Addr}{n c g g' m d:Nat}{s t:Bool}(h:Ib w g s A n c)(hg:g≠g'):Ib ((w.setCell ⟨g',0,none⟩ (.bool t)).setCell ⟨g',1,none⟩ (.slice B m d)) g s A n c:=Ib.put (l:=0) (e:=0) (u:=true) (C:=none) h hg
theorem zfin22 {w w2:World}{A B C D:Option Addr}{n c m d g g' kq kr n1 c1 m1 d1:Nat}{s t s1 t1:Bool}{q r:Int}(hq:Zc w2 s A n c q)(hr:Zc w2 t B m d r)(hi:Ib w2 g s1 C n1 c1)(hj:Ib w2 g' t1 D m1 d1)(hne:g≠g')(hk:n<=kq)(hk':m<=kr)
  (hg:w.heap.size<=g) (hg':w.heap.size<=g') (hB:Below w.heap.size w w2):
  Z2Post q r kq kr w (.returned (.tuple #[.agg #[.bool s,.slice A n c],.agg #[.bool t,.slice B m d],.bool true])) ((((w2.setCell ⟨g,0,none⟩ (.bool s)).setCell ⟨g,1,none⟩ (.slice A n c)).setCell ⟨g',0,none⟩ (.bool t)).setCell ⟨g',1,none⟩ (.slice B m d)):=
 ⟨s,A,n,c,t,B,m,d,rfl,(hq.put hi).put (hj.put' (t:=s) (B:=A) (m:=n) (d:=c) (Ne.symm hne)),(hr.put hi).put (hj.put' (t:=s) (B:=A) (m:=n) (d:=c) (Ne.symm hne)),hk,hk',a_l (a_l hB hg) hg'⟩
theorem open4 (w:World)(s t:Bool)(A B:Option Addr)(n c m d:Nat):
  ∃w3,w3=(((w.alloc (.cells #[.bool s,.slice A n c] 31)).alloc (.cells #[.bool t,.slice B m d] 31)).alloc (.cells #[.bool false,.slice none 0 0] 31)).alloc (.cells #[.bool false,.slice none 0 0] 31)/\
   Ib w3 w.heap.size s A n c/\Ib w3 (w.heap.size+1) t B m d/\Ib w3 (w.heap.size+1+1) false none 0 0/\Ib w3 (w.heap.size+1+1+1) false none 0 0/\Below w.heap.size w w3:=by
 obtain⟨w3,h,h1,h2,h3,h4⟩:=open3 w s t A B n c m d;have e:w3.heap.size=w.heap.size+1+1+1:=by rw[h];simp
 refine⟨w3.alloc (.cells #[.bool false,.slice none 0 0] 31),by rw[h],h1.below (zba _ _),h2.below (zba _ _),h3.below (zba _ _), ?_,zup h4 (zba _ _)⟩;rw[<-e];exact Ib.new _ _ _ _ _ _
theorem s_r {s t u:Bool}{X Y:Nat}(h:X%Y=0):dqv s t u X Y=sg (!(s==t)) (X / Y)/\drv s u X Y=sg u (X%Y):=by
 unfold dqv drv;rw[if_neg (by omega),if_neg (by omega)];exact⟨rfl,rfl⟩
theorem s_q {s t u:Bool}{X Y:Nat}(h:s=u):dqv s t u X Y=sg (!(s==t)) (X / Y)/\drv s u X Y=sg u (X%Y):=by
 unfold dqv drv;rw[if_neg (fun k=>k.2 h),if_neg (fun k=>k.2 h)];exact⟨rfl,rfl⟩
theorem s_p {s t u:Bool}{X Y:Nat}(h0:X%Y≠0)(h:s≠u):dqv s t u X Y=sg (!(s==t)) (X / Y+1)/\drv s u X Y=sg u (Y - X%Y):=by
 unfold dqv drv;rw[if_pos ⟨h0,h⟩,if_pos ⟨h0,h⟩];exact⟨rfl,rfl⟩
theorem f_1 {A B:Option Addr}{n m c d:Nat}{s t u:Bool}{x y q r:Int}{w:World}(hx:Zv w s A n c x)(hy:Zv w t B m d y)(hn:n<=549755813888)(hm:m<=549755813888)(h0:y≠0)
  (hq:dqv s t u x.natAbs y.natAbs=q) (hr:drv s u x.natAbs y.natAbs=r):
  Calls Tryz.prog 165 #[.agg #[.bool s,.slice A n c],.agg #[.bool t,.slice B m d],.bool u] w (Z2Post q r (n+2) m w):=by
 obtain⟨w3,hw3,IA,IB,I6,I7,z0⟩:=open4 w s t A B n c m d;obtain⟨hx1,ex⟩:=hx.up z0;obtain⟨hy1,ey⟩:=hy.up z0;have hY:0<y.natAbs:=by omega
 generalize x.natAbs=X at *;generalize y.natAbs=Y at *;obtain⟨b,hb⟩:∃b,(!(s==t))=b:=⟨_,rfl⟩;have HZ:=Lib.hid z0;have HW:=Lib.hid hw3.symm;have HA:=Lib.hid IA;have HB:=Lib.hid IB;have H6:=Lib.hid I6;have H7:=Lib.hid I7;have HY1:=Lib.hid hy1;have hlt:=Nat.mod_lt X hY;clear hx hy ex ey z0 hw3 I6 I7 h0;obtain⟨a1,a2,a3,a4,a5⟩:=IA;obtain⟨b1,b2,b3,b4,b5⟩:=IB;by_cases hmod:X%Y=0
 ·obtain⟨e1,e2⟩:=s_r (s:=s) (t:=t) (u:=u) hmod;rw[hb]at e1;have HQ:=Lib.hid (e1.symm.trans hq);have HR:=Lib.hid (e2.symm.trans hr);have HM:=Lib.hid hmod;clear e1 e2 hq hr hmod;go_enter Tryz.func165,Tryz.ntmps165
  go_wp2_with fail
  rw[HW.out];refine(dm_v hx1 hy1 hn hm hY).mono ?_;rintro e w4 ⟨A4,n4,c4,A5,n5,c5,rfl,p4,p5,k4,k5,B4⟩;obtain⟨u1,u2,_⟩:=HA.out.below B4;obtain⟨u3,u4,_⟩:=HB.out.below B4;have hn5:n5=0:=by have:=p5.pos;rw[HM.out]at this;simp at this;omega
  subst hn5;clear a1 a2 a3 a4 a5 b1 b2 b3 b4 b5 hx1 hy1
  go_wp2_with fail
  refine(a_v p4).mono ?_;rintro e w6 ⟨s6,A6,n6,c6,rfl,p6,k6,B6⟩;rw[HQ.out]at p6;have p5':=p5.below B6;have Q6:=zup B4 B6;clear u1 u2 u3 u4 p4 p5
  go_wp2_with fail
  refine(a_v p5').mono ?_;rintro e w7 ⟨s7,A7,n7,c7,rfl,p7,k7,B7⟩;rw[HR.out]at p7;have Q7:=zup Q6 B7;have p6':=p6.below B7;have J6:=H6.out.below Q7;have J7:=H7.out.below Q7;have P:=Lib.hid (zfin22 p6' p7 J6 J7 (kq:=n+2) (kr:=m) (by omega) (by omega) (by omega) (by omega) (by omega) (zup HZ.out Q7));obtain⟨r1,r2,r3,r4,r5⟩:=J6;obtain⟨t1,t2,t3,t4,t5⟩:=J7;clear p5' p6' p6 p7 B4 B6 B7 Q6 Q7 k4 k5 k6 k7
  go_wp2_with fail
  exact bodyPost_ret (v:=.tuple #[.agg #[.bool s6,.slice A6 n6 c6],.agg #[.bool s7,.slice A7 n7 c7],.bool true]) (by simp[results,Tryz.results165,go_sem,r1,r2,t1,t2]) rfl P.out
 ·by_cases hu:s=u
  ·subst hu;obtain⟨e1,e2⟩:=s_q (s:=s) (t:=t) (u:=s) (X:=X) (Y:=Y) rfl;rw[hb]at e1;have HQ:=Lib.hid (e1.symm.trans hq);have HR:=Lib.hid (e2.symm.trans hr);have q1:(s==s)=true:=by simp
   clear e1 e2 hq hr;go_enter Tryz.func165,Tryz.ntmps165
   go_wp2_with fail
   rw[HW.out];refine(dm_v hx1 hy1 hn hm hY).mono ?_;rintro e w4 ⟨A4,n4,c4,A5,n5,c5,rfl,p4,p5,k4,k5,B4⟩;obtain⟨u1,u2,_⟩:=HA.out.below B4;obtain⟨u3,u4,_⟩:=HB.out.below B4;have hn5:0<n5:=by have:=p5.pos;rw[decide_eq_decide]at this;omega
   clear a1 a2 a3 a4 a5 b1 b2 b3 b4 b5 hx1 hy1
   go_wp2_with fail
   refine(a_v p4).mono ?_;rintro e w6 ⟨s6,A6,n6,c6,rfl,p6,k6,B6⟩;rw[HQ.out]at p6;have p5':=p5.below B6;have Q6:=zup B4 B6;clear u1 u2 u3 u4 p4 p5
   go_wp2_with fail
   refine(a_v p5').mono ?_;rintro e w7 ⟨s7,A7,n7,c7,rfl,p7,k7,B7⟩;rw[HR.out]at p7;have Q7:=zup Q6 B7;have p6':=p6.below B7;have J6:=H6.out.below Q7;have J7:=H7.out.below Q7;have P:=Lib.hid (zfin22 p6' p7 J6 J7 (kq:=n+2) (kr:=m) (by omega) (by omega) (by omega) (by omega) (by omega) (zup HZ.out Q7));obtain⟨r1,r2,r3,r4,r5⟩:=J6;obtain⟨t1,t2,t3,t4,t5⟩:=J7;clear p5' p6' p6 p7 B4 B6 B7 Q6 Q7 k4 k5 k6 k7
   go_wp2_with fail
   exact bodyPost_ret (v:=.tuple #[.agg #[.bool s6,.slice A6 n6 c6],.agg #[.bool s7,.slice A7 n7 c7],.bool true]) (by simp[results,Tryz.results165,go_sem,r1,r2,t1,t2]) rfl P.out
  ·obtain⟨e1,e2⟩:=s_p (s:=s) (t:=t) (u:=u) hmod hu;rw[hb]at e1;have HQ:=Lib.hid (e1.symm.trans hq);have HR:=Lib.hid (e2.symm.trans hr);have q1:(s==u)=false:=by cases s<;>cases u<;>simp at *
   clear e1 e2 hq hr hu;go_enter Tryz.func165,Tryz.ntmps165
   go_wp2_with fail
   rw[HW.out];refine(dm_v hx1 hy1 hn hm hY).mono ?_;rintro e w4 ⟨A4,n4,c4,A5,n5,c5,rfl,p4,p5,k4,k5,B4⟩;obtain⟨u1,u2,_⟩:=HA.out.below B4;obtain⟨u3,u4,_⟩:=HB.out.below B4;have hn5:0<n5:=by have:=p5.pos;rw[decide_eq_decide]at this;omega
   clear a1 a2 a3 a4 a5 b1 b2 b3 b4 b5 hx1 hy1
   go_wp2_with fail
   refine(j_q 1 (by omega) _).mono ?_;rintro e w8 ⟨A8,n8,c8,rfl,p8,k8,B8⟩;have p4':=p4.below B8;have p5':=p5.below B8;have Q8:=zup B4 B8;clear u1 u2 u3 u4 p4 p5
   go_wp2_with fail
   refine(l_w p4'.nv p8.nv (by omega) (by omega)).mono ?_;rintro e w9 ⟨A9,n9,c9,rfl,p9,k9,B9⟩;have p5:=p5'.below B9;have Q9:=zup Q8 B9;obtain⟨u3,u4,_⟩:=HB.out.below Q9;have hy9:=HY1.out.below Q9;clear p4' p8 p5' B8 Q8
   go_wp2_with fail
   refine(f_k hy9 p5.nv (by omega) (by omega)).mono ?_;rintro e w10 ⟨A10,n10,c10,rfl,p10,k10,B10⟩;have Q10:=zup Q9 B10;have p9':=p9.below B10;clear u3 u4 p5 p9 hy9;obtain⟨u1,u2,_⟩:=HA.out.below Q10;obtain⟨u3,u4,_⟩:=HB.out.below Q10
   go_wp2_with fail
   refine(a_v p9').mono ?_;rintro e w6 ⟨s6,A6,n6,c6,rfl,p6,k6,B6⟩;rw[HQ.out]at p6;have p10':=p10.below B6;have Q6:=zup Q10 B6;clear u1 u2 u3 u4 p9' p10
   go_wp2_with fail
   refine(a_v p10').mono ?_;rintro e w7 ⟨s7,A7,n7,c7,rfl,p7,k7,B7⟩;rw[HR.out]at p7;have Q7:=zup Q6 B7;have p6':=p6.below B7;have J6:=H6.out.below Q7;have J7:=H7.out.below Q7;have P:=Lib.hid (zfin22 p6' p7 J6 J7 (kq:=n+2) (kr:=m) (by omega) (by omega) (by omega) (by omega) (by omega) (zup HZ.out Q7));obtain⟨r1,r2,r3,r4,r5⟩:=J6;obtain⟨t1,t2,t3,t4,t5⟩:=J7;clear p10' p6' p6 p7 B4 B6 B7 B9 B10 Q9 Q10 Q6 Q7 k4 k5 k6 k7 k8 k9 k10
   go_wp2_with fail
   exact bodyPost_ret (v:=.tuple #[.agg #[.bool s6,.slice A6 n6 c6],.agg #[.bool s7,.slice A7 n7 c7],.bool true]) (by simp[results,Tryz.results165,go_sem,r1,r2,t1,t2]) rfl P.out
def Z2No (w:World)(e:Ending)(w':World):Prop:=e= .returned (.tuple #[.agg #[.bool false,.slice none 0 0],.agg #[.bool false,.slice none 0 0],.bool false])/\Below w.heap.size w w'
theorem zdivide_no {A B:Option Addr}{n m c d:Nat}{s t u:Bool}{x:Int}{w:World}(hx:Zv w s A n c x)(hy:Zv w t B m d 0)(hn:n<=549755813888)(hm:m<=549755813888):
  Calls Tryz.prog 165 #[.agg #[.bool s,.slice A n c],.agg #[.bool t,.slice B m d],.bool u] w (Z2No w):=by
 obtain⟨w3,hw3,IA,IB,I6,I7,z0⟩:=open4 w s t A B n c m d;obtain⟨hx1,ex⟩:=hx.up z0;obtain⟨hy1,ey⟩:=hy.up z0;rw[show(0:Int).natAbs=0 from rfl]at hy1;have HZ:=Lib.hid z0;have HW:=Lib.hid hw3.symm;have H6:=Lib.hid I6;have H7:=Lib.hid I7;clear hx hy ex ey z0 hw3 I6 I7;obtain⟨b,hb⟩:∃b,(!(s==t))=b:=⟨_,rfl⟩;obtain⟨a1,a2,a3,a4,a5⟩:=IA;obtain⟨b1,b2,b3,b4,b5⟩:=IB;have HA:=Lib.hid (And.intro a1 b1);go_enter Tryz.func165,Tryz.ntmps165
 go_wp2_with fail
 rw[HW.out];refine(q_d hx1 hy1 hn hm).mono ?_;rintro e w4 ⟨rfl,rfl⟩;clear hx1 hy1
 go_wp2_with fail
 refine(c_f none 0 0 b false w3 (by simp)).mono ?_;rintro e w6 ⟨rfl,B6⟩;clear a1 a2 a3 a4 a5 b1 b2 b3 b4 b5
 go_wp2_with fail
 refine(c_f none 0 0 u false w6 (by simp)).mono ?_;rintro e w7 ⟨rfl,B7⟩;have Q7:=zup B6 B7;have P:=Lib.hid (a_l (a_l (zup HZ.out Q7) (g:=w.heap.size+1+1) (A:=none) (n:=0) (c:=0) (s:=false) (by omega)) (g:=w.heap.size+1+1+1) (A:=none) (n:=0) (c:=0) (s:=false) (by omega));obtain⟨r1,r2,r3,r4,r5⟩:=H6.out.below Q7;obtain⟨t1,t2,t3,t4,t5⟩:=H7.out.below Q7;clear B6 B7 Q7
 go_wp2_with fail
 exact bodyPost_ret (v:=.tuple #[.agg #[.bool false,.slice none 0 0],.agg #[.bool false,.slice none 0 0],.bool false]) (by simp[results,Tryz.results165,go_sem,r1,r2,t1,t2]) rfl ⟨rfl,P.out⟩
theorem h_1 {A B:Option Addr}{n m c d:Nat}{s t:Bool}{x y q r:Int}{w:World}(hx:Zv w s A n c x)(hy:Zv w t B m d y)(hn:n<=549755813888)(hm:m<=549755813888)(h0:y≠0)
  (hq:dqv s t t x.natAbs y.natAbs=q) (hr:drv s t x.natAbs y.natAbs=r):
  Calls Tryz.prog 132 #[.agg #[.bool s,.slice A n c],.agg #[.bool t,.slice B m d]] w (Z2Post q r (n+2) m w):=by
 obtain⟨w3,hw3,IA,IB,I6,I7,z0⟩:=open4 w s t A B n c m d;have hX:=hx.below z0;have hY:=hy.below z0;have HZ:=Lib.hid z0;have HW:=Lib.hid hw3.symm;have H6:=Lib.hid I6;have H7:=Lib.hid I7;have HQ:=Lib.hid hq;have HR:=Lib.hid hr;clear hx hy z0 hw3 I6 I7 hq hr;obtain⟨a1,a2,a3,a4,a5⟩:=IA;obtain⟨b1,b2,b3,b4,b5⟩:=IB;go_enter Tryz.func132,Tryz.ntmps132
 go_wp2_with fail
 rw[HW.out];refine(f_1 hX hY hn hm h0 HQ.out HR.out).mono ?_;rintro e w4 ⟨s6,A6,n6,c6,s7,A7,n7,c7,rfl,p6,p7,k6,k7,B4⟩;have J6:=H6.out.below B4;have J7:=H7.out.below B4;have P:=Lib.hid (zfin22 p6 p7 J6 J7 (kq:=n+2) (kr:=m) (by omega) (by omega) (by omega) (by omega) (by omega) (zup HZ.out B4));obtain⟨r1,r2,r3,r4,r5⟩:=J6;obtain⟨t1,t2,t3,t4,t5⟩:=J7;clear p6 p7 B4 hX hY a1 a2 a3 a4 a5 b1 b2 b3 b4 b5 k6 k7 h0
 go_wp2_with fail
 exact bodyPost_ret (v:=.tuple #[.agg #[.bool s6,.slice A6 n6 c6],.agg #[.bool s7,.slice A7 n7 c7],.bool true]) (by simp[results,Tryz.results132,go_sem,r1,r2,t1,t2]) rfl P.out
theorem d_6 {A B:Option Addr}{n m c d:Nat}{s t:Bool}{x y q r:Int}{w:World}(hx:Zv w s A n c x)(hy:Zv w t B m d y)(hn:n<=549755813888)(hm:m<=549755813888)(h0:y≠0)
  (hq:dqv s t false x.natAbs y.natAbs=q) (hr:drv s false x.natAbs y.natAbs=r):
  Calls Tryz.prog 213 #[.agg #[.bool s,.slice A n c],.agg #[.bool t,.slice B m d]] w (Z2Post q r (n+2) m w):=by
 obtain⟨w3,hw3,IA,IB,I6,I7,z0⟩:=open4 w s t A B n c m d;have hX:=hx.below z0;have hY:=hy.below z0;have HZ:=Lib.hid z0;have HW:=Lib.hid hw3.symm;have H6:=Lib.hid I6;have H7:=Lib.hid I7;have HQ:=Lib.hid hq;have HR:=Lib.hid hr;clear hx hy z0 hw3 I6 I7 hq hr;obtain⟨a1,a2,a3,a4,a5⟩:=IA;obtain⟨b1,b2,b3,b4,b5⟩:=IB;go_enter Tryz.func213,Tryz.ntmps213
 go_wp2_with fail
 rw[HW.out];refine(f_1 hX hY hn hm h0 HQ.out HR.out).mono ?_;rintro e w4 ⟨s6,A6,n6,c6,s7,A7,n7,c7,rfl,p6,p7,k6,k7,B4⟩;have J6:=H6.out.below B4;have J7:=H7.out.below B4;have P:=Lib.hid (zfin22 p6 p7 J6 J7 (kq:=n+2) (kr:=m) (by omega) (by omega) (by omega) (by omega) (by omega) (zup HZ.out B4));obtain⟨r1,r2,r3,r4,r5⟩:=J6;obtain⟨t1,t2,t3,t4,t5⟩:=J7;clear p6 p7 B4 hX hY a1 a2 a3 a4 a5 b1 b2 b3 b4 b5 k6 k7 h0
 go_wp2_with fail
 exact bodyPost_ret (v:=.tuple #[.agg #[.bool s6,.slice A6 n6 c6],.agg #[.bool s7,.slice A7 n7 c7],.bool true]) (by simp[results,Tryz.results213,go_sem,r1,r2,t1,t2]) rfl P.out
end
end Go.Proofs.YtfhbdlegkdbmfaaGreat
section
namespace Go.Proofs.YtfhbdlegkdbmfaaGreat
open Go.RowKit
theorem l_b {s t:Bool}{X Y:Nat}{x y q:Int}(ex:x=sg s X)(ey:y=sg t Y)(h0:0<Y)(hq:q*y=x):X%Y=0/\sg (!(s==t)) (X / Y)=q:=by
 have e1:q.natAbs*Y=X:=by
  have:=congrArg Int.natAbs hq;rwa [Int.natAbs_mul,ex,ey,e_1,e_1]at this
 have e2:X / Y=q.natAbs:=by rw[<-e1];exact Nat.mul_div_cancel _ h0
 refine⟨by rw[<-e1];exact Nat.mul_mod_left _ _, ?_⟩;have e3:sg (!(s==t)) (X / Y)*y=q*y:=by
  have h1:=n_w (!(s==t)) t (X / Y) Y;have h2:X / Y*Y=X:=by rw[e2,e1]
  rw[h2]at h1;rw[hq,ey,<-h1,ex];cases s<;>cases t<;>rfl
 have hy:y≠0:=by rw[ey];cases t<;>simp[sg]<;>omega
 exact Int.eq_of_mul_eq_mul_right hy e3
theorem c_i {A B:Option Addr}{n m c d:Nat}{s t:Bool}{x y q:Int}{w:World}(hx:Zv w s A n c x)(hy:Zv w t B m d y)(hn:n<=549755813888)(hm:m<=549755813888)(h0:y≠0)(hq:q*y=x):
  Calls Tryz.prog 113 #[.agg #[.bool s,.slice A n c],.agg #[.bool t,.slice B m d]] w (ZPowPost q n w):=by
 obtain⟨w3,hw3,IA,IB,IR,z0⟩:=open3 w s t A B n c m d;obtain⟨hx1,ex⟩:=hx.up z0;obtain⟨hy1,ey⟩:=hy.up z0;have hY:0<y.natAbs:=by omega
 obtain⟨hmod,hs⟩:=l_b ex.out ey.out hY hq;generalize x.natAbs=X at *;generalize y.natAbs=Y at *;obtain⟨b,hb⟩:∃b,(!(s==t))=b:=⟨_,rfl⟩;rw[hb]at hs;have HZ:=Lib.hid z0;have HS:=Lib.hid hs;have HW:=Lib.hid hw3.symm;have HM:=Lib.hid hmod;have HA:=Lib.hid IA;have HB:=Lib.hid IB;have HR:=Lib.hid IR;clear hx hy ex ey hs z0 hw3 IR h0 hq hmod;obtain⟨a1,a2,a3,a4,a5⟩:=IA;obtain⟨b1,b2,b3,b4,b5⟩:=IB;go_enter Tryz.func113,Tryz.ntmps113
 go_wp2_with fail
 rw[HW.out];refine(q_c hx1 hy1 hn hm hY HM.out).mono ?_;rintro e w4 ⟨A4,n4,c4,rfl,p4,k4,B4⟩;obtain⟨u1,u2,_⟩:=HA.out.below B4;obtain⟨u3,u4,_⟩:=HB.out.below B4;clear a1 a2 a3 a4 a5 b1 b2 b3 b4 b5 hx1 hy1
 go_wp2_with fail
 refine(a_v p4).mono ?_;rintro e w5 ⟨s5,A5,n5,c5,rfl,p5,k5,B5⟩;have Q5:=zup B4 B5;rw[HS.out]at p5;obtain⟨r1,r2,r3,r4,r5⟩:=HR.out.below Q5;have P:=Lib.hid (zfin2 p5 ⟨r1,r2,r3,r4,r5⟩ (k:=n) (by omega) (by omega) (zup HZ.out Q5));clear p4 p5 B4 B5 Q5 k4 k5 u1 u2 u3 u4
 go_wp2_with fail
 exact bodyPost_ret (v:=.tuple #[.agg #[.bool s5,.slice A5 n5 c5],.bool true]) (by simp[results,Tryz.results113,go_sem,r1,r2]) rfl P.out
end Go.Proofs.YtfhbdlegkdbmfaaGreat
namespace Go.Proofs.YtfhbdlegkdbmfaaGreat
open Go.RowKit
def VarCut (w0:World)(z:Int)(k:Nat)(v:Value)(wx:World):Prop:=
 ∃g s A n c,v= .pointer (some ⟨g,0,none⟩)/\w0.heap.size<=g/\Ib wx g s A n c/\Zc wx s A n c z/\n<=k/\Below w0.heap.size w0 wx
theorem VarCut.put {w0 w:World}{z:Int}{k g n c m d:Nat}{s t:Bool}{A B:Option Addr}(j:Ib w g t B m d)(p:Zc w s A n c z)(q:Below w0.heap.size w0 w)(hg:w0.heap.size<=g)(hk:n<=k):
  VarCut w0 z k (.pointer (some ⟨g,0,none⟩)) ((w.setCell ⟨g,0,none⟩ (.bool s)).setCell ⟨g,1,none⟩ (.slice A n c)):=
 ⟨g,s,A,n,c,rfl,hg,j.own,p.put j,hk,a_l q hg⟩
theorem VarCut.new {w0 w:World}{z:Int}{k n c:Nat}{s:Bool}{A:Option Addr}{t:TypeId}(p:Zc w s A n c z)(q:Below w0.heap.size w0 w)(hk:n<=k):
  VarCut w0 z k (.pointer (some ⟨w.heap.size,0,none⟩)) (w.alloc (.cells #[.bool s,.slice A n c] t)):=
 ⟨_,s,A,n,c,rfl,q.size,Ib.new _ _ _ _ _ _,p.below (zba _ _),hk,zup q (zba _ _)⟩
theorem zbd (w:World)(o:Obj):Below w.heap.size w (w.alloc o).drew:=zup (zba w o) (a_a _)
theorem zbd2 (w:World)(o p:Obj):Below w.heap.size w ((w.alloc o).alloc p).drew:=zup (zba2 w o p) (a_a _)
theorem Ib.newd (w:World)(s:Bool)(A:Option Addr)(n c:Nat)(t:TypeId):Ib (w.alloc (.cells #[.bool s,.slice A n c] t)).drew w.heap.size s A n c:=(Ib.new w s A n c t).below (a_a _)
end Go.Proofs.YtfhbdlegkdbmfaaGreat
end
namespace Go.Proofs.YtfhbdlegkdbmfaaGreat
section
open Go.RowKit
section
variable {g o:Nat}
variable {w:World}{T:TypeId}{cs:List Value}
theorem o_9 {w:World}{H i n c:Nat}(h:i<n):(Instr.indexAt 98 (.slice (some ⟨H,0,none⟩) n c) (.int .i64 (i:Int))).run Tryz.prog w= .ok (.pointer (some ⟨H,i,none⟩)) w:=by
 simp[go_sem,Tryz.underlying98,show Tryz.prog.cellsOf 25=1 by kernel_rfl];omega
theorem opIxS {H i n c:Nat}{X Y:Operand}(h:i<n)(w:World):RunTwo Tryz.prog (.indexAddr 98 X Y) w (.slice (some ⟨H,0,none⟩) n c) (.int .i64 (i:Int)) (.pointer (some ⟨H,i,none⟩)):=o_9 h
end
def rw' (C:Nat)(f:Nat->Int):List Int:=(List.range C).map f
theorem c_q (C:Nat)(f:Nat->Int):(rw' C f).length=C:=by simp[rw']
theorem k_e {C j:Nat}{f:Nat->Int}(h:j<C):ith (rw' C f) j=f j:=by simp[ith,rw',List.getD,h]
def RowOk (w:World)(S:List Nat)(v:Value)(C K:Nat)(f:Nat->Int):Prop:=∃A c,v= .slice A C c/\ZL true w A C c K (rw' C f)/\(0<C->∀ad,A=some ad->ad.block ∉ S)
section
variable {w w':World}{S S':List Nat}{v:Value}{C K K':Nat}{f f':Nat->Int}
end
def blkOf (v:Value):List Nat:=match v.ownBlock with|some x=>[x] |none=>[]
def ints (ps:List Nat):List Value:=ps.map fun p:Nat=>Value.int .i64 (p:Int)
structure Xt where
 T:TypeId
 ex:List Value
 nw:∀v,v∈ex->∀m:Int,v≠ .int .u64 m
 P:World->List Nat->Prop
 pb:∀w w' S,P w S->Below w.heap.size w w'->P w' S
 pg:∀w w' S x,P w S->x∈S->Wless w x->w.grownBy w' (some x)->P w' S
 pm:∀w S S',P w S->(∀x,x∈S'->x∈S\/w.heap.size<=x)->P w S'
structure RAt (xt:Xt) (b:Nat) (w:World) (g H R C Ka:Nat) (K:Nat->Nat) (M:Nat->Nat->Int) (ps:List Nat) (h:Int) (s:Bool) (vp:Value) (sa:Bool) (A:Option Addr) (n c:Nat) (rows:List Value):Prop where
 bx:Bx w g xt.T (.slice (some ⟨H,0,none⟩) R R::vp:: .bool sa:: .slice A n c:: .bool s::xt.ex)
 hd:Bx w H 25 rows
 len:rows.length=R
 ne:g≠H
 bg:b<=g
 bh:b<=H
 own:OwnI w b 3 vp ps.length (ints ps)
 pg:vp.ownBlock≠some g
 ph:vp.ownBlock≠some H
 az:Zc w sa A n c h
 an:n<=Ka
 row:∀i,i<R->∃v,rows[i]? =some v/\RowOk w (g::H::blkOf vp) v C (K i) (M i)
 ct:xt.P w (g::H::blkOf vp)
section
variable {xt:Xt}{b:Nat}{w w':World}{g H R C Ka Ka':Nat}{K K':Nat->Nat}{M M':Nat->Nat->Int}{ps:List Nat}{h:Int}{s:Bool}{vp:Value}{sa:Bool}{A:Option Addr}{n c:Nat}{rows:List Value}
end
def Rdc (xt:Xt)(b:Nat)(w:World)(g R C K:Nat)(M:Nat->Nat->Int)(ps:List Nat)(h:Int)(s:Bool):Prop:=∃H vp sa A n c rows,RAt xt b w g H R C K (fun _=>K) M ps h s vp sa A n c rows
end
end Go.Proofs.YtfhbdlegkdbmfaaGreat
