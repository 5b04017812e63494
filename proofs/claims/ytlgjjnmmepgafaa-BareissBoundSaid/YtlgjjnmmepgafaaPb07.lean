/- Pb07 -/
import Derived.Test.YtlgjjnmmepgafaaPb04
import Derived.Test.YtlgjjnmmepgafaaPb06
import Derived.Deep.RegionHeld3
set_option linter.unusedVariables false
set_option linter.unusedSimpArgs false
set_option linter.unusedSectionVars false
set_option maxRecDepth 100000
set_option maxHeartbeats 8000000
namespace Go.Proofs.Ytlgjjnmmepgafaa
open Go.RowKit
def sg (s:Bool)(v:Nat):Int:=if s=true then -(v:Int)else(v:Int)
theorem h_4 (s:Bool)(v:Nat):(sg s v).natAbs=v:=by cases s<;>simp[sg]
theorem q_6 (s:Bool)(v:Nat):decide (sg s v<0)=(s&&decide (0<v)):=by cases s<;>simp[sg]<;>omega
def Zv (w:World)(s:Bool)(A:Option Addr)(n c:Nat)(z:Int):Prop:=∃v,Nv w A n c v/\Hid (z=sg s v)
def Zc (w:World)(s:Bool)(A:Option Addr)(n c:Nat)(z:Int):Prop:=Cv w A n c z.natAbs/\Hid (s=decide (z<0))
theorem Zv.below {w w':World}{s:Bool}{A:Option Addr}{n c:Nat}{z:Int}(h:Zv w s A n c z)(hb:Below w.heap.size w w'):Zv w' s A n c z:=by
 obtain⟨v,h1,h2⟩:=h;exact⟨v,h1.below hb,h2⟩
theorem Zc.below {w w':World}{s:Bool}{A:Option Addr}{n c:Nat}{z:Int}(h:Zc w s A n c z)(hb:Below w.heap.size w w'):Zc w' s A n c z:=⟨h.1.below hb,h.2⟩
theorem Zc.zv {w:World}{s:Bool}{A:Option Addr}{n c:Nat}{z:Int}(h:Zc w s A n c z):Zv w s A n c z:=by
 refine⟨_,h.1.nv, ?_⟩;have e:=h.2.out;refine Lib.hid ?_;rw[e];by_cases hz:z<0
 ·simp[sg,hz];omega
 ·simp[sg,hz];omega
def ZPost (z:Int)(k:Nat)(w:World)(e:Ending)(w':World):Prop:=
 ∃s A n c,e= .returned (.agg #[.bool s,.slice A n c])/\Zc w' s A n c z/\n<=k/\Below w.heap.size w w'
theorem g_b (A:Option Addr)(n c:Nat)(b s:Bool)(w:World)(hs:(b&&decide (0<n))=s):
  Calls Try.prog 46 #[.slice A n c,.bool b] w fun e w'=>e= .returned (.agg #[.bool s,.slice A n c])/\Below w.heap.size w w':=by
 cases b
 ·obtain rfl:s=false:=by rw[<-hs];rfl
  clear hs;go_enter Try.func46,Try.ntmps46
  go_wp2_with fail
  exact bodyPost_ret (v:=.agg #[.bool false,.slice A n c]) (by simp[results,Try.results46,go_sem]) rfl ⟨rfl,zba w _⟩
 ·by_cases h:0<n
  ·obtain rfl:s=true:=by rw[<-hs];simp[h]
   clear hs;go_enter Try.func46,Try.ntmps46
   go_wp2_with fail
   exact bodyPost_ret (v:=.agg #[.bool true,.slice A n c]) (by simp[results,Try.results46,go_sem]) rfl ⟨rfl,zba w _⟩
  ·obtain rfl:s=false:=by rw[<-hs];simp[h]
   obtain rfl:n=0:=by omega
   clear hs h;go_enter Try.func46,Try.ntmps46
   go_wp2_with fail
   exact bodyPost_ret (v:=.agg #[.bool false,.slice A 0 c]) (by simp[results,Try.results46,go_sem]) rfl ⟨rfl,zba w _⟩
theorem Cv.pos {w:World}{A:Option Addr}{n c v:Nat}(h:Cv w A n c v):decide (0<n)=decide (0<v):=by
 have e:=h.2.1;rw[decide_eq_decide];constructor
 ·intro h1;rcases Nat.eq_zero_or_pos v with h2|h2
  ·rw[h2,c_4]at e;simp at e;omega
  ·exact h2
 ·intro h1;rcases Nat.eq_zero_or_pos n with h2|h2
  ·have:=(c_w 18446744073709551616 v (by omega)).1 (by omega);omega
  ·exact h2
theorem b_v {A:Option Addr}{n c v:Nat}{b:Bool}{w:World}(h:Cv w A n c v):
  Calls Try.prog 46 #[.slice A n c,.bool b] w (ZPost (sg b v) n w):=by
 refine(g_b A n c b (decide (sg b v<0)) w (by rw[q_6,h.pos])).mono ?_;rintro e w' ⟨rfl,hB⟩;refine⟨_,A,n,c,rfl,⟨?_,Lib.hid rfl⟩,Nat.le_refl _,hB⟩;rw[h_4];exact h.below hB
theorem Rd.other {w:World}{K:IntKind}{A:Option Addr}{xs:List Nat}{p:Addr}{u v:Value}(h:Rd w K A xs)(hp:w.cell? p=some u)(hu:∀m,u≠ .int K m):Rd (w.setCell p v) K A xs:=fun hn=>by
 obtain⟨ad,rfl,hlt,hc⟩:=h hn;refine⟨ad,rfl,by simpa using hlt,fun j hj=>?_⟩;have hne:p≠ad.add j:=fun e=>by
  have h1:=hc j hj;rw[<-e,hp]at h1;exact hu _ (Option.some.inj h1)
 rw[World.cell?_setCell_other (h:=hne)];exact hc j hj
theorem Cv.other {w:World}{A:Option Addr}{n c x:Nat}{p:Addr}{u v:Value}(h:Cv w A n c x)(hp:w.cell? p=some u)(hu:∀m,u≠ .int .u64 m):Cv (w.setCell p v) A n c x:=⟨h.1.other hp hu,h.2⟩
def Ib (w:World)(g:Nat)(s:Bool)(A:Option Addr)(n c:Nat):Prop:=
 w.cell? ⟨g,0,none⟩=some (.bool s)/\w.cell? ⟨g,1,none⟩=some (.slice A n c)/\w.frozen? ⟨g,0,none⟩=false/\w.frozen? ⟨g,1,none⟩=false/\g<w.heap.size
theorem Ib.below {w w':World}{g:Nat}{s:Bool}{A:Option Addr}{n c:Nat}(h:Ib w g s A n c)(hb:Below w.heap.size w w'):Ib w' g s A n c:=by
 obtain⟨h1,h2,h3,h4,h5⟩:=h;exact⟨(hb.cell (p:=⟨g,0,none⟩) h5).trans h1,(hb.cell (p:=⟨g,1,none⟩) h5).trans h2,(hb.frozen (p:=⟨g,0,none⟩) h5).trans h3,(hb.frozen (p:=⟨g,1,none⟩) h5).trans h4,Nat.lt_of_lt_of_le h5 hb.size⟩
theorem Ib.new (w:World)(s:Bool)(A:Option Addr)(n c:Nat)(t:TypeId):Ib (w.alloc (.cells #[.bool s,.slice A n c] t)) w.heap.size s A n c:=by
 refine⟨?_, ?_, ?_, ?_, ?_⟩<;>simp[go_sem]
def zput (w:World)(g:Nat)(s:Bool)(A:Option Addr)(n c:Nat):World:=(w.setCell ⟨g,0,none⟩ (.bool s)).setCell ⟨g,1,none⟩ (.slice A n c)
theorem Cv.put {w:World}{A A' B:Option Addr}{n c v g n' c' m d:Nat}{s t:Bool}(h:Cv w A n c v)(hi:Ib w g t B m d):Cv (zput w g s A' n' c') A n c v:=by
 obtain⟨h1,h2,h3,h4,h5⟩:=hi;refine(h.other h1 (fun m e=>by cases e)).other (u:=.slice B m d) ?_ (fun m e=>by cases e);rw[World.cell?_setCell_other (h:=by simp)];exact h2
theorem Zc.put {w:World}{A A' B:Option Addr}{n c g n' c' m d:Nat}{s s' t:Bool}{z:Int}(h:Zc w s A n c z)(hi:Ib w g t B m d):Zc (zput w g s' A' n' c') s A n c z:=⟨h.1.put hi,h.2⟩
theorem Nv.other {w:World}{A:Option Addr}{n c x:Nat}{p:Addr}{u v:Value}(h:Nv w A n c x)(hp:w.cell? p=some u)(hu:∀m,u≠ .int .u64 m):Nv (w.setCell p v) A n c x:=by
 obtain⟨xs,h1,h2⟩:=h;exact⟨xs,h1.other hp hu,h2⟩
theorem Zv.put {w:World}{A A' B:Option Addr}{n c g n' c' m d:Nat}{s s' t:Bool}{z:Int}(h:Zv w s A n c z)(hi:Ib w g t B m d):Zv (zput w g s' A' n' c') s A n c z:=by
 obtain⟨v,h1,h2⟩:=h;obtain⟨i1,i2,i3,i4,i5⟩:=hi;refine⟨v,(h1.other i1 (fun m e=>by cases e)).other (u:=.slice B m d) ?_ (fun m e=>by cases e),h2⟩;rw[World.cell?_setCell_other (h:=by simp)];exact i2
theorem a_e {b:Nat}{w w2:World}{A:Option Addr}{n c g:Nat}{s:Bool}(h:Below b w w2)(hg:b<=g):Below b w (zput w2 g s A n c):=(h.setCell hg _).setCell hg _
theorem zfin {w w2:World}{A B:Option Addr}{n c g k m d:Nat}{s t:Bool}{z:Int}(h:Zc w2 s A n c z)(hi:Ib w2 g t B m d)(hk:n<=k)(hg:w.heap.size<=g)(hB:Below w.heap.size w w2):
  ZPost z k w (.returned (.agg #[.bool s,.slice A n c])) ((w2.setCell ⟨g,0,none⟩ (.bool s)).setCell ⟨g,1,none⟩ (.slice A n c)):=
 ⟨s,A,n,c,rfl,h.put hi,hk,a_e hB hg⟩
theorem f_b {A:Option Addr}{n c v:Nat}{b:Bool}{w:World}(h:Nv w A n c v)(hn:n<=1099511627776):
  Calls Try.prog 49 #[.slice A n c,.bool b] w (ZPost (sg b v) n w):=by
 have z0:=zba w (.cells #[.bool false,.slice none 0 0] 30);have h1:=h.below z0;have HZ:=Lib.hid z0;have HI:=Lib.hid (Ib.new w false none 0 0 30);clear h z0;go_enter Try.func49,Try.ntmps49
 go_wp2_with fail
 refine(p_a h1 hn).mono ?_;rintro e w1 ⟨A1,n1,c1,rfl,p1,k1,B1⟩
 go_wp2_with fail
 refine(b_v p1).mono ?_;rintro e w2 ⟨s,A2,n2,c2,rfl,p2,k2,B2⟩;have B:=zup B1 B2;have I:=HI.out.below B;have P:=Lib.hid (zfin p2 I (k:=n) (by omega) (Nat.le_refl _) (zup HZ.out B));obtain⟨i1,i2,i3,i4,i5⟩:=I;clear p1 p2 B1 B2 B
 go_wp2_with fail
 exact bodyPost_ret (v:=.agg #[.bool s,.slice A2 n2 c2]) (by simp[results,Try.results49,go_sem,i1,i2]) rfl P.out
theorem j_g (x:Nat)(hx:x<18446744073709551616)(w:World):Calls Try.prog 53 #[.int .u64 x] w (CvPost x 1 w):=
 (d_6 x hx w).mono fun _ _ h=>NatPost.cv (v:=x) (k:=1) h (by simpa using hx)
theorem r_3 (x:Int)(h1:-9223372036854775808<=x)(h2:x<=9223372036854775807)(w:World):
  Calls Try.prog 26 #[.int .i64 x] w (ZPost x 1 w):=by
 have z0:=zba w (.cells #[.bool false,.slice none 0 0] 30);have HZ:=Lib.hid z0;have HI:=Lib.hid (Ib.new w false none 0 0 30);clear z0;obtain⟨v,hv⟩:∃v,v=x.natAbs:=⟨_,rfl⟩;have hvB:v<18446744073709551616:=by omega
 by_cases hx:x<0
 ·have e1:IntKind.u64.wrap (-IntKind.u64.wrap x)=(v:Int):=by rw[IntKind.wrap_u64,IntKind.wrap_u64];omega
  have hs:sg true v=x:=by simp[sg];omega
  have HS:=Lib.hid hs;clear hv hs;go_enter Try.func26,Try.ntmps26
  go_wp2_with fail
  refine(j_g v hvB _).mono ?_;rintro e w1 ⟨A1,n1,c1,rfl,p1,k1,B1⟩;clear e1
  go_wp2_with fail
  refine(b_v p1).mono ?_;rintro e w2 ⟨s,A2,n2,c2,rfl,p2,k2,B2⟩;rw[HS.out]at p2;have B:=zup B1 B2;have I:=HI.out.below B;have P:=Lib.hid (zfin p2 I (k:=1) (by omega) (Nat.le_refl _) (zup HZ.out B));obtain⟨i1,i2,i3,i4,i5⟩:=I;clear p1 p2 B1 B2 B
  go_wp2_with fail
  exact bodyPost_ret (v:=.agg #[.bool s,.slice A2 n2 c2]) (by simp[results,Try.results26,go_sem,i1,i2]) rfl P.out
 ·have e1:IntKind.u64.wrap x=(v:Int):=by rw[IntKind.wrap_u64];omega
  have hs:sg false v=x:=by simp[sg];omega
  have HS:=Lib.hid hs;clear hv hs;go_enter Try.func26,Try.ntmps26
  go_wp2_with fail
  refine(j_g v hvB _).mono ?_;rintro e w1 ⟨A1,n1,c1,rfl,p1,k1,B1⟩;clear e1
  go_wp2_with fail
  refine(b_v p1).mono ?_;rintro e w2 ⟨s,A2,n2,c2,rfl,p2,k2,B2⟩;rw[HS.out]at p2;have B:=zup B1 B2;have I:=HI.out.below B;have P:=Lib.hid (zfin p2 I (k:=1) (by omega) (Nat.le_refl _) (zup HZ.out B));obtain⟨i1,i2,i3,i4,i5⟩:=I;clear p1 p2 B1 B2 B
  go_wp2_with fail
  exact bodyPost_ret (v:=.agg #[.bool s,.slice A2 n2 c2]) (by simp[results,Try.results26,go_sem,i1,i2]) rfl P.out
theorem n_k (s:Bool)(v:Nat):sg (!s) v= -sg s v:=by cases s<;>simp[sg]
theorem Zv.abs {w:World}{s:Bool}{A:Option Addr}{n c:Nat}{z:Int}(h:Zv w s A n c z):Nv w A n c z.natAbs/\Hid (z=sg s z.natAbs):=by
 obtain⟨v,h1,h2⟩:=h;have e:z.natAbs=v:=by rw[h2.out,h_4]
 rw[e];exact⟨h1,h2⟩
theorem g_z {A:Option Addr}{n c v:Nat}{w:World}(hx:Nv w A n c v)(hn:n<=1099511627776){b:Nat}(hb:bl v=b):
  Calls Try.prog 34 #[.slice A n c] w fun e w'=>e= .returned (.int .i64 b)/\w=w':=by
 obtain⟨xs,h1,h2,h3,h4,h5,rfl⟩:=hx;rw[<-hb];exact d_u A n c xs w h1 h2 h3 h4 h5 hn
theorem bl_eq_zero {v:Nat}:bl v=0↔v=0:=by
 have h:=bl_le (v:=v) (k:=0);simp at h;omega
def IPost (r:Int)(w:World)(e:Ending)(w':World):Prop:=e= .returned (.int .i64 r)/\Below w.heap.size w w'
theorem g_y {A:Option Addr}{n c:Nat}{s:Bool}{z r:Int}{w:World}(h:Zv w s A n c z)(hn:n<=1099511627776)(hr:z.sign=r):
  Calls Try.prog 11 #[.agg #[.bool s,.slice A n c]] w (IPost r w):=by
 obtain⟨h1,h2⟩:=h.abs;have z0:=zba w (.cells #[.bool s,.slice A n c] 30);have h3:=h1.below z0;have HZ:=Lib.hid z0;have e:=h2.out;obtain⟨b,hb⟩:∃b,bl z.natAbs=b:=⟨_,rfl⟩;have hb0:=bl_eq_zero (v:=z.natAbs);rw[hb]at hb0;have HB:=Lib.hid hb;clear h z0 h1 h2 hb;rcases Nat.eq_zero_or_pos b with rfl|hb1
 ·obtain rfl:r=0:=by rw[<-hr,show z=0 by have:=hb0.1 rfl;omega];rfl
  clear hr e hb0;go_enter Try.func11,Try.ntmps11
  go_wp2_with fail
  refine(g_z h3 hn HB.out).mono ?_;rintro e w2 ⟨rfl,rfl⟩
  go_wp2_with fail
  go_ret
  exact⟨rfl,HZ.out⟩
 ·have hz0:z≠0:=fun h0=>by have:=hb0.2 (by omega);omega
  have q1:((b:Int)==0)=false:=by rw[beq_eq_false_iff_ne];omega
  clear hb0;cases s
  ·obtain rfl:r=1:=by rw[<-hr];simp[sg]at e;exact Int.sign_eq_one_of_pos (by omega)
   clear hr e hz0;go_enter Try.func11,Try.ntmps11
   go_wp2_with fail
   refine(g_z h3 hn HB.out).mono ?_;rintro e w2 ⟨rfl,rfl⟩
   go_wp2_with fail
   go_ret
   exact⟨rfl,HZ.out⟩
  ·obtain rfl:r= -1:=by rw[<-hr];simp[sg]at e;exact Int.sign_eq_neg_one_of_neg (by omega)
   clear hr e hz0;go_enter Try.func11,Try.ntmps11
   go_wp2_with fail
   refine(g_z h3 hn HB.out).mono ?_;rintro e w2 ⟨rfl,rfl⟩
   go_wp2_with fail
   go_ret
   exact⟨rfl,HZ.out⟩
theorem open3 (w:World)(s t:Bool)(A B:Option Addr)(n c m d:Nat):
  ∃w3,w3=(((w.alloc (.cells #[.bool s,.slice A n c] 30)).alloc (.cells #[.bool t,.slice B m d] 30)).alloc (.cells #[.bool false,.slice none 0 0] 30))/\
   Ib w3 w.heap.size s A n c/\Ib w3 (w.heap.size+1) t B m d/\Ib w3 (w.heap.size+1+1) false none 0 0/\Below w.heap.size w w3:=by
 refine⟨_,rfl, ?_, ?_, ?_,zba3 _ _ _ _⟩
 ·exact((Ib.new w s A n c _).below (zba _ _)).below (zba _ _)
 ·have:=(Ib.new (w.alloc (.cells #[.bool s,.slice A n c] 30)) t B m d 30).below (zba _ (.cells #[.bool false,.slice none 0 0] 30));simpa using this
 ·have:=Ib.new ((w.alloc (.cells #[.bool s,.slice A n c] 30)).alloc (.cells #[.bool t,.slice B m d] 30)) false none 0 0 30;simpa using this
theorem Zv.up {W w:World}{s:Bool}{A:Option Addr}{n c:Nat}{z:Int}(h:Zv w s A n c z)(hb:Below w.heap.size w W):Nv W A n c z.natAbs/\Hid (z=sg s z.natAbs):=(h.below hb).abs
theorem j_j {A B:Option Addr}{n m c d:Nat}{s:Bool}{x y:Int}{w:World}(hx:Zv w s A n c x)(hy:Zv w s B m d y)(hn:n<=1099511627776)(hm:m<=1099511627776):
  Calls Try.prog 37 #[.agg #[.bool s,.slice A n c],.agg #[.bool s,.slice B m d]] w (ZPost (x+y) (max n m+1) w):=by
 obtain⟨w3,hw3,IA,IB,IR,z0⟩:=open3 w s s A B n c m d;obtain⟨hx1,ex⟩:=hx.up z0;obtain⟨hy1,ey⟩:=hy.up z0;have HZ:=Lib.hid z0;have hs:sg s (x.natAbs+y.natAbs)=x+y:=by rw[ex.out,ey.out];cases s<;>simp[sg]<;>omega
 have HS:=Lib.hid hs;have HW:=Lib.hid hw3.symm;clear hx hy ex ey hs z0 hw3;have q1:(s==s)=true:=by simp
 go_enter Try.func37,Try.ntmps37
 go_wp2_with fail
 rw[HW.out];have HA:=Lib.hid IA;have HB:=Lib.hid IB;have HR:=Lib.hid IR;obtain⟨a1,a2,a3,a4,a5⟩:=IA;obtain⟨b1,b2,b3,b4,b5⟩:=IB;clear IR;have n1:¬(w.heap.size+1+1=w.heap.size):=by omega
 have n2:¬(w.heap.size=w.heap.size+1+1):=by omega
 go_region_held3 (fun w'=>w'.cell? ⟨w.heap.size,0,none⟩=some (.bool s)/\w'.cell? ⟨w.heap.size,1,none⟩=some (.slice A n c)/\w'.cell? ⟨w.heap.size+1,1,none⟩=some (.slice B m d)) (go_keep) (first
  |(go_at_call 63;refine(i_u (x:=x.natAbs) (y:=y.natAbs) (hx1.below (a_j _)) (hy1.below (a_j _)) hn hm).mono ?_;rintro e w4 ⟨A4,n4,c4,rfl,p4,k4,B4⟩;have Q4:=zup (a_j _) B4;obtain⟨u1,u2,_⟩:=HA.out.below Q4;obtain⟨_,u3,_⟩:=HB.out.below Q4)
  |(go_at_call 46;refine(b_v p4).mono ?_;rintro e w5 ⟨s5,A5,n5,c5,rfl,p5,k5,B5⟩;have Q5:=zup Q4 B5;obtain⟨v1,v2,_⟩:=HA.out.below Q5;obtain⟨_,v3,_⟩:=HB.out.below Q5;obtain⟨r1,r2,r3,r4,r5⟩:=HR.out.below Q5))
 rw[HS.out]at p5;have P:=Lib.hid (zfin p5 ⟨r1,r2,r3,r4,r5⟩ (k:=max n m+1) (by omega) (by omega) (zup HZ.out Q5));clear p4 p5 B4 B5 Q4 Q5 k4 k5
 go_wp2_with fail
 exact bodyPost_ret (v:=.agg #[.bool s5,.slice A5 n5 c5]) (by simp[results,Try.results37,go_sem,r1,r2]) rfl P.out
theorem j_l {A B:Option Addr}{n m c d:Nat}{s t:Bool}{x y:Int}{w:World}(hx:Zv w s A n c x)(hy:Zv w t B m d y)(hst:t= !s)(hn:n<=1099511627776)(hm:m<=1099511627776):
  Calls Try.prog 37 #[.agg #[.bool s,.slice A n c],.agg #[.bool t,.slice B m d]] w (ZPost (x+y) (max n m+1) w):=by
 obtain⟨w3,hw3,IA,IB,IR,z0⟩:=open3 w s t A B n c m d;obtain⟨hx1,ex⟩:=hx.up z0;obtain⟨hy1,ey⟩:=hy.up z0;have HZ:=Lib.hid z0;have HW:=Lib.hid hw3.symm;have q1:(s==t)=false:=by rw[hst];cases s<;>rfl
 by_cases hle:y.natAbs<=x.natAbs
 ·have hs:sg s (x.natAbs - y.natAbs)=x+y:=by rw[ex.out,ey.out,hst];cases s<;>simp[sg]<;>omega
  have HS:=Lib.hid hs;clear hx hy ex ey hs z0 hw3 hst;have HA:=Lib.hid IA;have HR:=Lib.hid IR;obtain⟨a1,a2,a3,a4,a5⟩:=IA;obtain⟨b1,b2,b3,b4,b5⟩:=IB;clear IR;go_enter Try.func37,Try.ntmps37
  go_wp2_with fail
  rw[HW.out];refine(d_4 hx1 hy1 hn hle).mono ?_;rintro e w4 ⟨A4,n4,c4,rfl,p4,k4,B4⟩;obtain⟨u1,u2,_⟩:=HA.out.below B4;clear a1 a2 a3 a4 a5 b1 b2 b3 b4 b5 hx1 hy1
  go_wp2_with fail
  refine(b_v p4).mono ?_;rintro e w5 ⟨s5,A5,n5,c5,rfl,p5,k5,B5⟩;have Q5:=zup B4 B5;obtain⟨r1,r2,r3,r4,r5⟩:=HR.out.below Q5;rw[HS.out]at p5;have P:=Lib.hid (zfin p5 ⟨r1,r2,r3,r4,r5⟩ (k:=max n m+1) (by omega) (by omega) (zup HZ.out Q5));clear p4 p5 B4 B5 Q5 k4 k5 u1 u2
  go_wp2_with fail
  exact bodyPost_ret (v:=.agg #[.bool s5,.slice A5 n5 c5]) (by simp[results,Try.results37,go_sem,r1,r2]) rfl P.out
 ·have hs:sg t (y.natAbs - x.natAbs)=x+y:=by rw[ex.out,ey.out,hst];cases s<;>simp[sg]<;>omega
  have HS:=Lib.hid hs;clear hx hy ex ey hs z0 hw3 hst;have HA:=Lib.hid IA;have HB:=Lib.hid IB;have HR:=Lib.hid IR;have hX:=Lib.hid hx1;have hY:=Lib.hid hy1;obtain⟨a1,a2,a3,a4,a5⟩:=IA;obtain⟨b1,b2,b3,b4,b5⟩:=IB;clear IR;go_enter Try.func37,Try.ntmps37
  go_wp2_with fail
  rw[HW.out];refine(n_j hx1 hy1 hn (by omega)).mono ?_;rintro e w4 ⟨⟨A4,c4,rfl⟩,B4⟩;obtain⟨u1,u2,_⟩:=HA.out.below B4;obtain⟨v1,v2,_⟩:=HB.out.below B4;clear a1 a2 a3 a4 a5 b1 b2 b3 b4 b5 hx1 hy1
  go_wp2_with fail
  refine(d_4 (hY.out.below B4) (hX.out.below B4) hm (by omega)).mono ?_;rintro e w6 ⟨A6,n6,c6,rfl,p6,k6,B6⟩;have Q6:=zup B4 B6;clear u1 u2 v1 v2;obtain⟨v1,v2,_⟩:=HB.out.below Q6
  go_wp2_with fail
  refine(b_v p6).mono ?_;rintro e w5 ⟨s5,A5,n5,c5,rfl,p5,k5,B5⟩;have Q5:=zup Q6 B5;obtain⟨r1,r2,r3,r4,r5⟩:=HR.out.below Q5;rw[HS.out]at p5;have P:=Lib.hid (zfin p5 ⟨r1,r2,r3,r4,r5⟩ (k:=max n m+1) (by omega) (by omega) (zup HZ.out Q5));clear p6 p5 B4 B5 B6 Q5 Q6 k6 k5 v1 v2
  go_wp2_with fail
  exact bodyPost_ret (v:=.agg #[.bool s5,.slice A5 n5 c5]) (by simp[results,Try.results37,go_sem,r1,r2]) rfl P.out
theorem n_f {A B:Option Addr}{n m c d:Nat}{s t:Bool}{x y:Int}{w:World}(hx:Zv w s A n c x)(hy:Zv w t B m d y)(hn:n<=1099511627776)(hm:m<=1099511627776):
  Calls Try.prog 37 #[.agg #[.bool s,.slice A n c],.agg #[.bool t,.slice B m d]] w (ZPost (x+y) (max n m+1) w):=by
 by_cases h:t=s
 ·subst h;exact j_j hx hy hn hm
 ·exact j_l hx hy (by cases s<;>cases t<;>simp at*) hn hm
theorem q_k {A B:Option Addr}{n m c d:Nat}{s t:Bool}{x y:Int}{w:World}(hx:Zv w s A n c x)(hy:Zv w t B m d y)(hn:n<=1099511627776)(hm:m<=1099511627776):
  Calls Try.prog 98 #[.agg #[.bool s,.slice A n c],.agg #[.bool t,.slice B m d]] w (ZPost (x - y) (max n m+1) w):=by
 obtain⟨w3,hw3,IA,IB,IR,z0⟩:=open3 w s t A B n c m d;have hx1:=hx.below z0;have hy1:Zv w3 (!t) B m d (-y):=by
  obtain⟨h1,h2⟩:=hy.up z0;exact⟨_,h1,Lib.hid (by rw[n_k];exact congrArg _ h2.out)⟩
 have HZ:=Lib.hid z0;have HW:=Lib.hid hw3.symm;clear hx hy z0 hw3;have HR:=Lib.hid IR;obtain⟨a1,a2,a3,a4,a5⟩:=IA;obtain⟨b1,b2,b3,b4,b5⟩:=IB;clear IR;go_enter Try.func98,Try.ntmps98
 go_wp2_with fail
 rw[HW.out];refine(n_f hx1 hy1 hn hm).mono ?_;rintro e w5 ⟨s5,A5,n5,c5,rfl,p5,k5,B5⟩;rw[show x+ -y=x - y from rfl]at p5;obtain⟨r1,r2,r3,r4,r5⟩:=HR.out.below B5;have P:=Lib.hid (zfin p5 ⟨r1,r2,r3,r4,r5⟩ (k:=max n m+1) (by omega) (by omega) (zup HZ.out B5));clear p5 B5 k5 a1 a2 a3 a4 a5 b1 b2 b3 b4 b5 hx1 hy1
 go_wp2_with fail
 exact bodyPost_ret (v:=.agg #[.bool s5,.slice A5 n5 c5]) (by simp[results,Try.results98,go_sem,r1,r2]) rfl P.out
theorem n_l (s t:Bool)(X Y:Nat):sg (!(s==t)) (X*Y)=sg s X*sg t Y:=by
 cases s<;>cases t<;>simp[sg,Int.neg_mul,Int.mul_neg]
theorem q_o {A B:Option Addr}{n m c d:Nat}{s t:Bool}{x y:Int}{w:World}(hx:Zv w s A n c x)(hy:Zv w t B m d y)(hn:n<=1099511627776)(hm:m<=1099511627776):
  Calls Try.prog 22 #[.agg #[.bool s,.slice A n c],.agg #[.bool t,.slice B m d]] w (ZPost (x*y) (n+m) w):=by
 obtain⟨w3,hw3,IA,IB,IR,z0⟩:=open3 w s t A B n c m d;obtain⟨hx1,ex⟩:=hx.up z0;obtain⟨hy1,ey⟩:=hy.up z0;have HZ:=Lib.hid z0;obtain⟨b,hb⟩:∃b,(!(s==t))=b:=⟨_,rfl⟩;have hs:sg b (x.natAbs*y.natAbs)=x*y:=by
  rw[<-hb,n_l,<-ex.out,<-ey.out]
 have HS:=Lib.hid hs;have HW:=Lib.hid hw3.symm;clear hx hy ex ey hs z0 hw3;have HA:=Lib.hid IA;have HB:=Lib.hid IB;have HR:=Lib.hid IR;obtain⟨a1,a2,a3,a4,a5⟩:=IA;obtain⟨b1,b2,b3,b4,b5⟩:=IB;clear IR;have n1:¬(w.heap.size+1+1=w.heap.size):=by omega
 have n2:¬(w.heap.size=w.heap.size+1+1):=by omega
 go_enter Try.func22,Try.ntmps22
 go_wp2_with fail
 rw[HW.out]
 go_region_held3 (fun w'=>w'.cell? ⟨w.heap.size,0,none⟩=some (.bool s)/\w'.cell? ⟨w.heap.size,1,none⟩=some (.slice A n c)/\w'.cell? ⟨w.heap.size+1,0,none⟩=some (.bool t)/\w'.cell? ⟨w.heap.size+1,1,none⟩=some (.slice B m d)) (go_keep) (first
  |(go_at_call 47;refine(p_e (x:=x.natAbs) (y:=y.natAbs) (hx1.below (a_j _)) (hy1.below (a_j _)) hn hm).mono ?_;rintro e w4 ⟨A4,n4,c4,rfl,p4,k4,B4⟩;have Q4:=zup (a_j _) B4;obtain⟨u1,u2,_⟩:=HA.out.below Q4;obtain⟨u4,u3,_⟩:=HB.out.below Q4)
  |(go_at_call 46;refine(b_v p4).mono ?_;rintro e w5 ⟨s5,A5,n5,c5,rfl,p5,k5,B5⟩;have Q5:=zup Q4 B5;obtain⟨v1,v2,_⟩:=HA.out.below Q5;obtain⟨v4,v3,_⟩:=HB.out.below Q5;obtain⟨r1,r2,r3,r4,r5⟩:=HR.out.below Q5))
 rw[HS.out]at p5;have P:=Lib.hid (zfin p5 ⟨r1,r2,r3,r4,r5⟩ (k:=n+m) (by omega) (by omega) (zup HZ.out Q5));clear p4 p5 B4 B5 Q4 Q5 k4 k5
 go_wp2_with fail
 exact bodyPost_ret (v:=.agg #[.bool s5,.slice A5 n5 c5]) (by simp[results,Try.results22,go_sem,r1,r2]) rfl P.out
theorem f_t (x y r:Int)(hr:(x - y).sign=r)(w:World):
  Calls Try.prog 51 #[.int .i64 x,.int .i64 y] w fun e w'=>e= .returned (.int .i64 r)/\w=w':=by
 have N:∀x:Int,∀w:World,Calls Try.prog 82 #[.int .i64 x] w fun e w'=>e= .returned (.bool false)/\w=w':=by
  intro x w;go_enter Try.func82,Try.ntmps82
  go_wp2_with fail
  go_ret
  exact⟨rfl,rfl⟩
 rcases Int.lt_trichotomy x y with h|h|h
 ·obtain rfl:r= -1:=by rw[<-hr];exact Int.sign_eq_neg_one_of_neg (by omega)
  clear hr;go_enter Try.func51,Try.ntmps51
  go_wp2_with fail
  refine(N _ _).mono ?_;rintro e w' ⟨rfl,rfl⟩
  go_wp2_with fail
  refine(N _ _).mono ?_;rintro e w' ⟨rfl,rfl⟩
  go_wp2_with fail
  go_ret
  exact⟨rfl,rfl⟩
 ·subst h;obtain rfl:r=0:=by rw[<-hr,Int.sub_self];rfl
  clear hr;go_enter Try.func51,Try.ntmps51
  go_wp2_with fail
  refine(N _ _).mono ?_;rintro e w' ⟨rfl,rfl⟩
  go_wp2_with fail
  refine(N _ _).mono ?_;rintro e w' ⟨rfl,rfl⟩
  go_wp2_with fail
  go_ret
  exact⟨rfl,rfl⟩
 ·obtain rfl:r=1:=by rw[<-hr];exact Int.sign_eq_one_of_pos (by omega)
  clear hr;have h2:¬x<y:=by omega
  go_enter Try.func51,Try.ntmps51
  go_wp2_with fail
  refine(N _ _).mono ?_;rintro e w' ⟨rfl,rfl⟩
  go_wp2_with fail
  refine(N _ _).mono ?_;rintro e w' ⟨rfl,rfl⟩
  go_wp2_with fail
  go_ret
  exact⟨rfl,rfl⟩
theorem f_1 {X Y:Int}{x y:Nat}(s:Bool)(hX:X=sg s x)(hY:Y=sg s y):(X - Y).sign=if s=true then cmpN y x else cmpN x y:=by
 cases s
 ·simp only[sg]at hX hY;subst hX hY;rcases Nat.lt_trichotomy x y with h|h|h
  ·simp[f_u h];omega
  ·simp[f_w h];omega
  ·simp[f_v h];omega
 ·simp only[sg]at hX hY;subst hX hY;rcases Nat.lt_trichotomy x y with h|h|h
  ·simp[f_v h];omega
  ·simp[f_w h.symm];omega
  ·simp[f_u h];omega
end Go.Proofs.Ytlgjjnmmepgafaa
