/- Pc06 -/
import Derived.Test.YtfhbdlegkdbmfaaGreatPc03
import Derived.Test.YtfhbdlegkdbmfaaGreatPc05
import Derived.Deep.RegionHeld3
import Init
set_option linter.unusedVariables false
set_option linter.unusedSimpArgs false
set_option linter.unusedSectionVars false
set_option maxRecDepth 100000
set_option maxHeartbeats 8000000
namespace Go.Proofs.YtfhbdlegkdbmfaaGreat
section
open Go.RowKit
def sg (s:Bool)(v:Nat):Int:=if s=true then -(v:Int)else(v:Int)
theorem e_1 (s:Bool)(v:Nat):(sg s v).natAbs=v:=by cases s<;>simp[sg]
theorem q_7 (s:Bool)(v:Nat):decide (sg s v<0)=(s&&decide (0<v)):=by cases s<;>simp[sg]<;>omega
def Zv (w:World)(s:Bool)(A:Option Addr)(n c:Nat)(z:Int):Prop:=∃v,Nv w A n c v/\Hid (z=sg s v)
def Zc (w:World)(s:Bool)(A:Option Addr)(n c:Nat)(z:Int):Prop:=Cv w A n c z.natAbs/\Hid (s=decide (z<0))
theorem Zv.below {w w':World}{s:Bool}{A:Option Addr}{n c:Nat}{z:Int}(h:Zv w s A n c z)(hb:Below w.heap.size w w'):Zv w' s A n c z:=by
 obtain⟨v,h1,h2⟩:=h;exact⟨v,h1.below hb,h2⟩
theorem Zc.below {w w':World}{s:Bool}{A:Option Addr}{n c:Nat}{z:Int}(h:Zc w s A n c z)(hb:Below w.heap.size w w'):Zc w' s A n c z:=⟨h.1.below hb,h.2⟩
theorem Zc.zv {w:World}{s:Bool}{A:Option Addr}{n c:Nat}{z:Int}(h:Zc w s A n c z):Zv w s A n c z:=by
 refine⟨_,h.1.nv, ?_⟩;have e:=h.2.out;refine Lib.hid ?_;rw[e];by_cases hz:z<0
 ·simp[sg,hz];omega
 ·simp[sg,hz];omega
def ZPost (z:Int)(k:Nat)(w:World)(e:Ending)(w':World):Prop:=
 ∃s A n c,e= .returned (.agg #[.bool s,.slice A n c])/\Zc w' s A n c z/\n<=k/\Below w.heap.size w w'
theorem c_f (A:Option Addr)(n c:Nat)(b s:Bool)(w:World)(hs:(b&&decide (0<n))=s):
  Calls Tryz.prog 53 #[.slice A n c,.bool b] w fun e w'=>e= .returned (.agg #[.bool s,.slice A n c])/\Below w.heap.size w w':=by
 cases b
 ·obtain rfl:s=false:=by rw[<-hs];rfl
  clear hs;go_enter Tryz.func53,Tryz.ntmps53
  go_wp2_with fail
  exact bodyPost_ret (v:=.agg #[.bool false,.slice A n c]) (by simp[results,Tryz.results53,go_sem]) rfl ⟨rfl,zba w _⟩
 ·by_cases h:0<n
  ·obtain rfl:s=true:=by rw[<-hs];simp[h]
   clear hs;go_enter Tryz.func53,Tryz.ntmps53
   go_wp2_with fail
   exact bodyPost_ret (v:=.agg #[.bool true,.slice A n c]) (by simp[results,Tryz.results53,go_sem]) rfl ⟨rfl,zba w _⟩
  ·obtain rfl:s=false:=by rw[<-hs];simp[h]
   obtain rfl:n=0:=by omega
   clear hs h;go_enter Tryz.func53,Tryz.ntmps53
   go_wp2_with fail
   exact bodyPost_ret (v:=.agg #[.bool false,.slice A 0 c]) (by simp[results,Tryz.results53,go_sem]) rfl ⟨rfl,zba w _⟩
theorem Cv.pos {w:World}{A:Option Addr}{n c v:Nat}(h:Cv w A n c v):decide (0<n)=decide (0<v):=by
 have e:=h.2.1;rw[decide_eq_decide];constructor
 ·intro h1;rcases Nat.eq_zero_or_pos v with h2|h2
  ·rw[h2,c_z]at e;simp at e;omega
  ·exact h2
 ·intro h1;rcases Nat.eq_zero_or_pos n with h2|h2
  ·have:=(c_o 18446744073709551616 v (by omega)).1 (by omega);omega
  ·exact h2
theorem a_v {A:Option Addr}{n c v:Nat}{b:Bool}{w:World}(h:Cv w A n c v):
  Calls Tryz.prog 53 #[.slice A n c,.bool b] w (ZPost (sg b v) n w):=by
 refine(c_f A n c b (decide (sg b v<0)) w (by rw[q_7,h.pos])).mono ?_;rintro e w' ⟨rfl,hB⟩;refine⟨_,A,n,c,rfl,⟨?_,Lib.hid rfl⟩,Nat.le_refl _,hB⟩;rw[e_1];exact h.below hB
theorem Rd.other {w:World}{K:IntKind}{A:Option Addr}{xs:List Nat}{p:Addr}{u v:Value}(h:Rd w K A xs)(hp:w.cell? p=some u)(hu:∀m,u≠ .int K m):Rd (w.setCell p v) K A xs:=fun hn=>by
 obtain⟨ad,rfl,hlt,hc⟩:=h hn;refine⟨ad,rfl,by simpa using hlt,fun j hj=>?_⟩;have hne:p≠ad.add j:=fun e=>by
  have h1:=hc j hj;rw[<-e,hp]at h1;exact hu _ (Option.some.inj h1)
 rw[World.cell?_setCell_other (h:=hne)];exact hc j hj
theorem Cv.other {w:World}{A:Option Addr}{n c x:Nat}{p:Addr}{u v:Value}(h:Cv w A n c x)(hp:w.cell? p=some u)(hu:∀m,u≠ .int .u64 m):Cv (w.setCell p v) A n c x:=⟨h.1.other hp hu,h.2⟩
def Ib (w:World)(g:Nat)(s:Bool)(A:Option Addr)(n c:Nat):Prop:=
 w.cell? ⟨g,0,none⟩=some (.bool s)/\w.cell? ⟨g,1,none⟩=some (.slice A n c)/\w.frozen? ⟨g,0,none⟩=false/\w.frozen? ⟨g,1,none⟩=false/\g<w.heap.size
theorem Ib.below {w w':World}{g:Nat}{s:Bool}{A:Option Addr}{n c:Nat}(h:Ib w g s A n c)(hb:Below w.heap.size w w'):Ib w' g s A n c:=by
 obtain⟨h1,h2,h3,h4,h5⟩:=h;exact⟨(hb.cell (p:=⟨g,0,none⟩) h5).trans h1,(hb.cell (p:=⟨g,1,none⟩) h5).trans h2,(hb.frozen (p:=⟨g,0,none⟩) h5).trans h3,(hb.frozen (p:=⟨g,1,none⟩) h5).trans h4,Nat.lt_of_lt_of_le h5 hb.size⟩
theorem Ib.new (w:World)(s:Bool)(A:Option Addr)(n c:Nat)(t:TypeId):Ib (w.alloc (.cells #[.bool s,.slice A n c] t)) w.heap.size s A n c:=by
 refine⟨?_, ?_, ?_, ?_, ?_⟩<;>simp[go_sem]
def zput (w:World)(g:Nat)(s:Bool)(A:Option Addr)(n c:Nat):World:=(w.setCell ⟨g,0,none⟩ (.bool s)).setCell ⟨g,1,none⟩ (.slice A n c)
theorem Cv.put {w:World}{A A' B:Option Addr}{n c v g n' c' m d:Nat}{s t:Bool}(h:Cv w A n c v)(hi:Ib w g t B m d):Cv (zput w g s A' n' c') A n c v:=by
 obtain⟨h1,h2,h3,h4,h5⟩:=hi;refine(h.other h1 (fun m e=>by cases e)).other (u:=.slice B m d) ?_ (fun m e=>by cases e);rw[World.cell?_setCell_other (h:=by simp)];exact h2
theorem Zc.put {w:World}{A A' B:Option Addr}{n c g n' c' m d:Nat}{s s' t:Bool}{z:Int}(h:Zc w s A n c z)(hi:Ib w g t B m d):Zc (zput w g s' A' n' c') s A n c z:=⟨h.1.put hi,h.2⟩
theorem Nv.other {w:World}{A:Option Addr}{n c x:Nat}{p:Addr}{u v:Value}(h:Nv w A n c x)(hp:w.cell? p=some u)(hu:∀m,u≠ .int .u64 m):Nv (w.setCell p v) A n c x:=by
 obtain⟨xs,h1,h2⟩:=h;exact⟨xs,h1.other hp hu,h2⟩
theorem Zv.put {w:World}{A A' B:Option Addr}{n c g n' c' m d:Nat}{s s' t:Bool}{z:Int}(h:Zv w s A n c z)(hi:Ib w g t B m d):Zv (zput w g s' A' n' c') s A n c z:=by
 obtain⟨v,h1,h2⟩:=h;obtain⟨i1,i2,i3,i4,i5⟩:=hi;refine⟨v,(h1.other i1 (fun m e=>by cases e)).other (u:=.slice B m d) ?_ (fun m e=>by cases e),h2⟩;rw[World.cell?_setCell_other (h:=by simp)];exact i2
theorem Ib.put {w:World}{A B C:Option Addr}{n c g g' m d l e:Nat}{s t u:Bool}(h:Ib w g s A n c)(hg:g≠g'):Ib (zput w g' t B m d) g s A n c:=by
 obtain⟨h1,h2,h3,h4,h5⟩:=h;refine⟨?_, ?_, ?_, ?_, ?_⟩<;>simp[zput,go_sem,hg,Ne.symm hg,h1,h2,h3,h4,h5]
theorem Ib.own {w:World}{A B:Option Addr}{n c g m d:Nat}{s t:Bool}(h:Ib w g s A n c):Ib (zput w g t B m d) g t B m d:=by
 obtain⟨h1,h2,h3,h4,h5⟩:=h;refine⟨?_, ?_, ?_, ?_, ?_⟩<;>simp[zput,go_sem,h1,h2,h3,h4,h5]
theorem a_l {b:Nat}{w w2:World}{A:Option Addr}{n c g:Nat}{s:Bool}(h:Below b w w2)(hg:b<=g):Below b w (zput w2 g s A n c):=(h.setCell hg _).setCell hg _
theorem zfin {w w2:World}{A B:Option Addr}{n c g k m d:Nat}{s t:Bool}{z:Int}(h:Zc w2 s A n c z)(hi:Ib w2 g t B m d)(hk:n<=k)(hg:w.heap.size<=g)(hB:Below w.heap.size w w2):
  ZPost z k w (.returned (.agg #[.bool s,.slice A n c])) ((w2.setCell ⟨g,0,none⟩ (.bool s)).setCell ⟨g,1,none⟩ (.slice A n c)):=
 ⟨s,A,n,c,rfl,h.put hi,hk,a_l hB hg⟩
theorem j_t {A:Option Addr}{n c v:Nat}{b:Bool}{w:World}(h:Nv w A n c v)(hn:n<=1099511627776):
  Calls Tryz.prog 112 #[.slice A n c,.bool b] w (ZPost (sg b v) n w):=by
 have z0:=zba w (.cells #[.bool false,.slice none 0 0] 31);have h1:=h.below z0;have HZ:=Lib.hid z0;have HI:=Lib.hid (Ib.new w false none 0 0 31);clear h z0;go_enter Tryz.func112,Tryz.ntmps112
 go_wp2_with fail
 refine(p_l h1 hn).mono ?_;rintro e w1 ⟨A1,n1,c1,rfl,p1,k1,B1⟩
 go_wp2_with fail
 refine(a_v p1).mono ?_;rintro e w2 ⟨s,A2,n2,c2,rfl,p2,k2,B2⟩;have B:=zup B1 B2;have I:=HI.out.below B;have P:=Lib.hid (zfin p2 I (k:=n) (by omega) (Nat.le_refl _) (zup HZ.out B));obtain⟨i1,i2,i3,i4,i5⟩:=I;clear p1 p2 B1 B2 B
 go_wp2_with fail
 exact bodyPost_ret (v:=.agg #[.bool s,.slice A2 n2 c2]) (by simp[results,Tryz.results112,go_sem,i1,i2]) rfl P.out
theorem j_q (x:Nat)(hx:x<18446744073709551616)(w:World):Calls Tryz.prog 55 #[.int .u64 x] w (CvPost x 1 w):=
 (f_o x hx w).mono fun _ _ h=>NatPost.cv (v:=x) (k:=1) h (by simpa using hx)
theorem s_d (x:Int)(h1:-9223372036854775808<=x)(h2:x<=9223372036854775807)(w:World):
  Calls Tryz.prog 18 #[.int .i64 x] w (ZPost x 1 w):=by
 have z0:=zba w (.cells #[.bool false,.slice none 0 0] 31);have HZ:=Lib.hid z0;have HI:=Lib.hid (Ib.new w false none 0 0 31);clear z0;obtain⟨v,hv⟩:∃v,v=x.natAbs:=⟨_,rfl⟩;have hvB:v<18446744073709551616:=by omega
 by_cases hx:x<0
 ·have e1:IntKind.u64.wrap (-IntKind.u64.wrap x)=(v:Int):=by rw[IntKind.wrap_u64,IntKind.wrap_u64];omega
  have hs:sg true v=x:=by simp[sg];omega
  have HS:=Lib.hid hs;clear hv hs;go_enter Tryz.func18,Tryz.ntmps18
  go_wp2_with fail
  refine(j_q v hvB _).mono ?_;rintro e w1 ⟨A1,n1,c1,rfl,p1,k1,B1⟩;clear e1
  go_wp2_with fail
  refine(a_v p1).mono ?_;rintro e w2 ⟨s,A2,n2,c2,rfl,p2,k2,B2⟩;rw[HS.out]at p2;have B:=zup B1 B2;have I:=HI.out.below B;have P:=Lib.hid (zfin p2 I (k:=1) (by omega) (Nat.le_refl _) (zup HZ.out B));obtain⟨i1,i2,i3,i4,i5⟩:=I;clear p1 p2 B1 B2 B
  go_wp2_with fail
  exact bodyPost_ret (v:=.agg #[.bool s,.slice A2 n2 c2]) (by simp[results,Tryz.results18,go_sem,i1,i2]) rfl P.out
 ·have e1:IntKind.u64.wrap x=(v:Int):=by rw[IntKind.wrap_u64];omega
  have hs:sg false v=x:=by simp[sg];omega
  have HS:=Lib.hid hs;clear hv hs;go_enter Tryz.func18,Tryz.ntmps18
  go_wp2_with fail
  refine(j_q v hvB _).mono ?_;rintro e w1 ⟨A1,n1,c1,rfl,p1,k1,B1⟩;clear e1
  go_wp2_with fail
  refine(a_v p1).mono ?_;rintro e w2 ⟨s,A2,n2,c2,rfl,p2,k2,B2⟩;rw[HS.out]at p2;have B:=zup B1 B2;have I:=HI.out.below B;have P:=Lib.hid (zfin p2 I (k:=1) (by omega) (Nat.le_refl _) (zup HZ.out B));obtain⟨i1,i2,i3,i4,i5⟩:=I;clear p1 p2 B1 B2 B
  go_wp2_with fail
  exact bodyPost_ret (v:=.agg #[.bool s,.slice A2 n2 c2]) (by simp[results,Tryz.results18,go_sem,i1,i2]) rfl P.out
theorem n_v (s:Bool)(v:Nat):sg (!s) v= -sg s v:=by cases s<;>simp[sg]
theorem m_d (v:Nat):sg false v=(v:Int):=by simp[sg]
theorem Zv.abs {w:World}{s:Bool}{A:Option Addr}{n c:Nat}{z:Int}(h:Zv w s A n c z):Nv w A n c z.natAbs/\Hid (z=sg s z.natAbs):=by
 obtain⟨v,h1,h2⟩:=h;have e:z.natAbs=v:=by rw[h2.out,e_1]
 rw[e];exact⟨h1,h2⟩
theorem Zv.lt {w:World}{s:Bool}{A:Option Addr}{n c:Nat}{z:Int}(h:Zv w s A n c z):z.natAbs<18446744073709551616^n:=h.abs.1.lt
theorem q_o {A:Option Addr}{n c:Nat}{s:Bool}{z:Int}{w:World}(h:Zv w s A n c z)(hn:n<=1099511627776):
  Calls Tryz.prog 124 #[.agg #[.bool s,.slice A n c]] w (ZPost (-z) n w):=by
 obtain⟨h1,h2⟩:=h.abs;have z0:=zba2 w (.cells #[.bool s,.slice A n c] 31) (.cells #[.bool false,.slice none 0 0] 31);have h3:=h1.below z0;have HZ:=Lib.hid z0;have HI:=Lib.hid (Ib.new (w.alloc (.cells #[.bool s,.slice A n c] 31)) false none 0 0 31);have hs:sg (!s) z.natAbs= -z:=by rw[n_v];exact congrArg _ h2.out.symm
 have HS:=Lib.hid hs;clear h1 h2 h z0 hs;go_enter Tryz.func124,Tryz.ntmps124
 go_wp2_with fail
 refine(j_t h3 hn).mono ?_;rintro e w2 ⟨t,A2,n2,c2,rfl,p2,k2,B2⟩;rw[HS.out]at p2;have I:=HI.out.below B2;have P:=Lib.hid (zfin p2 I (k:=n) (by omega) (by simp) (zup HZ.out B2));obtain⟨i1,i2,i3,i4,i5⟩:=I;simp only[World.size_alloc]at i1 i2 i3 i4 i5 P;clear p2 B2 h3
 go_wp2_with fail
 exact bodyPost_ret (v:=.agg #[.bool t,.slice A2 n2 c2]) (by simp[results,Tryz.results124,go_sem,i1,i2]) rfl P.out
theorem c_9 {A:Option Addr}{n c v:Nat}{w:World}(hx:Nv w A n c v)(hn:n<=1099511627776){b:Nat}(hb:bl v=b):
  Calls Tryz.prog 47 #[.slice A n c] w fun e w'=>e= .returned (.int .i64 b)/\w=w':=by
 obtain⟨xs,h1,h2,h3,h4,h5,rfl⟩:=hx;rw[<-hb];exact f_b A n c xs w h1 h2 h3 h4 h5 hn
theorem j_k {v:Nat}:bl v=0↔v=0:=by
 have h:=bl_le (v:=v) (k:=0);simp at h;omega
def IPost (r:Int)(w:World)(e:Ending)(w':World):Prop:=e= .returned (.int .i64 r)/\Below w.heap.size w w'
theorem f_c {A:Option Addr}{n c:Nat}{s:Bool}{z r:Int}{w:World}(h:Zv w s A n c z)(hn:n<=1099511627776)(hr:z.sign=r):
  Calls Tryz.prog 11 #[.agg #[.bool s,.slice A n c]] w (IPost r w):=by
 obtain⟨h1,h2⟩:=h.abs;have z0:=zba w (.cells #[.bool s,.slice A n c] 31);have h3:=h1.below z0;have HZ:=Lib.hid z0;have e:=h2.out;obtain⟨b,hb⟩:∃b,bl z.natAbs=b:=⟨_,rfl⟩;have hb0:=j_k (v:=z.natAbs);rw[hb]at hb0;have HB:=Lib.hid hb;clear h z0 h1 h2 hb;rcases Nat.eq_zero_or_pos b with rfl|hb1
 ·obtain rfl:r=0:=by rw[<-hr,show z=0 by have:=hb0.1 rfl;omega];rfl
  clear hr e hb0;go_enter Tryz.func11,Tryz.ntmps11
  go_wp2_with fail
  refine(c_9 h3 hn HB.out).mono ?_;rintro e w2 ⟨rfl,rfl⟩
  go_wp2_with fail
  go_ret
  exact⟨rfl,HZ.out⟩
 ·have hz0:z≠0:=fun h0=>by have:=hb0.2 (by omega);omega
  have q1:((b:Int)==0)=false:=by rw[beq_eq_false_iff_ne];omega
  clear hb0;cases s
  ·obtain rfl:r=1:=by rw[<-hr];simp[sg]at e;exact Int.sign_eq_one_of_pos (by omega)
   clear hr e hz0;go_enter Tryz.func11,Tryz.ntmps11
   go_wp2_with fail
   refine(c_9 h3 hn HB.out).mono ?_;rintro e w2 ⟨rfl,rfl⟩
   go_wp2_with fail
   go_ret
   exact⟨rfl,HZ.out⟩
  ·obtain rfl:r= -1:=by rw[<-hr];simp[sg]at e;exact Int.sign_eq_neg_one_of_neg (by omega)
   clear hr e hz0;go_enter Tryz.func11,Tryz.ntmps11
   go_wp2_with fail
   refine(c_9 h3 hn HB.out).mono ?_;rintro e w2 ⟨rfl,rfl⟩
   go_wp2_with fail
   go_ret
   exact⟨rfl,HZ.out⟩
theorem open3 (w:World)(s t:Bool)(A B:Option Addr)(n c m d:Nat):
  ∃w3,w3=(((w.alloc (.cells #[.bool s,.slice A n c] 31)).alloc (.cells #[.bool t,.slice B m d] 31)).alloc (.cells #[.bool false,.slice none 0 0] 31))/\
   Ib w3 w.heap.size s A n c/\Ib w3 (w.heap.size+1) t B m d/\Ib w3 (w.heap.size+1+1) false none 0 0/\Below w.heap.size w w3:=by
 refine⟨_,rfl, ?_, ?_, ?_,zba3 _ _ _ _⟩
 ·exact((Ib.new w s A n c _).below (zba _ _)).below (zba _ _)
 ·have:=(Ib.new (w.alloc (.cells #[.bool s,.slice A n c] 31)) t B m d 31).below (zba _ (.cells #[.bool false,.slice none 0 0] 31));simpa using this
 ·have:=Ib.new ((w.alloc (.cells #[.bool s,.slice A n c] 31)).alloc (.cells #[.bool t,.slice B m d] 31)) false none 0 0 31;simpa using this
theorem Zv.up {W w:World}{s:Bool}{A:Option Addr}{n c:Nat}{z:Int}(h:Zv w s A n c z)(hb:Below w.heap.size w W):Nv W A n c z.natAbs/\Hid (z=sg s z.natAbs):=(h.below hb).abs
theorem j_v {A B:Option Addr}{n m c d:Nat}{s:Bool}{x y:Int}{w:World}(hx:Zv w s A n c x)(hy:Zv w s B m d y)(hn:n<=1099511627776)(hm:m<=1099511627776):
  Calls Tryz.prog 121 #[.agg #[.bool s,.slice A n c],.agg #[.bool s,.slice B m d]] w (ZPost (x+y) (max n m+1) w):=by
 obtain⟨w3,hw3,IA,IB,IR,z0⟩:=open3 w s s A B n c m d;obtain⟨hx1,ex⟩:=hx.up z0;obtain⟨hy1,ey⟩:=hy.up z0;have HZ:=Lib.hid z0;have hs:sg s (x.natAbs+y.natAbs)=x+y:=by rw[ex.out,ey.out];cases s<;>simp[sg]<;>omega
 have HS:=Lib.hid hs;have HW:=Lib.hid hw3.symm;clear hx hy ex ey hs z0 hw3;have q1:(s==s)=true:=by simp
 go_enter Tryz.func121,Tryz.ntmps121
 go_wp2_with fail
 rw[HW.out];have HA:=Lib.hid IA;have HB:=Lib.hid IB;have HR:=Lib.hid IR;obtain⟨a1,a2,a3,a4,a5⟩:=IA;obtain⟨b1,b2,b3,b4,b5⟩:=IB;clear IR;have n1:¬(w.heap.size+1+1=w.heap.size):=by omega
 have n2:¬(w.heap.size=w.heap.size+1+1):=by omega
 go_region_held3 (fun w'=>w'.cell? ⟨w.heap.size,0,none⟩=some (.bool s)/\w'.cell? ⟨w.heap.size,1,none⟩=some (.slice A n c)/\w'.cell? ⟨w.heap.size+1,1,none⟩=some (.slice B m d)) (go_keep) (first
  |(go_at_call 155;refine(l_w (x:=x.natAbs) (y:=y.natAbs) (hx1.below (a_a _)) (hy1.below (a_a _)) hn hm).mono ?_;rintro e w4 ⟨A4,n4,c4,rfl,p4,k4,B4⟩;have Q4:=zup (a_a _) B4;obtain⟨u1,u2,_⟩:=HA.out.below Q4;obtain⟨_,u3,_⟩:=HB.out.below Q4)
  |(go_at_call 53;refine(a_v p4).mono ?_;rintro e w5 ⟨s5,A5,n5,c5,rfl,p5,k5,B5⟩;have Q5:=zup Q4 B5;obtain⟨v1,v2,_⟩:=HA.out.below Q5;obtain⟨_,v3,_⟩:=HB.out.below Q5;obtain⟨r1,r2,r3,r4,r5⟩:=HR.out.below Q5))
 rw[HS.out]at p5;have P:=Lib.hid (zfin p5 ⟨r1,r2,r3,r4,r5⟩ (k:=max n m+1) (by omega) (by omega) (zup HZ.out Q5));clear p4 p5 B4 B5 Q4 Q5 k4 k5
 go_wp2_with fail
 exact bodyPost_ret (v:=.agg #[.bool s5,.slice A5 n5 c5]) (by simp[results,Tryz.results121,go_sem,r1,r2]) rfl P.out
theorem j_x {A B:Option Addr}{n m c d:Nat}{s t:Bool}{x y:Int}{w:World}(hx:Zv w s A n c x)(hy:Zv w t B m d y)(hst:t= !s)(hn:n<=1099511627776)(hm:m<=1099511627776):
  Calls Tryz.prog 121 #[.agg #[.bool s,.slice A n c],.agg #[.bool t,.slice B m d]] w (ZPost (x+y) (max n m+1) w):=by
 obtain⟨w3,hw3,IA,IB,IR,z0⟩:=open3 w s t A B n c m d;obtain⟨hx1,ex⟩:=hx.up z0;obtain⟨hy1,ey⟩:=hy.up z0;have HZ:=Lib.hid z0;have HW:=Lib.hid hw3.symm;have q1:(s==t)=false:=by rw[hst];cases s<;>rfl
 by_cases hle:y.natAbs<=x.natAbs
 ·have hs:sg s (x.natAbs - y.natAbs)=x+y:=by rw[ex.out,ey.out,hst];cases s<;>simp[sg]<;>omega
  have HS:=Lib.hid hs;clear hx hy ex ey hs z0 hw3 hst;have HA:=Lib.hid IA;have HR:=Lib.hid IR;obtain⟨a1,a2,a3,a4,a5⟩:=IA;obtain⟨b1,b2,b3,b4,b5⟩:=IB;clear IR;go_enter Tryz.func121,Tryz.ntmps121
  go_wp2_with fail
  rw[HW.out];refine(f_k hx1 hy1 hn hle).mono ?_;rintro e w4 ⟨A4,n4,c4,rfl,p4,k4,B4⟩;obtain⟨u1,u2,_⟩:=HA.out.below B4;clear a1 a2 a3 a4 a5 b1 b2 b3 b4 b5 hx1 hy1
  go_wp2_with fail
  refine(a_v p4).mono ?_;rintro e w5 ⟨s5,A5,n5,c5,rfl,p5,k5,B5⟩;have Q5:=zup B4 B5;obtain⟨r1,r2,r3,r4,r5⟩:=HR.out.below Q5;rw[HS.out]at p5;have P:=Lib.hid (zfin p5 ⟨r1,r2,r3,r4,r5⟩ (k:=max n m+1) (by omega) (by omega) (zup HZ.out Q5));clear p4 p5 B4 B5 Q5 k4 k5 u1 u2
  go_wp2_with fail
  exact bodyPost_ret (v:=.agg #[.bool s5,.slice A5 n5 c5]) (by simp[results,Tryz.results121,go_sem,r1,r2]) rfl P.out
 ·have hs:sg t (y.natAbs - x.natAbs)=x+y:=by rw[ex.out,ey.out,hst];cases s<;>simp[sg]<;>omega
  have HS:=Lib.hid hs;clear hx hy ex ey hs z0 hw3 hst;have HA:=Lib.hid IA;have HB:=Lib.hid IB;have HR:=Lib.hid IR;have hX:=Lib.hid hx1;have hY:=Lib.hid hy1;obtain⟨a1,a2,a3,a4,a5⟩:=IA;obtain⟨b1,b2,b3,b4,b5⟩:=IB;clear IR;go_enter Tryz.func121,Tryz.ntmps121
  go_wp2_with fail
  rw[HW.out];refine(q_0 hx1 hy1 hn (by omega)).mono ?_;rintro e w4 ⟨⟨A4,c4,rfl⟩,B4⟩;obtain⟨u1,u2,_⟩:=HA.out.below B4;obtain⟨v1,v2,_⟩:=HB.out.below B4;clear a1 a2 a3 a4 a5 b1 b2 b3 b4 b5 hx1 hy1
  go_wp2_with fail
  refine(f_k (hY.out.below B4) (hX.out.below B4) hm (by omega)).mono ?_;rintro e w6 ⟨A6,n6,c6,rfl,p6,k6,B6⟩;have Q6:=zup B4 B6;clear u1 u2 v1 v2;obtain⟨v1,v2,_⟩:=HB.out.below Q6
  go_wp2_with fail
  refine(a_v p6).mono ?_;rintro e w5 ⟨s5,A5,n5,c5,rfl,p5,k5,B5⟩;have Q5:=zup Q6 B5;obtain⟨r1,r2,r3,r4,r5⟩:=HR.out.below Q5;rw[HS.out]at p5;have P:=Lib.hid (zfin p5 ⟨r1,r2,r3,r4,r5⟩ (k:=max n m+1) (by omega) (by omega) (zup HZ.out Q5));clear p6 p5 B4 B5 B6 Q5 Q6 k6 k5 v1 v2
  go_wp2_with fail
  exact bodyPost_ret (v:=.agg #[.bool s5,.slice A5 n5 c5]) (by simp[results,Tryz.results121,go_sem,r1,r2]) rfl P.out
theorem n_q {A B:Option Addr}{n m c d:Nat}{s t:Bool}{x y:Int}{w:World}(hx:Zv w s A n c x)(hy:Zv w t B m d y)(hn:n<=1099511627776)(hm:m<=1099511627776):
  Calls Tryz.prog 121 #[.agg #[.bool s,.slice A n c],.agg #[.bool t,.slice B m d]] w (ZPost (x+y) (max n m+1) w):=by
 by_cases h:t=s
 ·subst h;exact j_v hx hy hn hm
 ·exact j_x hx hy (by cases s<;>cases t<;>simp at*) hn hm
theorem h_0 {A B:Option Addr}{n m c d:Nat}{s t:Bool}{x y:Int}{w:World}(hx:Zv w s A n c x)(hy:Zv w t B m d y)(hn:n<=1099511627776)(hm:m<=1099511627776):
  Calls Tryz.prog 133 #[.agg #[.bool s,.slice A n c],.agg #[.bool t,.slice B m d]] w (ZPost (x - y) (max n m+1) w):=by
 obtain⟨w3,hw3,IA,IB,IR,z0⟩:=open3 w s t A B n c m d;have hx1:=hx.below z0;have hy1:Zv w3 (!t) B m d (-y):=by
  obtain⟨h1,h2⟩:=hy.up z0;exact⟨_,h1,Lib.hid (by rw[n_v];exact congrArg _ h2.out)⟩
 have HZ:=Lib.hid z0;have HW:=Lib.hid hw3.symm;clear hx hy z0 hw3;have HR:=Lib.hid IR;obtain⟨a1,a2,a3,a4,a5⟩:=IA;obtain⟨b1,b2,b3,b4,b5⟩:=IB;clear IR;go_enter Tryz.func133,Tryz.ntmps133
 go_wp2_with fail
 rw[HW.out];refine(n_q hx1 hy1 hn hm).mono ?_;rintro e w5 ⟨s5,A5,n5,c5,rfl,p5,k5,B5⟩;rw[show x+ -y=x - y from rfl]at p5;obtain⟨r1,r2,r3,r4,r5⟩:=HR.out.below B5;have P:=Lib.hid (zfin p5 ⟨r1,r2,r3,r4,r5⟩ (k:=max n m+1) (by omega) (by omega) (zup HZ.out B5));clear p5 B5 k5 a1 a2 a3 a4 a5 b1 b2 b3 b4 b5 hx1 hy1
 go_wp2_with fail
 exact bodyPost_ret (v:=.agg #[.bool s5,.slice A5 n5 c5]) (by simp[results,Tryz.results133,go_sem,r1,r2]) rfl P.out
theorem n_w (s t:Bool)(X Y:Nat):sg (!(s==t)) (X*Y)=sg s X*sg t Y:=by
 cases s<;>cases t<;>simp[sg,Int.neg_mul,Int.mul_neg]
theorem j_s {A B:Option Addr}{n m c d:Nat}{s t:Bool}{x y:Int}{w:World}(hx:Zv w s A n c x)(hy:Zv w t B m d y)(hn:n<=1099511627776)(hm:m<=1099511627776):
  Calls Tryz.prog 50 #[.agg #[.bool s,.slice A n c],.agg #[.bool t,.slice B m d]] w (ZPost (x*y) (n+m) w):=by
 obtain⟨w3,hw3,IA,IB,IR,z0⟩:=open3 w s t A B n c m d;obtain⟨hx1,ex⟩:=hx.up z0;obtain⟨hy1,ey⟩:=hy.up z0;have HZ:=Lib.hid z0;obtain⟨b,hb⟩:∃b,(!(s==t))=b:=⟨_,rfl⟩;have hs:sg b (x.natAbs*y.natAbs)=x*y:=by
  rw[<-hb,n_w,<-ex.out,<-ey.out]
 have HS:=Lib.hid hs;have HW:=Lib.hid hw3.symm;clear hx hy ex ey hs z0 hw3;have HA:=Lib.hid IA;have HB:=Lib.hid IB;have HR:=Lib.hid IR;obtain⟨a1,a2,a3,a4,a5⟩:=IA;obtain⟨b1,b2,b3,b4,b5⟩:=IB;clear IR;have n1:¬(w.heap.size+1+1=w.heap.size):=by omega
 have n2:¬(w.heap.size=w.heap.size+1+1):=by omega
 go_enter Tryz.func50,Tryz.ntmps50
 go_wp2_with fail
 rw[HW.out]
 go_region_held3 (fun w'=>w'.cell? ⟨w.heap.size,0,none⟩=some (.bool s)/\w'.cell? ⟨w.heap.size,1,none⟩=some (.slice A n c)/\w'.cell? ⟨w.heap.size+1,0,none⟩=some (.bool t)/\w'.cell? ⟨w.heap.size+1,1,none⟩=some (.slice B m d)) (go_keep) (first
  |(go_at_call 110;refine(k_t (x:=x.natAbs) (y:=y.natAbs) (hx1.below (a_a _)) (hy1.below (a_a _)) hn hm).mono ?_;rintro e w4 ⟨A4,n4,c4,rfl,p4,k4,B4⟩;have Q4:=zup (a_a _) B4;obtain⟨u1,u2,_⟩:=HA.out.below Q4;obtain⟨u4,u3,_⟩:=HB.out.below Q4)
  |(go_at_call 53;refine(a_v p4).mono ?_;rintro e w5 ⟨s5,A5,n5,c5,rfl,p5,k5,B5⟩;have Q5:=zup Q4 B5;obtain⟨v1,v2,_⟩:=HA.out.below Q5;obtain⟨v4,v3,_⟩:=HB.out.below Q5;obtain⟨r1,r2,r3,r4,r5⟩:=HR.out.below Q5))
 rw[HS.out]at p5;have P:=Lib.hid (zfin p5 ⟨r1,r2,r3,r4,r5⟩ (k:=n+m) (by omega) (by omega) (zup HZ.out Q5));clear p4 p5 B4 B5 Q4 Q5 k4 k5
 go_wp2_with fail
 exact bodyPost_ret (v:=.agg #[.bool s5,.slice A5 n5 c5]) (by simp[results,Tryz.results50,go_sem,r1,r2]) rfl P.out
theorem f_y (x y r:Int)(hr:(x - y).sign=r)(w:World):
  Calls Tryz.prog 108 #[.int .i64 x,.int .i64 y] w fun e w'=>e= .returned (.int .i64 r)/\w=w':=by
 have N:∀x:Int,∀w:World,Calls Tryz.prog 141 #[.int .i64 x] w fun e w'=>e= .returned (.bool false)/\w=w':=by
  intro x w;go_enter Tryz.func141,Tryz.ntmps141
  go_wp2_with fail
  go_ret
  exact⟨rfl,rfl⟩
 rcases Int.lt_trichotomy x y with h|h|h
 ·obtain rfl:r= -1:=by rw[<-hr];exact Int.sign_eq_neg_one_of_neg (by omega)
  clear hr;go_enter Tryz.func108,Tryz.ntmps108
  go_wp2_with fail
  refine(N _ _).mono ?_;rintro e w' ⟨rfl,rfl⟩
  go_wp2_with fail
  refine(N _ _).mono ?_;rintro e w' ⟨rfl,rfl⟩
  go_wp2_with fail
  go_ret
  exact⟨rfl,rfl⟩
 ·subst h;obtain rfl:r=0:=by rw[<-hr,Int.sub_self];rfl
  clear hr;go_enter Tryz.func108,Tryz.ntmps108
  go_wp2_with fail
  refine(N _ _).mono ?_;rintro e w' ⟨rfl,rfl⟩
  go_wp2_with fail
  refine(N _ _).mono ?_;rintro e w' ⟨rfl,rfl⟩
  go_wp2_with fail
  go_ret
  exact⟨rfl,rfl⟩
 ·obtain rfl:r=1:=by rw[<-hr];exact Int.sign_eq_one_of_pos (by omega)
  clear hr;have h2:¬x<y:=by omega
  go_enter Tryz.func108,Tryz.ntmps108
  go_wp2_with fail
  refine(N _ _).mono ?_;rintro e w' ⟨rfl,rfl⟩
  go_wp2_with fail
  refine(N _ _).mono ?_;rintro e w' ⟨rfl,rfl⟩
  go_wp2_with fail
  go_ret
  exact⟨rfl,rfl⟩
theorem f_2 {X Y:Int}{x y:Nat}(s:Bool)(hX:X=sg s x)(hY:Y=sg s y):(X - Y).sign=if s=true then cmpN y x else cmpN x y:=by
 cases s
 ·simp only[sg]at hX hY;subst hX hY;rcases Nat.lt_trichotomy x y with h|h|h
  ·simp[e_t h];omega
  ·simp[e_v h];omega
  ·simp[e_u h];omega
 ·simp only[sg]at hX hY;subst hX hY;rcases Nat.lt_trichotomy x y with h|h|h
  ·simp[e_u h];omega
  ·simp[e_v h.symm];omega
  ·simp[e_t h];omega
end
section
open Go.RowKit
theorem o_8 {w:World}{g k:Nat}{s:Bool}{A:Option Addr}{n c:Nat}(h0:w.cell? ⟨g,k,none⟩=some (.bool s))(h1:w.cell? ⟨g,k+1,none⟩=some (.slice A n c)):
  (Instr.loadAt 31 (.pointer (some ⟨g,k,none⟩))).run Tryz.prog w= .ok (.agg #[.bool s,.slice A n c]) w:=by
 simp[go_sem,h0,h1]
def IsC (z:Int)(k:Nat):FVal:=fun v w=>∃s A n c,v= .agg #[.bool s,.slice A n c]/\Zc w s A n c z/\n<=k
def IsV (z:Int)(k:Nat):FVal:=fun v w=>∃s A n c,v= .agg #[.bool s,.slice A n c]/\Zv w s A n c z/\n<=k
theorem q_2 (z:Int)(k:Nat):Stays (IsV z k):=fun v w w' ⟨s,A,n,c,e,h,hk⟩ hb=>⟨s,A,n,c,e,h.below hb,hk⟩
theorem q_4 (z:Int)(k:Nat):Stays (IsC z k):=fun v w w' ⟨s,A,n,c,e,h,hk⟩ hb=>⟨s,A,n,c,e,h.below hb,hk⟩
end
section
def ith (l:List Int)(i:Nat):Int:=l.getD i 0
end
section
open Go.RowKit
theorem a_y (a:Addr):a.add 0=a:=by
 obtain⟨b,o,i⟩:=a;cases i<;>rfl
theorem a_2 {w w':World}(h:Below w.heap.size w w')(r:Option Nat):w.grownBy w' r:=⟨h.os,h.tape,h.output,h.size,fun k hk _=>h.block k hk⟩
theorem a_6 (w:World)(r:Option Nat):w.grownBy w r:=a_2 (Below.refl _ _) r
theorem a_i {a b c:World}{r:Option Nat}(h:a.grownBy b r)(k:b.grownBy c r):a.grownBy c r:=
 ⟨k.os.trans h.os,k.tape.trans h.tape,k.output.trans h.output,Nat.le_trans h.size k.size,fun i hi hn=>(k.block i (Nat.lt_of_lt_of_le hi h.size) hn).trans (h.block i hi hn)⟩
theorem a_8 {w w':World}{g:Nat}{q:Addr}(h:w.grownBy w' (some g))(hq:q.block=g)(u:Value):w.grownBy (w'.setCell q u) (some g):=by
 obtain⟨b,o,n⟩:=q;exact⟨h.os,h.tape,h.output,by simpa using h.size,fun k hk hne=>(Below.heap_setCell _ _ _ _ (fun e=>hne (by rw[e];simp only at hq ⊢;rw[hq]))).trans (h.block k hk hne)⟩
theorem g_s {w0 w w':World}{g:Nat}(hb:Below w0.heap.size w0 w)(h:w.grownBy w' (some g))(hg:w0.heap.size<=g):Below w0.heap.size w0 w':=
 hb.trans ⟨h.os,h.tape,h.output,h.size,fun k hk=>h.block k (by have:=hb.size;omega) (fun e=>by have:=Option.some.inj e;omega)⟩
def Wless (w:World)(g:Nat):Prop:=∀(p:Addr) (m:Int),p.block=g->w.cell? p≠some (.int .u64 m)
theorem Rd.gro {w w':World}{A:Option Addr}{xs:List Nat}{g:Nat}(h:Rd w .u64 A xs)(hn:Wless w g)(hg:w.grownBy w' (some g)):Rd w' .u64 A xs:=fun h0=>by
 have h1:=h;obtain⟨ad,rfl,hlt,hc⟩:=h h0;refine(h1.grown hg fun ad' e e2=>?_) h0;cases e;obtain rfl:ad.block=g:=Option.some.inj e2;exact hn _ _ (by rw[a_b]) (hc 0 h0)
theorem Cv.gro {w w':World}{A:Option Addr}{n c x g:Nat}(h:Cv w A n c x)(hn:Wless w g)(hg:w.grownBy w' (some g)):Cv w' A n c x:=⟨h.1.gro hn hg,h.2⟩
theorem Nv.gro {w w':World}{A:Option Addr}{n c x g:Nat}(h:Nv w A n c x)(hn:Wless w g)(hg:w.grownBy w' (some g)):Nv w' A n c x:=by
 obtain⟨xs,h1,h2⟩:=h;exact⟨xs,h1.gro hn hg,h2⟩
theorem Zv.gro {w w':World}{s:Bool}{A:Option Addr}{n c g:Nat}{z:Int}(h:Zv w s A n c z)(hn:Wless w g)(hg:w.grownBy w' (some g)):Zv w' s A n c z:=by
 obtain⟨v,h1,h2⟩:=h;exact⟨v,h1.gro hn hg,h2⟩
theorem Zc.gro {w w':World}{s:Bool}{A:Option Addr}{n c g:Nat}{z:Int}(h:Zc w s A n c z)(hn:Wless w g)(hg:w.grownBy w' (some g)):Zc w' s A n c z:=⟨h.1.gro hn hg,h.2⟩
def Ze (q:Bool)(w:World)(s:Bool)(A:Option Addr)(n c:Nat)(z:Int):Prop:=Zv w s A n c z/\(q=true->Zc w s A n c z)
section
variable {q:Bool}{w w':World}{s:Bool}{A:Option Addr}{n c g:Nat}{z:Int}
theorem Ze.below (h:Ze q w s A n c z)(hb:Below w.heap.size w w'):Ze q w' s A n c z:=⟨h.1.below hb,fun e=>(h.2 e).below hb⟩
theorem Ze.gro (h:Ze q w s A n c z)(hn:Wless w g)(hg:w.grownBy w' (some g)):Ze q w' s A n c z:=⟨h.1.gro hn hg,fun e=>(h.2 e).gro hn hg⟩
theorem Ze.of (h:Zc w s A n c z):Ze q w s A n c z:=⟨h.zv,fun _=>h⟩
end
def ZAt (q:Bool)(w:World)(p:Addr)(k:Nat)(z:Int):Prop:=
 ∃s A n c,w.cell? p=some (.bool s)/\w.cell? ⟨p.block,p.off+1,none⟩=some (.slice A n c)/\Ze q w s A n c z/\n<=k
theorem m_h {w:World}{p:Addr}{s:Bool}{A:Option Addr}{n c:Nat}(h0:w.cell? p=some (.bool s))(h1:w.cell? ⟨p.block,p.off+1,none⟩=some (.slice A n c)):
  (Instr.loadAt 31 (.pointer (some p))).run Tryz.prog w= .ok (.agg #[.bool s,.slice A n c]) w:=by
 simp[go_sem,Addr.add,h0,h1]
structure ZL (q:Bool) (w:World) (A:Option Addr) (n c k:Nat) (zs:List Int):Prop where
 len:zs.length=n
 le:n<=c
 cap:c<=9223372036854775807
 at':0<n->∃ad,A=some ad/\ad.block<w.heap.size/\∀j,j<n->ZAt q w (ad.add (j*2)) k (ith zs j)
section
variable {q:Bool}{w w':World}{A:Option Addr}{n c k g:Nat}{zs:List Int}
theorem ZAt.below {p:Addr}{z:Int}(h:ZAt q w p k z)(hp:p.block<w.heap.size)(hb:Below w.heap.size w w'):ZAt q w' p k z:=by
 obtain⟨s,A,n,c,h1,h2,h3,h4⟩:=h;exact⟨s,A,n,c,(hb.cell hp).trans h1,(hb.cell (p:=⟨p.block,p.off+1,none⟩) hp).trans h2,h3.below hb,h4⟩
theorem ZAt.gro {p:Addr}{z:Int}(h:ZAt q w p k z)(hp:p.block<w.heap.size)(hne:p.block≠g)(hn:Wless w g)(hg:w.grownBy w' (some g)):ZAt q w' p k z:=by
 obtain⟨s,A,n,c,h1,h2,h3,h4⟩:=h;have e:=hg.block p.block hp (fun e=>hne (Option.some.inj e));exact⟨s,A,n,c,(World.cell?_of_block e).trans h1,(World.cell?_of_block (a:=⟨p.block,p.off+1,none⟩) e).trans h2,h3.gro hn hg,h4⟩
theorem ZL.nil (q:Bool)(w:World)(k:Nat):ZL q w none 0 0 k []:=⟨rfl,Nat.le_refl _,by omega,fun h=>by omega⟩
theorem ZL.below (h:ZL q w A n c k zs)(hb:Below w.heap.size w w'):ZL q w' A n c k zs:=⟨h.len,h.le,h.cap,fun h0=>by
 obtain⟨ad,rfl,h1,h2⟩:=h.at' h0;exact⟨ad,rfl,Nat.lt_of_lt_of_le h1 hb.size,fun j hj=>(h2 j hj).below (by rw[a_b];exact h1) hb⟩⟩
theorem ZL.gro (h:ZL q w A n c k zs)(hne:∀ad,A=some ad->ad.block≠g)(hn:Wless w g)(hg:w.grownBy w' (some g)):ZL q w' A n c k zs:=⟨h.len,h.le,h.cap,fun h0=>by
 obtain⟨ad,rfl,h1,h2⟩:=h.at' h0;exact⟨ad,rfl,Nat.lt_of_lt_of_le h1 hg.size,fun j hj=>(h2 j hj).gro (by rw[a_b];exact h1) (by rw[a_b];exact hne ad rfl) hn hg⟩⟩
theorem ZL.weak (h:ZL q w A n c k zs):ZL false w A n c k zs:=⟨h.len,h.le,h.cap,fun h0=>by
 obtain⟨ad,rfl,h1,h2⟩:=h.at' h0;refine⟨ad,rfl,h1,fun j hj=>?_⟩;obtain⟨s,A,n,c,h1,h2,h3,h4⟩:=h2 j hj;exact⟨s,A,n,c,h1,h2,⟨h3.1,fun e=>by cases e⟩,h4⟩⟩
theorem ZL.at (h:ZL q w A n c k zs){j:Nat}(hj:j<n):∃ad,A=some ad/\ad.block<w.heap.size/\ZAt q w (ad.add (j*2)) k (ith zs j):=by
 obtain⟨ad,e,h1,h2⟩:=h.at' (by omega);exact⟨ad,e,h1,h2 j hj⟩
theorem ZL.elem {ad:Addr}(h:ZL q w (some ad) n c k zs){j:Nat}(hj:j<n):ZAt q w (ad.add (j*2)) k (ith zs j):=by
 obtain⟨ad',e,h1,h2⟩:=h.at' (by omega);cases e;exact h2 j hj
theorem f_u {l:List Int}{m j:Nat}(h:j<m):ith (l.take m) j=ith l j:=by simp[ith,List.getD,h]
theorem f_v (l:List Int)(m j:Nat):ith (l.drop m) j=ith l (m+j):=by simp[ith,List.getD,List.getElem?_drop]
theorem ZL.take {m d:Nat}(h:ZL q w A n c k zs)(hm:m<=n)(hd:m<=d)(hc:d<=9223372036854775807):ZL q w A m d k (zs.take m):=⟨by rw[List.length_take,h.len];omega,hd,hc,fun h0=>by
 obtain⟨ad,rfl,h1,h2⟩:=h.at' (by omega);exact⟨ad,rfl,h1,fun j hj=>by rw[f_u hj];exact h2 j (by omega)⟩⟩
theorem ZL.drop {m d:Nat}{ad:Addr}(h:ZL q w (some ad) n c k zs)(hm:m<=n)(hd:n - m<=d)(hc:d<=9223372036854775807):ZL q w (some (ad.add (m*2))) (n - m) d k (zs.drop m):=⟨by rw[List.length_drop,h.len],hd,hc,fun h0=>by
 obtain⟨ad',e,h1,h2⟩:=h.at' (by omega);cases e;exact⟨_,rfl,by rw[a_b];exact h1,fun j hj=>by rw[f_v,h_z,<-Nat.add_mul];exact h2 (m+j) (by omega)⟩⟩
end
def ZB (w:World)(g k:Nat)(zs:List Int):Prop:=
 ∃cs:Array Value,w.heap[g]? =some (.cells cs 31 (0,0))/\cs.size=zs.length*2/\∀j,j<zs.length->∃s A n c,cs[j*2]? =some (.bool s)/\cs[j*2+1]? =some (.slice A n c)/\Zc w s A n c (ith zs j)/\n<=k
def zputo (w:World)(g o:Nat)(s:Bool)(A:Option Addr)(n c:Nat):World:=(w.setCell ⟨g,o,none⟩ (.bool s)).setCell ⟨g,o+1,none⟩ (.slice A n c)
section
variable {w w':World}{g k b:Nat}{zs:List Int}
theorem ZB.lt (h:ZB w g k zs):g<w.heap.size:=by
 obtain⟨cs,h1,_⟩:=h;exact(Array.getElem?_eq_some_iff.1 h1).1
theorem ZB.now (h:ZB w g k zs):Wless w g:=fun p m hp e=>by
 obtain⟨cs,h1,h2,h3⟩:=h;have e2:cs[p.off]? =some (.int .u64 m):=by
  have:=e;unfold World.cell? at this;rw[hp,h1]at this;exact(by simpa using this:p.spot=none/\cs[p.off]? =some (.int .u64 m)).2
 have hlt:p.off<cs.size:=(Array.getElem?_eq_some_iff.1 e2).1;rw[h2]at hlt;obtain⟨s,A,n,c,c1,c2,_⟩:=h3 (p.off / 2) (by omega);rcases(by omega:p.off=p.off / 2*2\/p.off=p.off / 2*2+1)with ho|ho
 ·rw[ho,c1]at e2;cases e2
 ·rw[ho,c2]at e2;cases e2
theorem ZB.below (h:ZB w g k zs)(hb:Below w.heap.size w w'):ZB w' g k zs:=by
 have hl:=h.lt;obtain⟨cs,h1,h2,h3⟩:=h;refine⟨cs,(hb.block g hl).trans h1,h2,fun j hj=>?_⟩;obtain⟨s,A,n,c,c1,c2,c3,c4⟩:=h3 j hj;exact⟨s,A,n,c,c1,c2,c3.below hb,c4⟩
theorem ZB.gro (h:ZB w g k zs)(hne:g≠b)(hn:Wless w b)(hg:w.grownBy w' (some b)):ZB w' g k zs:=by
 have hl:=h.lt;obtain⟨cs,h1,h2,h3⟩:=h;refine⟨cs,(hg.block g hl (fun e=>hne (Option.some.inj e))).trans h1,h2,fun j hj=>?_⟩;obtain⟨s,A,n,c,c1,c2,c3,c4⟩:=h3 j hj;exact⟨s,A,n,c,c1,c2,c3.gro hn hg,c4⟩
theorem ZB.mono {k':Nat}(h:ZB w g k zs)(hk:k<=k'):ZB w g k' zs:=by
 obtain⟨cs,h1,h2,h3⟩:=h;refine⟨cs,h1,h2,fun j hj=>?_⟩;obtain⟨s,A,n,c,c1,c2,c3,c4⟩:=h3 j hj;exact⟨s,A,n,c,c1,c2,c3,Nat.le_trans c4 hk⟩
theorem ZB.cells (h:ZB w g k zs){j:Nat}(hj:j<zs.length):∃s A n c,w.cell? ⟨g,j*2,none⟩=some (.bool s)/\w.cell? ⟨g,j*2+1,none⟩=some (.slice A n c)/\Zc w s A n c (ith zs j)/\n<=k:=by
 obtain⟨cs,h1,h2,h3⟩:=h;obtain⟨s,A,n,c,c1,c2,c3,c4⟩:=h3 j hj;exact⟨s,A,n,c,by rw[cell_of_row w g _ _ _ _ h1,c1],by rw[cell_of_row w g _ _ _ _ h1,c2],c3,c4⟩
theorem ZB.free (h:ZB w g k zs)(j:Nat):w.frozen? ⟨g,j,none⟩=false:=by
 obtain⟨cs,h1,h2,h3⟩:=h;exact frozen_of_row w g j _ _ h1
theorem a_w (w:World)(g o:Nat)(s:Bool)(A:Option Addr)(n c:Nat):w.grownBy (zputo w g o s A n c) (some g):=by
 unfold zputo;exact a_8 (q:=⟨g,o+1,none⟩) (a_8 (q:=⟨g,o,none⟩) (a_6 w (some g)) rfl _) rfl _
theorem k_4 (l:List Int)(j i:Nat)(z:Int)(hj:j<l.length):ith (l.set j z) i=if i=j then z else ith l i:=by
 by_cases e:i=j
 ·subst e;rw[if_pos rfl];simp[ith,List.getD,hj]
 ·rw[if_neg e];simp[ith,List.getD,List.getElem?_set_ne (Ne.symm e)]
theorem ZB.put (h:ZB w g k zs){j n c:Nat}(hj:j<zs.length){s:Bool}{A:Option Addr}{z:Int}(hz:Zc w s A n c z)(hn:n<=k):ZB (zputo w g (j*2) s A n c) g k (zs.set j z):=by
 have hno:=h.now;have hgr:=a_w w g (j*2) s A n c;obtain⟨cs,h1,h2,h3⟩:=h;refine⟨(cs.setIfInBounds (j*2) (.bool s)).setIfInBounds (j*2+1) (.slice A n c), ?_,by simp[h2],fun i hi=>?_⟩
 ·unfold zputo;rw[heap_setCell_same _ g _ _ _ _ (heap_setCell_same w g _ _ _ _ h1)]
 ·rw[List.length_set]at hi;by_cases e:i=j
  ·subst e;refine⟨s,A,n,c, ?_, ?_, ?_,hn⟩
   ·rw[Array.getElem?_setIfInBounds_ne (by omega),Array.getElem?_setIfInBounds_self_of_lt (by omega)]
   ·rw[Array.getElem?_setIfInBounds_self_of_lt (by simp;omega)]
   ·rw[k_4 _ _ _ _ hj,if_pos rfl];exact hz.gro hno hgr
  ·obtain⟨s',A',n',c',c1,c2,c3,c4⟩:=h3 i hi;refine⟨s',A',n',c', ?_, ?_, ?_,c4⟩
   ·rw[Array.getElem?_setIfInBounds_ne (by omega),Array.getElem?_setIfInBounds_ne (by omega)];exact c1
   ·rw[Array.getElem?_setIfInBounds_ne (by omega),Array.getElem?_setIfInBounds_ne (by omega)];exact c2
   ·rw[k_4 _ _ _ _ hj,if_neg e];exact c3.gro hno hgr
theorem ZB.zl (h:ZB w g k zs)(q:Bool){o n c:Nat}(hn:o+n<=zs.length)(hc:n<=c)(hm:c<=9223372036854775807):ZL q w (some ⟨g,o*2,none⟩) n c k ((zs.drop o).take n):=by
 refine⟨by rw[List.length_take,List.length_drop];omega,hc,hm,fun h0=>⟨_,rfl,h.lt,fun j hj=>?_⟩⟩;rw[b_l,<-Nat.add_mul];obtain⟨s,A,n',c',c1,c2,c3,c4⟩:=h.cells (j:=o+j) (by omega);refine⟨s,A,n',c',c1,c2,.of ?_,c4⟩;rw[f_u hj,f_v];exact c3
theorem ZB.zl0 (h:ZB w g k zs)(q:Bool){n c:Nat}(hn:n<=zs.length)(hc:n<=c)(hm:c<=9223372036854775807):ZL q w (some ⟨g,0,none⟩) n c k (zs.take n):=by
 have:=h.zl q (o:=0) (by omega) hc hm;rwa [List.drop_zero,Nat.zero_mul]at this
end
theorem info_zint:(Tryz.prog.info? 31).map (fun i=>(i.zero,i.size,i.bytes))=some (some (.agg #[.bool false,.slice none 0 0]),2,32):=by kernel_rfl
theorem Zc.nought (w:World):Zc w false none 0 0 0:=by
 have e:cn 18446744073709551616 (Int.natAbs 0)=[]:=c_z _;refine⟨?_,Lib.hid (by decide)⟩;unfold Cv;rw[e];exact⟨Rd.nil _ _ _,rfl,by omega,by omega⟩
theorem ZB.made (w:World)(n:Nat):ZB (w.alloc (.cells (madeCells #[.bool false,.slice none 0 0] (n*2)) 31)) w.heap.size 0 (List.replicate n 0):=by
 refine⟨_,heap_alloc_new w _,by simp[size_madeCells],fun j hj=>?_⟩;rw[List.length_replicate]at hj;refine⟨false,none,0,0, ?_, ?_, ?_,Nat.le_refl _⟩
 ·rw[Array.getElem?_eq_some_iff];refine⟨by rw[size_madeCells];omega, ?_⟩;simp[madeCells]
 ·rw[Array.getElem?_eq_some_iff];refine⟨by rw[size_madeCells];omega, ?_⟩;have:(j*2+1)%2=1:=by omega
  simp[madeCells,this]
 ·rw[show ith (List.replicate n 0) j=0 by simp[ith,List.getD,hj]];exact Zc.nought _
end
end Go.Proofs.YtfhbdlegkdbmfaaGreat
