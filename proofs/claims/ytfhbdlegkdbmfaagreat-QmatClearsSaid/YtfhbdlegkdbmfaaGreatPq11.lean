/- Pq11 -/
import Derived.Test.YtfhbdlegkdbmfaaGreatPq10
import Derived.Lib.Hide
set_option linter.unusedVariables false
set_option linter.unusedSimpArgs false
set_option linter.unusedSectionVars false
set_option maxRecDepth 100000
set_option maxHeartbeats 8000000
namespace Go.Proofs.YtfhbdlegkdbmfaaGreat
section
open Go.RowKit
theorem l_c {A:Option Addr}{n c x:Nat}{w:World}(hx:Nv w A n c x):
  Calls Tryz.prog 114 #[.slice A n c] w (WordPost x w):=by
 obtain⟨xs,h1,h2,h3,h4,h5,rfl⟩:=hx;exact g_9 A n c xs w h1 h2 h3 h4 h5
theorem v_1 {A:Option Addr}{n c x:Nat}{w:World}(hx:Nv w A n c x)(hn:n<=1099511627776):
  Calls Tryz.prog 117 #[.slice A n c] w (NbPost x w):=by
 obtain⟨xs,h1,h2,h3,h4,h5,rfl⟩:=hx;exact s_a A n c xs w h1 h2 h3 h4 h5 hn
theorem r_9 {A:Option Addr}{n c x:Nat}{w:World}(hx:Nv w A n c x)(hn:n<=1099511627776):
  Calls Tryz.prog 117 #[.slice A n c] w (NatPost x w):=by
 obtain⟨xs,h1,h2,h3,h4,h5,rfl⟩:=hx;exact e_7 A n c xs w h1 h2 h3 h4 h5 hn
theorem NatPost.up {v:Nat}{w w1 w':World}{e:Ending}(h:NatPost v w1 e w')(hb:Below w.heap.size w w1):NatPost v w e w':=by
 obtain⟨A,c,he,hg⟩:=h;exact⟨A,c,he,hg.up hb⟩
theorem p_e (x:Nat)(hx:x<18446744073709551616)(w:World):Calls Tryz.prog 55 #[.int .u64 x] w (NatPost x w):=f_1 x hx w
theorem gcd_le_left' (x y:Nat)(hx:0<x):Nat.gcd x y<=x:=Nat.le_of_dvd hx (Nat.gcd_dvd_left x y)
theorem m_p {x y:Nat}(hx:x<18446744073709551616)(hy:y<18446744073709551616):Nat.gcd x y<18446744073709551616:=by
 rcases Nat.eq_zero_or_pos x with h|h
 ·rw[h,Nat.gcd_zero_left];exact hy
 ·exact Nat.lt_of_le_of_lt (gcd_le_left' x y h) hx
theorem s_b {w w':World}{ga n ca v:Nat}{La:List Nat}(W:Wb w' ga 85 La)(hl:La.length=ca)(hn:n<=ca)(hm:ca<=137438953472)(ht:n=0\/nth La (n - 1)≠0)(hg:w.heap.size<=ga)(hB:Below w.heap.size w w')(hv:ev 18446744073709551616 (La.take n)=v):
  NatPost v w (.returned (.slice (some ⟨ga,0,none⟩) n ca)) w':=by
 have hlen:(La.take n).length=n:=by simp;omega
 have hs:sl (La.take n)=n:=by
  refine o_o (fun j hj=>d_i (by omega)) ?_;rcases ht with h|h
  ·exact .inl h
  ·rcases Nat.eq_zero_or_pos n with h0|h0
   ·exact .inl h0
   ·rw[c_p (by omega)];exact .inr h
 have e:=n_z 18446744073709551616 (by omega) (La.take n) (W.2.take n);rw[hs,List.take_take,Nat.min_self,hv]at e;have ho:=W.1.owns (base:=w.heap.size) (n:=n) hg (by omega) (by rw[hl];unfold maxLen;omega);rw[hl]at ho;refine⟨_,ca,by rw[e,hlen], ?_,hB⟩;rw[e,hlen];exact ho
theorem j_4 {A:Option Addr}{n c x:Nat}{w:World}(hx:Nv w A n c x):
  Calls Tryz.prog 114 #[.slice A n c] w fun e w'=>∃(v:Nat) (b:Bool),e= .returned (.tuple #[.int .u64 (v:Int),.bool b])/\(b=true->x<18446744073709551616)/\w=w':=by
 refine(l_c hx).mono ?_;rintro e w' ⟨⟨h,rfl⟩|⟨h,rfl⟩,rfl⟩
 ·exact⟨x,true,rfl,fun _=>h,rfl⟩
 ·exact⟨0,false,rfl,(fun h=>by cases h),rfl⟩
def GcCut (w:World)(G:Nat)(s9 s11:Value)(wx:World):Prop:=
 ∃(n ga ca y k:Nat) (La:List Nat) (B:Option Addr) (cb:Nat),s11= .slice (some ⟨ga,0,none⟩) n ca/\s9= .slice B k cb/\w.heap.size<=ga/\La.length=ca/\n<=ca/\ca<=137438953472/\Wb wx ga 85 La/\(n=0\/nth La (n - 1)≠0)/\
  k<=1/\(k=0\/0<y)/\Nv wx B k cb y/\Hid (Nat.gcd (ev 18446744073709551616 (La.take n)) y=G)/\Below w.heap.size w wx
theorem x_b (v:Nat):(cn 18446744073709551616 v).length=0\/nth (cn 18446744073709551616 v) ((cn 18446744073709551616 v).length - 1)≠0:=by
 rcases Nat.eq_zero_or_pos (cn 18446744073709551616 v).length with h|h
 ·exact .inl h
 ·have:=f_k (xs:=cn 18446744073709551616 v) (by rw[n_d _ _ (by omega)];exact h);rw[n_d _ _ (by omega)]at this;exact .inr this
theorem p_w {A B:Option Addr}{n m c d x y:Nat}{w:World}(hx:Nv w A n c x)(hy:Nv w B m d y)(hn:n<=137438953472)(hm:m<=137438953472):
  Calls Tryz.prog 54 #[.slice A n c,.slice B m d] w (NatPost (Nat.gcd x y) w):=by
 obtain⟨G,hG⟩:∃G,Nat.gcd x y=G:=⟨_,rfl⟩;rw[hG];have HG:=Lib.hid hG;clear hG;by_cases hw:x<18446744073709551616/\y<18446744073709551616
 ·obtain⟨h1,h2⟩:=hw;go_enter Tryz.func54,Tryz.ntmps54
  go_wp2_with fail
  refine(l_c hx).mono ?_;rintro e w' ⟨⟨_,rfl⟩|⟨h,rfl⟩,rfl⟩
  ·go_wp2_with fail
   refine(l_c hy).mono ?_;rintro e w' ⟨⟨_,rfl⟩|⟨h,rfl⟩,rfl⟩
   ·go_wp2_with fail
    refine(m_n x y h1 h2 _).mono ?_;rw[HG.out];rintro e w1 ⟨rfl,S1⟩;have hgB:G<18446744073709551616:=by rw[<-HG.out];exact m_p h1 h2
    go_wp2_with fail
    refine(p_e G hgB _).mono ?_;intro e w2 h;have P:=h.up (S1.below w.heap.size);obtain⟨A2,c2,rfl,g2⟩:=P;have HP:=Lib.hid g2;clear h g2
    go_wp2_with fail
    go_ret
    exact⟨_,_,rfl,HP.out⟩
   ·exfalso;omega
  ·exfalso;omega
 ·have HW:=Lib.hid hw;clear hw;go_enter Tryz.func54,Tryz.ntmps54
  go_wp2_with fail
  refine(j_4 hx).mono ?_;rintro e w' ⟨v1,b1,rfl,hb1,rfl⟩
  go_wp2_with fail
  refine(j_4 hy).mono ?_;rintro e w' ⟨v2,b2,rfl,hb2,rfl⟩;have hbb:b1=false\/b1=true/\b2=false:=by
   cases b1
   ·exact .inl rfl
   ·cases b2
    ·exact .inr ⟨rfl,rfl⟩
    ·exact absurd ⟨hb1 rfl,hb2 rfl⟩ HW.out
  clear hb1 hb2;rcases hbb with rfl|⟨rfl,rfl⟩
  all_goals
   rcases Nat.eq_zero_or_pos y with rfl|hy0
   ·have hGx:Hid (x=G):=Lib.hid (by rw[<-HG.out,Nat.gcd_zero_right])
    go_wp2_with fail
    refine(s_c hx hy (by omega) (by omega)).mono ?_;rintro e w1 ⟨rfl,B1⟩;have hx1:=hx.below B1
    go_wp2_with fail
    refine(r_9 hx1 (by omega)).mono ?_;intro e w2 h;obtain⟨A2,c2,rfl,g2⟩:=h.up B1;rw[hGx.out]at g2 ⊢;have HP:=Lib.hid g2;clear h g2
    go_wp2_with fail
    go_ret
    exact⟨_,_,rfl,HP.out⟩
   ·have hmod:=Nat.mod_lt x hy0;have ly:=hy.lt;have hlen1:(cn 18446744073709551616 (x%y)).length<=(cn 18446744073709551616 y).length:=g_z _ _ _ (by omega) (by omega);have hlen2:(cn 18446744073709551616 y).length<=m:=a_p _ _ _ (by omega) ly;have hGG:Hid (Nat.gcd y (x%y)=G):=Lib.hid (by rw[<-HG.out,Nat.gcd_comm y,<-Nat.gcd_rec,Nat.gcd_comm]);have hk0:(cn 18446744073709551616 (x%y)).length=0\/0<x%y:=by
     rcases Nat.eq_zero_or_pos (x%y)with h|h
     ·rw[h];exact .inl rfl
     ·exact .inr h
    have hevr:=g_v 18446744073709551616 (x%y) (by omega);have hevy:=g_v 18446744073709551616 y (by omega);have lowr:=d_6 18446744073709551616 (x%y) (by omega);have htopy:=x_b y;clear ly
    go_wp2_with fail
    refine(j_0 hx hy (by omega) (by omega) hy0).mono ?_;rintro e w1 ⟨A1,c1,rfl,G1⟩;have hy1:=hy.below G1.2;have HB1:=Lib.hid G1.2;have r1:=G1.rd;have cap1:=G1.cap;clear G1 hx hy;generalize cn 18446744073709551616 (x%y)=us at *
    go_wp2_with fail
    refine(v_1 hy1 (by omega)).mono ?_;rintro e w2 ⟨g,rfl,hg,hblk,B2⟩;have r2:=r1.below B2;have hsz1:=HB1.out.size;have HB2:=Lib.hid (HB1.out.trans (B2.mono hsz1));have W2:Wb w2 g 85 (cn 18446744073709551616 y):=⟨hblk,d_6 _ _ (by omega)⟩;clear r1 hy1 hblk B2;generalize cn 18446744073709551616 y=La at *;obtain⟨k,hk⟩:∃k,k=us.length:=⟨_,rfl⟩;rw[<-hk]at hlen1 hk0 cap1 ⊢;obtain⟨n0,hn0⟩:∃n,n=La.length:=⟨_,rfl⟩;rw[<-hn0]at hlen1 hlen2 htopy ⊢;have HK:=Lib.hid hk;have HN:=Lib.hid hn0;have HEV:=Lib.hid hevy;have HEVR:=Lib.hid hevr;have HK0:=Lib.hid hk0;have HTO:=Lib.hid htopy;have hgw:w.heap.size<=g:=by omega
    clear hk hn0 hevy hevr hk0 htopy;go_upto_if 44 with fail
    go_cut [9,11] (GcCut w G)
    case first=>
     by_cases hk1:1<k
     ·have hle:x%y<=y:=by omega
      go_wp2_with fail
      refine(i_a g n0 k c1 y (x%y) G w.heap.size A1 La us w2 W2 HN.out.symm HEV.out HTO.out (by omega) r2 HK.out.symm hlen1 lowr HEVR.out hle hgw hGG.out).mono ?_;rintro e w3 ⟨n1,ga,ca,y1,k1,La1,B1,cb1,rfl,s1,s2,s3,s4,s5,s6,s7,s8,s9,s10,s11⟩;have P:Hid (GcCut w G (.slice B1 k1 cb1) (.slice (some ⟨ga,0,none⟩) n1 ca) w3):=Lib.hid ⟨n1,ga,ca,y1,k1,La1,B1,cb1,rfl,rfl,s1,s2,s3,s4,s5,s6,s7,s8,s9,s10,HB2.out.trans s11⟩;clear s1 s2 s3 s4 s5 s6 s7 s8 s9 s10 s11
      go_wp2_with fail
      go_meet
      exact P.out
     ·have P:Hid (GcCut w G (.slice A1 k c1) (.slice (some ⟨g,0,none⟩) n0 n0) w2):=Lib.hid ⟨n0,g,n0,x%y,k,La,A1,c1,rfl,rfl,hgw,HN.out.symm,Nat.le_refl _,by omega,W2,HTO.out,by omega,HK0.out,
       ⟨us,r2,HK.out.symm,cap1.1,by have:=cap1.2;unfold maxLen at this;omega,lowr,HEVR.out⟩,Lib.hid (by rw[List.take_of_length_le (by rw[<-HN.out];exact Nat.le_refl _),HEV.out];exact hGG.out),HB2.out⟩
      clear r2 W2
      go_wp2_with fail
      go_meet
      exact P.out
    case rest=>
     clear r2 W2 HB2 HB1 HK HN HEV HEVR HK0 HTO hgw hGG lowr;obtain⟨n1,ga,ca,y1,k1,La1,B1,cb1,rfl,rfl,s1,s2,s3,s4,s5,s6,s7,s8,s9,s10,s11⟩:=hcut;rcases Nat.eq_zero_or_pos k1 with rfl|hk1
     ·have hy1:y1=0:=by have:=s9.lt;omega
      have P:Hid (NatPost G w (.returned (.slice (some ⟨ga,0,none⟩) n1 ca)) wc):=Lib.hid (s_b s5 s2 s3 s4 s6 s1 s11 (by rw[<-s10.out,hy1,Nat.gcd_zero_right]));clear s1 s2 s3 s4 s5 s6 s7 s8 s9 s10 s11 hy1
      go_wp2_with fail
      go_ret
      exact P.out
     ·obtain rfl:k1=1:=by omega
      have hy1:0<y1:=by rcases s8 with h|h
                        ·omega
                        ·exact h
      have hyB:y1<18446744073709551616:=by have:=s9.lt;omega
      obtain⟨xs9,r9,l9,_,_,low9,ev9⟩:=s9;have hx9:xs9=[y1]:=by
       match xs9,l9,ev9 with
       | [z],_,h=>simp[ev]at h;rw[h]
      subst hx9;obtain⟨ae,rfl,_,c9⟩:=r9.at (k:=0) (by simp);rw[show ae.add 0=ae by unfold Addr.add;simp,show nth [y1] 0=y1 from rfl]at c9;have nvm:Nv wc (some ⟨ga,0,none⟩) n1 ca (ev 18446744073709551616 (La1.take n1)):=⟨_,s5.1.rd0.take n1,by simp;omega,s3,by omega,s5.2.take n1,rfl⟩;have hn1:n1<=137438953472:=by omega
      have HS11:=Lib.hid s11;have HS10:=Lib.hid s10;clear s1 s2 s4 s5 s6 s7 s8 s10 s11 low9 ev9 l9
      go_wp2_with fail
      refine(k_o nvm (by omega) hy1 hyB).mono ?_;rintro e w4 ⟨A4,c4,rfl,G4⟩;have r9':=r9.below G4.2;have c9':=r9'.cell rfl (k:=0) (by simp);rw[show ae.add 0=ae by unfold Addr.add;simp,show nth [y1] 0=y1 from rfl]at c9';have B4:=Lib.hid (HS11.out.trans (G4.2.mono HS11.out.size));have hr2:=Nat.mod_lt (ev 18446744073709551616 (La1.take n1)) hy1;obtain⟨z,hz⟩:∃z,z=ev 18446744073709551616 (La1.take n1)%y1:=⟨_,rfl⟩;rw[<-hz]at hr2;rw[<-hz];have hgz:Hid (Nat.gcd y1 z=G):=Lib.hid (by rw[<-HS10.out.out,hz,Nat.gcd_comm y1,<-Nat.gcd_rec,Nat.gcd_comm]);clear hz r9 r9' c9 G4 nvm
      go_wp2_with fail
      refine(m_n y1 z hyB (by omega) _).mono ?_;rw[hgz.out];rintro e w5 ⟨rfl,S5⟩;have hgB:G<18446744073709551616:=by rw[<-hgz.out];exact m_p hyB (by omega)
      have B5:=Lib.hid (B4.out.trans (S5.below w.heap.size));clear S5 c9'
      go_wp2_with fail
      refine(p_e G hgB _).mono ?_;intro e w6 h;obtain⟨A6,c6,rfl,g6⟩:=h.up B5.out;have HP:=Lib.hid g6;clear h g6
      go_wp2_with fail
      go_ret
      exact⟨_,_,rfl,HP.out⟩
theorem y_s {x y n m:Nat}(hx:x<18446744073709551616^n)(hy:y<18446744073709551616^m):Nat.gcd x y<18446744073709551616^max n m:=by
 have p1:=e_c (Nat.le_max_left n m);have p2:=e_c (Nat.le_max_right n m);rcases Nat.eq_zero_or_pos x with h|h
 ·rw[h,Nat.gcd_zero_left];omega
 ·have:=gcd_le_left' x y h;omega
theorem w_k {A B:Option Addr}{n m c d x y:Nat}{w:World}(hx:Nv w A n c x)(hy:Nv w B m d y)(hn:n<=137438953472)(hm:m<=137438953472):
  Calls Tryz.prog 54 #[.slice A n c,.slice B m d] w (CvPost (Nat.gcd x y) (max n m) w):=
 (p_w hx hy hn hm).mono fun _ _ h=>h.cv (y_s hx.lt hy.lt)
def lcmV (x y:Nat):Nat:=x / Nat.gcd x y*y
theorem lcm_v {A B:Option Addr}{n m c d x y:Nat}{w:World}(hx:Nv w A n c x)(hy:Nv w B m d y)(hn:n<=137438953472)(hm:m<=137438953472):
  Calls Tryz.prog 111 #[.slice A n c,.slice B m d] w (CvPost (lcmV x y) (n+m) w):=by
 have hW:=Below.refl w.heap.size w;obtain⟨G,hG⟩:∃G,G=Nat.gcd x y:=⟨_,rfl⟩;have hdv:Hid (x%G=0):=Lib.hid (by rw[hG];exact Nat.mod_eq_zero_of_dvd (Nat.gcd_dvd_left x y));have hv:Hid (lcmV x y=x / G*y):=Lib.hid (by rw[hG];rfl);have HG:=Lib.hid hG;clear hG;rw[hv.out];go_enter Tryz.func111,Tryz.ntmps111
 go_wp2_with fail
 refine(w_k hx hy hn hm).mono ?_;rw[<-HG.out];rintro e w1 ⟨A1,n1,c1,rfl,p1,k1,B1⟩;replace hx:=hx.below B1;replace hy:=hy.below B1;replace hW:=hW.trans (B1.mono hW.size);rcases Nat.eq_zero_or_pos G with rfl|h0
 ·go_wp2_with fail
  refine(h_q hx p1.nv (by omega) (by omega)).mono ?_;rintro e w2 ⟨rfl,B2⟩;replace hy:=hy.below B2;replace hW:=hW.trans (B2.mono hW.size)
  go_wp2_with fail
  refine(k_3 (Nv.nil _) hy (by omega) (by omega)).mono ?_;rintro e w3 ⟨A3,n3,c3,rfl,p3,k3,B3⟩;replace hW:=hW.trans (B3.mono hW.size);rw[Nat.zero_mul]at p3;have hk:n3<=n+m:=by omega
  clear p1
  go_wp2_with fail
  go_ret
  exact⟨_,_,_,rfl,by rw[Nat.div_zero,Nat.zero_mul];exact p3,hk,hW⟩
 ·go_wp2_with fail
  refine(p_2 hx p1.nv (by omega) (by omega) h0 hdv.out).mono ?_;rintro e w2 ⟨A2,n2,c2,rfl,p2,k2,B2⟩;replace hy:=hy.below B2;replace hW:=hW.trans (B2.mono hW.size)
  go_wp2_with fail
  refine(k_3 p2.nv hy (by omega) (by omega)).mono ?_;rintro e w3 ⟨A3,n3,c3,rfl,p3,k3,B3⟩;replace hW:=hW.trans (B3.mono hW.size);have hk:n3<=n+m:=by omega
  clear p1 p2
  go_wp2_with fail
  go_ret
  exact⟨_,_,_,rfl,p3,hk,hW⟩
end
section
open Go.RowKit
theorem t_j {A B:Option Addr}{n m c d:Nat}{s t:Bool}{x y:Int}{w:World}(hx:Zv w s A n c x)(hy:Zv w t B m d y)(hn:n<=137438953472)(hm:m<=137438953472){G:Int}(hG:((Nat.gcd x.natAbs y.natAbs:Nat):Int)=G):
  Calls Tryz.prog 16 #[.agg #[.bool s,.slice A n c],.agg #[.bool t,.slice B m d]] w (ZPost G (max n m) w):=by
 obtain⟨w3,hw3,IA,IB,IR,z0⟩:=open3 w s t A B n c m d;obtain⟨hx1,ex⟩:=hx.up z0;obtain⟨hy1,ey⟩:=hy.up z0;have HZ:=Lib.hid z0;have hs:sg false (Nat.gcd x.natAbs y.natAbs)=G:=by rw[<-hG];rfl
 have HS:=Lib.hid hs;have HW:=Lib.hid hw3.symm;clear hx hy ex ey hs z0 hw3 hG;have HA:=Lib.hid IA;have HB:=Lib.hid IB;have HR:=Lib.hid IR;obtain⟨a1,a2,a3,a4,a5⟩:=IA;obtain⟨b1,b2,b3,b4,b5⟩:=IB;clear IR;have n1:¬(w.heap.size+1+1=w.heap.size):=by omega
 have n2:¬(w.heap.size=w.heap.size+1+1):=by omega
 go_enter Tryz.func16,Tryz.ntmps16
 go_wp2_with fail
 rw[HW.out]
 go_wp2_with fail
 refine(w_k hx1 hy1 hn hm).mono ?_;rintro e w4 ⟨A4,n4,c4,rfl,p4,k4,B4⟩;clear a1 a2 a3 a4 b1 b2 b3 b4;obtain⟨r1,r2,r3,r4,r5⟩:=HR.out.below B4;have Q4:=B4
 go_wp2_with fail
 refine(c_o p4).mono ?_;rintro e w5 ⟨s5,A5,n5,c5,rfl,p5,k5,B5⟩;clear r1 r2 r3 r4 r5;have Q5:=zup Q4 B5;obtain⟨r1,r2,r3,r4,r5⟩:=HR.out.below Q5;rw[HS.out]at p5;have P:=Lib.hid (zfin p5 ⟨r1,r2,r3,r4,r5⟩ (k:=max n m) (by omega) (by omega) (zup HZ.out Q5));clear p4 p5 B4 B5 Q4 Q5 k4 k5
 go_wp2_with fail
 exact bodyPost_ret (v:=.agg #[.bool s5,.slice A5 n5 c5]) (by simp[results,Tryz.results16,go_sem,r1,r2]) rfl P.out
end
section
open Go.RowKit
theorem i_d {w:World}{g k:Nat}{s:Bool}{A:Option Addr}{n c:Nat}(h0:w.cell? ⟨g,k,none⟩=some (.bool s))(h1:w.cell? ⟨g,k+1,none⟩=some (.slice A n c)):
  (Instr.loadAt 31 (.pointer (some ⟨g,k,none⟩))).run Tryz.prog w= .ok (.agg #[.bool s,.slice A n c]) w:=by
 simp[go_sem,h0,h1]
def IsC (z:Int)(k:Nat):FVal:=fun v w=>∃s A n c,v= .agg #[.bool s,.slice A n c]/\Zc w s A n c z/\n<=k
def IsV (z:Int)(k:Nat):FVal:=fun v w=>∃s A n c,v= .agg #[.bool s,.slice A n c]/\Zv w s A n c z/\n<=k
theorem t_o (z:Int)(k:Nat):Stays (IsC z k):=fun v w w' ⟨s,A,n,c,e,h,hk⟩ hb=>⟨s,A,n,c,e,h.below hb,hk⟩
end
section
open Go.RowKit
section
variable {w:World}{g g' n c n0 c0 n' c':Nat}{s s0 s':Bool}{A A0 A':Option Addr}
theorem Ib.entry {T:TypeId}(h:w.heap[g]? =some (.cells #[.bool s,.slice A n c] T)):Ib w g s A n c:=
 ⟨cell_of_row w g 0 _ _ _ h,cell_of_row w g 1 _ _ _ h,frozen_of_row w g 0 _ _ h,frozen_of_row w g 1 _ _ h,(Array.getElem?_eq_some_iff.1 h).1⟩
end
end
section
open Go.RowKit
theorem u_t {w:World}{g:Nat}{s t:Bool}{A B:Option Addr}{n c m d:Nat}(h0:w.cell? ⟨g,0,none⟩=some (.bool s))(h1:w.cell? ⟨g,1,none⟩=some (.slice A n c))(h2:w.cell? ⟨g,2,none⟩=some (.bool t))(h3:w.cell? ⟨g,3,none⟩=some (.slice B m d)):
  (Instr.loadAt 42 (.pointer (some ⟨g,0,none⟩))).run Tryz.prog w= .ok (.agg #[.bool s,.slice A n c,.bool t,.slice B m d]) w:=by
 simp[go_sem,h0,h1,h2,h3]
theorem n_f (w:World):(Instr.alloc 31 true (.tuple #[])).run Tryz.prog w= .ok (.pointer (some ⟨w.heap.size,0,none⟩)) (w.alloc (.cells #[.bool false,.slice none 0 0] 31)):=by
 simp[go_sem]
theorem n_g (w:World):(Instr.alloc 42 true (.tuple #[])).run Tryz.prog w= .ok (.pointer (some ⟨w.heap.size,0,none⟩)) (w.alloc (.cells #[.bool false,.slice none 0 0,.bool false,.slice none 0 0] 42)):=by
 simp[go_sem]
def zeroOf (T:TypeId):Obj:=if T=42 then .cells #[.bool false,.slice none 0 0,.bool false,.slice none 0 0] 42 else .cells #[.bool false,.slice none 0 0] 31
theorem o_v {T:TypeId}(h:(T==42 || T==31)=true)(w:World):(Instr.alloc T true (.tuple #[])).run Tryz.prog w= .ok (.pointer (some ⟨w.heap.size,0,none⟩)) (w.alloc (zeroOf T)):=by
 simp only[Bool.or_eq_true,beq_iff_eq]at h;rcases h with rfl|rfl
 ·exact n_g w
 ·exact n_f w
theorem i_3 (w:World):Zc w false none 0 0 0:=⟨⟨Rd.nil _ _ _,rfl,Nat.le_refl _,by omega⟩,Lib.hid rfl⟩
def Rb (w:World)(g:Nat)(s:Bool)(A:Option Addr)(n c:Nat)(t:Bool)(B:Option Addr)(m d:Nat):Prop:=
 w.cell? ⟨g,0,none⟩=some (.bool s)/\w.cell? ⟨g,1,none⟩=some (.slice A n c)/\w.cell? ⟨g,2,none⟩=some (.bool t)/\w.cell? ⟨g,3,none⟩=some (.slice B m d)/\
  w.frozen? ⟨g,0,none⟩=false/\w.frozen? ⟨g,1,none⟩=false/\w.frozen? ⟨g,2,none⟩=false/\w.frozen? ⟨g,3,none⟩=false/\g<w.heap.size
section
variable {w w':World}{g g':Nat}{s t s' t' s0 t0:Bool}{A B A' B' A0 B0:Option Addr}{n c m d n' c' m' d' n0 c0 m0 d0:Nat}
theorem Rb.below (h:Rb w g s A n c t B m d)(hb:Below w.heap.size w w'):Rb w' g s A n c t B m d:=by
 obtain⟨h1,h2,h3,h4,f1,f2,f3,f4,h5⟩:=h;exact⟨(hb.cell (p:=⟨g,0,none⟩) h5).trans h1,(hb.cell (p:=⟨g,1,none⟩) h5).trans h2,(hb.cell (p:=⟨g,2,none⟩) h5).trans h3,(hb.cell (p:=⟨g,3,none⟩) h5).trans h4,
  (hb.frozen (p:=⟨g,0,none⟩) h5).trans f1,(hb.frozen (p:=⟨g,1,none⟩) h5).trans f2,(hb.frozen (p:=⟨g,2,none⟩) h5).trans f3,(hb.frozen (p:=⟨g,3,none⟩) h5).trans f4,Nat.lt_of_lt_of_le h5 hb.size⟩
theorem Rb.new (w:World)(s:Bool)(A:Option Addr)(n c:Nat)(t:Bool)(B:Option Addr)(m d:Nat)(T:TypeId):Rb (w.alloc (.cells #[.bool s,.slice A n c,.bool t,.slice B m d] T)) w.heap.size s A n c t B m d:=by
 refine⟨?_, ?_, ?_, ?_, ?_, ?_, ?_, ?_, ?_⟩<;>simp[go_sem]
theorem Rb.entry {T:TypeId}(h:w.heap[g]? =some (.cells #[.bool s,.slice A n c,.bool t,.slice B m d] T)):Rb w g s A n c t B m d:=by
 refine⟨?_, ?_, ?_, ?_,frozen_of_row w g 0 _ _ h,frozen_of_row w g 1 _ _ h,frozen_of_row w g 2 _ _ h,frozen_of_row w g 3 _ _ h,(Array.getElem?_eq_some_iff.1 h).1⟩
 ·rw[cell_of_row w g 0 _ _ (0,0) h];rfl
 ·rw[cell_of_row w g 1 _ _ (0,0) h];rfl
 ·rw[cell_of_row w g 2 _ _ (0,0) h];rfl
 ·rw[cell_of_row w g 3 _ _ (0,0) h];rfl
def rput (w:World)(g:Nat)(s:Bool)(A:Option Addr)(n c:Nat)(t:Bool)(B:Option Addr)(m d:Nat):World:=(((w.setCell ⟨g,0,none⟩ (.bool s)).setCell ⟨g,1,none⟩ (.slice A n c)).setCell ⟨g,2,none⟩ (.bool t)).setCell ⟨g,3,none⟩ (.slice B m d)
theorem b_9 {b:Nat}{w w2:World}(h:Below b w w2)(hg:b<=g):Below b w (rput w2 g s A n c t B m d):=(((h.setCell hg _).setCell hg _).setCell hg _).setCell hg _
theorem Rb.own (h:Rb w g s A n c t B m d):Rb (rput w g s' A' n' c' t' B' m' d') g s' A' n' c' t' B' m' d':=by
 obtain⟨h1,h2,h3,h4,f1,f2,f3,f4,h5⟩:=h;refine⟨?_, ?_, ?_, ?_, ?_, ?_, ?_, ?_, ?_⟩<;>simp[rput,go_sem,h1,h2,h3,h4,f1,f2,f3,f4,h5]
theorem Rd.rput {xs:List Nat}(h:Rd w .u64 A xs)(hi:Rb w g s0 A0 n0 c0 t0 B0 m0 d0):Rd (rput w g s' A' n' c' t' B' m' d') .u64 A xs:=by
 obtain⟨a1,a2,a3,a4,-⟩:=hi;refine(((h.other a1 (fun m e=>by cases e)).other (u:=.slice A0 n0 c0) ?_ (fun m e=>by cases e)).other (u:=.bool t0) ?_ (fun m e=>by cases e)).other (u:=.slice B0 m0 d0) ?_ (fun m e=>by cases e)
 ·rw[World.cell?_setCell_other (h:=by simp)];exact a2
 ·rw[World.cell?_setCell_other (h:=by simp),World.cell?_setCell_other (h:=by simp)];exact a3
 ·rw[World.cell?_setCell_other (h:=by simp),World.cell?_setCell_other (h:=by simp),World.cell?_setCell_other (h:=by simp)];exact a4
theorem Zc.rput {z:Int}(h:Zc w s A n c z)(hi:Rb w g s0 A0 n0 c0 t0 B0 m0 d0):Zc (rput w g s' A' n' c' t' B' m' d') s A n c z:=⟨⟨h.1.1.rput hi,h.1.2⟩,h.2⟩
theorem Zv.rput {z:Int}(h:Zv w s A n c z)(hi:Rb w g s0 A0 n0 c0 t0 B0 m0 d0):Zv (rput w g s' A' n' c' t' B' m' d') s A n c z:=by
 obtain⟨v,⟨xs,h1,h2⟩,h3⟩:=h;exact⟨v,⟨xs,h1.rput hi,h2⟩,h3⟩
def Qc (w:World)(s:Bool)(A:Option Addr)(n c:Nat)(t:Bool)(B:Option Addr)(m d:Nat)(q:Rat):Prop:=Zc w s A n c q.num/\Zc w t B m d (q.den:Int)
theorem Qc.below {q:Rat}(h:Qc w s A n c t B m d q)(hb:Below w.heap.size w w'):Qc w' s A n c t B m d q:=⟨h.1.below hb,h.2.below hb⟩
theorem Qc.rput {q:Rat}(h:Qc w s A n c t B m d q)(hi:Rb w g s0 A0 n0 c0 t0 B0 m0 d0):Qc (rput w g s' A' n' c' t' B' m' d') s A n c t B m d q:=⟨h.1.rput hi,h.2.rput hi⟩
theorem Qc.nv {q:Rat}(h:Qc w s A n c t B m d q):Zv w s A n c q.num:=h.1.zv
theorem Qc.dv {q:Rat}(h:Qc w s A n c t B m d q):Zv w t B m d (q.den:Int):=h.2.zv
end
def QPost (q:Rat)(k:Nat)(w:World)(e:Ending)(w':World):Prop:=
 ∃s A n c t B m d,e= .returned (.agg #[.bool s,.slice A n c,.bool t,.slice B m d])/\Qc w' s A n c t B m d q/\n<=k/\m<=k/\Below w.heap.size w w'
def QbPost (q:Rat)(b:Bool)(k:Nat)(w:World)(e:Ending)(w':World):Prop:=
 ∃s A n c t B m d,e= .returned (.tuple #[.agg #[.bool s,.slice A n c,.bool t,.slice B m d],.bool b])/\Qc w' s A n c t B m d q/\n<=k/\m<=k/\Below w.heap.size w w'
theorem qfin {w w2:World}{g k n c m d n0 c0 m0 d0:Nat}{s t s0 t0:Bool}{A B A0 B0:Option Addr}{q:Rat}(h:Qc w2 s A n c t B m d q)(hi:Rb w2 g s0 A0 n0 c0 t0 B0 m0 d0)(hn:n<=k)(hm:m<=k)(hg:w.heap.size<=g)(hB:Below w.heap.size w w2):
  QPost q k w (.returned (.agg #[.bool s,.slice A n c,.bool t,.slice B m d])) (rput w2 g s A n c t B m d):=
 ⟨s,A,n,c,t,B,m,d,rfl,h.rput hi,hn,hm,b_9 hB hg⟩
theorem qbfin {w w2:World}{g k n c m d n0 c0 m0 d0:Nat}{s t s0 t0 b:Bool}{A B A0 B0:Option Addr}{q:Rat}(h:Qc w2 s A n c t B m d q)(hi:Rb w2 g s0 A0 n0 c0 t0 B0 m0 d0)(hn:n<=k)(hm:m<=k)(hg:w.heap.size<=g)(hB:Below w.heap.size w w2):
  QbPost q b k w (.returned (.tuple #[.agg #[.bool s,.slice A n c,.bool t,.slice B m d],.bool b])) (rput w2 g s A n c t B m d):=
 ⟨s,A,n,c,t,B,m,d,rfl,h.rput hi,hn,hm,b_9 hB hg⟩
def IsQ (q:Rat)(k:Nat):FVal:=fun v w=>∃s A n c t B m d,v= .agg #[.bool s,.slice A n c,.bool t,.slice B m d]/\Qc w s A n c t B m d q/\n<=k/\m<=k
def IsR (N D:Int)(k:Nat):FVal:=fun v w=>∃s A n c t B m d,v= .agg #[.bool s,.slice A n c,.bool t,.slice B m d]/\Zv w s A n c N/\Zv w t B m d D/\n<=k/\m<=k
theorem x_h (N D:Int)(k:Nat):Stays (IsR N D k):=fun v w w' ⟨s,A,n,c,t,B,m,d,e,h,h',hk⟩ hb=>⟨s,A,n,c,t,B,m,d,e,h.below hb,h'.below hb,hk⟩
def RPost (N D:Int)(k:Nat)(w:World)(e:Ending)(w':World):Prop:=
 ∃s A n c t B m d,e= .returned (.agg #[.bool s,.slice A n c,.bool t,.slice B m d])/\Zv w' s A n c N/\Zv w' t B m d D/\n<=k/\m<=k/\Below w.heap.size w w'
theorem rfinq {w w2:World}{g k n c m d n0 c0 m0 d0:Nat}{s t s0 t0:Bool}{A B A0 B0:Option Addr}{N D:Int}(h:Zv w2 s A n c N)(h':Zv w2 t B m d D)(hi:Rb w2 g s0 A0 n0 c0 t0 B0 m0 d0)(hn:n<=k)(hm:m<=k)(hg:w.heap.size<=g)(hB:Below w.heap.size w w2):
  RPost N D k w (.returned (.agg #[.bool s,.slice A n c,.bool t,.slice B m d])) (rput w2 g s A n c t B m d):=
 ⟨s,A,n,c,t,B,m,d,rfl,h.rput hi,h'.rput hi,hn,hm,b_9 hB hg⟩
theorem x_i (q:Rat)(k:Nat):Stays (IsQ q k):=fun v w w' ⟨s,A,n,c,t,B,m,d,e,h,hk⟩ hb=>⟨s,A,n,c,t,B,m,d,e,h.below hb,hk⟩
def okT (T:TypeId):Bool:=T==42 || T==31
theorem region7 {ops:Array Oper}{Q:Exit->Act->World->Prop}{id:Nat}{a0:Act}{w0:World}(fl:List Nat)(m:Nat)(Fs:List FVal)(hQ:∀c a d v w,Q (.panic c) (a.put d v) w->Q (.panic c) a w)
  (hok:regionOk ops fl m a0.tmps.size=true) (hzl:(allocTs ops m).all okT=true)
  (hg:(List.range m).all (fun k=>((ops[k]?).bind isAlloc).isNone || ((ops[k]?).map (·.guard))==some none)=true)
  (hs:StayAll Fs) (hops:HopAll Tryz.prog ops Q fl m a0 w0 Fs 0 (ops.toList.take m))
  (hend:∀w,Below w0.heap.size w0 w->EndAll Tryz.prog ops Q m w0 zeroOf Fs w [] 0 (ops.toList.take m) a0):(Code.region id ops true).wp Tryz.prog Q a0 w0:=
 e_k fl m Fs zeroOf (by kernel_rfl) hQ hok okT hzl (fun T h w=>o_v h w) hg hs hops hend
end
section
def rcom (N D:Int):Int:=if D<0 then -((Nat.gcd N.natAbs D.natAbs:Nat):Int)else((Nat.gcd N.natAbs D.natAbs:Nat):Int)
theorem u_7 {N D:Int}(h:D≠0):rcom N D≠0:=by
 have:=Nat.gcd_pos_of_pos_right N.natAbs (show 0<D.natAbs by omega);unfold rcom;split<;>omega
theorem j_o {N D:Int}(h:D≠0):rcom N D=D.sign*(Nat.gcd N.natAbs D.natAbs:Nat):=by
 unfold rcom;rcases Int.lt_trichotomy D 0 with h1|h1|h1
 ·rw[if_pos h1,Int.sign_eq_neg_one_of_neg h1];omega
 ·exact absurd h1 h
 ·rw[if_neg (by omega),Int.sign_eq_one_of_pos h1];omega
theorem r_i {D:Int}(h:D≠0):D.sign*D.sign=1:=by
 rcases Int.lt_trichotomy D 0 with h1|h1|h1
 ·rw[Int.sign_eq_neg_one_of_neg h1];rfl
 ·exact absurd h1 h
 ·rw[Int.sign_eq_one_of_pos h1];rfl
theorem r_6 {N D:Int}(h:D≠0):(Rat.divInt N D).num*rcom N D=N:=by
 rw[Rat.num_divInt,j_o h];have e:D.gcd N=Nat.gcd N.natAbs D.natAbs:=by rw[Int.gcd,Nat.gcd_comm]
 rw[e];have hd:((Nat.gcd N.natAbs D.natAbs:Nat):Int)∣D.sign*N:=Int.dvd_trans (Int.dvd_trans (Int.natCast_dvd_natCast.2 (Nat.gcd_dvd_left _ _)) Int.natAbs_dvd_self) (Int.dvd_mul_left _ _);have h1:=Int.ediv_mul_cancel hd;have h2:=r_i h;grind
theorem s_4 {N D:Int}(h:D≠0):((Rat.divInt N D).den:Int)*rcom N D=D:=by
 rw[Rat.den_divInt,j_o h,if_neg h];have e:D.gcd N=Nat.gcd N.natAbs D.natAbs:=by rw[Int.gcd,Nat.gcd_comm]
 rw[e];have h1:=Nat.div_mul_cancel (Nat.gcd_dvd_right N.natAbs D.natAbs);have h2:D.sign*D.natAbs=D:=Int.sign_mul_natAbs D;have h3:((D.natAbs / Nat.gcd N.natAbs D.natAbs:Nat):Int)*(Nat.gcd N.natAbs D.natAbs:Nat)=D.natAbs:=by rw[<-Int.natCast_mul,h1]
 grind
def rsg (q:Rat):Int:=q.num.sign
theorem h_b (N D:Int):(Rat.divInt N D).num.sign=N.sign*D.sign:=by
 rw[Rat.num_divInt];by_cases h:D=0
 ·subst h;simp
 ·have hd:((D.gcd N:Nat):Int)∣D.sign*N:=Int.dvd_trans (Int.gcd_dvd_right _ _) (Int.dvd_mul_left _ _);obtain⟨k,hk⟩:=hd;have hg:(0:Int)<(D.gcd N:Nat):=by have:=Int.gcd_pos_of_ne_zero_left N h;omega
  rw[hk,Int.mul_ediv_cancel_left _ (by omega)];have e:(D.sign*N).sign=k.sign:=by rw[hk,Int.sign_mul,Int.sign_eq_one_of_pos hg,Int.one_mul]
  rw[<-e,Int.sign_mul,Int.sign_sign,Int.mul_comm]
theorem x_r {q:Rat}:rsg q=0↔q=0:=by
 unfold rsg;rw[Int.sign_eq_zero_iff_zero,Rat.num_eq_zero]
theorem k_r {N D M E:Int}(hD:D≠0)(hE:E≠0):Rat.divInt N D - Rat.divInt M E=Rat.divInt (N*E - M*D) (D*E):=by
 rw[Rat.divInt_sub_divInt _ _ hD hE]
theorem u_8 {N D M E:Int}(hD:D≠0)(hE:E≠0):(N*E - M*D).sign*D.sign*E.sign=rsg (Rat.divInt N D - Rat.divInt M E):=by
 rw[k_r hD hE];unfold rsg;rw[h_b,Int.sign_mul,Int.mul_assoc]
theorem u_1 (N D M E:Int):Rat.divInt (N*E) (D*M)=Rat.divInt N D / Rat.divInt M E:=by
 rw[Rat.div_def,Rat.inv_divInt,Rat.divInt_mul_divInt]
theorem o_z (q:Rat):Rat.divInt q.num q.den=q:=Rat.num_divInt_den q
theorem k_x {N D M E:Int}(hD:D≠0)(hE:E≠0):Rat.divInt N D+Rat.divInt M E=Rat.divInt (N*E+M*D) (D*E):=Rat.divInt_add_divInt _ _ hD hE
theorem k_s (N D M E:Int):Rat.divInt N D*Rat.divInt M E=Rat.divInt (N*M) (D*E):=Rat.divInt_mul_divInt _ _
theorem o_y (z:Int):Rat.divInt z 1=(z:Rat):=by
 rw[Rat.divInt_eq_div];have e:((1:Int):Rat)=1:=rfl;rw[e];grind
def cN (N D:Int):Int:=if D=0 then 0 else N
def cD (D:Int):Int:=if D=0 then 1 else D
theorem s_9 (D:Int):cD D≠0:=by unfold cD;split<;>omega
theorem cq (N D:Int):Rat.divInt (cN N D) (cD D)=Rat.divInt N D:=by
 unfold cN cD;split
 ·rename_i h;subst h;simp
 ·rfl
theorem c_j (x:Int):-1<=x.sign/\x.sign<=1:=by
 rcases Int.lt_trichotomy x 0 with h|h|h
 ·rw[Int.sign_eq_neg_one_of_neg h];omega
 ·subst h;decide
 ·rw[Int.sign_eq_one_of_pos h];omega
theorem e_d {a b:Int}(h1:-1<=a/\a<=1)(h2:-1<=b/\b<=1):-1<=a*b/\a*b<=1:=by
 have e:a= -1\/a=0\/a=1:=by omega
 rcases e with rfl|rfl|rfl<;>omega
end
section
open Go.RowKit
structure Shut (p:Prop):Prop where
 out:p
end
end Go.Proofs.YtfhbdlegkdbmfaaGreat
