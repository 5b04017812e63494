/- Ph25 -/
import Derived.Test.YtgohglhefhocgaaGreatPh24
import Derived.Deep.CutBlock
import Derived.Deep.LoopGhost
import Derived.Test.YtgohglhefhocgaaGreatPh23
import Derived.Test.YtgohglhefhocgaaGreatPh20
set_option linter.unusedVariables false
set_option linter.unusedSimpArgs false
set_option linter.unusedSectionVars false
set_option maxRecDepth 100000
set_option maxHeartbeats 8000000
namespace Go.Proofs.YtgohglhefhocgaaGreat
section
open Go.RowKit
theorem h_s (u v:Nat)(hvu:v≤u)(h0:0<u)(hu:u<18446744073709551616)(w:World):
  Calls Tryz.prog 143 #[.int .u64 u,.int .u64 v] w (JpPost (Jok u v) w):=by
 have hv:v<18446744073709551616:=by omega
 go_enter Tryz.func143,Tryz.ntmps143
 go_wp2_with fail
 refine(e_o u v hu hv _).mono ?_;rintro e w2 ⟨rfl,B2⟩;have R:=SlRel.begin (t:=159) (Jw.start hvu h0) hu hv B2;have hz:w.heap.size+1≤w2.heap.size:=by have:=B2.size;simpa using this
 obtain⟨h,hh⟩:∃h,h=w2.heap.size:=⟨_,rfl⟩;rw[←hh]at R hz;have HH:=Lib.hid hh;have HR:=Lib.hid R;clear B2 hh R
 go_wp2_with fail
 rw[←HH.out];clear HH;go_loopg [] v (fun g wr=>SlRel Jw w h u v g wr)
 case atStart=>exact HR.out
 case round=>
  clear HR;obtain⟨x,p,q,r,s,U,V,b,hUV,hj,hU,hV,hp,hs,S,W,hB⟩:=hrel;have HS:=Lib.hid S;have HW:=Lib.hid W;have HB:=Lib.hid hB;have HUV:=Lib.hid hUV;obtain⟨c0,c1,c2,c3,c4,c5,c6,fz,lt,bx,bY,bp,bq,br,bs⟩:=S;clear c0 c2 c3 c4 c5 c6 fz W hB hUV;rcases Nat.eq_zero_or_pos gk with rfl|hg
  ·have b1:(((0:Nat):Int) != 0)=false:=by rfl
   have hz0:w.heap.size≤wr.heap.size:=HB.out.size;rcases HUV.out with⟨rfl,rfl,rfl⟩|⟨rfl,rfl,rfl⟩
   ·have hok:=Lib.hid hj.out.ok;clear HUV
    go_wp2_with fail
    refine(e_l _ h x 0 p q r s HS.out).mono ?_;rintro e w4 ⟨rfl,B4⟩;have W4:Wb w4 w.heap.size 146 [0,0,0,0]:=⟨HW.out.1.below B4 HW.out.1.lt,HW.out.2⟩;obtain⟨z0,z1,z2,z3,_,_,_,_,k0,k1,k2,k3⟩:=wb4 W4;obtain⟨X,T⟩:=e_i W4 bp bq br bs;obtain⟨y0,y1,y2,y3,_⟩:=wb4 X;have B:=Lib.hid ((HB.out.trans (B4.mono hz0)).trans (T.below (B:=w.heap.size) (by have:=B4.size;omega) fun a h=>by rw[h];exact Nat.le_refl _));clear X T W4 B4 c1
    go_wp2_with fail
    refine bodyPost_ret (v:=.agg #[.int .u64 (p:Int),.int .u64 (q:Int),.int .u64 (r:Int),.int .u64 (s:Int)]) (by simp[results,Tryz.results143,go_sem,y0,y1,y2,y3]) rfl ?_;exact⟨p,q,r,s,rfl,bp,bq,br,bs,hp,hs,hok,B.out⟩
   ·have hok:=Lib.hid hj.out.ok_flip;clear HUV
    go_wp2_with fail
    refine(d_3 _ h x 0 p q r s HS.out).mono ?_;rintro e w4 ⟨rfl,B4⟩;have W4:Wb w4 w.heap.size 146 [0,0,0,0]:=⟨HW.out.1.below B4 HW.out.1.lt,HW.out.2⟩;obtain⟨z0,z1,z2,z3,_,_,_,_,k0,k1,k2,k3⟩:=wb4 W4;obtain⟨X,T⟩:=e_i W4 bs br bq bp;obtain⟨y0,y1,y2,y3,_⟩:=wb4 X;have B:=Lib.hid ((HB.out.trans (B4.mono hz0)).trans (T.below (B:=w.heap.size) (by have:=B4.size;omega) fun a h=>by rw[h];exact Nat.le_refl _));clear X T W4 B4 c1
    go_wp2_with fail
    refine bodyPost_ret (v:=.agg #[.int .u64 (s:Int),.int .u64 (r:Int),.int .u64 (q:Int),.int .u64 (p:Int)]) (by simp[results,Tryz.results143,go_sem,y0,y1,y2,y3]) rfl ?_;exact⟨s,r,q,p,rfl,bs,br,bq,bp,hs,hp,hok,B.out⟩
  ·have b1:((gk:Int) != 0)=true:=by rw[bne_iff_ne];omega
   have b2:((gk:Int)==0)=false:=by rw[beq_eq_false_iff_ne];omega
   obtain⟨i1,i2⟩:=hj.out.fits hU hV hg;have J2:=hj.out.step hg;have hmg:=Nat.mod_lt x hg;have HJ:=Lib.hid J2;have HI1:=Lib.hid i1;have HI2:=Lib.hid i2;have HMG:=Lib.hid hmg;clear J2 hmg i1 i2
   go_wp2_with fail
   refine(e_p _ h x gk p q r s b HS.out hg HI1.out HI2.out).mono ?_;intro e w4 P;obtain⟨rfl,R⟩:=SlRel.next hz HUV.out HJ.out hU hV hp hs HW.out HB.out P;have HR:=Lib.hid R;clear R P c1
   go_wp2_with fail
   go_roundg (x%gk)
   case rel=>exact HR.out
   case measure=>exact HMG.out
theorem n_g (w wr:World)(h u v x y p q r s U V:Nat)(b:Bool)(hUV:b=false∧U=u∧V=v∨b=true∧U=v∧V=u)(hj:Jump U V x y p q r s)(S:St7 wr h x y p q r s b):
  Calls Tryz.prog 154 #[.pointer (some ⟨h,0,none⟩)] wr (JpPost (JumpOk u v) wr):=by
 rcases hUV with⟨rfl,rfl,rfl⟩|⟨rfl,rfl,rfl⟩
 ·refine(e_l _ h x y p q r s S).mono ?_;rintro e w4 ⟨rfl,B4⟩;exact⟨p,q,r,s,rfl,S.bp,S.bq,S.br,S.bs,hj.jw.lp,hj.jw.ls,Lib.hid hj.ok,B4⟩
 ·refine(d_3 _ h x y p q r s S).mono ?_;rintro e w4 ⟨rfl,B4⟩;exact⟨s,r,q,p,rfl,S.bs,S.br,S.bq,S.bp,hj.jw.ls,hj.jw.lp,Lib.hid hj.ok_flip,B4⟩
def SuCut (w:World)(h u v:Nat)(wx:World):Prop:=∃g,SlRel Jump w h u v g wx
theorem j_1 (u v:Nat)(hvu:v≤u)(h0:0<u)(hu:u<18446744073709551616)(w:World):
  Calls Tryz.prog 144 #[.int .u64 u,.int .u64 v] w (JpPost (JumpOk u v) w):=by
 have hv:v<18446744073709551616:=by omega
 go_enter Tryz.func144,Tryz.ntmps144
 go_wp2_with fail
 refine(e_o u v hu hv _).mono ?_;rintro e w2 ⟨rfl,B2⟩;have R:=SlRel.begin (t:=159) (Jump.start hvu h0) hu hv B2;have hz:w.heap.size+1≤w2.heap.size:=by have:=B2.size;simpa using this
 obtain⟨h,hh⟩:∃h,h=w2.heap.size:=⟨_,rfl⟩;rw[←hh]at R hz;have HH:=Lib.hid hh;have HR:=Lib.hid R;clear B2 hh R;go_upto_block 0 with fail
 rw[←HH.out];clear HH;go_cut [] (SuCut w h u v)
 case first=>
  go_wp2_with fail
  go_loopg [] v (fun g wr=>SlRel Jump w h u v g wr)
  case atStart=>exact HR.out
  case round=>
   clear HR;obtain⟨x,p,q,r,s,U,V,b,hUV,hj,hU,hV,hp,hs,S,W,hB⟩:=hrel;have HS:=Lib.hid S;have HW:=Lib.hid W;have HB:=Lib.hid hB;have HUV:=Lib.hid hUV;obtain⟨c0,c1,c2,c3,c4,c5,c6,fz,lt,bx,bY,bp,bq,br,bs⟩:=S;clear c0 c2 c3 c4 c5 c6 fz W hB hUV;have HJ0:=Lib.hid (show ∀n,SuCut w h u v (wr.drewN n)from fun n=>⟨gk,SlRel.drewN ⟨x,p,q,r,s,U,V,b,HUV.out,hj,hU,hV,hp,hs,HS.out,HW.out,HB.out⟩ n⟩);obtain⟨c0,_,c2,c3,c4,c5,_,_,_,_,_,_,_,_,_⟩:=HS.out;rcases Nat.eq_zero_or_pos gk with rfl|hg
   ·have b1:(((0:Nat):Int) != 0)=false:=by rfl
    go_wp2_with fail
    go_quiet (fail)
    go_wp2_with fail
    go_meet
    exact HJ0.out _
   ·obtain⟨t,ht⟩:∃t,t=x / gk:=⟨_,rfl⟩;obtain⟨m,hm⟩:∃m,m=x%gk:=⟨_,rfl⟩;obtain⟨i1,i2⟩:=hj.out.jw.fits hU hV hg;have HI1:=Lib.hid i1;have HI2:=Lib.hid i2;rw[←ht]at i1 i2;obtain⟨ts,hts⟩:∃y,y=t*s:=⟨_,rfl⟩;rw[←hts]at i1;have hmg:m<gk:=by rw[hm];exact Nat.mod_lt _ hg
    have htx:t≤x:=by rw[ht];exact Nat.div_le_self _ _
    have e1:(x:Int) / (gk:Int)=(t:Int):=by rw[ht];rfl
    have e2:(x:Int)%(gk:Int)=(m:Int):=by rw[hm];rfl
    have e3:(x:Int).tdiv (gk:Int)=(t:Int):=by rw[ht];rfl
    have e4:(x:Int).tmod (gk:Int)=(m:Int):=by rw[hm];rfl
    have e5:IntKind.u64.wrap (t:Int)=(t:Int):=by rw[IntKind.wrap_u64];omega
    have e6:IntKind.u64.wrap (m:Int)=(m:Int):=by rw[IntKind.wrap_u64];omega
    have e7:IntKind.u64.wrap ((t:Int)*(s:Int))=(ts:Int):=by rw[←Int.natCast_mul,←hts,IntKind.wrap_u64];omega
    have e8:IntKind.u64.wrap ((q:Int)+(ts:Int))=((q:Int)+(ts:Int)):=by rw[IntKind.wrap_u64];omega
    have b1:((gk:Int) != 0)=true:=by rw[bne_iff_ne];omega
    have b2:((gk:Int)==0)=false:=by rw[beq_eq_false_iff_ne];omega
    have b3:¬(gk=0):=by omega
    have HT:=Lib.hid ht;have HM:=Lib.hid hm;have HTS:=Lib.hid hts;clear ht hm hts;by_cases hc:q+ts≤m
    ·have z1:(q:Int)+(ts:Int)≤(m:Int):=by omega
     have hc2:q+x / gk*s≤x%gk:=by rw[←HT.out,←HM.out,←HTS.out];exact hc
     have J2:=hj.out.step hg hc2;have HJ:=Lib.hid J2;clear hc hc2 J2
     go_wp2_with fail
     go_quiet (fail)
     go_wp2_with fail
     refine(e_p _ h x gk p q r s b (HS.out.below (b_y _ _)) hg HI1.out HI2.out).mono ?_;intro e w4 P;obtain⟨rfl,R⟩:=SlRel.next hz HUV.out HJ.out hU hV hp hs (show Wb (wr.drewN _) w.heap.size 146 [0,0,0,0]from HW.out) (HB.out.trans ((b_y wr _).mono HB.out.size)) P;rw[←HM.out]at R;have HR:=Lib.hid R;clear R P c0 c1 c2 c3 c4 c5
     go_wp2_with fail
     go_roundg m
     case rel=>exact HR.out
     case measure=>exact hmg
    ·have z1:¬((q:Int)+(ts:Int)≤(m:Int)):=by omega
     clear hc
     go_wp2_with fail
     go_quiet (fail)
     go_wp2_with fail
     go_meet
     exact HJ0.out _
 case rest=>
  clear HR;obtain⟨gk,x,p,q,r,s,U,V,b,hUV,hj,hU,hV,hp,hs,S,W,hB⟩:=hcut;have HS:=Lib.hid S;have HW:=Lib.hid W;have HB:=Lib.hid hB;have HUV:=Lib.hid hUV;have hz0:w.heap.size≤wc.heap.size:=hB.size;clear S W hB hUV
  go_wp2_with fail
  refine(n_g w _ h u v x gk p q r s U V b HUV.out hj.out HS.out).mono ?_;rintro e w4 ⟨p',q',r',s',rfl,bp,bq,br,bs,hp',hs',hok,B4⟩;have W4:Wb w4 w.heap.size 146 [0,0,0,0]:=⟨HW.out.1.below B4 HW.out.1.lt,HW.out.2⟩;obtain⟨z0,z1,z2,z3,_,_,_,_,k0,k1,k2,k3⟩:=wb4 W4;obtain⟨X,T⟩:=e_i W4 bp bq br bs;obtain⟨y0,y1,y2,y3,_⟩:=wb4 X;have B:=Lib.hid ((HB.out.trans (B4.mono hz0)).trans (T.below (B:=w.heap.size) (by have:=B4.size;omega) fun a h=>by rw[h];exact Nat.le_refl _));clear X T W4 B4
  go_wp2_with fail
  refine bodyPost_ret (v:=.agg #[.int .u64 (p':Int),.int .u64 (q':Int),.int .u64 (r':Int),.int .u64 (s':Int)]) (by simp[results,Tryz.results144,go_sem,y0,y1,y2,y3]) rfl ?_;exact⟨p',q',r',s',rfl,bp,bq,br,bs,hp',hs',hok,B.out⟩
end
section
open Go.RowKit
theorem k_c (p q r s:Nat){b:Bool}(hb:((q:Int)==0)=b)(w:World):
  Calls Tryz.prog 133 #[.agg #[.int .u64 p,.int .u64 q,.int .u64 r,.int .u64 s]] w fun e w'=>e= .returned (.bool b)∧Below w.heap.size w w':=by
 have hW:=(Below.refl w.heap.size w).alloc (Nat.le_refl _) (.cells #[.int .u64 p,.int .u64 q,.int .u64 r,.int .u64 s] 146);go_enter Tryz.func133,Tryz.ntmps133
 go_wp2_with fail
 go_ret
 exact⟨rfl,hW⟩
theorem h_a {f s0 u:Nat}(hu:u<64)(hf:f*2^u<18446744073709551616)(hs:s0<18446744073709551616)(hfB:f<18446744073709551616):
  bits .or .u64 (IntKind.u64.wrap ((f:Int)*2^u)) ((s0:Int) / 2^(64 - u))=(((f*18446744073709551616+s0) / 2^(64 - u):Nat):Int):=by
 obtain⟨_,_,g3,_⟩:=e_k (x:=s0) (u:=u) (c:=0) hs hu (Nat.pow_pos (by omega));have hv:=f_x (x:=f) (u:=u) (c:=s0 / 2^(64 - u)) hfB hu g3;rw[d_y,hv,Nat.mod_eq_of_lt hf];have e:(18446744073709551616:Nat)=2^u*2^(64 - u):=c_p u hu;have e2:f*18446744073709551616+s0=s0+2^(64 - u)*(f*2^u):=by rw[e];grind
 rw[e2,Nat.add_mul_div_left _ _ (Nat.pow_pos (by omega)),Nat.add_comm]
theorem j_d {zs:List Nat}{m u:Nat}(lz:Low 18446744073709551616 zs)(hz:zs.length=m+2):(nth zs (m+1)*18446744073709551616+nth zs m) / 2^(64 - u)=ev 18446744073709551616 zs / (18446744073709551616^m*2^(64 - u)):=by
 have z1:=a_d 18446744073709551616 zs m;have z2:=a_d 18446744073709551616 zs (m+1);have zl:=d_b lz (by omega) m;rw[show m+1+1=zs.length from by omega,a_2]at z2;have e:ev 18446744073709551616 zs / 18446744073709551616^m=nth zs (m+1)*18446744073709551616+nth zs m:=by
  have h:ev 18446744073709551616 zs=pre 18446744073709551616 zs m+18446744073709551616^m*(nth zs (m+1)*18446744073709551616+nth zs m):=by
   rw[z2,z1,show(18446744073709551616:Nat)^(m+1)=18446744073709551616^m*18446744073709551616 from Nat.pow_succ ..];generalize(18446744073709551616:Nat)^m=P;grind
  rw[h,Nat.add_mul_div_left _ _ (Nat.pow_pos (by omega)),Nat.div_eq_of_lt zl,Nat.zero_add]
 rw[←Nat.div_div_eq_div_mul,e]
theorem s_f {b m:Nat}{zs us:List Nat}(hb:0<b)(lz:Low b zs)(hz:zs.length=m+1)(hu:us.length=m+1)(h:ev b us≤ev b zs):nth us m≤nth zs m:=by
 have z1:=a_d b zs m;have u1:=a_d b us m;have zl:=d_b lz hb m;rw[show m+1=zs.length from hz.symm,a_2]at z1;rw[show m+1=us.length from hu.symm,a_2]at u1;rcases Nat.lt_or_ge (nth zs m) (nth us m)with h1|h1
 ·exfalso
  have:b^m*(nth zs m+1)≤b^m*nth us m:=Nat.mul_le_mul_left _ h1;rw[Nat.mul_add,Nat.mul_one]at this;omega
 ·exact h1
def LePost (a b:Nat)(w:World)(e:Ending)(w':World):Prop:=
 ∃X Y:Nat,e= .returned (.tuple #[.int .u64 (X:Int),.int .u64 (Y:Int)])∧X<18446744073709551616∧0<X∧Y≤X∧Hid (∃K,(X*K≤a∧a<X*K+K)∧(Y*K≤b∧b<Y*K+K))∧Sees w w'
theorem j_p {a K:Nat}(hK:0<K):a / K*K≤a∧a<a / K*K+K:=by
 have h1:=Nat.div_add_mod a K;have h2:=Nat.mod_lt a hK;rw[Nat.mul_comm]at h1;omega
theorem g_c (A B:Option Addr)(n m c d:Nat)(zs us:List Nat)(w:World)(hz:Rd w .u64 A zs)(hu:Rd w .u64 B us)(hzl:zs.length=n)(hul:us.length=n)(hm:n=m+2)(lz:Low 18446744073709551616 zs)(lu:Low 18446744073709551616 us)
  (ht:nth zs (m+1)≠0) (hle:ev 18446744073709551616 us≤ev 18446744073709551616 zs) (bn:n≤1099511627776):
  Calls Tryz.prog 145 #[.slice A n c,.slice B n d] w (LePost (ev 18446744073709551616 zs) (ev 18446744073709551616 us) w):=by
 obtain⟨i1,hi1⟩:∃i,i=m+1:=⟨_,rfl⟩;have htl:=s_f (m:=m+1) (by omega) lz (by omega) (by omega) hle;obtain⟨ad,rfl,_,c0⟩:=hz.at (k:=m) (by omega);have c1:=hz.cell rfl (k:=i1) (by omega);obtain⟨ae,rfl,_,d0⟩:=hu.at (k:=m) (by omega);have d1:=hu.cell rfl (k:=i1) (by omega);have b0:=lz.any (by omega) m;have b1:=lz.any (by omega) i1;have e0:=lu.any (by omega) m;have e1:=lu.any (by omega) i1;obtain⟨u,hu'⟩:∃u,u=64 - bl (nth zs (m+1)):=⟨_,rfl⟩;have hb64:bl (nth zs (m+1))≤64:=bl_le.2 (by have:=lz.any (b:=18446744073709551616) (by omega) (m+1);simpa using this);have hb0:0<bl (nth zs (m+1)):=bl_lt.2 (by simp;omega);have hu64:u<64:=by omega
 have hf:nth zs (m+1)*2^u<18446744073709551616:=by
  have h1:=bl_le.1 (Nat.le_refl (bl (nth zs (m+1))));have e:(18446744073709551616:Nat)=2^bl (nth zs (m+1))*2^u:=by rw[←Nat.pow_add,show bl (nth zs (m+1))+u=64 from by omega]
  rw[e];exact Nat.mul_lt_mul_of_pos_right h1 (Nat.pow_pos (by omega))
 have hg:nth us (m+1)*2^u<18446744073709551616:=Nat.lt_of_le_of_lt (Nat.mul_le_mul_right _ htl) hf;rw[←hi1]at hf hg hu';have w1:=h_a hu64 hf b0 b1;have w2:=h_a hu64 hg e0 e1;have hK:0<18446744073709551616^m*2^(64 - u):=Nat.mul_pos (Nat.pow_pos (by omega)) (Nat.pow_pos (by omega));have n1:=j_d (u:=u) lz (show zs.length=m+2 by omega);have n2:=j_d (u:=u) lu (show us.length=m+2 by omega);rw[←hi1]at n1 n2;rw[n1]at w1;rw[n2]at w2;have q1:=j_p (a:=ev 18446744073709551616 zs) hK;have q2:=j_p (a:=ev 18446744073709551616 us) hK;have q3:ev 18446744073709551616 us / (18446744073709551616^m*2^(64 - u))≤ev 18446744073709551616 zs / (18446744073709551616^m*2^(64 - u)):=Nat.div_le_div_right hle;have q4:ev 18446744073709551616 zs / (18446744073709551616^m*2^(64 - u))<18446744073709551616:=by
  rw[←n1];refine(Nat.div_lt_iff_lt_mul (Nat.pow_pos (by omega))).2 ?_;have e:(18446744073709551616:Nat)=2^u*2^(64 - u):=c_p u hu64;have h1:nth zs i1+1≤2^(64 - u):=by
   have h2:nth zs i1*2^u<2^(64 - u)*2^u:=by rw[Nat.mul_comm (2^(64 - u)),←e];exact hf
   exact Nat.lt_of_mul_lt_mul_right h2
  have h3:(nth zs i1+1)*18446744073709551616≤2^(64 - u)*18446744073709551616:=Nat.mul_le_mul_right _ h1;rw[Nat.add_mul,Nat.one_mul,Nat.mul_comm (2^(64 - u))]at h3;omega
 have q5:0<ev 18446744073709551616 zs / (18446744073709551616^m*2^(64 - u)):=by
  refine Nat.div_pos ?_ hK;have h1:(2:Nat)^(64 - u)≤18446744073709551616:=by
   have:(2:Nat)^(64 - u)≤2^64:=Nat.pow_le_pow_right (by omega) (by omega);simpa using this
  have h2:=a_d 18446744073709551616 zs (m+1);rw[show m+1+1=zs.length from by omega,a_2]at h2;have h3:18446744073709551616^(m+1)≤18446744073709551616^(m+1)*nth zs (m+1):=Nat.le_mul_of_pos_right _ (by omega);have h4:18446744073709551616^m*2^(64 - u)≤18446744073709551616^m*18446744073709551616:=Nat.mul_le_mul_left _ h1;rw[Nat.pow_succ]at h2 h3;omega
 have PH:=Lib.hid (show ∃K,(ev 18446744073709551616 zs / (18446744073709551616^m*2^(64 - u))*K≤ev 18446744073709551616 zs∧ev 18446744073709551616 zs<ev 18446744073709551616 zs / (18446744073709551616^m*2^(64 - u))*K+K)∧
  (ev 18446744073709551616 us / (18446744073709551616^m*2^(64 - u))*K≤ev 18446744073709551616 us∧ev 18446744073709551616 us<ev 18446744073709551616 us / (18446744073709551616^m*2^(64 - u))*K+K)from⟨_,q1,q2⟩)
 clear n1 n2 q1 q2 hK hf hg htl hb64 hb0 hle ht;generalize ev 18446744073709551616 zs / (18446744073709551616^m*2^(64 - u))=X at *;generalize ev 18446744073709551616 us / (18446744073709551616^m*2^(64 - u))=Y at *;generalize nth zs m=s0 at *;generalize nth zs i1=f at *;generalize nth us m=t0 at *;generalize nth us i1=g at *;obtain⟨dn,hdn⟩:∃d,d=64 - u:=⟨_,rfl⟩;rw[←hdn]at w1 w2;have v1:(n:Int) - 1=(i1:Int):=by omega
 have v2:(n:Int) - 2=(m:Int):=by omega
 have v3:IntKind.i64.wrap ((n:Int) - 1)=(i1:Int):=by rw[IntWalk.i64_in _ (by omega)];omega
 have v4:IntKind.i64.wrap ((n:Int) - 2)=(m:Int):=by rw[IntWalk.i64_in _ (by omega)];omega
 have v5:(64:Int) - (u:Int)=(dn:Int):=by omega
 have v6:IntKind.i64.wrap (64 - (u:Int))=(dn:Int):=by rw[IntWalk.i64_in _ (by omega)];omega
 have k1:i1<n:=by omega
 have k2:m<n:=by omega
 have k3:dn≤64:=by omega
 have HU:=Lib.hid hu';clear hu' hi1 hm hdn hzl hul hz hu lz lu;go_enter Tryz.func145,Tryz.ntmps145
 go_wp2_with fail
 refine(d_t _ b1 _).mono ?_;rintro e w' ⟨rfl,rfl⟩;rw[←HU.out]
 go_wp2_with fail
 go_quiet (fail)
 go_wp2_with fail
 go_ret2
 exact⟨X,Y,rfl,q4,q5,q3,PH,⟨_,rfl⟩⟩
theorem l_8 {Ok:Nat→Nat→Nat→Nat→Prop}{w w3 w4:World}{e:Ending}(hB:Below (w.heap.size+1) (w.alloc (.cells #[.int .u64 0,.int .u64 0,.int .u64 0,.int .u64 0] 146)) w3)(hz:w3.heap.size=w.heap.size+1)(P:JpPost Ok w3 e w4):
  ∃p q r s:Nat,e= .returned (.agg #[.int .u64 (p:Int),.int .u64 (q:Int),.int .u64 (r:Int),.int .u64 (s:Int)])∧p<18446744073709551616∧q<18446744073709551616∧r<18446744073709551616∧s<18446744073709551616∧1≤p∧1≤s∧Hid (Ok p q r s)∧
   (w4.cell? ⟨w.heap.size,0,none⟩=some (.int .u64 0)∧w4.cell? ⟨w.heap.size,1,none⟩=some (.int .u64 0)∧w4.cell? ⟨w.heap.size,2,none⟩=some (.int .u64 0)∧w4.cell? ⟨w.heap.size,3,none⟩=some (.int .u64 0)∧
    w4.frozen? ⟨w.heap.size,0,none⟩=false∧w4.frozen? ⟨w.heap.size,1,none⟩=false∧w4.frozen? ⟨w.heap.size,2,none⟩=false∧w4.frozen? ⟨w.heap.size,3,none⟩=false∧
    ((((w4.setCell ⟨w.heap.size,0,none⟩ (.int .u64 (p:Int))).setCell ⟨w.heap.size,1,none⟩ (.int .u64 (q:Int))).setCell ⟨w.heap.size,2,none⟩ (.int .u64 (r:Int))).setCell ⟨w.heap.size,3,none⟩ (.int .u64 (s:Int))).cell? ⟨w.heap.size,0,none⟩=some (.int .u64 (p:Int))∧
    ((((w4.setCell ⟨w.heap.size,0,none⟩ (.int .u64 (p:Int))).setCell ⟨w.heap.size,1,none⟩ (.int .u64 (q:Int))).setCell ⟨w.heap.size,2,none⟩ (.int .u64 (r:Int))).setCell ⟨w.heap.size,3,none⟩ (.int .u64 (s:Int))).cell? ⟨w.heap.size,1,none⟩=some (.int .u64 (q:Int))∧
    ((((w4.setCell ⟨w.heap.size,0,none⟩ (.int .u64 (p:Int))).setCell ⟨w.heap.size,1,none⟩ (.int .u64 (q:Int))).setCell ⟨w.heap.size,2,none⟩ (.int .u64 (r:Int))).setCell ⟨w.heap.size,3,none⟩ (.int .u64 (s:Int))).cell? ⟨w.heap.size,2,none⟩=some (.int .u64 (r:Int))∧
    ((((w4.setCell ⟨w.heap.size,0,none⟩ (.int .u64 (p:Int))).setCell ⟨w.heap.size,1,none⟩ (.int .u64 (q:Int))).setCell ⟨w.heap.size,2,none⟩ (.int .u64 (r:Int))).setCell ⟨w.heap.size,3,none⟩ (.int .u64 (s:Int))).cell? ⟨w.heap.size,3,none⟩=some (.int .u64 (s:Int))∧
    Below w.heap.size w ((((w4.setCell ⟨w.heap.size,0,none⟩ (.int .u64 (p:Int))).setCell ⟨w.heap.size,1,none⟩ (.int .u64 (q:Int))).setCell ⟨w.heap.size,2,none⟩ (.int .u64 (r:Int))).setCell ⟨w.heap.size,3,none⟩ (.int .u64 (s:Int)))):=by
 obtain⟨p,q,r,s,rfl,bp,bq,br,bs,hp,hs,hok,B4⟩:=P;have b1:=((d_e w 0 0 0 0).below hB (by omega)).below B4 (by omega);have W4:Wb w4 w.heap.size 146 [0,0,0,0]:=⟨b1,low4 (by omega) (by omega) (by omega) (by omega)⟩;obtain⟨z0,z1,z2,z3,_,_,_,_,k0,k1,k2,k3⟩:=wb4 W4;obtain⟨X,T⟩:=e_i W4 bp bq br bs;obtain⟨y0,y1,y2,y3,_⟩:=wb4 X;have hs4:=B4.size;exact⟨p,q,r,s,rfl,bp,bq,br,bs,hp,hs,hok,z0,z1,z2,z3,k0,k1,k2,k3,y0,y1,y2,y3,(((zb0 w _).trans (hB.mono (by omega))).trans (B4.mono (by omega))).trans (T.below (by omega) fun a h=>by rw[h];exact Nat.le_refl _)⟩
theorem h_c (A B:Option Addr)(n c d:Nat)(zs us:List Nat)(w:World)(hz:Rd w .u64 A zs)(hu:Rd w .u64 B us)(hzl:zs.length=n)(hul:us.length=n)(lz:Low 18446744073709551616 zs)(lu:Low 18446744073709551616 us)
  (hn:0<n) (ht:nth zs (n - 1)≠0) (hle:ev 18446744073709551616 us≤ev 18446744073709551616 zs) (bn:n≤1099511627776):
  Calls Tryz.prog 132 #[.slice A n c,.slice B n d] w (JpPost (Jok (ev 18446744073709551616 zs) (ev 18446744073709551616 us)) w):=by
 have HZL:=Lib.hid hzl;have HUL:=Lib.hid hul;have HT:=Lib.hid ht;have HLE:=Lib.hid hle;clear hzl hul ht hle;rcases Nat.lt_or_ge 1 n with h1|h1
 ·obtain⟨m,hm⟩:∃m,n=m+2:=⟨n - 2,by omega⟩;have HM:=Lib.hid hm;have HT2:Hid (nth zs (m+1)≠0):=Lib.hid (by have:=HT.out;rwa [hm,show m+2 - 1=m+1 by omega]at this);have hne:¬(n=1):=by omega
  have b1:((n:Int)==1)=false:=by rw[beq_eq_false_iff_ne];omega
  clear hm;go_enter Tryz.func132,Tryz.ntmps132
  go_wp2_with fail
  have hz1:=hz.alloc (.cells #[.int .u64 0,.int .u64 0,.int .u64 0,.int .u64 0] 146);have hu1:=hu.alloc (.cells #[.int .u64 0,.int .u64 0,.int .u64 0,.int .u64 0] 146);refine(g_c _ _ n m c d zs us _ hz1 hu1 HZL.out HUL.out HM.out lz lu HT2.out HLE.out bn).mono ?_;rintro e w3 ⟨X,Y,rfl,hX,hX0,hYX,hK,S3⟩;have B0:=Lib.hid (S3.below (w.heap.size+1));have Z3:w3.heap.size=w.heap.size+1:=by obtain⟨n,rfl⟩:=S3;simp
  clear S3 hz1 hu1 hz hu
  go_wp2_with fail
  refine(j_1 X Y hYX hX0 hX _).mono ?_;intro e w4 P;obtain⟨p,q,r,s,rfl,bp,bq,br,bs,hp,hs,hok,R⟩:=l_8 B0.out Z3 P;obtain⟨z0,z1,z2,z3,k0,k1,k2,k3,y0,y1,y2,y3,BB⟩:=R;have HB:=Lib.hid BB;have HOK:Hid (Jok (ev 18446744073709551616 zs) (ev 18446744073709551616 us) p q r s):=Lib.hid (by
   obtain⟨K,k1,k2⟩:=hK.out;exact hok.out K _ _ k1 k2)
  clear BB P
  go_wp2_with fail
  refine bodyPost_ret (v:=.agg #[.int .u64 (p:Int),.int .u64 (q:Int),.int .u64 (r:Int),.int .u64 (s:Int)]) (by simp[results,Tryz.results132,go_sem,y0,y1,y2,y3]) rfl ?_;exact⟨p,q,r,s,rfl,bp,bq,br,bs,hp,hs,HOK,HB.out⟩
 ·obtain rfl:n=1:=by omega
  obtain⟨X,hX⟩:∃X,zs=[X]:=List.length_eq_one_iff.1 HZL.out;obtain⟨Y,hY⟩:∃Y,us=[Y]:=List.length_eq_one_iff.1 HUL.out;subst hX hY;have e1:ev 18446744073709551616 [X]=X:=by simp[ev]
  have e2:ev 18446744073709551616 [Y]=Y:=by simp[ev]
  have hX0:0<X:=by have:=HT.out;simp[nth]at this;omega
  have hYX:Y≤X:=by have:=HLE.out;rwa [e1,e2]at this
  have hX:X<18446744073709551616:=lz.head;rw[e1,e2];have B0:=Lib.hid (Below.refl (w.heap.size+1) (w.alloc (.cells #[.int .u64 0,.int .u64 0,.int .u64 0,.int .u64 0] 146)));have hz1:=hz.alloc (.cells #[.int .u64 0,.int .u64 0,.int .u64 0,.int .u64 0] 146);have hu1:=hu.alloc (.cells #[.int .u64 0,.int .u64 0,.int .u64 0,.int .u64 0] 146);obtain⟨ad,rfl,l1,c0⟩:=hz1.at (k:=0) (by simp);obtain⟨ae,rfl,l2,d0⟩:=hu1.at (k:=0) (by simp);rw[show ad.add 0=ad by unfold Addr.add;simp,show nth [X] 0=X from rfl]at c0;rw[show ae.add 0=ae by unfold Addr.add;simp,show nth [Y] 0=Y from rfl]at d0;clear e1 e2 HZL HUL HT HLE hz hu hz1 hu1;go_enter Tryz.func132,Tryz.ntmps132
  go_wp2_with fail
  obtain⟨w1,hw1⟩:∃w1,w1=w.alloc (.cells #[.int .u64 0,.int .u64 0,.int .u64 0,.int .u64 0] 146):=⟨_,rfl⟩;have Z1:w1.heap.size=w.heap.size+1:=by rw[hw1];simp
  rw[←hw1]at c0 d0 l1 l2 ⊢;have HW1:=Lib.hid hw1;have HZ1:=Lib.hid Z1;clear hw1 Z1;go_still_tail 6,(by kernel_rfl)
  change wpList _ _ _ _ _ w1.drew;obtain⟨w2,hw2⟩:∃w2,w2=w1.drew:=⟨_,rfl⟩;rw[←hw2];have Z2:Hid (w2.heap.size=w.heap.size+1):=Lib.hid (by rw[hw2];exact HZ1.out);have B2:Hid (Below (w.heap.size+1) (w.alloc (.cells #[.int .u64 0,.int .u64 0,.int .u64 0,.int .u64 0] 146)) w2):=Lib.hid (by rw[hw2,←HW1.out];exact(Below.refl _ _).drew);clear hw2 c0 d0 l1 l2 B0
  go_wp2_with fail
  refine(h_s X Y hYX hX0 hX _).mono ?_;intro e w4 P;obtain⟨p,q,r,s,rfl,bp,bq,br,bs,hp,hs,hok,R⟩:=l_8 B2.out Z2.out P;obtain⟨z0,z1,z2,z3,k0,k1,k2,k3,y0,y1,y2,y3,BB⟩:=R;have HB:=Lib.hid BB;clear BB P
  go_wp2_with fail
  refine bodyPost_ret (v:=.agg #[.int .u64 (p:Int),.int .u64 (q:Int),.int .u64 (r:Int),.int .u64 (s:Int)]) (by simp[results,Tryz.results132,go_sem,y0,y1,y2,y3]) rfl ?_;exact⟨p,q,r,s,rfl,bp,bq,br,bs,hp,hs,hok,HB.out⟩
def NbPost (v:Nat)(w:World)(e:Ending)(w':World):Prop:=
 ∃g,e= .returned (.slice (some ⟨g,0,none⟩) (cn 18446744073709551616 v).length (cn 18446744073709551616 v).length)∧w.heap.size≤g∧Blk w' g 67 .u64 (cn 18446744073709551616 v)∧Below w.heap.size w w'
theorem n_0 (A:Option Addr)(n c:Nat)(xs:List Nat)(w:World)(hx:Rd w .u64 A xs)(hxn:xs.length=n)
  (hc:n≤c) (hc':c≤9223372036854775807) (lx:Low 18446744073709551616 xs) (bx:n≤1099511627776):
  Calls Tryz.prog 105 #[.slice A n c] w (NbPost (ev 18446744073709551616 xs) w):=by
 have sx:sl xs≤n:=hxn ▸ a_6 xs;have HX:=Lib.hid hxn;have ht:=k_k 18446744073709551616 (by omega) xs lx;have hl:(xs.take (sl xs)).length=sl xs:=by simp[Nat.min_eq_left (a_6 xs)]
 have HT:=Lib.hid ht;have HL:=Lib.hid hl;clear hxn ht hl;go_enter Tryz.func105,Tryz.ntmps105
 go_wp2_with fail
 refine(a_e _ _ _ xs _ hx HX.out (by omega) (by omega)).mono ?_;rintro e w' ⟨rfl,rfl⟩
 go_wp2_with (at_make;refine a_f _ rfl _ _ 35 rfl 67 .u64 8 Tryz.underlying35 info_u64 _ _ _ _ (sl xs) rfl rfl (by omega) (by omega) (by omega) (by omega) ?_)
 intro w1 hb1 hw1 hz1;have HZ:=Lib.hid hz1;clear hz1
 go_wp2_with (refine wpList_copy_splice rfl (.tmp 9) (.tmp 10) _ _ rfl 67 Tryz.underlying35 (by kernel_rfl) (some ⟨w.heap.size,0,none⟩) A (sl xs) (sl xs) (sl xs) c rfl rfl w.heap.size 0 (vs .u64 (List.replicate (sl xs) 0)) 67 hb1 (vs .u64 (xs.take (sl xs))) ?_ ?_ ?_ (k_y _ _) w.heap.size w hw1 (Nat.le_refl _) ?_)
 ·rw[a_g,HL.out];simp
 ·intro hp;rw[a_g]at hp;obtain⟨ad,h1,_,h3⟩:=((hx.take (sl xs)).below hw1) hp;exact⟨ad,h1,fun j v hv=>by
   rcases Nat.lt_or_ge j (xs.take (sl xs)).length with hj|hj
   ·rw[c_j hj]at hv;rw[h3 j hj,hv]
   ·rw[List.getElem?_eq_none (by rw[a_g];exact hj)]at hv;cases hv⟩
 ·rw[a_g,a_g,HL.out];simp
 ·intro w2 hb2 hw2
  go_wp2
  go_ret
  have hb3:Blk w2 w.heap.size 67 .u64 (xs.take (sl xs)):=by
   have:=hb2.out;rw[f_f (by rw[a_g,a_g,HL.out];simp)]at this;exact this
  rw[←HT.out]at hb3;exact⟨w.heap.size,by rw[HT.out,HL.out];rfl,Nat.le_refl _,hb3,hw2⟩
theorem Wb.part {S:Addr→Prop}{w w':World}{g n:Nat}{t:TypeId}{La zs:List Nat}(h:Wb w g t La)(ht:Tch S w w')(ha:Ar w' g 0 t zs)(hz:zs.length=n)(hn:n≤La.length)(hS:∀j,n≤j→¬S ⟨g,j,none⟩):Wb w' g t (zs++La.drop n):=by
 obtain⟨L',h1,h2,h3⟩:=ht.blk g t La h;obtain⟨L'',k1,k2,k3⟩:=ha;obtain rfl:=k1.one h1;have e:L''=zs++La.drop n:=by
  refine d_v (by simp;omega) fun j hj=>?_;by_cases hlt:j<zs.length
  ·rw[a_v hlt,←k3 j hlt,Nat.zero_add]
  ·rw[a_m (by omega),a_7,h3 j (hS j (by omega)),show n+(j - zs.length)=j by omega]
 rwa [e]at h1
theorem ev_pad' (xs:List Nat)(n:Nat):ev 18446744073709551616 (xs++List.replicate n 0)=ev 18446744073709551616 xs:=by
 rw[a_u,a_5];simp
end
section
open Go.RowKit
theorem k_3 {b:Nat}{zs us:List Nat}(hb:2≤b)(lz:Low b zs)(h:ev b us≤ev b zs)(hl:sl zs≤us.length):ev b (us.take (sl zs))=ev b us:=by
 have h1:=a_9 b us (sl zs) hl;have h2:ev b zs<b^sl zs:=by
  have:=b_1 (lz.take (sl zs));rw[a_q,f_y]at this;exact this
 unfold pre at h1;rcases Nat.eq_zero_or_pos (ev b (us.drop (sl zs)))with h3|h3
 ·rw[h3,Nat.mul_zero,Nat.add_zero]at h1;exact h1.symm
 ·have:=Nat.le_mul_of_pos_right (b^sl zs) h3;omega
theorem d_u {zs L:List Nat}{n:Nat}(h:zs.length=n):(zs++L.drop n).take n=zs:=by rw[List.take_append_of_le_length (by omega),List.take_of_length_le (by omega)]
end
section
open Go.RowKit
theorem q_z {A:Option Addr}{n c x:Nat}{w:World}(hx:Nv w A n c x)(hn:n≤1099511627776):
  Calls Tryz.prog 105 #[.slice A n c] w (NbPost x w):=by
 obtain⟨xs,h1,h2,h3,h4,h5,rfl⟩:=hx;exact n_0 A n c xs w h1 h2 h3 h4 h5 hn
theorem s_g (v:Nat):(cn 18446744073709551616 v).length=0∨nth (cn 18446744073709551616 v) ((cn 18446744073709551616 v).length - 1)≠0:=by
 rcases Nat.eq_zero_or_pos (cn 18446744073709551616 v).length with h|h
 ·exact .inl h
 ·have:=d_4 (xs:=cn 18446744073709551616 v) (by rw[j_5 _ _ (by omega)];exact h);rw[j_5 _ _ (by omega)]at this;exact .inr this
end
end Go.Proofs.YtgohglhefhocgaaGreat
