/- Pb22 -/
import Derived.Test.YtlgjjnmmepgafaaPb05
import Derived.Deep.CutBlock
import Derived.Deep.DeepCutAuto
import Derived.Deep.LoopGhost
set_option linter.unusedVariables false
set_option linter.unusedSimpArgs false
set_option linter.unusedSectionVars false
set_option maxRecDepth 100000
set_option maxHeartbeats 8000000
namespace Go.Proofs.Ytlgjjnmmepgafaa
open Go.RowKit
theorem e_2 (x:Nat)(hx:x<18446744073709551616)(w:World):
  Calls Try.prog 113 #[.int .u64 x] w fun e w'=>e= .returned (.int .i64 ((64 - bl x:Nat):Int))/\w=w':=by
 have hb:bl x<=64:=bl_le.2 (by omega);have e:(((64 - bl x:Nat):Int))=64 - (bl x:Int):=by omega
 have E:=Lib.hid e;clear e;go_enter Try.func113,Try.ntmps113
 go_wp2_with fail
 refine(c_1 _ hx _).mono ?_;rintro e w' ⟨rfl,rfl⟩
 go_wp2
 go_ret
 exact⟨by rw[E.out];rfl,rfl⟩
theorem i_h {H a b c Y:Nat}(hY:Y=a*4294967296+b)(ha:0<a)(hc:c<4294967296):(H*4294967296+c) / Y<=H / a:=by
 have h1:=Nat.div_mul_le_self (H*4294967296+c) Y;generalize(H*4294967296+c) / Y=q at *;refine(Nat.le_div_iff_mul_le ha).2 ?_;have h2:q*Y=q*a*4294967296+q*b:=by rw[hY,Nat.mul_add,Nat.mul_assoc]
 generalize q*a=p at *;generalize q*b=r at *;omega
theorem k_2 {H a b c Y q rh:Nat}(hY:Y=a*4294967296+b)(hH:H<Y)(hc:c<4294967296)(h:q*a+rh=H)(hq:(H*4294967296+c) / Y<=q)
  (hm:4294967296<=q\/4294967296*rh+c<q*b):(H*4294967296+c) / Y+1<=q:=by
 rcases hm with hm|hm
 ·have h2:(H*4294967296+c) / Y<4294967296:=(Nat.div_lt_iff_lt_mul (by omega)).2 (by omega);omega
 ·rcases Nat.lt_or_ge ((H*4294967296+c) / Y) q with h3|h3
  ·exact h3
  ·have e:(H*4294967296+c) / Y=q:=by omega
   have h1:=Nat.div_mul_le_self (H*4294967296+c) Y;rw[e]at h1;have h2:q*Y=q*a*4294967296+q*b:=by rw[hY,Nat.mul_add,Nat.mul_assoc]
   generalize q*a=p at *;generalize q*b=r at *;omega
theorem d_s {H a b c Y q rh:Nat}(hY:Y=a*4294967296+b)(hH:H<Y)(h:q*a+rh=H)(hq:(H*4294967296+c) / Y<=q)
  (hm:q*b<=4294967296*rh+c):q=(H*4294967296+c) / Y:=by
 refine Nat.le_antisymm ?_ hq;refine(Nat.le_div_iff_mul_le (by omega)).2 ?_;have h2:q*Y=q*a*4294967296+q*b:=by rw[hY,Nat.mul_add,Nat.mul_assoc]
 generalize q*a=p at *;generalize q*b=r at *;omega
theorem d_8 {H a b c Y q rh:Nat}(hY:Y=a*4294967296+b)(hb:b<4294967296)(hH:H<Y)(h:q*a+rh=H)(hr:4294967296<=rh):q*b<=4294967296*rh+c:=by
 have h1:q<4294967296:=by
  rcases Nat.lt_or_ge q 4294967296 with h1|h1
  ·exact h1
  ·have:=Nat.mul_le_mul_right a h1;generalize q*a=p at *;omega
 have h2:q*b<=4294967296*b:=Nat.mul_le_mul_right _ (by omega);omega
theorem k_1 (H c Y:Nat)(hY:0<Y)(hB:Y<18446744073709551616):
  IntKind.u64.wrap (IntKind.u64.wrap (IntKind.u64.wrap ((H:Int)*4294967296)+(c:Int)) - IntKind.u64.wrap ((((H*4294967296+c) / Y:Nat):Int)*(Y:Int)))=(((H*4294967296+c)%Y:Nat):Int):=by
 have h1:=Nat.div_add_mod (H*4294967296+c) Y;have h2:=Nat.mod_lt (H*4294967296+c) hY;rw[Nat.mul_comm]at h1;rw[<-Int.natCast_mul];generalize(H*4294967296+c) / Y*Y=t at *;generalize(H*4294967296+c)%Y=r at *;simp only[IntKind.wrap_u64];omega
theorem r_r {hi lo y:Nat}(h1:hi<y)(hlo:lo<18446744073709551616)(hy:y<18446744073709551616):
  ∃s Y H L:Nat,s=64 - bl y/\s<64/\Y=y*2^s/\9223372036854775808<=Y/\Y<18446744073709551616/\H<Y/\L<18446744073709551616/\H*18446744073709551616+L=(hi*18446744073709551616+lo)*2^s/\
   IntKind.u64.wrap ((y:Int)*2^s)=(Y:Int)/\IntKind.u64.wrap ((lo:Int)*2^s)=(L:Int)/\
   bits .or .u64 (IntKind.u64.wrap ((hi:Int)*2^s)) ((lo:Int) / 2^(64 - s))=(H:Int):=by
 have hb:bl y<=64:=bl_le.2 (by omega);have hb0:0<bl y:=bl_lt.2 (by simp;omega);have hlow:=bl_lt.1 (show bl y - 1<bl y by omega);have hhigh:=bl_le.1 (Nat.le_refl (bl y));have hlow':2^(bl y - 1)<=y:=by
  rcases Nat.lt_or_ge y (2^(bl y - 1))with h|h
  ·rw[Nat.div_eq_of_lt h]at hlow;omega
  ·exact h
 obtain⟨s,hs⟩:∃s,s=64 - bl y:=⟨_,rfl⟩;have hs64:s<64:=by omega
 have hp:0<2^s:=Nat.pow_pos (by omega);have hY1:y*2^s<18446744073709551616:=by
  have e:(18446744073709551616:Nat)=2^bl y*2^s:=by rw[<-Nat.pow_add,show bl y+s=64 from by omega]
  rw[e];exact Nat.mul_lt_mul_of_pos_right hhigh hp
 have hY2:9223372036854775808<=y*2^s:=by
  have e:(9223372036854775808:Nat)=2^(bl y - 1)*2^s:=by rw[<-Nat.pow_add,show bl y - 1+s=63 from by omega]
  rw[e];exact Nat.mul_le_mul_right _ hlow'
 obtain⟨_,_,g3,g4⟩:=f_e (x:=lo) (u:=s) (c:=0) hlo hs64 hp;obtain⟨_,k2,k3,k4⟩:=f_e (x:=hi) (u:=s) (c:=lo / 2^(64 - s)) (by omega) hs64 g3;have hv:=h_z (x:=hi) (u:=s) (c:=lo / 2^(64 - s)) (by omega) hs64 g3;have hhi:hi*2^s+2^s<=y*2^s:=by
  have:=Nat.mul_le_mul_right (2^s) (show hi+1<=y from h1);rw[Nat.add_mul,Nat.one_mul]at this;exact this
 have hmod:hi*2^s%18446744073709551616=hi*2^s:=Nat.mod_eq_of_lt (by omega);have w1:∀z:Nat,IntKind.u64.wrap ((z:Int)*2^s)=(((z*2^s)%18446744073709551616:Nat):Int):=fun z=>by
  rw[IntKind.wrap_u64,Int.natCast_emod,Int.natCast_mul,Int.natCast_pow];rfl
 have hd:((lo:Int) / 2^(64 - s))=((lo / 2^(64 - s):Nat):Int):=e_7 lo s;refine⟨s,y*2^s,hi*2^s+lo / 2^(64 - s),lo*2^s%18446744073709551616,hs,hs64,rfl,hY2,hY1,by omega,Nat.mod_lt _ (by omega), ?_, ?_,w1 lo, ?_⟩
 ·rw[Nat.add_mul,Nat.add_mul];have e1:hi*18446744073709551616*2^s=hi*2^s*18446744073709551616:=by rw[Nat.mul_assoc,Nat.mul_comm 18446744073709551616,<-Nat.mul_assoc]
  rw[e1];omega
 ·rw[w1,Nat.mod_eq_of_lt hY1]
 ·rw[hd,hv,hmod]
theorem i_t (x:Nat)(hx:x<18446744073709551616):bits .and .u64 (x:Int) 4294967295=((x%4294967296:Nat):Int):=by
 have h5:=(bits_nat .u64 64 (by decide) (fun n h0 h1=>by rw[IntKind.wrap_u64];omega) x 4294967295 (by omega) (by omega)).1;refine Eq.trans h5 ?_;rw[show(4294967295:Nat)=2^32 - 1 from rfl,Nat.and_two_pow_sub_one_eq_mod]
theorem i_i {H a:Nat}(hH:H<18446744073709551616)(ha:0<a):
  ∃q r:Nat,q=H / a/\q<18446744073709551616/\r<a/\q*a+r=H/\(H:Int) / (a:Int)=(q:Int)/\IntKind.u64.wrap ((H:Int) - IntKind.u64.wrap ((q:Int)*(a:Int)))=(r:Int):=by
 have h1:=Nat.div_add_mod H a;have h2:=Nat.mod_lt H ha;have h3:H / a<=H:=Nat.div_le_self _ _;refine⟨H / a,H%a,rfl,by omega,h2,by rw[Nat.mul_comm];exact h1,rfl, ?_⟩;rw[<-Int.natCast_mul];rw[Nat.mul_comm]at h1;simp only[IntKind.wrap_u64];generalize H / a*a=t at *;generalize H%a=r at *;omega
theorem m_x {hi lo y s Y H L c d q1 r1:Nat}(hY:Y=y*2^s)(hy:0<Y)(hHL:H*18446744073709551616+L=(hi*18446744073709551616+lo)*2^s)(hL:L=c*4294967296+d)
  (hq:q1=(H*4294967296+c) / Y) (hr:r1=(H*4294967296+c)%Y):
  q1*4294967296+(r1*4294967296+d) / Y=(hi*18446744073709551616+lo) / y/\(r1*4294967296+d)%Y / 2^s=(hi*18446744073709551616+lo)%y:=by
 have hp:0<2^s:=Nat.pow_pos (by omega);have h1:=Nat.div_add_mod (H*4294967296+c) Y;rw[<-hq,<-hr]at h1;have h2:H*18446744073709551616+L=(r1*4294967296+d)+Y*(q1*4294967296):=by
  rw[hL,<-Nat.mul_assoc];generalize Y*q1=t at *;omega
 have h3:(hi*18446744073709551616+lo) / y=((hi*18446744073709551616+lo)*2^s) / Y:=by rw[hY,Nat.mul_div_mul_right _ _ hp]
 have h4:(hi*18446744073709551616+lo)%y*2^s=((hi*18446744073709551616+lo)*2^s)%Y:=by rw[hY,Nat.mul_mod_mul_right]
 rw[<-hHL,h2]at h3 h4;rw[Nat.add_mul_div_left _ _ hy]at h3;rw[Nat.add_mul_mod_self_left]at h4;refine⟨by rw[h3,Nat.add_comm], ?_⟩;rw[<-h4,Nat.mul_div_cancel _ hp]
theorem j_2 {k l:IntKind}{a b c d:Int}(h:a=b)(h':c=d):Ending.returned (.tuple #[.int k a,.int l c])= .returned (.tuple #[.int k b,.int l d]):=by rw[h,h']
def DvRel (H a c Y g:Nat)(s15 s16:Value):Prop:=
 ∃rh:Nat,s15= .int .u64 (g:Int)/\s16= .int .u64 (rh:Int)/\(H*4294967296+c) / Y<=g/\g*a+rh=H/\rh<4294967296
theorem k_5 (hi lo y:Nat)(h1:hi<y)(hlo:lo<18446744073709551616)(hy:y<18446744073709551616)(h0:0<hi)(w:World):
  Calls Try.prog 112 #[.int .u64 hi,.int .u64 lo,.int .u64 y] w fun e w'=>e= .returned (.tuple #[.int .u64 (((hi*18446744073709551616+lo) / y:Nat):Int),.int .u64 (((hi*18446744073709551616+lo)%y:Nat):Int)])/\Sees w w':=by
 have t1:((y:Int)==0)=false:=by rw[beq_eq_false_iff_ne];omega
 have t2:((hi:Int)==0)=false:=by rw[beq_eq_false_iff_ne];omega
 have t3:¬(y<=hi):=by omega
 obtain⟨s,Y,H,L,hs,hs64,hYd,hY1,hY2,hHY,hL,hHL,e1,e5,e4⟩:=r_r h1 hlo hy;have HS:=Lib.hid hs;have HYd:=Lib.hid hYd;have HHL:=Lib.hid hHL;have hl1:s<=64:=by omega
 clear hYd hHL;go_enter Try.func112,Try.ntmps112
 go_wp2_with fail
 refine(e_2 _ hy _).mono ?_;rintro e w' ⟨rfl,rfl⟩;rw[<-hs];clear hs t1 t2 t3;obtain⟨a,ha⟩:∃a,a=Y / 4294967296:=⟨_,rfl⟩;obtain⟨b,hb⟩:∃b,b=Y%4294967296:=⟨_,rfl⟩;obtain⟨c,hc⟩:∃c,c=L / 4294967296:=⟨_,rfl⟩;obtain⟨d,hd⟩:∃d,d=L%4294967296:=⟨_,rfl⟩;have hYab:=Lib.hid (show Y=a*4294967296+b by omega);have hLcd:=Lib.hid (show L=c*4294967296+d by omega);have ha1:2147483648<=a:=by omega
 have ha2:a<4294967296:=by omega
 have hb2:b<4294967296:=by omega
 have hc2:c<4294967296:=by omega
 have hd2:d<4294967296:=by omega
 have e2:(Y:Int) / 4294967296=(a:Int):=by omega
 have e3:bits .and .u64 (Y:Int) 4294967295=(b:Int):=by rw[i_t Y hY2,hb]
 have e6:(L:Int) / 4294967296=(c:Int):=by omega
 have e7:bits .and .u64 (L:Int) 4294967295=(d:Int):=by rw[i_t L hL,hd]
 clear ha hb hc hd;have hq0:=i_h (H:=H) hYab.out (by omega) hc2;obtain⟨qa,ra,hqa,hqa2,hra,hqr,e8,e9⟩:=i_i (H:=H) (a:=a) (by omega) (by omega);rw[<-hqa]at hq0;have HQ0:=Lib.hid hq0;have HQR:=Lib.hid hqr;clear hqa hq0 hqr;have ea:((a:Int)==0)=false:=by rw[beq_eq_false_iff_ne];omega
 have ea':¬(a=0):=by omega
 have eh:0<=(H:Int):=by omega
 go_upto_block 0 with fail
 clear e1 e2 e3 e4 e5 e6 e7 e8 e9 ea eh;go_cut [15] (fun v wx=>v= .int .u64 (((H*4294967296+c) / Y:Nat):Int)/\wx=w)
 case first=>
  go_wp2_with fail
  go_loopg [15,16] qa (fun g s15 s16 wx=>wx=w/\DvRel H a c Y g s15 s16)
  case atStart=>exact⟨rfl,ra,rfl,rfl,HQ0.out,HQR.out,by omega⟩
  case round=>
   obtain⟨rfl,rh,rfl,rfl,hq,hr,hw⟩:=hrel;have hgb:gk<18446744073709551616:=by
    have:=Nat.le_mul_of_pos_right gk (show 0<a by omega);omega
   have HQ:=Lib.hid hq;have HR:=Lib.hid hr;clear hq hr;by_cases hgo:4294967296<=gk\/4294967296*rh+c<gk*b
   ·have hg1:=k_2 hYab.out hHY hc2 HR.out HQ.out hgo;obtain⟨g',hg'⟩:∃g',gk=g'+1:=⟨gk - 1,(Nat.succ_pred_eq_of_pos (Nat.lt_of_lt_of_le (Nat.succ_pos _) hg1)).symm⟩;have hr2:g'*a+(rh+a)=H:=by have:=HR.out;rw[hg',Nat.add_mul,Nat.one_mul]at this;omega
    have HG:=Lib.hid (show(H*4294967296+c) / Y<=g' from Nat.le_of_succ_le_succ (Nat.le_trans hg1 (Nat.le_of_eq hg')));have HR2:=Lib.hid hr2;have HL:=Lib.hid (show g'<gk by omega);have e1:IntKind.u64.wrap ((gk:Int) - 1)=(g':Int):=by rw[IntKind.wrap_u64];omega
    have e0:(g':Int)<18446744073709551616:=by omega
    clear hg1 hr2 hg';by_cases hA:4294967296<=gk
    ·have z1:(4294967296:Int)<=(gk:Int):=by omega
     clear hgo hA;by_cases hB:4294967296<=rh+a
     ·have z2:(4294967296:Int)<=(rh:Int)+(a:Int):=by omega
      clear hB
      go_wp2_with fail
      go_meet
      exact⟨by rw[d_s hYab.out hHY HR2.out HG.out (d_8 hYab.out hb2 hHY HR2.out (by omega))],rfl⟩
     ·have z2:¬((4294967296:Int)<=(rh:Int)+(a:Int)):=by omega
      clear hB
      go_wp2_with fail
      go_roundg g'
      case rel=>exact⟨rfl,rh+a,rfl,by go_num,HG.out,HR2.out,by omega⟩
      case measure=>exact HL.out
    ·have z1:¬((4294967296:Int)<=(gk:Int)):=by omega
     have hgo':4294967296*rh+c<gk*b:=by omega
     have hm:gk*b<18446744073709551616:=by
      have:gk*b<=4294967296*b:=Nat.mul_le_mul_right _ (by omega);omega
     obtain⟨p,hp⟩:∃p,p=gk*b:=⟨_,rfl⟩;rw[<-hp]at hgo' hm;have e3:IntKind.u64.wrap ((gk:Int)*(b:Int))=(p:Int):=by rw[<-Int.natCast_mul,<-hp,IntKind.wrap_u64];omega
     have z3:4294967296*(rh:Int)+(c:Int)<(p:Int):=by omega
     clear hgo hgo' hA hp;by_cases hB:4294967296<=rh+a
     ·have z2:(4294967296:Int)<=(rh:Int)+(a:Int):=by omega
      clear hB
      go_wp2_with fail
      go_meet
      exact⟨by rw[d_s hYab.out hHY HR2.out HG.out (d_8 hYab.out hb2 hHY HR2.out (by omega))],rfl⟩
     ·have z2:¬((4294967296:Int)<=(rh:Int)+(a:Int)):=by omega
      clear hB
      go_wp2_with fail
      go_roundg g'
      case rel=>exact⟨rfl,rh+a,rfl,by go_num,HG.out,HR2.out,by omega⟩
      case measure=>exact HL.out
   ·have z1:¬((4294967296:Int)<=(gk:Int)):=by omega
    have hgo':¬(4294967296*rh+c<gk*b):=by omega
    have hm:gk*b<18446744073709551616:=by
     have:gk*b<=4294967296*b:=Nat.mul_le_mul_right _ (by omega);omega
    obtain⟨p,hp⟩:∃p,p=gk*b:=⟨_,rfl⟩;have HF:=Lib.hid (d_s hYab.out hHY HR.out HQ.out (show gk*b<=4294967296*rh+c by omega));rw[<-hp]at hgo' hm;have e3:IntKind.u64.wrap ((gk:Int)*(b:Int))=(p:Int):=by rw[<-Int.natCast_mul,<-hp,IntKind.wrap_u64];omega
    have z3:¬(4294967296*(rh:Int)+(c:Int)<(p:Int)):=by omega
    clear hgo hgo' hp
    go_wp2_with fail
    go_meet
    exact⟨by rw[<-HF.out],rfl⟩
 case rest=>
  obtain⟨rfl,rfl⟩:=hcut;have hR:=k_1 H c Y (by omega) hY2;have hq1:(H*4294967296+c) / Y<4294967296:=(Nat.div_lt_iff_lt_mul (by omega)).2 (by omega);obtain⟨q1,hq1d⟩:∃q1,q1=(H*4294967296+c) / Y:=⟨_,rfl⟩;obtain⟨r1,hr1d⟩:∃r1,r1=(H*4294967296+c)%Y:=⟨_,rfl⟩;have hr1:r1<Y:=by rw[hr1d];exact Nat.mod_lt _ (by omega)
  rw[<-hq1d,<-hr1d]at hR;rw[<-hq1d]at hq1;rw[<-hq1d];have HQ1:=Lib.hid hq1d;have HR1:=Lib.hid hr1d;clear hq1d hr1d;have hr1w:=i_h (H:=r1) hYab.out (by omega) hd2;obtain⟨qb,rb,hqb,hqb2,hrb,hqr,e8,e9⟩:=i_i (H:=r1) (a:=a) (by omega) (by omega);rw[<-hqb]at hr1w;have HQ1':=Lib.hid hr1w;have HQR1:=Lib.hid hqr;clear hqb hr1w hqr;have ea:((a:Int)==0)=false:=by rw[beq_eq_false_iff_ne];omega
  go_upto_block 2 with fail
  clear e8 e9 hR ea;go_cut [18] (fun v wx=>v= .int .u64 (((r1*4294967296+d) / Y:Nat):Int)/\wx=wc)
  case first=>
   go_wp2_with fail
   go_loopg [18,16] qb (fun g s15 s16 wx=>wx=wc/\DvRel r1 a d Y g s15 s16)
   case atStart=>exact⟨rfl,rb,rfl,rfl,HQ1'.out,HQR1.out,by omega⟩
   case round=>
    obtain⟨rfl,rh,rfl,rfl,hq,hr,hw⟩:=hrel;have hgb:gk<18446744073709551616:=by
     have:=Nat.le_mul_of_pos_right gk (show 0<a by omega);omega
    have HQ:=Lib.hid hq;have HR:=Lib.hid hr;clear hq hr;by_cases hgo:4294967296<=gk\/4294967296*rh+d<gk*b
    ·have hg1:=k_2 hYab.out hr1 hd2 HR.out HQ.out hgo;obtain⟨g',hg'⟩:∃g',gk=g'+1:=⟨gk - 1,(Nat.succ_pred_eq_of_pos (Nat.lt_of_lt_of_le (Nat.succ_pos _) hg1)).symm⟩;have hr2:g'*a+(rh+a)=r1:=by have:=HR.out;rw[hg',Nat.add_mul,Nat.one_mul]at this;omega
     have HG:=Lib.hid (show(r1*4294967296+d) / Y<=g' from Nat.le_of_succ_le_succ (Nat.le_trans hg1 (Nat.le_of_eq hg')));have HR2:=Lib.hid hr2;have HL:=Lib.hid (show g'<gk by omega);have e1:IntKind.u64.wrap ((gk:Int) - 1)=(g':Int):=by rw[IntKind.wrap_u64];omega
     have e0:(g':Int)<18446744073709551616:=by omega
     clear hg1 hr2 hg';by_cases hA:4294967296<=gk
     ·have z1:(4294967296:Int)<=(gk:Int):=by omega
      clear hgo hA;by_cases hB:4294967296<=rh+a
      ·have z2:(4294967296:Int)<=(rh:Int)+(a:Int):=by omega
       clear hB
       go_wp2_with fail
       go_meet
       exact⟨by rw[d_s hYab.out hr1 HR2.out HG.out (d_8 hYab.out hb2 hr1 HR2.out (by omega))],rfl⟩
      ·have z2:¬((4294967296:Int)<=(rh:Int)+(a:Int)):=by omega
       clear hB
       go_wp2_with fail
       go_roundg g'
       case rel=>exact⟨rfl,rh+a,rfl,by go_num,HG.out,HR2.out,by omega⟩
       case measure=>exact HL.out
     ·have z1:¬((4294967296:Int)<=(gk:Int)):=by omega
      have hgo':4294967296*rh+d<gk*b:=by omega
      have hm:gk*b<18446744073709551616:=by
       have:gk*b<=4294967296*b:=Nat.mul_le_mul_right _ (by omega);omega
      obtain⟨p,hp⟩:∃p,p=gk*b:=⟨_,rfl⟩;rw[<-hp]at hgo' hm;have e3:IntKind.u64.wrap ((gk:Int)*(b:Int))=(p:Int):=by rw[<-Int.natCast_mul,<-hp,IntKind.wrap_u64];omega
      have z3:4294967296*(rh:Int)+(d:Int)<(p:Int):=by omega
      clear hgo hgo' hA hp;by_cases hB:4294967296<=rh+a
      ·have z2:(4294967296:Int)<=(rh:Int)+(a:Int):=by omega
       clear hB
       go_wp2_with fail
       go_meet
       exact⟨by rw[d_s hYab.out hr1 HR2.out HG.out (d_8 hYab.out hb2 hr1 HR2.out (by omega))],rfl⟩
      ·have z2:¬((4294967296:Int)<=(rh:Int)+(a:Int)):=by omega
       clear hB
       go_wp2_with fail
       go_roundg g'
       case rel=>exact⟨rfl,rh+a,rfl,by go_num,HG.out,HR2.out,by omega⟩
       case measure=>exact HL.out
    ·have z1:¬((4294967296:Int)<=(gk:Int)):=by omega
     have hgo':¬(4294967296*rh+d<gk*b):=by omega
     have hm:gk*b<18446744073709551616:=by
      have:gk*b<=4294967296*b:=Nat.mul_le_mul_right _ (by omega);omega
     obtain⟨p,hp⟩:∃p,p=gk*b:=⟨_,rfl⟩;have HF:=Lib.hid (d_s hYab.out hr1 HR.out HQ.out (show gk*b<=4294967296*rh+d by omega));rw[<-hp]at hgo' hm;have e3:IntKind.u64.wrap ((gk:Int)*(b:Int))=(p:Int):=by rw[<-Int.natCast_mul,<-hp,IntKind.wrap_u64];omega
     have z3:¬(4294967296*(rh:Int)+(d:Int)<(p:Int)):=by omega
     clear hgo hgo' hp
     go_wp2_with fail
     go_meet
     exact⟨by rw[<-HF.out],rfl⟩
  case rest=>
   obtain⟨rfl,rfl⟩:=hcut;have hR0:=k_1 r1 d Y (by omega) hY2;have hq0:(r1*4294967296+d) / Y<4294967296:=(Nat.div_lt_iff_lt_mul (by omega)).2 (by omega);have hr0:(r1*4294967296+d)%Y<Y:=Nat.mod_lt _ (by omega);have hfin:=m_x (hi:=hi) (lo:=lo) (y:=y) HYd.out (by omega) HHL.out hLcd.out HQ1.out HR1.out;obtain⟨q0,hq0d⟩:∃q0,q0=(r1*4294967296+d) / Y:=⟨_,rfl⟩;obtain⟨r0,hr0d⟩:∃r0,r0=(r1*4294967296+d)%Y:=⟨_,rfl⟩;rw[<-hq0d,<-hr0d]at hR0 hfin;rw[<-hq0d]at hq0;rw[<-hr0d]at hr0;rw[<-hq0d];have HFIN:=Lib.hid hfin;have e9:(r0:Int) / 2^s=((r0 / 2^s:Nat):Int):=by rw[Int.natCast_ediv,Int.natCast_pow];rfl
   clear hq0d hr0d hfin;have E9:=Lib.hid e9;clear e9
   go_wp2_with fail
   go_ret2
   exact⟨j_2 (by have:=HFIN.out.1;omega) (by rw[E9.out,HFIN.out.2]),Sees.refl _⟩
theorem j_b (lo y:Nat)(h1:0<y)(hlo:lo<18446744073709551616)(hy:y<18446744073709551616)(w:World):
  Calls Try.prog 112 #[.int .u64 0,.int .u64 lo,.int .u64 y] w fun e w'=>e= .returned (.tuple #[.int .u64 ((lo / y:Nat):Int),.int .u64 ((lo%y:Nat):Int)])/\Sees w w':=by
 have t1:((y:Int)==0)=false:=by rw[beq_eq_false_iff_ne];omega
 have t3:¬(y=0):=by omega
 have t4:¬(y<=0):=by omega
 have h2:lo / y<=lo:=Nat.div_le_self _ _;have h3:=Nat.mod_lt lo h1;have e1:(lo:Int) / (y:Int)=((lo / y:Nat):Int):=rfl;have e2:(lo:Int)%(y:Int)=((lo%y:Nat):Int):=rfl;obtain⟨q,hq⟩:∃q,q=lo / y:=⟨_,rfl⟩;obtain⟨r,hr⟩:∃r,r=lo%y:=⟨_,rfl⟩;rw[<-hq]at e1 h2;rw[<-hr]at e2 h3;rw[<-hq,<-hr];have e3:IntKind.u64.wrap (q:Int)=(q:Int):=by rw[IntKind.wrap_u64];omega
 have e4:IntKind.u64.wrap (r:Int)=(r:Int):=by rw[IntKind.wrap_u64];omega
 have e5:(lo:Int).tdiv (y:Int)=(q:Int):=by rw[<-e1];rfl
 have e6:(lo:Int).tmod (y:Int)=(r:Int):=by rw[<-e2];rfl
 clear hq hr h2 h3;go_enter Try.func112,Try.ntmps112
 go_wp2_with fail
 go_quiet (fail)
 go_wp2
 go_ret2
 exact⟨j_2 rfl rfl,⟨_,rfl⟩⟩
theorem e_s (hi lo y:Nat)(h1:hi<y)(hlo:lo<18446744073709551616)(hy:y<18446744073709551616)(w:World):
  Calls Try.prog 112 #[.int .u64 hi,.int .u64 lo,.int .u64 y] w fun e w'=>e= .returned (.tuple #[.int .u64 (((hi*18446744073709551616+lo) / y:Nat):Int),.int .u64 (((hi*18446744073709551616+lo)%y:Nat):Int)])/\Sees w w':=by
 rcases Nat.eq_zero_or_pos hi with rfl|h0
 ·have:=j_b lo y h1 hlo hy w;rw[Nat.zero_mul,Nat.zero_add];exact this
 ·exact k_5 hi lo y h1 hlo hy h0 w
end Go.Proofs.Ytlgjjnmmepgafaa
