/- Pc14 -/
import Derived.Test.YtfhbdlegkdbmfaaGreatPc13
import Derived.Deep.CutBlock
import Derived.Deep.DeepCutAuto
import Derived.Deep.LoopGhost
import Derived.Test.YtfhbdlegkdbmfaaGreatPc05
set_option linter.unusedVariables false
set_option linter.unusedSimpArgs false
set_option linter.unusedSectionVars false
set_option maxRecDepth 100000
set_option maxHeartbeats 8000000
namespace Go.Proofs.YtfhbdlegkdbmfaaGreat
section
namespace DT
variable {R C:Nat}{M N H K:Mx}{u v:Nat->Int}
def Som (R:Nat)(M:Mx)(k:Nat)(cols:Nat->Nat):Prop:=∃f,Inc k R f/\det k (fun i j=>M (f i) (cols j))≠0
theorem Som.of {S k:Nat}{d:Int}(hd:d≠0){X:Mx}{c:Nat->Nat}(h:∀i j,i<R->j<k->d*M i (c j)=sumN S fun l=>X i l*N l (c j))(hs:Som R M k c):Som S N k c:=by
 obtain⟨f,hf,hne⟩:=hs;refine Classical.byContradiction fun hn=>hne ?_;have h1:(0:Int)∣det k (mul S (fun i=>X (f i)) fun i j=>N i (c j)):=p_n _ _ (n_o (fun i j=>N i (c j)) fun f' hf'=>by
  rw[Classical.byContradiction fun h2=>hn ⟨f',hf',h2⟩];exact Int.dvd_refl 0)
 have h2:det k (mul S (fun i=>X (f i)) fun i j=>N i (c j))=0:=Int.zero_dvd.mp h1;rw[<-det_ext (M:=fun i j=>d*M (f i) (c j)) (N:=mul S (fun i=>X (f i)) fun i j=>N i (c j)) fun i j hi hj=>h (f i) j (hf.lt i hi) hj,l_h]at h2;exact(Int.mul_eq_zero.mp h2).resolve_left (n_z hd k)
end DT
end
section
open Go.RowKit
theorem d_h (x:Nat)(hx:x<18446744073709551616)(w:World):
  Calls Tryz.prog 202 #[.int .u64 x] w fun e w'=>e= .returned (.int .i64 ((64 - bl x:Nat):Int))/\w=w':=by
 have hb:bl x<=64:=bl_le.2 (by omega);have e:(((64 - bl x:Nat):Int))=64 - (bl x:Int):=by omega
 have E:=Lib.hid e;clear e;go_enter Tryz.func202,Tryz.ntmps202
 go_wp2_with fail
 refine(e_l _ hx _).mono ?_;rintro e w' ⟨rfl,rfl⟩
 go_wp2
 go_ret
 exact⟨by rw[E.out];rfl,rfl⟩
theorem i_r {H a b c Y:Nat}(hY:Y=a*4294967296+b)(ha:0<a)(hc:c<4294967296):(H*4294967296+c) / Y<=H / a:=by
 have h1:=Nat.div_mul_le_self (H*4294967296+c) Y;generalize(H*4294967296+c) / Y=q at *;refine(Nat.le_div_iff_mul_le ha).2 ?_;have h2:q*Y=q*a*4294967296+q*b:=by rw[hY,Nat.mul_add,Nat.mul_assoc]
 generalize q*a=p at *;generalize q*b=r at *;omega
theorem l_d {H a b c Y q rh:Nat}(hY:Y=a*4294967296+b)(hH:H<Y)(hc:c<4294967296)(h:q*a+rh=H)(hq:(H*4294967296+c) / Y<=q)
  (hm:4294967296<=q\/4294967296*rh+c<q*b):(H*4294967296+c) / Y+1<=q:=by
 rcases hm with hm|hm
 ·have h2:(H*4294967296+c) / Y<4294967296:=(Nat.div_lt_iff_lt_mul (by omega)).2 (by omega);omega
 ·rcases Nat.lt_or_ge ((H*4294967296+c) / Y) q with h3|h3
  ·exact h3
  ·have e:(H*4294967296+c) / Y=q:=by omega
   have h1:=Nat.div_mul_le_self (H*4294967296+c) Y;rw[e]at h1;have h2:q*Y=q*a*4294967296+q*b:=by rw[hY,Nat.mul_add,Nat.mul_assoc]
   generalize q*a=p at *;generalize q*b=r at *;omega
theorem d_l {H a b c Y q rh:Nat}(hY:Y=a*4294967296+b)(hH:H<Y)(h:q*a+rh=H)(hq:(H*4294967296+c) / Y<=q)
  (hm:q*b<=4294967296*rh+c):q=(H*4294967296+c) / Y:=by
 refine Nat.le_antisymm ?_ hq;refine(Nat.le_div_iff_mul_le (by omega)).2 ?_;have h2:q*Y=q*a*4294967296+q*b:=by rw[hY,Nat.mul_add,Nat.mul_assoc]
 generalize q*a=p at *;generalize q*b=r at *;omega
theorem d_2 {H a b c Y q rh:Nat}(hY:Y=a*4294967296+b)(hb:b<4294967296)(hH:H<Y)(h:q*a+rh=H)(hr:4294967296<=rh):q*b<=4294967296*rh+c:=by
 have h1:q<4294967296:=by
  rcases Nat.lt_or_ge q 4294967296 with h1|h1
  ·exact h1
  ·have:=Nat.mul_le_mul_right a h1;generalize q*a=p at *;omega
 have h2:q*b<=4294967296*b:=Nat.mul_le_mul_right _ (by omega);omega
theorem l_c (H c Y:Nat)(hY:0<Y)(hB:Y<18446744073709551616):
  IntKind.u64.wrap (IntKind.u64.wrap (IntKind.u64.wrap ((H:Int)*4294967296)+(c:Int)) - IntKind.u64.wrap ((((H*4294967296+c) / Y:Nat):Int)*(Y:Int)))=(((H*4294967296+c)%Y:Nat):Int):=by
 have h1:=Nat.div_add_mod (H*4294967296+c) Y;have h2:=Nat.mod_lt (H*4294967296+c) hY;rw[Nat.mul_comm]at h1;rw[<-Int.natCast_mul];generalize(H*4294967296+c) / Y*Y=t at *;generalize(H*4294967296+c)%Y=r at *;simp only[IntKind.wrap_u64];omega
theorem r_0 {hi lo y:Nat}(h1:hi<y)(hlo:lo<18446744073709551616)(hy:y<18446744073709551616):
  ∃s Y H L:Nat,s=64 - bl y/\s<64/\Y=y*2^s/\9223372036854775808<=Y/\Y<18446744073709551616/\H<Y/\L<18446744073709551616/\H*18446744073709551616+L=(hi*18446744073709551616+lo)*2^s/\
   IntKind.u64.wrap ((y:Int)*2^s)=(Y:Int)/\IntKind.u64.wrap ((lo:Int)*2^s)=(L:Int)/\
   bits .or .u64 (IntKind.u64.wrap ((hi:Int)*2^s)) ((lo:Int) / 2^(64 - s))=(H:Int):=by
 have hb:bl y<=64:=bl_le.2 (by omega);have hb0:0<bl y:=bl_lt.2 (by simp;omega);have hlow:=bl_lt.1 (show bl y - 1<bl y by omega);have hhigh:=bl_le.1 (Nat.le_refl (bl y));have hlow':2^(bl y - 1)<=y:=by
  rcases Nat.lt_or_ge y (2^(bl y - 1))with h|h
  ·rw[Nat.div_eq_of_lt h]at hlow;omega
  ·exact h
 obtain⟨s,hs⟩:∃s,s=64 - bl y:=⟨_,rfl⟩;have hs64:s<64:=by omega
 have hp:0<2^s:=Nat.pow_pos (by omega);have hY1:y*2^s<18446744073709551616:=by
  have e:(18446744073709551616:Nat)=2^bl y*2^s:=by rw[<-Nat.pow_add,show bl y+s=64 from by omega]
  rw[e];exact Nat.mul_lt_mul_of_pos_right hhigh hp
 have hY2:9223372036854775808<=y*2^s:=by
  have e:(9223372036854775808:Nat)=2^(bl y - 1)*2^s:=by rw[<-Nat.pow_add,show bl y - 1+s=63 from by omega]
  rw[e];exact Nat.mul_le_mul_right _ hlow'
 obtain⟨_,_,g3,g4⟩:=d_9 (x:=lo) (u:=s) (c:=0) hlo hs64 hp;obtain⟨_,k2,k3,k4⟩:=d_9 (x:=hi) (u:=s) (c:=lo / 2^(64 - s)) (by omega) hs64 g3;have hv:=f_e (x:=hi) (u:=s) (c:=lo / 2^(64 - s)) (by omega) hs64 g3;have hhi:hi*2^s+2^s<=y*2^s:=by
  have:=Nat.mul_le_mul_right (2^s) (show hi+1<=y from h1);rw[Nat.add_mul,Nat.one_mul]at this;exact this
 have hmod:hi*2^s%18446744073709551616=hi*2^s:=Nat.mod_eq_of_lt (by omega);have w1:∀z:Nat,IntKind.u64.wrap ((z:Int)*2^s)=(((z*2^s)%18446744073709551616:Nat):Int):=fun z=>by
  rw[IntKind.wrap_u64,Int.natCast_emod,Int.natCast_mul,Int.natCast_pow];rfl
 have hd:((lo:Int) / 2^(64 - s))=((lo / 2^(64 - s):Nat):Int):=d_m lo s;refine⟨s,y*2^s,hi*2^s+lo / 2^(64 - s),lo*2^s%18446744073709551616,hs,hs64,rfl,hY2,hY1,by omega,Nat.mod_lt _ (by omega), ?_, ?_,w1 lo, ?_⟩
 ·rw[Nat.add_mul,Nat.add_mul];have e1:hi*18446744073709551616*2^s=hi*2^s*18446744073709551616:=by rw[Nat.mul_assoc,Nat.mul_comm 18446744073709551616,<-Nat.mul_assoc]
  rw[e1];omega
 ·rw[w1,Nat.mod_eq_of_lt hY1]
 ·rw[hd,hv,hmod]
theorem i_y (x:Nat)(hx:x<18446744073709551616):bits .and .u64 (x:Int) 4294967295=((x%4294967296:Nat):Int):=by
 have h5:=(bits_nat .u64 64 (by decide) (fun n h0 h1=>by rw[IntKind.wrap_u64];omega) x 4294967295 (by omega) (by omega)).1;refine Eq.trans h5 ?_;rw[show(4294967295:Nat)=2^32 - 1 from rfl,Nat.and_two_pow_sub_one_eq_mod]
theorem i_s {H a:Nat}(hH:H<18446744073709551616)(ha:0<a):
  ∃q r:Nat,q=H / a/\q<18446744073709551616/\r<a/\q*a+r=H/\(H:Int) / (a:Int)=(q:Int)/\IntKind.u64.wrap ((H:Int) - IntKind.u64.wrap ((q:Int)*(a:Int)))=(r:Int):=by
 have h1:=Nat.div_add_mod H a;have h2:=Nat.mod_lt H ha;have h3:H / a<=H:=Nat.div_le_self _ _;refine⟨H / a,H%a,rfl,by omega,h2,by rw[Nat.mul_comm];exact h1,rfl, ?_⟩;rw[<-Int.natCast_mul];rw[Nat.mul_comm]at h1;simp only[IntKind.wrap_u64];generalize H / a*a=t at *;generalize H%a=r at *;omega
theorem n_d {hi lo y s Y H L c d q1 r1:Nat}(hY:Y=y*2^s)(hy:0<Y)(hHL:H*18446744073709551616+L=(hi*18446744073709551616+lo)*2^s)(hL:L=c*4294967296+d)
  (hq:q1=(H*4294967296+c) / Y) (hr:r1=(H*4294967296+c)%Y):
  q1*4294967296+(r1*4294967296+d) / Y=(hi*18446744073709551616+lo) / y/\(r1*4294967296+d)%Y / 2^s=(hi*18446744073709551616+lo)%y:=by
 have hp:0<2^s:=Nat.pow_pos (by omega);have h1:=Nat.div_add_mod (H*4294967296+c) Y;rw[<-hq,<-hr]at h1;have h2:H*18446744073709551616+L=(r1*4294967296+d)+Y*(q1*4294967296):=by
  rw[hL,<-Nat.mul_assoc];generalize Y*q1=t at *;omega
 have h3:(hi*18446744073709551616+lo) / y=((hi*18446744073709551616+lo)*2^s) / Y:=by rw[hY,Nat.mul_div_mul_right _ _ hp]
 have h4:(hi*18446744073709551616+lo)%y*2^s=((hi*18446744073709551616+lo)*2^s)%Y:=by rw[hY,Nat.mul_mod_mul_right]
 rw[<-hHL,h2]at h3 h4;rw[Nat.add_mul_div_left _ _ hy]at h3;rw[Nat.add_mul_mod_self_left]at h4;refine⟨by rw[h3,Nat.add_comm], ?_⟩;rw[<-h4,Nat.mul_div_cancel _ hp]
theorem k_m {k l:IntKind}{a b c d:Int}(h:a=b)(h':c=d):Ending.returned (.tuple #[.int k a,.int l c])= .returned (.tuple #[.int k b,.int l d]):=by rw[h,h']
def DvRel (H a c Y g:Nat)(s15 s16:Value):Prop:=
 ∃rh:Nat,s15= .int .u64 (g:Int)/\s16= .int .u64 (rh:Int)/\(H*4294967296+c) / Y<=g/\g*a+rh=H/\rh<4294967296
theorem l_g (hi lo y:Nat)(h1:hi<y)(hlo:lo<18446744073709551616)(hy:y<18446744073709551616)(h0:0<hi)(w:World):
  Calls Tryz.prog 186 #[.int .u64 hi,.int .u64 lo,.int .u64 y] w fun e w'=>e= .returned (.tuple #[.int .u64 (((hi*18446744073709551616+lo) / y:Nat):Int),.int .u64 (((hi*18446744073709551616+lo)%y:Nat):Int)])/\Sees w w':=by
 have t1:((y:Int)==0)=false:=by rw[beq_eq_false_iff_ne];omega
 have t2:((hi:Int)==0)=false:=by rw[beq_eq_false_iff_ne];omega
 have t3:¬(y<=hi):=by omega
 obtain⟨s,Y,H,L,hs,hs64,hYd,hY1,hY2,hHY,hL,hHL,e1,e5,e4⟩:=r_0 h1 hlo hy;have HS:=Lib.hid hs;have HYd:=Lib.hid hYd;have HHL:=Lib.hid hHL;have hl1:s<=64:=by omega
 clear hYd hHL;go_enter Tryz.func186,Tryz.ntmps186
 go_wp2_with fail
 refine(d_h _ hy _).mono ?_;rintro e w' ⟨rfl,rfl⟩;rw[<-hs];clear hs t1 t2 t3;obtain⟨a,ha⟩:∃a,a=Y / 4294967296:=⟨_,rfl⟩;obtain⟨b,hb⟩:∃b,b=Y%4294967296:=⟨_,rfl⟩;obtain⟨c,hc⟩:∃c,c=L / 4294967296:=⟨_,rfl⟩;obtain⟨d,hd⟩:∃d,d=L%4294967296:=⟨_,rfl⟩;have hYab:=Lib.hid (show Y=a*4294967296+b by omega);have hLcd:=Lib.hid (show L=c*4294967296+d by omega);have ha1:2147483648<=a:=by omega
 have ha2:a<4294967296:=by omega
 have hb2:b<4294967296:=by omega
 have hc2:c<4294967296:=by omega
 have hd2:d<4294967296:=by omega
 have e2:(Y:Int) / 4294967296=(a:Int):=by omega
 have e3:bits .and .u64 (Y:Int) 4294967295=(b:Int):=by rw[i_y Y hY2,hb]
 have e6:(L:Int) / 4294967296=(c:Int):=by omega
 have e7:bits .and .u64 (L:Int) 4294967295=(d:Int):=by rw[i_y L hL,hd]
 clear ha hb hc hd;have hq0:=i_r (H:=H) hYab.out (by omega) hc2;obtain⟨qa,ra,hqa,hqa2,hra,hqr,e8,e9⟩:=i_s (H:=H) (a:=a) (by omega) (by omega);rw[<-hqa]at hq0;have HQ0:=Lib.hid hq0;have HQR:=Lib.hid hqr;clear hqa hq0 hqr;have ea:((a:Int)==0)=false:=by rw[beq_eq_false_iff_ne];omega
 have ea':¬(a=0):=by omega
 have eh:0<=(H:Int):=by omega
 go_upto_block 0 with fail
 clear e1 e2 e3 e4 e5 e6 e7 e8 e9 ea eh;go_cut [15] (fun v wx=>v= .int .u64 (((H*4294967296+c) / Y:Nat):Int)/\wx=w)
 case first=>
  go_wp2_with fail
  go_loopg [15,16] qa (fun g s15 s16 wx=>wx=w/\DvRel H a c Y g s15 s16)
  case atStart=>exact⟨rfl,ra,rfl,rfl,HQ0.out,HQR.out,by omega⟩
  case round=>
   obtain⟨rfl,rh,rfl,rfl,hq,hr,hw⟩:=hrel;have hgb:gk<18446744073709551616:=by
    have:=Nat.le_mul_of_pos_right gk (show 0<a by omega);omega
   have HQ:=Lib.hid hq;have HR:=Lib.hid hr;clear hq hr;by_cases hgo:4294967296<=gk\/4294967296*rh+c<gk*b
   ·have hg1:=l_d hYab.out hHY hc2 HR.out HQ.out hgo;obtain⟨g',hg'⟩:∃g',gk=g'+1:=⟨gk - 1,(Nat.succ_pred_eq_of_pos (Nat.lt_of_lt_of_le (Nat.succ_pos _) hg1)).symm⟩;have hr2:g'*a+(rh+a)=H:=by have:=HR.out;rw[hg',Nat.add_mul,Nat.one_mul]at this;omega
    have HG:=Lib.hid (show(H*4294967296+c) / Y<=g' from Nat.le_of_succ_le_succ (Nat.le_trans hg1 (Nat.le_of_eq hg')));have HR2:=Lib.hid hr2;have HL:=Lib.hid (show g'<gk by omega);have e1:IntKind.u64.wrap ((gk:Int) - 1)=(g':Int):=by rw[IntKind.wrap_u64];omega
    have e0:(g':Int)<18446744073709551616:=by omega
    clear hg1 hr2 hg';by_cases hA:4294967296<=gk
    ·have z1:(4294967296:Int)<=(gk:Int):=by omega
     clear hgo hA;by_cases hB:4294967296<=rh+a
     ·have z2:(4294967296:Int)<=(rh:Int)+(a:Int):=by omega
      clear hB
      go_wp2_with fail
      go_meet
      exact⟨by rw[d_l hYab.out hHY HR2.out HG.out (d_2 hYab.out hb2 hHY HR2.out (by omega))],rfl⟩
     ·have z2:¬((4294967296:Int)<=(rh:Int)+(a:Int)):=by omega
      clear hB
      go_wp2_with fail
      go_roundg g'
      case rel=>exact⟨rfl,rh+a,rfl,by go_num,HG.out,HR2.out,by omega⟩
      case measure=>exact HL.out
    ·have z1:¬((4294967296:Int)<=(gk:Int)):=by omega
     have hgo':4294967296*rh+c<gk*b:=by omega
     have hm:gk*b<18446744073709551616:=by
      have:gk*b<=4294967296*b:=Nat.mul_le_mul_right _ (by omega);omega
     obtain⟨p,hp⟩:∃p,p=gk*b:=⟨_,rfl⟩;rw[<-hp]at hgo' hm;have e3:IntKind.u64.wrap ((gk:Int)*(b:Int))=(p:Int):=by rw[<-Int.natCast_mul,<-hp,IntKind.wrap_u64];omega
     have z3:4294967296*(rh:Int)+(c:Int)<(p:Int):=by omega
     clear hgo hgo' hA hp;by_cases hB:4294967296<=rh+a
     ·have z2:(4294967296:Int)<=(rh:Int)+(a:Int):=by omega
      clear hB
      go_wp2_with fail
      go_meet
      exact⟨by rw[d_l hYab.out hHY HR2.out HG.out (d_2 hYab.out hb2 hHY HR2.out (by omega))],rfl⟩
     ·have z2:¬((4294967296:Int)<=(rh:Int)+(a:Int)):=by omega
      clear hB
      go_wp2_with fail
      go_roundg g'
      case rel=>exact⟨rfl,rh+a,rfl,by go_num,HG.out,HR2.out,by omega⟩
      case measure=>exact HL.out
   ·have z1:¬((4294967296:Int)<=(gk:Int)):=by omega
    have hgo':¬(4294967296*rh+c<gk*b):=by omega
    have hm:gk*b<18446744073709551616:=by
     have:gk*b<=4294967296*b:=Nat.mul_le_mul_right _ (by omega);omega
    obtain⟨p,hp⟩:∃p,p=gk*b:=⟨_,rfl⟩;have HF:=Lib.hid (d_l hYab.out hHY HR.out HQ.out (show gk*b<=4294967296*rh+c by omega));rw[<-hp]at hgo' hm;have e3:IntKind.u64.wrap ((gk:Int)*(b:Int))=(p:Int):=by rw[<-Int.natCast_mul,<-hp,IntKind.wrap_u64];omega
    have z3:¬(4294967296*(rh:Int)+(c:Int)<(p:Int)):=by omega
    clear hgo hgo' hp
    go_wp2_with fail
    go_meet
    exact⟨by rw[<-HF.out],rfl⟩
 case rest=>
  obtain⟨rfl,rfl⟩:=hcut;have hR:=l_c H c Y (by omega) hY2;have hq1:(H*4294967296+c) / Y<4294967296:=(Nat.div_lt_iff_lt_mul (by omega)).2 (by omega);obtain⟨q1,hq1d⟩:∃q1,q1=(H*4294967296+c) / Y:=⟨_,rfl⟩;obtain⟨r1,hr1d⟩:∃r1,r1=(H*4294967296+c)%Y:=⟨_,rfl⟩;have hr1:r1<Y:=by rw[hr1d];exact Nat.mod_lt _ (by omega)
  rw[<-hq1d,<-hr1d]at hR;rw[<-hq1d]at hq1;rw[<-hq1d];have HQ1:=Lib.hid hq1d;have HR1:=Lib.hid hr1d;clear hq1d hr1d;have hr1w:=i_r (H:=r1) hYab.out (by omega) hd2;obtain⟨qb,rb,hqb,hqb2,hrb,hqr,e8,e9⟩:=i_s (H:=r1) (a:=a) (by omega) (by omega);rw[<-hqb]at hr1w;have HQ1':=Lib.hid hr1w;have HQR1:=Lib.hid hqr;clear hqb hr1w hqr;have ea:((a:Int)==0)=false:=by rw[beq_eq_false_iff_ne];omega
  go_upto_block 2 with fail
  clear e8 e9 hR ea;go_cut [18] (fun v wx=>v= .int .u64 (((r1*4294967296+d) / Y:Nat):Int)/\wx=wc)
  case first=>
   go_wp2_with fail
   go_loopg [18,16] qb (fun g s15 s16 wx=>wx=wc/\DvRel r1 a d Y g s15 s16)
   case atStart=>exact⟨rfl,rb,rfl,rfl,HQ1'.out,HQR1.out,by omega⟩
   case round=>
    obtain⟨rfl,rh,rfl,rfl,hq,hr,hw⟩:=hrel;have hgb:gk<18446744073709551616:=by
     have:=Nat.le_mul_of_pos_right gk (show 0<a by omega);omega
    have HQ:=Lib.hid hq;have HR:=Lib.hid hr;clear hq hr;by_cases hgo:4294967296<=gk\/4294967296*rh+d<gk*b
    ·have hg1:=l_d hYab.out hr1 hd2 HR.out HQ.out hgo;obtain⟨g',hg'⟩:∃g',gk=g'+1:=⟨gk - 1,(Nat.succ_pred_eq_of_pos (Nat.lt_of_lt_of_le (Nat.succ_pos _) hg1)).symm⟩;have hr2:g'*a+(rh+a)=r1:=by have:=HR.out;rw[hg',Nat.add_mul,Nat.one_mul]at this;omega
     have HG:=Lib.hid (show(r1*4294967296+d) / Y<=g' from Nat.le_of_succ_le_succ (Nat.le_trans hg1 (Nat.le_of_eq hg')));have HR2:=Lib.hid hr2;have HL:=Lib.hid (show g'<gk by omega);have e1:IntKind.u64.wrap ((gk:Int) - 1)=(g':Int):=by rw[IntKind.wrap_u64];omega
     have e0:(g':Int)<18446744073709551616:=by omega
     clear hg1 hr2 hg';by_cases hA:4294967296<=gk
     ·have z1:(4294967296:Int)<=(gk:Int):=by omega
      clear hgo hA;by_cases hB:4294967296<=rh+a
      ·have z2:(4294967296:Int)<=(rh:Int)+(a:Int):=by omega
       clear hB
       go_wp2_with fail
       go_meet
       exact⟨by rw[d_l hYab.out hr1 HR2.out HG.out (d_2 hYab.out hb2 hr1 HR2.out (by omega))],rfl⟩
      ·have z2:¬((4294967296:Int)<=(rh:Int)+(a:Int)):=by omega
       clear hB
       go_wp2_with fail
       go_roundg g'
       case rel=>exact⟨rfl,rh+a,rfl,by go_num,HG.out,HR2.out,by omega⟩
       case measure=>exact HL.out
     ·have z1:¬((4294967296:Int)<=(gk:Int)):=by omega
      have hgo':4294967296*rh+d<gk*b:=by omega
      have hm:gk*b<18446744073709551616:=by
       have:gk*b<=4294967296*b:=Nat.mul_le_mul_right _ (by omega);omega
      obtain⟨p,hp⟩:∃p,p=gk*b:=⟨_,rfl⟩;rw[<-hp]at hgo' hm;have e3:IntKind.u64.wrap ((gk:Int)*(b:Int))=(p:Int):=by rw[<-Int.natCast_mul,<-hp,IntKind.wrap_u64];omega
      have z3:4294967296*(rh:Int)+(d:Int)<(p:Int):=by omega
      clear hgo hgo' hA hp;by_cases hB:4294967296<=rh+a
      ·have z2:(4294967296:Int)<=(rh:Int)+(a:Int):=by omega
       clear hB
       go_wp2_with fail
       go_meet
       exact⟨by rw[d_l hYab.out hr1 HR2.out HG.out (d_2 hYab.out hb2 hr1 HR2.out (by omega))],rfl⟩
      ·have z2:¬((4294967296:Int)<=(rh:Int)+(a:Int)):=by omega
       clear hB
       go_wp2_with fail
       go_roundg g'
       case rel=>exact⟨rfl,rh+a,rfl,by go_num,HG.out,HR2.out,by omega⟩
       case measure=>exact HL.out
    ·have z1:¬((4294967296:Int)<=(gk:Int)):=by omega
     have hgo':¬(4294967296*rh+d<gk*b):=by omega
     have hm:gk*b<18446744073709551616:=by
      have:gk*b<=4294967296*b:=Nat.mul_le_mul_right _ (by omega);omega
     obtain⟨p,hp⟩:∃p,p=gk*b:=⟨_,rfl⟩;have HF:=Lib.hid (d_l hYab.out hr1 HR.out HQ.out (show gk*b<=4294967296*rh+d by omega));rw[<-hp]at hgo' hm;have e3:IntKind.u64.wrap ((gk:Int)*(b:Int))=(p:Int):=by rw[<-Int.natCast_mul,<-hp,IntKind.wrap_u64];omega
     have z3:¬(4294967296*(rh:Int)+(d:Int)<(p:Int)):=by omega
     clear hgo hgo' hp
     go_wp2_with fail
     go_meet
     exact⟨by rw[<-HF.out],rfl⟩
  case rest=>
   obtain⟨rfl,rfl⟩:=hcut;have hR0:=l_c r1 d Y (by omega) hY2;have hq0:(r1*4294967296+d) / Y<4294967296:=(Nat.div_lt_iff_lt_mul (by omega)).2 (by omega);have hr0:(r1*4294967296+d)%Y<Y:=Nat.mod_lt _ (by omega);have hfin:=n_d (hi:=hi) (lo:=lo) (y:=y) HYd.out (by omega) HHL.out hLcd.out HQ1.out HR1.out;obtain⟨q0,hq0d⟩:∃q0,q0=(r1*4294967296+d) / Y:=⟨_,rfl⟩;obtain⟨r0,hr0d⟩:∃r0,r0=(r1*4294967296+d)%Y:=⟨_,rfl⟩;rw[<-hq0d,<-hr0d]at hR0 hfin;rw[<-hq0d]at hq0;rw[<-hr0d]at hr0;rw[<-hq0d];have HFIN:=Lib.hid hfin;have e9:(r0:Int) / 2^s=((r0 / 2^s:Nat):Int):=by rw[Int.natCast_ediv,Int.natCast_pow];rfl
   clear hq0d hr0d hfin;have E9:=Lib.hid e9;clear e9
   go_wp2_with fail
   go_ret2
   exact⟨k_m (by have:=HFIN.out.1;omega) (by rw[E9.out,HFIN.out.2]),Sees.refl _⟩
theorem j_f (lo y:Nat)(h1:0<y)(hlo:lo<18446744073709551616)(hy:y<18446744073709551616)(w:World):
  Calls Tryz.prog 186 #[.int .u64 0,.int .u64 lo,.int .u64 y] w fun e w'=>e= .returned (.tuple #[.int .u64 ((lo / y:Nat):Int),.int .u64 ((lo%y:Nat):Int)])/\Sees w w':=by
 have t1:((y:Int)==0)=false:=by rw[beq_eq_false_iff_ne];omega
 have t3:¬(y=0):=by omega
 have t4:¬(y<=0):=by omega
 have h2:lo / y<=lo:=Nat.div_le_self _ _;have h3:=Nat.mod_lt lo h1;have e1:(lo:Int) / (y:Int)=((lo / y:Nat):Int):=rfl;have e2:(lo:Int)%(y:Int)=((lo%y:Nat):Int):=rfl;obtain⟨q,hq⟩:∃q,q=lo / y:=⟨_,rfl⟩;obtain⟨r,hr⟩:∃r,r=lo%y:=⟨_,rfl⟩;rw[<-hq]at e1 h2;rw[<-hr]at e2 h3;rw[<-hq,<-hr];have e3:IntKind.u64.wrap (q:Int)=(q:Int):=by rw[IntKind.wrap_u64];omega
 have e4:IntKind.u64.wrap (r:Int)=(r:Int):=by rw[IntKind.wrap_u64];omega
 have e5:(lo:Int).tdiv (y:Int)=(q:Int):=by rw[<-e1];rfl
 have e6:(lo:Int).tmod (y:Int)=(r:Int):=by rw[<-e2];rfl
 clear hq hr h2 h3;go_enter Tryz.func186,Tryz.ntmps186
 go_wp2_with fail
 go_quiet (fail)
 go_wp2
 go_ret2
 exact⟨k_m rfl rfl,⟨_,rfl⟩⟩
theorem e_q (hi lo y:Nat)(h1:hi<y)(hlo:lo<18446744073709551616)(hy:y<18446744073709551616)(w:World):
  Calls Tryz.prog 186 #[.int .u64 hi,.int .u64 lo,.int .u64 y] w fun e w'=>e= .returned (.tuple #[.int .u64 (((hi*18446744073709551616+lo) / y:Nat):Int),.int .u64 (((hi*18446744073709551616+lo)%y:Nat):Int)])/\Sees w w':=by
 rcases Nat.eq_zero_or_pos hi with rfl|h0
 ·have:=j_f lo y h1 hlo hy w;rw[Nat.zero_mul,Nat.zero_add];exact this
 ·exact l_g hi lo y h1 hlo hy h0 w
end
section
open Go.RowKit
theorem r_7 {xs:List Nat}(lx:Low 18446744073709551616 xs):(bl (ev 18446744073709551616 xs)+63) / 64=sl xs:=by
 rcases Nat.eq_zero_or_pos (sl xs)with h0|hpos
 ·rw[h0,d_b h0,bl_zero]
 ·obtain⟨l,hl⟩:∃l,sl xs=l+1:=⟨sl xs - 1,by omega⟩;have ht:=e_f hpos;rw[hl,Nat.add_sub_cancel]at ht;have u1:=lx.any (by omega) l;have b64:bl (nth xs l)<=64:=bl_le.2 (by simpa using u1);have b1:0<bl (nth xs l):=bl_lt.2 (by simp;omega);rw[h_8 hl,o_d (c_3 lx (by omega) l) (by omega),hl];omega
theorem a_s (A:Option Addr)(n c:Nat)(xs:List Nat)(w:World)(hx:Rd w .u64 A xs)(hxn:xs.length=n)(hc:n<=c)(hc':c<=9223372036854775807)(lx:Low 18446744073709551616 xs)(bn:n<=1099511627776):
  Calls Tryz.prog 149 #[.slice A n c] w fun e w'=>e= .returned (.slice A (sl xs) c)/\w=w':=by
 have sx:sl xs<=n:=hxn ▸ a_4 xs;have h1:=r_7 lx;obtain⟨B,hB⟩:∃B,B=bl (ev 18446744073709551616 xs):=⟨_,rfl⟩;rw[<-hB]at h1;have HB:=Lib.hid hB;have E1:=Lib.hid (show(B+64 - 1) / 64=sl xs by omega);have hB2:B<=70368744177664:=by omega
 have hB3:(B+64 - 1) / 64<=c:=by omega
 clear h1 hB;go_enter Tryz.func149,Tryz.ntmps149
 go_wp2_with fail
 refine(f_b _ _ _ xs _ hx hxn hc hc' lx bn).mono ?_;rintro e w' ⟨rfl,rfl⟩;rw[<-HB.out]
 go_wp2
 go_ret
 exact⟨by show Ending.returned (.slice A ((B+64 - 1) / 64) c)=_;rw[E1.out],rfl⟩
def Wording (b:Nat)(xs D:List Nat)(x k r:Nat):Prop:=
 k+D.length=xs.length/\Low b D/\r<x/\ev b (xs.drop k)=ev b D*x+r
theorem Wording.start {b:Nat}(xs:List Nat){x:Nat}(hx:0<x):Wording b xs [] x xs.length 0:=⟨by simp,Low.nil b,hx,by simp[ev]⟩
theorem Wording.step {b:Nat}{xs D:List Nat}{x k r:Nat}(lx:Low b xs)(hxb:x<=b)(h:Wording b xs D x (k+1) r):
  Wording b xs ((r*b+nth xs k) / x::D) x k ((r*b+nth xs k)%x):=by
 obtain⟨h1,h2,h3,h4⟩:=h;have hk:k<xs.length:=by omega
 have hxk:=lx k hk;have hq:(r*b+nth xs k) / x<b:=(Nat.div_lt_iff_lt_mul (by omega)).2 (by
  have h5:(r+1)*b<=x*b:=Nat.mul_le_mul_right _ h3;rw[Nat.add_mul,Nat.one_mul,Nat.mul_comm x b]at h5;omega)
 refine⟨by simp;omega,h2.cons hq,Nat.mod_lt _ (by omega), ?_⟩;have h6:=Nat.div_add_mod (r*b+nth xs k) x;rw[c_n hk,ev,h4,ev];generalize(r*b+nth xs k) / x=q at *;generalize(r*b+nth xs k)%x=s at *;grind
theorem Wording.stop {b:Nat}{xs D:List Nat}{x r:Nat}(h:Wording b xs D x 0 r):ev b D=ev b xs / x/\r=ev b xs%x:=by
 obtain⟨h1,h2,h3,h4⟩:=h;rw[List.drop_zero]at h4;rw[h4];constructor
 ·rw[Nat.mul_comm,Nat.mul_add_div (by omega),Nat.div_eq_of_lt h3,Nat.add_zero]
 ·rw[Nat.mul_comm,Nat.mul_add_mod,Nat.mod_eq_of_lt h3]
theorem i_a (D:List Nat)(k v:Nat):(List.replicate (k+1) 0++D).set k v=List.replicate k 0++(v::D):=by
 rw[List.set_append_left _ _ (by simp),List.replicate_succ',List.set_append_right _ _ (by simp)];simp
def BwPost (v x:Nat)(w:World)(e:Ending)(w':World):Prop:=
 ∃A c,e= .returned (.tuple #[.slice A (cn 18446744073709551616 (v / x)).length c,.int .u64 ((v%x:Nat):Int)])/\Got w w' 85 .u64 A c (cn 18446744073709551616 (v / x))
def BwRel (w:World)(xs:List Nat)(x k:Nat)(s:Value)(wr:World):Prop:=
 ∃(r:Nat) (D:List Nat),Wording 18446744073709551616 xs D x k r/\s= .int .u64 (r:Int)/\Blk wr w.heap.size 85 .u64 (List.replicate k 0++D)/\Below w.heap.size w wr
theorem BwRel.next {w wr:World}{xs D:List Nat}{x k r:Nat}(lx:Low 18446744073709551616 xs)(hx:x<18446744073709551616)(h:Wording 18446744073709551616 xs D x (k+1) r)
  (hb:Blk wr w.heap.size 85 .u64 (List.replicate (k+1) 0++D)) (hw:Below w.heap.size w wr) {q s:Nat} (hq:q=(r*18446744073709551616+nth xs k) / x) (hs:s=(r*18446744073709551616+nth xs k)%x):
  BwRel w xs x k (.int .u64 (s:Int)) (wr.setCell ⟨w.heap.size,k,none⟩ (.int .u64 (q:Int))):=by
 subst hq hs;have h2:=hb.set k ((r*18446744073709551616+nth xs k) / x);rw[i_a]at h2;exact⟨_,_,h.step lx (by omega),rfl,h2,hw.setCell (Nat.le_refl _) _⟩
theorem BwRel.stop {w wr:World}{xs D:List Nat}{x r:Nat}(h:Wording 18446744073709551616 xs D x 0 r)(hb:Blk wr w.heap.size 85 .u64 (List.replicate 0 0++D))(hw:Below w.heap.size w wr)(hm:xs.length<=9223372036854775807):
  BwPost (ev 18446744073709551616 xs) x w (.returned (.tuple #[.slice (some ⟨w.heap.size,0,none⟩) (sl D) D.length,.int .u64 (r:Int)])) wr:=by
 obtain⟨h1,h2⟩:=h.stop;have hg:=c_l (b:=18446744073709551616) (by omega) hb (Nat.le_refl _) hw (by have:=h.1;simp at this ⊢;omega) (by simpa using h.2.1);simp only[List.replicate_zero,List.nil_append]at hg;rw[h1]at hg;exact⟨_,_,by rw[h2,c_p _ (by omega) h.2.1,h1],hg⟩
theorem g_w (A:Option Addr)(n c:Nat)(xs:List Nat)(x:Nat)(w:World)(hr:Rd w .u64 A xs)(hn:xs.length=n)(bn:n<=1099511627776)(lx:Low 18446744073709551616 xs)(hx0:0<x)(hx:x<18446744073709551616):
  Calls Tryz.prog 154 #[.slice A n c,.int .u64 x] w (BwPost (ev 18446744073709551616 xs) x w):=by
 subst hn;go_enter Tryz.func154,Tryz.ntmps154
 go_wp2_with (at_make;refine a_e _ rfl _ _ 29 rfl 85 .u64 8 Tryz.underlying29 info_u64 _ _ _ _ xs.length rfl rfl (by omega) (by omega) (by omega) (by omega) ?_)
 intro w1 hb1 hw1 hz1;have HZ:=Lib.hid hz1;clear hz1
 go_wp2
 go_loopw [7,8] (fun s i wr=>∃k:Nat,k<=xs.length/\i= .int .i64 ((k:Int) - 1)/\BwRel w xs x k s wr) (fun _ i _=>(intOf i+1).toNat)
 case atStart=>exact⟨xs.length,Nat.le_refl _,rfl,0,[],Wording.start xs hx0,rfl,by simpa using hb1,hw1⟩
 case round=>
  obtain⟨k,hk,rfl,r,D,hd,rfl,hb,hw⟩:=hrel;rcases Nat.eq_zero_or_pos k with rfl|hpos
  ·have hl:D.length=xs.length:=by have:=hd.1;omega
   have hP:=BwRel.stop hd hb hw (by omega);have HP:=Lib.hid hP;have HD:=Lib.hid hd;have HL:=Lib.hid hl;clear hd hw hP hl;simp only[List.replicate_zero,List.nil_append]at hb
   go_wp2_with fail
   refine(a_s _ _ _ D _ hb.rd0 HL.out (by omega) (by omega) HD.out.2.1 (by omega)).mono ?_;rintro e w' ⟨rfl,rfl⟩
   go_wp2_with fail
   go_ret2
   have:=HP.out;rw[HL.out]at this;exact this
  ·obtain⟨i,rfl⟩:∃i,k=i+1:=⟨k - 1,by omega⟩;have hi:i<xs.length:=by omega
   obtain⟨ad,rfl,_,c1⟩:=(hr.below hw).at (k:=i) hi;rw[show(((i+1:Nat):Int) - 1)=(i:Int)from by omega];have HD:=Lib.hid hd;have hrx:r<x:=hd.2.2.1;have hxi:=lx i hi;clear hd
   go_wp2_with fail
   refine(e_q _ _ _ hrx hxi hx _).mono ?_;rintro e w' ⟨rfl,hs⟩;have hb2:=hb.below (hs.below _) hb.lt;have hw2:=hw.trans (hs.below _);have cs:=hb2.cell (j:=i) (by have:=HD.out.1;simp;omega);have cf:=hb2.free i;obtain⟨q,hq⟩:∃q,q=(r*18446744073709551616+nth xs i) / x:=⟨_,rfl⟩;obtain⟨s,hs'⟩:∃s,s=(r*18446744073709551616+nth xs i)%x:=⟨_,rfl⟩;rw[<-hq,<-hs'];have HQ:=Lib.hid hq;have HS:=Lib.hid hs';clear hq hs' hb hw hs c1
   go_wp2_with fail
   go_roundw
   case rel=>exact⟨i,by omega,rfl,BwRel.next lx hx HD.out hb2 hw2 HQ.out HS.out⟩
   case measure=>simp[intOf]
theorem g_b (x y:Nat)(hx:x<18446744073709551616)(hy:y<18446744073709551616):
  ∃s o:Nat,(∀w,(callFunc 187 #[.int .u64 x,.int .u64 y,.int .u64 0]).run Tryz.prog w= .ok (.value (.tuple #[.int .u64 (s:Int),.int .u64 (o:Int)])) w)/\
   s+y+0=x+18446744073709551616*o/\s<18446744073709551616/\o<=1:=
 b_z x y 0 hx hy (by omega)
theorem l_z (x c:Nat)(hx:x<18446744073709551616)(hc:c<=1):
  ∃s o:Nat,(∀w,(callFunc 179 #[.int .u64 x,.int .u64 0,.int .u64 c]).run Tryz.prog w= .ok (.value (.tuple #[.int .u64 (s:Int),.int .u64 (o:Int)])) w)/\
   s+18446744073709551616*o=x+0+c/\s<18446744073709551616/\o<=1:=
 d_q x 0 c hx (by omega) hc
def Taking (b:Nat)(zs xs us:List Nat)(x k c:Nat):Prop:=
 us.length=k/\Low b us/\c<b/\ev b us+pre b xs k*x=pre b zs k+b^k*c
theorem Taking.start {b:Nat}(hb:0<b)(zs xs:List Nat)(x:Nat):Taking b zs xs [] x 0 0:=⟨rfl,Low.nil b,hb,by simp[ev,a_0]⟩
theorem Taking.step {b:Nat}{zs xs us:List Nat}{x k c s c':Nat}(h:Taking b zs xs us x k c)(hs:s<b)(hc:c'<b)(he:s+nth xs k*x+c=nth zs k+b*c'):
  Taking b zs xs (us++[s]) x (k+1) c':=by
 obtain⟨h1,h2,h3,h4⟩:=h;refine⟨by simp[h1],h2.snoc hs,hc, ?_⟩;rw[b_g,a_c,a_c,h1,Nat.pow_succ];grind
theorem Taking.stop {b:Nat}{zs xs us:List Nat}{x k c s o:Nat}(h:Taking b zs xs us x k c)(hk:xs.length=k)(hz:zs.length=k+1)(he:s+c=nth zs k+b*o):
  (us++[s]).length=zs.length/\ev b (us++[s])+ev b xs*x=ev b zs+b^zs.length*o:=by
 obtain⟨h1,h2,h3,h4⟩:=h;refine⟨by simp[h1,hz], ?_⟩;have e:=a_c b zs k;rw[<-hz,a_z]at e;rw[<-hk,a_z,hk]at h4;rw[b_g,e,h1,hz,Nat.pow_succ];grind
theorem q_5 {p hi lo c s1 o1 s2 o2 z:Nat}(h0:hi*18446744073709551616+lo=p)(f2:s1+18446744073709551616*o1=lo+c)(g2:s2+s1+0=z+18446744073709551616*o2):
  s2+p+c=z+18446744073709551616*(hi+o1+o2):=by omega
theorem q_6 {w x c s z c':Nat}(hw:w<18446744073709551616)(hx:x<18446744073709551616)(hc:c<18446744073709551616)(hs:s<18446744073709551616)(he:s+w*x+c=z+18446744073709551616*c'):c'<18446744073709551616:=by
 have:w*x<=18446744073709551615*18446744073709551615:=Nat.mul_le_mul (by omega) (by omega);omega
def SpRel (w:World)(g p:Nat)(zs xs:List Nat)(x k:Nat)(s:Value)(wr:World):Prop:=
 ∃(c:Nat) (us:List Nat),Taking 18446744073709551616 zs xs us x k c/\s= .int .u64 c/\Ar wr g p 85 (us++zs.drop k)/\Tch (Seg g p zs.length) w wr/\wr.heap.size=w.heap.size
theorem SpRel.next {w wr:World}{g p k c d c' x:Nat}{zs xs us:List Nat}{s:Value}(ha:Taking 18446744073709551616 zs xs us x k c)(hk:k<zs.length)
  (har:Ar wr g p 85 (us++zs.drop k)) (ht:Tch (Seg g p zs.length) w wr) (hz:wr.heap.size=w.heap.size)
  (hd:d<18446744073709551616) (hc:c'<18446744073709551616) (he:d+nth xs k*x+c=nth zs k+18446744073709551616*c') (hs:s= .int .u64 (c':Int)):
  SpRel w g p zs xs x (k+1) s (wr.setCell ⟨g,p+k,none⟩ (.int .u64 (d:Int))):=by
 obtain⟨h1,h2⟩:=har.store (S:=Seg g p zs.length) (j:=k) (n:=d) (by rw[a_g ha.1 (by omega)];exact hk) hd ⟨rfl,Nat.le_add_right _ _,Nat.add_lt_add_left hk _⟩;rw[a_9 ha.1 hk]at h2;exact⟨_,_,ha.step hd hc he,hs,h2,ht.trans h1,by simpa using hz⟩
def OvPost (w:World)(g p l:Nat)(F:Nat->Nat->Prop)(e:Ending)(w':World):Prop:=
 ∃(c:Nat) (us:List Nat),e= .returned (.bool (decide (c=1)))/\c<=1/\us.length=l/\Hid (F (ev 18446744073709551616 us) (18446744073709551616^l*c))/\
  Ar w' g p 85 us/\Tch (Seg g p l) w w'/\w'.heap.size=w.heap.size
theorem SpRel.last {w wr:World}{g p c d o x:Nat}{zs xs us:List Nat}(ha:Taking 18446744073709551616 zs xs us x xs.length c)(hz:zs.length=xs.length+1)
  (har:Ar wr g p 85 (us++zs.drop xs.length)) (ht:Tch (Seg g p zs.length) w wr) (hs:wr.heap.size=w.heap.size)
  (hd:d<18446744073709551616) (ho:o<=1) (he:d+c+0=nth zs xs.length+18446744073709551616*o) {b:Bool} (hb:decide (o=1)=b):
  OvPost w g p zs.length (fun u t=>u+ev 18446744073709551616 xs*x=ev 18446744073709551616 zs+t) (.returned (.bool b)) (wr.setCell ⟨g,p+xs.length,none⟩ (.int .u64 (d:Int))):=by
 obtain⟨h1,h2⟩:=har.store (S:=Seg g p zs.length) (j:=xs.length) (n:=d) (by rw[a_g ha.1 (by omega)];omega) hd ⟨rfl,Nat.le_add_right _ _,Nat.add_lt_add_left (by omega) _⟩;rw[a_9 ha.1 (by omega),List.drop_of_length_le (by omega),List.append_nil]at h2;obtain⟨k1,k2⟩:=ha.stop rfl hz (by omega);exact⟨o,_,by rw[hb],ho,k1,Lib.hid k2,h2,ht.trans h1,by simpa using hs⟩
theorem f_j (g p cap d:Nat)(B:Option Addr)(zs xs:List Nat)(x:Nat)(w:World)(har:Ar w g p 85 zs)(hr:Rd w .u64 B xs)(hzl:zs.length=xs.length+1)
  (hoff:Off (Seg g p zs.length) B xs.length) (lx:Low 18446744073709551616 xs) (hx:x<18446744073709551616) (hm:zs.length<=9223372036854775807):
  Calls Tryz.prog 217 #[.slice (some ⟨g,p,none⟩) zs.length cap,.slice B xs.length d,.int .u64 x] w
   (OvPost w g p zs.length (fun u t=>u+ev 18446744073709551616 xs*x=ev 18446744073709551616 zs+t)):=by
 have lz:=har.low;have HZL:=Lib.hid hzl;have hlt1:xs.length<zs.length:=by omega
 clear hzl;go_enter Tryz.func217,Tryz.ntmps217
 go_wp2
 go_loopw [7,17] (fun s i wr=>∃k:Nat,k<=xs.length/\i= .int .i64 k/\SpRel w g p zs xs x k s wr) (fun _ i _=>xs.length - (intOf i).toNat)
 case atStart=>exact⟨0,Nat.zero_le _,rfl,0,[],Taking.start (by omega) _ _ _,rfl,by simpa using har,Tch.refl _ _,rfl⟩
 case round=>
  obtain⟨k,hk,rfl,c,us,ha,rfl,ha2,ht,hz⟩:=hrel;by_cases hlt:k<xs.length
  ·obtain⟨ad,rfl,_,c1⟩:=(hr.tch ht hoff).at (k:=k) hlt;have cs:=ha2.cell (j:=k) (by rw[a_g ha.1 (by omega)];omega);rw[a_u ha.1]at cs;have cf:=ha2.free (p+k);have b1:=lx.any (by omega) k;have b2:=lz.any (by omega) k;have b3:=ha.2.2.1;have hkz:k<zs.length:=by omega
   have HA:=Lib.hid ha;have HZ:=Lib.hid hz;clear ha hz
   go_wp2_with fail
   refine(b_5 _ _ b1 hx _).mono ?_;rintro e w' ⟨hi,lo,rfl,h0,h1,h2,rfl⟩;obtain⟨s1,o1,f1,f2,f3,f4⟩:=b_x lo c h2 b3;obtain⟨s2,o2,g1,g2,g3,g4⟩:=g_b (nth zs k) s1 b2 f3;have t1:=q_5 h0 f2 g2;have t2:=q_6 b1 hx b3 g3 t1;have T1:=Lib.hid t1;clear h0 f2 g2 t1
   go_wp2_with fail
   go_roundw
   case rel=>exact⟨k+1,by omega,by go_num,SpRel.next HA.out hkz ha2 ht HZ.out g3 t2 T1.out (by go_num)⟩
   case measure=>simp[intOf];omega
  ·obtain rfl:k=xs.length:=by omega
   have cs:=ha2.cell (j:=xs.length) (by rw[a_g ha.1 (by omega)];omega);rw[a_u ha.1]at cs;have cf:=ha2.free (p+xs.length);obtain⟨s1,o1,f1,f2,f3,f4⟩:=g_b (nth zs xs.length) c (lz.any (by omega) _) ha.2.2.1;clear hlt;rcases Nat.eq_zero_or_pos o1 with h0|h0
   ·have P:=Lib.hid (SpRel.last ha HZL.out ha2 ht hz f3 f4 f2 (b:=false) (by simp;omega));have hne:(((o1:Nat):Int) != 0)=false:=by rw[bne_eq_false_iff_eq];omega
    clear ha ha2 ht hz f2 f3 f4 h0
    go_wp2_with fail
    go_ret
    exact P.out
   ·have P:=Lib.hid (SpRel.last ha HZL.out ha2 ht hz f3 f4 f2 (b:=true) (by simp;omega));have hne:(((o1:Nat):Int) != 0)=true:=by rw[bne_iff_ne];omega
    clear ha ha2 ht hz f2 f3 f4 h0
    go_wp2_with fail
    go_ret
    exact P.out
theorem AtRel.last {w wr:World}{g p c d o:Nat}{zs xs us:List Nat}(ha:Adding 18446744073709551616 zs xs us xs.length c)(hz:zs.length=xs.length+1)
  (har:Ar wr g p 85 (us++zs.drop xs.length)) (ht:Tch (Seg g p zs.length) w wr) (hs:wr.heap.size=w.heap.size)
  (hd:d<18446744073709551616) (ho:o<=1) (he:d+18446744073709551616*o=nth zs xs.length+0+c) {b:Bool} (hb:decide (o=1)=b):
  OvPost w g p zs.length (fun u t=>u+t=ev 18446744073709551616 zs+ev 18446744073709551616 xs) (.returned (.bool b)) (wr.setCell ⟨g,p+xs.length,none⟩ (.int .u64 (d:Int))):=by
 obtain⟨h1,h2⟩:=har.store (S:=Seg g p zs.length) (j:=xs.length) (n:=d) (by rw[a_g ha.1 (by omega)];omega) hd ⟨rfl,Nat.le_add_right _ _,Nat.add_lt_add_left (by omega) _⟩;rw[a_9 ha.1 (by omega),List.drop_of_length_le (by omega),List.append_nil]at h2;obtain⟨a1,a2,a3,a4⟩:=ha;have e:=a_c 18446744073709551616 zs xs.length;rw[<-hz,a_z]at e;refine⟨o,us++[d],by rw[hb],ho,by simp[a1,hz],Lib.hid ?_,h2,ht.trans h1,by simpa using hs⟩;rw[a_z]at a4;rw[b_g,e,a1,hz,Nat.pow_succ];have e2:18446744073709551616^xs.length*d+18446744073709551616^xs.length*18446744073709551616*o=18446744073709551616^xs.length*nth zs xs.length+18446744073709551616^xs.length*c:=by
  rw[Nat.mul_assoc,<-Nat.mul_add,<-Nat.mul_add,he,Nat.add_zero]
 omega
theorem f_0 (g p cap d:Nat)(B:Option Addr)(zs xs:List Nat)(w:World)(har:Ar w g p 85 zs)(hr:Rd w .u64 B xs)(hzl:zs.length=xs.length+1)
  (hoff:Off (Seg g p zs.length) B xs.length) (lx:Low 18446744073709551616 xs) (hm:zs.length<=9223372036854775807):
  Calls Tryz.prog 218 #[.slice (some ⟨g,p,none⟩) zs.length cap,.slice B xs.length d] w
   (OvPost w g p zs.length (fun u t=>u+t=ev 18446744073709551616 zs+ev 18446744073709551616 xs)):=by
 have lz:=har.low;have HZL:=Lib.hid hzl;have hlt1:xs.length<zs.length:=by omega
 clear hzl;go_enter Tryz.func218,Tryz.ntmps218
 go_wp2
 go_loopw [5,10] (fun s i wr=>∃k:Nat,k<=xs.length/\i= .int .i64 k/\AtRel w g p zs xs k s wr) (fun _ i _=>xs.length - (intOf i).toNat)
 case atStart=>exact⟨0,Nat.zero_le _,rfl,0,[],Adding.start _ _ _,rfl,by simpa using har,Tch.refl _ _,rfl⟩
 case round=>
  obtain⟨k,hk,rfl,c,us,ha,rfl,ha2,ht,hz⟩:=hrel;by_cases hlt:k<xs.length
  ·obtain⟨ad,rfl,_,c1⟩:=(hr.tch ht hoff).at (k:=k) hlt;have cs:=ha2.cell (j:=k) (by rw[a_g ha.1 (by omega)];omega);rw[a_u ha.1]at cs;have cf:=ha2.free (p+k);have hadd:=c_h (nth zs k) (nth xs k) c ha.2.2.1;have hkz:k<zs.length:=by omega
   have HA:=Lib.hid ha;have HZ:=Lib.hid hz;clear ha hz
   go_wp2_with fail
   go_roundw
   case rel=>exact⟨k+1,by omega,by go_num,AtRel.next lz lx HA.out hkz ha2 ht HZ.out rfl⟩
   case measure=>simp[intOf];omega
  ·obtain rfl:k=xs.length:=by omega
   have cs:=ha2.cell (j:=xs.length) (by rw[a_g ha.1 (by omega)];omega);rw[a_u ha.1]at cs;have cf:=ha2.free (p+xs.length);obtain⟨s1,o1,f1,f2,f3,f4⟩:=l_z (nth zs xs.length) c (lz.any (by omega) _) ha.2.2.1;clear hlt;rcases Nat.eq_zero_or_pos o1 with h0|h0
   ·have P:=Lib.hid (AtRel.last ha HZL.out ha2 ht hz f3 f4 f2 (b:=false) (by simp;omega));have hne:(((o1:Nat):Int) != 0)=false:=by rw[bne_eq_false_iff_eq];omega
    clear ha ha2 ht hz f2 f3 f4 h0
    go_wp2_with fail
    go_ret
    exact P.out
   ·have P:=Lib.hid (AtRel.last ha HZL.out ha2 ht hz f3 f4 f2 (b:=true) (by simp;omega));have hne:(((o1:Nat):Int) != 0)=true:=by rw[bne_iff_ne];omega
    clear ha ha2 ht hz f2 f3 f4 h0
    go_wp2_with fail
    go_ret
    exact P.out
end
end Go.Proofs.YtfhbdlegkdbmfaaGreat
