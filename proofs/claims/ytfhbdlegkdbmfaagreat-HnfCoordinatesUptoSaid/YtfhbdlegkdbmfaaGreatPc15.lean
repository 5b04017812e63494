/- Pc15 -/
import Derived.Test.YtfhbdlegkdbmfaaGreatPc14
set_option linter.unusedVariables false
set_option linter.unusedSimpArgs false
set_option linter.unusedSectionVars false
set_option maxRecDepth 100000
set_option maxHeartbeats 8000000
namespace Go.Proofs.YtfhbdlegkdbmfaaGreat
section
open Go.RowKit
theorem r_u {b m:Nat}{zs ys:List Nat}(hb:2<=b)(lz:Low b zs)(hz:zs.length=m+3)(hy:ys.length=m+2):
  ev b zs / ev b ys*(nth ys (m+1)*b+nth ys m)<=nth zs (m+2)*b*b+nth zs (m+1)*b+nth zs m:=by
 have z1:=a_c b zs m;have z2:=a_c b zs (m+1);have z3:=a_c b zs (m+2);have y1:=a_c b ys m;have y2:=a_c b ys (m+1);have zl:=c_3 lz (by omega) m;rw[show m+2+1=zs.length from by omega,a_z]at z3;rw[show m+1+1=ys.length from by omega,a_z]at y2;have h1:=Nat.div_mul_le_self (ev b zs) (ev b ys);have hp:0<b^m:=Nat.pow_pos (by omega);generalize ev b zs / ev b ys=q at *;rw[z3,z2,z1,y2,y1,show b^(m+1)=b^m*b from Nat.pow_succ ..,show b^(m+2)=b^m*b*b from by rw[Nat.pow_succ,Nat.pow_succ]]at h1;have h2:q*(nth ys (m+1)*b+nth ys m)*b^m<(nth zs (m+2)*b*b+nth zs (m+1)*b+nth zs m+1)*b^m:=by
  have e1:q*(pre b ys m+b^m*nth ys m+b^m*b*nth ys (m+1))=q*pre b ys m+q*(nth ys (m+1)*b+nth ys m)*b^m:=by
   generalize b^m=P;grind
  have e2:pre b zs m+b^m*nth zs m+b^m*b*nth zs (m+1)+b^m*b*b*nth zs (m+2)+b^m=(nth zs (m+2)*b*b+nth zs (m+1)*b+nth zs m+1)*b^m+pre b zs m:=by
   generalize b^m=P;grind
  rw[e1]at h1;omega
 have:=Nat.lt_of_mul_lt_mul_right h2;omega
theorem p_8 {b m:Nat}{zs ys:List Nat}(hb:2<=b)(lz:Low b zs)(ly:Low b ys)(hz:zs.length=m+3)(hy:ys.length=m+2)(h:ev b (zs.drop 1)<ev b ys):
  ev b zs / ev b ys<b/\nth zs (m+2)<=nth ys (m+1):=by
 have h0:=c_n (L:=zs) (q:=0) (by omega);rw[List.drop_zero,Nat.zero_add]at h0;constructor
 ·refine(Nat.div_lt_iff_lt_mul (by omega)).2 ?_;rw[h0,ev]
  have:=lz.any (by omega) 0;have h2:b*(ev b (zs.drop 1)+1)<=b*ev b ys:=Nat.mul_le_mul_left _ h;rw[Nat.mul_add,Nat.mul_one]at h2;omega
 ·have y2:=a_c b ys (m+1);rw[show m+1+1=ys.length from by omega,a_z]at y2;have yl:=c_3 ly (by omega) (m+1);have z2:=a_c b (zs.drop 1) (m+1);rw[a_5,show m+1+1=(zs.drop 1).length from by simp;omega,a_z,show 1+(m+1)=m+2 from by omega]at z2;rcases Nat.lt_or_ge (nth ys (m+1)) (nth zs (m+2))with h3|h3
  ·exfalso
   have h4:b^(m+1)*(nth ys (m+1)+1)<=b^(m+1)*nth zs (m+2):=Nat.mul_le_mul_left _ h3;rw[Nat.mul_add,Nat.mul_one]at h4;omega
  ·exact h3
def GsRel (q f z2 z1 t l o:Nat):Prop:=q<=t/\t<18446744073709551616/\l<18446744073709551616/\o<=1/\(o=0->t*f+l=z2*18446744073709551616+z1)
theorem n_c {q f s z2 z1 z0:Nat}(h:q*(f*18446744073709551616+s)<=z2*18446744073709551616*18446744073709551616+z1*18446744073709551616+z0)(hz0:z0<18446744073709551616)(hz1:z1<18446744073709551616)(hlt:z2<f)(hf:f<18446744073709551616):
  GsRel q f z2 z1 ((z2*18446744073709551616+z1) / f) ((z2*18446744073709551616+z1)%f) 0:=by
 have h1:=Nat.div_add_mod (z2*18446744073709551616+z1) f;have h2:=Nat.mod_lt (z2*18446744073709551616+z1) (show 0<f by omega);refine⟨?_,(Nat.div_lt_iff_lt_mul (by omega)).2 ?_,by omega,by omega,fun _=>by rw[Nat.mul_comm];exact h1⟩
 ·refine(Nat.le_div_iff_mul_le (by omega)).2 ?_;rw[Nat.mul_add,<-Nat.mul_assoc]at h;generalize q*f=p at *;generalize q*s=r at *;omega
 ·have:(z2+1)*18446744073709551616<=f*18446744073709551616:=Nat.mul_le_mul_right _ hlt;rw[Nat.mul_comm]at this;omega
theorem r_v {q f z1 l o:Nat}(hq:q<18446744073709551616)(hl:l<18446744073709551616)(ho:o<=1)(h:l+18446744073709551616*o=z1+f):GsRel q f f z1 18446744073709551615 l o:=
 ⟨by omega,by omega,hl,ho,fun h0=>by subst h0;omega⟩
theorem k_5 {q f s z2 z1 z0 t l hi lo l' o':Nat}(h:q*(f*18446744073709551616+s)<=z2*18446744073709551616*18446744073709551616+z1*18446744073709551616+z0)(hr:GsRel q f z2 z1 t l 0)(hm:hi*18446744073709551616+lo=t*s)
  (hz0:z0<18446744073709551616) (hlo:lo<18446744073709551616) (hgt:l<hi\/l=hi/\z0<lo) (hl:l'<18446744073709551616) (ho:o'<=1) (ha:l'+18446744073709551616*o'=l+f):1<=t/\GsRel q f z2 z1 (t - 1) l' o':=by
 obtain⟨h1,h2,h3,h4,h5⟩:=hr;have h5:=h5 rfl;have h6:q<t:=by
  rcases Nat.lt_or_ge q t with h6|h6
  ·exact h6
  ·exfalso
   obtain rfl:q=t:=by omega
   rw[Nat.mul_add,<-Nat.mul_assoc,<-hm]at h;generalize q*f=p at *;omega
 obtain⟨t,rfl⟩:∃u,t=u+1:=⟨t - 1,by omega⟩;refine⟨by omega,by omega,by omega,hl,ho,fun h0=>?_⟩;subst h0;rw[Nat.add_mul,Nat.one_mul]at h5;rw[Nat.add_sub_cancel];omega
def GsPost (q:Nat)(w:World)(e:Ending)(w':World):Prop:=∃t:Nat,q<=t/\t<18446744073709551616/\e= .returned (.int .u64 (t:Int))/\Sees w w'
theorem h_m (A B:Option Addr)(N n cap d:Nat)(zs ys:List Nat)(w:World)(hz:Rd w .u64 A zs)(hy:Rd w .u64 B ys)(hzl:zs.length=N)(hyl:ys.length=n)(hN:N=n+1)(h2:2<=n)
  (lz:Low 18446744073709551616 zs) (ly:Low 18446744073709551616 ys) (hfit:ev 18446744073709551616 (zs.drop 1)<ev 18446744073709551616 ys) (hm:n<=1099511627776):
  Calls Tryz.prog 216 #[.slice A N cap,.slice B n d] w (GsPost (ev 18446744073709551616 zs / ev 18446744073709551616 ys) w):=by
 obtain⟨m,hm2⟩:∃m,n=m+2:=⟨n - 2,by omega⟩;obtain⟨i1,hi1⟩:∃i,i=m+1:=⟨_,rfl⟩;obtain⟨g1,g2⟩:=p_8 (m:=m) (by omega) lz ly (by omega) (by omega) hfit;have g3:=r_u (m:=m) (zs:=zs) (ys:=ys) (by omega) lz (by omega) (by omega);rw[<-hm2,<-hi1]at g2 g3;obtain⟨q,hq⟩:∃q,q=ev 18446744073709551616 zs / ev 18446744073709551616 ys:=⟨_,rfl⟩;rw[<-hq]at g1 g3;rw[<-hq];obtain⟨ad,rfl,_,c0⟩:=hz.at (k:=m) (by omega);have c1:=hz.cell rfl (k:=i1) (by omega);have c2:=hz.cell rfl (k:=n) (by omega);obtain⟨ae,rfl,_,d0⟩:=hy.at (k:=m) (by omega);have d1:=hy.cell rfl (k:=i1) (by omega);have b0:=lz.any (by omega) m;have b1:=lz.any (by omega) i1;have b2:=lz.any (by omega) n;have e0:=ly.any (by omega) m;have e1:=ly.any (by omega) i1;generalize nth zs m=z0 at *;generalize nth zs i1=z1 at *;generalize nth zs n=z2 at *;generalize nth ys m=s at *;generalize nth ys i1=f at *;have G3:=Lib.hid g3;have k1:i1<n:=by omega
 have k2:m<n:=by omega
 have k3:n<N:=by omega
 have k4:i1<N:=by omega
 have k5:m<N:=by omega
 have u1:IntKind.i64.wrap ((n:Int) - 1)=(i1:Int):=by rw[IntWalk.i64_in _ (by omega)];omega
 have u2:IntKind.i64.wrap ((n:Int) - 2)=(m:Int):=by rw[IntWalk.i64_in _ (by omega)];omega
 have hN2:N<=1099511627777:=by omega
 clear g3 hq hzl hyl hfit lz ly hz hy hN hm2 hi1;go_enter Tryz.func216,Tryz.ntmps216
 go_wp2_with fail
 go_quiet (fail)
 obtain⟨w1,hw1⟩:∃w1,w1=w.drewN nq:=⟨_,rfl⟩;have hs1:Sees w w1:=hw1 ▸ (Sees.refl w).more nq;have c0':w1.cell? (ad.add m)=some (.int .u64 z0):=by rw[hw1];exact c0
 have c1':w1.cell? (ad.add i1)=some (.int .u64 z1):=by rw[hw1];exact c1
 have c2':w1.cell? (ad.add n)=some (.int .u64 z2):=by rw[hw1];exact c2
 rw[<-hw1];have c00:∀x,(w.drewN x).cell? (ad.add m)=some (.int .u64 z0):=fun _=>c0;clear hw1 c0 c1 c2 d0 d1;go_upto_if 30 with fail
 go_cut [8,9,10] (fun v8 v9 v10 wx=>Sees w wx/\∃t l o:Nat,v8= .int .u64 (t:Int)/\v9= .int .u64 (l:Int)/\v10= .int .u64 (o:Int)/\GsRel q f z2 z1 t l o)
 case first=>
  by_cases hlt:z2<f
  ·have hR:=Lib.hid (n_c G3.out b0 b1 hlt e1)
   go_wp2_with fail
   go_quiet ((go_at_call 186;exact i_8 (e_q _ _ _ hlt b1 e1 _)))
   go_wp2
   go_meet
   exact⟨hs1.more _,_,_,_,rfl,rfl,rfl,hR.out⟩
  ·obtain rfl:z2=f:=by omega
   obtain⟨s1,o1,f1,f2,f3,f4⟩:=b_x z1 z2 b1 b2;have hR:=Lib.hid (r_v g1 f3 f4 f2);clear f2 hlt
   go_wp2
   go_meet
   exact⟨hs1,_,_,_,rfl,rfl,rfl,hR.out⟩
 case rest=>
  obtain⟨hs,t,l,o,rfl,rfl,rfl,hR⟩:=hcut;have c0:wc.cell? (ad.add m)=some (.int .u64 z0):=by obtain⟨x,rfl⟩:=hs;exact c00 x
  clear c00 hs1 c0' c1' c2'
  go_wp2_with fail
  go_loopg [8,9,10] t (fun g v8 v9 v10 wr=>wc=wr/\∃l o:Nat,v8= .int .u64 (g:Int)/\v9= .int .u64 (l:Int)/\v10= .int .u64 (o:Int)/\GsRel q f z2 z1 g l o)
  case atStart=>exact⟨rfl,l,o,rfl,rfl,rfl,hR⟩
  case round=>
   clear hR;obtain⟨rfl,l,o,rfl,rfl,rfl,hR⟩:=hrel;have P:=Lib.hid (show GsPost q w (.returned (.int .u64 (gk:Int))) wc from⟨gk,hR.1,hR.2.1,rfl,hs⟩);have HR:=Lib.hid hR;have l1:=hR.2.1;have l2:=hR.2.2.1;have l3:=hR.2.2.2.1;clear hR hs;rcases Nat.eq_zero_or_pos o with rfl|ho
   ·go_wp2_with fail
    refine(b_5 _ _ l1 e0 _).mono ?_;rintro e w' ⟨hi,lo,rfl,h0,h1,h2,rfl⟩;have H0:=Lib.hid h0;clear h0;rcases Nat.lt_trichotomy hi l with hc|hc|hc
    ·go_wp2_with fail
     go_ret
     exact P.out
    ·have x1:¬(hi<l):=by omega
     have x2:((hi:Int)==(l:Int))=true:=by rw[beq_iff_eq];omega
     have HC:=Lib.hid hc;clear hc;by_cases hd:lo<=z0
     ·go_wp2_with fail
      go_ret
      exact P.out
     ·obtain⟨s1,o1,f1,f2,f3,f4⟩:=b_x l f l2 e1;obtain⟨n1,n2⟩:=k_5 G3.out HR.out H0.out b0 h2 (.inr ⟨HC.out.symm,by omega⟩) f3 f4 f2;have N2:=Lib.hid n2;have v1:IntKind.u64.wrap ((gk:Int) - 1)=((gk - 1:Nat):Int):=by rw[IntKind.wrap_u64];omega
      clear f2 n2
      go_wp2_with fail
      go_roundg (gk - 1)
      case rel=>exact⟨rfl,s1,o1,rfl,rfl,rfl,N2.out⟩
      case measure=>omega
    ·have x1:¬(hi<l):=by omega
     have x2:((hi:Int)==(l:Int))=false:=by rw[beq_eq_false_iff_ne];omega
     obtain⟨s1,o1,f1,f2,f3,f4⟩:=b_x l f l2 e1;obtain⟨n1,n2⟩:=k_5 G3.out HR.out H0.out b0 h2 (.inl hc) f3 f4 f2;have N2:=Lib.hid n2;have v1:IntKind.u64.wrap ((gk:Int) - 1)=((gk - 1:Nat):Int):=by rw[IntKind.wrap_u64];omega
     clear f2 n2 hc
     go_wp2_with fail
     go_roundg (gk - 1)
     case rel=>exact⟨rfl,s1,o1,rfl,rfl,rfl,N2.out⟩
     case measure=>omega
   ·have x1:((o:Int)==0)=false:=by rw[beq_eq_false_iff_ne];omega
    clear ho
    go_wp2_with fail
    go_ret
    exact P.out
theorem o_q {b l R V t u:Nat}(h:u+V*t=R+b^l*1)(hu:u<b^l)(hV:0<V):R / V+1<=t:=by
 refine(Nat.div_lt_iff_lt_mul hV).2 ?_;rw[Nat.mul_comm];omega
theorem o_r {T R V t u u' c:Nat}(h:u+V*(t+1)=R+T*1)(h2:u'+T*c=u+V)(hc:c<=1):u'+V*t=R+T*(1 - c):=by
 rw[Nat.mul_add,Nat.mul_one]at h;rcases Nat.eq_zero_or_pos c with rfl|h0
 ·omega
 ·obtain rfl:c=1:=by omega
  omega
theorem o_p {T R V t u:Nat}(h:u+V*t=R+T*0)(ht:R / V<=t)(hV:0<V):t=R / V/\u=R%V:=by
 have h1:t<=R / V:=(Nat.le_div_iff_mul_le hV).2 (by rw[Nat.mul_comm];omega);obtain rfl:t=R / V:=by omega
 have:=Nat.div_add_mod R V;exact⟨rfl,by omega⟩
theorem d_o (g p cap d:Nat)(B:Option Addr)(zs xs:List Nat)(l:Nat)(w:World)(har:Ar w g p 85 zs)(hr:Rd w .u64 B xs)(hl:zs.length=l)(hzl:l=xs.length+1)
  (hoff:Off (Seg g p l) B xs.length) (lx:Low 18446744073709551616 xs) (hm:l<=9223372036854775807):
  Calls Tryz.prog 218 #[.slice (some ⟨g,p,none⟩) l cap,.slice B xs.length d] w
   (OvPost w g p l (fun u t=>u+t=ev 18446744073709551616 zs+ev 18446744073709551616 xs)):=by
 subst hl;exact f_0 g p cap d B zs xs w har hr hzl hoff lx hm
def ToPost (w:World)(g p l R V:Nat)(e:Ending)(w':World):Prop:=
 ∃us:List Nat,e= .returned (.int .u64 ((R / V:Nat):Int))/\us.length=l/\Hid (ev 18446744073709551616 us=R%V)/\Ar w' g p 85 us/\Tch (Seg g p l) w w'/\w'.heap.size=w.heap.size
def ToRel (w:World)(g p l R V t:Nat)(s5 s6:Value)(wr:World):Prop:=
 ∃(us:List Nat) (c:Nat),s5= .int .u64 (t:Int)/\s6= .bool (decide (c=1))/\c<=1/\us.length=l/\R / V<=t/\t<18446744073709551616/\Hid (ev 18446744073709551616 us+V*t=R+18446744073709551616^l*c)/\Ar wr g p 85 us/\
  Tch (Seg g p l) w wr/\wr.heap.size=w.heap.size
theorem f_h (g p cap d n:Nat)(B:Option Addr)(zs ys:List Nat)(w:World)(har:Ar w g p 85 zs)(hr:Rd w .u64 B ys)(hzl:zs.length=ys.length+1)(h2:2<=ys.length)
  (hoff:Off (Seg g p zs.length) B ys.length) (ly:Low 18446744073709551616 ys) (hfit:ev 18446744073709551616 (zs.drop 1)<ev 18446744073709551616 ys) (hm:ys.length<=1099511627776):
  Calls Tryz.prog 204 #[.slice (some ⟨g,p,none⟩) zs.length cap,.slice B ys.length d] w (ToPost w g p zs.length (ev 18446744073709551616 zs) (ev 18446744073709551616 ys)):=by
 have lz:=har.low;have HZL:=Lib.hid hzl;have hV:0<ev 18446744073709551616 ys:=by omega
 have hm2:zs.length<=9223372036854775807:=by omega
 clear hzl;go_enter Tryz.func204,Tryz.ntmps204
 go_wp2_with fail
 refine(h_m _ _ _ _ _ _ zs ys _ har.rd hr rfl rfl HZL.out h2 lz ly hfit hm).mono ?_;rintro e w1 ⟨t,ht,ht2,rfl,hs1⟩;have ha1:=har.below (hs1.below _);have hr1:=hs1.rd hr;have T1:Tch (Seg g p zs.length) w w1:=Tch.of_below _ (hs1.below _);have Z1:w1.heap.size=w.heap.size:=by obtain⟨q,rfl⟩:=hs1;rfl
 have HZ1:=Lib.hid Z1;clear hs1 Z1
 go_wp2_with fail
 refine(f_j g p _ _ B zs ys t _ ha1 hr1 HZL.out hoff ly ht2 hm2).mono ?_;rintro e w2 ⟨c,us,rfl,hc,hul,hF,ha2,T2,Z2⟩;have R0:ToRel w g p zs.length (ev 18446744073709551616 zs) (ev 18446744073709551616 ys) t (.int .u64 (t:Int)) (.bool (decide (c=1))) w2:=
  ⟨us,c,rfl,rfl,hc,hul,ht,ht2,hF,ha2,T1.trans T2,by rw[Z2,HZ1.out]⟩
 have HR0:=Lib.hid R0;clear R0 hul hF ha2 T1 T2 Z2 ha1 hr1 har ht ht2 hc
 go_wp2_with fail
 go_loopg [5,6] t (fun g' v5 v6 wr=>ToRel w g p zs.length (ev 18446744073709551616 zs) (ev 18446744073709551616 ys) g' v5 v6 wr)
 case atStart=>exact HR0.out
 case round=>
  obtain⟨us,c,rfl,rfl,hc,hul,ht,ht2,hF,ha,T,Z⟩:=hrel;have HZ:=Lib.hid Z;have HU:=Lib.hid hul;clear Z hul;rcases Nat.eq_zero_or_pos c with rfl|h0
  ·obtain⟨k1,k2⟩:=o_p hF.out ht hV;have K1:=Lib.hid k1;have P:=Lib.hid (show ToPost w g p zs.length (ev 18446744073709551616 zs) (ev 18446744073709551616 ys) (.returned (.int .u64 (gk:Int))) wr from⟨us,by rw[<-K1.out],HU.out,Lib.hid k2,ha,T,HZ.out⟩);clear k1 k2 ha T hF ht
   go_wp2_with fail
   go_ret
   exact P.out
  ·obtain rfl:c=1:=by omega
   have hlow:=b_y ha.low;rw[HU.out]at hlow;have hmore:=o_q hF.out hlow hV;obtain⟨t',ht'⟩:∃t',gk=t'+1:=⟨gk - 1,(Nat.succ_pred_eq_of_pos (Nat.lt_of_lt_of_le (Nat.succ_pos _) hmore)).symm⟩;have hle:ev 18446744073709551616 zs / ev 18446744073709551616 ys<=t':=Nat.le_of_succ_le_succ (Nat.le_trans hmore (Nat.le_of_eq ht'));have v1:IntKind.u64.wrap ((gk:Int) - 1)=(t':Int):=by rw[IntKind.wrap_u64];omega
   have HT:=Lib.hid ht';have ht3:t'<18446744073709551616:=by omega
   have hlt:t'<gk:=by omega
   have hF1:=hF.out;rw[ht']at hF1;have HF1:=Lib.hid hF1;clear hlow hmore hF hF1 ht' ht
   go_wp2_with fail
   refine(d_o g p _ _ B us ys zs.length _ ha (hr.tch T hoff) HU.out HZL.out hoff ly hm2).mono ?_;rintro e w3 ⟨c,us',rfl,hc',hul,hF,ha3,T3,Z3⟩;have hF2:=o_r HF1.out hF.out hc';have HF2:=Lib.hid hF2;clear hF hF2 ha;rcases Nat.eq_zero_or_pos c with rfl|h1
   ·go_wp2_with fail
    go_roundg t'
    case rel=>exact⟨us',1,rfl,rfl,by omega,hul,hle,ht3,HF2,ha3,T.trans T3,by rw[Z3,HZ.out]⟩
    case measure=>exact hlt
   ·obtain rfl:c=1:=by omega
    go_wp2_with fail
    go_roundg t'
    case rel=>exact⟨us',0,rfl,rfl,by omega,hul,hle,ht3,HF2,ha3,T.trans T3,by rw[Z3,HZ.out]⟩
    case measure=>exact hlt
end
section
open Go.RowKit
theorem Wb.tch {S:Addr->Prop}{w w':World}{g:Nat}{t:TypeId}{L:List Nat}(h:Wb w g t L)(ht:Tch S w w')(ho:∀j,j<L.length->¬S ⟨g,j,none⟩):Wb w' g t L:=by
 obtain⟨L',h1,h2,h3⟩:=ht.blk g t L h;have e:L'=L:=d_j h2 fun k hk=>h3 k (ho k (by omega));rwa [e]at h1
theorem q_g {b m i:Nat}{rs:List Nat}{V:Nat}(hl:i+m+1<=rs.length)(hV:V<b^m)(h:ev b (rs.drop (i+1))<V):ev b (rs.drop (i+m+1))=0/\ev b (rs.drop i)=ev b ((rs.drop i).take (m+1)):=by
 have h1:=a_7 b (rs.drop (i+1)) m (by simp;omega);rw[List.drop_drop,show i+1+m=i+m+1 from by omega]at h1;have h2:ev b (rs.drop (i+m+1))=0:=by
  rcases Nat.eq_zero_or_pos (ev b (rs.drop (i+m+1)))with h0|h0
  ·exact h0
  ·have:=Nat.le_mul_of_pos_right (b^m) h0;omega
 refine⟨h2, ?_⟩;have h3:=a_7 b (rs.drop i) (m+1) (by simp;omega);rw[List.drop_drop,show i+(m+1)=i+m+1 from by omega,h2,Nat.mul_zero,Nat.add_zero]at h3;exact h3
theorem o_b {b m i:Nat}{rs:List Nat}{V:Nat}(hl:i+m+1<=rs.length)(h:ev b (rs.drop (i+1))<V):((rs.drop i).take (m+1)).length=m+1/\ev b (((rs.drop i).take (m+1)).drop 1)<V:=by
 refine⟨by simp;omega, ?_⟩;have e:((rs.drop i).take (m+1)).drop 1=(rs.drop (i+1)).take m:=by rw[List.drop_take,List.drop_drop];simp
 have h1:=a_7 b (rs.drop (i+1)) m (by simp;omega);rw[e];unfold pre at h1;omega
theorem q_h {b m i V X q e:Nat}{rs us:List Nat}(hl:i+m+1<=rs.length)(hV:V<b^m)(hu:us.length=m+1)(h:ev b (rs.drop (i+1))<V)(hq:q=ev b ((rs.drop i).take (m+1)) / V)(hr:ev b us=ev b ((rs.drop i).take (m+1))%V)
  (hX:ev b rs+b^(i+1)*e*V=X):
  (rs.take i++us++rs.drop (i+m+1)).length=rs.length/\ev b ((rs.take i++us++rs.drop (i+m+1)).drop i)<V/\ev b (rs.take i++us++rs.drop (i+m+1))+b^i*(q+b*e)*V=X:=by
 obtain⟨h1,h2⟩:=q_g hl hV h;have h3:=Nat.div_add_mod (ev b ((rs.drop i).take (m+1))) V;have h4:=Nat.mod_lt (ev b ((rs.drop i).take (m+1))) (show 0<V by omega);rw[<-hq,<-hr]at h3;rw[<-hr]at h4;have h5:=a_7 b rs i (by omega);have li:(rs.take i).length=i:=by simp;omega
 refine⟨by simp[hu];omega, ?_, ?_⟩
 ·rw[List.append_assoc,List.drop_append_of_le_length (by omega),List.drop_of_length_le (by omega),List.nil_append,a_o,h1,Nat.mul_zero,Nat.add_zero];exact h4
 ·rw[List.append_assoc,a_o,a_o,h1,li,Nat.mul_zero,Nat.add_zero,<-hX,h5,h2,<-h3,Nat.pow_succ];unfold pre;generalize b^i=P;generalize ev b us=r;generalize ev b (rs.take i)=s;grind
def QrPost (q r:Nat)(w:World)(e:Ending)(w':World):Prop:=
 ∃A c A' c',e= .returned (.tuple #[.slice A (cn 18446744073709551616 q).length c,.slice A' (cn 18446744073709551616 r).length c'])/\Got w w' 85 .u64 A c (cn 18446744073709551616 q)/\Got w w' 85 .u64 A' c' (cn 18446744073709551616 r)
def BsRel (w:World)(g1 g2 n m V X:Nat)(B:Option Addr)(bs:List Nat)(k:Nat)(wr:World):Prop:=
 ∃rs D:List Nat,rs.length=n+1/\k+m+D.length=n+1/\Hid (ev 18446744073709551616 (rs.drop k)<V)/\Hid (ev 18446744073709551616 rs+18446744073709551616^k*ev 18446744073709551616 D*V=X)/\
  Ar wr g1 0 85 rs/\Wb wr g2 85 (List.replicate k 0++D)/\Rd wr .u64 B bs/\Below w.heap.size w wr
theorem BsRel.next {w wr w2:World}{g1 g2 n m V X i:Nat}{B:Option Addr}{bs rs D:List Nat}{e:Ending}(hg:g1<g2)(hg1:w.heap.size<=g1)(hB:∀ad,B=some ad->ad.block<g1)(hlr:rs.length=n+1)(hk:i+1+m+D.length=n+1)(hV:V<18446744073709551616^m)
  (hf:Hid (ev 18446744073709551616 (rs.drop (i+1))<V)) (hX:Hid (ev 18446744073709551616 rs+18446744073709551616^(i+1)*ev 18446744073709551616 D*V=X)) (ha:Ar wr g1 0 85 rs) (hb:Wb wr g2 85 (List.replicate (i+1) 0++D)) (hr:Rd wr .u64 B bs)
  (hw:Below w.heap.size w wr) (hp:ToPost wr g1 i (m+1) (ev 18446744073709551616 ((rs.drop i).take (m+1))) V e w2):
  ∃q:Nat,e= .returned (.int .u64 (q:Int))/\(∃v,w2.cell? ⟨g2,i,none⟩=some v)/\w2.frozen? ⟨g2,i,none⟩=false/\BsRel w g1 g2 n m V X B bs i (w2.setCell ⟨g2,i,none⟩ (.int .u64 (q:Int))):=by
 obtain⟨us,rfl,hul,hu,ha2,T,Z⟩:=hp;have f1:i+m+1<=rs.length:=by omega
 have hV0:0<V:=Nat.lt_of_le_of_lt (Nat.zero_le _) hf.out;have b2:=hb.tch T fun j _ hs=>by have:=hs.1;simp at this;omega
 have hr2:Rd w2 .u64 B bs:=hr.tch T fun ad ha j hj hs=>by have h1:=hs.1;rw[a_b]at h1;have:=hB ad ha;omega
 obtain⟨s1,s2,s3⟩:=q_h (b:=18446744073709551616) (q:=ev 18446744073709551616 ((rs.drop i).take (m+1)) / V) f1 hV hul hf.out rfl hu.out hX.out;have hq:ev 18446744073709551616 ((rs.drop i).take (m+1)) / V<18446744073709551616:=by
  obtain⟨c1,c2⟩:=o_b f1 hf.out;refine(Nat.div_lt_iff_lt_mul hV0).2 ?_;have c3:=c_n (L:=(rs.drop i).take (m+1)) (q:=0) (by omega);rw[List.drop_zero,Nat.zero_add]at c3;have c4:=((ha.low.drop i).take (m+1)).any (by omega) 0;have c5:18446744073709551616*(ev 18446744073709551616 (((rs.drop i).take (m+1)).drop 1)+1)<=18446744073709551616*V:=Nat.mul_le_mul_left _ c2;rw[Nat.mul_add,Nat.mul_one]at c5;rw[c3,ev];omega
 have a1:Ar w2 g1 0 85 (rs.take i):=(ha.take i (by omega)).tch T fun j hj hs=>by have h1:=hs.2.1;simp at hj h1;omega
 have a3:Ar w2 g1 (0+(i+m+1)) 85 (rs.drop (i+m+1)):=(ha.drop (i+m+1) (by omega)).tch T fun j hj hs=>by have h1:=hs.2.2;simp at h1;omega
 have a4:=(a1.join (q:=i) ha2 (by simp;omega)).join a3 (by simp[hul];omega);obtain⟨q,hqd⟩:∃q,q=ev 18446744073709551616 ((rs.drop i).take (m+1)) / V:=⟨_,rfl⟩;rw[<-hqd]at hq s3 ⊢;have hlow:Low 18446744073709551616 (List.replicate (i+1) 0++D):=b2.2;have hcell:=b2.1.cell (j:=i) (by simp;omega);have hfree:=b2.1.free i;obtain⟨k1,k2⟩:=Tch.store (S:=fun a=>a.block=g2) b2 i hq rfl;rw[i_a]at k2;refine⟨q,rfl,⟨_,hcell⟩,hfree,_,q::D,by rw[s1,hlr],by simp;omega,Lib.hid s2,Lib.hid (by rw[ev];exact s3), ?_,k2, ?_, ?_⟩
 ·exact a4.tch k1 fun j _ hs=>by simp at hs;omega
 ·exact hr2.tch k1 fun ad ha j hj hs=>by rw[a_b]at hs;have:=hB ad ha;omega
 ·exact(hw.trans (T.below hw.size fun a hs=>by rw[hs.1];exact hg1)).trans ((k1.below (B:=w.heap.size) (by have:=hw.size;omega) fun a hs=>by rw[hs];omega))
theorem r_6 {b k m V X q:Nat}{rs:List Nat}(h1:ev b (rs.drop 0)<V)(h2:ev b rs+b^0*q*V=X):q=X / V/\ev b rs=X%V:=by
 rw[List.drop_zero]at h1;rw[Nat.pow_zero,Nat.one_mul]at h2;subst h2;constructor
 ·rw[Nat.add_mul_div_right _ _ (by omega),Nat.div_eq_of_lt h1,Nat.zero_add]
 ·rw[Nat.add_mul_mod_self_right,Nat.mod_eq_of_lt h1]
theorem q_j {ys:List Nat}{m u:Nat}(ly:Low 18446744073709551616 ys)(hm:ys.length=m+1)(ht:nth ys m≠0)(hu:u=64 - bl (nth ys m)):
  u<64/\(cn 18446744073709551616 (ev 18446744073709551616 ys*2^u)).length=m+1/\9223372036854775808*18446744073709551616^m<=ev 18446744073709551616 ys*2^u/\ev 18446744073709551616 ys*2^u<18446744073709551616^(m+1):=by
 have y2:=a_c 18446744073709551616 ys m;rw[<-hm,a_z]at y2;have yl:=c_3 ly (by omega) m;have yt:=ly.any (by omega) m;have b0:0<bl (nth ys m):=bl_lt.2 (by simp;omega);have b64:bl (nth ys m)<=64:=bl_le.2 (by simpa using yt);have hlow:=bl_lt.1 (show bl (nth ys m) - 1<bl (nth ys m) by omega);have hhigh:=bl_le.1 (Nat.le_refl (bl (nth ys m)));have hlow':2^(bl (nth ys m) - 1)<=nth ys m:=by
  rcases Nat.lt_or_ge (nth ys m) (2^(bl (nth ys m) - 1))with h|h
  ·rw[Nat.div_eq_of_lt h]at hlow;omega
  ·exact h
 have hp:0<2^u:=Nat.pow_pos (by omega);generalize ev 18446744073709551616 ys=V at *;generalize nth ys m=f at *;have e1:(18446744073709551616:Nat)=2^bl f*2^u:=by rw[<-Nat.pow_add,show bl f+u=64 from by omega]
 have e2:(9223372036854775808:Nat)=2^(bl f - 1)*2^u:=by rw[<-Nat.pow_add,show bl f - 1+u=63 from by omega]
 have h1:9223372036854775808*18446744073709551616^m<=V*2^u:=by
  have:18446744073709551616^m*2^(bl f - 1)<=V:=Nat.le_trans (Nat.mul_le_mul_left _ hlow') (by omega)
  have:=Nat.mul_le_mul_right (2^u) this;rw[Nat.mul_assoc,<-e2,Nat.mul_comm]at this;exact this
 have h2:V*2^u<18446744073709551616^(m+1):=by
  have h3:V<18446744073709551616^m*2^bl f:=by
   have:18446744073709551616^m*(f+1)<=18446744073709551616^m*2^bl f:=Nat.mul_le_mul_left _ hhigh;rw[Nat.mul_add,Nat.mul_one]at this;omega
  have:=Nat.mul_lt_mul_of_pos_right h3 hp;rw[Nat.mul_assoc,<-e1]at this;rw[Nat.pow_succ];exact this
 refine⟨by omega,Nat.le_antisymm (a_h _ _ _ (by omega) h2) ?_,h1,h2⟩;rcases Nat.lt_or_ge (cn 18446744073709551616 (V*2^u)).length (m+1)with h4|h4
 ·exfalso
  have h5:=e_s 18446744073709551616 (V*2^u) (by omega);have h6:18446744073709551616^(cn 18446744073709551616 (V*2^u)).length<=18446744073709551616^m:=f_n (by omega);omega
 ·exact h4
theorem n_k {b n m k u V x:Nat}{rs:List Nat}(hb:2<=b)(hl:rs.length=n+1)(hk:k+m=n)(hx:x<b^n)(hV:2^u*b^m<=V)(hr:ev b rs=x*2^u):ev b (rs.drop k)<V:=by
 have h1:=a_7 b rs k (by omega);have hp:0<b^k:=Nat.pow_pos (by omega);have hu:0<2^u:=Nat.pow_pos (by omega);have h2:x*2^u<b^n*2^u:=Nat.mul_lt_mul_of_pos_right hx hu;rw[<-hk,Nat.pow_add,Nat.mul_assoc]at h2;have h3:b^k*ev b (rs.drop k)<b^k*(b^m*2^u):=by omega
 have h4:=Nat.lt_of_mul_lt_mul_left h3;rw[Nat.mul_comm]at hV;omega
theorem r_y (b n:Nat)(xs:List Nat):ev b (xs++List.replicate n 0)=ev b xs:=by
 rw[a_o,a_3];simp
theorem Got.up {w w1 w':World}{t:TypeId}{K:IntKind}{A:Option Addr}{c:Nat}{zs:List Nat}(h:Got w1 w' t K A c zs)(hb:Below w.heap.size w w1):Got w w' t K A c zs:=
 Got.of_own h.1 hb.size (hb.trans (h.2.mono hb.size))
theorem g_7 (g p cap d l m:Nat)(B:Option Addr)(zs ys:List Nat)(w:World){V:Nat}(har:Ar w g p 85 zs)(hr:Rd w .u64 B ys)(hl:zs.length=l)(hy:ys.length=m)(hzl:l=m+1)(h2:2<=m)
  (hoff:Off (Seg g p l) B m) (ly:Low 18446744073709551616 ys) (hV:ev 18446744073709551616 ys=V) (hfit:ev 18446744073709551616 (zs.drop 1)<V) (hm:m<=1099511627776):
  Calls Tryz.prog 204 #[.slice (some ⟨g,p,none⟩) l cap,.slice B m d] w (ToPost w g p l (ev 18446744073709551616 zs) V):=by
 subst hl hy hV;exact f_h g p cap d 0 B zs ys w har hr hzl h2 hoff ly hfit hm
theorem q_i {w w':World}{g2 K u x V:Nat}{D rs:List Nat}{A3:Option Addr}{c3:Nat}(hb:Blk w' g2 85 .u64 D)(hg:w.heap.size<=g2)(hw:Below w.heap.size w w')(hK:D.length=K)(hm:K<=9223372036854775807)(ld:Low 18446744073709551616 D)
  (s1:ev 18446744073709551616 D=x*2^u / (V*2^u)) (s2:ev 18446744073709551616 rs=x*2^u%(V*2^u)) (G:Got w w' 85 .u64 A3 c3 (cn 18446744073709551616 (ev 18446744073709551616 rs / 2^u))):
  QrPost (x / V) (x%V) w (.returned (.tuple #[.slice (some ⟨g2,0,none⟩) (sl D) K,.slice A3 (cn 18446744073709551616 (ev 18446744073709551616 rs / 2^u)).length c3])) w':=by
 have hp:0<2^u:=Nat.pow_pos (by omega);have e2:ev 18446744073709551616 rs / 2^u=x%V:=by rw[s2,Nat.mul_mod_mul_right,Nat.mul_div_cancel _ hp]
 have e1:ev 18446744073709551616 D=x / V:=by rw[s1,Nat.mul_div_mul_right _ _ hp]
 have hg2:=c_l (b:=18446744073709551616) (by omega) hb hg hw (by omega) ld;have hs:=c_p _ (by omega) ld;rw[e1]at hg2 hs;rw[e2]at G ⊢;subst hK;exact⟨_,_,_,_,by rw[hs],hg2,G⟩
theorem f_z (A B:Option Addr)(n m c d l:Nat)(xs ys:List Nat)(w:World)(hx:Rd w .u64 A xs)(hy:Rd w .u64 B ys)(hxn:xs.length=n)(hyn:ys.length=m)(hm:m=l+1)(h2:2<=m)(hmn:m<=n)
  (hc:n<=c) (hc':c<=9223372036854775807) (hd:m<=d) (hd':d<=9223372036854775807) (lx:Low 18446744073709551616 xs) (ly:Low 18446744073709551616 ys) (ht:nth ys l≠0) (bn:n<=549755813888):
  Calls Tryz.prog 181 #[.slice A n c,.slice B m d] w (QrPost (ev 18446744073709551616 xs / ev 18446744073709551616 ys) (ev 18446744073709551616 xs%ev 18446744073709551616 ys) w):=by
 have yt:=ly.any (by omega) l;obtain⟨ae,rfl,_,c1⟩:=hy.at (k:=l) (by omega);obtain⟨u,hu⟩:∃u,u=64 - bl (nth ys l):=⟨_,rfl⟩;obtain⟨hu64,hlen,hnorm,hVm⟩:=q_j ly (show ys.length=l+1 by omega) ht hu;have hxb:=b_y lx;rw[hxn]at hxb;have HXN:=Lib.hid hxn;have HYN:=Lib.hid hyn;have HU:=Lib.hid hu;have HM:=Lib.hid hm;have v1:(m:Int) - 1=(l:Int):=by omega
 have v2:l<m:=by omega
 clear hxn hyn hu hm;go_enter Tryz.func181,Tryz.ntmps181
 go_wp2_with fail
 refine(d_h _ yt _).mono ?_;rintro e w' ⟨rfl,rfl⟩;rw[<-HU.out];clear c1
 go_wp2_with fail
 refine(g_e _ m d ys u 0 u _ hy HYN.out hd hd' ly (by omega) (by omega) (by omega) (by omega)).mono ?_;rintro e w1 ⟨B1,d1,rfl,G1⟩;rw[hlen,<-HM.out];have r1:=G1.rd;have cap1:=G1.cap;rw[hlen,<-HM.out]at cap1;have blk1:=G1.block';have low1:=c_s 18446744073709551616 (ev 18446744073709551616 ys*2^u) (by omega);have ev1:=e_o 18446744073709551616 (ev 18446744073709551616 ys*2^u) (by omega);have len1:=hlen;rw[<-HM.out]at len1 hVm;have bel1:=G1.2;generalize cn 18446744073709551616 (ev 18446744073709551616 ys*2^u)=bs at *;have hx1:=hx.below bel1;clear G1 hx hlen hy;have LEN1:=Lib.hid len1;have EV1:=Lib.hid ev1;have HB1:=Lib.hid blk1;clear len1 ev1 blk1
 go_wp2_with fail
 refine(g_e _ n c xs u 0 u _ hx1 HXN.out hc hc' lx (by omega) (by omega) (by omega) (by omega)).mono ?_;rintro e w2 ⟨A2,c2,rfl,G2⟩;have r2:=G2.rd;have cap2:=G2.cap;have low2:=c_s 18446744073709551616 (ev 18446744073709551616 xs*2^u) (by omega);have ev2:=e_o 18446744073709551616 (ev 18446744073709551616 xs*2^u) (by omega);have len2:(cn 18446744073709551616 (ev 18446744073709551616 xs*2^u)).length<=n+1:=a_h _ _ _ (by omega) (by
  rw[Nat.pow_succ];refine Nat.lt_of_lt_of_le (Nat.mul_lt_mul_of_pos_right hxb (Nat.pow_pos (by omega))) (Nat.mul_le_mul_left _ ?_);exact Nat.le_of_lt (Nat.lt_of_le_of_lt (Nat.pow_le_pow_right (by omega) (show u<=63 by omega)) (by decide)))
 have bel2:=G2.2;have r1':=r1.below bel2;have bel12:=bel1.trans (bel2.mono bel1.size);have blk2:=G2.block';generalize cn 18446744073709551616 (ev 18446744073709551616 xs*2^u)=sa at *;have EV2:=Lib.hid ev2;have HB2:=Lib.hid blk2;have S12:=Lib.hid bel2.size;have S01:=Lib.hid bel1.size;clear G2 r1 hx1 bel1 bel2 ev2 blk2
 go_wp2_with (at_make;refine a_e _ rfl _ _ 29 rfl 85 .u64 8 Tryz.underlying29 info_u64 _ _ _ _ (n+1) rfl rfl (by omega) (by omega) (by omega) (by omega) ?_)
 intro w3 hb3 hw3 hz3;have HZ3:=Lib.hid hz3;have ar3:=Ar.of_wb (c_t hb3);have r1'':=r1'.below hw3;have r2':=r2.below hw3;have bel3:=bel12.trans (hw3.mono bel12.size);clear hz3 hb3 r1' r2 hw3 bel12;have SL2:=Lib.hid (show(List.replicate (n+1) 0).length=n+1 from by simp)
 go_wp2_with (refine a_r rfl (.tmp 35) (.tmp 36) _ _ rfl 85 Tryz.underlying29 (by kernel_rfl) A2 (n+1) (n+1) sa.length c2 w2.heap.size 0 85 _ sa rfl rfl SL2.out (Lib.hid rfl) len2 ar3 r2' low2 (Seg w2.heap.size 0 (n+1)) (fun j hj=>⟨rfl,Nat.le_add_right _ _,by simp;omega⟩) ?_)
 intro w4 ar4 T4 Z4;have off4:Off (Seg w2.heap.size 0 (n+1)) B1 bs.length:=fun ad ha j hj hs=>by
  have h1:=hs.1;rw[a_b]at h1
  have:=(HB1.out ad ha).2
  have:=S12.out;omega
 have r3:=r1''.tch T4 off4;have bel4:Below w.heap.size w w4:=bel3.trans (T4.below bel3.size fun a hs=>by rw[hs.1];have:=S12.out;have:=S01.out;omega);have HZ4:=Lib.hid Z4;obtain⟨K,hK⟩:∃K,K=n - m+1:=⟨_,rfl⟩;have u1:(n:Int) - (m:Int)+1=(K:Int):=by omega
 have hKn:K<=n:=by omega
 have HK:=Lib.hid (show K+m=n+1 by omega);have hrs:ev 18446744073709551616 (sa++List.replicate (n+1 - sa.length) 0)=ev 18446744073709551616 xs*2^u:=by rw[r_y];exact EV2.out
 have HRS:=Lib.hid hrs;have HRL:=Lib.hid (show(sa++List.replicate (n+1 - sa.length) 0).length=n+1 by simp;omega);generalize sa++List.replicate (n+1 - sa.length) 0=rs at *;have hst:=n_k (V:=ev 18446744073709551616 ys*2^u) (u:=u) (by omega) HRL.out (show K+l=n by have:=HK.out;have:=HM.out;omega) hxb (Nat.le_trans (Nat.mul_le_mul_right _ (Nat.le_trans (Nat.pow_le_pow_right (by omega) (show u<=63 by omega)) (by decide:2^63<=9223372036854775808))) hnorm) hrs;have HST:=Lib.hid hst;clear hrs hst Z4 T4 off4 r1'' r2' ar3 hK hxb hnorm SL2 bel3 u1;have u1:(n:Int) - (m:Int)+1=(K:Int):=by have:=HK.out;omega
 go_wp2_with (at_make;refine a_e _ rfl _ _ 29 rfl 85 .u64 8 Tryz.underlying29 info_u64 _ _ _ _ K rfl rfl (by omega) (by omega) (by omega) (by omega) ?_)
 intro w5 hb5 hw5 hz5;have r5:=r3.below hw5;have ar5:=ar4.below hw5;have wb5:=c_t hb5;have bel5:=bel4.trans (hw5.mono bel4.size);have HG:Hid (w2.heap.size<w4.heap.size/\w.heap.size<=w2.heap.size):=Lib.hid (by have:=HZ4.out;have:=HZ3.out;have:=S12.out;have:=S01.out;omega);have HBA:Hid (∀ad,B1=some ad->ad.block<w2.heap.size):=Lib.hid (fun ad ha=>by have:=(HB1.out ad ha).2;have:=S12.out;omega);clear hz5 r3 ar4 hb5 bel4 hw5;generalize w2.heap.size=g1 at *;generalize w4.heap.size=g2 at *
 go_wp2_with fail
 go_loopw [11] (fun i wr=>∃k:Nat,k<=K/\i= .int .i64 ((k:Int) - 1)/\BsRel w g1 g2 n m (ev 18446744073709551616 ys*2^u) (ev 18446744073709551616 xs*2^u) B1 bs k wr) (fun i _=>(intOf i+1).toNat)
 case atStart=>exact⟨K,Nat.le_refl _,rfl,rs,[],HRL.out,by simpa using HK.out,HST,by rw[ev];simpa using HRS,ar5,by simpa using wb5,r5,bel5⟩
 case round=>
  obtain⟨k,hk,rfl,rs,D,hlr,hkl,hf,hX,ha,hb,hr,hw⟩:=hrel;rcases Nat.eq_zero_or_pos k with rfl|hpos
  ·have hDl:D.length=K:=by have:=HK.out;omega
   simp only[List.replicate_zero,List.nil_append]at hb;have hrx:=ha.rd;have hlow:=ha.low;obtain⟨s1,s2⟩:=r_6 (k:=0) (m:=0) hf.out hX.out;have S1:=Lib.hid s1;have S2:=Lib.hid s2;have HDL:=Lib.hid hDl;have HL:=Lib.hid hlr;clear hf hX ha hr s1 s2 hDl hlr hkl hk
   go_wp2_with fail
   refine(j_9 _ (n+1) (n+1) rs u 0 u _ hrx HL.out (Nat.le_refl _) (by omega) hlow (by omega) (by omega) (by omega) (by omega)).mono ?_;rintro e w6 ⟨A3,c3,rfl,G3⟩;have hb6:=hb.1.below G3.2 hb.1.lt;have G3':=G3.up hw;have hw6:=G3'.2;have ld:=hb.2;clear G3 hb hw hrx hlow
   go_wp2_with fail
   refine(a_s _ K K D _ hb6.rd0 HDL.out (Nat.le_refl _) (by omega) ld (by omega)).mono ?_;rintro e w' ⟨rfl,rfl⟩;have P:=Lib.hid (q_i (u:=u) hb6 (by have:=HG.out;omega) hw6 HDL.out (by omega) ld S1.out S2.out G3')
   go_wp2_with fail
   go_ret2
   exact P.out
  ·obtain⟨i,rfl⟩:∃i,k=i+1:=⟨k - 1,by omega⟩;rw[show(((i+1:Nat):Int) - 1)=(i:Int)from by omega];have hi:i<K:=by omega
   have hle:i+m+1<=n+1:=by omega
   have HL:=Lib.hid hlr;have HKL:=Lib.hid hkl;clear hlr hkl;have hle2:i+m+1<=rs.length:=by have:=HL.out;omega
   obtain⟨q1,q2⟩:=o_b (m:=m) hle2 hf.out;have az:=(ha.sub i (m+1) (by omega));rw[Nat.zero_add]at az;have hoff:Off (Seg g1 i (m+1)) B1 m:=fun ad ha j hj hs=>by
    have h1:=hs.1;rw[a_b]at h1
    have:=HBA.out ad ha;omega
   have Q1:=Lib.hid q1;have Q2:=Lib.hid q2;have AZ:=Lib.hid az;have HOFF:=Lib.hid hoff;clear q1 q2 az hoff hle2
   go_wp2_with fail
   rw[show i+m+1 - i=m+1 by omega];refine(g_7 g1 i _ _ (m+1) m B1 _ bs wr AZ.out hr Q1.out LEN1.out rfl h2 HOFF.out low1 EV1.out Q2.out (by omega)).mono ?_;intro e w6 hto;obtain⟨q,rfl,⟨v0,hcell⟩,hfree,hnext⟩:=BsRel.next HG.out.1 HG.out.2 HBA.out HL.out HKL.out hVm hf hX ha hb hr hw hto;clear hto ha hb hr hw hf hX
   go_wp2_with fail
   go_roundw
   case rel=>exact⟨i,by omega,rfl,hnext⟩
   case measure=>simp[intOf]
end
end Go.Proofs.YtfhbdlegkdbmfaaGreat
