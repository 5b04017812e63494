/- Pb24 -/
import Derived.Test.YtlgjjnmmepgafaaPb23
set_option linter.unusedVariables false
set_option linter.unusedSimpArgs false
set_option linter.unusedSectionVars false
set_option maxRecDepth 100000
set_option maxHeartbeats 8000000
namespace Go.Proofs.Ytlgjjnmmepgafaa
open Go.RowKit
theorem r_k {b m:Nat}{zs ys:List Nat}(hb:2<=b)(lz:Low b zs)(hz:zs.length=m+3)(hy:ys.length=m+2):
  ev b zs / ev b ys*(nth ys (m+1)*b+nth ys m)<=nth zs (m+2)*b*b+nth zs (m+1)*b+nth zs m:=by
 have z1:=a_d b zs m;have z2:=a_d b zs (m+1);have z3:=a_d b zs (m+2);have y1:=a_d b ys m;have y2:=a_d b ys (m+1);have zl:=e_i lz (by omega) m;rw[show m+2+1=zs.length from by omega,a_8]at z3;rw[show m+1+1=ys.length from by omega,a_8]at y2;have h1:=Nat.div_mul_le_self (ev b zs) (ev b ys);have hp:0<b^m:=Nat.pow_pos (by omega);generalize ev b zs / ev b ys=q at *;rw[z3,z2,z1,y2,y1,show b^(m+1)=b^m*b from Nat.pow_succ ..,show b^(m+2)=b^m*b*b from by rw[Nat.pow_succ,Nat.pow_succ]]at h1;have h2:q*(nth ys (m+1)*b+nth ys m)*b^m<(nth zs (m+2)*b*b+nth zs (m+1)*b+nth zs m+1)*b^m:=by
  have e1:q*(pre b ys m+b^m*nth ys m+b^m*b*nth ys (m+1))=q*pre b ys m+q*(nth ys (m+1)*b+nth ys m)*b^m:=by
   generalize b^m=P;grind
  have e2:pre b zs m+b^m*nth zs m+b^m*b*nth zs (m+1)+b^m*b*b*nth zs (m+2)+b^m=(nth zs (m+2)*b*b+nth zs (m+1)*b+nth zs m+1)*b^m+pre b zs m:=by
   generalize b^m=P;grind
  rw[e1]at h1;omega
 have:=Nat.lt_of_mul_lt_mul_right h2;omega
theorem p_o {b m:Nat}{zs ys:List Nat}(hb:2<=b)(lz:Low b zs)(ly:Low b ys)(hz:zs.length=m+3)(hy:ys.length=m+2)(h:ev b (zs.drop 1)<ev b ys):
  ev b zs / ev b ys<b/\nth zs (m+2)<=nth ys (m+1):=by
 have h0:=c_v (L:=zs) (q:=0) (by omega);rw[List.drop_zero,Nat.zero_add]at h0;constructor
 ·refine(Nat.div_lt_iff_lt_mul (by omega)).2 ?_;rw[h0,ev]
  have:=lz.any (by omega) 0;have h2:b*(ev b (zs.drop 1)+1)<=b*ev b ys:=Nat.mul_le_mul_left _ h;rw[Nat.mul_add,Nat.mul_one]at h2;omega
 ·have y2:=a_d b ys (m+1);rw[show m+1+1=ys.length from by omega,a_8]at y2;have yl:=e_i ly (by omega) (m+1);have z2:=a_d b (zs.drop 1) (m+1);rw[a_4,show m+1+1=(zs.drop 1).length from by simp;omega,a_8,show 1+(m+1)=m+2 from by omega]at z2;rcases Nat.lt_or_ge (nth ys (m+1)) (nth zs (m+2))with h3|h3
  ·exfalso
   have h4:b^(m+1)*(nth ys (m+1)+1)<=b^(m+1)*nth zs (m+2):=Nat.mul_le_mul_left _ h3;rw[Nat.mul_add,Nat.mul_one]at h4;omega
  ·exact h3
def GsRel (q f z2 z1 t l o:Nat):Prop:=q<=t/\t<18446744073709551616/\l<18446744073709551616/\o<=1/\(o=0->t*f+l=z2*18446744073709551616+z1)
theorem m_q {q f s z2 z1 z0:Nat}(h:q*(f*18446744073709551616+s)<=z2*18446744073709551616*18446744073709551616+z1*18446744073709551616+z0)(hz0:z0<18446744073709551616)(hz1:z1<18446744073709551616)(hlt:z2<f)(hf:f<18446744073709551616):
  GsRel q f z2 z1 ((z2*18446744073709551616+z1) / f) ((z2*18446744073709551616+z1)%f) 0:=by
 have h1:=Nat.div_add_mod (z2*18446744073709551616+z1) f;have h2:=Nat.mod_lt (z2*18446744073709551616+z1) (show 0<f by omega);refine⟨?_,(Nat.div_lt_iff_lt_mul (by omega)).2 ?_,by omega,by omega,fun _=>by rw[Nat.mul_comm];exact h1⟩
 ·refine(Nat.le_div_iff_mul_le (by omega)).2 ?_;rw[Nat.mul_add,<-Nat.mul_assoc]at h;generalize q*f=p at *;generalize q*s=r at *;omega
 ·have:(z2+1)*18446744073709551616<=f*18446744073709551616:=Nat.mul_le_mul_right _ hlt;rw[Nat.mul_comm]at this;omega
theorem r_l {q f z1 l o:Nat}(hq:q<18446744073709551616)(hl:l<18446744073709551616)(ho:o<=1)(h:l+18446744073709551616*o=z1+f):GsRel q f f z1 18446744073709551615 l o:=
 ⟨by omega,by omega,hl,ho,fun h0=>by subst h0;omega⟩
theorem k_t {q f s z2 z1 z0 t l hi lo l' o':Nat}(h:q*(f*18446744073709551616+s)<=z2*18446744073709551616*18446744073709551616+z1*18446744073709551616+z0)(hr:GsRel q f z2 z1 t l 0)(hm:hi*18446744073709551616+lo=t*s)
  (hz0:z0<18446744073709551616) (hlo:lo<18446744073709551616) (hgt:l<hi\/l=hi/\z0<lo) (hl:l'<18446744073709551616) (ho:o'<=1) (ha:l'+18446744073709551616*o'=l+f):1<=t/\GsRel q f z2 z1 (t - 1) l' o':=by
 obtain⟨h1,h2,h3,h4,h5⟩:=hr;have h5:=h5 rfl;have h6:q<t:=by
  rcases Nat.lt_or_ge q t with h6|h6
  ·exact h6
  ·exfalso
   obtain rfl:q=t:=by omega
   rw[Nat.mul_add,<-Nat.mul_assoc,<-hm]at h;generalize q*f=p at *;omega
 obtain⟨t,rfl⟩:∃u,t=u+1:=⟨t - 1,by omega⟩;refine⟨by omega,by omega,by omega,hl,ho,fun h0=>?_⟩;subst h0;rw[Nat.add_mul,Nat.one_mul]at h5;rw[Nat.add_sub_cancel];omega
def GsPost (q:Nat)(w:World)(e:Ending)(w':World):Prop:=∃t:Nat,q<=t/\t<18446744073709551616/\e= .returned (.int .u64 (t:Int))/\Sees w w'
theorem h_k (A B:Option Addr)(N n cap d:Nat)(zs ys:List Nat)(w:World)(hz:Rd w .u64 A zs)(hy:Rd w .u64 B ys)(hzl:zs.length=N)(hyl:ys.length=n)(hN:N=n+1)(h2:2<=n)
  (lz:Low 18446744073709551616 zs) (ly:Low 18446744073709551616 ys) (hfit:ev 18446744073709551616 (zs.drop 1)<ev 18446744073709551616 ys) (hm:n<=1099511627776):
  Calls Try.prog 115 #[.slice A N cap,.slice B n d] w (GsPost (ev 18446744073709551616 zs / ev 18446744073709551616 ys) w):=by
 obtain⟨m,hm2⟩:∃m,n=m+2:=⟨n - 2,by omega⟩;obtain⟨i1,hi1⟩:∃i,i=m+1:=⟨_,rfl⟩;obtain⟨g1,g2⟩:=p_o (m:=m) (by omega) lz ly (by omega) (by omega) hfit;have g3:=r_k (m:=m) (zs:=zs) (ys:=ys) (by omega) lz (by omega) (by omega);rw[<-hm2,<-hi1]at g2 g3;obtain⟨q,hq⟩:∃q,q=ev 18446744073709551616 zs / ev 18446744073709551616 ys:=⟨_,rfl⟩;rw[<-hq]at g1 g3;rw[<-hq];obtain⟨ad,rfl,_,c0⟩:=hz.at (k:=m) (by omega);have c1:=hz.cell rfl (k:=i1) (by omega);have c2:=hz.cell rfl (k:=n) (by omega);obtain⟨ae,rfl,_,d0⟩:=hy.at (k:=m) (by omega);have d1:=hy.cell rfl (k:=i1) (by omega);have b0:=lz.any (by omega) m;have b1:=lz.any (by omega) i1;have b2:=lz.any (by omega) n;have e0:=ly.any (by omega) m;have e1:=ly.any (by omega) i1;generalize nth zs m=z0 at *;generalize nth zs i1=z1 at *;generalize nth zs n=z2 at *;generalize nth ys m=s at *;generalize nth ys i1=f at *;have G3:=Lib.hid g3;have k1:i1<n:=by omega
 have k2:m<n:=by omega
 have k3:n<N:=by omega
 have k4:i1<N:=by omega
 have k5:m<N:=by omega
 have u1:IntKind.i64.wrap ((n:Int) - 1)=(i1:Int):=by rw[IntWalk.i64_in _ (by omega)];omega
 have u2:IntKind.i64.wrap ((n:Int) - 2)=(m:Int):=by rw[IntWalk.i64_in _ (by omega)];omega
 have hN2:N<=1099511627777:=by omega
 clear g3 hq hzl hyl hfit lz ly hz hy hN hm2 hi1;go_enter Try.func115,Try.ntmps115
 go_wp2_with fail
 go_quiet (fail)
 obtain⟨w1,hw1⟩:∃w1,w1=w.drewN nq:=⟨_,rfl⟩;have hs1:Sees w w1:=hw1 ▸ (Sees.refl w).more nq;have c0':w1.cell? (ad.add m)=some (.int .u64 z0):=by rw[hw1];exact c0
 have c1':w1.cell? (ad.add i1)=some (.int .u64 z1):=by rw[hw1];exact c1
 have c2':w1.cell? (ad.add n)=some (.int .u64 z2):=by rw[hw1];exact c2
 rw[<-hw1];have c00:∀x,(w.drewN x).cell? (ad.add m)=some (.int .u64 z0):=fun _=>c0;clear hw1 c0 c1 c2 d0 d1;go_upto_if 30 with fail
 go_cut [8,9,10] (fun v8 v9 v10 wx=>Sees w wx/\∃t l o:Nat,v8= .int .u64 (t:Int)/\v9= .int .u64 (l:Int)/\v10= .int .u64 (o:Int)/\GsRel q f z2 z1 t l o)
 case first=>
  by_cases hlt:z2<f
  ·have hR:=Lib.hid (m_q G3.out b0 b1 hlt e1)
   go_wp2_with fail
   go_quiet ((go_at_call 112;exact e_0 (e_s _ _ _ hlt b1 e1 _)))
   go_wp2
   go_meet
   exact⟨hs1.more _,_,_,_,rfl,rfl,rfl,hR.out⟩
  ·obtain rfl:z2=f:=by omega
   obtain⟨s1,o1,f1,f2,f3,f4⟩:=b_2 z1 z2 b1 b2;have hR:=Lib.hid (r_l g1 f3 f4 f2);clear f2 hlt
   go_wp2
   go_meet
   exact⟨hs1,_,_,_,rfl,rfl,rfl,hR.out⟩
 case rest=>
  obtain⟨hs,t,l,o,rfl,rfl,rfl,hR⟩:=hcut;have c0:wc.cell? (ad.add m)=some (.int .u64 z0):=by obtain⟨x,rfl⟩:=hs;exact c00 x
  clear c00 hs1 c0' c1' c2'
  go_wp2_with fail
  go_loopg [8,9,10] t (fun g v8 v9 v10 wr=>wc=wr/\∃l o:Nat,v8= .int .u64 (g:Int)/\v9= .int .u64 (l:Int)/\v10= .int .u64 (o:Int)/\GsRel q f z2 z1 g l o)
  case atStart=>exact⟨rfl,l,o,rfl,rfl,rfl,hR⟩
  case round=>
   clear hR;obtain⟨rfl,l,o,rfl,rfl,rfl,hR⟩:=hrel;have P:=Lib.hid (show GsPost q w (.returned (.int .u64 (gk:Int))) wc from⟨gk,hR.1,hR.2.1,rfl,hs⟩);have HR:=Lib.hid hR;have l1:=hR.2.1;have l2:=hR.2.2.1;have l3:=hR.2.2.2.1;clear hR hs;rcases Nat.eq_zero_or_pos o with rfl|ho
   ·go_wp2_with fail
    refine(c_0 _ _ l1 e0 _).mono ?_;rintro e w' ⟨hi,lo,rfl,h0,h1,h2,rfl⟩;have H0:=Lib.hid h0;clear h0;rcases Nat.lt_trichotomy hi l with hc|hc|hc
    ·go_wp2_with fail
     go_ret
     exact P.out
    ·have x1:¬(hi<l):=by omega
     have x2:((hi:Int)==(l:Int))=true:=by rw[beq_iff_eq];omega
     have HC:=Lib.hid hc;clear hc;by_cases hd:lo<=z0
     ·go_wp2_with fail
      go_ret
      exact P.out
     ·obtain⟨s1,o1,f1,f2,f3,f4⟩:=b_2 l f l2 e1;obtain⟨n1,n2⟩:=k_t G3.out HR.out H0.out b0 h2 (.inr ⟨HC.out.symm,by omega⟩) f3 f4 f2;have N2:=Lib.hid n2;have v1:IntKind.u64.wrap ((gk:Int) - 1)=((gk - 1:Nat):Int):=by rw[IntKind.wrap_u64];omega
      clear f2 n2
      go_wp2_with fail
      go_roundg (gk - 1)
      case rel=>exact⟨rfl,s1,o1,rfl,rfl,rfl,N2.out⟩
      case measure=>omega
    ·have x1:¬(hi<l):=by omega
     have x2:((hi:Int)==(l:Int))=false:=by rw[beq_eq_false_iff_ne];omega
     obtain⟨s1,o1,f1,f2,f3,f4⟩:=b_2 l f l2 e1;obtain⟨n1,n2⟩:=k_t G3.out HR.out H0.out b0 h2 (.inl hc) f3 f4 f2;have N2:=Lib.hid n2;have v1:IntKind.u64.wrap ((gk:Int) - 1)=((gk - 1:Nat):Int):=by rw[IntKind.wrap_u64];omega
     clear f2 n2 hc
     go_wp2_with fail
     go_roundg (gk - 1)
     case rel=>exact⟨rfl,s1,o1,rfl,rfl,rfl,N2.out⟩
     case measure=>omega
   ·have x1:((o:Int)==0)=false:=by rw[beq_eq_false_iff_ne];omega
    clear ho
    go_wp2_with fail
    go_ret
    exact P.out
theorem n_9 {b l R V t u:Nat}(h:u+V*t=R+b^l*1)(hu:u<b^l)(hV:0<V):R / V+1<=t:=by
 refine(Nat.div_lt_iff_lt_mul hV).2 ?_;rw[Nat.mul_comm];omega
theorem o_a {T R V t u u' c:Nat}(h:u+V*(t+1)=R+T*1)(h2:u'+T*c=u+V)(hc:c<=1):u'+V*t=R+T*(1 - c):=by
 rw[Nat.mul_add,Nat.mul_one]at h;rcases Nat.eq_zero_or_pos c with rfl|h0
 ·omega
 ·obtain rfl:c=1:=by omega
  omega
theorem n_8 {T R V t u:Nat}(h:u+V*t=R+T*0)(ht:R / V<=t)(hV:0<V):t=R / V/\u=R%V:=by
 have h1:t<=R / V:=(Nat.le_div_iff_mul_le hV).2 (by rw[Nat.mul_comm];omega);obtain rfl:t=R / V:=by omega
 have:=Nat.div_add_mod R V;exact⟨rfl,by omega⟩
theorem d_v (g p cap d:Nat)(B:Option Addr)(zs xs:List Nat)(l:Nat)(w:World)(har:Ar w g p 81 zs)(hr:Rd w .u64 B xs)(hl:zs.length=l)(hzl:l=xs.length+1)
  (hoff:Off (Seg g p l) B xs.length) (lx:Low 18446744073709551616 xs) (hm:l<=9223372036854775807):
  Calls Try.prog 117 #[.slice (some ⟨g,p,none⟩) l cap,.slice B xs.length d] w
   (OvPost w g p l (fun u t=>u+t=ev 18446744073709551616 zs+ev 18446744073709551616 xs)):=by
 subst hl;exact f_z g p cap d B zs xs w har hr hzl hoff lx hm
def ToPost (w:World)(g p l R V:Nat)(e:Ending)(w':World):Prop:=
 ∃us:List Nat,e= .returned (.int .u64 ((R / V:Nat):Int))/\us.length=l/\Hid (ev 18446744073709551616 us=R%V)/\Ar w' g p 81 us/\Tch (Seg g p l) w w'/\w'.heap.size=w.heap.size
def ToRel (w:World)(g p l R V t:Nat)(s5 s6:Value)(wr:World):Prop:=
 ∃(us:List Nat) (c:Nat),s5= .int .u64 (t:Int)/\s6= .bool (decide (c=1))/\c<=1/\us.length=l/\R / V<=t/\t<18446744073709551616/\Hid (ev 18446744073709551616 us+V*t=R+18446744073709551616^l*c)/\Ar wr g p 81 us/\
  Tch (Seg g p l) w wr/\wr.heap.size=w.heap.size
theorem f_f (g p cap d n:Nat)(B:Option Addr)(zs ys:List Nat)(w:World)(har:Ar w g p 81 zs)(hr:Rd w .u64 B ys)(hzl:zs.length=ys.length+1)(h2:2<=ys.length)
  (hoff:Off (Seg g p zs.length) B ys.length) (ly:Low 18446744073709551616 ys) (hfit:ev 18446744073709551616 (zs.drop 1)<ev 18446744073709551616 ys) (hm:ys.length<=1099511627776):
  Calls Try.prog 114 #[.slice (some ⟨g,p,none⟩) zs.length cap,.slice B ys.length d] w (ToPost w g p zs.length (ev 18446744073709551616 zs) (ev 18446744073709551616 ys)):=by
 have lz:=har.low;have HZL:=Lib.hid hzl;have hV:0<ev 18446744073709551616 ys:=by omega
 have hm2:zs.length<=9223372036854775807:=by omega
 clear hzl;go_enter Try.func114,Try.ntmps114
 go_wp2_with fail
 refine(h_k _ _ _ _ _ _ zs ys _ har.rd hr rfl rfl HZL.out h2 lz ly hfit hm).mono ?_;rintro e w1 ⟨t,ht,ht2,rfl,hs1⟩;have ha1:=har.below (hs1.below _);have hr1:=hs1.rd hr;have T1:Tch (Seg g p zs.length) w w1:=Tch.of_below _ (hs1.below _);have Z1:w1.heap.size=w.heap.size:=by obtain⟨q,rfl⟩:=hs1;rfl
 have HZ1:=Lib.hid Z1;clear hs1 Z1
 go_wp2_with fail
 refine(f_h g p _ _ B zs ys t _ ha1 hr1 HZL.out hoff ly ht2 hm2).mono ?_;rintro e w2 ⟨c,us,rfl,hc,hul,hF,ha2,T2,Z2⟩;have R0:ToRel w g p zs.length (ev 18446744073709551616 zs) (ev 18446744073709551616 ys) t (.int .u64 (t:Int)) (.bool (decide (c=1))) w2:=
  ⟨us,c,rfl,rfl,hc,hul,ht,ht2,hF,ha2,T1.trans T2,by rw[Z2,HZ1.out]⟩
 have HR0:=Lib.hid R0;clear R0 hul hF ha2 T1 T2 Z2 ha1 hr1 har ht ht2 hc
 go_wp2_with fail
 go_loopg [5,6] t (fun g' v5 v6 wr=>ToRel w g p zs.length (ev 18446744073709551616 zs) (ev 18446744073709551616 ys) g' v5 v6 wr)
 case atStart=>exact HR0.out
 case round=>
  obtain⟨us,c,rfl,rfl,hc,hul,ht,ht2,hF,ha,T,Z⟩:=hrel;have HZ:=Lib.hid Z;have HU:=Lib.hid hul;clear Z hul;rcases Nat.eq_zero_or_pos c with rfl|h0
  ·obtain⟨k1,k2⟩:=n_8 hF.out ht hV;have K1:=Lib.hid k1;have P:=Lib.hid (show ToPost w g p zs.length (ev 18446744073709551616 zs) (ev 18446744073709551616 ys) (.returned (.int .u64 (gk:Int))) wr from⟨us,by rw[<-K1.out],HU.out,Lib.hid k2,ha,T,HZ.out⟩);clear k1 k2 ha T hF ht
   go_wp2_with fail
   go_ret
   exact P.out
  ·obtain rfl:c=1:=by omega
   have hlow:=c_e ha.low;rw[HU.out]at hlow;have hmore:=n_9 hF.out hlow hV;obtain⟨t',ht'⟩:∃t',gk=t'+1:=⟨gk - 1,(Nat.succ_pred_eq_of_pos (Nat.lt_of_lt_of_le (Nat.succ_pos _) hmore)).symm⟩;have hle:ev 18446744073709551616 zs / ev 18446744073709551616 ys<=t':=Nat.le_of_succ_le_succ (Nat.le_trans hmore (Nat.le_of_eq ht'));have v1:IntKind.u64.wrap ((gk:Int) - 1)=(t':Int):=by rw[IntKind.wrap_u64];omega
   have HT:=Lib.hid ht';have ht3:t'<18446744073709551616:=by omega
   have hlt:t'<gk:=by omega
   have hF1:=hF.out;rw[ht']at hF1;have HF1:=Lib.hid hF1;clear hlow hmore hF hF1 ht' ht
   go_wp2_with fail
   refine(d_v g p _ _ B us ys zs.length _ ha (hr.tch T hoff) HU.out HZL.out hoff ly hm2).mono ?_;rintro e w3 ⟨c,us',rfl,hc',hul,hF,ha3,T3,Z3⟩;have hF2:=o_a HF1.out hF.out hc';have HF2:=Lib.hid hF2;clear hF hF2 ha;rcases Nat.eq_zero_or_pos c with rfl|h1
   ·go_wp2_with fail
    go_roundg t'
    case rel=>exact⟨us',1,rfl,rfl,by omega,hul,hle,ht3,HF2,ha3,T.trans T3,by rw[Z3,HZ.out]⟩
    case measure=>exact hlt
   ·obtain rfl:c=1:=by omega
    go_wp2_with fail
    go_roundg t'
    case rel=>exact⟨us',0,rfl,rfl,by omega,hul,hle,ht3,HF2,ha3,T.trans T3,by rw[Z3,HZ.out]⟩
    case measure=>exact hlt
end Go.Proofs.Ytlgjjnmmepgafaa
