/- Pq10 -/
import Derived.Test.YtfhbdlegkdbmfaaGreatPq08
import Derived.Test.YtfhbdlegkdbmfaaGreatPq09
set_option linter.unusedVariables false
set_option linter.unusedSimpArgs false
set_option linter.unusedSectionVars false
set_option maxRecDepth 100000
set_option maxHeartbeats 8000000
namespace Go.Proofs.YtfhbdlegkdbmfaaGreat
section
open Go.RowKit
theorem n_q (p q r s:Nat){b:Bool}(hb:((q:Int)==0)=b)(w:World):
  Calls Tryz.prog 151 #[.agg #[.int .u64 p,.int .u64 q,.int .u64 r,.int .u64 s]] w fun e w'=>e= .returned (.bool b)/\Below w.heap.size w w':=by
 have hW:=(Below.refl w.heap.size w).alloc (Nat.le_refl _) (.cells #[.int .u64 p,.int .u64 q,.int .u64 r,.int .u64 s] 162);go_enter Tryz.func151,Tryz.ntmps151
 go_wp2_with fail
 go_ret
 exact⟨rfl,hW⟩
theorem j_2 {f s0 u:Nat}(hu:u<64)(hf:f*2^u<18446744073709551616)(hs:s0<18446744073709551616)(hfB:f<18446744073709551616):
  bits .or .u64 (IntKind.u64.wrap ((f:Int)*2^u)) ((s0:Int) / 2^(64 - u))=(((f*18446744073709551616+s0) / 2^(64 - u):Nat):Int):=by
 obtain⟨_,_,g3,_⟩:=g_b (x:=s0) (u:=u) (c:=0) hs hu (Nat.pow_pos (by omega));have hv:=h_3 (x:=f) (u:=u) (c:=s0 / 2^(64 - u)) hfB hu g3;rw[f_e,hv,Nat.mod_eq_of_lt hf];have e:(18446744073709551616:Nat)=2^u*2^(64 - u):=d_t u hu;have e2:f*18446744073709551616+s0=s0+2^(64 - u)*(f*2^u):=by rw[e];grind
 rw[e2,Nat.add_mul_div_left _ _ (Nat.pow_pos (by omega)),Nat.add_comm]
theorem m_l {zs:List Nat}{m u:Nat}(lz:Low 18446744073709551616 zs)(hz:zs.length=m+2):(nth zs (m+1)*18446744073709551616+nth zs m) / 2^(64 - u)=ev 18446744073709551616 zs / (18446744073709551616^m*2^(64 - u)):=by
 have z1:=a_f 18446744073709551616 zs m;have z2:=a_f 18446744073709551616 zs (m+1);have zl:=e_r lz (by omega) m;rw[show m+1+1=zs.length from by omega,b_p]at z2;have e:ev 18446744073709551616 zs / 18446744073709551616^m=nth zs (m+1)*18446744073709551616+nth zs m:=by
  have h:ev 18446744073709551616 zs=pre 18446744073709551616 zs m+18446744073709551616^m*(nth zs (m+1)*18446744073709551616+nth zs m):=by
   rw[z2,z1,show(18446744073709551616:Nat)^(m+1)=18446744073709551616^m*18446744073709551616 from Nat.pow_succ ..];generalize(18446744073709551616:Nat)^m=P;grind
  rw[h,Nat.add_mul_div_left _ _ (Nat.pow_pos (by omega)),Nat.div_eq_of_lt zl,Nat.zero_add]
 rw[<-Nat.div_div_eq_div_mul,e]
theorem x_a {b m:Nat}{zs us:List Nat}(hb:0<b)(lz:Low b zs)(hz:zs.length=m+1)(hu:us.length=m+1)(h:ev b us<=ev b zs):nth us m<=nth zs m:=by
 have z1:=a_f b zs m;have u1:=a_f b us m;have zl:=e_r lz hb m;rw[show m+1=zs.length from hz.symm,b_p]at z1;rw[show m+1=us.length from hu.symm,b_p]at u1;rcases Nat.lt_or_ge (nth zs m) (nth us m)with h1|h1
 ·exfalso
  have:b^m*(nth zs m+1)<=b^m*nth us m:=Nat.mul_le_mul_left _ h1;rw[Nat.mul_add,Nat.mul_one]at this;omega
 ·exact h1
def LePost (a b:Nat)(w:World)(e:Ending)(w':World):Prop:=
 ∃X Y:Nat,e= .returned (.tuple #[.int .u64 (X:Int),.int .u64 (Y:Int)])/\X<18446744073709551616/\0<X/\Y<=X/\Hid (∃K,(X*K<=a/\a<X*K+K)/\(Y*K<=b/\b<Y*K+K))/\Sees w w'
theorem m_z {a K:Nat}(hK:0<K):a / K*K<=a/\a<a / K*K+K:=by
 have h1:=Nat.div_add_mod a K;have h2:=Nat.mod_lt a hK;rw[Nat.mul_comm]at h1;omega
theorem i_r (A B:Option Addr)(n m c d:Nat)(zs us:List Nat)(w:World)(hz:Rd w .u64 A zs)(hu:Rd w .u64 B us)(hzl:zs.length=n)(hul:us.length=n)(hm:n=m+2)(lz:Low 18446744073709551616 zs)(lu:Low 18446744073709551616 us)
  (ht:nth zs (m+1)≠0) (hle:ev 18446744073709551616 us<=ev 18446744073709551616 zs) (bn:n<=1099511627776):
  Calls Tryz.prog 184 #[.slice A n c,.slice B n d] w (LePost (ev 18446744073709551616 zs) (ev 18446744073709551616 us) w):=by
 obtain⟨i1,hi1⟩:∃i,i=m+1:=⟨_,rfl⟩;have htl:=x_a (m:=m+1) (by omega) lz (by omega) (by omega) hle;obtain⟨ad,rfl,_,c0⟩:=hz.at (k:=m) (by omega);have c1:=hz.cell rfl (k:=i1) (by omega);obtain⟨ae,rfl,_,d0⟩:=hu.at (k:=m) (by omega);have d1:=hu.cell rfl (k:=i1) (by omega);have b0:=lz.any (by omega) m;have b1:=lz.any (by omega) i1;have e0:=lu.any (by omega) m;have e1:=lu.any (by omega) i1;obtain⟨u,hu'⟩:∃u,u=64 - bl (nth zs (m+1)):=⟨_,rfl⟩;have hb64:bl (nth zs (m+1))<=64:=bl_le.2 (by have:=lz.any (b:=18446744073709551616) (by omega) (m+1);simpa using this);have hb0:0<bl (nth zs (m+1)):=bl_lt.2 (by simp;omega);have hu64:u<64:=by omega
 have hf:nth zs (m+1)*2^u<18446744073709551616:=by
  have h1:=bl_le.1 (Nat.le_refl (bl (nth zs (m+1))));have e:(18446744073709551616:Nat)=2^bl (nth zs (m+1))*2^u:=by rw[<-Nat.pow_add,show bl (nth zs (m+1))+u=64 from by omega]
  rw[e];exact Nat.mul_lt_mul_of_pos_right h1 (Nat.pow_pos (by omega))
 have hg:nth us (m+1)*2^u<18446744073709551616:=Nat.lt_of_le_of_lt (Nat.mul_le_mul_right _ htl) hf;rw[<-hi1]at hf hg hu';have w1:=j_2 hu64 hf b0 b1;have w2:=j_2 hu64 hg e0 e1;have hK:0<18446744073709551616^m*2^(64 - u):=Nat.mul_pos (Nat.pow_pos (by omega)) (Nat.pow_pos (by omega));have n1:=m_l (u:=u) lz (show zs.length=m+2 by omega);have n2:=m_l (u:=u) lu (show us.length=m+2 by omega);rw[<-hi1]at n1 n2;rw[n1]at w1;rw[n2]at w2;have q1:=m_z (a:=ev 18446744073709551616 zs) hK;have q2:=m_z (a:=ev 18446744073709551616 us) hK;have q3:ev 18446744073709551616 us / (18446744073709551616^m*2^(64 - u))<=ev 18446744073709551616 zs / (18446744073709551616^m*2^(64 - u)):=Nat.div_le_div_right hle;have q4:ev 18446744073709551616 zs / (18446744073709551616^m*2^(64 - u))<18446744073709551616:=by
  rw[<-n1];refine(Nat.div_lt_iff_lt_mul (Nat.pow_pos (by omega))).2 ?_;have e:(18446744073709551616:Nat)=2^u*2^(64 - u):=d_t u hu64;have h1:nth zs i1+1<=2^(64 - u):=by
   have h2:nth zs i1*2^u<2^(64 - u)*2^u:=by rw[Nat.mul_comm (2^(64 - u)),<-e];exact hf
   exact Nat.lt_of_mul_lt_mul_right h2
  have h3:(nth zs i1+1)*18446744073709551616<=2^(64 - u)*18446744073709551616:=Nat.mul_le_mul_right _ h1;rw[Nat.add_mul,Nat.one_mul,Nat.mul_comm (2^(64 - u))]at h3;omega
 have q5:0<ev 18446744073709551616 zs / (18446744073709551616^m*2^(64 - u)):=by
  refine Nat.div_pos ?_ hK;have h1:(2:Nat)^(64 - u)<=18446744073709551616:=by
   have:(2:Nat)^(64 - u)<=2^64:=Nat.pow_le_pow_right (by omega) (by omega);simpa using this
  have h2:=a_f 18446744073709551616 zs (m+1);rw[show m+1+1=zs.length from by omega,b_p]at h2;have h3:18446744073709551616^(m+1)<=18446744073709551616^(m+1)*nth zs (m+1):=Nat.le_mul_of_pos_right _ (by omega);have h4:18446744073709551616^m*2^(64 - u)<=18446744073709551616^m*18446744073709551616:=Nat.mul_le_mul_left _ h1;rw[Nat.pow_succ]at h2 h3;omega
 have PH:=Lib.hid (show ∃K,(ev 18446744073709551616 zs / (18446744073709551616^m*2^(64 - u))*K<=ev 18446744073709551616 zs/\ev 18446744073709551616 zs<ev 18446744073709551616 zs / (18446744073709551616^m*2^(64 - u))*K+K)/\
  (ev 18446744073709551616 us / (18446744073709551616^m*2^(64 - u))*K<=ev 18446744073709551616 us/\ev 18446744073709551616 us<ev 18446744073709551616 us / (18446744073709551616^m*2^(64 - u))*K+K)from⟨_,q1,q2⟩)
 clear n1 n2 q1 q2 hK hf hg htl hb64 hb0 hle ht;generalize ev 18446744073709551616 zs / (18446744073709551616^m*2^(64 - u))=X at *;generalize ev 18446744073709551616 us / (18446744073709551616^m*2^(64 - u))=Y at *;generalize nth zs m=s0 at *;generalize nth zs i1=f at *;generalize nth us m=t0 at *;generalize nth us i1=g at *;obtain⟨dn,hdn⟩:∃d,d=64 - u:=⟨_,rfl⟩;rw[<-hdn]at w1 w2;have v1:(n:Int) - 1=(i1:Int):=by omega
 have v2:(n:Int) - 2=(m:Int):=by omega
 have v3:IntKind.i64.wrap ((n:Int) - 1)=(i1:Int):=by rw[IntWalk.i64_in _ (by omega)];omega
 have v4:IntKind.i64.wrap ((n:Int) - 2)=(m:Int):=by rw[IntWalk.i64_in _ (by omega)];omega
 have v5:(64:Int) - (u:Int)=(dn:Int):=by omega
 have v6:IntKind.i64.wrap (64 - (u:Int))=(dn:Int):=by rw[IntWalk.i64_in _ (by omega)];omega
 have k1:i1<n:=by omega
 have k2:m<n:=by omega
 have k3:dn<=64:=by omega
 have HU:=Lib.hid hu';clear hu' hi1 hm hdn hzl hul hz hu lz lu;go_enter Tryz.func184,Tryz.ntmps184
 go_wp2_with fail
 refine(e_8 _ b1 _).mono ?_;rintro e w' ⟨rfl,rfl⟩;rw[<-HU.out]
 go_wp2_with fail
 go_quiet (fail)
 go_wp2_with fail
 go_ret2
 exact⟨X,Y,rfl,q4,q5,q3,PH,⟨_,rfl⟩⟩
theorem p_o {Ok:Nat->Nat->Nat->Nat->Prop}{w w3 w4:World}{e:Ending}(hB:Below (w.heap.size+1) (w.alloc (.cells #[.int .u64 0,.int .u64 0,.int .u64 0,.int .u64 0] 162)) w3)(hz:w3.heap.size=w.heap.size+1)(P:JpPost Ok w3 e w4):
  ∃p q r s:Nat,e= .returned (.agg #[.int .u64 (p:Int),.int .u64 (q:Int),.int .u64 (r:Int),.int .u64 (s:Int)])/\p<18446744073709551616/\q<18446744073709551616/\r<18446744073709551616/\s<18446744073709551616/\1<=p/\1<=s/\Hid (Ok p q r s)/\
   (w4.cell? ⟨w.heap.size,0,none⟩=some (.int .u64 0)/\w4.cell? ⟨w.heap.size,1,none⟩=some (.int .u64 0)/\w4.cell? ⟨w.heap.size,2,none⟩=some (.int .u64 0)/\w4.cell? ⟨w.heap.size,3,none⟩=some (.int .u64 0)/\
    w4.frozen? ⟨w.heap.size,0,none⟩=false/\w4.frozen? ⟨w.heap.size,1,none⟩=false/\w4.frozen? ⟨w.heap.size,2,none⟩=false/\w4.frozen? ⟨w.heap.size,3,none⟩=false/\
    ((((w4.setCell ⟨w.heap.size,0,none⟩ (.int .u64 (p:Int))).setCell ⟨w.heap.size,1,none⟩ (.int .u64 (q:Int))).setCell ⟨w.heap.size,2,none⟩ (.int .u64 (r:Int))).setCell ⟨w.heap.size,3,none⟩ (.int .u64 (s:Int))).cell? ⟨w.heap.size,0,none⟩=some (.int .u64 (p:Int))/\
    ((((w4.setCell ⟨w.heap.size,0,none⟩ (.int .u64 (p:Int))).setCell ⟨w.heap.size,1,none⟩ (.int .u64 (q:Int))).setCell ⟨w.heap.size,2,none⟩ (.int .u64 (r:Int))).setCell ⟨w.heap.size,3,none⟩ (.int .u64 (s:Int))).cell? ⟨w.heap.size,1,none⟩=some (.int .u64 (q:Int))/\
    ((((w4.setCell ⟨w.heap.size,0,none⟩ (.int .u64 (p:Int))).setCell ⟨w.heap.size,1,none⟩ (.int .u64 (q:Int))).setCell ⟨w.heap.size,2,none⟩ (.int .u64 (r:Int))).setCell ⟨w.heap.size,3,none⟩ (.int .u64 (s:Int))).cell? ⟨w.heap.size,2,none⟩=some (.int .u64 (r:Int))/\
    ((((w4.setCell ⟨w.heap.size,0,none⟩ (.int .u64 (p:Int))).setCell ⟨w.heap.size,1,none⟩ (.int .u64 (q:Int))).setCell ⟨w.heap.size,2,none⟩ (.int .u64 (r:Int))).setCell ⟨w.heap.size,3,none⟩ (.int .u64 (s:Int))).cell? ⟨w.heap.size,3,none⟩=some (.int .u64 (s:Int))/\
    Below w.heap.size w ((((w4.setCell ⟨w.heap.size,0,none⟩ (.int .u64 (p:Int))).setCell ⟨w.heap.size,1,none⟩ (.int .u64 (q:Int))).setCell ⟨w.heap.size,2,none⟩ (.int .u64 (r:Int))).setCell ⟨w.heap.size,3,none⟩ (.int .u64 (s:Int)))):=by
 obtain⟨p,q,r,s,rfl,bp,bq,br,bs,hp,hs,hok,B4⟩:=P;have b1:=((f_2 w 0 0 0 0).below hB (by omega)).below B4 (by omega);have W4:Wb w4 w.heap.size 162 [0,0,0,0]:=⟨b1,low4 (by omega) (by omega) (by omega) (by omega)⟩;obtain⟨z0,z1,z2,z3,_,_,_,_,k0,k1,k2,k3⟩:=wb4 W4;obtain⟨X,T⟩:=h_2 W4 bp bq br bs;obtain⟨y0,y1,y2,y3,_⟩:=wb4 X;have hs4:=B4.size;exact⟨p,q,r,s,rfl,bp,bq,br,bs,hp,hs,hok,z0,z1,z2,z3,k0,k1,k2,k3,y0,y1,y2,y3,(((zb0 w _).trans (hB.mono (by omega))).trans (B4.mono (by omega))).trans (T.below (by omega) fun a h=>by rw[h];exact Nat.le_refl _)⟩
theorem p_p (A B:Option Addr)(n c d:Nat)(zs us:List Nat)(w:World)(hz:Rd w .u64 A zs)(hu:Rd w .u64 B us)(hzl:zs.length=n)(hul:us.length=n)(lz:Low 18446744073709551616 zs)(lu:Low 18446744073709551616 us)
  (hn:0<n) (ht:nth zs (n - 1)≠0) (hle:ev 18446744073709551616 us<=ev 18446744073709551616 zs) (bn:n<=1099511627776):
  Calls Tryz.prog 150 #[.slice A n c,.slice B n d] w (JpPost (Jok (ev 18446744073709551616 zs) (ev 18446744073709551616 us)) w):=by
 have HZL:=Lib.hid hzl;have HUL:=Lib.hid hul;have HT:=Lib.hid ht;have HLE:=Lib.hid hle;clear hzl hul ht hle;rcases Nat.lt_or_ge 1 n with h1|h1
 ·obtain⟨m,hm⟩:∃m,n=m+2:=⟨n - 2,by omega⟩;have HM:=Lib.hid hm;have HT2:Hid (nth zs (m+1)≠0):=Lib.hid (by have:=HT.out;rwa [hm,show m+2 - 1=m+1 by omega]at this);have hne:¬(n=1):=by omega
  have b1:((n:Int)==1)=false:=by rw[beq_eq_false_iff_ne];omega
  clear hm;go_enter Tryz.func150,Tryz.ntmps150
  go_wp2_with fail
  have hz1:=hz.alloc (.cells #[.int .u64 0,.int .u64 0,.int .u64 0,.int .u64 0] 162);have hu1:=hu.alloc (.cells #[.int .u64 0,.int .u64 0,.int .u64 0,.int .u64 0] 162);refine(i_r _ _ n m c d zs us _ hz1 hu1 HZL.out HUL.out HM.out lz lu HT2.out HLE.out bn).mono ?_;rintro e w3 ⟨X,Y,rfl,hX,hX0,hYX,hK,S3⟩;have B0:=Lib.hid (S3.below (w.heap.size+1));have Z3:w3.heap.size=w.heap.size+1:=by obtain⟨n,rfl⟩:=S3;simp
  clear S3 hz1 hu1 hz hu
  go_wp2_with fail
  refine(m_9 X Y hYX hX0 hX _).mono ?_;intro e w4 P;obtain⟨p,q,r,s,rfl,bp,bq,br,bs,hp,hs,hok,R⟩:=p_o B0.out Z3 P;obtain⟨z0,z1,z2,z3,k0,k1,k2,k3,y0,y1,y2,y3,BB⟩:=R;have HB:=Lib.hid BB;have HOK:Hid (Jok (ev 18446744073709551616 zs) (ev 18446744073709551616 us) p q r s):=Lib.hid (by
   obtain⟨K,k1,k2⟩:=hK.out;exact hok.out K _ _ k1 k2)
  clear BB P
  go_wp2_with fail
  refine bodyPost_ret (v:=.agg #[.int .u64 (p:Int),.int .u64 (q:Int),.int .u64 (r:Int),.int .u64 (s:Int)]) (by simp[results,Tryz.results150,go_sem,y0,y1,y2,y3]) rfl ?_;exact⟨p,q,r,s,rfl,bp,bq,br,bs,hp,hs,HOK,HB.out⟩
 ·obtain rfl:n=1:=by omega
  obtain⟨X,hX⟩:∃X,zs=[X]:=List.length_eq_one_iff.1 HZL.out;obtain⟨Y,hY⟩:∃Y,us=[Y]:=List.length_eq_one_iff.1 HUL.out;subst hX hY;have e1:ev 18446744073709551616 [X]=X:=by simp[ev]
  have e2:ev 18446744073709551616 [Y]=Y:=by simp[ev]
  have hX0:0<X:=by have:=HT.out;simp[nth]at this;omega
  have hYX:Y<=X:=by have:=HLE.out;rwa [e1,e2]at this
  have hX:X<18446744073709551616:=lz.head;rw[e1,e2];have B0:=Lib.hid (Below.refl (w.heap.size+1) (w.alloc (.cells #[.int .u64 0,.int .u64 0,.int .u64 0,.int .u64 0] 162)));have hz1:=hz.alloc (.cells #[.int .u64 0,.int .u64 0,.int .u64 0,.int .u64 0] 162);have hu1:=hu.alloc (.cells #[.int .u64 0,.int .u64 0,.int .u64 0,.int .u64 0] 162);obtain⟨ad,rfl,l1,c0⟩:=hz1.at (k:=0) (by simp);obtain⟨ae,rfl,l2,d0⟩:=hu1.at (k:=0) (by simp);rw[show ad.add 0=ad by unfold Addr.add;simp,show nth [X] 0=X from rfl]at c0;rw[show ae.add 0=ae by unfold Addr.add;simp,show nth [Y] 0=Y from rfl]at d0;clear e1 e2 HZL HUL HT HLE hz hu hz1 hu1;go_enter Tryz.func150,Tryz.ntmps150
  go_wp2_with fail
  obtain⟨w1,hw1⟩:∃w1,w1=w.alloc (.cells #[.int .u64 0,.int .u64 0,.int .u64 0,.int .u64 0] 162):=⟨_,rfl⟩;have Z1:w1.heap.size=w.heap.size+1:=by rw[hw1];simp
  rw[<-hw1]at c0 d0 l1 l2 ⊢;have HW1:=Lib.hid hw1;have HZ1:=Lib.hid Z1;clear hw1 Z1;go_still_tail 6,(by kernel_rfl)
  change wpList _ _ _ _ _ w1.drew;obtain⟨w2,hw2⟩:∃w2,w2=w1.drew:=⟨_,rfl⟩;rw[<-hw2];have Z2:Hid (w2.heap.size=w.heap.size+1):=Lib.hid (by rw[hw2];exact HZ1.out);have B2:Hid (Below (w.heap.size+1) (w.alloc (.cells #[.int .u64 0,.int .u64 0,.int .u64 0,.int .u64 0] 162)) w2):=Lib.hid (by rw[hw2,<-HW1.out];exact(Below.refl _ _).drew);clear hw2 c0 d0 l1 l2 B0
  go_wp2_with fail
  refine(k_g X Y hYX hX0 hX _).mono ?_;intro e w4 P;obtain⟨p,q,r,s,rfl,bp,bq,br,bs,hp,hs,hok,R⟩:=p_o B2.out Z2.out P;obtain⟨z0,z1,z2,z3,k0,k1,k2,k3,y0,y1,y2,y3,BB⟩:=R;have HB:=Lib.hid BB;clear BB P
  go_wp2_with fail
  refine bodyPost_ret (v:=.agg #[.int .u64 (p:Int),.int .u64 (q:Int),.int .u64 (r:Int),.int .u64 (s:Int)]) (by simp[results,Tryz.results150,go_sem,y0,y1,y2,y3]) rfl ?_;exact⟨p,q,r,s,rfl,bp,bq,br,bs,hp,hs,hok,HB.out⟩
def NbPost (v:Nat)(w:World)(e:Ending)(w':World):Prop:=
 ∃g,e= .returned (.slice (some ⟨g,0,none⟩) (cn 18446744073709551616 v).length (cn 18446744073709551616 v).length)/\w.heap.size<=g/\Blk w' g 85 .u64 (cn 18446744073709551616 v)/\Below w.heap.size w w'
theorem s_a (A:Option Addr)(n c:Nat)(xs:List Nat)(w:World)(hx:Rd w .u64 A xs)(hxn:xs.length=n)
  (hc:n<=c) (hc':c<=9223372036854775807) (lx:Low 18446744073709551616 xs) (bx:n<=1099511627776):
  Calls Tryz.prog 117 #[.slice A n c] w (NbPost (ev 18446744073709551616 xs) w):=by
 have sx:sl xs<=n:=hxn ▸ b_o xs;have HX:=Lib.hid hxn;have ht:=n_z 18446744073709551616 (by omega) xs lx;have hl:(xs.take (sl xs)).length=sl xs:=by simp[Nat.min_eq_left (b_o xs)]
 have HT:=Lib.hid ht;have HL:=Lib.hid hl;clear hxn ht hl;go_enter Tryz.func117,Tryz.ntmps117
 go_wp2_with fail
 refine(a_e _ _ _ xs _ hx HX.out (by omega) (by omega)).mono ?_;rintro e w' ⟨rfl,rfl⟩
 go_wp2_with (at_make;refine a_g _ rfl _ _ 29 rfl 85 .u64 8 Tryz.underlying29 info_u64 _ _ _ _ (sl xs) rfl rfl (by omega) (by omega) (by omega) (by omega) ?_)
 intro w1 hb1 hw1 hz1;have HZ:=Lib.hid hz1;clear hz1
 go_wp2_with (refine wpList_copy_splice rfl (.tmp 9) (.tmp 10) _ _ rfl 85 Tryz.underlying29 (by kernel_rfl) (some ⟨w.heap.size,0,none⟩) A (sl xs) (sl xs) (sl xs) c rfl rfl w.heap.size 0 (vs .u64 (List.replicate (sl xs) 0)) 85 hb1 (vs .u64 (xs.take (sl xs))) ?_ ?_ ?_ (o_h _ _) w.heap.size w hw1 (Nat.le_refl _) ?_)
 ·rw[a_i,HL.out];simp
 ·intro hp;rw[a_i]at hp;obtain⟨ad,h1,_,h3⟩:=((hx.take (sl xs)).below hw1) hp;exact⟨ad,h1,fun j v hv=>by
   rcases Nat.lt_or_ge j (xs.take (sl xs)).length with hj|hj
   ·rw[d_k hj]at hv;rw[h3 j hj,hv]
   ·rw[List.getElem?_eq_none (by rw[a_i];exact hj)]at hv;cases hv⟩
 ·rw[a_i,a_i,HL.out];simp
 ·intro w2 hb2 hw2
  go_wp2
  go_ret
  have hb3:Blk w2 w.heap.size 85 .u64 (xs.take (sl xs)):=by
   have:=hb2.out;rw[h_a (by rw[a_i,a_i,HL.out];simp)]at this;exact this
  rw[<-HT.out]at hb3;exact⟨w.heap.size,by rw[HT.out,HL.out];rfl,Nat.le_refl _,hb3,hw2⟩
theorem Wb.part {S:Addr->Prop}{w w':World}{g n:Nat}{t:TypeId}{La zs:List Nat}(h:Wb w g t La)(ht:Tch S w w')(ha:Ar w' g 0 t zs)(hz:zs.length=n)(hn:n<=La.length)(hS:∀j,n<=j->¬S ⟨g,j,none⟩):Wb w' g t (zs++La.drop n):=by
 obtain⟨L',h1,h2,h3⟩:=ht.blk g t La h;obtain⟨L'',k1,k2,k3⟩:=ha;obtain rfl:=k1.one h1;have e:L''=zs++La.drop n:=by
  refine f_b (by simp;omega) fun j hj=>?_;by_cases hlt:j<zs.length
  ·rw[a_6 hlt,<-k3 j hlt,Nat.zero_add]
  ·rw[a_q (by omega),b_j,h3 j (hS j (by omega)),show n+(j - zs.length)=j by omega]
 rwa [e]at h1
theorem ev_pad' (xs:List Nat)(n:Nat):ev 18446744073709551616 (xs++List.replicate n 0)=ev 18446744073709551616 xs:=by
 rw[a_3,b_z];simp
def StPost (w:World)(base g n D:Nat)(La:List Nat)(e:Ending)(w':World):Prop:=
 ∃zs:List Nat,e= .returned (.tuple #[])/\zs.length=n/\Hid (ev 18446744073709551616 zs=D)/\Wb w' g 85 (zs++La.drop n)/\Tch (Seg g 0 n) w w'
theorem x_j {w w1 w2:World}{base g n:Nat}{La xs:List Nat}(W:Wb w g 85 La)(hn:n<=La.length)(hB:Below w.heap.size w w1)(hP:FiPost w1 g 0 n xs (.returned (.tuple #[])) w2)(hx:xs.length<=n):StPost w base g n (ev 18446744073709551616 xs) La (.returned (.tuple #[])) w2:=by
 obtain⟨_,ha,ht,_⟩:=hP;have W1:Wb w1 g 85 La:=⟨W.1.below hB W.1.lt,W.2⟩;refine⟨_,rfl,by simp;omega,Lib.hid (ev_pad' xs _),W1.part ht ha (by simp;omega) hn fun j hj hs=>by have:=hs.2.2;simp at this;omega,(Tch.of_below _ hB).trans ht⟩
theorem n_c (g n cap d m x y:Nat)(B:Option Addr)(La:List Nat)(w:World)(base:Nat)(W:Wb w g 85 La)(hn:n<=La.length)(hcap:n<=cap)(hx:ev 18446744073709551616 (La.take n)=x)(hcm:cap<=9223372036854775807)(bn:n<=549755813888)(hy:Nv w B m d y)(hm:m<=n)(h0:0<y):
  Calls Tryz.prog 152 #[.slice (some ⟨g,0,none⟩) n cap,.slice B m d] w (StPost w base g n (x%y) La):=by
 have A0:Ar w g 0 85 (La.take n):=(Ar.of_wb W).take n hn;have hl0:(La.take n).length=n:=by simp;omega
 have hxv:Nv w (some ⟨g,0,none⟩) n cap x:=⟨_,A0.rd,hl0,hcap,hcm,A0.low,hx⟩;have hxl:=hxv.lt;have hlen:(cn 18446744073709551616 (x%y)).length<=n:=a_p _ _ _ (by omega) (Nat.lt_of_le_of_lt (Nat.mod_le _ _) hxl);have HL0:=Lib.hid hl0;have E:Hid (∀w1 w2:World,Below w.heap.size w w1->FiPost w1 g 0 n (cn 18446744073709551616 (x%y)) (.returned (.tuple #[])) w2->StPost w base g n (x%y) La (.returned (.tuple #[])) w2):=
  Lib.hid (fun w1 w2 h1 h2=>by have:=x_j (base:=base) W hn h1 h2 hlen;rwa [g_v _ _ (by omega)]at this)
 have low:=d_6 18446744073709551616 (x%y) (by omega);clear hl0 hx hxl;go_enter Tryz.func152,Tryz.ntmps152
 go_wp2_with fail
 refine(j_0 hxv hy (by omega) (by omega) h0).mono ?_;rintro e w1 ⟨A1,c1,rfl,G1⟩;have A1':=A0.below G1.2;have r1:=G1.rd;have E1:=Lib.hid (fun w2=>E.out w1 w2 G1.2);clear E G1 A0 hxv hy W;generalize cn 18446744073709551616 (x%y)=us at *;obtain⟨k,hk⟩:∃k,k=us.length:=⟨_,rfl⟩;rw[<-hk]at hlen;rw[<-hk];have HK:=Lib.hid hk.symm;clear hk;have hS:∀j,j<k->Seg g 0 n ⟨g,0+j,none⟩:=fun j hj=>⟨rfl,Nat.zero_le _,by simp;omega⟩;have HS:=Lib.hid hS;have hS2:∀j,j<n - k->Seg g k (n - k) ⟨g,k+j,none⟩:=fun j hj=>⟨rfl,Nat.le_add_right _ _,Nat.add_lt_add_left hj _⟩;have HS2:=Lib.hid hS2;have hl2:((us++(La.take n).drop k).drop k).length=n - k:=by have:=HK.out;have:=HL0.out;simp;omega
 have HL2:=Lib.hid hl2;have he:∀w2 w3:World,Ar w2 g 0 85 (us++(La.take n).drop k)->Tch (Seg g 0 n) w1 w2->w2.heap.size=w1.heap.size->Ar w3 g k 85 (List.replicate (n - k) 0)->Tch (Seg g k (n - k)) w2 w3->w3.heap.size=w2.heap.size->
   StPost w base g n (x%y) La (.returned (.tuple #[])) w3:=by
  have:=HK.out;subst this;exact fun w2 w3 h1 t1 z1 h2 t2 z2=>E1.out w3 (m_t HL0.out hlen h1 t1 z1 (by rw[Nat.zero_add];exact h2) (by rw[Nat.zero_add];exact t2) z2)
 have HE:=Lib.hid he;clear hS hS2 hl2 he E1;by_cases hc:k=cap
 ·obtain rfl:k=n:=by omega
  subst hc;have h0':k - k=0:=by omega
  have H0:=Lib.hid h0';clear h0'
  go_wp2_with (refine b_b rfl (.tmp 13) (.tmp 14) _ _ rfl 85 Tryz.underlying29 (by kernel_rfl) A1 k k k c1 g 0 85 _ us rfl rfl HL0.out HK.out (Nat.le_refl _) A1' r1 low (Seg g 0 k) HS.out ?_)
  intro w2 h1 t1 z1;have Z1:=Lib.hid z1;clear z1;have e1:us=us++(La.take k).drop k:=by rw[List.drop_take];simp
  rw[e1]at h1;have h2:=h1.drop k (by have:=HK.out;simp;omega);rw[Nat.zero_add]at h2;have H1:=Lib.hid h1;clear h1 e1
  go_wp2_with (refine c_a rfl (.tmp 18) _ rfl 85 Tryz.underlying29 zero_u64 _ 0 _ g k 85 _ rfl (fun h=>by omega) (HL2.out.trans H0.out) h2 (Seg g k (k - k)) (fun j hj=>by omega) ?_)
  intro w3 h3 t3 z3;have Z3:=Lib.hid z3;clear z3
  go_wp2
  go_end0
  exact HE.out _ _ H1.out t1 Z1.out (by rw[H0.out];exact h3) (by rw[H0.out];exact t3) Z3.out
 ·have hlt:k<cap:=by omega
  clear hc
  go_wp2_with (refine b_b rfl (.tmp 13) (.tmp 14) _ _ rfl 85 Tryz.underlying29 (by kernel_rfl) A1 n cap k c1 g 0 85 _ us rfl rfl HL0.out HK.out hlen A1' r1 low (Seg g 0 n) HS.out ?_)
  intro w2 h1 t1 z1;have Z1:=Lib.hid z1;clear z1;have h2:=h1.drop k (by have:=HK.out;have:=HL0.out;simp;omega);rw[Nat.zero_add]at h2
  go_wp2_with (refine c_a rfl (.tmp 18) _ rfl 85 Tryz.underlying29 zero_u64 _ (n - k) _ g k 85 _ rfl (fun h=>rfl) HL2.out h2 (Seg g k (n - k)) HS2.out ?_)
  intro w3 h3 t3 z3;have Z3:=Lib.hid z3;clear z3
  go_wp2
  go_end0
  exact HE.out _ _ h1 t1 Z1.out h3 t3 Z3.out
end
section
open Go.RowKit
structure Two (w:World) (base G g n ga gb ca cb:Nat) (La Lb:List Nat):Prop where
 ne:ga≠gb
 ba:base<=ga
 bb:base<=gb
 la:La.length=ca
 lb:Lb.length=cb
 na:n<=ca
 nb:n<=cb
 ma:ca<=137438953472
 mb:cb<=137438953472
 wa:Wb w ga 85 La
 wb:Wb w gb 85 Lb
 gcd:Nat.gcd (ev 18446744073709551616 (La.take n)) (ev 18446744073709551616 (Lb.take n))=G
 sum:ev 18446744073709551616 (La.take n)+ev 18446744073709551616 (Lb.take n)=g
def ShRel (w:World)(base G g:Nat)(s0 s6:Value)(wr:World):Prop:=
 ∃(n ga gb ca cb:Nat) (La Lb:List Nat),s0= .slice (some ⟨ga,0,none⟩) n ca/\s6= .slice (some ⟨gb,0,none⟩) n cb/\Two wr base G g n ga gb ca cb La Lb/\ev 18446744073709551616 (Lb.take n)<=ev 18446744073709551616 (La.take n)/\(n=0\/nth La (n - 1)≠0)/\Below base w wr
def ShMid (w:World)(base G g n ga gb ca cb:Nat)(wx:World):Prop:=
 ∃(g':Nat) (La Lb:List Nat),g'<g/\Two wx base G g' n ga gb ca cb La Lb/\Below base w wx
def ShEx (w:World)(base G g n:Nat)(s0 s6:Value)(wx:World):Prop:=
 ∃(g' ga gb ca cb:Nat) (La Lb:List Nat),s0= .slice (some ⟨ga,0,none⟩) n ca/\s6= .slice (some ⟨gb,0,none⟩) n cb/\g'<g/\Two wx base G g' n ga gb ca cb La Lb/\ev 18446744073709551616 (Lb.take n)<=ev 18446744073709551616 (La.take n)/\Below base w wx
theorem Two.swap {w:World}{base G g n ga gb ca cb:Nat}{La Lb:List Nat}(h:Two w base G g n ga gb ca cb La Lb):Two w base G g n gb ga cb ca Lb La:=
 ⟨h.ne.symm,h.bb,h.ba,h.lb,h.la,h.nb,h.na,h.mb,h.ma,h.wb,h.wa,by rw[Nat.gcd_comm];exact h.gcd,by rw[Nat.add_comm];exact h.sum⟩
theorem Two.below {w w':World}{base G g n ga gb ca cb:Nat}{La Lb:List Nat}(h:Two w base G g n ga gb ca cb La Lb)(hb:Below w.heap.size w w'):Two w' base G g n ga gb ca cb La Lb:=
 { h with wa:=⟨h.wa.1.below hb h.wa.1.lt,h.wa.2⟩,wb:=⟨h.wb.1.below hb h.wb.1.lt,h.wb.2⟩ }
theorem Two.nva {w:World}{base G g n ga gb ca cb:Nat}{La Lb:List Nat}(h:Two w base G g n ga gb ca cb La Lb):Nv w (some ⟨ga,0,none⟩) n ca (ev 18446744073709551616 (La.take n)):=
 ⟨_,h.wa.1.rd0.take n,by have:=h.la;have:=h.na;simp;omega,h.na,by have:=h.ma;omega,h.wa.2.take n,rfl⟩
theorem Two.nvb {w:World}{base G g n ga gb ca cb:Nat}{La Lb:List Nat}(h:Two w base G g n ga gb ca cb La Lb):Nv w (some ⟨gb,0,none⟩) n cb (ev 18446744073709551616 (Lb.take n)):=h.swap.nva
theorem o_k {b:Nat}{zs us:List Nat}(hb:2<=b)(lz:Low b zs)(h:ev b us<=ev b zs)(hl:sl zs<=us.length):ev b (us.take (sl zs))=ev b us:=by
 have h1:=b_3 b us (sl zs) hl;have h2:ev b zs<b^sl zs:=by
  have:=c_y (lz.take (sl zs));rw[a_v,h_4]at this;exact this
 unfold pre at h1;rcases Nat.eq_zero_or_pos (ev b (us.drop (sl zs)))with h3|h3
 ·rw[h3,Nat.mul_zero,Nat.add_zero]at h1;exact h1.symm
 ·have:=Nat.le_mul_of_pos_right (b^sl zs) h3;omega
theorem ShEx.next {w wx:World}{base G n:Nat}{ga gb ca cb g':Nat}{La Lb:List Nat}(hT:Two wx base G g' n ga gb ca cb La Lb)(hle:ev 18446744073709551616 (Lb.take n)<=ev 18446744073709551616 (La.take n))(hB:Below base w wx):
  ShRel w base G g' (.slice (some ⟨ga,0,none⟩) (sl (La.take n)) ca) (.slice (some ⟨gb,0,none⟩) (sl (La.take n)) cb) wx/\sl (La.take n)<=cb/\sl (La.take n)<=ca:=by
 have hl:(La.take n).length=n:=by have:=hT.la;have:=hT.na;simp;omega
 have hlb:(Lb.take n).length=n:=by have:=hT.lb;have:=hT.nb;simp;omega
 have hs:=b_o (La.take n);rw[hl]at hs;have e1:ev 18446744073709551616 (La.take (sl (La.take n)))=ev 18446744073709551616 (La.take n):=by
  have:=a_v 18446744073709551616 (La.take n);rwa [List.take_take,Nat.min_eq_left hs]at this
 have e2:ev 18446744073709551616 (Lb.take (sl (La.take n)))=ev 18446744073709551616 (Lb.take n):=by
  have:=o_k (by omega) (hT.wa.2.take n) hle (by omega);rwa [List.take_take,Nat.min_eq_left hs]at this
 refine⟨⟨sl (La.take n),ga,gb,ca,cb,La,Lb,rfl,rfl,{ hT with na:=by have:=hT.na;omega,nb:=by have:=hT.nb;omega,gcd:=by rw[e1,e2];exact hT.gcd,sum:=by rw[e1,e2];exact hT.sum },by rw[e1,e2];exact hle, ?_,hB⟩,by have:=hT.nb;omega,by have:=hT.na;omega⟩;rcases Nat.eq_zero_or_pos (sl (La.take n))with h0|h0
 ·exact .inl h0
 ·have:=f_k h0;rw[c_p (by omega)]at this;exact .inr this
def ShPost (w:World)(base G:Nat)(e:Ending)(w':World):Prop:=
 ∃(n ga ca y k:Nat) (La:List Nat) (B:Option Addr) (cb:Nat),e= .returned (.tuple #[.slice (some ⟨ga,0,none⟩) n ca,.slice B k cb])/\base<=ga/\La.length=ca/\n<=ca/\ca<=137438953472/\Wb w' ga 85 La/\(n=0\/nth La (n - 1)≠0)/\
  k<=1/\(k=0\/0<y)/\Nv w' B k cb y/\Hid (Nat.gcd (ev 18446744073709551616 (La.take n)) y=G)/\Below base w w'
theorem e_9 {zs L:List Nat}{n:Nat}(h:zs.length=n):(zs++L.drop n).take n=zs:=by rw[List.take_append_of_le_length (by omega),List.take_of_length_le (by omega)]
theorem g_t {zs L:List Nat}{n c:Nat}(h:zs.length=n)(hl:L.length=c)(hn:n<=c):(zs++L.drop n).length=c:=by simp;omega
theorem s_h {w w6 w7:World}{base G g n ga gb ca cb x y:Nat}{La Lb:List Nat}{e:Ending}(T:Two w6 base G g n ga gb ca cb La Lb)(hx:ev 18446744073709551616 (La.take n)=x)(hy:ev 18446744073709551616 (Lb.take n)=y)(hle:y<=x)(h0:0<y)(hB:Below base w w6)(hbase:base<=w6.heap.size)
  (h:StPost w6 base ga n (x%y) La e w7):e= .returned (.tuple #[])/\ShMid w base G g n ga gb ca cb w7:=by
 obtain⟨zs,rfl,hl,hz,W,t⟩:=h;have wb:=T.wb.tch t fun j _ h=>T.ne h.1.symm;have hm:=Nat.mod_lt x h0;have ez:ev 18446744073709551616 ((zs++La.drop n).take n)=x%y:=by rw[e_9 hl];exact hz.out
 refine⟨rfl,x%y+y,zs++La.drop n,Lb,by rw[<-T.sum,hx,hy];omega,{ T with la:=g_t hl T.la T.na,wa:=W,wb:=wb,gcd:=?_,sum:=?_ },hB.trans (t.below hbase fun a h=>by rw[h.1];exact T.ba)⟩
 ·rw[ez,hy,<-Nat.gcd_rec,Nat.gcd_comm,<-hx,<-hy];exact T.gcd
 ·rw[ez,hy]
theorem s_g {w w6 w7:World}{base G g n ga gb ca cb x y D1 D2 p q r s:Nat}{La Lb:List Nat}{e:Ending}(T:Two w6 base G g n ga gb ca cb La Lb)(hx:ev 18446744073709551616 (La.take n)=x)(hy:ev 18446744073709551616 (Lb.take n)=y)(h0:0<y)(hB:Below base w w6)(hq:1<=q)(hp:1<=p)(hs:1<=s)
  (h1:x*p=y*q+D1) (h2:y*s=x*r+D2) (h3:s*D1+q*D2=x) (h4:r*D1+p*D2=y) (h:TkPost w6 base ga gb n D1 D2 La Lb e w7):e= .returned (.tuple #[])/\ShMid w base G g n ga gb ca cb w7:=by
 obtain⟨us1,us2,rfl,l1,l2,e1,e2,W1,W2,B,_⟩:=h;have ez1:ev 18446744073709551616 ((us1++La.drop n).take n)=D1:=by rw[e_9 l1];exact e1.out
 have ez2:ev 18446744073709551616 ((us2++Lb.drop n).take n)=D2:=by rw[e_9 l2];exact e2.out
 refine⟨rfl,D1+D2,us1++La.drop n,us2++Lb.drop n,by rw[<-T.sum,hx,hy];exact p_n h3 h4 hq hp hs h0,{ T with la:=g_t l1 T.la T.na,lb:=g_t l2 T.lb T.nb,wa:=W1,wb:=W2,gcd:=?_,sum:=?_ },hB.trans B⟩
 ·rw[ez1,ez2,s_p h1 h2 h3 h4,<-hx,<-hy];exact T.gcd
 ·rw[ez1,ez2]
theorem i_a (g1 n k c2 x y G base:Nat)(A2:Option Addr)(La us:List Nat)(w:World)(W:Wb w g1 85 La)(hl:La.length=n)(hx:ev 18446744073709551616 La=x)(htop:n=0\/nth La (n - 1)≠0)(hn:n<=137438953472)
  (hr:Rd w .u64 A2 us) (hk:us.length=k) (hkn:k<=n) (lu:Low 18446744073709551616 us) (hy:ev 18446744073709551616 us=y) (hyx:y<=x) (hb:base<=g1) (hG:Nat.gcd x y=G):
  Calls Tryz.prog 118 #[.slice (some ⟨g1,0,none⟩) n n,.slice A2 k c2] w (ShPost w base G):=by
 have hlt:=W.1.lt;have HK:=Lib.hid hk;have HS:=Lib.hid (show(List.replicate n 0).length=n from by simp);have HL:=Lib.hid hl;have HX:=Lib.hid hx;have HY:=Lib.hid hy;have HG:=Lib.hid hG;have HTOP:=Lib.hid htop;clear hk hl hx hy hG htop;go_enter Tryz.func118,Tryz.ntmps118
 go_wp2_with (at_make;refine a_g _ rfl _ _ 29 rfl 85 .u64 8 Tryz.underlying29 info_u64 _ _ _ _ n rfl rfl (by omega) (by omega) (by omega) (by omega) ?_)
 intro w1 hb1 hw1 hz1;have HZ1:=Lib.hid hz1;have ar1:=Ar.of_wb (d_8 hb1);have W1:=d_8 hb1;have hr1:=hr.below hw1;have Wa:Wb w1 g1 85 La:=⟨W.1.below hw1 hlt,W.2⟩;have HW1:=Lib.hid W1;have HWa:=Lib.hid Wa;have HBe:=Lib.hid hw1;clear hz1 hb1 hr W W1 Wa hw1
 go_wp2_with (refine b_b rfl (.tmp 11) (.tmp 12) _ _ rfl 85 Tryz.underlying29 (by kernel_rfl) A2 n n k c2 w.heap.size 0 85 _ us rfl rfl HS.out HK.out hkn ar1 hr1 lu (Seg w.heap.size 0 n) (fun j hj=>⟨rfl,Nat.zero_le _,by simp;omega⟩) ?_)
 intro w2 ar2 T2 Z2;have hB2:Below base w w2:=(HBe.out.mono (by omega)).trans (T2.below (B:=base) (by have:=HZ1.out;omega) fun a h=>by rw[h.1];omega);have Wa2:=HWa.out.tch T2 fun j _ h=>by have:=h.1;simp at this;omega
 have Wb2:=HW1.out.part (n:=n) T2 ar2 (by have:=HK.out;simp;omega) (by simp) fun j hj h=>by have:=h.2.2;simp at this;omega
 have T0:Hid (ShRel w base G (x+y) (.slice (some ⟨g1,0,none⟩) n n) (.slice (some ⟨w.heap.size,0,none⟩) n n) w2):=Lib.hid (by
  have hlen:(us++List.replicate (n - k) 0).length=n:=by have:=HK.out;simp;omega
  rw[List.drop_of_length_le (by simp),List.append_nil]at Wb2;have ea:La.take n=La:=List.take_of_length_le (by have:=HL.out;omega);have eb:(us++List.replicate (n - k) 0).take n=us++List.replicate (n - k) 0:=List.take_of_length_le (by omega);have evb:ev 18446744073709551616 (us++List.replicate (n - k) 0)=y:=by rw[ev_pad'];exact HY.out
  refine⟨n,g1,w.heap.size,n,n,La,us++List.replicate (n - k) 0,rfl,rfl,⟨by omega,hb,by omega,HL.out,hlen,Nat.le_refl _,Nat.le_refl _,hn,hn,Wa2,Wb2, ?_, ?_⟩, ?_,HTOP.out,hB2⟩
  ·rw[ea,eb,evb,HX.out];exact HG.out
  ·rw[ea,eb,evb,HX.out]
  ·rw[ea,eb,evb,HX.out];exact hyx)
 clear ar2 T2 Z2 hB2 Wa2 Wb2 ar1 hr1
 go_wp2_with fail
 go_loopg [0,6] (x+y) (fun g s0 s6 wr=>ShRel w base G g s0 s6 wr)
 case atStart=>exact T0.out
 case round=>
  clear T0;obtain⟨n,ga,gb,ca,cb,La,Lb,rfl,rfl,hT,hle,htop,hB⟩:=hrel;have hlb:(Lb.take n).length=n:=by have:=hT.lb;have:=hT.nb;simp;omega
  have hla:(La.take n).length=n:=by have:=hT.la;have:=hT.na;simp;omega
  have hma:=hT.ma;have hmb:=hT.mb;have hna:=hT.na;have hnb:=hT.nb;have rb:=hT.wb.1.rd0.take n;have ra:=hT.wa.1.rd0.take n;have lb:=hT.wb.2.take n;have lA:=hT.wa.2.take n;have hsl:=b_o (Lb.take n);rw[hlb]at hsl;have HLB:=Lib.hid hlb;have HLA:=Lib.hid hla;have HT:=Lib.hid hT;have HBw:=Lib.hid hB;have HTO:=Lib.hid htop;have HLE:=Lib.hid hle;clear hlb hla hT hB htop hle
  go_wp2_with fail
  refine(a_u _ n cb (Lb.take n) _ rb HLB.out hnb (by omega) lb (by omega)).mono ?_;rintro e w' ⟨rfl,rfl⟩;obtain⟨q,hq⟩:∃q,q=sl (Lb.take n):=⟨_,rfl⟩;rw[<-hq]at hsl;rw[<-hq];have HQ:=Lib.hid hq;clear hq;by_cases h1:1<q
  ·have htopn:nth (La.take n) (n - 1)≠0:=by
    rw[c_p (by omega)];rcases HTO.out with h|h
    ·omega
    ·exact h
   have hbpos:0<ev 18446744073709551616 (Lb.take n):=by
    rcases Nat.eq_zero_or_pos (ev 18446744073709551616 (Lb.take n))with h|h
    ·have:=c_5 18446744073709551616 (by omega) lb;rw[h,d_f]at this
     have:=HQ.out;simp at *;omega
    ·exact h
   have HTOPN:=Lib.hid htopn;have HBP:=Lib.hid hbpos;clear htopn hbpos
   go_wp2_with fail
   refine(p_p _ _ n ca cb (La.take n) (Lb.take n) _ ra rb HLA.out HLB.out lA lb (by omega) HTOPN.out HLE.out (by omega)).mono ?_;rintro e w4 ⟨p,q',r,s,rfl,hp,hq',hr,hs,hp1,hs1,hJ,B4⟩;have T4:=Lib.hid (HT.out.below B4);have hbase:base<=wr.heap.size:=by have:=HT.out.wa.1.lt;have:=HT.out.ba;omega
   have BB4:=Lib.hid (HBw.out.trans (B4.mono hbase));have hbase4:base<=w4.heap.size:=by have:=B4.size;omega
   have Wj:=f_2 w4 p q' r s;obtain⟨j0,j1,j2,j3,_⟩:=wb4 ⟨Wj,low4 hp hq' hr hs⟩;have B5:Below w4.heap.size w4 (w4.alloc (.cells #[.int .u64 p,.int .u64 q',.int .u64 r,.int .u64 s] 162)):=(Below.refl _ _).alloc (Nat.le_refl _) _;have T5:=Lib.hid (T4.out.below B5);have BB5:=Lib.hid (BB4.out.trans (B5.mono hbase4));have Z5:Hid ((w4.alloc (.cells #[.int .u64 p,.int .u64 q',.int .u64 r,.int .u64 s] 162)).heap.size=w4.heap.size+1):=Lib.hid (by simp);clear B4 B5 hbase ra rb;obtain⟨w5,hw5⟩:∃w5,w5=w4.alloc (.cells #[.int .u64 p,.int .u64 q',.int .u64 r,.int .u64 s] 162):=⟨_,rfl⟩;have WJ5:Hid (Wb w5 w4.heap.size 162 [p,q',r,s]):=Lib.hid (by rw[hw5];exact⟨Wj,low4 hp hq' hr hs⟩);clear Wj;obtain⟨bq,hbq⟩:∃b,((q':Int)==0)=b:=⟨_,rfl⟩;have HBQ:=Lib.hid hbq;clear hbq
   go_wp2_with fail
   rw[<-hw5]at T5 BB5 Z5 j0 j1 j2 j3 ⊢;clear hw5;refine(n_q p q' r s HBQ.out _).mono ?_;rintro e w6 ⟨rfl,B6⟩;have hbase5:base<=w5.heap.size:=by have:=Z5.out;omega
   have T6:=Lib.hid (T5.out.below B6);have BB6:=Lib.hid (BB5.out.trans (B6.mono hbase5));have WJ6:Hid (Wb w6 w4.heap.size 162 [p,q',r,s]):=Lib.hid ⟨WJ5.out.1.below B6 WJ5.out.1.lt,WJ5.out.2⟩;have hbase6:base<=w6.heap.size:=by have:=B6.size;omega
   clear B6 j0 j1 j2 j3 T5 BB5 Z5 WJ5 hbase5 T4 BB4 hbase4;go_upto_if 22 with fail
   go_cut [] (ShMid w base G gk n ga gb ca cb)
   case first=>
    cases bq
    ·have hq1:1<=q':=by
      have:=HBQ.out;rw[beq_eq_false_iff_ne]at this;omega
     obtain⟨j0,j1,j2,j3,_⟩:=wb4 WJ6.out;have hjump:Hid (∃D1 D2,ev 18446744073709551616 (La.take n)*p=ev 18446744073709551616 (Lb.take n)*q'+D1/\ev 18446744073709551616 (Lb.take n)*s=ev 18446744073709551616 (La.take n)*r+D2/\s*D1+q'*D2=ev 18446744073709551616 (La.take n)/\r*D1+p*D2=ev 18446744073709551616 (Lb.take n)):=Lib.hid (by
      obtain⟨D1,D2,d1,d2,d3,d4,_⟩:=hJ.out;exact⟨D1,D2,d1,d2,d3,d4⟩)
     obtain⟨D1,D2,d1,d2,d3,d4⟩:=hjump.out;have ltA:=c_y lA;have ltB:=c_y lb;rw[HLA.out]at ltA;rw[HLB.out]at ltB;have F1:D1<18446744073709551616^n:=by
      have:=Nat.le_mul_of_pos_left D1 hs1;omega
     have F2:D2<18446744073709551616^n:=by
      have:=Nat.le_mul_of_pos_left D2 hp1;omega
     have DD1:=Lib.hid d1;have DD2:=Lib.hid d2;have DD3:=Lib.hid d3;have DD4:=Lib.hid d4;have FF1:=Lib.hid F1;have FF2:=Lib.hid F2;clear d1 d2 d3 d4 F1 F2 ltA ltB hjump
     go_wp2_with fail
     refine(l_a w6 base ga gb n ca cb p q' r s D1 D2 La Lb T6.out.wa T6.out.wb T6.out.ne T6.out.ba T6.out.bb (by rw[T6.out.la];exact hna) (by rw[T6.out.lb];exact hnb) (by omega) hp hq' hr hs DD1.out FF1.out DD2.out FF2.out).mono ?_;intro e w7 htk;obtain⟨rfl,hmid⟩:=s_g T6.out rfl rfl HBP.out BB6.out hq1 hp1 hs1 DD1.out DD2.out DD3.out DD4.out htk;clear htk;have HMID:=Lib.hid hmid;clear hmid
     go_wp2_with fail
     go_meet
     exact HMID.out
    ·go_wp2_with fail
     refine(n_c ga n ca cb n _ _ _ La w6 base T6.out.wa (by rw[T6.out.la];exact hna) hna rfl (by omega) (by omega) T6.out.nvb (Nat.le_refl _) HBP.out).mono ?_;intro e w7 hst;obtain⟨rfl,hmid⟩:=s_h T6.out rfl rfl HLE.out HBP.out BB6.out hbase6 hst;clear hst;have HMID:=Lib.hid hmid;clear hmid
     go_wp2_with fail
     go_meet
     exact HMID.out
   case rest=>
    obtain⟨g',Lc,Ld,hlt',T7,B7⟩:=hcut;clear T6 BB6 WJ6 hbase6 hJ HBQ lA lb;obtain⟨rc,hrc⟩:∃r,cmpN (ev 18446744073709551616 (Lc.take n)) (ev 18446744073709551616 (Ld.take n))=r:=⟨_,rfl⟩;have HRC:=Lib.hid hrc;have HT7:=Lib.hid T7;have HB7:=Lib.hid B7;have hbase7:base<=wc.heap.size:=by have:=T7.wa.1.lt;have:=T7.ba;omega
    have HLT:=Lib.hid hlt';clear hrc T7 B7 hlt'
    go_wp2_with fail
    refine(q_g HT7.out.nva HT7.out.nvb HRC.out).mono ?_;rintro e w8 ⟨rfl,B8⟩;have HT8:=Lib.hid (HT7.out.below B8);have HB8:=Lib.hid (HB7.out.trans (B8.mono hbase7));clear B8 HT7 HB7 hbase7;go_upto_if 33 with fail
    go_cut [0,6] (ShEx w base G gk n)
    case first=>
     by_cases hlt2:ev 18446744073709551616 (Lc.take n)<ev 18446744073709551616 (Ld.take n)
     ·have hr1:rc= -1:=by rw[<-HRC.out,g_1 hlt2]
      subst hr1;have HLT2:=Lib.hid hlt2;clear hlt2
      go_wp2_with fail
      go_meet
      exact⟨g',gb,ga,cb,ca,Ld,Lc,rfl,rfl,HLT.out,HT8.out.swap,Nat.le_of_lt HLT2.out,HB8.out⟩
     ·have hr1:¬rc<0:=by
       rw[<-HRC.out];rcases Nat.lt_or_eq_of_le (Nat.le_of_not_lt hlt2)with h|h
       ·rw[g_2 h];omega
       ·rw[g_3 h.symm];omega
      have HLT2:=Lib.hid hlt2;clear hlt2
      go_wp2_with fail
      go_meet
      exact⟨g',ga,gb,ca,cb,Lc,Ld,rfl,rfl,HLT.out,HT8.out,Nat.le_of_not_lt HLT2.out,HB8.out⟩
    case rest=>
     clear HT8 HB8 HLT HRC;obtain⟨g2,ha,hb',ca2,cb2,Le,Lf,rfl,rfl,hlt2,T9,hle9,B9⟩:=hcut;obtain⟨R,hcb,hca⟩:=ShEx.next T9 hle9 B9;have hla9:(Le.take n).length=n:=by have:=T9.la;have:=T9.na;simp;omega
     have hsl9:=b_o (Le.take n);rw[hla9]at hsl9;have r9:=T9.wa.1.rd0.take n;have l9:=T9.wa.2.take n;have hna9:=T9.na;have hma9:=T9.ma;have hmb9:=T9.mb;have HR:=Lib.hid R;have HLA9:=Lib.hid hla9;have HLT2:=Lib.hid hlt2;clear R hla9 hlt2 T9 hle9 B9
     go_wp2_with fail
     refine(a_u _ n ca2 (Le.take n) _ r9 HLA9.out hna9 (by omega) l9 (by omega)).mono ?_;rintro e w' ⟨rfl,rfl⟩;clear r9;generalize sl (Le.take n)=n' at *
     go_wp2_with fail
     go_roundg g2
     case rel=>exact HR.out
     case measure=>exact HLT2.out
  ·have hy1:Nv wr (some ⟨gb,0,none⟩) q cb (ev 18446744073709551616 (Lb.take n)):=by
    refine⟨(Lb.take n).take q,rb.take q, ?_,by omega,by omega,lb.take q, ?_⟩
    ·have:=HLB.out;simp at this ⊢;omega
    ·rw[HQ.out];exact a_v _ _
   have hq0:q=0\/0<ev 18446744073709551616 (Lb.take n):=by
    rcases Nat.eq_zero_or_pos (ev 18446744073709551616 (Lb.take n))with h|h
    ·have:=c_5 18446744073709551616 (by omega) lb;rw[h,d_f,<-HQ.out]at this;exact .inl this
    ·exact .inr h
   have P:Hid (ShPost w base G (.returned (.tuple #[.slice (some ⟨ga,0,none⟩) n ca,.slice (some ⟨gb,0,none⟩) q cb])) wr):=
    Lib.hid ⟨n,ga,ca,_,q,La,_,cb,rfl,HT.out.ba,HT.out.la,hna,hma,HT.out.wa,HTO.out,by omega,hq0,hy1,Lib.hid HT.out.gcd,HBw.out⟩
   clear hy1 ra lA hq0
   go_wp2_with fail
   refine(a_u _ n cb (Lb.take n) _ rb HLB.out hnb (by omega) lb (by omega)).mono ?_;rintro e w' ⟨rfl,rfl⟩;rw[<-HQ.out]
   go_wp2_with fail
   go_ret2
   exact P.out
end
end Go.Proofs.YtfhbdlegkdbmfaaGreat
