/- Pc21 -/
import Derived.Test.YtfhbdlegkdbmfaaGreatPc20
import Derived.Test.YtfhbdlegkdbmfaaGreatPc19
set_option linter.unusedVariables false
set_option linter.unusedSimpArgs false
set_option linter.unusedSectionVars false
set_option maxRecDepth 100000
set_option maxHeartbeats 8000000
namespace Go.Proofs.YtfhbdlegkdbmfaaGreat
section
open Go.RowKit
theorem j_a (p q r s:Nat){b:Bool}(hb:((q:Int)==0)=b)(w:World):
  Calls Tryz.prog 151 #[.agg #[.int .u64 p,.int .u64 q,.int .u64 r,.int .u64 s]] w fun e w'=>e= .returned (.bool b)/\Below w.heap.size w w':=by
 have hW:=(Below.refl w.heap.size w).alloc (Nat.le_refl _) (.cells #[.int .u64 p,.int .u64 q,.int .u64 r,.int .u64 s] 162);go_enter Tryz.func151,Tryz.ntmps151
 go_wp2_with fail
 go_ret
 exact⟨rfl,hW⟩
theorem g_p {f s0 u:Nat}(hu:u<64)(hf:f*2^u<18446744073709551616)(hs:s0<18446744073709551616)(hfB:f<18446744073709551616):
  bits .or .u64 (IntKind.u64.wrap ((f:Int)*2^u)) ((s0:Int) / 2^(64 - u))=(((f*18446744073709551616+s0) / 2^(64 - u):Nat):Int):=by
 obtain⟨_,_,g3,_⟩:=d_9 (x:=s0) (u:=u) (c:=0) hs hu (Nat.pow_pos (by omega));have hv:=f_e (x:=f) (u:=u) (c:=s0 / 2^(64 - u)) hfB hu g3;rw[d_m,hv,Nat.mod_eq_of_lt hf];have e:(18446744073709551616:Nat)=2^u*2^(64 - u):=c_j u hu;have e2:f*18446744073709551616+s0=s0+2^(64 - u)*(f*2^u):=by rw[e];grind
 rw[e2,Nat.add_mul_div_left _ _ (Nat.pow_pos (by omega)),Nat.add_comm]
theorem i_k {zs:List Nat}{m u:Nat}(lz:Low 18446744073709551616 zs)(hz:zs.length=m+2):(nth zs (m+1)*18446744073709551616+nth zs m) / 2^(64 - u)=ev 18446744073709551616 zs / (18446744073709551616^m*2^(64 - u)):=by
 have z1:=a_c 18446744073709551616 zs m;have z2:=a_c 18446744073709551616 zs (m+1);have zl:=c_3 lz (by omega) m;rw[show m+1+1=zs.length from by omega,a_z]at z2;have e:ev 18446744073709551616 zs / 18446744073709551616^m=nth zs (m+1)*18446744073709551616+nth zs m:=by
  have h:ev 18446744073709551616 zs=pre 18446744073709551616 zs m+18446744073709551616^m*(nth zs (m+1)*18446744073709551616+nth zs m):=by
   rw[z2,z1,show(18446744073709551616:Nat)^(m+1)=18446744073709551616^m*18446744073709551616 from Nat.pow_succ ..];generalize(18446744073709551616:Nat)^m=P;grind
  rw[h,Nat.add_mul_div_left _ _ (Nat.pow_pos (by omega)),Nat.div_eq_of_lt zl,Nat.zero_add]
 rw[<-Nat.div_div_eq_div_mul,e]
theorem q_u {b m:Nat}{zs us:List Nat}(hb:0<b)(lz:Low b zs)(hz:zs.length=m+1)(hu:us.length=m+1)(h:ev b us<=ev b zs):nth us m<=nth zs m:=by
 have z1:=a_c b zs m;have u1:=a_c b us m;have zl:=c_3 lz hb m;rw[show m+1=zs.length from hz.symm,a_z]at z1;rw[show m+1=us.length from hu.symm,a_z]at u1;rcases Nat.lt_or_ge (nth zs m) (nth us m)with h1|h1
 ·exfalso
  have:b^m*(nth zs m+1)<=b^m*nth us m:=Nat.mul_le_mul_left _ h1;rw[Nat.mul_add,Nat.mul_one]at this;omega
 ·exact h1
def LePost (a b:Nat)(w:World)(e:Ending)(w':World):Prop:=
 ∃X Y:Nat,e= .returned (.tuple #[.int .u64 (X:Int),.int .u64 (Y:Int)])/\X<18446744073709551616/\0<X/\Y<=X/\Hid (∃K,(X*K<=a/\a<X*K+K)/\(Y*K<=b/\b<Y*K+K))/\Sees w w'
theorem i_t {a K:Nat}(hK:0<K):a / K*K<=a/\a<a / K*K+K:=by
 have h1:=Nat.div_add_mod a K;have h2:=Nat.mod_lt a hK;rw[Nat.mul_comm]at h1;omega
theorem f_q (A B:Option Addr)(n m c d:Nat)(zs us:List Nat)(w:World)(hz:Rd w .u64 A zs)(hu:Rd w .u64 B us)(hzl:zs.length=n)(hul:us.length=n)(hm:n=m+2)(lz:Low 18446744073709551616 zs)(lu:Low 18446744073709551616 us)
  (ht:nth zs (m+1)≠0) (hle:ev 18446744073709551616 us<=ev 18446744073709551616 zs) (bn:n<=1099511627776):
  Calls Tryz.prog 184 #[.slice A n c,.slice B n d] w (LePost (ev 18446744073709551616 zs) (ev 18446744073709551616 us) w):=by
 obtain⟨i1,hi1⟩:∃i,i=m+1:=⟨_,rfl⟩;have htl:=q_u (m:=m+1) (by omega) lz (by omega) (by omega) hle;obtain⟨ad,rfl,_,c0⟩:=hz.at (k:=m) (by omega);have c1:=hz.cell rfl (k:=i1) (by omega);obtain⟨ae,rfl,_,d0⟩:=hu.at (k:=m) (by omega);have d1:=hu.cell rfl (k:=i1) (by omega);have b0:=lz.any (by omega) m;have b1:=lz.any (by omega) i1;have e0:=lu.any (by omega) m;have e1:=lu.any (by omega) i1;obtain⟨u,hu'⟩:∃u,u=64 - bl (nth zs (m+1)):=⟨_,rfl⟩;have hb64:bl (nth zs (m+1))<=64:=bl_le.2 (by have:=lz.any (b:=18446744073709551616) (by omega) (m+1);simpa using this);have hb0:0<bl (nth zs (m+1)):=bl_lt.2 (by simp;omega);have hu64:u<64:=by omega
 have hf:nth zs (m+1)*2^u<18446744073709551616:=by
  have h1:=bl_le.1 (Nat.le_refl (bl (nth zs (m+1))));have e:(18446744073709551616:Nat)=2^bl (nth zs (m+1))*2^u:=by rw[<-Nat.pow_add,show bl (nth zs (m+1))+u=64 from by omega]
  rw[e];exact Nat.mul_lt_mul_of_pos_right h1 (Nat.pow_pos (by omega))
 have hg:nth us (m+1)*2^u<18446744073709551616:=Nat.lt_of_le_of_lt (Nat.mul_le_mul_right _ htl) hf;rw[<-hi1]at hf hg hu';have w1:=g_p hu64 hf b0 b1;have w2:=g_p hu64 hg e0 e1;have hK:0<18446744073709551616^m*2^(64 - u):=Nat.mul_pos (Nat.pow_pos (by omega)) (Nat.pow_pos (by omega));have n1:=i_k (u:=u) lz (show zs.length=m+2 by omega);have n2:=i_k (u:=u) lu (show us.length=m+2 by omega);rw[<-hi1]at n1 n2;rw[n1]at w1;rw[n2]at w2;have q1:=i_t (a:=ev 18446744073709551616 zs) hK;have q2:=i_t (a:=ev 18446744073709551616 us) hK;have q3:ev 18446744073709551616 us / (18446744073709551616^m*2^(64 - u))<=ev 18446744073709551616 zs / (18446744073709551616^m*2^(64 - u)):=Nat.div_le_div_right hle;have q4:ev 18446744073709551616 zs / (18446744073709551616^m*2^(64 - u))<18446744073709551616:=by
  rw[<-n1];refine(Nat.div_lt_iff_lt_mul (Nat.pow_pos (by omega))).2 ?_;have e:(18446744073709551616:Nat)=2^u*2^(64 - u):=c_j u hu64;have h1:nth zs i1+1<=2^(64 - u):=by
   have h2:nth zs i1*2^u<2^(64 - u)*2^u:=by rw[Nat.mul_comm (2^(64 - u)),<-e];exact hf
   exact Nat.lt_of_mul_lt_mul_right h2
  have h3:(nth zs i1+1)*18446744073709551616<=2^(64 - u)*18446744073709551616:=Nat.mul_le_mul_right _ h1;rw[Nat.add_mul,Nat.one_mul,Nat.mul_comm (2^(64 - u))]at h3;omega
 have q5:0<ev 18446744073709551616 zs / (18446744073709551616^m*2^(64 - u)):=by
  refine Nat.div_pos ?_ hK;have h1:(2:Nat)^(64 - u)<=18446744073709551616:=by
   have:(2:Nat)^(64 - u)<=2^64:=Nat.pow_le_pow_right (by omega) (by omega);simpa using this
  have h2:=a_c 18446744073709551616 zs (m+1);rw[show m+1+1=zs.length from by omega,a_z]at h2;have h3:18446744073709551616^(m+1)<=18446744073709551616^(m+1)*nth zs (m+1):=Nat.le_mul_of_pos_right _ (by omega);have h4:18446744073709551616^m*2^(64 - u)<=18446744073709551616^m*18446744073709551616:=Nat.mul_le_mul_left _ h1;rw[Nat.pow_succ]at h2 h3;omega
 have PH:=Lib.hid (show ∃K,(ev 18446744073709551616 zs / (18446744073709551616^m*2^(64 - u))*K<=ev 18446744073709551616 zs/\ev 18446744073709551616 zs<ev 18446744073709551616 zs / (18446744073709551616^m*2^(64 - u))*K+K)/\
  (ev 18446744073709551616 us / (18446744073709551616^m*2^(64 - u))*K<=ev 18446744073709551616 us/\ev 18446744073709551616 us<ev 18446744073709551616 us / (18446744073709551616^m*2^(64 - u))*K+K)from⟨_,q1,q2⟩)
 clear n1 n2 q1 q2 hK hf hg htl hb64 hb0 hle ht;generalize ev 18446744073709551616 zs / (18446744073709551616^m*2^(64 - u))=X at *;generalize ev 18446744073709551616 us / (18446744073709551616^m*2^(64 - u))=Y at *;generalize nth zs m=s0 at *;generalize nth zs i1=f at *;generalize nth us m=t0 at *;generalize nth us i1=g at *;obtain⟨dn,hdn⟩:∃d,d=64 - u:=⟨_,rfl⟩;rw[<-hdn]at w1 w2;have v1:(n:Int) - 1=(i1:Int):=by omega
 have v2:(n:Int) - 2=(m:Int):=by omega
 have v3:IntKind.i64.wrap ((n:Int) - 1)=(i1:Int):=by rw[IntWalk.i64_in _ (by omega)];omega
 have v4:IntKind.i64.wrap ((n:Int) - 2)=(m:Int):=by rw[IntWalk.i64_in _ (by omega)];omega
 have v5:(64:Int) - (u:Int)=(dn:Int):=by omega
 have v6:IntKind.i64.wrap (64 - (u:Int))=(dn:Int):=by rw[IntWalk.i64_in _ (by omega)];omega
 have k1:i1<n:=by omega
 have k2:m<n:=by omega
 have k3:dn<=64:=by omega
 have HU:=Lib.hid hu';clear hu' hi1 hm hdn hzl hul hz hu lz lu;go_enter Tryz.func184,Tryz.ntmps184
 go_wp2_with fail
 refine(d_h _ b1 _).mono ?_;rintro e w' ⟨rfl,rfl⟩;rw[<-HU.out]
 go_wp2_with fail
 go_quiet (fail)
 go_wp2_with fail
 go_ret2
 exact⟨X,Y,rfl,q4,q5,q3,PH,⟨_,rfl⟩⟩
theorem k_3 {Ok:Nat->Nat->Nat->Nat->Prop}{w w3 w4:World}{e:Ending}(hB:Below (w.heap.size+1) (w.alloc (.cells #[.int .u64 0,.int .u64 0,.int .u64 0,.int .u64 0] 162)) w3)(hz:w3.heap.size=w.heap.size+1)(P:JpPost Ok w3 e w4):
  ∃p q r s:Nat,e= .returned (.agg #[.int .u64 (p:Int),.int .u64 (q:Int),.int .u64 (r:Int),.int .u64 (s:Int)])/\p<18446744073709551616/\q<18446744073709551616/\r<18446744073709551616/\s<18446744073709551616/\1<=p/\1<=s/\Hid (Ok p q r s)/\
   (w4.cell? ⟨w.heap.size,0,none⟩=some (.int .u64 0)/\w4.cell? ⟨w.heap.size,1,none⟩=some (.int .u64 0)/\w4.cell? ⟨w.heap.size,2,none⟩=some (.int .u64 0)/\w4.cell? ⟨w.heap.size,3,none⟩=some (.int .u64 0)/\
    w4.frozen? ⟨w.heap.size,0,none⟩=false/\w4.frozen? ⟨w.heap.size,1,none⟩=false/\w4.frozen? ⟨w.heap.size,2,none⟩=false/\w4.frozen? ⟨w.heap.size,3,none⟩=false/\
    ((((w4.setCell ⟨w.heap.size,0,none⟩ (.int .u64 (p:Int))).setCell ⟨w.heap.size,1,none⟩ (.int .u64 (q:Int))).setCell ⟨w.heap.size,2,none⟩ (.int .u64 (r:Int))).setCell ⟨w.heap.size,3,none⟩ (.int .u64 (s:Int))).cell? ⟨w.heap.size,0,none⟩=some (.int .u64 (p:Int))/\
    ((((w4.setCell ⟨w.heap.size,0,none⟩ (.int .u64 (p:Int))).setCell ⟨w.heap.size,1,none⟩ (.int .u64 (q:Int))).setCell ⟨w.heap.size,2,none⟩ (.int .u64 (r:Int))).setCell ⟨w.heap.size,3,none⟩ (.int .u64 (s:Int))).cell? ⟨w.heap.size,1,none⟩=some (.int .u64 (q:Int))/\
    ((((w4.setCell ⟨w.heap.size,0,none⟩ (.int .u64 (p:Int))).setCell ⟨w.heap.size,1,none⟩ (.int .u64 (q:Int))).setCell ⟨w.heap.size,2,none⟩ (.int .u64 (r:Int))).setCell ⟨w.heap.size,3,none⟩ (.int .u64 (s:Int))).cell? ⟨w.heap.size,2,none⟩=some (.int .u64 (r:Int))/\
    ((((w4.setCell ⟨w.heap.size,0,none⟩ (.int .u64 (p:Int))).setCell ⟨w.heap.size,1,none⟩ (.int .u64 (q:Int))).setCell ⟨w.heap.size,2,none⟩ (.int .u64 (r:Int))).setCell ⟨w.heap.size,3,none⟩ (.int .u64 (s:Int))).cell? ⟨w.heap.size,3,none⟩=some (.int .u64 (s:Int))/\
    Below w.heap.size w ((((w4.setCell ⟨w.heap.size,0,none⟩ (.int .u64 (p:Int))).setCell ⟨w.heap.size,1,none⟩ (.int .u64 (q:Int))).setCell ⟨w.heap.size,2,none⟩ (.int .u64 (r:Int))).setCell ⟨w.heap.size,3,none⟩ (.int .u64 (s:Int)))):=by
 obtain⟨p,q,r,s,rfl,bp,bq,br,bs,hp,hs,hok,B4⟩:=P;have b1:=((c_5 w 0 0 0 0).below hB (by omega)).below B4 (by omega);have W4:Wb w4 w.heap.size 162 [0,0,0,0]:=⟨b1,low4 (by omega) (by omega) (by omega) (by omega)⟩;obtain⟨z0,z1,z2,z3,_,_,_,_,k0,k1,k2,k3⟩:=wb4 W4;obtain⟨X,T⟩:=d_7 W4 bp bq br bs;obtain⟨y0,y1,y2,y3,_⟩:=wb4 X;have hs4:=B4.size;exact⟨p,q,r,s,rfl,bp,bq,br,bs,hp,hs,hok,z0,z1,z2,z3,k0,k1,k2,k3,y0,y1,y2,y3,(((zb0 w _).trans (hB.mono (by omega))).trans (B4.mono (by omega))).trans (T.below (by omega) fun a h=>by rw[h];exact Nat.le_refl _)⟩
theorem g_q (A B:Option Addr)(n c d:Nat)(zs us:List Nat)(w:World)(hz:Rd w .u64 A zs)(hu:Rd w .u64 B us)(hzl:zs.length=n)(hul:us.length=n)(lz:Low 18446744073709551616 zs)(lu:Low 18446744073709551616 us)
  (hn:0<n) (ht:nth zs (n - 1)≠0) (hle:ev 18446744073709551616 us<=ev 18446744073709551616 zs) (bn:n<=1099511627776):
  Calls Tryz.prog 150 #[.slice A n c,.slice B n d] w (JpPost (Jok (ev 18446744073709551616 zs) (ev 18446744073709551616 us)) w):=by
 have HZL:=Lib.hid hzl;have HUL:=Lib.hid hul;have HT:=Lib.hid ht;have HLE:=Lib.hid hle;clear hzl hul ht hle;rcases Nat.lt_or_ge 1 n with h1|h1
 ·obtain⟨m,hm⟩:∃m,n=m+2:=⟨n - 2,by omega⟩;have HM:=Lib.hid hm;have HT2:Hid (nth zs (m+1)≠0):=Lib.hid (by have:=HT.out;rwa [hm,show m+2 - 1=m+1 by omega]at this);have hne:¬(n=1):=by omega
  have b1:((n:Int)==1)=false:=by rw[beq_eq_false_iff_ne];omega
  clear hm;go_enter Tryz.func150,Tryz.ntmps150
  go_wp2_with fail
  have hz1:=hz.alloc (.cells #[.int .u64 0,.int .u64 0,.int .u64 0,.int .u64 0] 162);have hu1:=hu.alloc (.cells #[.int .u64 0,.int .u64 0,.int .u64 0,.int .u64 0] 162);refine(f_q _ _ n m c d zs us _ hz1 hu1 HZL.out HUL.out HM.out lz lu HT2.out HLE.out bn).mono ?_;rintro e w3 ⟨X,Y,rfl,hX,hX0,hYX,hK,S3⟩;have B0:=Lib.hid (S3.below (w.heap.size+1));have Z3:w3.heap.size=w.heap.size+1:=by obtain⟨n,rfl⟩:=S3;simp
  clear S3 hz1 hu1 hz hu
  go_wp2_with fail
  refine(i_0 X Y hYX hX0 hX _).mono ?_;intro e w4 P;obtain⟨p,q,r,s,rfl,bp,bq,br,bs,hp,hs,hok,R⟩:=k_3 B0.out Z3 P;obtain⟨z0,z1,z2,z3,k0,k1,k2,k3,y0,y1,y2,y3,BB⟩:=R;have HB:=Lib.hid BB;have HOK:Hid (Jok (ev 18446744073709551616 zs) (ev 18446744073709551616 us) p q r s):=Lib.hid (by
   obtain⟨K,k1,k2⟩:=hK.out;exact hok.out K _ _ k1 k2)
  clear BB P
  go_wp2_with fail
  refine bodyPost_ret (v:=.agg #[.int .u64 (p:Int),.int .u64 (q:Int),.int .u64 (r:Int),.int .u64 (s:Int)]) (by simp[results,Tryz.results150,go_sem,y0,y1,y2,y3]) rfl ?_;exact⟨p,q,r,s,rfl,bp,bq,br,bs,hp,hs,HOK,HB.out⟩
 ·obtain rfl:n=1:=by omega
  obtain⟨X,hX⟩:∃X,zs=[X]:=List.length_eq_one_iff.1 HZL.out;obtain⟨Y,hY⟩:∃Y,us=[Y]:=List.length_eq_one_iff.1 HUL.out;subst hX hY;have e1:ev 18446744073709551616 [X]=X:=by simp[ev]
  have e2:ev 18446744073709551616 [Y]=Y:=by simp[ev]
  have hX0:0<X:=by have:=HT.out;simp[nth]at this;omega
  have hYX:Y<=X:=by have:=HLE.out;rwa [e1,e2]at this
  have hX:X<18446744073709551616:=lz.head;rw[e1,e2];have B0:=Lib.hid (Below.refl (w.heap.size+1) (w.alloc (.cells #[.int .u64 0,.int .u64 0,.int .u64 0,.int .u64 0] 162)));have hz1:=hz.alloc (.cells #[.int .u64 0,.int .u64 0,.int .u64 0,.int .u64 0] 162);have hu1:=hu.alloc (.cells #[.int .u64 0,.int .u64 0,.int .u64 0,.int .u64 0] 162);obtain⟨ad,rfl,l1,c0⟩:=hz1.at (k:=0) (by simp);obtain⟨ae,rfl,l2,d0⟩:=hu1.at (k:=0) (by simp);rw[show ad.add 0=ad by unfold Addr.add;simp,show nth [X] 0=X from rfl]at c0;rw[show ae.add 0=ae by unfold Addr.add;simp,show nth [Y] 0=Y from rfl]at d0;clear e1 e2 HZL HUL HT HLE hz hu hz1 hu1;go_enter Tryz.func150,Tryz.ntmps150
  go_wp2_with fail
  obtain⟨w1,hw1⟩:∃w1,w1=w.alloc (.cells #[.int .u64 0,.int .u64 0,.int .u64 0,.int .u64 0] 162):=⟨_,rfl⟩;have Z1:w1.heap.size=w.heap.size+1:=by rw[hw1];simp
  rw[<-hw1]at c0 d0 l1 l2 ⊢;have HW1:=Lib.hid hw1;have HZ1:=Lib.hid Z1;clear hw1 Z1;go_still_tail 6,(by kernel_rfl)
  change wpList _ _ _ _ _ w1.drew;obtain⟨w2,hw2⟩:∃w2,w2=w1.drew:=⟨_,rfl⟩;rw[<-hw2];have Z2:Hid (w2.heap.size=w.heap.size+1):=Lib.hid (by rw[hw2];exact HZ1.out);have B2:Hid (Below (w.heap.size+1) (w.alloc (.cells #[.int .u64 0,.int .u64 0,.int .u64 0,.int .u64 0] 162)) w2):=Lib.hid (by rw[hw2,<-HW1.out];exact(Below.refl _ _).drew);clear hw2 c0 d0 l1 l2 B0
  go_wp2_with fail
  refine(g_2 X Y hYX hX0 hX _).mono ?_;intro e w4 P;obtain⟨p,q,r,s,rfl,bp,bq,br,bs,hp,hs,hok,R⟩:=k_3 B2.out Z2.out P;obtain⟨z0,z1,z2,z3,k0,k1,k2,k3,y0,y1,y2,y3,BB⟩:=R;have HB:=Lib.hid BB;clear BB P
  go_wp2_with fail
  refine bodyPost_ret (v:=.agg #[.int .u64 (p:Int),.int .u64 (q:Int),.int .u64 (r:Int),.int .u64 (s:Int)]) (by simp[results,Tryz.results150,go_sem,y0,y1,y2,y3]) rfl ?_;exact⟨p,q,r,s,rfl,bp,bq,br,bs,hp,hs,hok,HB.out⟩
def NbPost (v:Nat)(w:World)(e:Ending)(w':World):Prop:=
 ∃g,e= .returned (.slice (some ⟨g,0,none⟩) (cn 18446744073709551616 v).length (cn 18446744073709551616 v).length)/\w.heap.size<=g/\Blk w' g 85 .u64 (cn 18446744073709551616 v)/\Below w.heap.size w w'
theorem m_s (A:Option Addr)(n c:Nat)(xs:List Nat)(w:World)(hx:Rd w .u64 A xs)(hxn:xs.length=n)
  (hc:n<=c) (hc':c<=9223372036854775807) (lx:Low 18446744073709551616 xs) (bx:n<=1099511627776):
  Calls Tryz.prog 117 #[.slice A n c] w (NbPost (ev 18446744073709551616 xs) w):=by
 have sx:sl xs<=n:=hxn ▸ a_4 xs;have HX:=Lib.hid hxn;have ht:=j_i 18446744073709551616 (by omega) xs lx;have hl:(xs.take (sl xs)).length=sl xs:=by simp[Nat.min_eq_left (a_4 xs)]
 have HT:=Lib.hid ht;have HL:=Lib.hid hl;clear hxn ht hl;go_enter Tryz.func117,Tryz.ntmps117
 go_wp2_with fail
 refine(a_d _ _ _ xs _ hx HX.out (by omega) (by omega)).mono ?_;rintro e w' ⟨rfl,rfl⟩
 go_wp2_with (at_make;refine a_e _ rfl _ _ 29 rfl 85 .u64 8 Tryz.underlying29 info_u64 _ _ _ _ (sl xs) rfl rfl (by omega) (by omega) (by omega) (by omega) ?_)
 intro w1 hb1 hw1 hz1;have HZ:=Lib.hid hz1;clear hz1
 go_wp2_with (refine wpList_copy_splice rfl (.tmp 9) (.tmp 10) _ _ rfl 85 Tryz.underlying29 (by kernel_rfl) (some ⟨w.heap.size,0,none⟩) A (sl xs) (sl xs) (sl xs) c rfl rfl w.heap.size 0 (vs .u64 (List.replicate (sl xs) 0)) 85 hb1 (vs .u64 (xs.take (sl xs))) ?_ ?_ ?_ (j_z _ _) w.heap.size w hw1 (Nat.le_refl _) ?_)
 ·rw[a_f,HL.out];simp
 ·intro hp;rw[a_f]at hp;obtain⟨ad,h1,_,h3⟩:=((hx.take (sl xs)).below hw1) hp;exact⟨ad,h1,fun j v hv=>by
   rcases Nat.lt_or_ge j (xs.take (sl xs)).length with hj|hj
   ·rw[c_e hj]at hv;rw[h3 j hj,hv]
   ·rw[List.getElem?_eq_none (by rw[a_f];exact hj)]at hv;cases hv⟩
 ·rw[a_f,a_f,HL.out];simp
 ·intro w2 hb2 hw2
  go_wp2
  go_ret
  have hb3:Blk w2 w.heap.size 85 .u64 (xs.take (sl xs)):=by
   have:=hb2.out;rw[e_0 (by rw[a_f,a_f,HL.out];simp)]at this;exact this
  rw[<-HT.out]at hb3;exact⟨w.heap.size,by rw[HT.out,HL.out];rfl,Nat.le_refl _,hb3,hw2⟩
theorem Wb.part {S:Addr->Prop}{w w':World}{g n:Nat}{t:TypeId}{La zs:List Nat}(h:Wb w g t La)(ht:Tch S w w')(ha:Ar w' g 0 t zs)(hz:zs.length=n)(hn:n<=La.length)(hS:∀j,n<=j->¬S ⟨g,j,none⟩):Wb w' g t (zs++La.drop n):=by
 obtain⟨L',h1,h2,h3⟩:=ht.blk g t La h;obtain⟨L'',k1,k2,k3⟩:=ha;obtain rfl:=k1.one h1;have e:L''=zs++La.drop n:=by
  refine d_j (by simp;omega) fun j hj=>?_;by_cases hlt:j<zs.length
  ·rw[a_p hlt,<-k3 j hlt,Nat.zero_add]
  ·rw[a_k (by omega),a_5,h3 j (hS j (by omega)),show n+(j - zs.length)=j by omega]
 rwa [e]at h1
theorem ev_pad' (xs:List Nat)(n:Nat):ev 18446744073709551616 (xs++List.replicate n 0)=ev 18446744073709551616 xs:=by
 rw[a_o,a_3];simp
end
section
open Go.RowKit
theorem j_2 {b:Nat}{zs us:List Nat}(hb:2<=b)(lz:Low b zs)(h:ev b us<=ev b zs)(hl:sl zs<=us.length):ev b (us.take (sl zs))=ev b us:=by
 have h1:=a_7 b us (sl zs) hl;have h2:ev b zs<b^sl zs:=by
  have:=b_y (lz.take (sl zs));rw[a_n,f_f]at this;exact this
 unfold pre at h1;rcases Nat.eq_zero_or_pos (ev b (us.drop (sl zs)))with h3|h3
 ·rw[h3,Nat.mul_zero,Nat.add_zero]at h1;exact h1.symm
 ·have:=Nat.le_mul_of_pos_right (b^sl zs) h3;omega
theorem d_i {zs L:List Nat}{n:Nat}(h:zs.length=n):(zs++L.drop n).take n=zs:=by rw[List.take_append_of_le_length (by omega),List.take_of_length_le (by omega)]
end
section
open Go.RowKit
theorem p_m {A:Option Addr}{n c x:Nat}{w:World}(hx:Nv w A n c x)(hn:n<=1099511627776):
  Calls Tryz.prog 117 #[.slice A n c] w (NbPost x w):=by
 obtain⟨xs,h1,h2,h3,h4,h5,rfl⟩:=hx;exact m_s A n c xs w h1 h2 h3 h4 h5 hn
theorem q_v (v:Nat):(cn 18446744073709551616 v).length=0\/nth (cn 18446744073709551616 v) ((cn 18446744073709551616 v).length - 1)≠0:=by
 rcases Nat.eq_zero_or_pos (cn 18446744073709551616 v).length with h|h
 ·exact .inl h
 ·have:=e_f (xs:=cn 18446744073709551616 v) (by rw[m_c _ _ (by omega)];exact h);rw[m_c _ _ (by omega)]at this;exact .inr this
end
section
open Go.RowKit
def JnSum (b:Nat)(xs ys us:List Nat)(x y k m l o:Nat):Prop:=
 us.length=k/\Low b us/\ev b us+b^k*(m+l+o)=pre b xs k*x+pre b ys k*y
theorem JnSum.start (b:Nat)(xs ys:List Nat)(x y:Nat):JnSum b xs ys [] x y 0 0 0 0:=⟨rfl,Low.nil b,by simp[ev,a_0]⟩
theorem JnSum.step {b:Nat}{xs ys us:List Nat}{x y k m l o z m' l' o':Nat}(h:JnSum b xs ys us x y k m l o)(hz:z<b)(he:z+b*(m'+l'+o')=nth xs k*x+m+(nth ys k*y+l)+o):
  JnSum b xs ys (us++[z]) x y (k+1) m' l' o':=by
 obtain⟨h1,h2,h3⟩:=h;refine⟨by simp[h1],h2.snoc hz, ?_⟩;rw[b_g,a_c,a_c,h1,Nat.pow_succ];generalize b^k=P at *;have e:P*z+P*b*(m'+l'+o')=P*nth xs k*x+P*nth ys k*y+P*(m+l+o):=by
  have:=congrArg (P* ·) he;grind
 grind
theorem JnSum.stop {b:Nat}{xs ys us:List Nat}{x y k m l o D:Nat}(h:JnSum b xs ys us x y k m l o)(hb:0<b)(hD:pre b xs k*x+pre b ys k*y=D)(hD2:D<b^k):ev b us=D:=by
 obtain⟨h1,h2,h3⟩:=h;have h4:=b_y h2;rw[h1]at h4;rw[hD]at h3;have h6:=congrArg (· %b^k) h3;simp only[Nat.add_mul_mod_self_left]at h6;rwa [Nat.mod_eq_of_lt h4,Nat.mod_eq_of_lt hD2]at h6
def JoinRel (w:World)(base g1 g2 h1 h2 p q r s:Nat)(La Lb:List Nat)(k:Nat)(wr:World):Prop:=
 ∃(us1 us2:List Nat) (m1 l1 o1 m2 l2 o2:Nat),JnSum 18446744073709551616 La Lb us1 p q k m1 l1 o1/\JnSum 18446744073709551616 Lb La us2 s r k m2 l2 o2/\o1<=1/\o2<=1/\
  Wb wr g1 85 (us1++La.drop k)/\Wb wr g2 85 (us2++Lb.drop k)/\Wb wr h1 192 [p,q,m1,l1,o1]/\Wb wr h2 192 [s,r,m2,l2,o2]/\Tch (Tk2 w g1 g2) w wr
theorem h_k (w:World)(base g1 g2 n c1 c2 p q r s D1 D2:Nat)(La Lb:List Nat)(W1:Wb w g1 85 La)(W2:Wb w g2 85 Lb)(hg:g1≠g2)(hb1:base<=g1)(hb2:base<=g2)(n1:n<=La.length)(n2:n<=Lb.length)
  (hm:n<=1099511627776) (hp:p<18446744073709551616) (hq:q<18446744073709551616) (hr:r<18446744073709551616) (hs:s<18446744073709551616)
  (E1:pre 18446744073709551616 La n*p+pre 18446744073709551616 Lb n*q=D1) (F1:D1<18446744073709551616^n) (E2:pre 18446744073709551616 Lb n*s+pre 18446744073709551616 La n*r=D2) (F2:D2<18446744073709551616^n):
  Calls Tryz.prog 222 #[.agg #[.int .u64 p,.int .u64 q,.int .u64 r,.int .u64 s],.slice (some ⟨g1,0,none⟩) n c1,.slice (some ⟨g2,0,none⟩) n c2] w (TkPost w base g1 g2 n D1 D2 La Lb):=by
 have HE1:=Lib.hid E1;have HE2:=Lib.hid E2;have HF1:=Lib.hid F1;have HF2:=Lib.hid F2;clear E1 E2 F1 F2;go_enter Tryz.func222,Tryz.ntmps222
 go_upto_region 1 with fail
 go_cut [6,7] (TkCut w p q r s)
 case first=>
  clear HE1 HE2 HF1 HF2 W1 W2 hg hb1 hb2 n1 n2 hm;go_region
  all_goals
   go_wp2_with fail
   go_meet
   first
    |exact tk_a _ hp hq hr hs
    |exact tk_b _ hp hq hr hs
 case rest=>
  obtain⟨h1,h2,rfl,rfl,hh,hh1,hh2,V1,V2,B0⟩:=hcut;have lt1:=W1.1.lt;have lt2:=W2.1.lt;have I:=Lib.hid (show TkIn w base g1 g2 h1 h2 from⟨hb1,hb2,by omega,by omega,hg,by omega,by omega,by omega,by omega,hh,by omega,hh1,hh2⟩);have W1':Wb wc g1 85 La:=⟨W1.1.below B0 lt1,W1.2⟩;have W2':Wb wc g2 85 Lb:=⟨W2.1.below B0 lt2,W2.2⟩;have lLa:=W1.2;have lLb:=W2.2;have BB:Tch (Tk2 w g1 g2) w wc:=Tch.of_below _ B0;clear W1 W2 B0 hh hh1 hh2 hg lt1 lt2
  go_wp2_with fail
  go_loopw [23] (fun i wr=>∃k:Nat,k<=n/\i= .int .i64 k/\JoinRel w base g1 g2 h1 h2 p q r s La Lb k wr) (fun i _=>n - (intOf i).toNat)
  case atStart=>exact⟨0,Nat.zero_le _,rfl,[],[],0,0,0,0,0,0,JnSum.start _ _ _ _ _,JnSum.start _ _ _ _ _,by omega,by omega,by simpa using W1',by simpa using W2',V1,V2,BB⟩
  case round=>
   clear W1' W2' V1 V2 BB;obtain⟨k,hk,rfl,us1,us2,m1,l1,o1,m2,l2,o2,d1,d2,ho1,ho2,W1,W2,V1,V2,BB⟩:=hrel;by_cases hlt:k<n
   ·have cs1:=W1.1.cell (j:=k) (by rw[a_g d1.1 (by omega)];omega);rw[a_u d1.1]at cs1;have cs2:=W2.1.cell (j:=k) (by rw[a_g d2.1 (by omega)];omega);rw[a_u d2.1]at cs2;have x1:=lLa.any (by omega) k;have x2:=lLb.any (by omega) k;have HW1:=Lib.hid W1;have HW2:=Lib.hid W2;have HD1:=Lib.hid d1;have HD2:=Lib.hid d2;have HBB:=Lib.hid BB;clear W1 W2 d1 d2 BB
    go_wp2_with fail
    refine(f_8 _ h1 p q m1 l1 o1 _ _ V1 ho1 x1 x2).mono ?_;rintro e w2 ⟨z1,m1',l1',o1',rfl,hz1,he1,hm1,hl1,hoo1,V1',T1,Z1⟩;have V2':=V2.tch T1 fun j _ h=>I.out.d6 h.symm;have W1:=HW1.out.tch T1 fun j _ h=>I.out.d2 h;have W2:=HW2.out.tch T1 fun j _ h=>I.out.d4 h;have HT1:=Lib.hid T1;have HZ1:=Lib.hid Z1;have HWa:=Lib.hid W1;have HWb:=Lib.hid W2;clear V1 V2 cs1 cs2 T1 Z1 W1 W2 HW1 HW2
    go_wp2_with fail
    refine(f_8 _ h2 s r m2 l2 o2 _ _ V2' ho2 x2 x1).mono ?_;rintro e w3 ⟨z2,m2',l2',o2',rfl,hz2,he2,hm2,hl2,hoo2,V2'',T2,Z2⟩;have V1'':=V1'.tch T2 fun j _ h=>I.out.d6 h;have W1:=HWa.out.tch T2 fun j _ h=>I.out.d3 h;have W2:=HWb.out.tch T2 fun j _ h=>I.out.d5 h;have cs1:=W1.1.cell (j:=k) (by rw[a_g HD1.out.1 (by omega)];omega);have cf1:=W1.1.free k;obtain⟨T3,X1⟩:=Tch.store (S:=fun a=>a.block=g1) W1 k hz1 rfl;rw[a_9 HD1.out.1 (by omega)]at X1;have X2:=W2.tch T3 fun j _ h=>I.out.d1 h.symm;have cs2:=X2.1.cell (j:=k) (by rw[a_g HD2.out.1 (by omega)];omega);have cf2:=X2.1.free k;obtain⟨T4,Y2⟩:=Tch.store (S:=fun a=>a.block=g2) X2 k hz2 rfl;rw[a_9 HD2.out.1 (by omega)]at Y2;have Y1:=X1.tch T4 fun j _ h=>I.out.d1 h;have U1:=(V1''.tch T3 fun j _ h=>I.out.d2 h.symm).tch T4 fun j _ h=>I.out.d4 h.symm;have U2:=(V2''.tch T3 fun j _ h=>I.out.d3 h.symm).tch T4 fun j _ h=>I.out.d5 h.symm;have BB2:Hid (Tch (Tk2 w g1 g2) w ((w3.setCell ⟨g1,k,none⟩ (.int .u64 (z1:Int))).setCell ⟨g2,k,none⟩ (.int .u64 (z2:Int)))):=Lib.hid (by
     have b1:=HT1.out.mono (S:=Tk2 w g1 g2) fun a _ h=>.inr (.inr (by rw[h];exact I.out.s1));have b2:=T2.mono (S:=Tk2 w g1 g2) fun a _ h=>.inr (.inr (by rw[h];exact I.out.s2));have b3:=T3.mono (S:=Tk2 w g1 g2) fun a _ h=>.inl h;have b4:=T4.mono (S:=Tk2 w g1 g2) fun a _ h=>.inr (.inl h);exact(((HBB.out.trans b1).trans b2).trans b3).trans b4)
    have R:Hid (JoinRel w base g1 g2 h1 h2 p q r s La Lb (k+1) ((w3.setCell ⟨g1,k,none⟩ (.int .u64 (z1:Int))).setCell ⟨g2,k,none⟩ (.int .u64 (z2:Int)))):=
     Lib.hid ⟨_,_,_,_,_,_,_,_,HD1.out.step hz1 he1.out,HD2.out.step hz2 he2.out,hoo1,hoo2,Y1,Y2,U1,U2,BB2.out⟩
    clear V1' V2' V1'' V2'' W1 W2 X1 X2 Y1 Y2 U1 U2 T2 T3 T4 Z2
    go_wp2_with fail
    go_roundw
    case rel=>exact⟨k+1,by omega,by go_num,R.out⟩
    case measure=>simp[intOf];omega
   ·obtain rfl:k=n:=by omega
    have P:Hid (TkPost w base g1 g2 k D1 D2 La Lb (.returned (.tuple #[])) wr):=Lib.hid ⟨us1,us2,rfl,d1.1,d2.1,Lib.hid (d1.stop (by omega) HE1.out HF1.out),Lib.hid (d2.stop (by omega) HE2.out HF2.out),W1,W2,I.out.below BB,BB⟩;clear d1 d2 W1 W2 V1 V2 BB hlt
    go_wp2_with fail
    go_end0
    exact P.out
end
section
open Go.RowKit
def sgt (t:Bool):Int:=if t=true then -1 else 1
theorem k_a (t:Bool):sgt (!t)= -sgt t:=by cases t<;>rfl
structure Wm (u m G a b x y:Nat) (t:Bool):Prop where
 g:Nat.gcd a b=G
 s:a*y+b*x=m
 ca:(m:Int)∣(a:Int) - sgt t*x*u
 cb:(m:Int)∣(b:Int)+sgt t*y*u
theorem Wm.start (u m:Nat):Wm u m (Nat.gcd u m) m (u%m) 0 1 true:=by
 refine⟨by rw[Nat.gcd_comm u,Nat.gcd_comm m,Nat.gcd_rec m u],by omega, ?_, ?_⟩
 ·simp
 ·refine⟨-((u / m:Nat):Int), ?_⟩;have h:=Nat.div_add_mod u m;have h2:(u:Int)=m*((u / m:Nat):Int)+((u%m:Nat):Int):=by rw[<-Int.natCast_mul,<-Int.natCast_add,h]
  simp only[sgt];rw[Int.mul_neg];simp only[if_true];omega
theorem Wm.jump {u m G a b x y p q r s X Y:Nat}{t:Bool}(h:Wm u m G a b x y t)(h1:a*p=b*q+X)(h2:b*s=a*r+Y)(h3:s*X+q*Y=a)(h4:r*X+p*Y=b):Wm u m G X Y (x*p+y*q) (y*s+x*r) t:=by
 obtain⟨hg,hs,⟨k,hk⟩,⟨l,hl⟩⟩:=h;refine⟨by rw[m_3 h1 h2 h3 h4];exact hg, ?_,⟨p*k - q*l, ?_⟩,⟨s*l - r*k, ?_⟩⟩
 ·rw[<-hs,<-h3,<-h4];grind
 ·have e:(X:Int)=a*p - b*q:=by have:=congrArg (Nat.cast (R:=Int)) h1;simp only[Int.natCast_mul,Int.natCast_add]at this;omega
  rw[e,Int.mul_sub,Int.mul_left_comm,<-hk,Int.mul_left_comm,<-hl];simp only[Int.natCast_add,Int.natCast_mul];generalize sgt t=σ;grind
 ·have e:(Y:Int)=b*s - a*r:=by have:=congrArg (Nat.cast (R:=Int)) h2;simp only[Int.natCast_mul,Int.natCast_add]at this;omega
  rw[e,Int.mul_sub,Int.mul_left_comm,<-hl,Int.mul_left_comm,<-hk];simp only[Int.natCast_add,Int.natCast_mul];generalize sgt t=σ;grind
theorem Wm.swap {u m G a b x y:Nat}{t:Bool}(h:Wm u m G a b x y t):Wm u m G b a y x (!t):=by
 obtain⟨hg,hs,hk,hl⟩:=h;refine⟨by rw[Nat.gcd_comm];exact hg,by rw[<-hs,Nat.add_comm], ?_, ?_⟩
 ·rw[k_a,Int.neg_mul,Int.neg_mul,Int.sub_neg];exact hl
 ·rw[k_a,Int.neg_mul,Int.neg_mul,<-Int.sub_eq_add_neg];exact hk
theorem Wm.bound {u m G X Y x y p q r s:Nat}{t:Bool}(h:Wm u m G X Y (x*p+y*q) (y*s+x*r) t)(hc:(0<X/\p<=r/\q<=s)\/(0<Y/\r<=p/\s<=q)):x*p+y*q<=m/\y*s+x*r<=m:=by
 have hs:=h.s;rcases hc with⟨h1,h2,h3⟩|⟨h1,h2,h3⟩
 ·have k1:y*s+x*r<=X*(y*s+x*r):=Nat.le_mul_of_pos_left _ h1;have k2:x*p<=x*r:=Nat.mul_le_mul_left _ h2;have k3:y*q<=y*s:=Nat.mul_le_mul_left _ h3;omega
 ·have k1:x*p+y*q<=Y*(x*p+y*q):=Nat.le_mul_of_pos_left _ h1;have k2:x*r<=x*p:=Nat.mul_le_mul_left _ h2;have k3:y*s<=y*q:=Nat.mul_le_mul_left _ h3;omega
theorem m_4 {a b:Nat}(h0:0<b)(h:b<=a):a*1=b*(a / b)+a%b/\b*1=a*0+b/\1*(a%b)+a / b*b=a/\0*(a%b)+1*b=b/\(0<b/\0<=1/\1<=a / b):=by
 have h1:=Nat.div_add_mod a b;have h2:0<a / b:=Nat.div_pos h h0;have h3:a / b*b=b*(a / b):=Nat.mul_comm _ _;refine⟨by omega,by omega,by omega,by omega,h0,by omega,h2⟩
def Wy (w:World)(h:Nat)(A B X Y:Value)(t:Bool):Prop:=w.heap[h]? =some (.cells #[A,B,X,Y,.bool t] 217 (0,0))
section
variable {w w':World}{h:Nat}{A B X Y:Value}{t:Bool}
theorem Wy.lt (k:Wy w h A B X Y t):h<w.heap.size:=by
 rcases Nat.lt_or_ge h w.heap.size with hlt|hge
 ·exact hlt
 ·unfold Wy at k;rw[Array.getElem?_eq_none hge]at k;cases k
theorem Wy.cells (k:Wy w h A B X Y t):w.cell? ⟨h,0,none⟩=some A/\w.cell? ⟨h,1,none⟩=some B/\w.cell? ⟨h,2,none⟩=some X/\w.cell? ⟨h,3,none⟩=some Y/\w.cell? ⟨h,4,none⟩=some (.bool t)/\
  w.frozen? ⟨h,0,none⟩=false/\w.frozen? ⟨h,1,none⟩=false/\w.frozen? ⟨h,2,none⟩=false/\w.frozen? ⟨h,3,none⟩=false/\w.frozen? ⟨h,4,none⟩=false:=by
 refine⟨?_, ?_, ?_, ?_, ?_,frozen_of_row w h _ _ _ k,frozen_of_row w h _ _ _ k,frozen_of_row w h _ _ _ k,frozen_of_row w h _ _ _ k,frozen_of_row w h _ _ _ k⟩<;>rw[cell_of_row w h _ _ _ (0,0) k]<;>rfl
theorem Wy.below (k:Wy w h A B X Y t)(hb:Below w.heap.size w w'):Wy w' h A B X Y t:=(hb.block h k.lt).trans k
theorem Wy.tch {S:Addr->Prop}(k:Wy w h A B X Y t)(ht:Tch S w w')(hS:∀a:Addr,a.block=h->¬S a):Wy w' h A B X Y t:=(ht.block h k.lt hS).trans k
theorem Wy.put0 (k:Wy w h A B X Y t)(A':Value):Wy (w.setCell ⟨h,0,none⟩ A') h A' B X Y t:=by unfold Wy;rw[heap_setCell_same w h 0 _ _ _ k];rfl
theorem Wy.put1 (k:Wy w h A B X Y t)(A':Value):Wy (w.setCell ⟨h,1,none⟩ A') h A A' X Y t:=by unfold Wy;rw[heap_setCell_same w h 1 _ _ _ k];rfl
theorem Wy.put2 (k:Wy w h A B X Y t)(A':Value):Wy (w.setCell ⟨h,2,none⟩ A') h A B A' Y t:=by unfold Wy;rw[heap_setCell_same w h 2 _ _ _ k];rfl
theorem Wy.put3 (k:Wy w h A B X Y t)(A':Value):Wy (w.setCell ⟨h,3,none⟩ A') h A B X A' t:=by unfold Wy;rw[heap_setCell_same w h 3 _ _ _ k];rfl
theorem Wy.put4 (k:Wy w h A B X Y t)(b:Bool):Wy (w.setCell ⟨h,4,none⟩ (.bool b)) h A B X Y b:=by unfold Wy;rw[heap_setCell_same w h 4 _ _ _ k];rfl
end
structure Four (w:World) (base N n ga gb gx gy:Nat) (La Lb Lx Ly:List Nat) (a b x y:Nat):Prop where
 dab:ga≠gb
 dax:ga≠gx
 day:ga≠gy
 dbx:gb≠gx
 dby:gb≠gy
 dxy:gx≠gy
 ba:base<=ga
 bb:base<=gb
 bx:base<=gx
 bY:base<=gy
 la:La.length=N
 lb:Lb.length=N
 lx:Lx.length=N
 ly:Ly.length=N
 hn:n<=N
 hN:N<=68719476736
 wa:Wb w ga 85 La
 wb:Wb w gb 85 Lb
 wx:Wb w gx 85 Lx
 wy:Wb w gy 85 Ly
 va:ev 18446744073709551616 (La.take n)=a
 vb:ev 18446744073709551616 (Lb.take n)=b
 vx:ev 18446744073709551616 Lx=x
 vy:ev 18446744073709551616 Ly=y
theorem Wb.below {w w':World}{g:Nat}{t:TypeId}{L:List Nat}(h:Wb w g t L)(hb:Below w.heap.size w w'):Wb w' g t L:=⟨h.1.below hb h.1.lt,h.2⟩
section
variable {w w':World}{base N n ga gb gx gy a b x y:Nat}{La Lb Lx Ly:List Nat}
theorem Four.below (f:Four w base N n ga gb gx gy La Lb Lx Ly a b x y)(hb:Below w.heap.size w w'):Four w' base N n ga gb gx gy La Lb Lx Ly a b x y:=
 ⟨f.dab,f.dax,f.day,f.dbx,f.dby,f.dxy,f.ba,f.bb,f.bx,f.bY,f.la,f.lb,f.lx,f.ly,f.hn,f.hN,f.wa.below hb,f.wb.below hb,f.wx.below hb,f.wy.below hb,f.va,f.vb,f.vx,f.vy⟩
theorem Four.swap (f:Four w base N n ga gb gx gy La Lb Lx Ly a b x y):Four w base N n gb ga gy gx Lb La Ly Lx b a y x:=
 ⟨f.dab.symm,f.dby,f.dbx,f.day,f.dax,f.dxy.symm,f.bb,f.ba,f.bY,f.bx,f.lb,f.la,f.ly,f.lx,f.hn,f.hN,f.wb,f.wa,f.wy,f.wx,f.vb,f.va,f.vy,f.vx⟩
theorem Four.nva (f:Four w base N n ga gb gx gy La Lb Lx Ly a b x y):Nv w (some ⟨ga,0,none⟩) n N a:=
 ⟨_,f.wa.1.rd0.take n,by have:=f.la;have:=f.hn;simp;omega,f.hn,by have:=f.hN;omega,f.wa.2.take n,f.va⟩
theorem Four.nvb (f:Four w base N n ga gb gx gy La Lb Lx Ly a b x y):Nv w (some ⟨gb,0,none⟩) n N b:=f.swap.nva
theorem Four.nvx (f:Four w base N n ga gb gx gy La Lb Lx Ly a b x y):Nv w (some ⟨gx,0,none⟩) N N x:=
 ⟨_,f.wx.1.rd0,f.lx,Nat.le_refl _,by have:=f.hN;omega,f.wx.2,f.vx⟩
theorem Four.nvy (f:Four w base N n ga gb gx gy La Lb Lx Ly a b x y):Nv w (some ⟨gy,0,none⟩) N N y:=f.swap.nvx
end
def RoPost (w:World)(N v:Nat)(e:Ending)(w':World):Prop:=
 ∃(g:Nat) (L:List Nat),e= .returned (.slice (some ⟨g,0,none⟩) N N)/\w.heap.size<=g/\L.length=N/\Wb w' g 85 L/\ev 18446744073709551616 L=v/\Below w.heap.size w w'
theorem d_e (A:Option Addr)(k c N v:Nat)(w:World)(hv:Nv w A k c v)(hk:k<=N)(hN:N<=68719476736):
  Calls Tryz.prog 220 #[.slice A k c,.int .i64 N] w (RoPost w N v):=by
 obtain⟨us,hr,hul,hc,hc',lu,hv⟩:=hv;have HK:=Lib.hid hul;have HV:=Lib.hid hv;have HS:=Lib.hid (show(List.replicate N 0).length=N from by simp);clear hul hv;go_enter Tryz.func220,Tryz.ntmps220
 go_wp2_with (at_make;refine a_e _ rfl _ _ 29 rfl 85 .u64 8 Tryz.underlying29 info_u64 _ _ _ _ N rfl rfl (by omega) (by omega) (by omega) (by omega) ?_)
 intro w1 hb1 hw1 hz1;have HZ1:=Lib.hid hz1;have ar1:=Ar.of_wb (c_t hb1);have W1:=c_t hb1;have hr1:=hr.below hw1;have HW1:=Lib.hid W1;have HBe:=Lib.hid hw1;clear hz1 hb1 hr W1 hw1
 go_wp2_with (refine a_r rfl (.tmp 8) (.tmp 9) _ _ rfl 85 Tryz.underlying29 (by kernel_rfl) A N N k c w.heap.size 0 85 _ us rfl rfl HS.out HK.out hk ar1 hr1 lu (Seg w.heap.size 0 N) (fun j hj=>⟨rfl,Nat.zero_le _,by simp;omega⟩) ?_)
 intro w2 ar2 T2 Z2;have Wb2:=HW1.out.part (n:=N) T2 ar2 (by have:=HK.out;simp;omega) (by simp) fun j hj h=>by have:=h.2.2;simp at this;omega
 have P:Hid (RoPost w N v (.returned (.slice (some ⟨w.heap.size,0,none⟩) N N)) w2):=Lib.hid (by
  rw[List.drop_of_length_le (by simp),List.append_nil]at Wb2;refine⟨_,_,rfl,Nat.le_refl _,by have:=HK.out;simp;omega,Wb2,by rw[ev_pad'];exact HV.out,HBe.out.trans (T2.below (B:=w.heap.size) (by have:=HZ1.out;omega) fun a h=>by rw[h.1];exact Nat.le_refl _)⟩)
 clear ar2 T2 Z2 Wb2 ar1 hr1
 go_wp2
 go_ret
 exact P.out
theorem d_5 (g p cap n d:Nat)(B:Option Addr)(zs xs:List Nat)(m:Nat)(w:World)(har:Ar w g p 85 zs)(hzl:zs.length=m)(hr:Rd w .u64 B xs)(hn:xs.length=n)
  (lx:Low 18446744073709551616 xs) (hnm:n<=m) (hcap:m<=cap) (hm:cap<=9223372036854775807):
  Calls Tryz.prog 224 #[.slice (some ⟨g,p,none⟩) m cap,.slice B n d] w (FiPost w g p m xs):=by
 have HZ:=Lib.hid hzl;have HN:=Lib.hid hn;have hl:((xs++zs.drop n).drop n).length=m - n:=by simp;omega
 have HL:=Lib.hid hl;have he:∀w1 w2:World,Ar w1 g p 85 (xs++zs.drop n)->Tch (Seg g p m) w w1->w1.heap.size=w.heap.size->Ar w2 g (p+n) 85 (List.replicate (m - n) 0)->Tch (Seg g (p+n) (m - n)) w1 w2->w2.heap.size=w1.heap.size->
   FiPost w g p m xs (.returned (.tuple #[])) w2:=by
  subst hn;intro w1 w2 h1 t1 z1 h2 t2 z2;exact i_o hzl hnm h1 t1 z1 h2 t2 z2
 have HE:=Lib.hid he;clear hzl hn hl he;have hS:∀j,j<n->Seg g p m ⟨g,p+j,none⟩:=fun j hj=>⟨rfl,Nat.le_add_right _ _,Nat.add_lt_add_left (by omega) _⟩;have HS:=Lib.hid hS;have hS2:∀j,j<m - n->Seg g (p+n) (m - n) ⟨g,p+n+j,none⟩:=fun j hj=>⟨rfl,Nat.le_add_right _ _,Nat.add_lt_add_left hj _⟩;have HS2:=Lib.hid hS2;clear hS hS2;by_cases hc:n=cap
 ·obtain rfl:n=m:=by omega
  subst hc;have h0:n - n=0:=by omega
  have H0:=Lib.hid h0;clear h0;go_enter Tryz.func224,Tryz.ntmps224
  go_wp2_with (refine a_r rfl (.tmp 5) (.tmp 6) _ _ rfl 85 Tryz.underlying29 (by kernel_rfl) B n n n d g p 85 zs xs rfl rfl HZ.out HN.out (Nat.le_refl _) har hr lx (Seg g p n) HS.out ?_)
  intro w1 h1 t1 z1;have Z1:=Lib.hid z1;clear z1;have h2:=h1.drop n (by have:=HN.out;simp;omega)
  go_wp2_with (refine b_e rfl (.tmp 10) _ rfl 85 Tryz.underlying29 zero_u64 _ 0 _ g (p+n) 85 _ rfl (fun h=>by omega) (HL.out.trans H0.out) h2 (Seg g (p+n) (n - n)) (fun j hj=>by omega) ?_)
  intro w2 h3 t3 z3;have Z3:=Lib.hid z3;clear z3
  go_wp2
  go_end0
  exact HE.out _ _ h1 t1 Z1.out (by rw[H0.out];exact h3) (by rw[H0.out];exact t3) Z3.out
 ·have hlt:n<cap:=by omega
  clear hc;go_enter Tryz.func224,Tryz.ntmps224
  go_wp2_with (refine a_r rfl (.tmp 5) (.tmp 6) _ _ rfl 85 Tryz.underlying29 (by kernel_rfl) B m cap n d g p 85 zs xs rfl rfl HZ.out HN.out hnm har hr lx (Seg g p m) HS.out ?_)
  intro w1 h1 t1 z1;have Z1:=Lib.hid z1;clear z1;have h2:=h1.drop n (by have:=HN.out;have:=HZ.out;simp;omega)
  go_wp2_with (refine b_e rfl (.tmp 10) _ rfl 85 Tryz.underlying29 zero_u64 _ (m - n) _ g (p+n) 85 _ rfl (fun h=>rfl) HL.out h2 (Seg g (p+n) (m - n)) HS2.out ?_)
  intro w2 h3 t3 z3;have Z3:=Lib.hid z3;clear z3
  go_wp2
  go_end0
  exact HE.out _ _ h1 t1 Z1.out h3 t3 Z3.out
end
end Go.Proofs.YtfhbdlegkdbmfaaGreat
