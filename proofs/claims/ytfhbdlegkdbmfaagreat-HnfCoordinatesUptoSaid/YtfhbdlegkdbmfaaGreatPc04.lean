/- Pc04 -/
import Derived.Test.YtfhbdlegkdbmfaaGreatPc02
import Derived.Shelf.Strconv.Itoa0
import Derived.Shelf.Spec.TrailingZeros
set_option linter.unusedVariables false
set_option linter.unusedSimpArgs false
set_option linter.unusedSectionVars false
set_option maxRecDepth 100000
set_option maxHeartbeats 8000000
namespace Go.Proofs.YtfhbdlegkdbmfaaGreat
open Go.RowKit
end Go.Proofs.YtfhbdlegkdbmfaaGreat
namespace Go.Proofs.YtfhbdlegkdbmfaaGreat
open Go.RowKit
def Upping (xs zs:List Nat)(s u k c:Nat):Prop:=
 zs.length=s+k/\Low 18446744073709551616 zs/\c<2^u/\ev 18446744073709551616 zs+18446744073709551616^(s+k)*c=2^(64*s+u)*pre 18446744073709551616 xs k
theorem Upping.start (xs:List Nat)(s u:Nat):Upping xs (List.replicate s 0) s u 0 0:=
 ⟨by simp,Low.replicate _ _ (by omega),Nat.pow_pos (by omega),by rw[a_3,a_0];simp⟩
theorem d_x (s u:Nat):(2:Nat)^(64*s+u)=18446744073709551616^s*2^u:=by rw[Nat.pow_add,Nat.pow_mul]
theorem d_9 {x u c:Nat}(hx:x<18446744073709551616)(hu:u<64)(hc:c<2^u):
  ((x*2^u)%18446744073709551616 |||c)=(x*2^u)%18446744073709551616+c/\(x*2^u)%18446744073709551616+c<18446744073709551616/\x / 2^(64 - u)<2^u/\
  (x*2^u)%18446744073709551616+18446744073709551616*(x / 2^(64 - u))=x*2^u:=by
 have e:(18446744073709551616:Nat)=2^(64 - u)*2^u:=by rw[<-Nat.pow_add,Nat.sub_add_cancel (by omega)]
 have hp:0<2^u:=Nat.pow_pos (by omega);have hq:0<2^(64 - u):=Nat.pow_pos (by omega);have e1:(x*2^u)%18446744073709551616=(x%2^(64 - u))*2^u:=by rw[e,Nat.mul_mod_mul_right]
 have e2:x / 2^(64 - u)<2^u:=(Nat.div_lt_iff_lt_mul hq).2 (by rw[Nat.mul_comm,<-e];exact hx);have e3:x%2^(64 - u)<2^(64 - u):=Nat.mod_lt _ hq;rw[e1];refine⟨?_, ?_,e2, ?_⟩
 ·rw[Nat.mul_comm,Nat.two_pow_add_eq_or_of_lt hc]
 ·have:(x%2^(64 - u)+1)*2^u<=2^(64 - u)*2^u:=Nat.mul_le_mul_right _ e3;rw[Nat.add_mul,Nat.one_mul,<-e]at this;omega
 ·have:=Nat.mod_add_div x (2^(64 - u));have h2:x*2^u=(x%2^(64 - u)+2^(64 - u)*(x / 2^(64 - u)))*2^u:=by rw[this]
  rw[h2,Nat.add_mul,e];generalize x / 2^(64 - u)=q;grind
theorem Upping.step {xs zs:List Nat}{s u k c:Nat}(hu:u<64)(lx:Low 18446744073709551616 xs)(h:Upping xs zs s u k c):
  Upping xs (zs++[(nth xs k*2^u)%18446744073709551616+c]) s u (k+1) (nth xs k / 2^(64 - u)):=by
 obtain⟨h1,h2,h3,h4⟩:=h;obtain⟨_,g2,g3,g4⟩:=d_9 (lx.any (by omega) k) hu h3;refine⟨by simp[h1];omega,h2.snoc g2,g3, ?_⟩;rw[d_x,Nat.pow_add]at h4;rw[b_g,h1,a_c,d_x,<-Nat.add_assoc s k 1,Nat.pow_succ,Nat.pow_add];generalize nth xs k / 2^(64 - u)=q at *;generalize(nth xs k*2^u)%18446744073709551616=r at *;generalize(18446744073709551616:Nat)^s=a at *;generalize(18446744073709551616:Nat)^k=d at *;generalize(18446744073709551616:Nat)=b at *;generalize(2:Nat)^u=v at *;grind
theorem Upping.stop {xs zs:List Nat}{s u k c:Nat}(hu:u<64)(h:Upping xs zs s u k c)(hx:xs.length<=k):
  Low 18446744073709551616 (zs++[c])/\ev 18446744073709551616 (zs++[c])=ev 18446744073709551616 xs*2^(64*s+u)/\(zs++[c]).length=s+k+1:=by
 obtain⟨h1,h2,h3,h4⟩:=h;rw[b_a _ hx]at h4;have h5:(2:Nat)^u<=2^64:=Nat.pow_le_pow_right (by omega) (by omega);refine⟨h2.snoc (by omega), ?_,by simp[h1]⟩;rw[b_g,h1,h4,Nat.mul_comm]
theorem n_0 (a b:Nat)(ha:a<18446744073709551616)(hb:b<18446744073709551616):bits .or .u64 (a:Int) (b:Int)=((a |||b:Nat):Int):=
 (bits_nat .u64 64 (by decide) (fun n h0 h1=>by rw[IntKind.wrap_u64];omega) a b ha hb).2
theorem f_e {x u c:Nat}(hx:x<18446744073709551616)(hu:u<64)(hc:c<2^u):
  bits .or .u64 (IntKind.u64.wrap ((x:Int)*2^u)) (c:Int)=(((x*2^u)%18446744073709551616+c:Nat):Int):=by
 obtain⟨h1,h2,_,_⟩:=d_9 hx hu hc;have e:IntKind.u64.wrap ((x:Int)*2^u)=(((x*2^u)%18446744073709551616:Nat):Int):=by
  rw[IntKind.wrap_u64,Int.natCast_emod,Int.natCast_mul,Int.natCast_pow];rfl
 rw[e,n_0 _ _ (by omega) (by omega),h1]
theorem d_m (x u:Nat):(x:Int) / 2^(64 - u)=((x / 2^(64 - u):Nat):Int):=by
 rw[Int.natCast_ediv,Int.natCast_pow];rfl
def TwoPost (v:Nat)(w:World)(e:Ending)(w':World):Prop:=
 ∃A c,e= .returned (.tuple #[.slice A (cn 18446744073709551616 v).length c,.bool true])/\Got w w' 85 .u64 A c (cn 18446744073709551616 v)
theorem j_1 {w w':World}{g v n:Nat}{zs:List Nat}(hb:Blk w' g 85 .u64 zs)(hg:w.heap.size<=g)(hw:Below w.heap.size w w')(hn:zs.length=n)(hm:n<=9223372036854775807)(hl:Low 18446744073709551616 zs)(hv:ev 18446744073709551616 zs=v):
  TwoPost v w (.returned (.tuple #[.slice (some ⟨g,0,none⟩) (sl zs) n,.bool true])) w':=by
 subst hn hv;exact⟨_,_,by rw[c_p _ (by omega) hl],c_l (by omega) hb hg hw hm hl⟩
theorem TwoPost.nil (w:World){v:Nat}(hv:v=0):TwoPost v w (.returned (.tuple #[.slice none 0 0,.bool true])) w:=by
 subst hv;exact⟨none,0,rfl,Got.nil w _ _⟩
def UpRel (w:World)(xs:List Nat)(s u n k:Nat)(q:Value)(wr:World):Prop:=
 ∃(c r:Nat) (zs:List Nat),Upping xs zs s u k c/\q= .int .u64 c/\k+r=n/\Blk wr w.heap.size 85 .u64 (zs++List.replicate (r+1) 0)/\Below w.heap.size w wr
theorem UpRel.next {w wr:World}{xs zs:List Nat}{s u n k c r:Nat}(lx:Low 18446744073709551616 xs)(hu:u<64)(ha:Upping xs zs s u k c)
  (hn:k+(r+1)=n) (hb:Blk wr w.heap.size 85 .u64 (zs++List.replicate (r+1+1) 0)) (hw:Below w.heap.size w wr):
  UpRel w xs s u n (k+1) (.int .u64 ((nth xs k:Int) / 2^(64 - u))) (wr.setCell ⟨w.heap.size,s+k,none⟩ (.int .u64 (bits .or .u64 (IntKind.u64.wrap ((nth xs k:Int)*2^u)) (c:Int)))):=by
 rw[f_e (lx.any (by omega) k) hu ha.2.2.1,d_m];have h:=hb.set zs.length ((nth xs k*2^u)%18446744073709551616+c);rw[d_c,ha.1]at h;exact⟨_,r,_,ha.step hu lx,rfl,by omega,h,hw.setCell (Nat.le_refl _) _⟩
theorem d_b {b:Nat}{xs:List Nat}(h:sl xs=0):ev b xs=0:=by
 rw[<-a_n,h];simp[ev]
theorem g_e (A:Option Addr)(n c:Nat)(xs:List Nat)(k s u:Nat)(w:World)(hx:Rd w .u64 A xs)(hxn:xs.length=n)
  (hc:n<=c) (hc':c<=9223372036854775807) (lx:Low 18446744073709551616 xs) (bx:n<=1099511627776) (hk:k<=1048576) (hs:(k:Int) / 64=(s:Int)) (hu:(k:Int)%64=(u:Int)):
  Calls Tryz.prog 203 #[.slice A n c,.int .i64 k] w (TwoPost (ev 18446744073709551616 xs*2^k) w):=by
 have sx:sl xs<=n:=hxn ▸ a_4 xs;have HX:=Lib.hid hxn;have e:=a_n 18446744073709551616 xs;by_cases h0:sl xs=0
 ·have e1:ev 18446744073709551616 xs*2^k=0:=by rw[d_b h0,Nat.zero_mul]
  have E1:=Lib.hid e1;have H0:=Lib.hid h0;clear hxn e e1 h0;go_enter Tryz.func203,Tryz.ntmps203
  go_wp2_with fail
  refine(a_d _ _ _ xs _ hx HX.out (by omega) (by omega)).mono ?_;rintro e w' ⟨rfl,rfl⟩;rw[H0.out]
  go_wp2
  go_ret2
  exact TwoPost.nil _ E1.out
 ·have hk2:k=64*s+u:=by omega
  have hsb:s<=16384:=by omega
  have hub:u<64:=by omega
  obtain⟨us,hus⟩:∃us,us=xs.take (sl xs):=⟨_,rfl⟩;have hux:Rd w .u64 A us:=hus ▸ hx.take _;have lu:Low 18446744073709551616 us:=hus ▸ lx.take _;have eu:sl xs=us.length:=by rw[hus];simp[Nat.min_eq_left (a_4 xs)]
  have ev1:ev 18446744073709551616 us*2^(64*s+u)=ev 18446744073709551616 xs*2^k:=by rw[hus,e,hk2]
  have hmx:us.length<=1099511627776:=by omega
  have b0:(((us.length:Nat):Int)==0)=false:=by rw[beq_eq_false_iff_ne];omega
  have EU:=Lib.hid eu;have EV:=Lib.hid ev1;have HK2:=Lib.hid hk2;clear hxn e h0 hus eu ev1 hk2;go_enter Tryz.func203,Tryz.ntmps203
  go_wp2_with fail
  refine(a_d _ _ _ xs _ hx HX.out (by omega) (by omega)).mono ?_;rintro e w' ⟨rfl,rfl⟩;rw[EU.out]
  go_wp2_with (at_make;refine a_e _ rfl _ _ 29 rfl 85 .u64 8 Tryz.underlying29 info_u64 _ _ _ _ (s+us.length+1) rfl rfl (by omega) (by omega) (by omega) (by omega) ?_)
  intro w1 hb1 hw1 hz1;have HZ:=Lib.hid hz1;clear hz1
  go_wp2
  go_loopw [9,35] (fun q i wr=>∃k:Nat,k<=us.length/\i= .int .i64 k/\UpRel w us s u us.length k q wr) (fun _ i _=>us.length - (intOf i).toNat)
  case atStart=>exact⟨0,Nat.zero_le _,rfl,0,us.length,_,Upping.start us s u,rfl,by omega,by rw[List.replicate_append_replicate];exact hb1,hw1⟩
  case round=>
   obtain⟨j,hj,rfl,cr,r,zs,ha,rfl,hkr,hb,hw⟩:=hrel;by_cases hlt:j<us.length
   ·obtain⟨r,rfl⟩:∃q,r=q+1:=⟨r - 1,by omega⟩;obtain⟨ad,rfl,_,c1⟩:=(hux.below hw).at (k:=j) hlt;have cs:=hb.cell (j:=s+j) (by simp[ha.1]);have cf:=hb.free (s+j);have hx1:=lu.any (by omega) j;have HA:=Lib.hid ha;have HKR:=Lib.hid hkr;clear ha hkr
    go_wp2_with fail
    go_roundw
    case rel=>exact⟨j+1,by omega,by go_num,UpRel.next lu hub HA.out HKR.out hb hw⟩
    case measure=>simp[intOf];omega
   ·obtain rfl:j=us.length:=by omega
    obtain rfl:r=0:=by omega
    have cs:=hb.cell (j:=s+us.length) (by simp[ha.1]);have cf:=hb.free (s+us.length);have hb2:=hb.set zs.length cr;rw[d_c,ha.1]at hb2;obtain⟨s1,s2,s3⟩:=ha.stop hub (Nat.le_refl _);have S2:=Lib.hid s2;have S3:=Lib.hid s3;clear s2 s3 ha hkr hlt hb
    go_wp2_with fail
    simp only[List.replicate_zero,List.append_nil]at hb2;refine(a_d _ _ _ (zs++[cr]) _ hb2.rd0 S3.out (Nat.le_refl _) (by omega)).mono ?_;rintro e w' ⟨rfl,rfl⟩
    go_wp2
    go_ret2
    exact j_1 hb2 (Nat.le_refl _) (hw.setCell (Nat.le_refl _) _) S3.out (by omega) s1 (S2.out.trans EV.out)
end Go.Proofs.YtfhbdlegkdbmfaaGreat
namespace Go.Proofs.YtfhbdlegkdbmfaaGreat
open Go.RowKit
def dnw (xs:List Nat)(s u j:Nat):Nat:=nth xs (s+j) / 2^u+(nth xs (s+j+1)*2^(64 - u))%18446744073709551616
def dn (xs:List Nat)(s u:Nat):List Nat:=(List.range (xs.length - s)).map (dnw xs s u)
theorem c_6 (xs:List Nat)(s u:Nat):(dn xs s u).length=xs.length - s:=by simp[dn]
theorem l_f {xs:List Nat}{s u j:Nat}(h:j<xs.length - s):nth (dn xs s u) j=dnw xs s u j:=by simp[dn,nth,List.getD,h]
theorem c_j (u:Nat)(hu:u<64):(18446744073709551616:Nat)=2^u*2^(64 - u):=by rw[<-Nat.pow_add,Nat.add_sub_cancel' (by omega)]
theorem h_q {x y u:Nat}(hx:x<18446744073709551616)(hu:u<64):
  (x / 2^u |||(y*2^(64 - u))%18446744073709551616)=x / 2^u+(y*2^(64 - u))%18446744073709551616/\x / 2^u+(y*2^(64 - u))%18446744073709551616<18446744073709551616/\
  (y*2^(64 - u))%18446744073709551616=(y%2^u)*2^(64 - u)/\x / 2^u<18446744073709551616:=by
 have e:=c_j u hu;have hp:0<2^u:=Nat.pow_pos (by omega);have e1:(y*2^(64 - u))%18446744073709551616=(y%2^u)*2^(64 - u):=by rw[e,Nat.mul_mod_mul_right]
 have e2:x / 2^u<2^(64 - u):=(Nat.div_lt_iff_lt_mul hp).2 (by rw[Nat.mul_comm,<-e];exact hx);have e3:y%2^u<2^u:=Nat.mod_lt _ hp;have e4:x / 2^u<=x:=Nat.div_le_self _ _;rw[e1];refine⟨?_, ?_,rfl,by omega⟩
 ·rw[Nat.or_comm,Nat.mul_comm,Nat.add_comm,Nat.two_pow_add_eq_or_of_lt e2]
 ·have:(y%2^u+1)*2^(64 - u)<=2^u*2^(64 - u):=Nat.mul_le_mul_right _ e3;rw[Nat.add_mul,Nat.one_mul,<-e]at this;omega
theorem r_3 {xs:List Nat}(lx:Low 18446744073709551616 xs){s u:Nat}(hu:u<64):Low 18446744073709551616 (dn xs s u):=fun j hj=>by
 rw[c_6]at hj;rw[l_f hj];exact(h_q (lx.any (by omega) _) hu).2.1
theorem r_2 {xs:List Nat}(lx:Low 18446744073709551616 xs){s u:Nat}(hu:u<64):∀k,k<=xs.length - s->
  pre 18446744073709551616 (dn xs s u) k*2^u+nth xs s%2^u=pre 18446744073709551616 (xs.drop s) k+18446744073709551616^k*(nth xs (s+k)%2^u):=by
 intro k;induction k with
 |zero=>intro _;simp[a_0]
 |succ k ih=>
  intro hk;have h1:=ih (by omega);obtain⟨_,_,h2,_⟩:=h_q (x:=nth xs (s+k)) (y:=nth xs (s+k+1)) (lx.any (by omega) _) hu;have h3:=Nat.mod_add_div (nth xs (s+k)) (2^u);have e:=c_j u hu;rw[a_c,a_c,l_f (by omega),a_5,Nat.pow_succ];unfold dnw;rw[h2,<-Nat.add_assoc s k 1];generalize nth xs (s+k+1)%2^u=r1 at *;generalize nth xs (s+k) / 2^u=q at *;generalize nth xs (s+k)%2^u=r0 at *;generalize nth xs s%2^u=rr at *;rw[<-h3];generalize(18446744073709551616:Nat)^k=p at *;generalize(2:Nat)^(64 - u)=v at *;generalize(18446744073709551616:Nat)=b at *;generalize(2:Nat)^u=t at *;subst e;grind
theorem s_s {xs:List Nat}(lx:Low 18446744073709551616 xs){s u:Nat}(hu:u<64)(hs:s<=xs.length):ev 18446744073709551616 (dn xs s u)=ev 18446744073709551616 xs / 2^(64*s+u):=by
 have h:=r_2 lx hu (xs.length - s) (Nat.le_refl _);rw[show s+(xs.length - s)=xs.length from by omega,c_c (Nat.le_refl _),Nat.zero_mod,Nat.mul_zero,Nat.add_zero]at h;rw[b_a _ (by rw[c_6];exact Nat.le_refl _),b_a _ (by simp)]at h;have e1:=a_7 18446744073709551616 xs s hs;have e2:=c_3 lx (by omega) s;have hp:0<2^u:=Nat.pow_pos (by omega);have e3:nth xs s%2^u<2^u:=Nat.mod_lt _ hp;rw[d_x,<-Nat.div_div_eq_div_mul];have e4:ev 18446744073709551616 xs / 18446744073709551616^s=ev 18446744073709551616 (xs.drop s):=by
  rw[e1,Nat.add_mul_div_left _ _ (Nat.pow_pos (by omega)),Nat.div_eq_of_lt e2,Nat.zero_add]
 rw[e4,<-h,Nat.mul_comm,Nat.mul_add_div hp,Nat.div_eq_of_lt e3,Nat.add_zero]
theorem m_f (L:List Nat)(t:Nat)(ht:t<L.length):(List.replicate (t+1) 0++L.drop (t+1)).set t (nth L t)=List.replicate t 0++L.drop t:=by
 rw[List.replicate_succ',List.append_assoc,List.set_append_right _ _ (by simp)];simp[c_n ht]
def DnRel (w:World)(xs:List Nat)(s u t:Nat)(q:Value)(wr:World):Prop:=
 q= .int .u64 (((nth xs (s+t)*2^(64 - u))%18446744073709551616:Nat):Int)/\Blk wr w.heap.size 85 .u64 (List.replicate t 0++(dn xs s u).drop t)/\Below w.heap.size w wr
theorem n_e {x u c:Nat}(hx:x<18446744073709551616)(hu:u<64)(y:Nat)(hc:c=(y*2^(64 - u))%18446744073709551616):
  bits .or .u64 ((x:Int) / 2^u) (c:Int)=((x / 2^u+(y*2^(64 - u))%18446744073709551616:Nat):Int):=by
 subst hc;obtain⟨h1,h2,h3,h4⟩:=h_q (y:=y) hx hu;have e:(x:Int) / 2^u=((x / 2^u:Nat):Int):=by
  rw[Int.natCast_ediv,Int.natCast_pow];rfl
 rw[e,n_0 _ _ h4 (by omega),h1]
theorem l_4 (x u:Nat):IntKind.u64.wrap ((x:Int)*2^(64 - u))=(((x*2^(64 - u))%18446744073709551616:Nat):Int):=by
 rw[IntKind.wrap_u64,Int.natCast_emod,Int.natCast_mul,Int.natCast_pow];rfl
theorem DnRel.next {w wr:World}{xs:List Nat}{s u t c:Nat}(lx:Low 18446744073709551616 xs)(hu:u<64)(ht:t<xs.length - s)(hc:c=(nth xs (s+(t+1))*2^(64 - u))%18446744073709551616)
  (hb:Blk wr w.heap.size 85 .u64 (List.replicate (t+1) 0++(dn xs s u).drop (t+1))) (hw:Below w.heap.size w wr):
  DnRel w xs s u t (.int .u64 (IntKind.u64.wrap ((nth xs (s+t):Int)*2^(64 - u)))) (wr.setCell ⟨w.heap.size,t,none⟩ (.int .u64 (bits .or .u64 ((nth xs (s+t):Int) / 2^u) (c:Int)))):=by
 rw[n_e (lx.any (by omega) _) hu _ hc,l_4];have h:=hb.set t (nth (dn xs s u) t);rw[m_f _ _ (by rw[c_6];exact ht),l_f ht]at h;exact⟨rfl,h,hw.setCell (Nat.le_refl _) _⟩
theorem j_9 (A:Option Addr)(n c:Nat)(xs:List Nat)(k s u:Nat)(w:World)(hx:Rd w .u64 A xs)(hxn:xs.length=n)
  (hc:n<=c) (hc':c<=9223372036854775807) (lx:Low 18446744073709551616 xs) (bx:n<=1099511627776) (hk:k<=9223372036854775807) (hs:(k:Int) / 64=(s:Int)) (hu:(k:Int)%64=(u:Int)):
  Calls Tryz.prog 205 #[.slice A n c,.int .i64 k] w (TwoPost (ev 18446744073709551616 xs / 2^k) w):=by
 have sx:sl xs<=n:=hxn ▸ a_4 xs;have HX:=Lib.hid hxn;have hk2:k=64*s+u:=by omega
 have hub:u<64:=by omega
 have e:=a_n 18446744073709551616 xs;obtain⟨us,hus⟩:∃us,us=xs.take (sl xs):=⟨_,rfl⟩;have hux:Rd w .u64 A us:=hus ▸ hx.take _;have lu:Low 18446744073709551616 us:=hus ▸ lx.take _;have eu:sl xs=us.length:=by rw[hus];simp[Nat.min_eq_left (a_4 xs)]
 have ev1:ev 18446744073709551616 us / 2^(64*s+u)=ev 18446744073709551616 xs / 2^k:=by rw[hus,e,hk2]
 have hmx:us.length<=1099511627776:=by omega
 have EU:=Lib.hid eu;have EV:=Lib.hid ev1;have HK2:=Lib.hid hk2;clear hxn e hus eu ev1 hk2;by_cases h0:us.length<=s
 ·have e1:ev 18446744073709551616 us / 2^(64*s+u)=0:=by
   have h1:=b_y lu;have h2:=f_n h0;rw[d_x,<-Nat.div_div_eq_div_mul,Nat.div_eq_of_lt (Nat.lt_of_lt_of_le h1 h2),Nat.zero_div]
  have E1:=Lib.hid (EV.out.symm.trans e1);clear e1;go_enter Tryz.func205,Tryz.ntmps205
  go_wp2_with fail
  refine(a_d _ _ _ xs _ hx HX.out (by omega) (by omega)).mono ?_;rintro e w' ⟨rfl,rfl⟩;rw[EU.out]
  go_wp2
  go_ret2
  exact TwoPost.nil _ E1.out
 ·have h1:s<us.length:=by omega
  have hdl:=c_6 us s u;have HDL:=Lib.hid hdl;obtain⟨m,hm⟩:∃m,m=us.length - s:=⟨_,rfl⟩;have hm':(us.length:Int) - (s:Int)=(m:Int):=by omega
  have HM:=Lib.hid hm;have hml:m<=us.length:=by omega
  clear h0 hdl hm;go_enter Tryz.func205,Tryz.ntmps205
  go_wp2_with fail
  refine(a_d _ _ _ xs _ hx HX.out (by omega) (by omega)).mono ?_;rintro e w' ⟨rfl,rfl⟩;rw[EU.out]
  go_wp2_with (at_make;refine a_e _ rfl _ _ 29 rfl 85 .u64 8 Tryz.underlying29 info_u64 _ _ _ _ m rfl rfl (by omega) (by omega) (by omega) (by omega) ?_)
  intro w1 hb1 hw1 hz1;have HZ:=Lib.hid hz1;have HM':=Lib.hid hm';clear hz1 hm'
  go_wp2
  go_loopw [9,10] (fun q i wr=>∃t:Nat,t<=m/\i= .int .i64 (((s+t:Nat):Int) - 1)/\DnRel w us s u t q wr) (fun _ i _=>(intOf i+1).toNat)
  case atStart=>exact⟨m,Nat.le_refl _,by have:=HM.out;go_num,by rw[c_c (by have:=HM.out;omega),Nat.zero_mul];rfl,by rw[List.drop_eq_nil_of_le (by rw[HDL.out,HM.out];exact Nat.le_refl _),List.append_nil];exact hb1,hw1⟩
  case round=>
   obtain⟨t,ht,rfl,rfl,hb,hw⟩:=hrel;rcases Nat.eq_zero_or_pos t with rfl|hpos
   ·have hv:=(s_s lu hub (by omega)).trans EV.out;have HV:=Lib.hid hv;have lz:=r_3 lu (s:=s) hub;simp only[List.replicate_zero,List.nil_append,List.drop_zero]at hb;clear hv
    go_wp2_with fail
    refine(a_d _ _ _ (dn us s u) _ hb.rd0 (HDL.out.trans HM.out.symm) (Nat.le_refl _) (by omega)).mono ?_;rintro e w' ⟨rfl,rfl⟩
    go_wp2
    go_ret2
    exact j_1 hb (Nat.le_refl _) hw (HDL.out.trans HM.out.symm) (by omega) lz HV.out
   ·obtain⟨t,rfl⟩:∃q,t=q+1:=⟨t - 1,by omega⟩;have hmm:=HM.out;obtain⟨ad,rfl,hadb,c0⟩:=hux.at (k:=s+t) (by omega);have c1:=(hw.cell (p:=ad.add (s+t)) (by rw[a_b];exact hadb)).trans c0;have c2:∀v,(wr.setCell ⟨w.heap.size,t,none⟩ v).cell? (ad.add (s+t))=some (.int .u64 (nth us (s+t))):=fun v=>
     (World.cell?_setCell_other wr ⟨w.heap.size,t,none⟩ (ad.add (s+t)) v (fun e=>by have h9:=congrArg Addr.block e;rw[a_b]at h9;simp at h9;omega)).trans c1
    have cs:=hb.cell (j:=t) (by simp;omega);have cf:=hb.free t;have hx1:=lu.any (by omega) (s+t);obtain⟨cr,hcr⟩:∃cr,cr=(nth us (s+(t+1))*2^(64 - u))%18446744073709551616:=⟨_,rfl⟩;have hcl:cr<18446744073709551616:=by omega
    have i1:(((s+(t+1):Nat):Int) - 1)=((s+t:Nat):Int):=by omega
    rw[<-hcr,i1];have HCR:=Lib.hid hcr;have i2:((s+t:Nat):Int) - (s:Int)=(t:Int):=by omega
    have tm:t<m:=by omega
    have tm2:t<us.length - s:=by omega
    clear hcr i1 hmm c0
    go_wp2_with fail
    go_roundw
    case rel=>exact⟨t,by omega,by go_num,DnRel.next lu hub tm2 HCR.out hb hw⟩
    case measure=>simp[intOf];omega
end Go.Proofs.YtfhbdlegkdbmfaaGreat
namespace Go.Proofs
open Go.Shelf
def Tryz.laysLen64_ren:Go.Shelf.Ren:=⟨fun|129=>107|n=>n,fun|53=>85|3=>3|4=>4|46=>156|5=>5|9=>9|n=>n,fun|n=>n⟩
theorem Tryz.laysLen64:Go.Proofs.Lays.n129 Tryz.prog Tryz.laysLen64_ren:={
 mixed:=by kernel_rfl
 f129:=Tryz.func107.trans (congrArg some (by kernel_rfl))
 t3:=Tryz.underlying3
 a3:=Tryz.isAgg3
 z3:=Tryz.sizeOf3
 v3:=Tryz.zeroValue3
 t4:=Tryz.underlying4
 a4:=Tryz.isAgg4
 z4:=Tryz.sizeOf4
 v4:=Tryz.zeroValue4
 t5:=Tryz.underlying5
 a5:=Tryz.isAgg5
 z5:=Tryz.sizeOf5
 v5:=Tryz.zeroValue5
 t9:=Tryz.underlying9
 a9:=Tryz.isAgg9
 z9:=Tryz.sizeOf9
 v9:=Tryz.zeroValue9
 t46:=Tryz.underlying156
 a46:=Tryz.isAgg156
 z46:=Tryz.sizeOf156
 v46:=Tryz.zeroValue156
 t53:=Tryz.underlying85
 a53:=Tryz.isAgg85
 z53:=Tryz.sizeOf85
 v53:=Tryz.zeroValue85 }
end Go.Proofs
namespace Go.Proofs.YtfhbdlegkdbmfaaGreat
open Go.RowKit
def bl (v:Nat):Nat:=if v=0 then 0 else v.log2+1
theorem bl_le {v k:Nat}:bl v<=k↔v<2^k:=by
 unfold bl;by_cases h:v=0
 ·subst h;simp[Nat.pow_pos]
 ·rw[if_neg h,Nat.succ_le_iff,Nat.log2_lt h]
theorem bl_lt {v k:Nat}:k<bl v↔0<v / 2^k:=by
 have h:=@bl_le v k;have hp:0<2^k:=Nat.pow_pos (by omega);constructor
 ·intro h1;exact Nat.div_pos (by omega) hp
 ·intro h1
  have:=(Nat.div_pos_iff).1 h1;omega
theorem bl_zero:bl 0=0:=rfl
theorem r_8 {v n:Nat}(h:∀k,n<=k↔v<2^k):n=bl v:=
 Nat.le_antisymm ((h _).2 (bl_le.1 (Nat.le_refl _))) (bl_le.2 ((h _).1 (Nat.le_refl _)))
theorem bitLenAux_le:∀(f x k:Nat),x<2^f->(Lib.bitLenAux f x<=k↔x<2^k)
 |0,x,k,h=>by
  have h0:x=0:=by simpa using h
  subst h0;simp[Lib.bitLenAux,Nat.pow_pos]
 |f+1,x,k,h=>by
  unfold Lib.bitLenAux;by_cases h0:x=0
  ·subst h0;simp[Nat.pow_pos]
  ·rw[if_neg h0];cases k with
   |zero=>simp;omega
   |succ k=>
    have:=bitLenAux_le f (x / 2) k (by rw[Nat.pow_succ]at h;omega);rw[Nat.pow_succ];omega
theorem l_u {x:Nat}(hx:x<18446744073709551616):Lib.bitLen x=bl x:=r_8 fun k=>bitLenAux_le 64 x k hx
theorem o_d {p x l:Nat}(hp:p<18446744073709551616^l)(hx:0<x):bl (p+18446744073709551616^l*x)=64*l+bl x:=by
 have e:(18446744073709551616:Nat)^l=2^(64*l):=by rw[Nat.pow_mul]
 rw[e]at hp ⊢;refine(r_8 fun k=>?_).symm;have hq:0<2^(64*l):=Nat.pow_pos (by omega);by_cases hk:64*l<=k
 ·obtain⟨d,rfl⟩:∃d,k=64*l+d:=⟨k - 64*l,by omega⟩;have h1:=@bl_le x d;rw[Nat.pow_add];constructor
  ·intro h2;have h3:(x+1)<=2^d:=h1.1 (by omega);have h4:=Nat.mul_le_mul_left (2^(64*l)) h3;rw[Nat.mul_add,Nat.mul_one]at h4;omega
  ·intro h2;have h3:2^(64*l)*x<2^(64*l)*2^d:=by omega
   have h4:=Nat.lt_of_mul_lt_mul_left h3
   have:=h1.2 h4;omega
 ·have h1:(2:Nat)^k<=2^(64*l):=Nat.pow_le_pow_right (by omega) (by omega);have h2:2^(64*l)*1<=2^(64*l)*x:=Nat.mul_le_mul_left _ hx;have h3:=@bl_le x 0;have h4:0<bl x:=by
   rcases Nat.eq_zero_or_pos (bl x)with h|h
   ·have:=h3.1 (by omega);simp at this;omega
   ·exact h
  constructor
  ·intro h5;omega
  ·intro h5;omega
theorem e_l (x:Nat)(hx:x<18446744073709551616)(w:World):
  Calls Tryz.prog 107 #[.int .u64 x] w fun e w'=>e= .returned (.int .i64 (bl x))/\w=w':=
 (Any.bits_Len64 Tryz.laysLen64 (x:Int) w (by omega) (by omega)).mono fun _ _ ⟨he,hw⟩=>⟨by rw[he,Int.toNat_natCast,l_u hx],hw.symm⟩
end Go.Proofs.YtfhbdlegkdbmfaaGreat
namespace Go.Proofs.YtfhbdlegkdbmfaaGreat
open Go.RowKit
theorem h_8 {xs:List Nat}{l:Nat}(h:sl xs=l+1):ev 18446744073709551616 xs=pre 18446744073709551616 xs l+18446744073709551616^l*nth xs l:=by
 have:=g_i 18446744073709551616 xs;rw[h,a_c]at this;exact this.symm
theorem f_b (A:Option Addr)(n c:Nat)(xs:List Nat)(w:World)(hx:Rd w .u64 A xs)(hxn:xs.length=n)(hc:n<=c)(hc':c<=9223372036854775807)(lx:Low 18446744073709551616 xs)(bn:n<=1099511627776):
  Calls Tryz.prog 47 #[.slice A n c] w fun e w'=>e= .returned (.int .i64 (bl (ev 18446744073709551616 xs)))/\w=w':=by
 have HX:=Lib.hid hxn;have sx:sl xs<=n:=hxn ▸ a_4 xs;rcases Nat.eq_zero_or_pos (sl xs)with h0|hpos
 ·have e0:=d_b (b:=18446744073709551616) h0;have E0:=Lib.hid e0;have H0:=Lib.hid h0;clear hxn e0 h0;go_enter Tryz.func47,Tryz.ntmps47
  go_wp2_with fail
  refine(a_d _ _ _ xs _ hx HX.out (by omega) (by omega)).mono ?_;rintro e w' ⟨rfl,rfl⟩;rw[H0.out]
  go_wp2
  go_ret
  exact⟨by rw[E0.out];rfl,rfl⟩
 ·obtain⟨l,hl⟩:∃l,sl xs=l+1:=⟨sl xs - 1,by omega⟩;have ht:=e_f hpos;rw[hl,Nat.add_sub_cancel]at ht;have hb:bl (ev 18446744073709551616 xs)=64*l+bl (nth xs l):=by rw[h_8 hl];exact o_d (c_3 lx (by omega) l) (by omega)
  have hln:l<n:=by omega
  obtain⟨ad,rfl,_,hcell⟩:=hx.at (k:=l) (by omega);have u1:=lx.any (by omega) l;have b0:(((l+1:Nat):Int)==0)=false:=by rw[beq_eq_false_iff_ne];omega
  have b64:bl (nth xs l)<=64:=bl_le.2 (by simpa using u1);have HB:=Lib.hid hb;have HL:=Lib.hid hl;clear hxn hl ht hb hpos sx;go_enter Tryz.func47,Tryz.ntmps47
  go_wp2_with fail
  refine(a_d _ _ _ xs _ hx HX.out (by omega) (by omega)).mono ?_;rintro e w' ⟨rfl,rfl⟩;rw[HL.out]
  go_wp2_with fail
  refine(e_l _ u1 _).mono ?_;rintro e w' ⟨rfl,rfl⟩
  go_wp2
  go_ret
  exact⟨by rw[HB.out];exact p_d (by omega),rfl⟩
end Go.Proofs.YtfhbdlegkdbmfaaGreat
namespace Go.Proofs.YtfhbdlegkdbmfaaGreat
open Go.RowKit
end Go.Proofs.YtfhbdlegkdbmfaaGreat
