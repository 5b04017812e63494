/- Pb23 -/
import Derived.Test.YtlgjjnmmepgafaaPb22
import Derived.Test.YtlgjjnmmepgafaaPb06
set_option linter.unusedVariables false
set_option linter.unusedSimpArgs false
set_option linter.unusedSectionVars false
set_option maxRecDepth 100000
set_option maxHeartbeats 8000000
namespace Go.Proofs.Ytlgjjnmmepgafaa
open Go.RowKit
theorem s_i {xs:List Nat}(lx:Low 18446744073709551616 xs):(bl (ev 18446744073709551616 xs)+63) / 64=sl xs:=by
 rcases Nat.eq_zero_or_pos (sl xs)with h0|hpos
 ·rw[h0,c_p h0,bl_zero]
 ·obtain⟨l,hl⟩:∃l,sl xs=l+1:=⟨sl xs - 1,by omega⟩;have ht:=g_a hpos;rw[hl,Nat.add_sub_cancel]at ht;have u1:=lx.any (by omega) l;have b64:bl (nth xs l)<=64:=bl_le.2 (by simpa using u1);have b1:0<bl (nth xs l):=bl_lt.2 (by simp;omega);rw[f_i hl,n_z (e_i lx (by omega) l) (by omega),hl];omega
theorem a_0 (A:Option Addr)(n c:Nat)(xs:List Nat)(w:World)(hx:Rd w .u64 A xs)(hxn:xs.length=n)(hc:n<=c)(hc':c<=9223372036854775807)(lx:Low 18446744073709551616 xs)(bn:n<=1099511627776):
  Calls Try.prog 109 #[.slice A n c] w fun e w'=>e= .returned (.slice A (sl xs) c)/\w=w':=by
 have sx:sl xs<=n:=hxn ▸ a_3 xs;have h1:=s_i lx;obtain⟨B,hB⟩:∃B,B=bl (ev 18446744073709551616 xs):=⟨_,rfl⟩;rw[<-hB]at h1;have HB:=Lib.hid hB;have E1:=Lib.hid (show(B+64 - 1) / 64=sl xs by omega);have hB2:B<=70368744177664:=by omega
 have hB3:(B+64 - 1) / 64<=c:=by omega
 clear h1 hB;go_enter Try.func109,Try.ntmps109
 go_wp2_with fail
 refine(d_u _ _ _ xs _ hx hxn hc hc' lx bn).mono ?_;rintro e w' ⟨rfl,rfl⟩;rw[<-HB.out]
 go_wp2
 go_ret
 exact⟨by show Ending.returned (.slice A ((B+64 - 1) / 64) c)=_;rw[E1.out],rfl⟩
def Wording (b:Nat)(xs D:List Nat)(x k r:Nat):Prop:=
 k+D.length=xs.length/\Low b D/\r<x/\ev b (xs.drop k)=ev b D*x+r
theorem Wording.start {b:Nat}(xs:List Nat){x:Nat}(hx:0<x):Wording b xs [] x xs.length 0:=⟨by simp,Low.nil b,hx,by simp[ev]⟩
theorem Wording.step {b:Nat}{xs D:List Nat}{x k r:Nat}(lx:Low b xs)(hxb:x<=b)(h:Wording b xs D x (k+1) r):
  Wording b xs ((r*b+nth xs k) / x::D) x k ((r*b+nth xs k)%x):=by
 obtain⟨h1,h2,h3,h4⟩:=h;have hk:k<xs.length:=by omega
 have hxk:=lx k hk;have hq:(r*b+nth xs k) / x<b:=(Nat.div_lt_iff_lt_mul (by omega)).2 (by
  have h5:(r+1)*b<=x*b:=Nat.mul_le_mul_right _ h3;rw[Nat.add_mul,Nat.one_mul,Nat.mul_comm x b]at h5;omega)
 refine⟨by simp;omega,h2.cons hq,Nat.mod_lt _ (by omega), ?_⟩;have h6:=Nat.div_add_mod (r*b+nth xs k) x;rw[c_v hk,ev,h4,ev];generalize(r*b+nth xs k) / x=q at *;generalize(r*b+nth xs k)%x=s at *;grind
theorem Wording.stop {b:Nat}{xs D:List Nat}{x r:Nat}(h:Wording b xs D x 0 r):ev b D=ev b xs / x/\r=ev b xs%x:=by
 obtain⟨h1,h2,h3,h4⟩:=h;rw[List.drop_zero]at h4;rw[h4];constructor
 ·rw[Nat.mul_comm,Nat.mul_add_div (by omega),Nat.div_eq_of_lt h3,Nat.add_zero]
 ·rw[Nat.mul_comm,Nat.mul_add_mod,Nat.mod_eq_of_lt h3]
theorem h_5 (D:List Nat)(k v:Nat):(List.replicate (k+1) 0++D).set k v=List.replicate k 0++(v::D):=by
 rw[List.set_append_left _ _ (by simp),List.replicate_succ',List.set_append_right _ _ (by simp)];simp
def BwPost (v x:Nat)(w:World)(e:Ending)(w':World):Prop:=
 ∃A c,e= .returned (.tuple #[.slice A (cn 18446744073709551616 (v / x)).length c,.int .u64 ((v%x:Nat):Int)])/\Got w w' 81 .u64 A c (cn 18446744073709551616 (v / x))
def BwRel (w:World)(xs:List Nat)(x k:Nat)(s:Value)(wr:World):Prop:=
 ∃(r:Nat) (D:List Nat),Wording 18446744073709551616 xs D x k r/\s= .int .u64 (r:Int)/\Blk wr w.heap.size 81 .u64 (List.replicate k 0++D)/\Below w.heap.size w wr
theorem BwRel.next {w wr:World}{xs D:List Nat}{x k r:Nat}(lx:Low 18446744073709551616 xs)(hx:x<18446744073709551616)(h:Wording 18446744073709551616 xs D x (k+1) r)
  (hb:Blk wr w.heap.size 81 .u64 (List.replicate (k+1) 0++D)) (hw:Below w.heap.size w wr) {q s:Nat} (hq:q=(r*18446744073709551616+nth xs k) / x) (hs:s=(r*18446744073709551616+nth xs k)%x):
  BwRel w xs x k (.int .u64 (s:Int)) (wr.setCell ⟨w.heap.size,k,none⟩ (.int .u64 (q:Int))):=by
 subst hq hs;have h2:=hb.set k ((r*18446744073709551616+nth xs k) / x);rw[h_5]at h2;exact⟨_,_,h.step lx (by omega),rfl,h2,hw.setCell (Nat.le_refl _) _⟩
theorem BwRel.stop {w wr:World}{xs D:List Nat}{x r:Nat}(h:Wording 18446744073709551616 xs D x 0 r)(hb:Blk wr w.heap.size 81 .u64 (List.replicate 0 0++D))(hw:Below w.heap.size w wr)(hm:xs.length<=9223372036854775807):
  BwPost (ev 18446744073709551616 xs) x w (.returned (.tuple #[.slice (some ⟨w.heap.size,0,none⟩) (sl D) D.length,.int .u64 (r:Int)])) wr:=by
 obtain⟨h1,h2⟩:=h.stop;have hg:=c_t (b:=18446744073709551616) (by omega) hb (Nat.le_refl _) hw (by have:=h.1;simp at this ⊢;omega) (by simpa using h.2.1);simp only[List.replicate_zero,List.nil_append]at hg;rw[h1]at hg;exact⟨_,_,by rw[h2,c_i _ (by omega) h.2.1,h1],hg⟩
theorem g_v (A:Option Addr)(n c:Nat)(xs:List Nat)(x:Nat)(w:World)(hr:Rd w .u64 A xs)(hn:xs.length=n)(bn:n<=1099511627776)(lx:Low 18446744073709551616 xs)(hx0:0<x)(hx:x<18446744073709551616):
  Calls Try.prog 110 #[.slice A n c,.int .u64 x] w (BwPost (ev 18446744073709551616 xs) x w):=by
 subst hn;go_enter Try.func110,Try.ntmps110
 go_wp2_with (at_make;refine a_c _ rfl _ _ 28 rfl 81 .u64 8 Try.underlying28 info_u64 _ _ _ _ xs.length rfl rfl (by omega) (by omega) (by omega) (by omega) ?_)
 intro w1 hb1 hw1 hz1;have HZ:=Lib.hid hz1;clear hz1
 go_wp2
 go_loopw [7,8] (fun s i wr=>∃k:Nat,k<=xs.length/\i= .int .i64 ((k:Int) - 1)/\BwRel w xs x k s wr) (fun _ i _=>(intOf i+1).toNat)
 case atStart=>exact⟨xs.length,Nat.le_refl _,rfl,0,[],Wording.start xs hx0,rfl,by simpa using hb1,hw1⟩
 case round=>
  obtain⟨k,hk,rfl,r,D,hd,rfl,hb,hw⟩:=hrel;rcases Nat.eq_zero_or_pos k with rfl|hpos
  ·have hl:D.length=xs.length:=by have:=hd.1;omega
   have hP:=BwRel.stop hd hb hw (by omega);have HP:=Lib.hid hP;have HD:=Lib.hid hd;have HL:=Lib.hid hl;clear hd hw hP hl;simp only[List.replicate_zero,List.nil_append]at hb
   go_wp2_with fail
   refine(a_0 _ _ _ D _ hb.rd0 HL.out (by omega) (by omega) HD.out.2.1 (by omega)).mono ?_;rintro e w' ⟨rfl,rfl⟩
   go_wp2_with fail
   go_ret2
   have:=HP.out;rw[HL.out]at this;exact this
  ·obtain⟨i,rfl⟩:∃i,k=i+1:=⟨k - 1,by omega⟩;have hi:i<xs.length:=by omega
   obtain⟨ad,rfl,_,c1⟩:=(hr.below hw).at (k:=i) hi;rw[show(((i+1:Nat):Int) - 1)=(i:Int)from by omega];have HD:=Lib.hid hd;have hrx:r<x:=hd.2.2.1;have hxi:=lx i hi;clear hd
   go_wp2_with fail
   refine(e_s _ _ _ hrx hxi hx _).mono ?_;rintro e w' ⟨rfl,hs⟩;have hb2:=hb.below (hs.below _) hb.lt;have hw2:=hw.trans (hs.below _);have cs:=hb2.cell (j:=i) (by have:=HD.out.1;simp;omega);have cf:=hb2.free i;obtain⟨q,hq⟩:∃q,q=(r*18446744073709551616+nth xs i) / x:=⟨_,rfl⟩;obtain⟨s,hs'⟩:∃s,s=(r*18446744073709551616+nth xs i)%x:=⟨_,rfl⟩;rw[<-hq,<-hs'];have HQ:=Lib.hid hq;have HS:=Lib.hid hs';clear hq hs' hb hw hs c1
   go_wp2_with fail
   go_roundw
   case rel=>exact⟨i,by omega,rfl,BwRel.next lx hx HD.out hb2 hw2 HQ.out HS.out⟩
   case measure=>simp[intOf]
theorem f_6 (x y:Nat)(hx:x<18446744073709551616)(hy:y<18446744073709551616):
  ∃s o:Nat,(∀w,(callFunc 87 #[.int .u64 x,.int .u64 y,.int .u64 0]).run Try.prog w= .ok (.value (.tuple #[.int .u64 (s:Int),.int .u64 (o:Int)])) w)/\
   s+y+0=x+18446744073709551616*o/\s<18446744073709551616/\o<=1:=
 c_o x y 0 hx hy (by omega)
theorem l_k (x c:Nat)(hx:x<18446744073709551616)(hc:c<=1):
  ∃s o:Nat,(∀w,(callFunc 86 #[.int .u64 x,.int .u64 0,.int .u64 c]).run Try.prog w= .ok (.value (.tuple #[.int .u64 (s:Int),.int .u64 (o:Int)])) w)/\
   s+18446744073709551616*o=x+0+c/\s<18446744073709551616/\o<=1:=
 e_9 x 0 c hx (by omega) hc
def Taking (b:Nat)(zs xs us:List Nat)(x k c:Nat):Prop:=
 us.length=k/\Low b us/\c<b/\ev b us+pre b xs k*x=pre b zs k+b^k*c
theorem Taking.start {b:Nat}(hb:0<b)(zs xs:List Nat)(x:Nat):Taking b zs xs [] x 0 0:=⟨rfl,Low.nil b,hb,by simp[ev,a_1]⟩
theorem Taking.step {b:Nat}{zs xs us:List Nat}{x k c s c':Nat}(h:Taking b zs xs us x k c)(hs:s<b)(hc:c'<b)(he:s+nth xs k*x+c=nth zs k+b*c'):
  Taking b zs xs (us++[s]) x (k+1) c':=by
 obtain⟨h1,h2,h3,h4⟩:=h;refine⟨by simp[h1],h2.snoc hs,hc, ?_⟩;rw[b_j,a_d,a_d,h1,Nat.pow_succ];grind
theorem Taking.stop {b:Nat}{zs xs us:List Nat}{x k c s o:Nat}(h:Taking b zs xs us x k c)(hk:xs.length=k)(hz:zs.length=k+1)(he:s+c=nth zs k+b*o):
  (us++[s]).length=zs.length/\ev b (us++[s])+ev b xs*x=ev b zs+b^zs.length*o:=by
 obtain⟨h1,h2,h3,h4⟩:=h;refine⟨by simp[h1,hz], ?_⟩;have e:=a_d b zs k;rw[<-hz,a_8]at e;rw[<-hk,a_8,hk]at h4;rw[b_j,e,h1,hz,Nat.pow_succ];grind
theorem q_z {p hi lo c s1 o1 s2 o2 z:Nat}(h0:hi*18446744073709551616+lo=p)(f2:s1+18446744073709551616*o1=lo+c)(g2:s2+s1+0=z+18446744073709551616*o2):
  s2+p+c=z+18446744073709551616*(hi+o1+o2):=by omega
theorem q_0 {w x c s z c':Nat}(hw:w<18446744073709551616)(hx:x<18446744073709551616)(hc:c<18446744073709551616)(hs:s<18446744073709551616)(he:s+w*x+c=z+18446744073709551616*c'):c'<18446744073709551616:=by
 have:w*x<=18446744073709551615*18446744073709551615:=Nat.mul_le_mul (by omega) (by omega);omega
def SpRel (w:World)(g p:Nat)(zs xs:List Nat)(x k:Nat)(s:Value)(wr:World):Prop:=
 ∃(c:Nat) (us:List Nat),Taking 18446744073709551616 zs xs us x k c/\s= .int .u64 c/\Ar wr g p 81 (us++zs.drop k)/\Tch (Seg g p zs.length) w wr/\wr.heap.size=w.heap.size
theorem SpRel.next {w wr:World}{g p k c d c' x:Nat}{zs xs us:List Nat}{s:Value}(ha:Taking 18446744073709551616 zs xs us x k c)(hk:k<zs.length)
  (har:Ar wr g p 81 (us++zs.drop k)) (ht:Tch (Seg g p zs.length) w wr) (hz:wr.heap.size=w.heap.size)
  (hd:d<18446744073709551616) (hc:c'<18446744073709551616) (he:d+nth xs k*x+c=nth zs k+18446744073709551616*c') (hs:s= .int .u64 (c':Int)):
  SpRel w g p zs xs x (k+1) s (wr.setCell ⟨g,p+k,none⟩ (.int .u64 (d:Int))):=by
 obtain⟨h1,h2⟩:=har.store (S:=Seg g p zs.length) (j:=k) (n:=d) (by rw[a_l ha.1 (by omega)];exact hk) hd ⟨rfl,Nat.le_add_right _ _,Nat.add_lt_add_left hk _⟩;rw[b_0 ha.1 hk]at h2;exact⟨_,_,ha.step hd hc he,hs,h2,ht.trans h1,by simpa using hz⟩
def OvPost (w:World)(g p l:Nat)(F:Nat->Nat->Prop)(e:Ending)(w':World):Prop:=
 ∃(c:Nat) (us:List Nat),e= .returned (.bool (decide (c=1)))/\c<=1/\us.length=l/\Hid (F (ev 18446744073709551616 us) (18446744073709551616^l*c))/\
  Ar w' g p 81 us/\Tch (Seg g p l) w w'/\w'.heap.size=w.heap.size
theorem SpRel.last {w wr:World}{g p c d o x:Nat}{zs xs us:List Nat}(ha:Taking 18446744073709551616 zs xs us x xs.length c)(hz:zs.length=xs.length+1)
  (har:Ar wr g p 81 (us++zs.drop xs.length)) (ht:Tch (Seg g p zs.length) w wr) (hs:wr.heap.size=w.heap.size)
  (hd:d<18446744073709551616) (ho:o<=1) (he:d+c+0=nth zs xs.length+18446744073709551616*o) {b:Bool} (hb:decide (o=1)=b):
  OvPost w g p zs.length (fun u t=>u+ev 18446744073709551616 xs*x=ev 18446744073709551616 zs+t) (.returned (.bool b)) (wr.setCell ⟨g,p+xs.length,none⟩ (.int .u64 (d:Int))):=by
 obtain⟨h1,h2⟩:=har.store (S:=Seg g p zs.length) (j:=xs.length) (n:=d) (by rw[a_l ha.1 (by omega)];omega) hd ⟨rfl,Nat.le_add_right _ _,Nat.add_lt_add_left (by omega) _⟩;rw[b_0 ha.1 (by omega),List.drop_of_length_le (by omega),List.append_nil]at h2;obtain⟨k1,k2⟩:=ha.stop rfl hz (by omega);exact⟨o,_,by rw[hb],ho,k1,Lib.hid k2,h2,ht.trans h1,by simpa using hs⟩
theorem f_h (g p cap d:Nat)(B:Option Addr)(zs xs:List Nat)(x:Nat)(w:World)(har:Ar w g p 81 zs)(hr:Rd w .u64 B xs)(hzl:zs.length=xs.length+1)
  (hoff:Off (Seg g p zs.length) B xs.length) (lx:Low 18446744073709551616 xs) (hx:x<18446744073709551616) (hm:zs.length<=9223372036854775807):
  Calls Try.prog 116 #[.slice (some ⟨g,p,none⟩) zs.length cap,.slice B xs.length d,.int .u64 x] w
   (OvPost w g p zs.length (fun u t=>u+ev 18446744073709551616 xs*x=ev 18446744073709551616 zs+t)):=by
 have lz:=har.low;have HZL:=Lib.hid hzl;have hlt1:xs.length<zs.length:=by omega
 clear hzl;go_enter Try.func116,Try.ntmps116
 go_wp2
 go_loopw [7,17] (fun s i wr=>∃k:Nat,k<=xs.length/\i= .int .i64 k/\SpRel w g p zs xs x k s wr) (fun _ i _=>xs.length - (intOf i).toNat)
 case atStart=>exact⟨0,Nat.zero_le _,rfl,0,[],Taking.start (by omega) _ _ _,rfl,by simpa using har,Tch.refl _ _,rfl⟩
 case round=>
  obtain⟨k,hk,rfl,c,us,ha,rfl,ha2,ht,hz⟩:=hrel;by_cases hlt:k<xs.length
  ·obtain⟨ad,rfl,_,c1⟩:=(hr.tch ht hoff).at (k:=k) hlt;have cs:=ha2.cell (j:=k) (by rw[a_l ha.1 (by omega)];omega);rw[b_a ha.1]at cs;have cf:=ha2.free (p+k);have b1:=lx.any (by omega) k;have b2:=lz.any (by omega) k;have b3:=ha.2.2.1;have hkz:k<zs.length:=by omega
   have HA:=Lib.hid ha;have HZ:=Lib.hid hz;clear ha hz
   go_wp2_with fail
   refine(c_0 _ _ b1 hx _).mono ?_;rintro e w' ⟨hi,lo,rfl,h0,h1,h2,rfl⟩;obtain⟨s1,o1,f1,f2,f3,f4⟩:=b_2 lo c h2 b3;obtain⟨s2,o2,g1,g2,g3,g4⟩:=f_6 (nth zs k) s1 b2 f3;have t1:=q_z h0 f2 g2;have t2:=q_0 b1 hx b3 g3 t1;have T1:=Lib.hid t1;clear h0 f2 g2 t1
   go_wp2_with fail
   go_roundw
   case rel=>exact⟨k+1,by omega,by go_num,SpRel.next HA.out hkz ha2 ht HZ.out g3 t2 T1.out (by go_num)⟩
   case measure=>simp[intOf];omega
  ·obtain rfl:k=xs.length:=by omega
   have cs:=ha2.cell (j:=xs.length) (by rw[a_l ha.1 (by omega)];omega);rw[b_a ha.1]at cs;have cf:=ha2.free (p+xs.length);obtain⟨s1,o1,f1,f2,f3,f4⟩:=f_6 (nth zs xs.length) c (lz.any (by omega) _) ha.2.2.1;clear hlt;rcases Nat.eq_zero_or_pos o1 with h0|h0
   ·have P:=Lib.hid (SpRel.last ha HZL.out ha2 ht hz f3 f4 f2 (b:=false) (by simp;omega));have hne:(((o1:Nat):Int) != 0)=false:=by rw[bne_eq_false_iff_eq];omega
    clear ha ha2 ht hz f2 f3 f4 h0
    go_wp2_with fail
    go_ret
    exact P.out
   ·have P:=Lib.hid (SpRel.last ha HZL.out ha2 ht hz f3 f4 f2 (b:=true) (by simp;omega));have hne:(((o1:Nat):Int) != 0)=true:=by rw[bne_iff_ne];omega
    clear ha ha2 ht hz f2 f3 f4 h0
    go_wp2_with fail
    go_ret
    exact P.out
theorem AtRel.last {w wr:World}{g p c d o:Nat}{zs xs us:List Nat}(ha:Adding 18446744073709551616 zs xs us xs.length c)(hz:zs.length=xs.length+1)
  (har:Ar wr g p 81 (us++zs.drop xs.length)) (ht:Tch (Seg g p zs.length) w wr) (hs:wr.heap.size=w.heap.size)
  (hd:d<18446744073709551616) (ho:o<=1) (he:d+18446744073709551616*o=nth zs xs.length+0+c) {b:Bool} (hb:decide (o=1)=b):
  OvPost w g p zs.length (fun u t=>u+t=ev 18446744073709551616 zs+ev 18446744073709551616 xs) (.returned (.bool b)) (wr.setCell ⟨g,p+xs.length,none⟩ (.int .u64 (d:Int))):=by
 obtain⟨h1,h2⟩:=har.store (S:=Seg g p zs.length) (j:=xs.length) (n:=d) (by rw[a_l ha.1 (by omega)];omega) hd ⟨rfl,Nat.le_add_right _ _,Nat.add_lt_add_left (by omega) _⟩;rw[b_0 ha.1 (by omega),List.drop_of_length_le (by omega),List.append_nil]at h2;obtain⟨a1,a2,a3,a4⟩:=ha;have e:=a_d 18446744073709551616 zs xs.length;rw[<-hz,a_8]at e;refine⟨o,us++[d],by rw[hb],ho,by simp[a1,hz],Lib.hid ?_,h2,ht.trans h1,by simpa using hs⟩;rw[a_8]at a4;rw[b_j,e,a1,hz,Nat.pow_succ];have e2:18446744073709551616^xs.length*d+18446744073709551616^xs.length*18446744073709551616*o=18446744073709551616^xs.length*nth zs xs.length+18446744073709551616^xs.length*c:=by
  rw[Nat.mul_assoc,<-Nat.mul_add,<-Nat.mul_add,he,Nat.add_zero]
 omega
theorem f_z (g p cap d:Nat)(B:Option Addr)(zs xs:List Nat)(w:World)(har:Ar w g p 81 zs)(hr:Rd w .u64 B xs)(hzl:zs.length=xs.length+1)
  (hoff:Off (Seg g p zs.length) B xs.length) (lx:Low 18446744073709551616 xs) (hm:zs.length<=9223372036854775807):
  Calls Try.prog 117 #[.slice (some ⟨g,p,none⟩) zs.length cap,.slice B xs.length d] w
   (OvPost w g p zs.length (fun u t=>u+t=ev 18446744073709551616 zs+ev 18446744073709551616 xs)):=by
 have lz:=har.low;have HZL:=Lib.hid hzl;have hlt1:xs.length<zs.length:=by omega
 clear hzl;go_enter Try.func117,Try.ntmps117
 go_wp2
 go_loopw [5,10] (fun s i wr=>∃k:Nat,k<=xs.length/\i= .int .i64 k/\AtRel w g p zs xs k s wr) (fun _ i _=>xs.length - (intOf i).toNat)
 case atStart=>exact⟨0,Nat.zero_le _,rfl,0,[],Adding.start _ _ _,rfl,by simpa using har,Tch.refl _ _,rfl⟩
 case round=>
  obtain⟨k,hk,rfl,c,us,ha,rfl,ha2,ht,hz⟩:=hrel;by_cases hlt:k<xs.length
  ·obtain⟨ad,rfl,_,c1⟩:=(hr.tch ht hoff).at (k:=k) hlt;have cs:=ha2.cell (j:=k) (by rw[a_l ha.1 (by omega)];omega);rw[b_a ha.1]at cs;have cf:=ha2.free (p+k);have hadd:=c_n (nth zs k) (nth xs k) c ha.2.2.1;have hkz:k<zs.length:=by omega
   have HA:=Lib.hid ha;have HZ:=Lib.hid hz;clear ha hz
   go_wp2_with fail
   go_roundw
   case rel=>exact⟨k+1,by omega,by go_num,AtRel.next lz lx HA.out hkz ha2 ht HZ.out rfl⟩
   case measure=>simp[intOf];omega
  ·obtain rfl:k=xs.length:=by omega
   have cs:=ha2.cell (j:=xs.length) (by rw[a_l ha.1 (by omega)];omega);rw[b_a ha.1]at cs;have cf:=ha2.free (p+xs.length);obtain⟨s1,o1,f1,f2,f3,f4⟩:=l_k (nth zs xs.length) c (lz.any (by omega) _) ha.2.2.1;clear hlt;rcases Nat.eq_zero_or_pos o1 with h0|h0
   ·have P:=Lib.hid (AtRel.last ha HZL.out ha2 ht hz f3 f4 f2 (b:=false) (by simp;omega));have hne:(((o1:Nat):Int) != 0)=false:=by rw[bne_eq_false_iff_eq];omega
    clear ha ha2 ht hz f2 f3 f4 h0
    go_wp2_with fail
    go_ret
    exact P.out
   ·have P:=Lib.hid (AtRel.last ha HZL.out ha2 ht hz f3 f4 f2 (b:=true) (by simp;omega));have hne:(((o1:Nat):Int) != 0)=true:=by rw[bne_iff_ne];omega
    clear ha ha2 ht hz f2 f3 f4 h0
    go_wp2_with fail
    go_ret
    exact P.out
end Go.Proofs.Ytlgjjnmmepgafaa
