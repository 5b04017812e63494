/- Pb25 -/
import Derived.Test.YtlgjjnmmepgafaaPb24
set_option linter.unusedVariables false
set_option linter.unusedSimpArgs false
set_option linter.unusedSectionVars false
set_option maxRecDepth 100000
set_option maxHeartbeats 8000000
namespace Go.Proofs.Ytlgjjnmmepgafaa
open Go.RowKit
theorem Wb.tch {S:Addr->Prop}{w w':World}{g:Nat}{t:TypeId}{L:List Nat}(h:Wb w g t L)(ht:Tch S w w')(ho:∀j,j<L.length->¬S ⟨g,j,none⟩):Wb w' g t L:=by
 obtain⟨L',h1,h2,h3⟩:=ht.blk g t L h;have e:L'=L:=e_q h2 fun k hk=>h3 k (ho k (by omega));rwa [e]at h1
theorem p_7 {b m i:Nat}{rs:List Nat}{V:Nat}(hl:i+m+1<=rs.length)(hV:V<b^m)(h:ev b (rs.drop (i+1))<V):ev b (rs.drop (i+m+1))=0/\ev b (rs.drop i)=ev b ((rs.drop i).take (m+1)):=by
 have h1:=a_5 b (rs.drop (i+1)) m (by simp;omega);rw[List.drop_drop,show i+1+m=i+m+1 from by omega]at h1;have h2:ev b (rs.drop (i+m+1))=0:=by
  rcases Nat.eq_zero_or_pos (ev b (rs.drop (i+m+1)))with h0|h0
  ·exact h0
  ·have:=Nat.le_mul_of_pos_right (b^m) h0;omega
 refine⟨h2, ?_⟩;have h3:=a_5 b (rs.drop i) (m+1) (by simp;omega);rw[List.drop_drop,show i+(m+1)=i+m+1 from by omega,h2,Nat.mul_zero,Nat.add_zero]at h3;exact h3
theorem n_y {b m i:Nat}{rs:List Nat}{V:Nat}(hl:i+m+1<=rs.length)(h:ev b (rs.drop (i+1))<V):((rs.drop i).take (m+1)).length=m+1/\ev b (((rs.drop i).take (m+1)).drop 1)<V:=by
 refine⟨by simp;omega, ?_⟩;have e:((rs.drop i).take (m+1)).drop 1=(rs.drop (i+1)).take m:=by rw[List.drop_take,List.drop_drop];simp
 have h1:=a_5 b (rs.drop (i+1)) m (by simp;omega);rw[e];unfold pre at h1;omega
theorem p_8 {b m i V X q e:Nat}{rs us:List Nat}(hl:i+m+1<=rs.length)(hV:V<b^m)(hu:us.length=m+1)(h:ev b (rs.drop (i+1))<V)(hq:q=ev b ((rs.drop i).take (m+1)) / V)(hr:ev b us=ev b ((rs.drop i).take (m+1))%V)
  (hX:ev b rs+b^(i+1)*e*V=X):
  (rs.take i++us++rs.drop (i+m+1)).length=rs.length/\ev b ((rs.take i++us++rs.drop (i+m+1)).drop i)<V/\ev b (rs.take i++us++rs.drop (i+m+1))+b^i*(q+b*e)*V=X:=by
 obtain⟨h1,h2⟩:=p_7 hl hV h;have h3:=Nat.div_add_mod (ev b ((rs.drop i).take (m+1))) V;have h4:=Nat.mod_lt (ev b ((rs.drop i).take (m+1))) (show 0<V by omega);rw[<-hq,<-hr]at h3;rw[<-hr]at h4;have h5:=a_5 b rs i (by omega);have li:(rs.take i).length=i:=by simp;omega
 refine⟨by simp[hu];omega, ?_, ?_⟩
 ·rw[List.append_assoc,List.drop_append_of_le_length (by omega),List.drop_of_length_le (by omega),List.nil_append,a_n,h1,Nat.mul_zero,Nat.add_zero];exact h4
 ·rw[List.append_assoc,a_n,a_n,h1,li,Nat.mul_zero,Nat.add_zero,<-hX,h5,h2,<-h3,Nat.pow_succ];unfold pre;generalize b^i=P;generalize ev b us=r;generalize ev b (rs.take i)=s;grind
def QrPost (q r:Nat)(w:World)(e:Ending)(w':World):Prop:=
 ∃A c A' c',e= .returned (.tuple #[.slice A (cn 18446744073709551616 q).length c,.slice A' (cn 18446744073709551616 r).length c'])/\Got w w' 81 .u64 A c (cn 18446744073709551616 q)/\Got w w' 81 .u64 A' c' (cn 18446744073709551616 r)
def BsRel (w:World)(g1 g2 n m V X:Nat)(B:Option Addr)(bs:List Nat)(k:Nat)(wr:World):Prop:=
 ∃rs D:List Nat,rs.length=n+1/\k+m+D.length=n+1/\Hid (ev 18446744073709551616 (rs.drop k)<V)/\Hid (ev 18446744073709551616 rs+18446744073709551616^k*ev 18446744073709551616 D*V=X)/\
  Ar wr g1 0 81 rs/\Wb wr g2 81 (List.replicate k 0++D)/\Rd wr .u64 B bs/\Below w.heap.size w wr
theorem BsRel.next {w wr w2:World}{g1 g2 n m V X i:Nat}{B:Option Addr}{bs rs D:List Nat}{e:Ending}(hg:g1<g2)(hg1:w.heap.size<=g1)(hB:∀ad,B=some ad->ad.block<g1)(hlr:rs.length=n+1)(hk:i+1+m+D.length=n+1)(hV:V<18446744073709551616^m)
  (hf:Hid (ev 18446744073709551616 (rs.drop (i+1))<V)) (hX:Hid (ev 18446744073709551616 rs+18446744073709551616^(i+1)*ev 18446744073709551616 D*V=X)) (ha:Ar wr g1 0 81 rs) (hb:Wb wr g2 81 (List.replicate (i+1) 0++D)) (hr:Rd wr .u64 B bs)
  (hw:Below w.heap.size w wr) (hp:ToPost wr g1 i (m+1) (ev 18446744073709551616 ((rs.drop i).take (m+1))) V e w2):
  ∃q:Nat,e= .returned (.int .u64 (q:Int))/\(∃v,w2.cell? ⟨g2,i,none⟩=some v)/\w2.frozen? ⟨g2,i,none⟩=false/\BsRel w g1 g2 n m V X B bs i (w2.setCell ⟨g2,i,none⟩ (.int .u64 (q:Int))):=by
 obtain⟨us,rfl,hul,hu,ha2,T,Z⟩:=hp;have f1:i+m+1<=rs.length:=by omega
 have hV0:0<V:=Nat.lt_of_le_of_lt (Nat.zero_le _) hf.out;have b2:=hb.tch T fun j _ hs=>by have:=hs.1;simp at this;omega
 have hr2:Rd w2 .u64 B bs:=hr.tch T fun ad ha j hj hs=>by have h1:=hs.1;rw[a_a]at h1;have:=hB ad ha;omega
 obtain⟨s1,s2,s3⟩:=p_8 (b:=18446744073709551616) (q:=ev 18446744073709551616 ((rs.drop i).take (m+1)) / V) f1 hV hul hf.out rfl hu.out hX.out;have hq:ev 18446744073709551616 ((rs.drop i).take (m+1)) / V<18446744073709551616:=by
  obtain⟨c1,c2⟩:=n_y f1 hf.out;refine(Nat.div_lt_iff_lt_mul hV0).2 ?_;have c3:=c_v (L:=(rs.drop i).take (m+1)) (q:=0) (by omega);rw[List.drop_zero,Nat.zero_add]at c3;have c4:=((ha.low.drop i).take (m+1)).any (by omega) 0;have c5:18446744073709551616*(ev 18446744073709551616 (((rs.drop i).take (m+1)).drop 1)+1)<=18446744073709551616*V:=Nat.mul_le_mul_left _ c2;rw[Nat.mul_add,Nat.mul_one]at c5;rw[c3,ev];omega
 have a1:Ar w2 g1 0 81 (rs.take i):=(ha.take i (by omega)).tch T fun j hj hs=>by have h1:=hs.2.1;simp at hj h1;omega
 have a3:Ar w2 g1 (0+(i+m+1)) 81 (rs.drop (i+m+1)):=(ha.drop (i+m+1) (by omega)).tch T fun j hj hs=>by have h1:=hs.2.2;simp at h1;omega
 have a4:=(a1.join (q:=i) ha2 (by simp;omega)).join a3 (by simp[hul];omega);obtain⟨q,hqd⟩:∃q,q=ev 18446744073709551616 ((rs.drop i).take (m+1)) / V:=⟨_,rfl⟩;rw[<-hqd]at hq s3 ⊢;have hlow:Low 18446744073709551616 (List.replicate (i+1) 0++D):=b2.2;have hcell:=b2.1.cell (j:=i) (by simp;omega);have hfree:=b2.1.free i;obtain⟨k1,k2⟩:=Tch.store (S:=fun a=>a.block=g2) b2 i hq rfl;rw[h_5]at k2;refine⟨q,rfl,⟨_,hcell⟩,hfree,_,q::D,by rw[s1,hlr],by simp;omega,Lib.hid s2,Lib.hid (by rw[ev];exact s3), ?_,k2, ?_, ?_⟩
 ·exact a4.tch k1 fun j _ hs=>by simp at hs;omega
 ·exact hr2.tch k1 fun ad ha j hj hs=>by rw[a_a]at hs;have:=hB ad ha;omega
 ·exact(hw.trans (T.below hw.size fun a hs=>by rw[hs.1];exact hg1)).trans ((k1.below (B:=w.heap.size) (by have:=hw.size;omega) fun a hs=>by rw[hs];omega))
theorem r_w {b k m V X q:Nat}{rs:List Nat}(h1:ev b (rs.drop 0)<V)(h2:ev b rs+b^0*q*V=X):q=X / V/\ev b rs=X%V:=by
 rw[List.drop_zero]at h1;rw[Nat.pow_zero,Nat.one_mul]at h2;subst h2;constructor
 ·rw[Nat.add_mul_div_right _ _ (by omega),Nat.div_eq_of_lt h1,Nat.zero_add]
 ·rw[Nat.add_mul_mod_self_right,Nat.mod_eq_of_lt h1]
theorem q_a {ys:List Nat}{m u:Nat}(ly:Low 18446744073709551616 ys)(hm:ys.length=m+1)(ht:nth ys m≠0)(hu:u=64 - bl (nth ys m)):
  u<64/\(cn 18446744073709551616 (ev 18446744073709551616 ys*2^u)).length=m+1/\9223372036854775808*18446744073709551616^m<=ev 18446744073709551616 ys*2^u/\ev 18446744073709551616 ys*2^u<18446744073709551616^(m+1):=by
 have y2:=a_d 18446744073709551616 ys m;rw[<-hm,a_8]at y2;have yl:=e_i ly (by omega) m;have yt:=ly.any (by omega) m;have b0:0<bl (nth ys m):=bl_lt.2 (by simp;omega);have b64:bl (nth ys m)<=64:=bl_le.2 (by simpa using yt);have hlow:=bl_lt.1 (show bl (nth ys m) - 1<bl (nth ys m) by omega);have hhigh:=bl_le.1 (Nat.le_refl (bl (nth ys m)));have hlow':2^(bl (nth ys m) - 1)<=nth ys m:=by
  rcases Nat.lt_or_ge (nth ys m) (2^(bl (nth ys m) - 1))with h|h
  ·rw[Nat.div_eq_of_lt h]at hlow;omega
  ·exact h
 have hp:0<2^u:=Nat.pow_pos (by omega);generalize ev 18446744073709551616 ys=V at *;generalize nth ys m=f at *;have e1:(18446744073709551616:Nat)=2^bl f*2^u:=by rw[<-Nat.pow_add,show bl f+u=64 from by omega]
 have e2:(9223372036854775808:Nat)=2^(bl f - 1)*2^u:=by rw[<-Nat.pow_add,show bl f - 1+u=63 from by omega]
 have h1:9223372036854775808*18446744073709551616^m<=V*2^u:=by
  have:18446744073709551616^m*2^(bl f - 1)<=V:=Nat.le_trans (Nat.mul_le_mul_left _ hlow') (by omega)
  have:=Nat.mul_le_mul_right (2^u) this;rw[Nat.mul_assoc,<-e2,Nat.mul_comm]at this;exact this
 have h2:V*2^u<18446744073709551616^(m+1):=by
  have h3:V<18446744073709551616^m*2^bl f:=by
   have:18446744073709551616^m*(f+1)<=18446744073709551616^m*2^bl f:=Nat.mul_le_mul_left _ hhigh;rw[Nat.mul_add,Nat.mul_one]at this;omega
  have:=Nat.mul_lt_mul_of_pos_right h3 hp;rw[Nat.mul_assoc,<-e1]at this;rw[Nat.pow_succ];exact this
 refine⟨by omega,Nat.le_antisymm (a_f _ _ _ (by omega) h2) ?_,h1,h2⟩;rcases Nat.lt_or_ge (cn 18446744073709551616 (V*2^u)).length (m+1)with h4|h4
 ·exfalso
  have h5:=e_t 18446744073709551616 (V*2^u) (by omega);have h6:18446744073709551616^(cn 18446744073709551616 (V*2^u)).length<=18446744073709551616^m:=d_l (by omega);omega
 ·exact h4
theorem m_9 {b n m k u V x:Nat}{rs:List Nat}(hb:2<=b)(hl:rs.length=n+1)(hk:k+m=n)(hx:x<b^n)(hV:2^u*b^m<=V)(hr:ev b rs=x*2^u):ev b (rs.drop k)<V:=by
 have h1:=a_5 b rs k (by omega);have hp:0<b^k:=Nat.pow_pos (by omega);have hu:0<2^u:=Nat.pow_pos (by omega);have h2:x*2^u<b^n*2^u:=Nat.mul_lt_mul_of_pos_right hx hu;rw[<-hk,Nat.pow_add,Nat.mul_assoc]at h2;have h3:b^k*ev b (rs.drop k)<b^k*(b^m*2^u):=by omega
 have h4:=Nat.lt_of_mul_lt_mul_left h3;rw[Nat.mul_comm]at hV;omega
theorem r_o (b n:Nat)(xs:List Nat):ev b (xs++List.replicate n 0)=ev b xs:=by
 rw[a_n,a_z];simp
theorem Got.up {w w1 w':World}{t:TypeId}{K:IntKind}{A:Option Addr}{c:Nat}{zs:List Nat}(h:Got w1 w' t K A c zs)(hb:Below w.heap.size w w1):Got w w' t K A c zs:=
 Got.of_own h.1 hb.size (hb.trans (h.2.mono hb.size))
theorem g_2 (g p cap d l m:Nat)(B:Option Addr)(zs ys:List Nat)(w:World){V:Nat}(har:Ar w g p 81 zs)(hr:Rd w .u64 B ys)(hl:zs.length=l)(hy:ys.length=m)(hzl:l=m+1)(h2:2<=m)
  (hoff:Off (Seg g p l) B m) (ly:Low 18446744073709551616 ys) (hV:ev 18446744073709551616 ys=V) (hfit:ev 18446744073709551616 (zs.drop 1)<V) (hm:m<=1099511627776):
  Calls Try.prog 114 #[.slice (some ⟨g,p,none⟩) l cap,.slice B m d] w (ToPost w g p l (ev 18446744073709551616 zs) V):=by
 subst hl hy hV;exact f_f g p cap d 0 B zs ys w har hr hzl h2 hoff ly hfit hm
theorem p_9 {w w':World}{g2 K u x V:Nat}{D rs:List Nat}{A3:Option Addr}{c3:Nat}(hb:Blk w' g2 81 .u64 D)(hg:w.heap.size<=g2)(hw:Below w.heap.size w w')(hK:D.length=K)(hm:K<=9223372036854775807)(ld:Low 18446744073709551616 D)
  (s1:ev 18446744073709551616 D=x*2^u / (V*2^u)) (s2:ev 18446744073709551616 rs=x*2^u%(V*2^u)) (G:Got w w' 81 .u64 A3 c3 (cn 18446744073709551616 (ev 18446744073709551616 rs / 2^u))):
  QrPost (x / V) (x%V) w (.returned (.tuple #[.slice (some ⟨g2,0,none⟩) (sl D) K,.slice A3 (cn 18446744073709551616 (ev 18446744073709551616 rs / 2^u)).length c3])) w':=by
 have hp:0<2^u:=Nat.pow_pos (by omega);have e2:ev 18446744073709551616 rs / 2^u=x%V:=by rw[s2,Nat.mul_mod_mul_right,Nat.mul_div_cancel _ hp]
 have e1:ev 18446744073709551616 D=x / V:=by rw[s1,Nat.mul_div_mul_right _ _ hp]
 have hg2:=c_t (b:=18446744073709551616) (by omega) hb hg hw (by omega) ld;have hs:=c_i _ (by omega) ld;rw[e1]at hg2 hs;rw[e2]at G ⊢;subst hK;exact⟨_,_,_,_,by rw[hs],hg2,G⟩
theorem f_x (A B:Option Addr)(n m c d l:Nat)(xs ys:List Nat)(w:World)(hx:Rd w .u64 A xs)(hy:Rd w .u64 B ys)(hxn:xs.length=n)(hyn:ys.length=m)(hm:m=l+1)(h2:2<=m)(hmn:m<=n)
  (hc:n<=c) (hc':c<=9223372036854775807) (hd:m<=d) (hd':d<=9223372036854775807) (lx:Low 18446744073709551616 xs) (ly:Low 18446744073709551616 ys) (ht:nth ys l≠0) (bn:n<=549755813888):
  Calls Try.prog 111 #[.slice A n c,.slice B m d] w (QrPost (ev 18446744073709551616 xs / ev 18446744073709551616 ys) (ev 18446744073709551616 xs%ev 18446744073709551616 ys) w):=by
 have yt:=ly.any (by omega) l;obtain⟨ae,rfl,_,c1⟩:=hy.at (k:=l) (by omega);obtain⟨u,hu⟩:∃u,u=64 - bl (nth ys l):=⟨_,rfl⟩;obtain⟨hu64,hlen,hnorm,hVm⟩:=q_a ly (show ys.length=l+1 by omega) ht hu;have hxb:=c_e lx;rw[hxn]at hxb;have HXN:=Lib.hid hxn;have HYN:=Lib.hid hyn;have HU:=Lib.hid hu;have HM:=Lib.hid hm;have v1:(m:Int) - 1=(l:Int):=by omega
 have v2:l<m:=by omega
 clear hxn hyn hu hm;go_enter Try.func111,Try.ntmps111
 go_wp2_with fail
 refine(e_2 _ yt _).mono ?_;rintro e w' ⟨rfl,rfl⟩;rw[<-HU.out];clear c1
 go_wp2_with fail
 refine(e_f _ m d ys u 0 u _ hy HYN.out hd hd' ly (by omega) (by omega) (by omega) (by omega)).mono ?_;rintro e w1 ⟨B1,d1,rfl,G1⟩;rw[hlen,<-HM.out];have r1:=G1.rd;have cap1:=G1.cap;rw[hlen,<-HM.out]at cap1;have blk1:=G1.block';have low1:=d_f 18446744073709551616 (ev 18446744073709551616 ys*2^u) (by omega);have ev1:=e_x 18446744073709551616 (ev 18446744073709551616 ys*2^u) (by omega);have len1:=hlen;rw[<-HM.out]at len1 hVm;have bel1:=G1.2;generalize cn 18446744073709551616 (ev 18446744073709551616 ys*2^u)=bs at *;have hx1:=hx.below bel1;clear G1 hx hlen hy;have LEN1:=Lib.hid len1;have EV1:=Lib.hid ev1;have HB1:=Lib.hid blk1;clear len1 ev1 blk1
 go_wp2_with fail
 refine(e_f _ n c xs u 0 u _ hx1 HXN.out hc hc' lx (by omega) (by omega) (by omega) (by omega)).mono ?_;rintro e w2 ⟨A2,c2,rfl,G2⟩;have r2:=G2.rd;have cap2:=G2.cap;have low2:=d_f 18446744073709551616 (ev 18446744073709551616 xs*2^u) (by omega);have ev2:=e_x 18446744073709551616 (ev 18446744073709551616 xs*2^u) (by omega);have len2:(cn 18446744073709551616 (ev 18446744073709551616 xs*2^u)).length<=n+1:=a_f _ _ _ (by omega) (by
  rw[Nat.pow_succ];refine Nat.lt_of_lt_of_le (Nat.mul_lt_mul_of_pos_right hxb (Nat.pow_pos (by omega))) (Nat.mul_le_mul_left _ ?_);exact Nat.le_of_lt (Nat.lt_of_le_of_lt (Nat.pow_le_pow_right (by omega) (show u<=63 by omega)) (by decide)))
 have bel2:=G2.2;have r1':=r1.below bel2;have bel12:=bel1.trans (bel2.mono bel1.size);have blk2:=G2.block';generalize cn 18446744073709551616 (ev 18446744073709551616 xs*2^u)=sa at *;have EV2:=Lib.hid ev2;have HB2:=Lib.hid blk2;have S12:=Lib.hid bel2.size;have S01:=Lib.hid bel1.size;clear G2 r1 hx1 bel1 bel2 ev2 blk2
 go_wp2_with (at_make;refine a_c _ rfl _ _ 28 rfl 81 .u64 8 Try.underlying28 info_u64 _ _ _ _ (n+1) rfl rfl (by omega) (by omega) (by omega) (by omega) ?_)
 intro w3 hb3 hw3 hz3;have HZ3:=Lib.hid hz3;have ar3:=Ar.of_wb (e_a hb3);have r1'':=r1'.below hw3;have r2':=r2.below hw3;have bel3:=bel12.trans (hw3.mono bel12.size);clear hz3 hb3 r1' r2 hw3 bel12;have SL2:=Lib.hid (show(List.replicate (n+1) 0).length=n+1 from by simp)
 go_wp2_with (refine b_h rfl (.tmp 35) (.tmp 36) _ _ rfl 81 Try.underlying28 (by kernel_rfl) A2 (n+1) (n+1) sa.length c2 w2.heap.size 0 81 _ sa rfl rfl SL2.out (Lib.hid rfl) len2 ar3 r2' low2 (Seg w2.heap.size 0 (n+1)) (fun j hj=>⟨rfl,Nat.le_add_right _ _,by simp;omega⟩) ?_)
 intro w4 ar4 T4 Z4;have off4:Off (Seg w2.heap.size 0 (n+1)) B1 bs.length:=fun ad ha j hj hs=>by
  have h1:=hs.1;rw[a_a]at h1
  have:=(HB1.out ad ha).2
  have:=S12.out;omega
 have r3:=r1''.tch T4 off4;have bel4:Below w.heap.size w w4:=bel3.trans (T4.below bel3.size fun a hs=>by rw[hs.1];have:=S12.out;have:=S01.out;omega);have HZ4:=Lib.hid Z4;obtain⟨K,hK⟩:∃K,K=n - m+1:=⟨_,rfl⟩;have u1:(n:Int) - (m:Int)+1=(K:Int):=by omega
 have hKn:K<=n:=by omega
 have HK:=Lib.hid (show K+m=n+1 by omega);have hrs:ev 18446744073709551616 (sa++List.replicate (n+1 - sa.length) 0)=ev 18446744073709551616 xs*2^u:=by rw[r_o];exact EV2.out
 have HRS:=Lib.hid hrs;have HRL:=Lib.hid (show(sa++List.replicate (n+1 - sa.length) 0).length=n+1 by simp;omega);generalize sa++List.replicate (n+1 - sa.length) 0=rs at *;have hst:=m_9 (V:=ev 18446744073709551616 ys*2^u) (u:=u) (by omega) HRL.out (show K+l=n by have:=HK.out;have:=HM.out;omega) hxb (Nat.le_trans (Nat.mul_le_mul_right _ (Nat.le_trans (Nat.pow_le_pow_right (by omega) (show u<=63 by omega)) (by decide:2^63<=9223372036854775808))) hnorm) hrs;have HST:=Lib.hid hst;clear hrs hst Z4 T4 off4 r1'' r2' ar3 hK hxb hnorm SL2 bel3 u1;have u1:(n:Int) - (m:Int)+1=(K:Int):=by have:=HK.out;omega
 go_wp2_with (at_make;refine a_c _ rfl _ _ 28 rfl 81 .u64 8 Try.underlying28 info_u64 _ _ _ _ K rfl rfl (by omega) (by omega) (by omega) (by omega) ?_)
 intro w5 hb5 hw5 hz5;have r5:=r3.below hw5;have ar5:=ar4.below hw5;have wb5:=e_a hb5;have bel5:=bel4.trans (hw5.mono bel4.size);have HG:Hid (w2.heap.size<w4.heap.size/\w.heap.size<=w2.heap.size):=Lib.hid (by have:=HZ4.out;have:=HZ3.out;have:=S12.out;have:=S01.out;omega);have HBA:Hid (∀ad,B1=some ad->ad.block<w2.heap.size):=Lib.hid (fun ad ha=>by have:=(HB1.out ad ha).2;have:=S12.out;omega);clear hz5 r3 ar4 hb5 bel4 hw5;generalize w2.heap.size=g1 at *;generalize w4.heap.size=g2 at *
 go_wp2_with fail
 go_loopw [11] (fun i wr=>∃k:Nat,k<=K/\i= .int .i64 ((k:Int) - 1)/\BsRel w g1 g2 n m (ev 18446744073709551616 ys*2^u) (ev 18446744073709551616 xs*2^u) B1 bs k wr) (fun i _=>(intOf i+1).toNat)
 case atStart=>exact⟨K,Nat.le_refl _,rfl,rs,[],HRL.out,by simpa using HK.out,HST,by rw[ev];simpa using HRS,ar5,by simpa using wb5,r5,bel5⟩
 case round=>
  obtain⟨k,hk,rfl,rs,D,hlr,hkl,hf,hX,ha,hb,hr,hw⟩:=hrel;rcases Nat.eq_zero_or_pos k with rfl|hpos
  ·have hDl:D.length=K:=by have:=HK.out;omega
   simp only[List.replicate_zero,List.nil_append]at hb;have hrx:=ha.rd;have hlow:=ha.low;obtain⟨s1,s2⟩:=r_w (k:=0) (m:=0) hf.out hX.out;have S1:=Lib.hid s1;have S2:=Lib.hid s2;have HDL:=Lib.hid hDl;have HL:=Lib.hid hlr;clear hf hX ha hr s1 s2 hDl hlr hkl hk
   go_wp2_with fail
   refine(g_c _ (n+1) (n+1) rs u 0 u _ hrx HL.out (Nat.le_refl _) (by omega) hlow (by omega) (by omega) (by omega) (by omega)).mono ?_;rintro e w6 ⟨A3,c3,rfl,G3⟩;have hb6:=hb.1.below G3.2 hb.1.lt;have G3':=G3.up hw;have hw6:=G3'.2;have ld:=hb.2;clear G3 hb hw hrx hlow
   go_wp2_with fail
   refine(a_0 _ K K D _ hb6.rd0 HDL.out (Nat.le_refl _) (by omega) ld (by omega)).mono ?_;rintro e w' ⟨rfl,rfl⟩;have P:=Lib.hid (p_9 (u:=u) hb6 (by have:=HG.out;omega) hw6 HDL.out (by omega) ld S1.out S2.out G3')
   go_wp2_with fail
   go_ret2
   exact P.out
  ·obtain⟨i,rfl⟩:∃i,k=i+1:=⟨k - 1,by omega⟩;rw[show(((i+1:Nat):Int) - 1)=(i:Int)from by omega];have hi:i<K:=by omega
   have hle:i+m+1<=n+1:=by omega
   have HL:=Lib.hid hlr;have HKL:=Lib.hid hkl;clear hlr hkl;have hle2:i+m+1<=rs.length:=by have:=HL.out;omega
   obtain⟨q1,q2⟩:=n_y (m:=m) hle2 hf.out;have az:=(ha.sub i (m+1) (by omega));rw[Nat.zero_add]at az;have hoff:Off (Seg g1 i (m+1)) B1 m:=fun ad ha j hj hs=>by
    have h1:=hs.1;rw[a_a]at h1
    have:=HBA.out ad ha;omega
   have Q1:=Lib.hid q1;have Q2:=Lib.hid q2;have AZ:=Lib.hid az;have HOFF:=Lib.hid hoff;clear q1 q2 az hoff hle2
   go_wp2_with fail
   rw[show i+m+1 - i=m+1 by omega];refine(g_2 g1 i _ _ (m+1) m B1 _ bs wr AZ.out hr Q1.out LEN1.out rfl h2 HOFF.out low1 EV1.out Q2.out (by omega)).mono ?_;intro e w6 hto;obtain⟨q,rfl,⟨v0,hcell⟩,hfree,hnext⟩:=BsRel.next HG.out.1 HG.out.2 HBA.out HL.out HKL.out hVm hf hX ha hb hr hw hto;clear hto ha hb hr hw hf hX
   go_wp2_with fail
   go_roundw
   case rel=>exact⟨i,by omega,rfl,hnext⟩
   case measure=>simp[intOf]
end Go.Proofs.Ytlgjjnmmepgafaa
