/- Pc22 -/
import Derived.Test.YtfhbdlegkdbmfaaGreatPc21
import Derived.BigRegion
set_option linter.unusedVariables false
set_option linter.unusedSimpArgs false
set_option linter.unusedSectionVars false
set_option maxRecDepth 100000
set_option maxHeartbeats 8000000
namespace Go.Proofs.YtfhbdlegkdbmfaaGreat
section
open Go.RowKit
structure Wh (base h ga gb gx gy:Nat):Prop where
 h0:base<=h
 ha:h≠ga
 hb:h≠gb
 hx:h≠gx
 hy:h≠gy
theorem Wh.swap {base h ga gb gx gy:Nat}(k:Wh base h ga gb gx gy):Wh base h gb ga gy gx:=⟨k.h0,k.hb,k.ha,k.hy,k.hx⟩
def WayAt (w:World)(base h u m G N g:Nat):Prop:=
 ∃(n ga gb gx gy a b x y:Nat) (La Lb Lx Ly:List Nat) (t:Bool),Wy w h (.slice (some ⟨ga,0,none⟩) n N) (.slice (some ⟨gb,0,none⟩) n N) (.slice (some ⟨gx,0,none⟩) N N) (.slice (some ⟨gy,0,none⟩) N N) t/\Wh base h ga gb gx gy/\
  Four w base N n ga gb gx gy La Lb Lx Ly a b x y/\Wm u m G a b x y t/\b<=a/\(n=0\/nth La (n - 1)≠0)/\a+b=g
def WoPost (w:World)(u m k:Nat)(e:Ending)(w':World):Prop:=
 ∃h N,e= .returned (.pointer (some ⟨h,0,none⟩))/\WayAt w' w.heap.size h u m (Nat.gcd u m) N (m+u%m)/\m<18446744073709551616^N/\N<=k/\N<=68719476736/\Below w.heap.size w w'
theorem g_4 {A B:Option Addr}{n k c d u m:Nat}{w:World}(hu:Nv w A n c u)(hm:Nv w B k d m)(hn:n<=68719476736)(hk:k<=68719476736)(h0:0<m):
  Calls Tryz.prog 211 #[.slice A n c,.slice B k d] w (WoPost w u m k):=by
 have hW:=Below.refl w.heap.size w;obtain⟨N,hN⟩:∃N,N=(cn 18446744073709551616 m).length:=⟨_,rfl⟩;have hNk:N<=k:=by rw[hN];exact a_h _ _ _ (by omega) hm.lt
 have hmN:Hid (m<18446744073709551616^N):=Lib.hid (by rw[hN];exact e_s _ _ (by omega));have htop:=q_v m;have hum:=Nat.mod_lt u h0;have hrN:u%m<18446744073709551616^N:=Nat.lt_trans hum hmN.out;have HUM:=Lib.hid hum;have HRN:=Lib.hid hrN;have HN:=Lib.hid hN;rw[<-hN]at htop;have HTOP:=Lib.hid htop;clear hN hum hrN htop;go_enter Tryz.func211,Tryz.ntmps211
 go_wp2_with fail
 refine(p_m hm (by omega)).mono ?_;rw[show(NbPost m w:Ending->World->Prop)=NbPost m w from rfl];rintro e w1 ⟨g,rfl,hg,hblk,B1⟩;rw[<-HN.out];have W1:Hid (Wb w1 g 85 (cn 18446744073709551616 m)):=Lib.hid ⟨hblk,c_s _ _ (by omega)⟩;replace hu:=hu.below B1;replace hm:=hm.below B1;have Z1:=Lib.hid hblk.lt;have HB:=Lib.hid B1;clear hblk B1
 go_wp2_with fail
 refine(s_j hu hm (by omega) (by omega) h0).mono ?_;rintro e w2 ⟨A2,n2,c2,rfl,p2,k2,B2⟩;have hn2:n2<=N:=by rw[<-p2.2.1];exact a_h _ _ _ (by omega) HRN.out
 replace W1:=Lib.hid (W1.out.below B2);replace Z1:=Lib.hid (Nat.lt_of_lt_of_le Z1.out B2.size);replace HB:=Lib.hid (HB.out.trans (B2.mono HB.out.size));clear B2 hu hm
 go_wp2_with fail
 refine(d_e A2 n2 c2 N (u%m) _ p2.nv hn2 (by omega)).mono ?_;rintro e w3 ⟨gb,Lb,rfl,hgb,lb,Wb3,vb,B3⟩;replace W1:=Lib.hid (W1.out.below B3);have Wb3:=Lib.hid Wb3;have Zb:=Lib.hid Wb3.out.1.lt;have Z2:=Lib.hid (Nat.lt_of_lt_of_le Z1.out B3.size);have Dab:Hid (g≠gb):=Lib.hid (by have:=Z1.out;omega);have HLB:=Lib.hid lb;have HVB:=Lib.hid vb;have HGB:Hid (w.heap.size<=gb):=Lib.hid (by have:=HB.out.size;omega);replace HB:=Lib.hid (HB.out.trans (B3.mono HB.out.size));clear B3 p2 lb vb hgb Z1
 go_wp2_with fail
 refine(d_e none 0 0 N 0 _ (Nv.nil _) (by omega) (by omega)).mono ?_;rintro e w4 ⟨gx,Lx,rfl,hgx,lx,Wx4,vx,B4⟩;replace W1:=Lib.hid (W1.out.below B4);replace Wb3:=Lib.hid (Wb3.out.below B4);have Wx4:=Lib.hid Wx4;have Zx:=Lib.hid Wx4.out.1.lt;have Dax:Hid (g≠gx):=Lib.hid (by have:=Z2.out;omega);have Dbx:Hid (gb≠gx):=Lib.hid (by have:=Zb.out;omega);replace Z2:=Lib.hid (Nat.lt_of_lt_of_le Z2.out B4.size);replace Zb:=Lib.hid (Nat.lt_of_lt_of_le Zb.out B4.size);have HLX:=Lib.hid lx;have HVX:=Lib.hid vx;have HGX:Hid (w.heap.size<=gx):=Lib.hid (by have:=HB.out.size;omega);replace HB:=Lib.hid (HB.out.trans (B4.mono HB.out.size));clear B4 lx vx hgx
 go_wp2_with fail
 refine(f_o 1 (by omega) _).mono ?_;intro e w5 P5;obtain⟨A5,n5,c5,rfl,p5,k5,B5⟩:=NatPost.cv (k:=1) P5 (by omega);replace W1:=Lib.hid (W1.out.below B5);replace Wb3:=Lib.hid (Wb3.out.below B5);replace Wx4:=Lib.hid (Wx4.out.below B5);replace Z2:=Lib.hid (Nat.lt_of_lt_of_le Z2.out B5.size);replace Zb:=Lib.hid (Nat.lt_of_lt_of_le Zb.out B5.size);replace Zx:=Lib.hid (Nat.lt_of_lt_of_le Zx.out B5.size);replace HB:=Lib.hid (HB.out.trans (B5.mono HB.out.size));have hN0:1<=N:=by
  rcases Nat.eq_zero_or_pos N with h|h
  ·have:=hmN.out;rw[h]at this;omega
  ·exact h
 clear B5 P5
 go_wp2_with fail
 refine(d_e A5 n5 c5 N 1 _ p5.nv (by omega) (by omega)).mono ?_;rintro e w6 ⟨gy,Ly,rfl,hgy,ly,Wy6,vy,B6⟩;replace W1:=Lib.hid (W1.out.below B6);replace Wb3:=Lib.hid (Wb3.out.below B6);replace Wx4:=Lib.hid (Wx4.out.below B6);have Day:Hid (g≠gy):=Lib.hid (by have:=Z2.out;omega);have Dby:Hid (gb≠gy):=Lib.hid (by have:=Zb.out;omega);have Dxy:Hid (gx≠gy):=Lib.hid (by have:=Zx.out;omega);replace Z2:=Lib.hid (Nat.lt_of_lt_of_le Z2.out B6.size);replace Zb:=Lib.hid (Nat.lt_of_lt_of_le Zb.out B6.size);replace Zx:=Lib.hid (Nat.lt_of_lt_of_le Zx.out B6.size);have HGY:Hid (w.heap.size<=gy):=Lib.hid (by have:=HB.out.size;omega);replace HB:=Lib.hid (HB.out.trans (B6.mono HB.out.size));have HS6:Hid (w.heap.size<=w6.heap.size):=Lib.hid HB.out.size;have P:Hid (∀w7,w7=w6.alloc (.cells #[.slice (some ⟨g,0,none⟩) N N,.slice (some ⟨gb,0,none⟩) N N,.slice (some ⟨gx,0,none⟩) N N,.slice (some ⟨gy,0,none⟩) N N,.bool true] 217)->WoPost w u m k (.returned (.pointer (some ⟨w6.heap.size,0,none⟩))) w7):=Lib.hid (by
  rintro w7 rfl;have B7:=zb0 w6 (.cells #[.slice (some ⟨g,0,none⟩) N N,.slice (some ⟨gb,0,none⟩) N N,.slice (some ⟨gx,0,none⟩) N N,.slice (some ⟨gy,0,none⟩) N N,.bool true] 217);have hlc:(cn 18446744073709551616 m).length=N:=HN.out.symm;refine⟨w6.heap.size,N,rfl,⟨N,g,gb,gx,gy,m,u%m,0,1,_,Lb,Lx,Ly,true,heap_alloc_new w6 _,⟨HS6.out, ?_, ?_, ?_, ?_⟩,⟨Dab.out,Dax.out,Day.out,Dbx.out,Dby.out,Dxy.out,hg,HGB.out,HGX.out,HGY.out,hlc,HLB.out,HLX.out,ly,Nat.le_refl _,by omega,W1.out.below B7,Wb3.out.below B7,Wx4.out.below B7,Wy6.below B7, ?_, ?_,HVX.out,vy⟩,Wm.start u m, ?_,HTOP.out,rfl⟩,hmN.out,hNk,by omega,HB.out.trans (B7.mono HS6.out)⟩
  ·have:=Z2.out;omega
  ·have:=Zb.out;omega
  ·have:=Zx.out;omega
  ·have:=Wy6.1.lt;omega
  ·rw[List.take_of_length_le (by omega),e_o _ _ (by omega)]
  ·rw[List.take_of_length_le (by have:=HLB.out;omega)];exact HVB.out
  ·have:=HUM.out;omega)
 clear B6 p5 ly vy hgy Wy6 HB
 go_wp2_with fail
 go_ret
 exact P.out _ rfl
end
section
open Go.RowKit
def WayMid (w:World)(base h u m G N g:Nat):Prop:=
 ∃(n ga gb gx gy a b x y:Nat) (La Lb Lx Ly:List Nat) (t:Bool),Wy w h (.slice (some ⟨ga,0,none⟩) n N) (.slice (some ⟨gb,0,none⟩) n N) (.slice (some ⟨gx,0,none⟩) N N) (.slice (some ⟨gy,0,none⟩) N N) t/\Wh base h ga gb gx gy/\
  Four w base N n ga gb gx gy La Lb Lx Ly a b x y/\Wm u m G a b x y t/\a+b<g
theorem k_7 {w w':World}{t:TypeId}{K:IntKind}{A:Option Addr}{c:Nat}{zs:List Nat}(h:Got w w' t K A c zs):∀ad,A=some ad->w.heap.size<=ad.block:=by
 intro ad ha;rcases h.1.2 with⟨h1,_⟩|⟨g,cap,cur,hv,hg,_⟩
 ·injection h1 with h2;rw[ha]at h2;cases h2
 ·injection hv with h2;rw[ha]at h2;injection h2 with h3;rw[h3];exact hg
theorem Cv.tch {S:Addr->Prop}{w w':World}{A:Option Addr}{n c v:Nat}(h:Cv w A n c v)(ht:Tch S w w')(ho:Off S A (cn 18446744073709551616 v).length):Cv w' A n c v:=⟨h.1.tch ht ho,h.2⟩
def WsPost (w:World)(base h u m G N g:Nat)(e:Ending)(w':World):Prop:=e= .returned (.tuple #[])/\WayMid w' base h u m G N g/\Below base w w'
theorem fi_a {w w1 w2:World}{base N n ga gb gx gy a b x y v:Nat}{La Lb Lx Ly us:List Nat}(f:Four w base N n ga gb gx gy La Lb Lx Ly a b x y)(hB:Below w.heap.size w w1)(hP:FiPost w1 ga 0 n us (.returned (.tuple #[])) w2)(hu:us.length<=n)(hv:ev 18446744073709551616 us=v):
  ∃La',Four w2 base N n ga gb gx gy La' Lb Lx Ly v b x y/\Tch (Seg ga 0 n) w1 w2:=by
 obtain⟨_,har,ht,_⟩:=hP;have f1:=f.below hB;have hla:=f.la;have hn:=f.hn;have W:=f1.wa.part (n:=n) ht har (by simp;omega) (by omega) fun j hj hs=>by have:=hs.2.2;simp at this;omega
 refine⟨_,⟨f.dab,f.dax,f.day,f.dbx,f.dby,f.dxy,f.ba,f.bb,f.bx,f.bY,by simp;omega,f.lb,f.lx,f.ly,f.hn,f.hN,W,f1.wb.tch ht fun j _ h=>f.dab h.1.symm,f1.wx.tch ht fun j _ h=>f.dax h.1.symm,f1.wy.tch ht fun j _ h=>f.day h.1.symm, ?_,f.vb,f.vx,f.vy⟩,ht⟩;rw[d_i (by simp;omega),ev_pad'];exact hv
theorem fi_x {w w1 w2:World}{base N n ga gb gx gy a b x y v:Nat}{La Lb Lx Ly us:List Nat}(f:Four w base N n ga gb gx gy La Lb Lx Ly a b x y)(hB:Below w.heap.size w w1)(hP:FiPost w1 gx 0 N us (.returned (.tuple #[])) w2)(hu:us.length<=N)(hv:ev 18446744073709551616 us=v):
  ∃Lx',Four w2 base N n ga gb gx gy La Lb Lx' Ly a b v y/\Tch (Seg gx 0 N) w1 w2:=by
 obtain⟨_,har,ht,_⟩:=hP;have f1:=f.below hB;have hlx:=f.lx;have W:=f1.wx.part (n:=N) ht har (by simp;omega) (by omega) fun j hj hs=>by have:=hs.2.2;simp at this;omega
 refine⟨_,⟨f.dab,f.dax,f.day,f.dbx,f.dby,f.dxy,f.ba,f.bb,f.bx,f.bY,f.la,f.lb,by simp;omega,f.ly,f.hn,f.hN,f1.wa.tch ht fun j _ h=>f.dax h.1,f1.wb.tch ht fun j _ h=>f.dbx h.1,W,f1.wy.tch ht fun j _ h=>f.dxy h.1.symm,f.va,f.vb, ?_,f.vy⟩,ht⟩;rw[List.drop_of_length_le (by omega),List.append_nil,ev_pad'];exact hv
theorem g_z (w:World)(base h u m G N n ga gb gx gy a b x y:Nat)(La Lb Lx Ly:List Nat)(t:Bool)(hW:Wy w h (.slice (some ⟨ga,0,none⟩) n N) (.slice (some ⟨gb,0,none⟩) n N) (.slice (some ⟨gx,0,none⟩) N N) (.slice (some ⟨gy,0,none⟩) N N) t)
  (hH:Wh base h ga gb gx gy) (f:Four w base N n ga gb gx gy La Lb Lx Ly a b x y) (M:Wm u m G a b x y t) (hle:b<=a) (h0:0<b) (hm:m<18446744073709551616^N):
  Calls Tryz.prog 221 #[.pointer (some ⟨h,0,none⟩)] w (WsPost w base h u m G N (a+b)):=by
 obtain⟨j1,j2,j3,j4,j5⟩:=m_4 h0 hle;have M2:=M.jump j1 j2 j3 j4;have bnd:=(M2.bound (.inr j5)).1;have ex:x*1+y*(a / b)=x+a / b*y:=by rw[Nat.mul_one,Nat.mul_comm y]
 have ey:y*1+x*0=y:=by omega
 rw[ey,ex]at M2;rw[ex]at bnd;have hlt:a%b+b<a+b:=by have:=Nat.mod_lt a h0;omega
 have hxN:x+a / b*y<18446744073709551616^N:=by omega
 have hN:=f.hN;have hn:=f.hn;have hbase:base<=w.heap.size:=by have:=f.wa.1.lt;have:=f.ba;omega
 have hlr:a%b<18446744073709551616^n:=Nat.lt_trans (Nat.mod_lt _ h0) f.nvb.lt;have HM2:=Lib.hid M2;have HW:=Lib.hid hW;have HF:=Lib.hid f;have HXN:=Lib.hid hxN;have HLT:=Lib.hid hlt;have HLR:=Lib.hid hlr;obtain⟨c0,c1,c2,c3,c4,_⟩:=hW.cells;clear M M2 j1 j2 j3 j4 j5 ex ey bnd hxN hlt hlr hW f hm;go_enter Tryz.func221,Tryz.ntmps221
 go_wp2_with fail
 go_region_held3 (fun w'=>w'.cell? ⟨h,0,none⟩=some (.slice (some ⟨ga,0,none⟩) n N)/\w'.cell? ⟨h,1,none⟩=some (.slice (some ⟨gb,0,none⟩) n N)) (go_keep) (first
  |(go_at_call 148;(with_reducible refine(c_7 (x:=a) (y:=b) (HF.out.nva.below (a_a _)) (HF.out.nvb.below (a_a _)) (by omega) (by omega) h0).mono ?_);rintro e w1 ⟨A1,e1,A2,e2,rfl,G1,G2⟩;have Q1:=zup (a_a _) G1.2;obtain⟨d0,d1,d2,d3,d4,_⟩:=(HW.out.below Q1).cells)
  |fail)
 have hnew1:∀ad,A1=some ad->w.heap.size<=ad.block:=fun ad ha=>(k_7 G1 ad ha:w.drew.heap.size<=ad.block);have p1:=G1.cv;have p2:=G2.cv;have hn2:(cn 18446744073709551616 (a%b)).length<=n:=a_h _ _ _ (by omega) HLR.out;have hn1:(cn 18446744073709551616 (a / b)).length<=n:=a_h _ _ _ (by omega) (d_n HF.out.nva.lt);have low2:=c_s 18446744073709551616 (a%b) (by omega);have HE2:=Lib.hid (e_o 18446744073709551616 (a%b) (by omega));obtain⟨n1,hl1⟩:∃k,(cn 18446744073709551616 (a / b)).length=k:=⟨_,rfl⟩;obtain⟨n2,hl2⟩:∃k,(cn 18446744073709551616 (a%b)).length=k:=⟨_,rfl⟩;rw[hl1]at p1 hn1 ⊢;rw[hl2]at p2 hn2 ⊢;have HL2:=Lib.hid hl2;have HNEW:=Lib.hid hnew1;have HQ1:=Lib.hid Q1;have HF1:=Lib.hid (HF.out.below Q1);have HW1:=Lib.hid (HW.out.below Q1);have ar1:Ar w1 ga 0 85 (La.take n):=(Ar.of_wb HF1.out.wa).take n (by rw[HF1.out.la];exact hn);have HLA:Hid ((La.take n).length=n):=Lib.hid (by have:=HF1.out.la;simp;omega);clear G1 G2 hl1 hl2 hnew1 Q1 c0 c1 c2 c3 c4 d1 d2 d3 d4
 go_wp2_with fail
 refine(d_5 ga 0 N n2 e2 A2 (La.take n) (cn 18446744073709551616 (a%b)) n w1 ar1 HLA.out p2.1 p2.2.1 low2 hn2 hn (by omega)).mono ?_;intro e w2 P2;have he:=P2.1;subst he;obtain⟨La',f2,T2⟩:=fi_a HF1.out (Below.refl _ _) P2 (by rw[HL2.out];exact hn2) HE2.out;have W2:=HW1.out.tch T2 fun z hz hs=>hH.ha (hz.symm.trans hs.1);have hga:ga<w.heap.size:=HF.out.wa.1.lt;have q1:=p1.tch T2 (k_r HNEW.out hga);have hs1:w.heap.size<=w1.heap.size:=HQ1.out.size;have HQ2:Hid (Below base w w2):=Lib.hid ((HQ1.out.mono hbase).trans (T2.below (B:=base) (by omega) fun z hz=>by rw[hz.1];exact HF.out.ba));have hs2:w1.heap.size<=w2.heap.size:=T2.size;have HF2:=Lib.hid f2;have HW2:=Lib.hid W2;have HP1:=Lib.hid q1;have HE4:=Lib.hid (e_o 18446744073709551616 (x+a / b*y) (by omega));have hn4:(cn 18446744073709551616 (x+a / b*y)).length<=N:=a_h _ _ _ (by omega) HXN.out;have low4:=c_s 18446744073709551616 (x+a / b*y) (by omega);have hlx:=f2.lx;have HLX:=Lib.hid hlx;have hhx:∀z:Addr,z.block=h->¬Seg gx 0 N z:=fun z hz hs=>hH.hx (hz.symm.trans hs.1);have HHX:=Lib.hid hhx;obtain⟨c0,c1,c2,c3,c4,_⟩:=W2.cells;clear P2 ar1 low2 T2 W2 f2 q1 hlx hhx p1 p2 HF1 HW1
 go_wp2_with fail
 go_region_held3 (fun w'=>w'.cell? ⟨h,2,none⟩=some (.slice (some ⟨gx,0,none⟩) N N)/\w'.cell? ⟨h,3,none⟩=some (.slice (some ⟨gy,0,none⟩) N N)) (go_keep) (first
  |(go_at_call 110;(with_reducible refine(k_t (x:=a / b) (y:=y) (HP1.out.nv.below (a_a _)) (HF2.out.nvy.below (a_a _)) (by omega) (by omega)).mono ?_);rintro e w3 ⟨A3,n3,e3,rfl,p3,k3,B3⟩;have Q3:=zup (a_a _) B3;obtain⟨d0,d1,d2,d3,d4,_⟩:=(HW2.out.below Q3).cells)
  |(go_at_call 155;(with_reducible refine(l_w (x:=x) (y:=a / b*y) (HF2.out.nvx.below Q3) p3.nv (by omega) (by omega)).mono ?_);rintro e w4 ⟨A4,n4,e4,rfl,p4,k4,B4⟩;have Q4:=zup Q3 B4;have r4:=p4.1;have l4:=p4.2.1;have m4:n4<=N:=(by rw[<-l4];exact hn4);have ar4:=Ar.of_wb (HF2.out.below Q4).wx;obtain⟨f0,f1,f2,f3,f4,_⟩:=(HW2.out.below Q4).cells)
  |(go_at_call 224;(with_reducible refine(d_5 gx 0 N n4 e4 A4 Lx (cn 18446744073709551616 (x+a / b*y)) N _ ar4 HLX.out r4 l4 low4 m4 (Nat.le_refl _) (by omega)).mono ?_);intro e w5 P5;obtain⟨Lx',F5,T5⟩:=fi_x HF2.out Q4 ⟨rfl,P5.2⟩ hn4 HE4.out;have W5:=(HW2.out.below Q4).tch T5 HHX.out;obtain⟨g0,g1,g2,g3,g4,_⟩:=W5.cells;obtain rfl:=P5.1)
  |fail)
 have hs4:=Q4.size;have P:Hid (WsPost w base h u m G N (a+b) (.returned (.tuple #[])) w5):=Lib.hid ⟨rfl,⟨n,ga,gb,gx,gy,a%b,b,x+a / b*y,y,_,_,_,_,t,W5,hH,F5,HM2.out,HLT.out⟩,(HQ2.out.trans (Q4.mono (by omega))).trans (T5.below (B:=base) (by omega) fun z hz=>by rw[hz.1];exact HF.out.bx)⟩
 go_wp2_with fail
 go_end0
 exact P.out
end
section
open Go.RowKit
def OrPost (w:World)(base h u m G N g:Nat)(e:Ending)(w':World):Prop:=e= .returned (.tuple #[])/\∃g',g'<g/\WayAt w' base h u m G N g'/\Below base w w'
def OrEx (w:World)(base h u m G N g:Nat)(wx:World):Prop:=
 ∃(n ga gb gx gy a b x y:Nat) (La Lb Lx Ly:List Nat) (t:Bool),Wy wx h (.slice (some ⟨ga,0,none⟩) n N) (.slice (some ⟨gb,0,none⟩) n N) (.slice (some ⟨gx,0,none⟩) N N) (.slice (some ⟨gy,0,none⟩) N N) t/\Wh base h ga gb gx gy/\
  Four wx base N n ga gb gx gy La Lb Lx Ly a b x y/\Wm u m G a b x y t/\a+b<g/\b<=a/\Below base w wx
theorem Four.set {w:World}{base N n ga gb gx gy a b x y h:Nat}{La Lb Lx Ly:List Nat}(f:Four w base N n ga gb gx gy La Lb Lx Ly a b x y)(k:Wh base h ga gb gx gy)(j:Nat)(v:Value):Four (w.setCell ⟨h,j,none⟩ v) base N n ga gb gx gy La Lb Lx Ly a b x y:=
 ⟨f.dab,f.dax,f.day,f.dbx,f.dby,f.dxy,f.ba,f.bb,f.bx,f.bY,f.la,f.lb,f.lx,f.ly,f.hn,f.hN,f.wa.far k.ha.symm _,f.wb.far k.hb.symm _,f.wx.far k.hx.symm _,f.wy.far k.hy.symm _,f.va,f.vb,f.vx,f.vy⟩
theorem Four.trim {w:World}{base N n ga gb gx gy a b x y:Nat}{La Lb Lx Ly:List Nat}(f:Four w base N n ga gb gx gy La Lb Lx Ly a b x y)(hle:b<=a):
  Four w base N (sl (La.take n)) ga gb gx gy La Lb Lx Ly a b x y/\sl (La.take n)<=n/\(sl (La.take n)=0\/nth La (sl (La.take n) - 1)≠0):=by
 have hl:(La.take n).length=n:=by have:=f.la;have:=f.hn;simp;omega
 have hlb:(Lb.take n).length=n:=by have:=f.lb;have:=f.hn;simp;omega
 have hs:=a_4 (La.take n);rw[hl]at hs;have e1:ev 18446744073709551616 (La.take (sl (La.take n)))=ev 18446744073709551616 (La.take n):=by
  have:=a_n 18446744073709551616 (La.take n);rwa [List.take_take,Nat.min_eq_left hs]at this
 have e2:ev 18446744073709551616 (Lb.take (sl (La.take n)))=ev 18446744073709551616 (Lb.take n):=by
  have:=j_2 (us:=Lb.take n) (by omega) (f.wa.2.take n) (by rw[f.va,f.vb];exact hle) (by omega);rwa [List.take_take,Nat.min_eq_left hs]at this
 refine⟨{ f with hn:=by have:=f.hn;omega,va:=by rw[e1];exact f.va,vb:=by rw[e2];exact f.vb },hs, ?_⟩;rcases Nat.eq_zero_or_pos (sl (La.take n))with h0|h0
 ·exact .inl h0
 ·have:=e_f h0;rw[b_n (by omega)]at this;exact .inr this
theorem f_7 (w:World)(base h u m G N g:Nat)(hb:base<=w.heap.size)(P:WayMid w base h u m G N g):
  Calls Tryz.prog 223 #[.pointer (some ⟨h,0,none⟩)] w (OrPost w base h u m G N g):=by
 obtain⟨n,ga,gb,gx,gy,a,b,x,y,La,Lb,Lx,Ly,t,hW,hH,f,M,hlt⟩:=P;have hN:=f.hN;have hn:=f.hn;obtain⟨rc,hrc⟩:∃r,cmpN a b=r:=⟨_,rfl⟩;have HRC:=Lib.hid hrc;have HW:=Lib.hid hW;have HF:=Lib.hid f;have HM:=Lib.hid M;have HLT:=Lib.hid hlt;obtain⟨c0,c1,c2,c3,c4,_⟩:=hW.cells;clear hrc hW f M hlt;go_enter Tryz.func223,Tryz.ntmps223
 go_wp2_with fail
 go_region_held3 (fun w'=>w'.cell? ⟨h,0,none⟩=some (.slice (some ⟨ga,0,none⟩) n N)/\w'.cell? ⟨h,1,none⟩=some (.slice (some ⟨gb,0,none⟩) n N)) (go_keep) (first
  |(go_at_call 109;(with_reducible refine(l_r (x:=a) (y:=b) (HF.out.nva.below (a_a _)) (HF.out.nvb.below (a_a _)) HRC.out).mono ?_);rintro e w1 ⟨rfl,B1⟩;have Q1:=zup (a_a _) B1;obtain⟨d0,d1,d2,d3,d4,_⟩:=(HW.out.below Q1).cells)
  |fail)
 have HF1:=Lib.hid (HF.out.below Q1);have HW1:=Lib.hid (HW.out.below Q1);have HB1:=Lib.hid (Q1.mono hb);have hb1:base<=w1.heap.size:=by have:=Q1.size;omega
 clear Q1 B1 c0 c1 c2 c3 c4 HF HW;go_upto_if 12 with fail
 go_cut [] (OrEx w base h u m G N g)
 case first=>
  by_cases hlt2:a<b
  ·have hr1:rc= -1:=by rw[<-HRC.out,e_t hlt2]
   subst hr1;obtain⟨_,_,_,_,_,f0,f1,f2,f3,f4⟩:=HW1.out.cells;have HLT2:=Lib.hid hlt2;clear hlt2
   go_wp2_with fail
   go_region
   all_goals
    go_wp2_with fail
    go_meet
    have K:=((((HW1.out.put0 (.slice (some ⟨gb,0,none⟩) n N)).put1 (.slice (some ⟨ga,0,none⟩) n N)).put2 (.slice (some ⟨gy,0,none⟩) N N)).put3 (.slice (some ⟨gx,0,none⟩) N N)).put4 (!t);have F:=(((((HF1.out.set hH 0 (.slice (some ⟨gb,0,none⟩) n N)).set hH 1 (.slice (some ⟨ga,0,none⟩) n N)).set hH 2 (.slice (some ⟨gy,0,none⟩) N N)).set hH 3 (.slice (some ⟨gx,0,none⟩) N N)).set hH 4 (.bool (!t)));exact⟨n,gb,ga,gy,gx,b,a,y,x,Lb,La,Ly,Lx, !t,K.below (a_a _),hH.swap,F.swap.below (a_a _),HM.out.swap,by have:=HLT.out;omega,Nat.le_of_lt HLT2.out,
     (a_q (a_q (a_q (a_q (a_q HB1.out hH.h0 _) hH.h0 _) hH.h0 _) hH.h0 _) hH.h0 _).drew⟩
  ·have hr1:¬rc<0:=by
    rw[<-HRC.out];rcases Nat.lt_or_eq_of_le (Nat.le_of_not_lt hlt2)with h|h
    ·rw[e_u h];omega
    ·rw[e_v h.symm];omega
   have HLT2:=Lib.hid hlt2;clear hlt2
   go_wp2_with fail
   go_meet
   exact⟨n,ga,gb,gx,gy,a,b,x,y,La,Lb,Lx,Ly,t,HW1.out,hH,HF1.out,HM.out,HLT.out,Nat.le_of_not_lt HLT2.out,HB1.out⟩
 case rest=>
  clear HF1 HW1 HB1 HM HLT HRC hH hn hb1 d0 d1 d2 d3 d4;obtain⟨n,ga,gb,gx,gy,a,b,x,y,La,Lb,Lx,Ly,t,hW,hH,f,M,hlt,hle,hB⟩:=hcut;obtain⟨f2,hs,htop⟩:=f.trim hle;have hn:=f.hn;obtain⟨B,hBl⟩:∃B,bl a=B:=⟨_,rfl⟩;have h1:=r_7 (f.wa.2.take n);rw[f.va,hBl]at h1;have HBL:=Lib.hid hBl;obtain⟨q,hq⟩:∃q,sl (La.take n)=q:=⟨_,rfl⟩;rw[hq]at h1 hs htop f2;have E1:=Lib.hid (show((B:Int)+64 - 1) / 64=(q:Int) by omega);have hB2:B<=70368744177664:=by omega
  have hqN:q<=N:=by omega
  have nva:=f.nva;obtain⟨c0,c1,c2,c3,c4,g0,g1,_,_,_⟩:=hW.cells;have HW:=Lib.hid hW;have HF:=Lib.hid f2;have HM:=Lib.hid M;have HLT:=Lib.hid hlt;have HTOP:=Lib.hid htop;have HBe:=Lib.hid hB;clear h1 hq hW f f2 M hlt htop hB hBl
  go_wp2_with fail
  refine(c_9 nva (by omega) HBL.out).mono ?_;rintro e w2 ⟨rfl,rfl⟩;clear nva
  go_wp2_with fail
  rw[E1.out];go_region
  all_goals
   have K:=((HW.out.put0 (.slice (some ⟨ga,0,none⟩) q N)).put1 (.slice (some ⟨gb,0,none⟩) q N)).below (a_a _);have F:=((HF.out.set hH 0 (.slice (some ⟨ga,0,none⟩) q N)).set hH 1 (.slice (some ⟨gb,0,none⟩) q N)).below (a_a _);have P:Hid (OrPost w base h u m G N g (.returned (.tuple #[])) ((wc.setCell ⟨h,0,none⟩ (.slice (some ⟨ga,0,none⟩) q N)).setCell ⟨h,1,none⟩ (.slice (some ⟨gb,0,none⟩) q N)).drew):=Lib.hid ⟨rfl,a+b,HLT.out,⟨q,ga,gb,gx,gy,a,b,x,y,La,Lb,Lx,Ly,t,K,hH,F,HM.out,hle,HTOP.out,rfl⟩,
    (a_q (a_q HBe.out hH.h0 _) hH.h0 _).drew⟩
   clear K F
   go_wp2_with fail
   go_end0
   exact P.out
end
end Go.Proofs.YtfhbdlegkdbmfaaGreat
