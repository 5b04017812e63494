/- Pq27 -/
import Derived.Test.YtfhbdlegkdbmfaaGreatPq26
import Derived.OrdersIn
import Derived.TacticsIn
import Derived.RangeFuncCalls
set_option linter.unusedVariables false
set_option linter.unusedSimpArgs false
set_option linter.unusedSectionVars false
set_option maxRecDepth 100000
set_option maxHeartbeats 8000000
namespace Go.Proofs.YtfhbdlegkdbmfaaGreat
section
open Go.RowKit
theorem Grew.qv {w w':World}{v v':Value}(h:Grew w w' v v'){s t:Bool}{A B:Option Addr}{n c m d:Nat}{y:Rat}(hy:Qv w s A n c t B m d y):Qv w' s A n c t B m d y:=(h.qe (q:=false) ⟨hy,fun e=>nomatch e⟩).1
def RqPost (w:World)(R C S K1 K3:Nat)(F G:Nat->Nat->Rat)(e:Ending)(w':World):Prop:=∃g A c,e= .returned (.pointer (some ⟨g,0,none⟩))/\Below w.heap.size w w'/\RsAt (qmX A c K3 (qcs R C S F G)) w.heap.size w' g R (C+S) K1 C (qwr R C F G)
theorem x_u {q q':Bool}{R C S n d n' d' k kc Ka K1 K2 K3 Kb:Nat}{A A':Option Addr}{F G:Nat->Nat->Rat}{w:World}(ha:Mq q w R C A n d k F)(hb:Mq q' w R S A' n' d' k G)(hk0:1<=k)(e1:pc C k=kc)(e2:pk C k=Ka)(e3:2*kc=K2)(e4:pc R K2=K3)(e5:pk R K2=Kb)(e6:Ka+Kb=K1)(hK:kb K1 R<=549755813888)(hK1:K1<=1073741824):Calls Tryz.prog 135 #[.agg #[.int .i64 (R:Int),.int .i64 (C:Int),.slice A n d],.agg #[.int .i64 (R:Int),.int .i64 (S:Int),.slice A' n' d']] w (RqPost w R C S K1 K3 F G):=by
 have hR:=ha.hr;have hC:=ha.hc;have hS:=hb.hc;have hRS:=hb.big;have l1:k<=kc:=by rw[<-e1];unfold pc;rw[Nat.succ_mul];omega
 have l2:kc<=Ka:=by rw[<-e2,<-e1];unfold pk;omega
 have l3:K2<=K3:=by rw[<-e4];unfold pc;rw[Nat.succ_mul];omega
 have l4:K3<=Kb:=by rw[<-e5,<-e4];unfold pk;omega
 have E1:=Lib.hid e1;have E2:=Lib.hid e2;have E4:=Lib.hid e4;have E5:=Lib.hid e5;have HK:=Lib.hid hK;have HA:=Lib.hid ha;have HB_:=Lib.hid hb;have hll:(qmk R S (qbd C F G)).length=R*S:=b_f ..;have HLL:=Lib.hid hll;clear e1 e2 e4 e5 hK ha hb hll;obtain⟨w1,hw1,b2,b3,z1,s1⟩:=boxes2 w 24 24 [.int .i64 (R:Int),.int .i64 (C:Int),.slice A n d] [.int .i64 (R:Int),.int .i64 (S:Int),.slice A' n' d'];have HW:=Lib.hid hw1;have HZ:=Lib.hid z1;clear hw1 z1;go_enter Tryz.func135,Tryz.ntmps135
 go_upto_region 1 with fail
 rw[HW.out];refine Run.start 10 ?_;refine .fa .o (fQ0 0) ?_;refine .ld (.i 0) (ldInt b2 0) ?_;refine .mkS (.i 1) (r:=R) (b0:=w1.heap.size) (by omega) (Nat.le_refl _) ?_;refine .fa .o (fQ0 0) ?_;refine .ld (.i 3) (ldInt b3 0) ?_;refine .fa .o (fQ1 1) ?_;refine .ld (.i 5) (ldInt b3 1) ?_;refine .bdMq (.i 4) (.i 6) (x:=(R:Int)) (y:=(S:Int)) ?_;refine .al ?_;refine .mf (.i 2) ?_;refine .done [some 19,some 20,some 21,some 22,some 23,some 24,some 25,some 26,some 6,some 5] ?_;intro w2 B2;rintro v21 -;rintro gs hgs hls hcs -;rintro v5 ⟨H,rfl,bh,hH⟩;refine sh [_] ?_;simp only[Act.put,lS,lZ,lC];have bz:=zeroMq hcs;have hlH:=bh.lt;have hneH:gs≠H:=fun e=>by
  have h1:=bh;unfold Bx at h1 bz;rw[<-e,bz]at h1;injection h1 with h2
  injection h2 with _ h4
  exact absurd h4 (by decide)
 have B0:=zup HZ.out B2;replace b2:=b2.below B2;replace b3:=b3.below B2;obtain⟨w3,hw3⟩:∃x,mput w2 gs (R:Int) (S:Int) none 0 0=x:=⟨_,rfl⟩;obtain⟨f0_,f1_,f2_,f3_,f4_,f5_,f6_⟩:=bz.m3T;replace b2:=b2.moT (g:=gs) (r':=(R:Int)) (c':=(S:Int)) (C:=none) (n':=0) (d':=0) (by omega);replace b3:=b3.moT (g:=gs) (r':=(R:Int)) (c':=(S:Int)) (C:=none) (n':=0) (d':=0) (by omega);replace bh:=bh.moT (g:=gs) (r':=(R:Int)) (c':=(S:Int)) (C:=none) (n':=0) (d':=0) (Ne.symm hneH);replace B0:=b_4 (g:=gs) (r:=(R:Int)) (c:=(S:Int)) (A:=none) (n:=0) (d:=0) B0 (by omega);replace bz:=bz.mpT (r':=(R:Int)) (c':=(S:Int)) (C:=none) (n':=0) (d':=0);rw[hw3]at b2 b3 bh B0 bz;have Hw3:=Lib.hid hw3;unfold mput at Hw3;clear hw3 B2 HZ hcs;go_upto_region 2 with fail
 rw[Hw3.out];clear f0_ f1_ f2_ f3_ f4_ f5_ f6_ Hw3;obtain⟨bs,hbs⟩:∃bs,w3.heap.size=bs:=⟨_,rfl⟩;have hl2:=b2.lt;have hl3:=b3.lt;have hlh:=bh.lt;have hlz:=bz.lt;have m1:w.heap.size+2<=bs:=by omega
 have m2:w.heap.size+2<=gs:=by omega
 have m3:w.heap.size+2<=H:=by omega
 have m4:gs<bs:=by omega
 have m5:H<bs:=by omega
 have H0:Hid (Below w.heap.size w w3/\∃vs rows,RofA bs w3 w.heap.size (w.heap.size+1) gs H [.int .i64 (R:Int),.int .i64 (C:Int),.slice A n d] [.int .i64 (R:Int),.int .i64 (S:Int),.slice A' n' d'] R S vs K1 K2 (fun j=>rw' C (ptn (F j) C)) ((qmk R S (qbd C F G)).take (0*S)) (.slice none 0 0) K3 [] 0 rows):=Lib.hid ⟨B0,_,_,{
  ba:=b2,bb:=b3,bo:=bz,hd:=bh,len:=by simp
  lts:=⟨by omega,by omega,by omega,by omega⟩
  sep:=⟨by omega,by omega,hneH,by omega,by omega⟩
  own:=by rw[Nat.zero_mul];exact Oq.nil _ _ _ _
  row:=fun j hj=>by omega
  slc:=fun v hv=>⟨_,_,_,(List.mem_replicate.1 hv).2⟩
  dj:=fun j l v u hj=>by omega
  oc:=Oq.nil _ _ _ _
  djc:=.inl rfl
  hb:=by omega }⟩
 clear b2 b3 bz bh B0 hbs hl2 hl3 hlh hlz hls hgs hH HW s1 hlH
 go_wp2_with fail
 go_loopw [29] (fun s29 wr=>∃i:Nat,s29= .int .i64 (i:Int)/\i<=R/\Hid (Below w.heap.size w wr/\∃vs rows,RofA bs wr w.heap.size (w.heap.size+1) gs H [.int .i64 (R:Int),.int .i64 (C:Int),.slice A n d] [.int .i64 (R:Int),.int .i64 (S:Int),.slice A' n' d'] R S vs K1 K2 (fun j=>rw' C (ptn (F j) C)) ((qmk R S (qbd C F G)).take (i*S)) (.slice none 0 0) K3 [] i rows)) (fun s29 _=>R - (intOf s29).toNat)
 case atStart=>exact⟨0,rfl,Nat.zero_le _,H0⟩
 case round=>
  clear H0;obtain⟨i,rfl,hi,HB⟩:=hrel;by_cases hlt:i<R
  ·have u1:(i:Int)<(R:Int):=by omega
   obtain⟨B0,vs,rows,hr⟩:=HB.out;clear HB;obtain⟨Ar,dr,hrow⟩:=u_3 HA.out hlt;obtain⟨Ab',db',hrowb⟩:=u_3 HB_.out hlt;have HRB:=Lib.hid hrowb;have b2:=hr.ba;have b3:=hr.bb;have hbw:=hr.hb;have hsz0:=B0.size;clear hrowb;go_upto_region 5 with fail
   refine Run.start 5 ?_;refine .ld .o (ldQm b2 0) ?_;refine .mv .o ?_;refine .c2 (.i 0) (.i 1) (x:=.k (.slice Ar C dr)) (by rintro u v w4 hB rfl rfl;exact(hrow w4 (zup B0 hB)).2) ?_;refine .c1 (.i 2) (x:=kPt wr.heap.size C Ka kc (F i)) (by rintro u w4 hB rfl;exact j_v (hrow w4 (zup B0 hB)).1 (by omega) hk0 E2.out E1.out (by omega) hB.size) ?_;refine .al ?_;refine .donep [some 32,some 33,some 34,some 35,some 8] ?_;intro w4 B4;rintro v ⟨gn,sa,Aa,na,ca,sb,Ab,nb,cb,rfl,hp⟩;rintro g8 hg8 hl8 hc8 -;refine sh [_] ?_;simp only[Act.put,lS,lZ,lC];have b8:=zeroPt hc8;have hgn:=hp.2.1;have hne:g8≠gn:=fun e=>by
    obtain⟨cs,hcs,-⟩:=hp.1;rw[<-e]at hcs;rw[b8]at hcs;cases hcs
   obtain⟨w5,hw5⟩:∃x,pput w4 g8 (.slice (some ⟨gn,0,none⟩) C C) (.bool sa) (.slice Aa na ca) (.bool sb) (.slice Ab nb cb)=x:=⟨_,rfl⟩;have hgr:=e_s w4 g8 (.slice (some ⟨gn,0,none⟩) C C) (.bool sa) (.slice Aa na ca) (.bool sb) (.slice Ab nb cb);have hno:=b8.now (by simp);replace hp:=hp.gro (Ne.symm hne) hno hgr;replace B4:=a_c B4 hgr hg8;obtain⟨f0_,f1_,f2_,f3_,f4_,f5_,f6_,f7_,f8_,f9_,f10_⟩:=b8.m5;replace b8:=b8.pp (v0:=.slice (some ⟨gn,0,none⟩) C C) (v1:=.bool sa) (v2:=.slice Aa na ca) (v3:=.bool sb) (v4:=.slice Ab nb cb);rw[hw5]at hp B4 b8;have Hw5:=Lib.hid hw5;unfold pput at Hw5;clear hw5 hgr hno hc8 hl8 hne;go_upto_region 6 with fail
   rw[Hw5.out];clear f0_ f1_ f2_ f3_ f4_ f5_ f6_ f7_ f8_ f9_ f10_ Hw5;refine Run.start 5 ?_;refine .mv .o ?_;refine .mv .o ?_;refine .fa .o (fV0 0) ?_;refine .ld (.i 2) (ldSl b8 0) ?_;refine .two (.i 0) (.i 1) (opIxS hlt) ?_;refine .donep [some 36,some 37,some 38,some 39,some 40] ?_;intro w6 B6;refine sh [_] ?_;simp only[Act.put,lS,lZ,lC];replace B4:=zup B4 B6;replace b8:=b8.below B6;replace hp:=hp.below B6;have hr6:=hr.below B4;have x1:=(hr6.hd.cell i).trans (List.getElem?_eq_getElem (by rw[hr6.len];exact hlt));have y1:=hr6.hd.free i;have z1:=hr6.hd.lt;have hoz:=(hp.1.oz (Nat.le_trans hbw hgn) (b_d _ _) (by omega)).mono (k':=K1) (by omega);have hr7:=hr6.put hlt ⟨_,_,_,rfl⟩ hoz (fun l u hl hu=>by
    obtain⟨u',h1,h2⟩:=hr.row l hl;rw[hu]at h1;cases h1;cases e:u.ownBlock with
    |none=>exact .inl e
    |some x=>right;rw[e];have:=(h2.lt e).2;simp[Value.ownBlock];omega)
   have hgr:w6.grownBy (w6.setCell ⟨H,i,none⟩ (.slice (some ⟨gn,0,none⟩) C C)) (some H):=a_d (q:=⟨H,i,none⟩) (a_m w6 (some H)) rfl _;have hno:=hr6.nowH;have hnw:Qv w6 sa Aa na ca sb Ab nb cb (pct (F i) C):=Zc.ct hp.2.2.1 hp.2.2.2.2.1;have hz1:=hp.2.2.2.1;have hz2:=hp.2.2.2.2.2;replace hnw:=hnw.gro hno hgr;replace b8:=a_a b8 hgr (by omega);have B7:=a_c (zup B0 B4) hgr (by omega);obtain⟨w7,hw7⟩:∃x,w6.setCell ⟨H,i,none⟩ (.slice (some ⟨gn,0,none⟩) C C)=x:=⟨_,rfl⟩;rw[hw7]at hr7 hnw b8 B7;have Hw7:=Lib.hid hw7;clear hgr hno hp hoz B4 B6 hr hw7 hrow b2 b3 hgn;go_upto_region 7 with fail
   rw[Hw7.out];clear x1 y1 z1 Hw7 hr6;have b3:=hr7.bb;refine Run.start 5 ?_;refine .ld .o (ldQm b3 0) ?_;refine .mv .o ?_;refine .c2 (.i 0) (.i 1) (x:=.k (.slice Ab' S db')) (by rintro u v w8 hB rfl rfl;exact(HRB.out w8 (zup B7 hB)).2) ?_;refine .len (.i 2) Tryz.underlying22 ?_;refine .mv .o ?_;refine .donep [some 41,some 42,some 43,some 44,some 45] ?_;intro w8 B8;refine sh [] ?_;simp only[Act.put,lS,lZ,lC];have H1:Hid (Below w.heap.size w w8/\Bx w8 g8 80 [.slice (some ⟨gn,0,none⟩) C C,.bool sa,.slice Aa na ca,.bool sb,.slice Ab nb cb]/\Qv w8 sa Aa na ca sb Ab nb cb (pct (F i) C)/\∃vs rows,RofA bs w8 w.heap.size (w.heap.size+1) gs H [.int .i64 (R:Int),.int .i64 (C:Int),.slice A n d] [.int .i64 (R:Int),.int .i64 (S:Int),.slice A' n' d'] R S vs K1 K2 (fun j=>rw' C (ptn (F j) C)) ((qmk R S (qbd C F G)).take (i*S+0)) (.slice none 0 0) K3 [] (i+1) rows):=Lib.hid ⟨zup B7 B8,b8.below B8,hnw.below B8,_,_,hr7.below B8⟩;have hg8b:bs<=g8:=by omega
   clear B7 B8 b8 hnw hr7 b3
   go_wp2_with fail
   go_loopw [45] (fun s45 wr=>∃e:Nat,s45= .int .i64 (e:Int)/\e<=S/\Hid (Below w.heap.size w wr/\Bx wr g8 80 [.slice (some ⟨gn,0,none⟩) C C,.bool sa,.slice Aa na ca,.bool sb,.slice Ab nb cb]/\Qv wr sa Aa na ca sb Ab nb cb (pct (F i) C)/\∃vs rows,RofA bs wr w.heap.size (w.heap.size+1) gs H [.int .i64 (R:Int),.int .i64 (C:Int),.slice A n d] [.int .i64 (R:Int),.int .i64 (S:Int),.slice A' n' d'] R S vs K1 K2 (fun j=>rw' C (ptn (F j) C)) ((qmk R S (qbd C F G)).take (i*S+e)) (.slice none 0 0) K3 [] (i+1) rows)) (fun s45 _=>S - (intOf s45).toNat)
   case atStart=>exact⟨0,rfl,Nat.zero_le _,H1⟩
   case round=>
    clear H1;obtain⟨e,rfl,he,HB⟩:=hrel;by_cases hel:e<S
    ·have u2:(e:Int)<(S:Int):=by omega
     obtain⟨B0,b8,hct,vs,rows,hr⟩:=HB.out;clear HB;obtain⟨ad,rfl,hab,hA⟩:=(HRB.out wr B0).1.at hel;obtain⟨s_,A_,n_,c_,t_,B_,m_,d_,e0,e1,e2,e3,ze,hk1,hk2⟩:=hA;rw[h_d hel]at ze;have hz:=ze.1;have hbw:=hr.hb;have hl8:=b8.lt;clear ze;go_upto_region 9 with fail
     refine Run.start 3 ?_;refine .two .o .o (opIxQ hel) ?_;refine .ld (.i 0) (ldQ (by rw[a_b];exact hab) e0 e1 e2 e3) ?_;refine .al ?_;refine .donep [some 47,some 48,some 10] ?_;intro w9 B9;rintro g10 hg10 hl10 hc10 -;refine sh [_] ?_;simp only[Act.put,lS,lZ,lC];have b10:=zeroQ hc10;replace b8:=b8.below B9;replace hz:=hz.below B9;replace hct:=hct.below B9;clear e0 e1 e2 e3 hc10 hab;obtain⟨w10,hw10⟩:∃x,rput w9 g10 s_ A_ n_ c_ t_ B_ m_ d_=x:=⟨_,rfl⟩;obtain⟨f1_,f2_,f3_,f4_,f5_,f6_,f7_,f8_,f9_⟩:=b10.rb;have hgr_:=c_i w9 g10 s_ A_ n_ c_ t_ B_ m_ d_;have hno_:Wless w9 g10:=b10.now (by simp);rw[hw10]at hgr_;replace b8:=a_a b8 hgr_ (by omega);replace hz:=hz.gro hno_ hgr_;replace hct:=hct.gro hno_ hgr_;replace B9:=a_c B9 hgr_ (by omega);replace b10:=b10.rp (s':=s_) (A':=A_) (n':=n_) (c':=c_) (t':=t_) (B':=B_) (m':=m_) (d':=d_);rw[hw10]at b10;have Hw10:=Lib.hid hw10;unfold rput at Hw10;clear hw10 hgr_ hno_;go_upto_region 10 with fail
     rw[Hw10.out];clear f1_ f2_ f3_ f4_ f5_ f6_ f7_ f8_ f9_ Hw10;refine Run.start 8 ?_;refine .ld .o (ldQr b10) ?_;refine .fa .o (fV1 1) ?_;refine .ld (.i 1) (ldQo b8 1) ?_;refine .c2 (.i 0) (.i 2) (x:=kT (kQ (qbd C F G i e) K2) (.k (.bool true))) (by rintro u v w11 hB rfl rfl;exact x_w kc ⟨_,_,_,_,_,_,_,_,rfl,hz.below hB,hk1,hk2⟩ ⟨_,_,_,_,_,_,_,_,rfl,hct.below hB,hz1,hz2⟩ l1 (Nat.le_refl _) (by omega) (by omega) (by omega) (decide_eq_true (h_g _ _))) ?_;refine .mf (.i 3) ?_;refine .ex (.i 4) 0 kT_0 ?_;refine .ex (.i 4) 1 kT_1 ?_;refine .al ?_;refine .donep [some 50,some 51,some 52,some 53,some 49,some 54,some 55,some 11] ?_;intro w11 B11;rintro v53 -;rintro v49 -;rintro v ⟨s2,A2,n2,c2,t2,B2',m2,d2,rfl,hq,hk3,hk4⟩;rintro g11 hg11 hl11 hc11 -;refine sh [_,_] ?_;simp only[Act.put,lS,lZ,lC];have b11:=zeroQ hc11;have hl10':=b10.lt;have hl8':=b8.lt;have hs9:=B9.size;replace B9:=zup B9 B11;replace b8:=b8.below B11;replace hct:=hct.below B11;clear hc11 B11 b10 hz;obtain⟨w12,hw12⟩:∃x,rput w11 g11 s2 A2 n2 c2 t2 B2' m2 d2=x:=⟨_,rfl⟩;obtain⟨f1_,f2_,f3_,f4_,f5_,f6_,f7_,f8_,f9_⟩:=b11.rb;have hgr_:=c_i w11 g11 s2 A2 n2 c2 t2 B2' m2 d2;have hno_:Wless w11 g11:=b11.now (by simp);rw[hw12]at hgr_;replace b8:=a_a b8 hgr_ (by omega);replace hq:=hq.gro hno_ hgr_;replace hct:=hct.gro hno_ hgr_;replace B9:=a_c B9 hgr_ (by omega);replace b11:=b11.rp (s':=s2) (A':=A2) (n':=n2) (c':=c2) (t':=t2) (B':=B2') (m':=m2) (d':=d2);rw[hw12]at b11;have Hw12:=Lib.hid hw12;unfold rput at Hw12;clear hw12 hgr_ hno_;go_upto_region 11 with fail
     rw[Hw12.out];clear f1_ f2_ f3_ f4_ f5_ f6_ f7_ f8_ f9_ Hw12;replace hr:=hr.below B9;replace B0:=zup B0 B9;have hgo:=b11.lt;obtain⟨Av,cv,rfl,-⟩:=hr.own.form hr.hb;obtain⟨nv,hnv⟩:∃nv,((qmk R S (qbd C F G)).take (i*S+e)).length=nv:=⟨_,rfl⟩;have hlen:((qmk R S (qbd C F G)).take (i*S+e)).length<=4096:=by rw[List.length_take,HLL.out];omega
     rw[hnv]at hr;try rw[hnv]
     clear B9 hnv hl8 hl8' hl10' hs9;have b6:=hr.bo;refine Run.start 4 ?_;refine .fa .o (fQ2 2) ?_;refine .ld (.i 0) (ldQl b6 2) ?_;refine .ld .o (ldQr b11) ?_;refine .bsk (.i 2) (Nat.le_refl _) ?_;refine .donep [some 56,some 57,some 58,some 59] ?_;intro w13 B13;rintro v ⟨gx,rfl,bg,hge⟩;refine sh [_,_,_] ?_;simp only[Act.put,lS,lZ,lC];replace hr:=hr.below B13;replace b8:=b8.below B13;replace hq:=hq.below B13;replace hct:=hct.below B13;replace B0:=zup B0 B13;clear B13 b6 b11
     go_wp2_with (at_builtin;refine f_9 rfl _ _ 22 rfl Tryz.underlying22 info_rat rfl hr.own hr.hb bg (.of hq) hk3 hk4 rfl (by omega) ?_)
     intro v5 w14 ho hG;have hm:i*S+e<(qmk R S (qbd C F G)).length:=by rw[HLL.out];exact h_f hlt hel
     have hr2:=hr.push hG ho;rw[show qbd C F G i e=rth (qmk R S (qbd C F G)) (i*S+e)from(j_r hlt hel).symm,o_j hm,Nat.add_assoc]at ho hr2;have hvb:∀g,(Value.slice Av nv cv).ownBlock=some g->bs<=g:=fun g hg=>(hr.own.lt hg).1;have bo':=hG.bx hr.bo (fun e=>by have:=hvb _ e;omega);have hno:=hr.pushN hG;have hgr:w14.grownBy (w14.setCell ⟨gs,2,none⟩ v5) (some gs):=a_d (q:=⟨gs,2,none⟩) (a_m w14 (some gs)) rfl _;have HN:Hid (Below w.heap.size w (w14.setCell ⟨gs,2,none⟩ v5)/\Bx (w14.setCell ⟨gs,2,none⟩ v5) g8 80 [.slice (some ⟨gn,0,none⟩) C C,.bool sa,.slice Aa na ca,.bool sb,.slice Ab nb cb]/\Qv (w14.setCell ⟨gs,2,none⟩ v5) sa Aa na ca sb Ab nb cb (pct (F i) C)/\∃vs rows,RofA bs (w14.setCell ⟨gs,2,none⟩ v5) w.heap.size (w.heap.size+1) gs H [.int .i64 (R:Int),.int .i64 (C:Int),.slice A n d] [.int .i64 (R:Int),.int .i64 (S:Int),.slice A' n' d'] R S vs K1 K2 (fun j=>rw' C (ptn (F j) C)) ((qmk R S (qbd C F G)).take (i*S+(e+1))) (.slice none 0 0) K3 [] (i+1) rows):=Lib.hid ⟨a_c (l_e B0 hG fun g hg=>by have:=hvb g hg;omega) hgr (by omega),a_a (hG.bx b8 (hr.own.nbx b8 (by decide))) hgr (by omega),(hG.qv hct).gro hno hgr,_,_,hr2⟩;have i2:=bo'.cell 2;have i2':=bo'.free 2;have i3:=bo'.lt;simp only[List.getElem?_cons_succ,List.getElem?_cons_zero]at i2;obtain⟨A5,c5,rfl,-⟩:=ho.form (by have:=hG.by'.size;have:=hr.hb;omega);obtain⟨nl,hnl⟩:∃nl,((qmk R S (qbd C F G)).take (i*S+(e+1))).length=nl:=⟨_,rfl⟩;rw[hnl]at HN;try rw[hnl]
     clear b8 hq hct B0 bg bo' hr2 hr ho hG hgr hno hnl hvb hm hge
     go_wp2_with fail
     go_roundw
     case rel=>exact⟨e+1,by go_num,by omega,HN⟩
     case measure=>first|(simp[intOf];done)|(simp[intOf];omega)
    ·obtain rfl:e=S:=by omega
     have u2:¬(e:Int)<(e:Int):=by omega
     obtain⟨B0,-,-,vs,rows,hr⟩:=HB.out;rw[show i*e+e=(i+1)*e by rw[Nat.succ_mul]]at hr;have HN:Hid (Below w.heap.size w wr/\∃vs rows,RofA bs wr w.heap.size (w.heap.size+1) gs H [.int .i64 (R:Int),.int .i64 (C:Int),.slice A n d] [.int .i64 (R:Int),.int .i64 (e:Int),.slice A' n' d'] R e vs K1 K2 (fun j=>rw' C (ptn (F j) C)) ((qmk R e (qbd C F G)).take ((i+1)*e)) (.slice none 0 0) K3 [] (i+1) rows):=Lib.hid ⟨B0,vs,rows,hr⟩;clear B0 hr HB
     go_wp2_with fail
     go_roundw
     case rel=>exact⟨i+1,by go_num,by omega,HN⟩
     case measure=>first|(simp[intOf];done)|(simp[intOf];omega)
  ·obtain rfl:R=i:=by omega
   have u1:¬(R:Int)<(R:Int):=by omega
   obtain⟨B0,vs,rows,hr⟩:=HB.out;rw[<-HLL.out,List.take_length]at hr;have b2:=hr.ba;have hbw:=hr.hb;clear HB;go_upto_region 14 with fail
   refine Run.start 7 ?_;refine .c1 .o (x:=kC 1 1) (by rintro u w4 hB rfl;exact h_x (by omega) (by omega) w4) ?_;refine .c1 (.i 0) (x:=kQe true ((1:Int):Rat) K3) (by rintro u w4 hB ⟨s,A,n,c,rfl,hz,hn⟩;exact(v_e K3 ⟨_,_,_,_,rfl,hz.zv,hn⟩ (by omega) (by omega) (by omega)).mono fun e w' h=>t_r h) ?_;refine .bsq (.i 1) (q:=true) (z:=((1:Int):Rat)) (k:=K3) (Nat.le_refl _) ?_;refine .fa .o (fQ1 1) ?_;refine .ld (.i 3) (ldInt b2 1) ?_;refine .c2 (.i 2) (.i 4) (x:=kOq wr.heap.size K3 (List.replicate C ((1:Int):Rat))) (by rintro u v w4 hB ⟨g,s,A,n,c,t,B,m,d,rfl,hbx,hbg,hq,hn,hm⟩ rfl;exact rep_o hC hbx hq hn hm hB.size) ?_;refine .mf (.i 5) ?_;refine .done [some 64,some 65,some 66,some 67,some 68,some 69,some 13] ?_;intro w4 B4;rintro v64 -;rintro v65 -;rintro v66 -;rintro v69 -;rintro v13 hvt;refine sh [] ?_;simp only[Act.put,lS,lZ,lC];have H2:Hid (Below w.heap.size w w4/\∃vs rows,RofA bs w4 w.heap.size (w.heap.size+1) gs H [.int .i64 (R:Int),.int .i64 (C:Int),.slice A n d] [.int .i64 (R:Int),.int .i64 (S:Int),.slice A' n' d'] R S vs K1 K2 (fun j=>rw' (C+0) (qwr R C F G j)) (qmk R S (qbd C F G)) v13 K3 (qcs R C 0 F G) R rows):=Lib.hid ⟨zup B0 B4,vs,rows,RofA.cz { hr.below B4 with
    oc:=by
     have e:qcs R C 0 F G=List.replicate C ((1:Int):Rat):=by simp[qcs]
     rw[e];exact Oq.lower hvt hbw
    djc:=by
     cases e:v13.ownBlock with
     |none=>exact .inl e
     |some x=>
      right;rw[e];intro e2;have h1:=(Oq.lt hvt e).1;have h2:=(hr.own.lt e2.symm).2;omega } fun j hj=>f_y fun a ha=>(if_pos ha).symm⟩
   clear b2 hvt hr B0 B4 hbw;go_upto_region 15 with fail
   have b3:=H2.out.2.choose_spec.choose_spec.bb;refine Run.start 3 ?_;refine .fa .o (fQ1 1) ?_;refine .ld (.i 0) (ldInt b3 1) ?_;refine .mv .o ?_;refine .donep [some 70,some 71,some 72] ?_;intro w5 B5;refine sh [] ?_;simp only[Act.put,lS,lZ,lC];have H3:Hid (Below w.heap.size w w5/\∃vs rows,RofA bs w5 w.heap.size (w.heap.size+1) gs H [.int .i64 (R:Int),.int .i64 (C:Int),.slice A n d] [.int .i64 (R:Int),.int .i64 (S:Int),.slice A' n' d'] R S vs K1 K2 (fun j=>rw' (C+0) (qwr R C F G j)) (qmk R S (qbd C F G)) v13 K3 (qcs R C 0 F G) R rows):=by
    obtain⟨h1,vs,rows,h2⟩:=H2.out;exact Lib.hid ⟨zup h1 B5,vs,rows,h2.below B5⟩
   clear H2 b3 B5
   go_wp2_with fail
   go_loopw [72,13] (fun s72 s13 wr=>∃(l:Nat) (vt:Value),s72= .int .i64 (l:Int)/\vt=s13/\l<=S/\Hid (Below w.heap.size w wr/\∃vs rows,RofA bs wr w.heap.size (w.heap.size+1) gs H [.int .i64 (R:Int),.int .i64 (C:Int),.slice A n d] [.int .i64 (R:Int),.int .i64 (S:Int),.slice A' n' d'] R S vs K1 K2 (fun j=>rw' (C+l) (qwr R C F G j)) (qmk R S (qbd C F G)) vt K3 (qcs R C l F G) R rows)) (fun s72 _ _=>S - (intOf s72).toNat)
   case atStart=>exact⟨0,_,rfl,rfl,Nat.zero_le _,H3⟩
   case round=>
    clear H3;obtain⟨l,vt,rfl,rfl,hl,HB⟩:=hrel;by_cases hlS:l<S
    ·have u2:(l:Int)<(S:Int):=by omega
     obtain⟨B0,vs,rows,hr⟩:=HB.out;clear HB;obtain⟨Av,cv,rfl,hvl⟩:=hr.own.form hr.hb;obtain⟨nv,hnv⟩:∃nv,(qmk R S (qbd C F G)).length=nv:=⟨_,rfl⟩;rw[hnv]at hr hvl;have hM:Mq true wr R S Av nv cv K2 (qbd C F G):=⟨hvl,hR,hS⟩;have b6:=hr.bo;have hbw:=hr.hb;have HRW:=Lib.hid (show ∀j,j<R->∃v,rows[j]? =some v/\Oz bs wr K1 v (rw' (C+l) (qwr R C F G j))from hr.row);clear hvl hnv;go_upto_region 18 with fail
     refine Run.start 5 ?_;refine .ld .o (ldQm b6 0) ?_;refine .mv .o ?_;refine .c2 (.i 0) (.i 1) (x:=kQl false R K2 (qrw R fun a=>qbd C F G a l)) (by rintro u v w4 hB rfl rfl;exact m_1 (hM.below hB) hlS) ?_;refine .c1 (.i 2) (x:=kPt wr.heap.size R Kb K3 (fun a=>qbd C F G a l)) (by rintro u w4 hB ⟨A5,d5,rfl,hq⟩;exact j_v hq (by omega) (by omega) E5.out E4.out (by omega) hB.size) ?_;refine .al ?_;refine .donep [some 75,some 76,some 77,some 78,some 15] ?_;intro w4 B4;rintro v77 -;rintro v ⟨gn,sa,Aa,na,ca,sb,Ab,nb,cb,rfl,hp⟩;rintro g15 hg15 hl15 hc15 -;refine sh [_] ?_;simp only[Act.put,lS,lZ,lC];have b15:=zeroPt hc15;have hgn:=hp.2.1;have hne:g15≠gn:=fun e=>by
      obtain⟨cs,hcs,-⟩:=hp.1;rw[<-e]at hcs;rw[b15]at hcs;cases hcs
     obtain⟨w5,hw5⟩:∃x,pput w4 g15 (.slice (some ⟨gn,0,none⟩) R R) (.bool sa) (.slice Aa na ca) (.bool sb) (.slice Ab nb cb)=x:=⟨_,rfl⟩;have hgr:=e_s w4 g15 (.slice (some ⟨gn,0,none⟩) R R) (.bool sa) (.slice Aa na ca) (.bool sb) (.slice Ab nb cb);have hno:=b15.now (by simp);replace hp:=hp.gro (Ne.symm hne) hno hgr;replace B4:=a_c B4 hgr hg15;obtain⟨f0_,f1_,f2_,f3_,f4_,f5_,f6_,f7_,f8_,f9_,f10_⟩:=b15.m5;replace b15:=b15.pp (v0:=.slice (some ⟨gn,0,none⟩) R R) (v1:=.bool sa) (v2:=.slice Aa na ca) (v3:=.bool sb) (v4:=.slice Ab nb cb);rw[hw5]at hp B4 b15;have Hw5:=Lib.hid hw5;unfold pput at Hw5;clear hw5 hgr hno hc15 hl15 hne;go_upto_region 19 with fail
     rw[Hw5.out];clear f0_ f1_ f2_ f3_ f4_ f5_ f6_ f7_ f8_ f9_ f10_ Hw5;refine Run.start 4 ?_;refine .fa .o (fV0 0) ?_;refine .ld (.i 0) (ldSl b15 0) ?_;refine .len (.i 1) Tryz.underlying25 ?_;refine .mv .o ?_;refine .donep [some 79,some 80,some 81,some 82] ?_;intro w6 B6;refine sh [] ?_;simp only[Act.put,lS,lZ,lC];replace B4:=zup B4 B6;replace b15:=b15.below B6;replace hp:=hp.below B6;replace hr:=hr.below B4;replace B0:=zup B0 B4;have hz1:=hp.2.2.2.1;have hz2:=hp.2.2.2.2.2;have hgnb:bs<=gn:=by omega
     have hg15b:bs<=g15:=by omega
     have hvsz:∀(j:Nat) (u:Value),rows[j]? =some u->u.ownBlock≠some gn:=fun j u hu e=>by
      have hj:j<R:=by
       have:=List.getElem?_eq_some_iff.1 hu;rw[<-hr.len];exact this.1
      obtain⟨u',h1,h2⟩:=HRW.out j hj;rw[hu]at h1;cases h1
      have:=(h2.lt e).2;omega
     have H4:Hid (Below w.heap.size w w6/\Bx w6 g15 80 [.slice (some ⟨gn,0,none⟩) R R,.bool sa,.slice Aa na ca,.bool sb,.slice Ab nb cb]/\ZB w6 gn Kb (rw' R (ptn (fun a=>qbd C F G a l) R))/\Qv w6 sa Aa na ca sb Ab nb cb (qdc R C F G l)/\∃vs rows,RofA bs w6 w.heap.size (w.heap.size+1) gs H [.int .i64 (R:Int),.int .i64 (C:Int),.slice A n d] [.int .i64 (R:Int),.int .i64 (S:Int),.slice A' n' d'] R S vs K1 K2 (fun j=>if j<0 then rw' (C+l+1) (qwr R C F G j)else rw' (C+l) (qwr R C F G j)) (qmk R S (qbd C F G)) vt K3 (qcs R C l F G) R rows/\∀(j:Nat) (u:Value),rows[j]? =some u->u.ownBlock≠some gn):=Lib.hid ⟨B0,b15,hp.1,Zc.ct hp.2.2.1 hp.2.2.2.2.1,_,_,hr.cz fun j hj=>(if_neg (by omega)).symm,hvsz⟩;clear B4 B6 b15 hp hr B0 hvsz HRW b6 hM hgn hbw
     go_wp2_with fail
     go_loopw [82] (fun s82 wr=>∃e:Nat,s82= .int .i64 (e:Int)/\e<=R/\Hid (Below w.heap.size w wr/\Bx wr g15 80 [.slice (some ⟨gn,0,none⟩) R R,.bool sa,.slice Aa na ca,.bool sb,.slice Ab nb cb]/\ZB wr gn Kb (rw' R (ptn (fun a=>qbd C F G a l) R))/\Qv wr sa Aa na ca sb Ab nb cb (qdc R C F G l)/\∃vs rows,RofA bs wr w.heap.size (w.heap.size+1) gs H [.int .i64 (R:Int),.int .i64 (C:Int),.slice A n d] [.int .i64 (R:Int),.int .i64 (S:Int),.slice A' n' d'] R S vs K1 K2 (fun j=>if j<e then rw' (C+l+1) (qwr R C F G j)else rw' (C+l) (qwr R C F G j)) (qmk R S (qbd C F G)) vt K3 (qcs R C l F G) R rows/\∀(j:Nat) (u:Value),rows[j]? =some u->u.ownBlock≠some gn)) (fun s82 _=>R - (intOf s82).toNat)
     case atStart=>exact⟨0,rfl,Nat.zero_le _,H4⟩
     case round=>
      clear H4;obtain⟨e,rfl,he,HB⟩:=hrel;by_cases hel:e<R
      ·have u3:(e:Int)<(R:Int):=by omega
       obtain⟨B0,b15,hz,hct,vs,rows,hr,hnr⟩:=HB.out;clear HB;have hle:e<(rw' R (ptn (fun a=>qbd C F G a l) R)).length:=by rw[b_d];exact hel
       obtain⟨s1,A1,n1,c1,x1,x2,hzz,hk1⟩:=hz.cells hle;rw[c_6 hel]at hzz;have hgn:=hz.lt;have hl15:=b15.lt;clear hle;go_upto_region 21 with fail
       refine Run.start 5 ?_;refine .mv .o ?_;refine .two .o .o (opIxB hel) ?_;refine .ld (.i 1) (ldE (p:=⟨gn,e*2,none⟩) hgn x1 x2) ?_;refine .al ?_;refine .mv (.i 0) ?_;refine .donep [some 84,some 85,some 86,some 17,some 16] ?_;intro w9 B9;rintro g17 hg17 hl17 hc17 -;refine sh [_] ?_;simp only[Act.put,lS,lZ,lC];have b17:=zeroZ (T:=0) hc17;replace hzz:=hzz.below B9;clear x1 x2 hc17;obtain⟨w10,hw10⟩:∃x,zput w9 g17 s1 A1 n1 c1=x:=⟨_,rfl⟩;obtain⟨f1_,f2_,f3_,f4_,f5_⟩:=Ib.entry b17;have hgr_:=b_q w9 g17 s1 A1 n1 c1;have hno_:Wless w9 g17:=b17.now (by simp);rw[hw10]at hgr_;replace hzz:=hzz.gro hno_ hgr_;replace B9:=a_c B9 hgr_ hg17;replace b17:=b17.zp (s:=s1) (A:=A1) (n:=n1) (c:=c1);rw[hw10]at b17;have Hw10:=Lib.hid hw10;unfold zput at Hw10;clear hw10 hgr_ hno_;go_upto_region 22 with fail
       rw[Hw10.out];clear f1_ f2_ f3_ f4_ f5_ Hw10;obtain⟨v,hv,hov⟩:=hr.row e hel;rw[if_neg (Nat.lt_irrefl e)]at hov;obtain⟨Av,cv,rfl,-⟩:=hov.form hr.hb;obtain⟨nv,hnv⟩:∃nv,(rw' (C+l) (qwr R C F G e)).length=nv:=⟨_,rfl⟩;have hlen:(rw' (C+l) (qwr R C F G e)).length<=4096:=by rw[b_d];omega
       rw[hnv]at hv hov;try rw[hnv]
       clear hnv;replace hr:=hr.below B9;replace hov:=hov.below B9;replace hz:=hz.below B9;replace hct:=hct.below B9;replace b15:=b15.below B9;replace B0:=zup B0 B9;have hgo:=b17.lt;clear B9 hg17 hl17;have hd:=hr.hd;refine Run.start 8 ?_;refine .mv .o ?_;refine .mv .o ?_;refine .mv .o ?_;refine .mv .o ?_;refine .two (.i 2) (.i 3) (opIxS hel) ?_;refine .ld (.i 4) (ldSl hd e hv) ?_;refine .ld .o (ldZ b17 0) ?_;refine .bszk (.i 6) (Nat.le_refl _) ?_;refine .donef [0,1] [some 87,some 88,some 89,some 90,some 91,some 92,some 93,some 94] (y_w (f_5 (by kernel_rfl) rfl rfl) (f_5 (by kernel_rfl) rfl rfl)) ?_;intro w13 B13;rintro v ⟨gx,rfl,bg,hge⟩;refine sh [_,_,_] ?_;simp only[Act.put,lS,lZ,lC];replace hr:=hr.below B13;replace hov:=hov.below B13;replace hz:=hz.below B13;replace hct:=hct.below B13;replace b15:=b15.below B13;replace hzz:=hzz.below B13;replace B0:=zup B0 B13;clear B13 b17 hd
       go_wp2_with (at_builtin;refine m_7 rfl _ _ 25 rfl Tryz.underlying25 info_zint rfl hov hr.hb bg hzz (by omega:n1<=K1) rfl (by omega) ?_)
       intro v5 w14 ho hG;have hzq:ptn (fun a=>qbd C F G a l) R e=qwr R C F G e (C+l):=by unfold qwr;rw[if_neg (by omega),Nat.add_sub_cancel_left]
       rw[hzq,u_m]at ho;have hvb:∀g,(Value.slice Av nv cv).ownBlock=some g->bs<=g:=fun g hg=>(hov.lt hg).1;have hd':=hG.bx hr.hd (fun e=>by have:=hvb _ e;omega);have hno:=hr.growN hG hvb;have hgw:=hG.by'.size;have hgl:=hz.lt;obtain⟨A5,c5,rfl,-⟩:=ho.form (by have:=hr.hb;omega);obtain⟨nl,hnl⟩:∃nl,(rw' (C+l+1) (qwr R C F G e)).length=nl:=⟨_,rfl⟩;rw[hnl]at ho hG;try rw[hnl]
       have hr2:=hr.grow hel (Nat.le_refl R) hv hG ⟨_,_,_,rfl⟩ ho;have hgr:w14.grownBy (w14.setCell ⟨H,e,none⟩ (.slice A5 nl c5)) (some H):=a_d (q:=⟨H,e,none⟩) (a_m w14 (some H)) rfl _;have HN:Hid (Below w.heap.size w (w14.setCell ⟨H,e,none⟩ (.slice A5 nl c5))/\Bx (w14.setCell ⟨H,e,none⟩ (.slice A5 nl c5)) g15 80 [.slice (some ⟨gn,0,none⟩) R R,.bool sa,.slice Aa na ca,.bool sb,.slice Ab nb cb]/\ZB (w14.setCell ⟨H,e,none⟩ (.slice A5 nl c5)) gn Kb (rw' R (ptn (fun a=>qbd C F G a l) R))/\Qv (w14.setCell ⟨H,e,none⟩ (.slice A5 nl c5)) sa Aa na ca sb Ab nb cb (qdc R C F G l)/\∃vs rows,RofA bs (w14.setCell ⟨H,e,none⟩ (.slice A5 nl c5)) w.heap.size (w.heap.size+1) gs H [.int .i64 (R:Int),.int .i64 (C:Int),.slice A n d] [.int .i64 (R:Int),.int .i64 (S:Int),.slice A' n' d'] R S vs K1 K2 (fun j=>if j<(e+1)then rw' (C+l+1) (qwr R C F G j)else rw' (C+l) (qwr R C F G j)) (qmk R S (qbd C F G)) vt K3 (qcs R C l F G) R rows/\∀(j:Nat) (u:Value),rows[j]? =some u->u.ownBlock≠some gn):=Lib.hid ⟨a_c (l_e B0 hG fun g hg=>by have:=hvb g hg;omega) hgr (by omega),a_a (hG.bx b15 (hov.nbx b15 (by decide))) hgr (by omega),(hz.grew hG (hnr e _ hv)).gro (by omega) hno hgr,(hG.qv hct).gro hno hgr,_,_,hr2.cz fun j hj=>by
         by_cases h1:j=e
         ·subst h1;rw[if_pos rfl,if_pos (by omega)]
         ·rw[if_neg h1];by_cases h2:j<e
          ·rw[if_pos h2,if_pos (by omega)]
          ·rw[if_neg h2,if_neg (by omega)],fun j u hu h1=>by
         by_cases h2:j=e
         ·subst h2;rw[List.getElem?_set_self (by rw[hr.len];exact hel)]at hu;cases hu;rcases hG.to' with h3|h3
          ·rw[h3]at h1;exact hnr _ _ hv h1
          ·rw[h3]at h1;injection h1 with h1;omega
         ·rw[List.getElem?_set_ne (Ne.symm h2)]at hu;exact hnr j u hu h1⟩
       have i2:=(hd'.cell e).trans hv;have i2':=hd'.free e;have i3:=hd'.lt;clear b15 hz hct B0 bg hd' hr2 hr ho hG hgr hno hnl hvb hzz hov hv hnr hge hgo hl15 hgn hgl hgw hzq
       go_wp2_with fail
       go_roundw
       case rel=>exact⟨e+1,by go_num,by omega,HN⟩
       case measure=>first|(simp[intOf];done)|(simp[intOf];omega)
      ·obtain rfl:R=e:=by omega
       have u3:¬(R:Int)<(R:Int):=by omega
       obtain⟨B0,b15,-,hct,vs,rows,hr,-⟩:=HB.out;clear HB;go_upto_region 24 with fail
       refine Run.start 4 ?_;refine .mv .o ?_;refine .fa .o (fV1 1) ?_;refine .ld (.i 1) (ldQo b15 1) ?_;refine .bsk (.i 2) (Nat.le_refl _) ?_;refine .donep [some 98,some 99,some 100,some 101] ?_;intro w13 B13;rintro v ⟨gx,rfl,bg,hge⟩;refine sh [_,_] ?_;simp only[Act.put,lS,lZ,lC];replace hr:=hr.below B13;replace hct:=hct.below B13;replace B0:=zup B0 B13;clear B13 b15;have hyl:(qcs R C l F G).length<=4096:=by rw[k_y];omega
       go_wp2_with (at_builtin;refine f_9 (q:=false) rfl _ _ 22 rfl Tryz.underlying22 info_rat rfl hr.oc hr.hb bg ⟨hct,fun e=>nomatch e⟩ hz1 hz2 rfl (by omega) ?_)
       intro v5 w14 ho hG;have hr2:=hr.cont hG ho;rw[r_y]at hr2;have hvb:∀g,vt.ownBlock=some g->bs<=g:=fun g hg=>(hr.oc.lt hg).1;have HN:Hid (Below w.heap.size w w14/\∃vs rows,RofA bs w14 w.heap.size (w.heap.size+1) gs H [.int .i64 (R:Int),.int .i64 (C:Int),.slice A n d] [.int .i64 (R:Int),.int .i64 (S:Int),.slice A' n' d'] R S vs K1 K2 (fun j=>rw' (C+(l+1)) (qwr R C F G j)) (qmk R S (qbd C F G)) v5 K3 (qcs R C (l+1) F G) R rows):=Lib.hid ⟨l_e B0 hG fun g hg=>by have:=hvb g hg;omega,_,_,hr2.cz fun j hj=>by rw[if_pos hj];rfl⟩;clear hct B0 bg hr2 hr ho hG hvb hge
       go_wp2_with fail
       go_roundw
       case rel=>exact⟨l+1,_,by go_num,rfl,by omega,HN⟩
       case measure=>first|(simp[intOf];done)|(simp[intOf];omega)
    ·obtain rfl:S=l:=by omega
     have u2:¬(S:Int)<(S:Int):=by omega
     obtain⟨B0,vs,rows,hr⟩:=HB.out;clear HB;obtain⟨At,ct,rfl,hvt⟩:=hr.oc.form hr.hb;have hln:(qcs R C S F G).length=C+S:=k_y ..;have hbw:=hr.hb;obtain⟨nt,hnt⟩:∃nt,(qcs R C S F G).length=nt:=⟨_,rfl⟩;have HNT:=Lib.hid hnt;have HR:=Lib.hid hr;have HVT:=Lib.hid hvt;have HB0:=Lib.hid B0;have hH:=hr.hd.lt;have h2l:=hr.ba.lt;rw[hnt];clear hnt hr hvt B0 hln
     go_wp2_with fail
     refine(eof_q (H:=H) (r:=R)).mono ?_;rintro e w8 ⟨v,rfl,⟨sa,A5,n5,c5,rfl,hz,hn⟩,B8⟩;have hg8:=B8.size;have BA:=zba w8 (.cells #[.slice (some ⟨H,0,none⟩) R R,.slice none 0 0,.bool sa,.slice A5 n5 c5,.bool false,.slice At nt ct] 154);have bnew:=Bx.new w8 154 [.slice (some ⟨H,0,none⟩) R R,.slice none 0 0,.bool sa,.slice A5 n5 c5,.bool false,.slice At nt ct];obtain⟨w9,hw9⟩:∃w9,w8.alloc (.cells #[.slice (some ⟨H,0,none⟩) R R,.slice none 0 0,.bool sa,.slice A5 n5 c5,.bool false,.slice At nt ct] 154)=w9:=⟨_,rfl⟩;obtain⟨g,hg⟩:∃g,w8.heap.size=g:=⟨_,rfl⟩;have BB:=zup B8 BA;change Bx (w8.alloc (.cells #[.slice (some ⟨H,0,none⟩) R R,.slice none 0 0,.bool sa,.slice A5 n5 c5,.bool false,.slice At nt ct] 154)) _ _ _ at bnew;rw[hw9]at BA BB bnew;rw[hg]at bnew;have hr:=HR.out.below BB;have HRs:Hid (RsAt (qmX At ct K3 (qcs R C S F G)) w.heap.size w9 g R (C+S) K1 0 (qwr R C F G)):=Lib.hid ⟨false,_,[],_,1,DT.Red.start R (C+S) _,H,_,sa,A5,n5,c5,rows,by
      rw[List.length_nil,p_j];exact {
       bx:=by
        have e:=HNT.out;show Bx w9 g 154 [.slice (some ⟨H,0,none⟩) R R,.slice none 0 0,.bool sa,.slice A5 n5 c5,.bool false,.slice At (qcs R C S F G).length ct]
        rw[e];exact bnew
       hd:=hr.hd
       len:=hr.len
       ne:=by omega
       bg:=by omega
       bh:=by omega
       own:=OwnI.nil _ _ _
       pg:=by simp[Value.ownBlock]
       ph:=by simp[Value.ownBlock]
       az:=hz.below BA
       an:=by omega
       row:=fun a ha=>by
        obtain⟨v,h1,h2⟩:=HR.out.row a ha;obtain⟨A6,c6,rfl,h3⟩:=h2.form hbw;refine⟨_,h1,A6,c6,by rw[b_d],by have:=(h3 true).below BB;rwa [b_d]at this,fun h0 ad e hm=>?_⟩;subst e;have h4:=h2.lt (g:=ad.block) (by simp[Value.ownBlock]);simp[blkOf,Value.ownBlock]at hm;omega
       ct:=⟨HVT.out.below BB,fun h0 ad e hm=>by
        subst e;have h4:=HR.out.oc.lt (g:=ad.block) (by simp[Value.ownBlock]);simp[blkOf,Value.ownBlock]at hm;omega⟩ }⟩
     have HB1:Hid (Below w.heap.size w w9):=Lib.hid (zup HB0.out BB);have b2:=hr.ba;have hgl:=bnew.lt;clear hr BA BB hz hn B8 HR HVT HB0 bnew;go_upto_region 27 with fail
     have Hw9:=Lib.hid hw9;have Hg:=Lib.hid hg;clear hw9 hg;refine Run.start 5 ?_;refine .mv .o ?_;refine .nc (.i 0) ?_;refine .fa (.i 1) (fW0 0) ?_;refine .fa .o (fQ1 1) ?_;refine .ld (.i 3) (ldInt b2 1) ?_;refine .done [some 109,some 110,some 111,some 112,some 113] ?_;intro w10 B10;refine sh [_] ?_;simp only[Act.put,lS,lZ,lC];have HS:Hid (RsAt (qmX At ct K3 (qcs R C S F G)) w.heap.size w10 g R (C+S) K1 0 (qwr R C F G)):=Lib.hid (HRs.out.below B10);have B11:=zup HB1.out B10;have HB2:=Lib.hid B11;have hsz:=B11.size;clear B11 b2 B10 HB1 HRs
     go_wp2_with fail
     refine(r_m HS.out (Nat.le_add_right C S) hsz (by omega) (by omega) HK.out).mono ?_;rintro e w12 ⟨rfl,B12,hrs⟩;have P:Hid (RqPost w R C S K1 K3 F G (.returned (.pointer (some ⟨g,0,none⟩))) w12):=Lib.hid ⟨g,At,ct,rfl,HB2.out.trans B12,hrs⟩;clear HS B12 hrs HB2
     go_wp2_with fail
     exact bodyPost_ret (v:=.pointer (some ⟨g,0,none⟩)) (by simp[results,Tryz.results135,go_sem]) rfl P.out
end
section
open Go.RowKit
def noDefer (ops:Array Oper):Bool:=ops.toList.all fun o=>match o.op with| .defer _=>false|_=>true
theorem n_r {ops:Array Oper}(h:noDefer ops=true){i:Nat}{o:Oper}(ho:ops[i]? =some o):∀c,o.op≠ .defer c:=fun c e=>by
 unfold noDefer at h;rw[List.all_eq_true]at h;have hm:o∈ops.toList:=by
  obtain⟨hi,rfl⟩:=Array.getElem?_eq_some_iff.1 ho;simp
 have:=h o hm;rw[e]at this;cases this
theorem j_j {n:Nat}{P:Program}{row:String}{args:Array Value}{w:World}{R:Value->World->Prop}(h:Rows P row args w R):RowsIn Fence.wide n P row args w R:=fun c cs _=>
 let⟨v,w',r,s⟩:=h c cs;⟨v,w',r,stepsIn_wide.2 s⟩
theorem v_t {l n:Nat}{P:Program}{o:Oper}{a:Act}{w:World}{K Q}(hd:∀c,o.op≠ .defer c)(h:o.wp P a w K Q):o.wpIn (Fence.wide.inRound l) n P a w K Q:=by
 unfold Oper.wp at h;unfold Oper.wpIn;refine⟨fun _ _=>trivial, ?_⟩;rw[Oper.semAt_eq _ _ _ hd];generalize(execOp a.eval o).run P w=r at h;cases r with
 |ok x w'=>
  cases x with
  |value v=>exact h
  |skip=>exact h
  |defer d=>exact h
  |enter f args=>exact⟨fun e=>(nomatch e),CallsIn.inRound l (callsIn_wide.2 h)⟩
  |row row args=>exact⟨fun e=>(nomatch e),j_j h⟩
  |_=>exact h.elim
 |halt x w'=>
  cases x with
  |panic v=>exact h
  |_=>exact h.elim
section
variable {P:Program}{ops:Array Oper}{Q:Exit->Act->World->Prop}
end
end
end Go.Proofs.YtfhbdlegkdbmfaaGreat
