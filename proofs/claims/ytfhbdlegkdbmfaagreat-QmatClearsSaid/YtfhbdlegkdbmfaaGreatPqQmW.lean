/-
  Package qmat: Clear.
-/
import Derived.Test.YtfhbdlegkdbmfaaGreatPqX01
import Derived.RegionTactic
import Derived.BigRegion
set_option linter.unusedVariables false
set_option linter.unusedSimpArgs false
set_option linter.unusedSectionVars false
set_option maxRecDepth 100000
set_option maxHeartbeats 8000000
namespace Go.Proofs.YtfhbdlegkdbmfaaGreat
open Go.RowKit Go.Shelf
theorem v_d (l:List Rat):qrw l.length (rth l)=l:=by
 apply List.ext_getElem
 ·simp[qrw]
 ·intro i h1 h2;simp[qrw,rth,List.getD,h2]
theorem x_p {n j:Nat}{f:Nat->Int}{x:Int}:(rw' n f).set j x=rw' n fun i=>if i=j then x else f i:=by
 apply List.ext_getElem
 ·simp[rw']
 ·intro i h1 h2;by_cases e:j=i
  ·subst e;simp[rw']
  ·rw[List.getElem_set_ne e];simp[rw',Ne.symm e]
def clr (f:Nat->Rat)(n i:Nat):Nat->Int:=fun j=>if j<i then ptn f n j*(abx f n:Int)else ptn f n j
theorem s_7 (f:Nat->Rat)(n:Nat):rw' n (clr f n 0)=rw' n (ptn f n):=f_y fun j _=>by unfold clr;rw[if_neg (by omega)]
theorem s_8 {f:Nat->Rat}{n i:Nat}:(rw' n (clr f n i)).set i (ptn f n i*(abx f n:Int))=rw' n (clr f n (i+1)):=by
 rw[x_p];refine f_y fun j _=>?_;unfold clr;by_cases e:j=i
 ·subst e;rw[if_pos rfl,if_pos (by omega)]
 ·rw[if_neg e];by_cases h:j<i
  ·rw[if_pos h,if_pos (by omega)]
  ·rw[if_neg h,if_neg (by omega)]
theorem y_9 {f:Nat->Rat}{n i:Nat}(h:i<n):ith (rw' n (clr f n i)) i=ptn f n i:=by rw[c_6 h];unfold clr;rw[if_neg (by omega)]
theorem y_8 {f:Nat->Rat}{r c n:Nat}(h:n=r*c):rw' n (clr f n n)=mk r c fun i j=>ptn f n (i*c+j)*(abx f n:Int):=by
 subst h;exact(y_i (zs:=rw' (r*c) (clr f (r*c) (r*c))) (by rw[b_d])).symm.trans<|s_f fun i j hi hj=>by
  have hl:i*c+j<r*c:=by
   have:(i+1)*c<=r*c:=Nat.mul_le_mul_right c hi;rw[Nat.succ_mul]at this;omega
  rw[c_6 hl];unfold clr;rw[if_pos hl]
theorem n_o {q:Bool}{r c n d k K kc:Nat}{A:Option Addr}{F:Nat->Nat->Rat}{w:World}(h:Mq q w r c A n d k F)(hk0:1<=k)(hkc:pc n k=kc)(hkp:pk n k=K)(hK:K+kc<=1073741824):Calls Tryz.prog 13 #[.agg #[.int .i64 (r:Int),.int .i64 (c:Int),.slice A n d]] w (RetK (kT3 (kM true r c (K+kc) fun i j=>ptn (rth (qmk r c F)) n (i*c+j)*(abx (rth (qmk r c F)) n:Int)) (kC (blw (rth (qmk r c F)) n:Int) kc) (.k (.int .i64 0))) w):=by
 have h1:=h.fmd;have hn:=h.len;have hr:=h.hr;have hc:=h.hc;have hbig:n<=4096:=by rw[hn];exact h.big
 have hq:=h.ql;rw[<-v_d (qmk r c F),b_f,<-hn]at hq;obtain⟨f,hf⟩:∃f,rth (qmk r c F)=f:=⟨_,rfl⟩;rw[hf]at hq ⊢;have HQ:=Lib.hid hq;clear hf hq h;obtain⟨w1,hw1,b1,b2,b3,z1,s1⟩:=boxes3 w 24 27 31 [.int .i64 (r:Int),.int .i64 (c:Int),.slice A n d] [.int .i64 0,.int .i64 0,.slice none 0 0] [.bool false,.slice none 0 0];have HW:=Lib.hid hw1;have HZ:=Lib.hid z1;have h1_:=Lib.hid h1;have hkc_:=Lib.hid hkc;have hkp_:=Lib.hid hkp;have hn_:=Lib.hid hn;clear hw1 z1 h1 hkc hkp hn s1;go_enter Tryz.func13,Tryz.ntmps13
 go_upto_region 1 with fail
 rw[HW.out];refine Run.start 3 ?_;refine .ld .o (ldQm b1 0) ?_;refine .c1 (.i 0) (x:=.k (.bool true)) (by rintro u w2 hB rfl;exact b_g h1_.out w2) ?_;refine .nt (.i 1) ?_;refine .donep [some 8,some 9,some 10] ?_;intro w2 B2;refine sh [] ?_;simp only[Act.put,lS,lZ,lC];have B0:=zup HZ.out B2;replace b1:=b1.below B2;replace b2:=b2.below B2;replace b3:=b3.below B2;have hs2:=B0.size;clear B2 HZ;go_upto_region 3 with fail
 refine Run.start 4 ?_;refine .fa .o (fQ2 2) ?_;refine .ld (.i 0) (ldQl b1 2) ?_;refine .c1 (.i 1) (x:=kPt w2.heap.size n K kc f) (by rintro u w4 hB rfl;exact j_v (HQ.out.below (zup B0 hB)) hbig hk0 hkp_.out hkc_.out (by omega) hB.size) ?_;refine .al ?_;refine .donep [some 13,some 14,some 15,some 5] ?_;intro w3 B3;rintro v ⟨gn,sa,Aa,na,ca,sb,Ab,nb,cb,rfl,hp⟩;rintro g5 hg5 hl5 hc5 -;refine sh [_] ?_;simp only[Act.put,lS,lZ,lC];have b5:=zeroPt hc5;have hgn:=hp.2.1;have hne:g5≠gn:=fun e=>by
  obtain⟨cs,hcs,-⟩:=hp.1;rw[<-e]at hcs;rw[b5]at hcs;cases hcs
 have l_b1:=b1.lt;replace b1:=b1.below B3;have l_b2:=b2.lt;replace b2:=b2.below B3;have l_b3:=b3.lt;replace b3:=b3.below B3;replace B0:=zup B0 B3;obtain⟨w4,hw4⟩:∃x,pput w3 g5 (.slice (some ⟨gn,0,none⟩) n n) (.bool sa) (.slice Aa na ca) (.bool sb) (.slice Ab nb cb)=x:=⟨_,rfl⟩;have hgr:=e_s w3 g5 (.slice (some ⟨gn,0,none⟩) n n) (.bool sa) (.slice Aa na ca) (.bool sb) (.slice Ab nb cb);have hno:=b5.now (by simp);replace hp:=hp.gro (Ne.symm hne) hno hgr;replace b1:=a_a b1 hgr (by omega);replace b2:=a_a b2 hgr (by omega);replace b3:=a_a b3 hgr (by omega);replace B0:=a_c B0 hgr (by omega);obtain⟨f0_,f1_,f2_,f3_,f4_,f5_,f6_,f7_,f8_,f9_,f10_⟩:=b5.m5;replace b5:=b5.pp (v0:=.slice (some ⟨gn,0,none⟩) n n) (v1:=.bool sa) (v2:=.slice Aa na ca) (v3:=.bool sb) (v4:=.slice Ab nb cb);rw[hw4]at hp b1 b2 b3 B0 b5;have Hw4:=Lib.hid hw4;unfold pput at Hw4;obtain⟨hz,-,ha,hna,hbl,hnb⟩:=hp;have HWD:Hid (∀j,j<n->(cn 18446744073709551616 (ptn f n j).natAbs).length<=K):=Lib.hid fun j hj=>by
  obtain⟨s1,A1,n1,c1,-,-,hx1,hk1⟩:=hz.cells (j:=j) (by rw[b_d];exact hj);rw[c_6 hj]at hx1;rw[hx1.1.2.1];exact hk1
 replace hz:=hz.mono (show K<=K+kc by omega);rw[<-s_7]at hz;clear hw4 hgr hno hc5 B3;go_upto_region 4 with fail
 rw[Hw4.out];clear f0_ f1_ f2_ f3_ f4_ f5_ f6_ f7_ f8_ f9_ f10_ Hw4;refine Run.start 4 ?_;refine .fa .o (fV0 0) ?_;refine .ld (.i 0) (ldSl b5 0) ?_;refine .len (.i 1) Tryz.underlying25 ?_;refine .mv .o ?_;refine .donep [some 16,some 17,some 18,some 19] ?_;intro w5 B5;refine sh [] ?_;simp only[Act.put,lS,lZ,lC];have H0:Hid (Below w.heap.size w w5/\Bx w5 w.heap.size 24 [.int .i64 (r:Int),.int .i64 (c:Int),.slice A n d]/\Bx w5 (w.heap.size+1) 27 [.int .i64 0,.int .i64 0,.slice none 0 0]/\Bx w5 (w.heap.size+1+1) 31 [.bool false,.slice none 0 0]/\Bx w5 g5 80 [.slice (some ⟨gn,0,none⟩) n n,.bool sa,.slice Aa na ca,.bool sb,.slice Ab nb cb]/\ZB w5 gn (K+kc) (rw' n (clr f n 0))/\Zc w5 sa Aa na ca (abx f n:Int)/\Zc w5 sb Ab nb cb (blw f n:Int)):=Lib.hid ⟨zup B0 B5,b1.below B5,b2.below B5,b3.below B5,b5.below B5,hz.below B5,ha.below B5,hbl.below B5⟩;have hgnw:w.heap.size+1+1+1<=gn:=by omega
 have hg5w:w.heap.size+1+1+1<=g5:=by omega
 clear B0 b1 b2 b3 b5 hz ha hbl B5 hgn l_b1 l_b2 l_b3
 go_wp2_with fail
 go_loopw [19] (fun s19 wr=>∃j:Nat,s19= .int .i64 (j:Int)/\j<=n/\Hid (Below w.heap.size w wr/\Bx wr w.heap.size 24 [.int .i64 (r:Int),.int .i64 (c:Int),.slice A n d]/\Bx wr (w.heap.size+1) 27 [.int .i64 0,.int .i64 0,.slice none 0 0]/\Bx wr (w.heap.size+1+1) 31 [.bool false,.slice none 0 0]/\Bx wr g5 80 [.slice (some ⟨gn,0,none⟩) n n,.bool sa,.slice Aa na ca,.bool sb,.slice Ab nb cb]/\ZB wr gn (K+kc) (rw' n (clr f n j))/\Zc wr sa Aa na ca (abx f n:Int)/\Zc wr sb Ab nb cb (blw f n:Int))) (fun s19 _=>n - (intOf s19).toNat)
 case atStart=>exact⟨0,rfl,Nat.zero_le _,H0⟩
 case round=>
  clear H0;obtain⟨j,rfl,hj,HB⟩:=hrel;by_cases hlt:j<n
  ·have u1:(j:Int)<(n:Int):=by omega
   obtain⟨B0,b1,b2,b3,b5,hz,ha,hbl⟩:=HB.out;clear HB;have hjl:j<(rw' n (clr f n j)).length:=by rw[b_d];exact hlt
   obtain⟨s_,A_,n_,c_,x1,x2,hx,hk1⟩:=hz.cells hjl;rw[y_9 hlt]at hx;have hkK:n_<=K:=by rw[<-hx.1.2.1];exact HWD.out j hlt
   have hgl:=hz.lt;have hl1:=b1.lt;have hl5:=b5.lt;go_upto_region 6 with fail
   refine Run.start 5 ?_;refine .mv .o ?_;refine .two .o .o (opIxB hlt) ?_;refine .ld (.i 1) (ldE (p:=⟨gn,j*2,none⟩) hgl x1 x2) ?_;refine .al ?_;refine .mv (.i 0) ?_;refine .donep [some 21,some 22,some 23,some 7,some 6] ?_;intro w6 B6;rintro g7 hg7 hl7 hc7 -;refine sh [_] ?_;simp only[Act.put,lS,lZ,lC];have b7:=zeroZ (T:=0) hc7;have l_b2:=b2.lt;have l_b3:=b3.lt;have neg:gn≠g7:=by omega
   replace B0:=zup B0 B6;replace b1:=b1.below B6;replace b2:=b2.below B6;replace b3:=b3.below B6;replace b5:=b5.below B6;replace hz:=hz.below B6;replace hx:=hx.below B6;replace ha:=ha.below B6;replace hbl:=hbl.below B6;clear hc7 B6 x1 x2;obtain⟨w7,hw7⟩:∃x,zput w6 g7 s_ A_ n_ c_=x:=⟨_,rfl⟩;obtain⟨f1_,f2_,f3_,f4_,f5_⟩:=Ib.entry b7;have hgr_:=b_q w6 g7 s_ A_ n_ c_;have hno_:Wless w6 g7:=b7.now (by simp);rw[hw7]at hgr_;replace b1:=a_a b1 hgr_ (by omega);replace b2:=a_a b2 hgr_ (by omega);replace b3:=a_a b3 hgr_ (by omega);replace b5:=a_a b5 hgr_ (by omega);replace hx:=hx.gro hno_ hgr_;replace ha:=ha.gro hno_ hgr_;replace hbl:=hbl.gro hno_ hgr_;replace hz:=hz.gro neg hno_ hgr_;replace B0:=a_c B0 hgr_ (by omega);replace b7:=b7.zp (s:=s_) (A:=A_) (n:=n_) (c:=c_);rw[hw7]at b7;have Hw7:=Lib.hid hw7;unfold zput at Hw7;clear hw7 hgr_ hno_;go_upto_region 7 with fail
   rw[Hw7.out];clear f1_ f2_ f3_ f4_ f5_ Hw7;refine Run.start 9 ?_;refine .fa .o (fV0 0) ?_;refine .ld (.i 0) (ldSl b5 0) ?_;refine .mv .o ?_;refine .ld .o (ldZ b7 0) ?_;refine .fa .o (fV1 1) ?_;refine .fa (.i 4) (fR0 1) ?_;refine .ld (.i 5) (ldZ b5 1) ?_;refine .c2 (.i 3) (.i 6) (x:=kC (ptn f n j*(abx f n:Int)) (K+kc)) (by rintro u v w12 hB rfl rfl;exact b_u ⟨_,_,_,_,rfl,(hx.below hB).zv,hkK⟩ ⟨_,_,_,_,rfl,(ha.below hB).zv,hna⟩ (by omega) (by omega) (by omega)) ?_;refine .two (.i 1) (.i 2) (opIxB hlt) ?_;refine .done [some 24,some 25,some 26,some 27,some 28,some 29,some 30,some 31,some 32] ?_;intro w8 B8;rintro v ⟨s4,A4,n4,c4,rfl,hx3,hk7⟩;refine sh [_] ?_;simp only[Act.put,lS,lZ,lC];replace B0:=zup B0 B8;replace b1:=b1.below B8;replace b2:=b2.below B8;replace b3:=b3.below B8;replace b5:=b5.below B8;replace hz:=hz.below B8;replace ha:=ha.below B8;replace hbl:=hbl.below B8;obtain⟨o1,o2,o3,o4,x1,x2,-,-⟩:=hz.cells hjl;have y1:=hz.free (j*2);have y2:=hz.free (j*2+1);have hs:=hz.put hjl hx3 hk7;rw[s_8]at hs;have hgr:=c_2 w8 gn (j*2) s4 A4 n4 c4;have hno:=hz.now;have HN:Hid (Below w.heap.size w (zputo w8 gn (j*2) s4 A4 n4 c4)/\Bx (zputo w8 gn (j*2) s4 A4 n4 c4) w.heap.size 24 [.int .i64 (r:Int),.int .i64 (c:Int),.slice A n d]/\Bx (zputo w8 gn (j*2) s4 A4 n4 c4) (w.heap.size+1) 27 [.int .i64 0,.int .i64 0,.slice none 0 0]/\Bx (zputo w8 gn (j*2) s4 A4 n4 c4) (w.heap.size+1+1) 31 [.bool false,.slice none 0 0]/\Bx (zputo w8 gn (j*2) s4 A4 n4 c4) g5 80 [.slice (some ⟨gn,0,none⟩) n n,.bool sa,.slice Aa na ca,.bool sb,.slice Ab nb cb]/\ZB (zputo w8 gn (j*2) s4 A4 n4 c4) gn (K+kc) (rw' n (clr f n (j+1)))/\Zc (zputo w8 gn (j*2) s4 A4 n4 c4) sa Aa na ca (abx f n:Int)/\Zc (zputo w8 gn (j*2) s4 A4 n4 c4) sb Ab nb cb (blw f n:Int)):=Lib.hid ⟨a_c B0 hgr (by omega),a_a b1 hgr (by omega),a_a b2 hgr (by omega),a_a b3 hgr (by omega),a_a b5 hgr hne,hs,ha.gro hno hgr,hbl.gro hno hgr⟩;unfold zputo at HN;clear hs hz b1 b2 b3 b5 b7 hx hx3 ha hbl B0 B8 hgr hno
   go_wp2_with fail
   go_roundw
   case rel=>exact⟨j+1,by go_num,by omega,HN⟩
   case measure=>first|(simp[intOf];done)|(simp[intOf];omega)
  ·obtain rfl:j=n:=by omega
   have u1:¬(j:Int)<(j:Int):=by omega
   obtain⟨B0,b1,b2,b3,b5,hz,ha,hbl⟩:=HB.out;rw[y_8 hn_.out]at hz;obtain⟨i0,i1,i2,i3,i4,i5,i6⟩:=b2.m3;obtain⟨j1,j2,j3,j4,j5⟩:=Ib.entry b3;obtain⟨k0,k1,k2,-,-,-,k6⟩:=b1.m3;obtain⟨p0,p1,p2,p3,p4,-,-,-,-,-,p10⟩:=b5.m5;have P:Hid (∀W,Below wr.heap.size wr W->RetK (kT3 (kM true r c (K+kc) fun i t=>ptn f j (i*c+t)*(abx f j:Int)) (kC (blw f j:Int) kc) (.k (.int .i64 0))) w (.returned (.tuple #[.agg #[.int .i64 (r:Int),.int .i64 (c:Int),.slice (some ⟨gn,0,none⟩) j j],.agg #[.bool sb,.slice Ab nb cb],.int .i64 0])) (zput (mput W (w.heap.size+1) (r:Int) (c:Int) (some ⟨gn,0,none⟩) j j) (w.heap.size+1+1) sb Ab nb cb)):=Lib.hid fun W hW=>by
    have g1:=a_h W (w.heap.size+1) (r:Int) (c:Int) (some ⟨gn,0,none⟩) j j;have n1:Wless W (w.heap.size+1):=(b2.below hW).now (by simp);have b3':=a_a (b3.below hW) g1 (by omega);have g2:=b_q (mput W (w.heap.size+1) (r:Int) (c:Int) (some ⟨gn,0,none⟩) j j) (w.heap.size+1+1) sb Ab nb cb;have n2:=b3'.now (by simp);have hz':=((hz.below hW).gro (by omega) n1 g1).gro (by omega) n2 g2;have e:=hn_.out;refine⟨_,rfl,⟨_,_,_,rfl,⟨_,_,_,rfl,⟨?_,hr,hc⟩⟩,⟨_,_,_,_,rfl,((hbl.below hW).gro n1 g1).gro n2 g2,hnb⟩,rfl⟩,a_c (a_c (zup B0 hW) g1 (by omega)) g2 (by omega)⟩;have h3:=hz'.zl0 true (n:=j) (c:=j) (by rw[d_q];omega) (Nat.le_refl _) (by omega);rw[List.take_of_length_le (by rw[d_q];omega)]at h3;exact h3
   unfold mput zput at P;clear HB b1 b2 b3 b5 hz ha hbl B0
   go_wp2_with fail
   go_region
   all_goals
    go_wp2_with fail
    exact bodyPost_ret (v:=.tuple #[.agg #[.int .i64 (r:Int),.int .i64 (c:Int),.slice (some ⟨gn,0,none⟩) j j],.agg #[.bool sb,.slice Ab nb cb],.int .i64 0]) (by simp[results,Tryz.results13,go_sem,i0,i1,i2,j1,j2]) rfl (P.out _ (a_l _))
theorem o_9 {r c:Int}{n d:Nat}{A:Option Addr}{w:World}(h1:fmd r c n=false):Calls Tryz.prog 13 #[.agg #[.int .i64 r,.int .i64 c,.slice A n d]] w (RetK (kT3 (.k (.agg #[.int .i64 0,.int .i64 0,.slice none 0 0])) (.k (.agg #[.bool false,.slice none 0 0])) (.k (.int .i64 2))) w):=by
 obtain⟨w1,hw1,b1,b2,b3,z1,s1⟩:=boxes3 w 24 27 31 [.int .i64 r,.int .i64 c,.slice A n d] [.int .i64 0,.int .i64 0,.slice none 0 0] [.bool false,.slice none 0 0];have HW:=Lib.hid hw1;have HZ:=Lib.hid z1;have h1_:=Lib.hid h1;clear hw1 z1 h1 s1;go_enter Tryz.func13,Tryz.ntmps13
 go_upto_region 1 with fail
 rw[HW.out];refine Run.start 3 ?_;refine .ld .o (ldQm b1 0) ?_;refine .c1 (.i 0) (x:=.k (.bool false)) (by rintro u w2 hB rfl;exact b_g h1_.out w2) ?_;refine .nf (.i 1) ?_;refine .donep [some 8,some 9,some 10] ?_;intro w2 B2;refine sh [] ?_;simp only[Act.put,lS,lZ,lC];have B0:=zup HZ.out B2;obtain⟨i0,i1,i2,i3,i4,i5,i6⟩:=(b2.below B2).m3;obtain⟨j1,j2,j3,j4,j5⟩:=Ib.entry (b3.below B2);have P:Hid (RetK (kT3 (.k (.agg #[.int .i64 0,.int .i64 0,.slice none 0 0])) (.k (.agg #[.bool false,.slice none 0 0])) (.k (.int .i64 2))) w (.returned (.tuple #[.agg #[.int .i64 0,.int .i64 0,.slice none 0 0],.agg #[.bool false,.slice none 0 0],.int .i64 2])) (zput (mput w2 (w.heap.size+1) 0 0 none 0 0) (w.heap.size+1+1) false none 0 0)):=Lib.hid ⟨_,rfl,⟨_,_,_,rfl,rfl,rfl,rfl⟩,a_c (a_c B0 (a_h _ _ _ _ _ _ _) (by omega)) (b_q _ _ _ _ _ _) (by omega)⟩;unfold mput zput at P
 go_wp2_with fail
 exact bodyPost_ret (v:=.tuple #[.agg #[.int .i64 0,.int .i64 0,.slice none 0 0],.agg #[.bool false,.slice none 0 0],.int .i64 2]) (by simp[results,Tryz.results13,go_sem,i0,i1,i2,j1,j2]) rfl P.out
end Go.Proofs.YtfhbdlegkdbmfaaGreat
