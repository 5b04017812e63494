/- Pb29 -/
import Derived.Test.YtlgjjnmmepgafaaPb27
import Derived.Test.YtlgjjnmmepgafaaPb28
set_option linter.unusedVariables false
set_option linter.unusedSimpArgs false
set_option linter.unusedSectionVars false
set_option maxRecDepth 100000
set_option maxHeartbeats 8000000
namespace Go.Proofs.Ytlgjjnmmepgafaa
open Go.RowKit
theorem ZPowPost.q {z:Int}{k k':Nat}{w w':World}{e:Ending}(h:ZPowPost z k w e w')(hk:k<=k'):RetK (kT (kC z k') (.k (.bool true))) w e w':=by
 obtain⟨s,A,n,c,e,h1,h2,h3⟩:=h;exact⟨_,e,⟨_,_,rfl,⟨s,A,n,c,rfl,h1,by omega⟩,rfl⟩,h3⟩
theorem l_l {u v:Value}{x y q:Int}{n m k:Nat}{w:World}(hx:IsV x n u w)(hy:IsV y m v w)(hn:n<=549755813888)(hm:m<=549755813888)(h0:y≠0)(hq:q*y=x)(hk:n<=k):Calls Try.prog 99 #[u,v] w (RetK (kT (kC q k) (.k (.bool true))) w):=by
 obtain⟨s,A,a,c,rfl,h1,h2⟩:=hx;obtain⟨s',A',a',c',rfl,h1',h2'⟩:=hy;exact(i_w h1 h1' (by omega) (by omega) h0 hq).mono fun e w' h=>h.q (by omega)
theorem opNeB {x y b:Bool}{U:TypeId}{X Y:Operand}(h:(x != y)=b)(w:World):RunTwo Try.prog (.binOp .neq 4 X Y U) w (.bool x) (.bool y) (.bool b):=by unfold RunTwo;subst h;cases x<;>cases y<;>(simp[go_sem];try kernel_rfl)
theorem Zv.turn {w:World}{s:Bool}{A:Option Addr}{n c:Nat}{z:Int}(h:Zv w s A n c z)(t:Bool):Zv w (s != t) A n c (if t then -z else z):=by
 obtain⟨v,h1,h2⟩:=h;refine⟨v,h1,Lib.hid ?_⟩;rw[h2.out];cases s<;>cases t<;>simp[sg]
theorem l_o {s t:Bool}{A:Option Addr}{n c k:Nat}{z:Int}{w:World}(hz:Zv w s A n c z)(hn:n<=k)(hk:k<=1099511627776):Calls Try.prog 60 #[.agg #[.bool s,.slice A n c],.bool t] w (RetK (kC (if t then -z else z) k) w):=by
 obtain⟨z',hz'⟩:∃z',(if t then -z else z)=z':=⟨_,rfl⟩;have ht:Zv w (s != t) A n c z':=by rw[<-hz'];exact hz.turn t
 rw[hz'];clear hz' hz;obtain⟨x,hx⟩:∃x,(s != t)=x:=⟨_,rfl⟩;rw[hx]at ht;obtain⟨w1,hw1,b2,b4,z1,s1⟩:=boxes2 w 30 30 [.bool s,.slice A n c] [.bool false,.slice none 0 0];have HW:=Lib.hid hw1;have HZ:=Lib.hid z1;have hx_:=Lib.hid hx;clear hw1 z1 hx s1;go_enter Try.func60,Try.ntmps60
 go_upto_region 1 with fail
 rw[HW.out];refine Run.start 7 ?_;refine .fa .o (fZ1 1) ?_;refine .ld (.i 0) (ldNat b2 1) ?_;refine .fa .o (fZ0 0) ?_;refine .ld (.i 2) (ldBool b2 0) ?_;refine .mv .o ?_;refine .two (.i 3) (.i 4) (opNeB hx_.out) ?_;refine .c2 (.i 1) (.i 5) (x:=kC z' k) (by rintro u v w2 hB rfl rfl;exact j_h (ht.below (zup HZ.out hB)) hn hk) ?_;refine .donep [some 5,some 6,some 7,some 8,some 9,some 10,some 11] ?_;intro w2 B2;rintro v ⟨s_,A_,n_,c_,rfl,hz,hk_⟩;refine sh [_] ?_;simp only[Act.put,lS,lZ,lC];have I:=Ib.entry (b4.below B2);have P:=Lib.hid (retC hz I (k:=k) (by omega) (by omega) (zup HZ.out B2));obtain⟨i1,i2,i3,i4,i5⟩:=I;clear hz
 go_wp2_with fail
 exact bodyPost_ret (v:=.agg #[.bool s_,.slice A_ n_ c_]) (by simp[results,Try.results60,go_sem,i1,i2]) rfl P.out
theorem sq_q {r c:Int}{A:Option Addr}{n d:Nat}{b:Bool}(hb:(fmd r c n&&decide (r=c))=b)(w:World):Calls Try.prog 30 #[.agg #[.int .i64 r,.int .i64 c,.slice A n d]] w (RetK (.k (.bool b)) w):=by
 obtain⟨t1,h1⟩:∃t,fmd r c n=t:=⟨_,rfl⟩;obtain⟨t2,h2⟩:∃t,decide (r=c)=t:=⟨_,rfl⟩;have hb':b=(t1&&t2):=by rw[<-hb,h1,h2]
 have hbb:=Lib.hid hb';obtain⟨w1,hw1,b1,z1,s1⟩:=boxes1 w 24 [.int .i64 r,.int .i64 c,.slice A n d];have HW:=Lib.hid hw1;have HZ:=Lib.hid z1;have h1_:=Lib.hid h1;have h2_:=Lib.hid h2;clear hw1 z1 h1 h2 s1 hb hb';go_enter Try.func30,Try.ntmps30
 go_upto_region 1 with fail
 rw[HW.out];cases t1
 ·refine Run.start 10 ?_;refine .ld .o (ldM b1 0) ?_;refine .c1 (.i 0) (x:=.k (.bool false)) (by rintro u w2 hB rfl;exact b_c h1_.out w2) ?_;refine .mv (.i 1) ?_;refine .no ?_;refine .no ?_;refine .no ?_;refine .no ?_;refine .no ?_;refine .pk (.i 2) .o false ?_;refine .mv (.i 8) ?_;refine .donep [some 3,some 4,some 5,some 6,some 7,some 8,some 9,some 10,some 11,some 2] ?_;intro w2 B2;refine sh [] ?_;simp only[Act.put,lS,lZ,lC];cases hbb.out
  go_wp2_with fail
  exact bodyPost_ret (v:=.bool false) (by simp[results,Try.results30,go_sem]) rfl (a_s rfl (zup HZ.out B2))
 ·refine Run.start 10 ?_;refine .ld .o (ldM b1 0) ?_;refine .c1 (.i 0) (x:=.k (.bool true)) (by rintro u w2 hB rfl;exact b_c h1_.out w2) ?_;refine .mv (.i 1) ?_;refine .fa .o (fM0 0) ?_;refine .ld (.i 3) (ldInt b1 0) ?_;refine .fa .o (fM1 1) ?_;refine .ld (.i 5) (ldInt b1 1) ?_;refine .two (.i 4) (.i 6) (opEq h2_.out) ?_;refine .pk (.i 2) (.i 7) true ?_;refine .mv (.i 8) ?_;refine .donep [some 3,some 4,some 5,some 6,some 7,some 8,some 9,some 10,some 11,some 2] ?_;intro w2 B2;refine sh [] ?_;simp only[Act.put,lS,lZ,lC];cases hbb.out
  go_wp2_with fail
  exact bodyPost_ret (v:=.bool t2) (by simp[results,Try.results30,go_sem]) rfl (a_s rfl (zup HZ.out B2))
theorem k_y {L:List Int}{m:Nat}(hm:m<=L.length)(h:∀j,j<m->ith L j=0):fil L m=List.replicate L.length 0:=by
 have e:L.take m=List.replicate m 0:=by
  apply List.ext_getElem
  ·simp;omega
  ·intro j h1 h2;have h3:j<m:=by simpa using h2
   have e:=h j h3;have h4:j<L.length:=by omega
   simp[ith,List.getD,h4]at e;simp[e]
 unfold fil;rw[e,List.replicate_append_replicate];congr 1
 omega
theorem opIxB {G n c k:Nat}{X Y:Operand}(h:k<n)(w:World):RunTwo Try.prog (.indexAddr 22 X Y) w (.slice (some ⟨G,0,none⟩) n c) (.int .i64 (k:Int)) (.pointer (some ⟨G,k*2,none⟩)):=by
 have:=opIx (ad:=⟨G,0,none⟩) (c:=c) (X:=X) (Y:=Y) h w;rwa [b_d]at this
theorem f_a (w:World)(g:Nat)(s:Bool)(A:Option Addr)(n c:Nat):w.grownBy (zput w g s A n c) (some g):=a_o (q:=⟨g,1,none⟩) (a_o (q:=⟨g,0,none⟩) (a_2 w (some g)) rfl _) rfl _
def IsRw (b C K:Nat)(f:Nat->Int):FVal:=fun v w=>∃x,v= .slice (some ⟨x,0,none⟩) C C/\ZL true w (some ⟨x,0,none⟩) C C K (rw' C f)/\b<=x
def kRow (b C K:Nat)(f:Nat->Int):FK:=.f (IsRw b C K f) (fun v w w' ⟨x,e,h1,h2⟩ hb=>⟨x,e,h1.below hb,h2⟩)
theorem q_u {xt:Xt}{g k C K K' n c cu cl:Nat}{v0 vp:Value}{sa s:Bool}{A Au Al:Option Addr}{h:Int}{U L q:Nat->Int}{w:World}(bx:Bx w g xt.T (v0::vp:: .bool sa:: .slice A n c:: .bool s::xt.ex))(az:Zc w sa A n c h)(hn:n<=K)
  (hU:ZL true w Au C cu K (rw' C U)) (hL:ZL true w Al C cl K (rw' C L)) (hk:k<C) (h0:h≠0) (hu:∀j,j<k->U j=0) (hl:∀j,j<k->L j=0) (hq:∀j,j<C->q j*h=U k*L j - L k*U j) (hC:C<=1048576) (hK:2*K+1<=K') (hK':K'<=549755813888):
  Calls Try.prog 85 #[.pointer (some ⟨g,0,none⟩),.slice Au C cu,.slice Al C cl,.int .i64 (k:Int)] w (RetK (kRow w.heap.size C K' q) w):=by
 have hq0:∀j,j<k+1->ith (rw' C q) j=0:=fun j hj=>by
  rw[f_k (by omega)];have e:=hq j (by omega);rcases Nat.lt_or_ge j k with h1|h1
  ·rw[hu j h1,hl j h1]at e;exact(Int.mul_eq_zero.mp (by omega)).resolve_right h0
  ·obtain rfl:j=k:=by omega
   rw[Int.mul_comm (L j)]at e;exact(Int.mul_eq_zero.mp (by omega)).resolve_right h0
 have BX:=Lib.hid bx;have AZ:=Lib.hid az;have HU:=Lib.hid hU;have HL:=Lib.hid hL;have HQ:=Lib.hid hq;have hs0:=bx.lt;clear bx az hU hL hq hu hl;go_enter Try.func85,Try.ntmps85
 go_wp2_with (at_make;refine f_d _ rfl _ _ 22 rfl Try.underlying22 info_zint _ _ _ _ C rfl rfl (by omega) (by omega) (by omega) ?_)
 intro w1 hb B1 s1;have HS1:=Lib.hid s1;obtain⟨G,hG⟩:∃G,w.heap.size=G:=⟨_,rfl⟩;rw[hG]at hb;have HG:=Lib.hid hG;have hb':ZB w1 G K' (fil (rw' C q) (k+1)):=by
  rw[k_y (by rw[b_p];omega) hq0,b_p];exact hb.mono (by omega)
 have HB0:=Lib.hid hb';have HB1:=Lib.hid B1;have e16:IntKind.i64.wrap ((k:Int)+1)=((k+1:Nat):Int):=by rw[IntKind.wrap_i64];omega
 try rw[hG]
 clear hb hb' B1 s1 hG hq0
 go_wp2_with fail
 try rw[e16]
 go_loopw [10] (fun s10 wr=>∃j:Nat,s10= .int .i64 (j:Int)/\k<j/\j<=C/\Hid (Below w.heap.size w wr/\ZB wr G K' (fil (rw' C q) j))) (fun s10 _=>C - (intOf s10).toNat)
 case atStart=>exact⟨k+1,by first|rfl|go_num,by omega,by omega,Lib.hid ⟨HB1.out,HB0.out⟩⟩
 case round=>
  obtain⟨j,rfl,hkj,hj,HB⟩:=hrel;by_cases hlt:j<C
  ·have u2:(j:Int)<(C:Int):=by omega
   obtain⟨B0,hzb⟩:=HB.out;have hs1:=B0.size;have hgl:=hzb.lt;clear HB;go_upto_region 5 with fail
   obtain⟨al,rfl,hal,hAl⟩:=(HL.out.below B0).at hlt;obtain⟨s1,A1,n1,c1,e7,e8,ze1,hk1⟩:=hAl;have hz1:=ze1.1;rw[f_k hlt]at hz1;obtain⟨au,rfl,hau,hAu⟩:=(HU.out.below B0).at hk;obtain⟨s2,A2,n2,c2,e1,e2,ze2,hk2⟩:=hAu;have hz2:=ze2.1;rw[f_k hk]at hz2;obtain⟨al',eal,-,hAl'⟩:=(HL.out.below B0).at hk;cases eal;obtain⟨s3,A3,n3,c3,e3,e4,ze3,hk3⟩:=hAl';have hz3:=ze3.1;rw[f_k hk]at hz3;obtain⟨au',eau,-,hAu'⟩:=(HU.out.below B0).at hlt;cases eau;obtain⟨s4,A4,n4,c4,e5,e6,ze4,hk4⟩:=hAu';have hz4:=ze4.1;rw[f_k hlt]at hz4;clear ze1 ze2 ze3 ze4;refine Run.start 20 ?_;refine .mv .o ?_;refine .mv .o ?_;refine .two (.i 0) (.i 1) (opIx hk) ?_;refine .ld (.i 2) (ldE (by rw[a_a];exact hau) e1 e2) ?_;refine .mv .o ?_;refine .mv .o ?_;refine .two (.i 4) (.i 5) (opIx hlt) ?_;refine .ld (.i 6) (ldE (by rw[a_a];exact hal) e7 e8) ?_;refine .c2 (.i 3) (.i 7) (x:=kC (U k*L j) (2*K)) (by rintro u v w6 hB rfl rfl;exact f_0 ⟨_,_,_,_,rfl,hz2.below hB,hk2⟩ ⟨_,_,_,_,rfl,hz1.below hB,hk1⟩ (by omega) (by omega) (by omega)) ?_;refine .mv .o ?_;refine .mv .o ?_;refine .two (.i 9) (.i 10) (opIx hk) ?_;refine .ld (.i 11) (ldE (by rw[a_a];exact hal) e3 e4) ?_;refine .mv .o ?_;refine .mv .o ?_;refine .two (.i 13) (.i 14) (opIx hlt) ?_;refine .ld (.i 15) (ldE (by rw[a_a];exact hau) e5 e6) ?_;refine .c2 (.i 12) (.i 16) (x:=kC (L k*U j) (2*K)) (by rintro u v w6 hB rfl rfl;exact f_0 ⟨_,_,_,_,rfl,hz3.below hB,hk3⟩ ⟨_,_,_,_,rfl,hz4.below hB,hk4⟩ (by omega) (by omega) (by omega)) ?_;refine .c2 (.i 8) (.i 17) (x:=kC (U k*L j - L k*U j) (2*K+1)) (by rintro u v w6 hB hu hv;exact q_l hu.v hv.v (by omega) (by omega) (by omega)) ?_;refine .al ?_;refine .done [some 23,some 24,some 25,some 26,some 27,some 28,some 29,some 30,some 31,some 32,some 33,some 34,some 35,some 36,some 37,some 38,some 39,some 40,some 41,some 11] ?_;intro w4 B4;rintro v31 -;rintro v40 -;rintro v ⟨s5,A5,n5,c5,rfl,hz5,hk5⟩;rintro g11 hg11 hl11 hc11 -;refine sh [_] ?_;simp only[Act.put,lS,lZ,lC];have b11:=zeroZ (T:=0) hc11;have hs3:=B0.size;replace B0:=zup B0 B4;have hgl2:=hzb.lt;replace hzb:=hzb.below B4;clear e1 e2 e3 e4 e5 e6 e7 e8 hau hal hc11 B4 hz1 hz2 hz3 hz4 hk1 hk2 hk3 hk4;have hgr_:=f_a w4 g11 s5 A5 n5 c5;have hno_:=b11.now (by simp);replace hzb:=hzb.gro (by omega) hno_ hgr_;clear hgr_ hno_;obtain⟨w5,hw5⟩:∃x,zput w4 g11 s5 A5 n5 c5=x:=⟨_,rfl⟩;obtain⟨f1_,f2_,f3_,f4_,f5_⟩:=Ib.entry b11;replace hz5:=hz5.zp (s':=s5) (A':=A5) (n':=n5) (c':=c5) b11;rw[hw5]at hz5;replace B0:=a_e (g:=g11) (s:=s5) (A:=A5) (n:=n5) (c:=c5) B0 (by omega);rw[hw5]at B0;replace b11:=b11.zp (s:=s5) (A:=A5) (n:=n5) (c:=c5);rw[hw5]at b11;have Hw5:=Lib.hid hw5;unfold zput at Hw5;clear hw5;have e_:=Hw5.out;change zput _ _ _ _ _ _=_ at e_;rw[e_]at hzb;clear e_;go_upto_region 6 with fail
   rw[Hw5.out];clear f1_ f2_ f3_ f4_ f5_ Hw5;have bx:=BX.out.below B0;have az:=AZ.out.below B0;refine Run.start 12 ?_;refine .mv .o ?_;refine .mv .o ?_;refine .ld .o (ldZ b11 0) ?_;refine .mv .o ?_;refine .nc (.i 3) ?_;refine .fa (.i 4) (fE2 2) ?_;refine .ld (.i 5) (ldZ bx 2) ?_;refine .c2 (.i 2) (.i 6) (x:=kT (kC (q j) K') (.k (.bool true))) (by rintro u v w6 hB rfl rfl;exact l_l ⟨_,_,_,_,rfl,(hz5.below hB).zv,hk5⟩ ⟨_,_,_,_,rfl,(az.below hB).zv,hn⟩ (by omega) (by omega) h0 (HQ.out j hlt) (by omega)) ?_;refine .mf (.i 7) ?_;refine .ex (.i 8) 0 kT_0 ?_;refine .ex (.i 8) 1 kT_1 ?_;refine .two (.i 0) (.i 1) (opIxB (show j<C from hlt)) ?_;refine .donef [10] [some 43,some 44,some 45,some 46,some 47,some 48,some 49,some 50,some 42,some 51,some 52,some 53] (n_v (m_t (k:=8) (j:=1) (v:=.bool true) (by kernel_rfl) rfl rfl (fun u w ⟨a,b,e,h1,h2⟩=>⟨_,e,by cases h2;rfl⟩) (fun _=>rfl))) ?_;intro w6 B6;rintro v50 -;rintro v42 -;rintro v ⟨s6,A6,n6,c6,rfl,hz6,hk6⟩;refine sh [_] ?_;simp only[Act.put,lS,lZ,lC];replace B0:=zup B0 B6;replace hzb:=hzb.below B6;have hl:j<(fil (rw' C q) j).length:=by rw[b_x (by rw[b_p];omega),b_p];exact hlt
   obtain⟨t1,t2,t3,t4,x1,x2,-,-⟩:=hzb.cells hl;have y1:=hzb.free (j*2);have y2:=hzb.free (j*2+1);have hs:=hzb.put hl hz6 hk6;rw[show q j=ith (rw' C q) j from(f_k hlt).symm,k_z (by rw[b_p];exact hlt)]at hs;have HN:Hid (Below w.heap.size w (zputo w6 G (j*2) s6 A6 n6 c6)/\ZB (zputo w6 G (j*2) s6 A6 n6 c6) G K' (fil (rw' C q) (j+1))):=Lib.hid ⟨e_5 B0 (d_9 _ _ _ _ _ _ _) (by have:=HG.out;omega),hs⟩;unfold zputo at HN;clear hs hzb bx az hz5 hz6 b11 B6 B0
   go_wp2_with fail
   go_roundw
   case rel=>exact⟨j+1,by go_num,by omega,by omega,HN⟩
   case measure=>first|(simp[intOf];done)|(simp[intOf];omega)
  ·obtain rfl:j=C:=by omega
   have u2:¬(j:Int)<(j:Int):=by omega
   obtain⟨B0,hzb⟩:=HB.out;have hzl:=hzb.zl0 true (n:=j) (c:=j) (by rw[b_x (by rw[b_p];omega),b_p];omega) (Nat.le_refl _) (by omega);rw[show fil (rw' j q) j=rw' j q by have:=h_n (rw' j q);rwa [b_p]at this,List.take_of_length_le (by rw[b_p];omega)]at hzl;have P:Hid (RetK (kRow w.heap.size j K' q) w (.returned (.slice (some ⟨G,0,none⟩) j j)) wr):=Lib.hid ⟨_,rfl,⟨G,rfl,hzl,by have:=HG.out;omega⟩,B0⟩;clear HB hzb hzl B0
   go_wp2_with fail
   exact bodyPost_ret (v:=.slice (some ⟨G,0,none⟩) j j) (by simp[results,Try.results85,go_sem]) rfl P.out
end Go.Proofs.Ytlgjjnmmepgafaa
