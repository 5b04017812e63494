/- Pb34 -/
import Derived.Test.YtlgjjnmmepgafaaPb31
import Derived.Test.YtlgjjnmmepgafaaPb33
set_option linter.unusedVariables false
set_option linter.unusedSimpArgs false
set_option linter.unusedSectionVars false
set_option maxRecDepth 100000
set_option maxHeartbeats 8000000
namespace Go.Proofs.Ytlgjjnmmepgafaa
section
open Go.RowKit
def kb (K j:Nat):Nat:=2^j*(K+1) - 1
theorem k_k (K:Nat):kb K 0=K:=by simp[kb]
theorem k_l (K j:Nat):2*kb K j+1=kb K (j+1):=by
 unfold kb;have h:1<=2^j*(K+1):=Nat.mul_pos (Nat.two_pow_pos j) (by omega);rw[Nat.pow_succ,Nat.mul_comm (2^j) 2,Nat.mul_assoc];omega
theorem e_w {K i j:Nat}(h:i<=j):kb K i<=kb K j:=by
 unfold kb;have:2^i*(K+1)<=2^j*(K+1):=Nat.mul_le_mul_right _ (Nat.pow_le_pow_right (by omega) h);omega
def RsAt (xt:Xt)(b:Nat)(w:World)(g R C K j:Nat)(F:Nat->Nat->Int):Prop:=∃s G ps M h,DT.Red R C j F s G ps M h/\Rdc xt b w g R C (kb K ps.length) M ps h s
def RsPost (xt:Xt)(b:Nat)(w:World)(g R C E K:Nat)(F:Nat->Nat->Int)(e:Ending)(w':World):Prop:=e= .returned (.tuple #[])/\Below b w w'/\RsAt xt b w' g R C K E F
theorem RsAt.below {xt:Xt}{b g R C K j:Nat}{w w':World}{F:Nat->Nat->Int}(h:RsAt xt b w g R C K j F)(hb:Below w.heap.size w w'):RsAt xt b w' g R C K j F:=by
 obtain⟨s,G,ps,M,h,h1,H,vp,sa,A,n,c,rows,h2⟩:=h;exact⟨s,G,ps,M,h,h1,H,vp,sa,A,n,c,rows,h2.below hb⟩
theorem f_l {xt:Xt}{b g R C E K:Nat}{F:Nat->Nat->Int}{w:World}(h:RsAt xt b w g R C K 0 F)(hE:E<=C)(hb:b<=w.heap.size)(hR:R<=1048576)(hC:C<=1048576)(hK:kb K R<=549755813888):
  Calls Try.prog 32 #[.pointer (some ⟨g,0,none⟩),.int .i64 (E:Int)] w (RsPost xt b w g R C E K F):=by
 have H0:=Lib.hid h;clear h;go_enter Try.func32,Try.ntmps32
 go_wp2_with fail
 go_loopw [6] (fun s6 wr=>∃j:Nat,s6= .int .i64 (j:Int)/\j<=E/\Hid (Below b w wr/\RsAt xt b wr g R C K j F)) (fun s6 _=>E - (intOf s6).toNat)
 case atStart=>exact⟨0,rfl,Nat.zero_le _,Lib.hid ⟨Below.refl _ _,H0.out⟩⟩
 case round=>
  obtain⟨j,rfl,hj,HB⟩:=hrel;by_cases hlt:j<E
  ·have u2:(j:Int)<(E:Int):=by omega
   have hlt:=Nat.lt_of_lt_of_le hlt hE;obtain⟨B0,s,G,ps,M,h,hr,H,vp,sa,A,n,c,rows,hm⟩:=HB.out;have hbw:b<=wr.heap.size:=Nat.le_trans hb B0.size;have HR:=Lib.hid hr;have HM:=Lib.hid hm;have HB0:=Lib.hid B0;clear HB hr hm B0
   go_wp2_with fail
   refine(q_b HM.out hbw hlt HR.out.nR hR (Nat.le_trans (e_w HR.out.nR) hK)).mono ?_;rintro e w2 (⟨rfl,hz,B2⟩|⟨rfl,i,rows2,hi,hiR,hne,hm2,B2⟩)
   ·have HS:Hid (Below b w w2/\RsAt xt b w2 g R C K (j+1) F):=Lib.hid ⟨HB0.out.trans (B2.mono hbw),s,G,ps,M,h,HR.out.no hlt hz,H,vp,sa,A,n,c,rows,HM.out.below B2⟩;clear hz B2
    go_wp2_with fail
    go_roundw
    case rel=>exact⟨j+1,by go_num,by omega,HS⟩
    case measure=>first|(simp[intOf];done)|(simp[intOf];omega)
   ·have hr2:=HR.out.swap hi hiR;have hn2:ps.length<R:=Nat.lt_of_le_of_lt hi hiR;have hne2:DT.swr M ps.length i ps.length j≠0:=by
     have:DT.swr M ps.length i ps.length=M i:=by unfold DT.swr;rw[if_pos rfl]
     rw[this];exact hne
    have HR2:=Lib.hid hr2;have HM2:=Lib.hid hm2;have hk2:kb K (ps.length+1)<=549755813888:=Nat.le_trans (e_w hn2) hK;have B3:=HB0.out.trans B2;have HB3:=Lib.hid B3;have hb2:b<=w2.heap.size:=Nat.le_trans hb B3.size;clear hr2 hm2 B2 B3 hi hiR hne
    go_wp2_with fail
    refine(p_4 HM2.out hb2 hlt hn2 hR hC HR2.out.h0 (fun a l h1 h2 h3=>HR2.out.zero a l h1 h2 h3) (q:=DT.nxt R C j (DT.swr G ps.length i) ps) (fun a l h1 h2 h3=>HR2.out.step hlt h1 h2 h3) (Nat.le_refl _) (K':=kb K (ps.length+1)) (Nat.le_of_eq (k_l K ps.length)) hk2).mono ?_;rintro e w3 ⟨rfl,B3,vp',sa',A',n',c',rows',hm3⟩;have hr3:=HR2.out.yes (M':=fun a l=>if a<=ps.length then DT.swr M ps.length i a l else DT.nxt R C j (DT.swr G ps.length i) ps a l) hlt hn2 hne2 (fun a l h1 h2=>if_pos h1) (fun a l h1 h2 h3=>if_neg (by omega));have HS:Hid (Below b w w3/\RsAt xt b w3 g R C K (j+1) F):=Lib.hid ⟨HB3.out.trans B3,_,_,_,_,_,hr3,H,vp',sa',A',n',c',rows',by
     rw[show(ps++[j]).length=ps.length+1 by simp];exact hm3.mono (by have:=k_l K ps.length;omega) (fun _ _=>Nat.le_refl _)⟩
    clear hr3 hm3 B3
    go_wp2_with fail
    go_roundw
    case rel=>exact⟨j+1,by go_num,by omega,HS⟩
    case measure=>first|(simp[intOf];done)|(simp[intOf];omega)
  ·obtain rfl:j=E:=by omega
   have u2:¬(j:Int)<(j:Int):=by omega
   have P:Hid (RsPost xt b w g R C j K F (.returned (.tuple #[])) wr):=Lib.hid ⟨rfl,HB.out.1,HB.out.2⟩;clear HB
   go_wp2_with fail
   exact bodyPost_ret (v:=.tuple #[]) (by simp[results,Try.results32,go_sem]) rfl P.out
theorem r_b {b g H R C Ka:Nat}{K:Nat->Nat}{M:Nat->Nat->Int}{ps:List Nat}{h z:Int}{s:Bool}{vp:Value}{sa:Bool}{A:Option Addr}{n c:Nat}{rows:List Value}{w:World}(r:RAt bareX b w g H R C Ka K M ps h s vp sa A n c rows)(hK:Ka<=549755813888)(hz:(if ps.length<R then 0 else if s then -h else h)=z):
  Calls Try.prog 33 #[.pointer (some ⟨g,0,none⟩)] w (RetK (kC z Ka) w):=by
 obtain⟨Ap,cp,rfl⟩:=r.vpf;obtain⟨t,ht⟩:∃t,decide ((ps.length:Int)<(R:Int))=t:=⟨_,rfl⟩;have han:=r.an;obtain⟨w1,hw1,b2,z1,s1⟩:=boxes1 w 30 [.bool false,.slice none 0 0];have HW:=Lib.hid hw1;have HZ:=Lib.hid z1;have ht_:=Lib.hid ht;have bx:=r.bx.below z1;have haz:=r.az.below z1;clear r;clear hw1 z1 ht s1;go_enter Try.func33,Try.ntmps33
 go_upto_region 1 with fail
 rw[HW.out];cases t
 ·refine Run.start 13 ?_;refine .mv .o ?_;refine .nc (.i 0) ?_;refine .fa (.i 1) (fB0 0) ?_;refine .fa (.i 2) (fE1 1) ?_;refine .ld (.i 3) (ldIs bx 1) ?_;refine .len (.i 4) Try.underlying40 ?_;refine .mv .o ?_;refine .nc (.i 6) ?_;refine .fa (.i 7) (fB0 0) ?_;refine .fa (.i 8) (fE0 0) ?_;refine .ld (.i 9) (ldSS bx 0) ?_;refine .len (.i 10) Try.underlying59 ?_;refine .two (.i 5) (.i 11) (opLt ht_.out) ?_;refine .done [some 3,some 4,some 5,some 6,some 7,some 8,some 9,some 10,some 11,some 12,some 13,some 14,some 15] ?_;intro w2 B2;refine sh [] ?_;simp only[Act.put,lS,lZ,lC];have hz1:(if s then -h else h)=z:=by rw[<-hz,if_neg (show ¬ps.length<R by have:=of_decide_eq_false ht_.out;omega)]
  replace b2:=b2.below B2;replace bx:=bx.below B2;replace haz:=haz.below B2;have HZ2:=Lib.hid (zup HZ.out B2);have HZ1:=Lib.hid hz1;clear hz hz1 B2 HZ;go_upto_region 3 with fail
  refine Run.start 11 ?_;refine .mv .o ?_;refine .nc (.i 0) ?_;refine .fa (.i 1) (fB0 0) ?_;refine .fa (.i 2) (fE2 2) ?_;refine .ld (.i 3) (ldZ bx 2) ?_;refine .mv .o ?_;refine .nc (.i 5) ?_;refine .fa (.i 6) (fB0 0) ?_;refine .fa (.i 7) (fE3 4) ?_;refine .ld (.i 8) (ldBool bx 4) ?_;refine .c2 (.i 4) (.i 9) (x:=kC z Ka) (by rintro u v w3 hB rfl rfl;rw[<-HZ1.out];exact l_o (haz.below hB).zv han (by omega)) ?_;refine .done [some 17,some 18,some 19,some 20,some 21,some 22,some 23,some 24,some 25,some 26,some 27] ?_;intro w3 B3;rintro v ⟨s_,A_,n_,c_,rfl,hz,hk_⟩;refine sh [_] ?_;simp only[Act.put,lS,lZ,lC];have I:=Ib.entry (b2.below B3);have P:=Lib.hid (retC hz I (k:=Ka) (by omega) (by omega) (zup HZ2.out B3));obtain⟨i1,i2,i3,i4,i5⟩:=I;clear hz
  go_wp2_with fail
  exact bodyPost_ret (v:=.agg #[.bool s_,.slice A_ n_ c_]) (by simp[results,Try.results33,go_sem,i1,i2]) rfl P.out
 ·refine Run.start 13 ?_;refine .mv .o ?_;refine .nc (.i 0) ?_;refine .fa (.i 1) (fB0 0) ?_;refine .fa (.i 2) (fE1 1) ?_;refine .ld (.i 3) (ldIs bx 1) ?_;refine .len (.i 4) Try.underlying40 ?_;refine .mv .o ?_;refine .nc (.i 6) ?_;refine .fa (.i 7) (fB0 0) ?_;refine .fa (.i 8) (fE0 0) ?_;refine .ld (.i 9) (ldSS bx 0) ?_;refine .len (.i 10) Try.underlying59 ?_;refine .two (.i 5) (.i 11) (opLt ht_.out) ?_;refine .done [some 3,some 4,some 5,some 6,some 7,some 8,some 9,some 10,some 11,some 12,some 13,some 14,some 15] ?_;intro w2 B2;refine sh [] ?_;simp only[Act.put,lS,lZ,lC];have hz1:z=0:=by rw[<-hz,if_pos (show ps.length<R by have:=of_decide_eq_true ht_.out;omega)]
  subst hz1;have I:=Ib.entry (b2.below B2);have P:=Lib.hid (retC (Zc.nought w2) I (k:=Ka) (by omega) (by omega) (zup HZ.out B2));obtain⟨i1,i2,i3,i4,i5⟩:=I;clear hz
  go_wp2_with fail
  exact bodyPost_ret (v:=.agg #[.bool false,.slice none 0 0]) (by simp[results,Try.results33,go_sem,i1,i2]) rfl P.out
theorem RsAt.det {b w g R K F}(h:RsAt bareX b w g R R K R F)(hK:kb K R<=549755813888):Calls Try.prog 33 #[.pointer (some ⟨g,0,none⟩)] w (RetK (kC (DT.det R F) (kb K R)) w):=by
 obtain⟨s,G,ps,M,h,hr,H,vp,sa,A,n,c,rows,hm⟩:=h;have hk:=e_w (K:=K) hr.nR;refine(r_b hm (by omega) (z:=DT.det R F) ?_).mono fun e w' h=>h.mono fun v w2 ⟨s,A,n,c,e,h1,h2⟩=>⟨s,A,n,c,e,h1,by omega⟩;by_cases e:ps.length<R
 ·rw[if_pos e,hr.thin e]
 ·rw[if_neg e,hr.full (by have:=hr.nR;omega)]
theorem RofPost.start {w w':World}{r c k:Nat}{F:Nat->Nat->Int}{e:Ending}(h:RofPost w r c k F e w'):∃g,e= .returned (.pointer (some ⟨g,0,none⟩))/\Below w.heap.size w w'/\RsAt bareX w.heap.size w' g r c k 0 F:=by
 obtain⟨g,H,sa,A,n,c',rows,h1,h2,h3⟩:=h;exact⟨g,h1,h2,false,F,[],F,1,DT.Red.start r c F,H,_,sa,A,n,c',rows,by rw[List.length_nil,k_k];exact h3⟩
end
section
open Go.RowKit
def IsRof (b0 r c k:Nat)(F:Nat->Nat->Int):FVal:=fun v w=>∃g b,v= .pointer (some ⟨g,0,none⟩)/\b0<=b/\b<=w.heap.size/\RsAt bareX b w g r c k 0 F
def kRof (b0 r c k:Nat)(F:Nat->Nat->Int):FK:=.f (IsRof b0 r c k F) (fun v w w' ⟨g,b,e,h1,h2,h3⟩ hb=>⟨g,b,e,h1,Nat.le_trans h2 hb.size,h3.below hb⟩)
theorem rof_q' {q:Bool}{r c n d k b0:Nat}{A:Option Addr}{F:Nat->Nat->Int}{w:World}(ha:Mt q w r c A n d k F)(hk1:1<=k)(hk:k<=549755813888)(hb:b0<=w.heap.size):Calls Try.prog 31 #[.agg #[.int .i64 (r:Int),.int .i64 (c:Int),.slice A n d]] w (RetK (kRof b0 r c k F) w):=
 (r_6 ha hk1 hk).mono fun e w' h=>by
  obtain⟨g,rfl,hB,h1⟩:=h.start;exact⟨_,rfl,⟨g,w.heap.size,rfl,hb,hB.size,h1⟩,hB⟩
theorem Bx.upto {w w':World}{g b:Nat}{T:TypeId}{cs:List Value}(h:Bx w g T cs)(hg:g<b)(hb:Below b w w'):Bx w' g T cs:=(hb.block g hg).trans h
theorem k_m (K j:Nat):K<=kb K j:=by have:=e_w (K:=K) (Nat.zero_le j);rw[k_k]at this;exact this
theorem c_3 {q:Bool}{r n d k:Nat}{A:Option Addr}{F:Nat->Nat->Int}{w:World}(ha:Mt q w r r A n d k F)(hk1:1<=k)(hK:kb k r<=549755813888):Calls Try.prog 9 #[.agg #[.int .i64 (r:Int),.int .i64 (r:Int),.slice A n d]] w (RetK (kT (kC (DT.det r F) (kb k r)) (.k (.int .i64 0))) w):=by
 have h1:=ha.fmd;have h3:=ha.hr;have hs1:(fmd (r:Int) (r:Int) n&&decide ((r:Int)=(r:Int)))=true:=by rw[h1];simp
 obtain⟨w1,hw1,b1,b2,z1,s1⟩:=boxes2 w 24 30 [.int .i64 (r:Int),.int .i64 (r:Int),.slice A n d] [.bool false,.slice none 0 0];have HW:=Lib.hid hw1;have HZ:=Lib.hid z1;have hs1_:=Lib.hid hs1;clear hw1 z1 hs1 h1;go_enter Try.func9,Try.ntmps9
 go_upto_region 1 with fail
 rw[HW.out];refine Run.start 3 ?_;refine .ld .o (ldM b1 0) ?_;refine .c1 (.i 0) (x:=.k (.bool true)) (by rintro u w2 hB rfl;exact sq_q hs1_.out w2) ?_;refine .nt (.i 1) ?_;refine .donep [some 5,some 6,some 7] ?_;intro w2 B2;refine sh [] ?_;simp only[Act.put,lS,lZ,lC];have B0:=zup HZ.out B2;replace b1:=b1.below B2;replace b2:=b2.below B2;have hM:=ha.below B0;have hl_b1:=b1.lt;have hl_b2:=b2.lt;clear B2 HZ ha;go_upto_region 3 with fail
 refine Run.start 3 ?_;refine .ld .o (ldM b1 0) ?_;refine .c1 (.i 0) (x:=kRof w2.heap.size r r k F) (by rintro u w4 hB rfl;exact rof_q' (hM.below hB) hk1 (by have:=k_m k r;omega) hB.size) ?_;refine .mf (.i 1) ?_;refine .donep [some 9,some 10,some 4] ?_;intro w4 B4;rintro v3_ -;rintro v ⟨g,b,rfl,hbb,hbs,hr⟩;refine sh [] ?_;simp only[Act.put,lS,lZ,lC];replace B0:=zup B0 B4;replace b1:=b1.below B4;replace b2:=b2.below B4;clear B4 hM;go_upto_region 4 with fail
 refine Run.start 5 ?_;refine .mv .o ?_;refine .nc (.i 0) ?_;refine .fa (.i 1) (fB0 0) ?_;refine .fa .o (fM1 1) ?_;refine .ld (.i 3) (ldInt b1 1) ?_;refine .done [some 11,some 12,some 13,some 14,some 15] ?_;intro w9 B9;refine sh [_] ?_;simp only[Act.put,lS,lZ,lC];replace B0:=zup B0 B9;replace b1:=b1.below B9;replace b2:=b2.below B9;have HR:=Lib.hid (hr.below B9);replace hbs:=Nat.le_trans hbs B9.size;clear B9 hr
 go_wp2_with fail
 refine(f_l HR.out (Nat.le_refl _) hbs (by omega) (by omega) hK).mono ?_;rintro e w5 ⟨rfl,B5,hrs⟩;have hb5:w.heap.size<=b:=by omega
 replace B0:=B0.trans (B5.mono hb5);replace b1:=b1.upto (by omega) B5;replace b2:=b2.upto (by omega) B5;clear HR B5;have HRS:=Lib.hid hrs;have HB0:=Lib.hid B0;clear hrs B0;go_upto_region 5 with fail
 refine Run.start 2 ?_;refine .mv .o ?_;refine .c1 (.i 0) (x:=kC (DT.det r F) (kb k r)) (by rintro u w6 hB rfl;exact(HRS.out.below hB).det hK) ?_;refine .donep [some 17,some 18] ?_;intro w6 B6;rintro v ⟨s_,A_,n_,c_,rfl,hz,hk_⟩;refine sh [_,_] ?_;simp only[Act.put,lS,lZ,lC];have I:=Ib.entry (b2.below B6);have P:Hid (RetK (kT (kC (DT.det r F) (kb k r)) (.k (.int .i64 0))) w (.returned (.tuple #[.agg #[.bool s_,.slice A_ n_ c_],.int .i64 0])) ((w6.setCell ⟨w.heap.size+1,0,none⟩ (.bool s_)).setCell ⟨w.heap.size+1,1,none⟩ (.slice A_ n_ c_))):=Lib.hid (by
  obtain⟨u,e,h1,h2⟩:=retC hz I (k:=kb k r) hk_ (by omega) (zup HB0.out B6);cases e;exact⟨_,rfl,⟨_,_,rfl,h1,rfl⟩,h2⟩)
 obtain⟨i1,i2,i3,i4,i5⟩:=I;clear hz
 go_wp2_with fail
 exact bodyPost_ret (v:=.tuple #[.agg #[.bool s_,.slice A_ n_ c_],.int .i64 0]) (by simp[results,Try.results9,go_sem,i1,i2]) rfl P.out
end
end Go.Proofs.Ytlgjjnmmepgafaa
