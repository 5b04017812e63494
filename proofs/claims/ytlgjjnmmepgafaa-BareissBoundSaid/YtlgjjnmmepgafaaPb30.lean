/- Pb30 -/
import Derived.Test.YtlgjjnmmepgafaaPb29
set_option linter.unusedVariables false
set_option linter.unusedSimpArgs false
set_option linter.unusedSectionVars false
set_option maxRecDepth 100000
set_option maxHeartbeats 8000000
namespace Go.Proofs.Ytlgjjnmmepgafaa
open Go.RowKit
theorem RAt.numb {xt:Xt}{b:Nat}{w:World}{g H R C Ka:Nat}{K:Nat->Nat}{M:Nat->Nat->Int}{ps:List Nat}{h:Int}{s:Bool}{vp:Value}{sa:Bool}{A:Option Addr}{n c:Nat}{rows:List Value}(r:RAt xt b w g H R C Ka K M ps h s vp sa A n c rows){i k:Nat}(hi:i<R)(hk:k<C):
  ∃ad c' s' A' n' c'',rows[i]? =some (.slice (some ad) C c')/\ad.block<w.heap.size/\w.cell? (ad.add (k*2))=some (.bool s')/\w.cell? ⟨(ad.add (k*2)).block,(ad.add (k*2)).off+1,none⟩=some (.slice A' n' c'')/\Zc w s' A' n' c'' (M i k)/\n'<=K i:=by
 obtain⟨v,h1,A1,c1,rfl,h2,-⟩:=r.row i hi;obtain⟨ad,rfl,hab,s',A',n',c'',e1,e2,ze,hk'⟩:=h2.at hk;rw[f_k hk]at ze;exact⟨ad,c1,s',A',n',c'',h1,hab,e1,e2,ze.2 rfl,hk'⟩
def BuPost (xt:Xt)(b:Nat)(w:World)(g H R C Ka K k:Nat)(M:Nat->Nat->Int)(ps:List Nat)(h:Int)(s:Bool)(vp:Value)(sa:Bool)(A:Option Addr)(n c:Nat)(rows:List Value)(e:Ending)(w':World):Prop:=
 (e= .returned (.bool false)/\(∀i,ps.length<=i->i<R->M i k=0)/\Below w.heap.size w w')\/
 (e= .returned (.bool true)/\∃i rows',ps.length<=i/\i<R/\M i k≠0/\RAt xt b w' g H R C Ka (fun _=>K) (DT.swr M ps.length i) ps h (s != decide (i≠ps.length)) vp sa A n c rows'/\Below b w w')
theorem q_b {xt:Xt}{b g H R C Ka K k:Nat}{M:Nat->Nat->Int}{ps:List Nat}{h:Int}{s:Bool}{vp:Value}{sa:Bool}{A:Option Addr}{n c:Nat}{rows:List Value}{w:World}(r:RAt xt b w g H R C Ka (fun _=>K) M ps h s vp sa A n c rows)(hb:b<=w.heap.size)(hk:k<C)(hP:ps.length<=R)(hR:R<=1048576)(hK:K<=549755813888):
  Calls Try.prog 58 #[.pointer (some ⟨g,0,none⟩),.int .i64 (k:Int)] w (BuPost xt b w g H R C Ka K k M ps h s vp sa A n c rows):=by
 obtain⟨Ap,cp,rfl⟩:=r.vpf;have HR:=Lib.hid r;obtain⟨N,hN⟩:∃N,ps.length=N:=⟨_,rfl⟩;have HN:=Lib.hid hN;rw[hN]at hP;have bx:=r.bx;rw[hN]at bx;clear r;go_enter Try.func58,Try.ntmps58
 go_upto_region 1 with fail
 refine Run.start 6 ?_;refine .mv .o ?_;refine .nc (.i 0) ?_;refine .fa (.i 1) (fE1 1) ?_;refine .ld (.i 2) (ldIs bx 1) ?_;refine .len (.i 3) Try.underlying40 ?_;refine .mv (.i 4) ?_;refine .donep [some 7,some 8,some 9,some 10,some 11,some 5] ?_;intro w2 B2;refine sh [] ?_;simp only[Act.put,lS,lZ,lC];have HB2:=Lib.hid B2;clear B2 bx hN
 go_wp2_with fail
 go_loopw [6] (fun s6 wr=>∃i:Nat,s6= .int .i64 (i:Int)/\N<=i/\i<=R/\Hid (Below w.heap.size w wr/\∀a,N<=a->a<i->M a k=0)) (fun s6 _=>R - (intOf s6).toNat)
 case atStart=>exact⟨N,rfl,Nat.le_refl _,hP,Lib.hid ⟨HB2.out,fun a h1 h2=>by omega⟩⟩
 case round=>
  obtain⟨i,rfl,hNi,hiR,HB⟩:=hrel;obtain⟨B0,hall⟩:=HB.out;have c0:wr.cell? ⟨g,0,none⟩=some (.slice (some ⟨H,0,none⟩) R R):=(HR.out.bx.below B0).cell 0;by_cases hlt:i<R
  ·have u2:(i:Int)<(R:Int):=by omega
   have HA:=Lib.hid hall;clear hall HB;have bx:=HR.out.bx.below B0;have hd:=HR.out.hd.below B0;obtain⟨ad,ca,s1,A1,n1,c1,eri,hab,e1,e2,hz,hk1⟩:=(HR.out.below B0).numb hlt hk;obtain⟨x,hx⟩:∃x,(M i k).sign=x:=⟨_,rfl⟩;obtain⟨t,ht⟩:∃t,decide (x≠0)=t:=⟨_,rfl⟩;have HX:=Lib.hid hx;have HT:=Lib.hid ht;clear hx ht;go_upto_region 5 with fail
   clear c0;refine Run.start 12 ?_;refine .mv .o ?_;refine .nc (.i 0) ?_;refine .fa (.i 1) (fE0 0) ?_;refine .ld (.i 2) (ldSS bx 0) ?_;refine .mv .o ?_;refine .two (.i 3) (.i 4) (opIxS hlt) ?_;refine .ld (.i 5) (ldSl hd i eri) ?_;refine .mv .o ?_;refine .two (.i 6) (.i 7) (opIx hk) ?_;refine .ld (.i 8) (ldE (by rw[a_a];exact hab) e1 e2) ?_;refine .c1 (.i 9) (x:=.k (.int .i64 x)) (by rintro u w6 hB rfl;exact b_n ⟨_,_,_,_,rfl,(hz.below hB).zv,hk1⟩ (by omega) HX.out) ?_;refine .two (.i 10) .o (opNe HT.out) ?_;refine .donep [some 22,some 23,some 24,some 25,some 26,some 27,some 28,some 29,some 30,some 31,some 32,some 33] ?_;intro w2 B2;refine sh [] ?_;simp only[Act.put,lS,lZ,lC];replace B0:=zup B0 B2;clear e1 e2 hab hz B2 bx hd;cases t
   ·have H0:Hid (Below w.heap.size w w2/\∀a,N<=a->a<i+1->M a k=0):=Lib.hid ⟨B0,fun a h1 h2=>by
     rcases Nat.lt_or_ge a i with h3|h3
     ·exact HA.out a h1 h3
     ·have ea:a=i:=by omega
      subst ea;have h4:=HT.out;rw[<-HX.out]at h4;exact Int.sign_eq_zero_iff_zero.1 (by simpa using h4)⟩
    clear B0
    go_wp2_with fail
    go_roundw
    case rel=>exact⟨i+1,by go_num,by omega,by omega,H0⟩
    case measure=>first|(simp[intOf];done)|(simp[intOf];omega)
   ·have hne:M i k≠0:=fun e=>by
     have h4:=HT.out;rw[<-HX.out,e]at h4;simp at h4
    have bx:=HR.out.bx.below B0;have hd:=HR.out.hd.below B0;obtain⟨adi,ci,-,-,-,-,eri',-,-,-,-,-⟩:=(HR.out.below B0).numb hlt hk;obtain⟨adn,cn',-,-,-,-,ern,-,-,-,-,-⟩:=(HR.out.below B0).numb (show N<R by omega) hk;rw[eri]at eri';cases eri';have hNR:N<R:=by omega
    go_upto_region 6 with fail
    refine Run.start 25 ?_;refine .mv .o ?_;refine .nc (.i 0) ?_;refine .fa (.i 1) (fE0 0) ?_;refine .ld (.i 2) (ldSS bx 0) ?_;refine .mv .o ?_;refine .mv .o ?_;refine .nc (.i 5) ?_;refine .fa (.i 6) (fE0 0) ?_;refine .ld (.i 7) (ldSS bx 0) ?_;refine .mv .o ?_;refine .mv .o ?_;refine .nc (.i 10) ?_;refine .fa (.i 11) (fE0 0) ?_;refine .ld (.i 12) (ldSS bx 0) ?_;refine .mv .o ?_;refine .two (.i 13) (.i 14) (opIxS hlt) ?_;refine .ld (.i 15) (ldSl hd i eri) ?_;refine .mv .o ?_;refine .nc (.i 17) ?_;refine .fa (.i 18) (fE0 0) ?_;refine .ld (.i 19) (ldSS bx 0) ?_;refine .mv .o ?_;refine .two (.i 20) (.i 21) (opIxS hNR) ?_;refine .ld (.i 22) (ldSl hd N ern) ?_;refine .two (.i 3) (.i 4) (opIxS hNR) ?_;refine .donef [9] [some 34,some 35,some 36,some 37,some 38,some 39,some 40,some 41,some 42,some 43,some 44,some 45,some 46,some 47,some 48,some 49,some 50,some 51,some 52,some 53,some 54,some 55,some 56,some 57,some 58] (n_v (m_s (by kernel_rfl) rfl rfl)) ?_;intro w4 B4;refine sh [_,_,_] ?_;simp only[Act.put,lS,lZ,lC];replace B0:=zup B0 B4;have r4:=HR.out.below B0;have hs4:=B0.size;obtain⟨w5,hw5⟩:∃x,(w4.setCell ⟨H,N,none⟩ (.slice (some ad) C ca)).setCell ⟨H,i,none⟩ (.slice (some adn) C cn')=x:=⟨_,rfl⟩;have x1:=(r4.hd.cell N).trans ern;have y1:=r4.hd.free N;have hd5:=r4.hd.set N (.slice (some ad) C ca);obtain⟨v3,x2⟩:∃v3,(w4.setCell ⟨H,N,none⟩ (.slice (some ad) C ca)).cell? ⟨H,i,none⟩=some v3:=by
     have hli:i<(rows.set N (.slice (some ad) C ca)).length:=by rw[List.length_set,r4.len];exact hlt
     exact⟨_,(hd5.cell i).trans (List.getElem?_eq_getElem hli)⟩
    have y2:=hd5.free i;have r5:=r4.swap hlt hNR eri ern;have hrb:=r4.bh;have B5:Below b w w5:=by rw[<-hw5];exact((B0.mono hb).setCell hrb _).setCell hrb _
    rw[hw5]at r5;have HR5:=Lib.hid r5;have HW:=Lib.hid hw5;have HB5:=Lib.hid B5;clear r5 r4 B5 hd5 hw5 B0 bx hd;go_upto_region 7 with fail
    rw[HW.out];clear x1 y1 x2 y2 HW;have bx:=HR5.out.bx;obtain⟨t1,ht1⟩:∃t,decide ((i:Int)≠(N:Int))=t:=⟨_,rfl⟩;obtain⟨t2,ht2⟩:∃t,(s != t1)=t:=⟨_,rfl⟩;have HT1:=Lib.hid ht1;have HT2:=Lib.hid ht2;clear ht1 ht2;refine Run.start 11 ?_;refine .mv .o ?_;refine .mv .o ?_;refine .nc (.i 1) ?_;refine .fa (.i 2) (fE3 4) ?_;refine .ld (.i 3) (ldBool bx 4) ?_;refine .mv .o ?_;refine .mv .o ?_;refine .two (.i 5) (.i 6) (opNe HT1.out) ?_;refine .two (.i 4) (.i 7) (opNeB HT2.out) ?_;refine .nc (.i 0) ?_;refine .fa (.i 9) (fE3 4) ?_;refine .donep [some 60,some 61,some 62,some 63,some 64,some 65,some 66,some 67,some 68,some 69,some 70] ?_;intro w6 B6;refine sh [_] ?_;simp only[Act.put,lS,lZ,lC];have r6:=HR5.out.below B6;have hg6:b<=w5.heap.size:=Nat.le_of_lt (Nat.lt_of_le_of_lt HR5.out.bg bx.lt);have r7:=r6.odd t2;have B7:=(HB5.out.trans (B6.mono hg6)).setCell (p:=⟨g,4,none⟩) r6.bg (.bool t2);have x1:=r6.bx.cell 4;simp only[List.getElem?_cons_succ,List.getElem?_cons_zero]at x1;have y1:=r6.bx.free 4;have et:t2=(s != decide (i≠ps.length)):=by
     rw[<-HT2.out,<-HT1.out,HN.out];congr 1
     exact decide_eq_decide.2 (by omega)
    have P:Hid (BuPost xt b w g H R C Ka K k M ps h s (.slice Ap ps.length cp) sa A n c rows (.returned (.bool true)) (w6.setCell ⟨g,4,none⟩ (.bool t2))):=Lib.hid (.inr ⟨rfl,i,_,by rw[HN.out];exact hNi,hlt,hne,by rw[<-et];have e:=HN.out;subst e;exact r7,B7⟩);clear r6 r7 B7 bx et
    go_wp2_with fail
    exact bodyPost_ret (v:=.bool true) (by simp[results,Try.results58,go_sem]) rfl P.out
  ·obtain rfl:i=R:=by omega
   have u2:¬(i:Int)<(i:Int):=by omega
   have P:Hid (BuPost xt b w g H i C Ka K k M ps h s (.slice Ap ps.length cp) sa A n c rows (.returned (.bool false)) wr):=Lib.hid (.inl ⟨rfl,by rw[HN.out];exact hall,B0⟩);clear HB hall B0
   go_wp2_with fail
   exact bodyPost_ret (v:=.bool false) (by simp[results,Try.results58,go_sem]) rfl P.out
end Go.Proofs.Ytlgjjnmmepgafaa
