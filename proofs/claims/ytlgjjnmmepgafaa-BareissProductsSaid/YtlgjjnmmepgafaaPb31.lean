/- Pb31 -/
import Derived.Test.YtlgjjnmmepgafaaPb30
import Derived.RegionTactic
import Derived.BigRegion
import Derived.Deep.RegionLaw
set_option linter.unusedVariables false
set_option linter.unusedSimpArgs false
set_option linter.unusedSectionVars false
set_option maxRecDepth 100000
set_option maxHeartbeats 8000000
namespace Go.Proofs.Ytlgjjnmmepgafaa
open Go.RowKit
theorem RAt.fresh {xt:Xt}{b g H R C Ka:Nat}{K:Nat->Nat}{M:Nat->Nat->Int}{ps:List Nat}{h:Int}{s:Bool}{vp:Value}{sa:Bool}{A:Option Addr}{n c:Nat}{rows:List Value}{w w':World}{f:Nat->Int}{kv x:Nat}{Cc:Nat}(r:RAt xt b w g H R C Ka K M ps h s vp sa A n c rows)(hx:w.heap.size<=x)(hz:ZL true w' (some ⟨x,0,none⟩) C Cc kv (rw' C f)):RowOk w' (g::H::blkOf vp) (.slice (some ⟨x,0,none⟩) C Cc) C kv f:=by
 refine⟨_,Cc,rfl,hz,fun h0 ad e hm=>?_⟩;cases e;have hg:=r.bx.lt;have hh:=r.hd.lt;simp only[List.mem_cons]at hm;rcases hm with hm|hm|hm
 ·omega
 ·omega
 ·unfold blkOf at hm;cases hv:vp.ownBlock with
  |none=>rw[hv]at hm;simp at hm
  |some y=>
   rw[hv]at hm
   have:=(r.own.lt hv).2;simp at hm;omega
theorem step_q' {xt:Xt}{g k C K K' n c cu cl b0:Nat}{v0 vp:Value}{sa s:Bool}{A Au Al:Option Addr}{h:Int}{U L q:Nat->Int}{w:World}(bx:Bx w g xt.T (v0::vp:: .bool sa:: .slice A n c:: .bool s::xt.ex))(az:Zc w sa A n c h)(hn:n<=K)
  (hU:ZL true w Au C cu K (rw' C U)) (hL:ZL true w Al C cl K (rw' C L)) (hk:k<C) (h0:h≠0) (hu:∀j,j<k->U j=0) (hl:∀j,j<k->L j=0) (hq:∀j,j<C->q j*h=U k*L j - L k*U j) (hC:C<=1048576) (hK:2*K+1<=K') (hK':K'<=549755813888) (hb:b0<=w.heap.size):
  Calls Try.prog 85 #[.pointer (some ⟨g,0,none⟩),.slice Au C cu,.slice Al C cl,.int .i64 (k:Int)] w (RetK (kRow b0 C K' q) w):=
 (q_u bx az hn hU hL hk h0 hu hl hq hC hK hK').mono fun e w' h=>h.mono fun v w2 ⟨x,e,h1,h2⟩=>⟨x,e,h1,Nat.le_trans hb h2⟩
theorem info_int':(Try.prog.info? 3).map (fun i=>(i.zero,i.size,i.bytes))=some (some (.int .i64 0),1,8):=by kernel_rfl
theorem nwd_int:∀u,u∈(Value.int .i64 0).cells.toList->NWd u:=by
 intro u hu m e;simp[Value.cells]at hu;subst hu;cases e
theorem cell_one_new' (w:World)(v:Value)(T:TypeId):(w.alloc (.cells #[v] T)).cell? ⟨w.heap.size,0,none⟩=some v:=(Bx.new w T [v]).cell 0
def CbPost (xt:Xt)(b:Nat)(w:World)(g H R C K K' k:Nat)(M q:Nat->Nat->Int)(ps:List Nat)(s:Bool)(e:Ending)(w':World):Prop:=
 e= .returned (.tuple #[])/\Below b w w'/\∃vp sa A n c rows,RAt xt b w' g H R C K (fun _=>K') (fun i j=>if i<=ps.length then M i j else q i j) (ps++[k]) (M ps.length k) s vp sa A n c rows
theorem RAt.grew {xt:Xt}{b g H R C Ka:Nat}{K:Nat->Nat}{M:Nat->Nat->Int}{ps:List Nat}{h:Int}{s:Bool}{vp:Value}{sa:Bool}{A:Option Addr}{n c:Nat}{rows:List Value}{w X w1:World}{o:Obj}(r:RAt xt b w g H R C Ka K M ps h s vp sa A n c rows)(hg:X.grownBy w1 vp.ownBlock)(hX:X.heap=(w.alloc o).heap):Bx w1 g xt.T (.slice (some ⟨H,0,none⟩) R R::vp:: .bool sa:: .slice A n c:: .bool s::xt.ex)/\Bx w1 H 22 rows/\∀i v,i<R->0<C->rows[i]? =some v->∀A' c',v= .slice A' C c'->∀ad:Addr,A'=some ad->w1.heap[ad.block]? =w.heap[ad.block]? :=by
 have hs:X.heap.size=w.heap.size+1:=by rw[hX];simp
 refine⟨?_, ?_,fun i v hi h0 hv A' c' ev ad ea=>?_⟩
 ·have hl:=r.bx.lt;exact(hg.block g (by omega) (Ne.symm r.pg)).trans ((by rw[hX];exact Below.heap_alloc w o g hl:X.heap[g]? =w.heap[g]?).trans r.bx)
 ·have hl:=r.hd.lt;exact(hg.block H (by omega) (Ne.symm r.ph)).trans ((by rw[hX];exact Below.heap_alloc w o H hl:X.heap[H]? =w.heap[H]?).trans r.hd)
 ·obtain⟨v',h1,A1,c1,e1,h2,h3⟩:=r.row i hi;rw[hv]at h1;cases h1;rw[ev]at e1;cases e1;subst ea;obtain⟨ad',ea',hl,-⟩:=h2.at' h0;cases ea';have hn:=h3 h0 ad rfl;rw[hg.block ad.block (by omega) (fun e=>hn (by simp[h_g e.symm]))];rw[hX];exact Below.heap_alloc w o ad.block hl
theorem l_d {xt:Xt}{b g H R C Ka K K' k:Nat}{M q:Nat->Nat->Int}{ps:List Nat}{h:Int}{s:Bool}{Ap:Option Addr}{cp:Nat}{sa:Bool}{A:Option Addr}{n c:Nat}{rows:List Value}{w wr w1:World}{g' c' ca:Nat}{ad:Addr}{s1:Bool}{A1:Option Addr}{n1 c1:Nat}
  (r:RAt xt b wr g H R C Ka (fun a=>if ps.length<a/\a<R then K' else K) (fun a j=>if ps.length<a/\a<R then q a j else M a j) ps h s (.slice Ap ps.length cp) sa A n c rows)
  (hown:OwnI w1 b 3 (.slice (some ⟨g',0,none⟩) (ps.length+1) c') (ps.length+1) (ints ps++[.int .i64 (k:Int)])) (hgrow:(wr.alloc (.cells #[.int .i64 (k:Int)] 3)).drew.grownBy w1 (Value.slice Ap ps.length cp).ownBlock)
  (hat:(Value.slice Ap ps.length cp).ownBlock=some g'\/g'=(wr.alloc (.cells #[.int .i64 (k:Int)] 3)).drew.heap.size) (B0:Below b w wr) (hb:b<=w.heap.size) (hk:k<C) (hP:ps.length<R) (erN:rows[ps.length]? =some (.slice (some ad) C ca)) (e1:wr.cell? (ad.add (k*2))=some (.bool s1)) (e2:wr.cell? ⟨(ad.add (k*2)).block,(ad.add (k*2)).off+1,none⟩=some (.slice A1 n1 c1))
  (hz:Zc wr s1 A1 n1 c1 (M ps.length k)) (hk1:n1<=K) (hKa:Ka<=K) (hK:2*K+1<=K'):
  Hid (CbPost xt b w g H R C K K' k M q ps s (.returned (.tuple #[])) (((w1.setCell ⟨g,1,none⟩ (.slice (some ⟨g',0,none⟩) (ps.length+1) c')).setCell ⟨g,2,none⟩ (.bool s1)).setCell ⟨g,3,none⟩ (.slice A1 n1 c1)))/\
  (w1.cell? ⟨g,0,none⟩=some (.slice (some ⟨H,0,none⟩) R R)/\w1.cell? ⟨g,1,none⟩=some (.slice Ap ps.length cp)/\w1.cell? ⟨g,2,none⟩=some (.bool sa)/\w1.cell? ⟨g,3,none⟩=some (.slice A n c)/\w1.frozen? ⟨g,1,none⟩=false/\w1.frozen? ⟨g,2,none⟩=false/\w1.frozen? ⟨g,3,none⟩=false)/\
  (w1.cell? ⟨H,ps.length,none⟩=some (.slice (some ad) C ca)/\w1.cell? (ad.add (k*2))=some (.bool s1)/\w1.cell? ⟨(ad.add (k*2)).block,(ad.add (k*2)).off+1,none⟩=some (.slice A1 n1 c1))/\
  ((w1.setCell ⟨g,1,none⟩ (.slice (some ⟨g',0,none⟩) (ps.length+1) c')).cell? ⟨g,0,none⟩=some (.slice (some ⟨H,0,none⟩) R R)/\(w1.setCell ⟨g,1,none⟩ (.slice (some ⟨g',0,none⟩) (ps.length+1) c')).cell? ⟨g,2,none⟩=some (.bool sa)/\(w1.setCell ⟨g,1,none⟩ (.slice (some ⟨g',0,none⟩) (ps.length+1) c')).cell? ⟨g,3,none⟩=some (.slice A n c)/\
   (w1.setCell ⟨g,1,none⟩ (.slice (some ⟨g',0,none⟩) (ps.length+1) c')).cell? ⟨H,ps.length,none⟩=some (.slice (some ad) C ca)/\(w1.setCell ⟨g,1,none⟩ (.slice (some ⟨g',0,none⟩) (ps.length+1) c')).cell? (ad.add (k*2))=some (.bool s1)/\(w1.setCell ⟨g,1,none⟩ (.slice (some ⟨g',0,none⟩) (ps.length+1) c')).cell? ⟨(ad.add (k*2)).block,(ad.add (k*2)).off+1,none⟩=some (.slice A1 n1 c1)/\
   (w1.setCell ⟨g,1,none⟩ (.slice (some ⟨g',0,none⟩) (ps.length+1) c')).frozen? ⟨g,2,none⟩=false/\(w1.setCell ⟨g,1,none⟩ (.slice (some ⟨g',0,none⟩) (ps.length+1) c')).frozen? ⟨g,3,none⟩=false):=by
 obtain⟨b1,b2,b3⟩:=r.grew hgrow rfl;have hbl:=b3 _ _ hP (by omega) erN _ _ rfl _ rfl;have d1:w1.cell? (ad.add (k*2))=some (.bool s1):=(World.cell?_of_block (by rw[a_a];exact hbl)).trans e1;have d2:w1.cell? ⟨(ad.add (k*2)).block,(ad.add (k*2)).off+1,none⟩=some (.slice A1 n1 c1):=(World.cell?_of_block (by show w1.heap[(ad.add (k*2)).block]? =_;rw[a_a];exact hbl)).trans e2;have d0:w1.cell? ⟨H,ps.length,none⟩=some (.slice (some ad) C ca):=(b2.cell _).trans erN;have hne:ad.block≠g:=by
  obtain⟨v,h1,A',c',e,-,h3⟩:=r.row _ hP;rw[erN]at h1;cases h1;cases e;exact fun e=>h3 (by omega) ad rfl (by simp[e])
 obtain⟨v',hv'⟩:∃v',Value.slice (some ⟨g',0,none⟩) (ps.length+1) c'=v':=⟨_,rfl⟩;have BX:Below wr.heap.size wr (wr.alloc (.cells #[.int .i64 (k:Int)] 3)).drew:=by
  have:=zba wr (.cells #[.int .i64 (k:Int)] 3);exact⟨this.os,this.tape,this.output,this.size,this.block⟩
 have rX:=r.below BX;have hG:Grew (wr.alloc (.cells #[.int .i64 (k:Int)] 3)).drew w1 (.slice Ap ps.length cp) (.slice (some ⟨g',0,none⟩) (ps.length+1) c'):=⟨hgrow,fun x hx=>rX.own.wless hx,by
  rcases hat with e|e
  ·left;rw[e];rfl
  ·right;rw[<-e];rfl⟩
 have hbX:b<=(wr.alloc (.cells #[.int .i64 (k:Int)] 3)).drew.heap.size:=Nat.le_trans hb (Nat.le_trans B0.size BX.size);have rY:RAt xt b (wr.alloc (.cells #[.int .i64 (k:Int)] 3)).drew g H R C K (fun _=>K') (fun i j=>if i<=ps.length then M i j else q i j) ps h s (.slice Ap ps.length cp) sa A n c rows:=
  (rX.mono (Ka':=K) (K':=fun _=>K') hKa (fun a ha=>by split<;>omega)).congr fun a j ha hj=>by
   by_cases e:a<=ps.length
   ·rw[if_pos e,if_neg (by omega)]
   ·rw[if_neg e,if_pos (by omega)]
 have rp:=rY.push (p:=k) hown hG hbX (hz.below BX) hk1;have hB1:Below b w w1:=(B0.trans (BX.mono (Nat.le_trans hb B0.size))).trans ⟨hgrow.os,hgrow.tape,hgrow.output,hgrow.size,fun x hx=>hgrow.block x (by omega) (fun e=>by have:=(rX.own.lt e.symm).1;omega)⟩;have b1':=b1.set 1 (.slice (some ⟨g',0,none⟩) (ps.length+1) c');have hne2:∀(p:Addr),p.block≠g->(w1.setCell ⟨g,1,none⟩ (.slice (some ⟨g',0,none⟩) (ps.length+1) c')).cell? p=w1.cell? p:=fun p hp=>World.cell?_of_block (Below.heap_setCell _ _ _ _ (fun e=>hp (by rw[e])));refine⟨Lib.hid ⟨rfl, ?_,_,_,_,_,_,_,rp⟩,⟨b1.cell 0,b1.cell 1,b1.cell 2,b1.cell 3,b1.free 1,b1.free 2,b1.free 3⟩,⟨d0,d1,d2⟩,⟨b1'.cell 0,b1'.cell 2,b1'.cell 3, ?_, ?_, ?_,b1'.free 2,b1'.free 3⟩⟩
 ·exact((hB1.setCell r.bg _).setCell r.bg _).setCell r.bg _
 ·rw[hne2 _ (Ne.symm r.ne)];exact d0
 ·rw[hne2 _ (by rw[a_a];exact hne)];exact d1
 ·rw[hne2 _ (by show(ad.add (k*2)).block≠g;rw[a_a];exact hne)];exact d2
theorem p_4 {xt:Xt}{b g H R C Ka K K' k:Nat}{M q:Nat->Nat->Int}{ps:List Nat}{h:Int}{s:Bool}{vp:Value}{sa:Bool}{A:Option Addr}{n c:Nat}{rows:List Value}{w:World}(r:RAt xt b w g H R C Ka (fun _=>K) M ps h s vp sa A n c rows)(hb:b<=w.heap.size)(hk:k<C)(hP:ps.length<R)(hR:R<=1048576)(hC:C<=1048576)(h0:h≠0)(hz0:∀i j,ps.length<=i->i<R->j<k->M i j=0)
  (hq:∀i j,ps.length<i->i<R->j<C->q i j*h=M ps.length k*M i j - M i k*M ps.length j) (hKa:Ka<=K) (hK:2*K+1<=K') (hK':K'<=549755813888):
  Calls Try.prog 59 #[.pointer (some ⟨g,0,none⟩),.int .i64 (k:Int)] w (CbPost xt b w g H R C K K' k M q ps s):=by
 obtain⟨Ap,cp,rfl⟩:=r.vpf;have HR:=Lib.hid r;have HQ:=Lib.hid hq;have HZ0:=Lib.hid hz0;obtain⟨N,hN⟩:∃N,ps.length=N:=⟨_,rfl⟩;have HN:=Lib.hid hN;rw[hN]at hP;have bx:=r.bx;rw[hN]at bx;clear r hq hz0;go_enter Try.func59,Try.ntmps59
 go_upto_region 0 with fail
 refine Run.start 6 ?_;refine .mv .o ?_;refine .nc (.i 0) ?_;refine .fa (.i 1) (fE1 1) ?_;refine .ld (.i 2) (ldIs bx 1) ?_;refine .len (.i 3) Try.underlying40 ?_;refine .mv (.i 4) ?_;refine .donep [some 6,some 7,some 8,some 9,some 10,some 4] ?_;intro w2 B2;refine sh [] ?_;simp only[Act.put,lS,lZ,lC];have H0:Hid (Below b w w2/\∃rows',RAt xt b w2 g H R C Ka (fun a=>if N<a/\a<N+1 then K' else K) (fun a j=>if N<a/\a<N+1 then q a j else M a j) ps h s (.slice Ap ps.length cp) sa A n c rows'):=Lib.hid ⟨B2.mono hb,rows,by
  have e1:(fun a=>if N<a/\a<N+1 then K' else K)=fun _=>K:=by funext a;rw[if_neg (by omega)]
  have e2:(fun a j=>if N<a/\a<N+1 then q a j else M a j)=M:=by funext a j;rw[if_neg (by omega)]
  rw[e1,e2];exact HR.out.below B2⟩
 clear B2 bx hN
 go_wp2_with fail
 go_loopw [5] (fun s5 wr=>∃i:Nat,s5= .int .i64 (i:Int)/\N<i/\i<=R/\Hid (Below b w wr/\∃rows',RAt xt b wr g H R C Ka (fun a=>if N<a/\a<i then K' else K) (fun a j=>if N<a/\a<i then q a j else M a j) ps h s (.slice Ap ps.length cp) sa A n c rows')) (fun s5 _=>R - (intOf s5).toNat)
 case atStart=>exact⟨N+1,by go_num,by omega,by omega,H0⟩
 case round=>
  obtain⟨i,rfl,hNi,hiR,HB⟩:=hrel;obtain⟨B0,rows',r⟩:=HB.out;have c0:wr.cell? ⟨g,0,none⟩=some (.slice (some ⟨H,0,none⟩) R R):=r.bx.cell 0;by_cases hlt:i<R
  ·have u2:(i:Int)<(R:Int):=by omega
   have hNR:N<R:=by omega
   have HRr:=Lib.hid r;have bx:=r.bx;have hd:=r.hd;obtain⟨vN,erN,AN,cN,rfl,zlN,-⟩:=r.row N hNR;obtain⟨vi,eri,Ai,ci,rfl,zli,-⟩:=r.row i hlt;simp only[if_neg (show ¬(N<N/\N<i) by omega)]at zlN;simp only[if_neg (show ¬(N<i/\i<i) by omega)]at zli;have HZN:=Lib.hid zlN;have HZi:=Lib.hid zli;have haz:=r.az;have han:=r.an;clear r HB zlN zli;go_upto_region 4 with fail
   clear c0;refine Run.start 23 ?_;refine .mv .o ?_;refine .nc (.i 0) ?_;refine .fa (.i 1) (fE0 0) ?_;refine .ld (.i 2) (ldSS bx 0) ?_;refine .mv .o ?_;refine .mv .o ?_;refine .mv .o ?_;refine .nc (.i 6) ?_;refine .fa (.i 7) (fE0 0) ?_;refine .ld (.i 8) (ldSS bx 0) ?_;refine .mv .o ?_;refine .two (.i 9) (.i 10) (opIxS hNR) ?_;refine .ld (.i 11) (ldSl hd N erN) ?_;refine .mv .o ?_;refine .nc (.i 13) ?_;refine .fa (.i 14) (fE0 0) ?_;refine .ld (.i 15) (ldSS bx 0) ?_;refine .mv .o ?_;refine .two (.i 16) (.i 17) (opIxS hlt) ?_;refine .ld (.i 18) (ldSl hd i eri) ?_;refine .mv .o ?_;refine .c4 (.i 5) (.i 12) (.i 19) (.i 20) (x:=kRow wr.heap.size C K' (q i)) (by rintro u v x y w6 hB rfl rfl rfl rfl;exact step_q' (bx.below hB) (haz.below hB) (by omega) (HZN.out.below hB) (HZi.out.below hB) hk h0 (fun j hj=>HZ0.out N j (by have:=HN.out;omega) hNR hj) (fun j hj=>HZ0.out i j (by have:=HN.out;omega) hlt hj) (fun j hj=>HQ.out i j (by rw[HN.out];exact hNi) hlt hj |>.trans (by rw[HN.out])) hC hK hK' hB.size) ?_;refine .two (.i 3) (.i 4) (opIxS hlt) ?_;refine .done [some 22,some 23,some 24,some 25,some 26,some 27,some 28,some 29,some 30,some 31,some 32,some 33,some 34,some 35,some 36,some 37,some 38,some 39,some 40,some 41,some 42,some 43,some 44] ?_;intro w4 B4;rintro v ⟨x,rfl,hzl,hx⟩;refine sh [_] ?_;simp only[Act.put,lS,lZ,lC];have r4:=HRr.out.below B4;have x1:=(r4.hd.cell i).trans eri;have y1:=r4.hd.free i;have rp:=r4.put hlt (HRr.out.fresh hx hzl);have HS:Hid (Below b w (w4.setCell ⟨H,i,none⟩ (.slice (some ⟨x,0,none⟩) C C))/\∃rows',RAt xt b (w4.setCell ⟨H,i,none⟩ (.slice (some ⟨x,0,none⟩) C C)) g H R C Ka (fun a=>if N<a/\a<i+1 then K' else K) (fun a j=>if N<a/\a<i+1 then q a j else M a j) ps h s (.slice Ap ps.length cp) sa A n c rows'):=Lib.hid ⟨(B0.trans (B4.mono (Nat.le_trans hb B0.size))).setCell r4.bh _,_,by
    have e1:(fun a=>if N<a/\a<i+1 then K' else K)=fun a=>if a=i then K' else if N<a/\a<i then K' else K:=by
     funext a
     by_cases e:a=i
     ·rw[if_pos e,if_pos (by omega)]
     ·rw[if_neg e];by_cases e2:N<a/\a<i
      ·rw[if_pos e2,if_pos (by omega)]
      ·rw[if_neg e2,if_neg (by omega)]
    rw[e1];exact rp.congr fun a j ha hj=>by
     by_cases e:a=i
     ·rw[if_pos e,if_pos (by omega),e]
     ·rw[if_neg e];by_cases e2:N<a/\a<i
      ·rw[if_pos e2,if_pos (by omega)]
      ·rw[if_neg e2,if_neg (by omega)]⟩
   clear r4 rp hzl haz bx hd B4 B0
   go_wp2_with fail
   go_roundw
   case rel=>exact⟨i+1,by go_num,by omega,by omega,HS⟩
   case measure=>first|(simp[intOf];done)|(simp[intOf];omega)
  ·obtain rfl:i=R:=by omega
   have u2:¬(i:Int)<(i:Int):=by omega
   have bx:=r.bx;have hd:=r.hd;obtain⟨ad,ca,s1,A1,n1,c1,erN,hab,e1,e2,hz,hk1⟩:=r.numb (show N<i by omega) hk;simp only[if_neg (show ¬(N<N/\N<i) by omega)]at hz hk1;have HRr:=Lib.hid r;clear r HB;go_upto_region 5 with fail
   have eN:=HN.out;subst eN;have c1:wr.cell? ⟨g,1,none⟩=some (.slice Ap ps.length cp):=bx.cell 1;have c2:wr.cell? ⟨g,2,none⟩=some (.bool sa):=bx.cell 2;have c3:wr.cell? ⟨g,3,none⟩=some (.slice A n c):=bx.cell 3;have d0:wr.cell? ⟨H,ps.length,none⟩=some (.slice (some ad) C ca):=(hd.cell _).trans erN;have n1_:=World.new_ne wr _ c0;have n2_:=World.new_ne wr _ d0;have n3_:=World.new_ne wr _ e1;obtain⟨i0,hi,hz0,hz1,hz2⟩:=info_parts info_int';have ho:=HRr.out.own;have hoX:OwnI (wr.alloc (.cells #[.int .i64 (k:Int)] 3)).drew b 3 (.slice Ap ps.length cp) ps.length (ints ps):=by
    have:=ho.below (zba wr (.cells #[.int .i64 (k:Int)] 3));exact⟨this.1,this.2⟩
   have hX1:(wr.alloc (.cells #[.int .i64 (k:Int)] 3)).drew.cell? ⟨wr.heap.size,0,none⟩=some (.int .i64 (k:Int)):=cell_one_new' wr _ _;have BA:=zba wr (.cells #[.int .i64 (k:Int)] 3);have a0:=(BA.cell (p:=⟨g,0,none⟩) bx.lt).trans c0;have a1:=(BA.cell (p:=⟨g,1,none⟩) bx.lt).trans c1;have a2:=(BA.cell (p:=⟨H,ps.length,none⟩) hd.lt).trans d0;have a3:=(BA.cell (p:=ad.add (k*2)) (by rw[a_a];exact hab)).trans e1;have a4:=(BA.cell (p:=⟨(ad.add (k*2)).block,(ad.add (k*2)).off+1,none⟩) (by show(ad.add (k*2)).block<_;rw[a_a];exact hab)).trans e2;go_region_law ((refine l_p (by rfl) _ _ _ (by rfl) b 3 i0 8 (.int .i64 0) Try.underlying40 hi hz0 hz1 hz2 rfl nwd_int (by omega) (.slice Ap ps.length cp) ps.length (ints ps) (by rfl) hoX ⟨wr.heap.size,0,none⟩ (u:=.int .i64 (k:Int)) hX1 (by rfl) (by intro m e;cases e) (by rfl) (by omega) (by have:=B0.size;show b<=(wr.alloc _).heap.size;simp;omega) ?_;intro g' c' w1 hown hgrow hat;obtain⟨P,D1,D2,D3⟩:=l_d HRr.out hown hgrow hat B0 hb hk hP erN e1 e2 hz hk1 hKa hK;obtain⟨q0,q1,q2,q3,f1_,f2_,f3_⟩:=D1;obtain⟨q4,q5,q6⟩:=D2;obtain⟨v0,v2,v3,v4,v5,v6,f4_,f5_⟩:=D3))
   all_goals
    go_end0
    exact P.out
end Go.Proofs.Ytlgjjnmmepgafaa
