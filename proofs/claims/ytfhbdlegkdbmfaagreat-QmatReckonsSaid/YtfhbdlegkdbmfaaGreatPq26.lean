/- Pq26 -/
import Derived.Test.YtfhbdlegkdbmfaaGreatPq25
import Derived.RegionTactic
import Derived.BigRegion
import Derived.Deep.RegionLaw
set_option linter.unusedVariables false
set_option linter.unusedSimpArgs false
set_option linter.unusedSectionVars false
set_option maxRecDepth 100000
set_option maxHeartbeats 8000000
namespace Go.Proofs.YtfhbdlegkdbmfaaGreat
section
open Go.RowKit
theorem RAt.fresh {xt:Xt}{b g H R C Ka:Nat}{K:Nat->Nat}{M:Nat->Nat->Int}{ps:List Nat}{h:Int}{s:Bool}{vp:Value}{sa:Bool}{A:Option Addr}{n c:Nat}{rows:List Value}{w w':World}{f:Nat->Int}{kv x:Nat}{Cc:Nat}(r:RAt xt b w g H R C Ka K M ps h s vp sa A n c rows)(hx:w.heap.size<=x)(hz:ZL true w' (some ⟨x,0,none⟩) C Cc kv (rw' C f)):RowOk w' (g::H::blkOf vp) (.slice (some ⟨x,0,none⟩) C Cc) C kv f:=by
 refine⟨_,Cc,rfl,hz,fun h0 ad e hm=>?_⟩;cases e;have hg:=r.bx.lt;have hh:=r.hd.lt;simp only[List.mem_cons]at hm;rcases hm with hm|hm|hm
 ·omega
 ·omega
 ·unfold blkOf at hm;cases hv:vp.ownBlock with
  |none=>rw[hv]at hm;simp at hm
  |some y=>
   rw[hv]at hm
   have:=(r.own.lt hv).2;simp at hm;omega
theorem step_q' {xt:Xt}{g k C K K' n c cu cl b0:Nat}{v0 vp:Value}{sa s:Bool}{A Au Al:Option Addr}{h:Int}{U L q:Nat->Int}{w:World}(bx:Bx w g xt.T (v0::vp:: .bool sa:: .slice A n c:: .bool s::xt.ex))(az:Zc w sa A n c h)(hn:n<=K)
  (hU:ZL true w Au C cu K (rw' C U)) (hL:ZL true w Al C cl K (rw' C L)) (hk:k<C) (h0:h≠0) (hu:∀j,j<k->U j=0) (hl:∀j,j<k->L j=0) (hq:∀j,j<C->q j*h=U k*L j - L k*U j) (hC:C<=1048576) (hK:2*K+1<=K') (hK':K'<=549755813888) (hb:b0<=w.heap.size):
  Calls Tryz.prog 215 #[.pointer (some ⟨g,0,none⟩),.slice Au C cu,.slice Al C cl,.int .i64 (k:Int)] w (RetK (kRow b0 C K' q) w):=
 (x_f bx az hn hU hL hk h0 hu hl hq hC hK hK').mono fun e w' h=>h.mono fun v w2 ⟨x,e,h1,h2⟩=>⟨x,e,h1,Nat.le_trans hb h2⟩
theorem info_int':(Tryz.prog.info? 3).map (fun i=>(i.zero,i.size,i.bytes))=some (some (.int .i64 0),1,8):=by kernel_rfl
theorem nwd_int:∀u,u∈(Value.int .i64 0).cells.toList->NWd u:=by
 intro u hu m e;simp[Value.cells]at hu;subst hu;cases e
theorem cell_one_new' (w:World)(v:Value)(T:TypeId):(w.alloc (.cells #[v] T)).cell? ⟨w.heap.size,0,none⟩=some v:=(Bx.new w T [v]).cell 0
def CbPost (xt:Xt)(b:Nat)(w:World)(g H R C K K' k:Nat)(M q:Nat->Nat->Int)(ps:List Nat)(s:Bool)(e:Ending)(w':World):Prop:=
 e= .returned (.tuple #[])/\Below b w w'/\∃vp sa A n c rows,RAt xt b w' g H R C K (fun _=>K') (fun i j=>if i<=ps.length then M i j else q i j) (ps++[k]) (M ps.length k) s vp sa A n c rows
theorem RAt.grew {xt:Xt}{b g H R C Ka:Nat}{K:Nat->Nat}{M:Nat->Nat->Int}{ps:List Nat}{h:Int}{s:Bool}{vp:Value}{sa:Bool}{A:Option Addr}{n c:Nat}{rows:List Value}{w X w1:World}{o:Obj}(r:RAt xt b w g H R C Ka K M ps h s vp sa A n c rows)(hg:X.grownBy w1 vp.ownBlock)(hX:X.heap=(w.alloc o).heap):Bx w1 g xt.T (.slice (some ⟨H,0,none⟩) R R::vp:: .bool sa:: .slice A n c:: .bool s::xt.ex)/\Bx w1 H 25 rows/\∀i v,i<R->0<C->rows[i]? =some v->∀A' c',v= .slice A' C c'->∀ad:Addr,A'=some ad->w1.heap[ad.block]? =w.heap[ad.block]? :=by
 have hs:X.heap.size=w.heap.size+1:=by rw[hX];simp
 refine⟨?_, ?_,fun i v hi h0 hv A' c' ev ad ea=>?_⟩
 ·have hl:=r.bx.lt;exact(hg.block g (by omega) (Ne.symm r.pg)).trans ((by rw[hX];exact Below.heap_alloc w o g hl:X.heap[g]? =w.heap[g]?).trans r.bx)
 ·have hl:=r.hd.lt;exact(hg.block H (by omega) (Ne.symm r.ph)).trans ((by rw[hX];exact Below.heap_alloc w o H hl:X.heap[H]? =w.heap[H]?).trans r.hd)
 ·obtain⟨v',h1,A1,c1,e1,h2,h3⟩:=r.row i hi;rw[hv]at h1;cases h1;rw[ev]at e1;cases e1;subst ea;obtain⟨ad',ea',hl,-⟩:=h2.at' h0;cases ea';have hn:=h3 h0 ad rfl;rw[hg.block ad.block (by omega) (fun e=>hn (by simp[k_5 e.symm]))];rw[hX];exact Below.heap_alloc w o ad.block hl
theorem q_j {xt:Xt}{b g H R C Ka K K' k:Nat}{M q:Nat->Nat->Int}{ps:List Nat}{h:Int}{s:Bool}{Ap:Option Addr}{cp:Nat}{sa:Bool}{A:Option Addr}{n c:Nat}{rows:List Value}{w wr w1:World}{g' c' ca:Nat}{ad:Addr}{s1:Bool}{A1:Option Addr}{n1 c1:Nat}
  (r:RAt xt b wr g H R C Ka (fun a=>if ps.length<a/\a<R then K' else K) (fun a j=>if ps.length<a/\a<R then q a j else M a j) ps h s (.slice Ap ps.length cp) sa A n c rows)
  (hown:OwnI w1 b 3 (.slice (some ⟨g',0,none⟩) (ps.length+1) c') (ps.length+1) (ints ps++[.int .i64 (k:Int)])) (hgrow:(wr.alloc (.cells #[.int .i64 (k:Int)] 3)).drew.grownBy w1 (Value.slice Ap ps.length cp).ownBlock)
  (hat:(Value.slice Ap ps.length cp).ownBlock=some g'\/g'=(wr.alloc (.cells #[.int .i64 (k:Int)] 3)).drew.heap.size) (B0:Below b w wr) (hb:b<=w.heap.size) (hk:k<C) (hP:ps.length<R) (erN:rows[ps.length]? =some (.slice (some ad) C ca)) (e1:wr.cell? (ad.add (k*2))=some (.bool s1)) (e2:wr.cell? ⟨(ad.add (k*2)).block,(ad.add (k*2)).off+1,none⟩=some (.slice A1 n1 c1))
  (hz:Zc wr s1 A1 n1 c1 (M ps.length k)) (hk1:n1<=K) (hKa:Ka<=K) (hK:2*K+1<=K'):
  Hid (CbPost xt b w g H R C K K' k M q ps s (.returned (.tuple #[])) (((w1.setCell ⟨g,1,none⟩ (.slice (some ⟨g',0,none⟩) (ps.length+1) c')).setCell ⟨g,2,none⟩ (.bool s1)).setCell ⟨g,3,none⟩ (.slice A1 n1 c1)))/\
  (w1.cell? ⟨g,0,none⟩=some (.slice (some ⟨H,0,none⟩) R R)/\w1.cell? ⟨g,1,none⟩=some (.slice Ap ps.length cp)/\w1.cell? ⟨g,2,none⟩=some (.bool sa)/\w1.cell? ⟨g,3,none⟩=some (.slice A n c)/\w1.frozen? ⟨g,1,none⟩=false/\w1.frozen? ⟨g,2,none⟩=false/\w1.frozen? ⟨g,3,none⟩=false)/\
  (w1.cell? ⟨H,ps.length,none⟩=some (.slice (some ad) C ca)/\w1.cell? (ad.add (k*2))=some (.bool s1)/\w1.cell? ⟨(ad.add (k*2)).block,(ad.add (k*2)).off+1,none⟩=some (.slice A1 n1 c1))/\
  ((w1.setCell ⟨g,1,none⟩ (.slice (some ⟨g',0,none⟩) (ps.length+1) c')).cell? ⟨g,0,none⟩=some (.slice (some ⟨H,0,none⟩) R R)/\(w1.setCell ⟨g,1,none⟩ (.slice (some ⟨g',0,none⟩) (ps.length+1) c')).cell? ⟨g,2,none⟩=some (.bool sa)/\(w1.setCell ⟨g,1,none⟩ (.slice (some ⟨g',0,none⟩) (ps.length+1) c')).cell? ⟨g,3,none⟩=some (.slice A n c)/\
   (w1.setCell ⟨g,1,none⟩ (.slice (some ⟨g',0,none⟩) (ps.length+1) c')).cell? ⟨H,ps.length,none⟩=some (.slice (some ad) C ca)/\(w1.setCell ⟨g,1,none⟩ (.slice (some ⟨g',0,none⟩) (ps.length+1) c')).cell? (ad.add (k*2))=some (.bool s1)/\(w1.setCell ⟨g,1,none⟩ (.slice (some ⟨g',0,none⟩) (ps.length+1) c')).cell? ⟨(ad.add (k*2)).block,(ad.add (k*2)).off+1,none⟩=some (.slice A1 n1 c1)/\
   (w1.setCell ⟨g,1,none⟩ (.slice (some ⟨g',0,none⟩) (ps.length+1) c')).frozen? ⟨g,2,none⟩=false/\(w1.setCell ⟨g,1,none⟩ (.slice (some ⟨g',0,none⟩) (ps.length+1) c')).frozen? ⟨g,3,none⟩=false):=by
 obtain⟨b1,b2,b3⟩:=r.grew hgrow rfl;have hbl:=b3 _ _ hP (by omega) erN _ _ rfl _ rfl;have d1:w1.cell? (ad.add (k*2))=some (.bool s1):=(World.cell?_of_block (by rw[a_b];exact hbl)).trans e1;have d2:w1.cell? ⟨(ad.add (k*2)).block,(ad.add (k*2)).off+1,none⟩=some (.slice A1 n1 c1):=(World.cell?_of_block (by show w1.heap[(ad.add (k*2)).block]? =_;rw[a_b];exact hbl)).trans e2;have d0:w1.cell? ⟨H,ps.length,none⟩=some (.slice (some ad) C ca):=(b2.cell _).trans erN;have hne:ad.block≠g:=by
  obtain⟨v,h1,A',c',e,-,h3⟩:=r.row _ hP;rw[erN]at h1;cases h1;cases e;exact fun e=>h3 (by omega) ad rfl (by simp[e])
 obtain⟨v',hv'⟩:∃v',Value.slice (some ⟨g',0,none⟩) (ps.length+1) c'=v':=⟨_,rfl⟩;have BX:Below wr.heap.size wr (wr.alloc (.cells #[.int .i64 (k:Int)] 3)).drew:=by
  have:=zba wr (.cells #[.int .i64 (k:Int)] 3);exact⟨this.os,this.tape,this.output,this.size,this.block⟩
 have rX:=r.below BX;have hG:Grew (wr.alloc (.cells #[.int .i64 (k:Int)] 3)).drew w1 (.slice Ap ps.length cp) (.slice (some ⟨g',0,none⟩) (ps.length+1) c'):=⟨hgrow,fun x hx=>rX.own.wless hx,by
  rcases hat with e|e
  ·left;rw[e];rfl
  ·right;rw[<-e];rfl⟩
 have hbX:b<=(wr.alloc (.cells #[.int .i64 (k:Int)] 3)).drew.heap.size:=Nat.le_trans hb (Nat.le_trans B0.size BX.size);have rY:RAt xt b (wr.alloc (.cells #[.int .i64 (k:Int)] 3)).drew g H R C K (fun _=>K') (fun i j=>if i<=ps.length then M i j else q i j) ps h s (.slice Ap ps.length cp) sa A n c rows:=
  (rX.mono (Ka':=K) (K':=fun _=>K') hKa (fun a ha=>by split<;>omega)).congr fun a j ha hj=>by
   by_cases e:a<=ps.length
   ·rw[if_pos e,if_neg (by omega)]
   ·rw[if_neg e,if_pos (by omega)]
 have rp:=rY.push (p:=k) hown hG hbX (hz.below BX) hk1;have hB1:Below b w w1:=(B0.trans (BX.mono (Nat.le_trans hb B0.size))).trans ⟨hgrow.os,hgrow.tape,hgrow.output,hgrow.size,fun x hx=>hgrow.block x (by omega) (fun e=>by have:=(rX.own.lt e.symm).1;omega)⟩;have b1':=b1.set 1 (.slice (some ⟨g',0,none⟩) (ps.length+1) c');have hne2:∀(p:Addr),p.block≠g->(w1.setCell ⟨g,1,none⟩ (.slice (some ⟨g',0,none⟩) (ps.length+1) c')).cell? p=w1.cell? p:=fun p hp=>World.cell?_of_block (Below.heap_setCell _ _ _ _ (fun e=>hp (by rw[e])));refine⟨Lib.hid ⟨rfl, ?_,_,_,_,_,_,_,rp⟩,⟨b1.cell 0,b1.cell 1,b1.cell 2,b1.cell 3,b1.free 1,b1.free 2,b1.free 3⟩,⟨d0,d1,d2⟩,⟨b1'.cell 0,b1'.cell 2,b1'.cell 3, ?_, ?_, ?_,b1'.free 2,b1'.free 3⟩⟩
 ·exact((hB1.setCell r.bg _).setCell r.bg _).setCell r.bg _
 ·rw[hne2 _ (Ne.symm r.ne)];exact d0
 ·rw[hne2 _ (by rw[a_b];exact hne)];exact d1
 ·rw[hne2 _ (by show(ad.add (k*2)).block≠g;rw[a_b];exact hne)];exact d2
theorem w_q {xt:Xt}{b g H R C Ka K K' k:Nat}{M q:Nat->Nat->Int}{ps:List Nat}{h:Int}{s:Bool}{vp:Value}{sa:Bool}{A:Option Addr}{n c:Nat}{rows:List Value}{w:World}(r:RAt xt b w g H R C Ka (fun _=>K) M ps h s vp sa A n c rows)(hb:b<=w.heap.size)(hk:k<C)(hP:ps.length<R)(hR:R<=1048576)(hC:C<=1048576)(h0:h≠0)(hz0:∀i j,ps.length<=i->i<R->j<k->M i j=0)
  (hq:∀i j,ps.length<i->i<R->j<C->q i j*h=M ps.length k*M i j - M i k*M ps.length j) (hKa:Ka<=K) (hK:2*K+1<=K') (hK':K'<=549755813888):
  Calls Tryz.prog 194 #[.pointer (some ⟨g,0,none⟩),.int .i64 (k:Int)] w (CbPost xt b w g H R C K K' k M q ps s):=by
 obtain⟨Ap,cp,rfl⟩:=r.vpf;have HR:=Lib.hid r;have HQ:=Lib.hid hq;have HZ0:=Lib.hid hz0;obtain⟨N,hN⟩:∃N,ps.length=N:=⟨_,rfl⟩;have HN:=Lib.hid hN;rw[hN]at hP;have bx:=r.bx;rw[hN]at bx;clear r hq hz0;go_enter Tryz.func194,Tryz.ntmps194
 go_upto_region 0 with fail
 refine Run.start 6 ?_;refine .mv .o ?_;refine .nc (.i 0) ?_;refine .fa (.i 1) (fE1 1) ?_;refine .ld (.i 2) (ldIs bx 1) ?_;refine .len (.i 3) Tryz.underlying150 ?_;refine .mv (.i 4) ?_;refine .donep [some 6,some 7,some 8,some 9,some 10,some 4] ?_;intro w2 B2;refine sh [] ?_;simp only[Act.put,lS,lZ,lC];have H0:Hid (Below b w w2/\∃rows',RAt xt b w2 g H R C Ka (fun a=>if N<a/\a<N+1 then K' else K) (fun a j=>if N<a/\a<N+1 then q a j else M a j) ps h s (.slice Ap ps.length cp) sa A n c rows'):=Lib.hid ⟨B2.mono hb,rows,by
  have e1:(fun a=>if N<a/\a<N+1 then K' else K)=fun _=>K:=by funext a;rw[if_neg (by omega)]
  have e2:(fun a j=>if N<a/\a<N+1 then q a j else M a j)=M:=by funext a j;rw[if_neg (by omega)]
  rw[e1,e2];exact HR.out.below B2⟩
 clear B2 bx hN
 go_wp2_with fail
 go_loopw [5] (fun s5 wr=>∃i:Nat,s5= .int .i64 (i:Int)/\N<i/\i<=R/\Hid (Below b w wr/\∃rows',RAt xt b wr g H R C Ka (fun a=>if N<a/\a<i then K' else K) (fun a j=>if N<a/\a<i then q a j else M a j) ps h s (.slice Ap ps.length cp) sa A n c rows')) (fun s5 _=>R - (intOf s5).toNat)
 case atStart=>exact⟨N+1,by go_num,by omega,by omega,H0⟩
 case round=>
  obtain⟨i,rfl,hNi,hiR,HB⟩:=hrel;obtain⟨B0,rows',r⟩:=HB.out;have c0:wr.cell? ⟨g,0,none⟩=some (.slice (some ⟨H,0,none⟩) R R):=r.bx.cell 0;by_cases hlt:i<R
  ·have u2:(i:Int)<(R:Int):=by omega
   have hNR:N<R:=by omega
   have HRr:=Lib.hid r;have bx:=r.bx;have hd:=r.hd;obtain⟨vN,erN,AN,cN,rfl,zlN,-⟩:=r.row N hNR;obtain⟨vi,eri,Ai,ci,rfl,zli,-⟩:=r.row i hlt;simp only[if_neg (show ¬(N<N/\N<i) by omega)]at zlN;simp only[if_neg (show ¬(N<i/\i<i) by omega)]at zli;have HZN:=Lib.hid zlN;have HZi:=Lib.hid zli;have haz:=r.az;have han:=r.an;clear r HB zlN zli;go_upto_region 4 with fail
   clear c0;refine Run.start 23 ?_;refine .mv .o ?_;refine .nc (.i 0) ?_;refine .fa (.i 1) (fE0 0) ?_;refine .ld (.i 2) (ldSS bx 0) ?_;refine .mv .o ?_;refine .mv .o ?_;refine .mv .o ?_;refine .nc (.i 6) ?_;refine .fa (.i 7) (fE0 0) ?_;refine .ld (.i 8) (ldSS bx 0) ?_;refine .mv .o ?_;refine .two (.i 9) (.i 10) (opIxS hNR) ?_;refine .ld (.i 11) (ldSl hd N erN) ?_;refine .mv .o ?_;refine .nc (.i 13) ?_;refine .fa (.i 14) (fE0 0) ?_;refine .ld (.i 15) (ldSS bx 0) ?_;refine .mv .o ?_;refine .two (.i 16) (.i 17) (opIxS hlt) ?_;refine .ld (.i 18) (ldSl hd i eri) ?_;refine .mv .o ?_;refine .c4 (.i 5) (.i 12) (.i 19) (.i 20) (x:=kRow wr.heap.size C K' (q i)) (by rintro u v x y w6 hB rfl rfl rfl rfl;exact step_q' (bx.below hB) (haz.below hB) (by omega) (HZN.out.below hB) (HZi.out.below hB) hk h0 (fun j hj=>HZ0.out N j (by have:=HN.out;omega) hNR hj) (fun j hj=>HZ0.out i j (by have:=HN.out;omega) hlt hj) (fun j hj=>HQ.out i j (by rw[HN.out];exact hNi) hlt hj |>.trans (by rw[HN.out])) hC hK hK' hB.size) ?_;refine .two (.i 3) (.i 4) (opIxS hlt) ?_;refine .done [some 22,some 23,some 24,some 25,some 26,some 27,some 28,some 29,some 30,some 31,some 32,some 33,some 34,some 35,some 36,some 37,some 38,some 39,some 40,some 41,some 42,some 43,some 44] ?_;intro w4 B4;rintro v ⟨x,rfl,hzl,hx⟩;refine sh [_] ?_;simp only[Act.put,lS,lZ,lC];have r4:=HRr.out.below B4;have x1:=(r4.hd.cell i).trans eri;have y1:=r4.hd.free i;have rp:=r4.put hlt (HRr.out.fresh hx hzl);have HS:Hid (Below b w (w4.setCell ⟨H,i,none⟩ (.slice (some ⟨x,0,none⟩) C C))/\∃rows',RAt xt b (w4.setCell ⟨H,i,none⟩ (.slice (some ⟨x,0,none⟩) C C)) g H R C Ka (fun a=>if N<a/\a<i+1 then K' else K) (fun a j=>if N<a/\a<i+1 then q a j else M a j) ps h s (.slice Ap ps.length cp) sa A n c rows'):=Lib.hid ⟨(B0.trans (B4.mono (Nat.le_trans hb B0.size))).setCell r4.bh _,_,by
    have e1:(fun a=>if N<a/\a<i+1 then K' else K)=fun a=>if a=i then K' else if N<a/\a<i then K' else K:=by
     funext a
     by_cases e:a=i
     ·rw[if_pos e,if_pos (by omega)]
     ·rw[if_neg e];by_cases e2:N<a/\a<i
      ·rw[if_pos e2,if_pos (by omega)]
      ·rw[if_neg e2,if_neg (by omega)]
    rw[e1];exact rp.congr fun a j ha hj=>by
     by_cases e:a=i
     ·rw[if_pos e,if_pos (by omega),e]
     ·rw[if_neg e];by_cases e2:N<a/\a<i
      ·rw[if_pos e2,if_pos (by omega)]
      ·rw[if_neg e2,if_neg (by omega)]⟩
   clear r4 rp hzl haz bx hd B4 B0
   go_wp2_with fail
   go_roundw
   case rel=>exact⟨i+1,by go_num,by omega,by omega,HS⟩
   case measure=>first|(simp[intOf];done)|(simp[intOf];omega)
  ·obtain rfl:i=R:=by omega
   have u2:¬(i:Int)<(i:Int):=by omega
   have bx:=r.bx;have hd:=r.hd;obtain⟨ad,ca,s1,A1,n1,c1,erN,hab,e1,e2,hz,hk1⟩:=r.numb (show N<i by omega) hk;simp only[if_neg (show ¬(N<N/\N<i) by omega)]at hz hk1;have HRr:=Lib.hid r;clear r HB;go_upto_region 5 with fail
   have eN:=HN.out;subst eN;have c1:wr.cell? ⟨g,1,none⟩=some (.slice Ap ps.length cp):=bx.cell 1;have c2:wr.cell? ⟨g,2,none⟩=some (.bool sa):=bx.cell 2;have c3:wr.cell? ⟨g,3,none⟩=some (.slice A n c):=bx.cell 3;have d0:wr.cell? ⟨H,ps.length,none⟩=some (.slice (some ad) C ca):=(hd.cell _).trans erN;have n1_:=World.new_ne wr _ c0;have n2_:=World.new_ne wr _ d0;have n3_:=World.new_ne wr _ e1;obtain⟨i0,hi,hz0,hz1,hz2⟩:=info_parts info_int';have ho:=HRr.out.own;have hoX:OwnI (wr.alloc (.cells #[.int .i64 (k:Int)] 3)).drew b 3 (.slice Ap ps.length cp) ps.length (ints ps):=by
    have:=ho.below (zba wr (.cells #[.int .i64 (k:Int)] 3));exact⟨this.1,this.2⟩
   have hX1:(wr.alloc (.cells #[.int .i64 (k:Int)] 3)).drew.cell? ⟨wr.heap.size,0,none⟩=some (.int .i64 (k:Int)):=cell_one_new' wr _ _;have BA:=zba wr (.cells #[.int .i64 (k:Int)] 3);have a0:=(BA.cell (p:=⟨g,0,none⟩) bx.lt).trans c0;have a1:=(BA.cell (p:=⟨g,1,none⟩) bx.lt).trans c1;have a2:=(BA.cell (p:=⟨H,ps.length,none⟩) hd.lt).trans d0;have a3:=(BA.cell (p:=ad.add (k*2)) (by rw[a_b];exact hab)).trans e1;have a4:=(BA.cell (p:=⟨(ad.add (k*2)).block,(ad.add (k*2)).off+1,none⟩) (by show(ad.add (k*2)).block<_;rw[a_b];exact hab)).trans e2;go_region_law ((refine q_4 (by rfl) _ _ _ (by rfl) b 3 i0 8 (.int .i64 0) Tryz.underlying150 hi hz0 hz1 hz2 rfl nwd_int (by omega) (.slice Ap ps.length cp) ps.length (ints ps) (by rfl) hoX ⟨wr.heap.size,0,none⟩ (u:=.int .i64 (k:Int)) hX1 (by rfl) (by intro m e;cases e) (by rfl) (by omega) (by have:=B0.size;show b<=(wr.alloc _).heap.size;simp;omega) ?_;intro g' c' w1 hown hgrow hat;obtain⟨P,D1,D2,D3⟩:=q_j HRr.out hown hgrow hat B0 hb hk hP erN e1 e2 hz hk1 hKa hK;obtain⟨q0,q1,q2,q3,f1_,f2_,f3_⟩:=D1;obtain⟨q4,q5,q6⟩:=D2;obtain⟨v0,v2,v3,v4,v5,v6,f4_,f5_⟩:=D3))
   all_goals
    go_end0
    exact P.out
end
section
open Go.RowKit
theorem u_q {A:Option Addr}{n cap l h m:Nat}(h1:l<=h)(h2:h<=m)(h3:m<=cap)(w:World):(Instr.sliceAt 25 (.slice A n cap) (some (.int .i64 (l:Int))) (some (.int .i64 (h:Int))) (some (.int .i64 (m:Int)))).run Tryz.prog w= .ok (.slice (if m=l then A else A.map (·.add (l*2))) (h - l) (m - l)) w:=by
 have a1:(0:Int)<=(l:Int):=by omega
 have a2:(l:Int)<=(h:Int):=by omega
 have a3:(h:Int)<=(m:Int):=by omega
 have a4:(m:Int)<=(cap:Int):=by omega
 simp[go_sem,Tryz.underlying25,zp_cells,h1,h2,h3]
section
variable {ops:Array Oper}{Q:Exit->Act->World->Prop}{m i:Nat}{a0:Act}{w0:World}{l:List FK}{b:Bool}{id:Nat}
def slO (o:Op):List Operand:=match o with| .slice _ x (some l) (some h) (some m)=>[x,l,h,m] | .slice _ x (some l) (some h) none=>[x,l,h] |_=>[]
def okSl3 (ops:Array Oper)(m i:Nat)(s t u v:Src):Bool:=okH ops m i&&(match(opAt ops i).op with| .slice T x (some l) (some h) (some mx)=>T==25&&s.ok ops m i x&&t.ok ops m i l&&u.ok ops m i h&&v.ok ops m i mx|_=>false)
theorem Run.sl3 (s t u v:Src){A:Option Addr}{n cap x y z:Nat}(h1:x<=y)(h2:y<=z)(h3:z<=cap)(rest:R ops Q m a0 w0 b id (.k (.slice (if z=x then A else A.map (·.add (x*2))) (y - x) (z - x))::l) (i+1))(hx:srcsK l i a0 (slO (opAt ops i).op) [s,t,u,v] [.slice A n cap,.int .i64 (x:Int),.int .i64 (y:Int),.int .i64 (z:Int)]:=by exact⟨rfl,rfl,rfl,rfl,trivial⟩)(hc:okSl3 ops m i s t u v=true:=by kernel_rfl)(hg:Gd l i (opAt ops i):=by first|exact trivial|exact rfl):R ops Q m a0 w0 b id l i:=by
 unfold okSl3 at hc;rw[Bool.and_eq_true]at hc;obtain⟨hh,h4⟩:=hc;refine Run.run (fun a w h=>?_) rest hh hg;split at h4
 ·rename_i T X L H M e;simp only[Bool.and_eq_true,beq_iff_eq]at h4;obtain⟨⟨⟨⟨rfl,k1⟩,k2⟩,k3⟩,k4⟩:=h4;rw[e]at hx;obtain⟨e1,e2,e3,e4,-⟩:=hx;unfold execOp;rw[e];simp only[Option.map_some,h.srcK k1 e1,h.srcK k2 e2,h.srcK k3 e3,h.srcK k4 e4];simp[u_q h1 h2 h3 w]
 ·cases h4
end
def IsHdr (b r:Nat):FVal:=fun v w=>∃H,v= .slice (some ⟨H,0,none⟩) r r/\Bx w H 25 (List.replicate r (.slice none 0 0))/\b<=H
def kHdr (b r:Nat):FK:=.f (IsHdr b r) (fun v w w' ⟨H,e,h1,h2⟩ hb=>⟨H,e,h1.below hb,h2⟩)
theorem info_zs:(Tryz.prog.info? 25).map (fun i=>(i.zero,i.size,i.bytes))=some (some (.slice none 0 0),1,24):=by kernel_rfl
theorem u_r {T:TypeId}(hu:Tryz.prog.underlying T=some (.slice 25))(w:World)(r:Nat)(hr:r<=1048576):(Instr.makeSlice T (.int .i64 (r:Int)) (.int .i64 (r:Int))).run Tryz.prog w= .ok (.slice (some ⟨w.heap.size,0,none⟩) r r) (w.alloc (.cells (List.replicate r (.slice none 0 0)).toArray 25)):=by
 obtain⟨i,hi,hz0,hz1,hz2⟩:=info_parts info_zs;rw[run_make w _ _ i (.slice none 0 0) hu hi hz0 .i64 .i64 (r:Int) (r:Int) (by omega) (Int.le_refl _) (by rw[hz2];omega) (by omega)];rw[hz1];simp[madeCells];congr 2
 apply Array.ext
 ·simp
 ·intro j h1 h2;simp[Value.cells,Nat.mod_one]
section
variable {ops:Array Oper}{Q:Exit->Act->World->Prop}{m i:Nat}{a0:Act}{w0:World}{l:List FK}{b:Bool}{id:Nat}
def mkX (o:Op):Operand:=match o with| .makeSlice _ x _=>x| .box _ x=>x|_=>.func 0
def mkY (o:Op):Operand:=match o with| .makeSlice _ _ y=>y|_=>.func 0
def okMkT (ops:Array Oper)(m i:Nat)(s:Src)(U:TypeId):Bool:=okH ops m i&&(match(opAt ops i).op with| .makeSlice T x y=>T==U&&s.ok ops m i x&&s.ok ops m i y|_=>false)
theorem Run.mkST (s:Src){T:TypeId}{r b0:Nat}(hu:Tryz.prog.underlying T=some (.slice 25))(hr:r<=1048576)(hb0:b0<=w0.heap.size)(rest:R ops Q m a0 w0 b id (kHdr b0 r::l) (i+1))(hx:s.K l i a0 (mkX (opAt ops i).op)= .k (.int .i64 (r:Int)):=by rfl)(hy:s.K l i a0 (mkY (opAt ops i).op)= .k (.int .i64 (r:Int)):=by rfl)(hc:okMkT ops m i s T=true:=by kernel_rfl)(hg:Gd l i (opAt ops i):=by first|exact trivial|exact rfl):R ops Q m a0 w0 b id l i:=by
 unfold okMkT at hc;rw[Bool.and_eq_true]at hc;obtain⟨hh,h4⟩:=hc;refine Run.mem (x:=kHdr b0 r) (fun a w h=>?_) rest (FK.fne _) hh hg;split at h4
 ·rename_i T x y e;simp only[Bool.and_eq_true,beq_iff_eq]at h4;obtain⟨⟨rfl,h2⟩,h3⟩:=h4;rw[e]at hx hy;refine⟨_,_, ?_,⟨w.heap.size,rfl,Bx.new w _ _,Nat.le_trans hb0 h.below.size⟩,zba w _⟩;unfold execOp;rw[e];simp only[h.srcK h2 hx,h.srcK h3 hy];simp[u_r hu w r hr]
 ·cases h4
theorem Run.mkS (s:Src){r b0:Nat}(hr:r<=1048576)(hb0:b0<=w0.heap.size)(rest:R ops Q m a0 w0 b id (kHdr b0 r::l) (i+1))(hx:s.K l i a0 (mkX (opAt ops i).op)= .k (.int .i64 (r:Int)):=by rfl)(hy:s.K l i a0 (mkY (opAt ops i).op)= .k (.int .i64 (r:Int)):=by rfl)(hc:okMkT ops m i s 98=true:=by kernel_rfl)(hg:Gd l i (opAt ops i):=by first|exact trivial|exact rfl):R ops Q m a0 w0 b id l i:=
 Run.mkST s Tryz.underlying98 hr hb0 rest hx hy hc hg
end
end
section
open Go.RowKit
def IsE (H r:Nat):FVal:=fun v w=>∃s A n c,v= .agg #[.slice (some ⟨H,0,none⟩) r r,.slice none 0 0,.bool s,.slice A n c,.bool false]/\Zc w s A n c 1/\n<=1
def kE (H r:Nat):FK:=.f (IsE H r) (fun v w w' ⟨s,A,n,c,e,h3,h4⟩ hb=>⟨s,A,n,c,e,h3.below hb,h4⟩)
section
variable {ops:Array Oper}{Q:Exit->Act->World->Prop}{m i:Nat}{a0:Act}{w0:World}{l:List FK}{b:Bool}{id:Nat}
def bdX (o:Op):Operand × Operand:=match o with| .build _ xs=>(match xs.toList with| [(0,x),(2,y)]=>(x,y)|_=>(.func 0,.func 0))|_=>(.func 0,.func 0)
def okBd (ops:Array Oper)(m i:Nat)(s t:Src):Bool:=okH ops m i&&(match(opAt ops i).op with| .build T xs=>(match xs.toList with| [(0,x),(2,y)]=>T==152&&s.ok ops m i x&&t.ok ops m i y|_=>false)|_=>false)
theorem x_q (w:World)(H r:Nat)(s:Bool)(A:Option Addr)(n c:Nat):(Instr.build 152 #[(0,.slice (some ⟨H,0,none⟩) r r),(2,.agg #[.bool s,.slice A n c])]).run Tryz.prog w= .ok (.agg #[.slice (some ⟨H,0,none⟩) r r,.slice none 0 0,.bool s,.slice A n c,.bool false]) w:=by kernel_rfl
theorem Run.bd (s t:Src){H r:Nat}(rest:R ops Q m a0 w0 b id (kE H r::l) (i+1))(hx:s.K l i a0 (bdX (opAt ops i).op).1= .k (.slice (some ⟨H,0,none⟩) r r):=by rfl)(hy:t.K l i a0 (bdX (opAt ops i).op).2=kC 1 1:=by rfl)(hc:okBd ops m i s t=true:=by kernel_rfl)(hg:Gd l i (opAt ops i):=by first|exact trivial|exact rfl):R ops Q m a0 w0 b id l i:=by
 unfold okBd at hc;rw[Bool.and_eq_true]at hc;obtain⟨hh,h4⟩:=hc;refine Run.val (x:=kE H r) hh (FK.fne _) hg (fun a w h=>?_) rest;split at h4
 ·rename_i T xs e;split at h4
  ·rename_i x y ex;obtain⟨ys⟩:=xs;simp only at ex;subst ex;simp only[Bool.and_eq_true,beq_iff_eq]at h4;obtain⟨⟨rfl,h1⟩,h2⟩:=h4;rw[e]at hx hy;have e1:=h.src h1;have e2:=h.src h2;change(s.K l i a0 x)=_ at hx;change(t.K l i a0 y)=_ at hy;rw[hx]at e1;rw[hy]at e2;obtain⟨s',A,n,c,e15,hz,hn⟩:=e2;have e14:a.eval x= .slice (some ⟨H,0,none⟩) r r:=e1;refine⟨_, ?_,⟨s',A,n,c,rfl,hz,hn⟩⟩;unfold execOp;rw[e];simp only[List.map_toArray,List.map_cons,List.map_nil,e14,e15];simp[x_q]
  ·cases h4
 ·cases h4
end
def eput (w:World)(g:Nat)(v0 v1 v2 v3 v4:Value):World:=((((w.setCell ⟨g,0,none⟩ v0).setCell ⟨g,1,none⟩ v1).setCell ⟨g,2,none⟩ v2).setCell ⟨g,3,none⟩ v3).setCell ⟨g,4,none⟩ v4
theorem s_y (w:World)(g:Nat)(v0 v1 v2 v3 v4:Value):w.grownBy (eput w g v0 v1 v2 v3 v4) (some g):=a_d (q:=⟨g,4,none⟩) (a_d (q:=⟨g,3,none⟩) (a_d (q:=⟨g,2,none⟩) (a_d (q:=⟨g,1,none⟩) (a_d (q:=⟨g,0,none⟩) (a_m w (some g)) rfl _) rfl _) rfl _) rfl _) rfl _
theorem eof_q {H r:Nat}{w:World}:Calls Tryz.prog 168 #[.slice (some ⟨H,0,none⟩) r r] w (RetK (kE H r) w):=by
 obtain⟨w1,hw1,b2,z1,s1⟩:=boxes1 w 152 [.slice none 0 0,.slice none 0 0,.bool false,.slice none 0 0,.bool false];have HW:=Lib.hid hw1;have HZ:=Lib.hid z1;clear hw1 z1 s1;go_enter Tryz.func168,Tryz.ntmps168
 go_upto_region 1 with fail
 rw[HW.out];refine Run.start 3 ?_;refine .mv .o ?_;refine .c1 .o (x:=kC 1 1) (by rintro u w4 hB rfl;exact h_x (by omega) (by omega) w4) ?_;refine .bd (.i 0) (.i 1) (H:=H) (r:=r) ?_;refine .donep [some 3,some 4,some 5] ?_;intro w2 B2;rintro v4 -;rintro v ⟨s_,A_,n_,c_,rfl,hz,hk⟩;refine sh [_] ?_;simp only[Act.put,lS,lZ,lC];replace b2:=b2.below B2;have hgr:=s_y w2 w.heap.size (.slice (some ⟨H,0,none⟩) r r) (.slice none 0 0) (.bool s_) (.slice A_ n_ c_) (.bool false);have P:Hid (RetK (kE H r) w (.returned (.agg #[.slice (some ⟨H,0,none⟩) r r,.slice none 0 0,.bool s_,.slice A_ n_ c_,.bool false])) (eput w2 w.heap.size (.slice (some ⟨H,0,none⟩) r r) (.slice none 0 0) (.bool s_) (.slice A_ n_ c_) (.bool false))):=Lib.hid ⟨_,rfl,⟨s_,A_,n_,c_,rfl,hz.gro (b2.now (by simp)) hgr,hk⟩,a_c (zup HZ.out B2) hgr (Nat.le_refl _)⟩;unfold eput at P;have i0:=b2.cell 0;have i1:=b2.cell 1;have i2:=b2.cell 2;have i3:=b2.cell 3;have i4:=b2.cell 4;have f0:=b2.free 0;have f1:=b2.free 1;have f2:=b2.free 2;have f3:=b2.free 3;have f4:=b2.free 4;simp only[List.getElem?_cons_succ,List.getElem?_cons_zero]at i0 i1 i2 i3 i4;clear b2 hz B2 hgr
 go_wp2_with fail
 exact bodyPost_ret (v:=.agg #[.slice (some ⟨H,0,none⟩) r r,.slice none 0 0,.bool s_,.slice A_ n_ c_,.bool false]) (by simp[results,Tryz.results168,go_sem,i0,i1,i2,i3,i4]) rfl P.out
end
section
open Go.RowKit
def kb (K j:Nat):Nat:=2^j*(K+1) - 1
theorem p_j (K:Nat):kb K 0=K:=by simp[kb]
theorem p_k (K j:Nat):2*kb K j+1=kb K (j+1):=by
 unfold kb;have h:1<=2^j*(K+1):=Nat.mul_pos (Nat.two_pow_pos j) (by omega);rw[Nat.pow_succ,Nat.mul_comm (2^j) 2,Nat.mul_assoc];omega
theorem s_n {K i j:Nat}(h:i<=j):kb K i<=kb K j:=by
 unfold kb;have:2^i*(K+1)<=2^j*(K+1):=Nat.mul_le_mul_right _ (Nat.pow_le_pow_right (by omega) h);omega
def RsAt (xt:Xt)(b:Nat)(w:World)(g R C K j:Nat)(F:Nat->Nat->Int):Prop:=∃s G ps M h,DT.Red R C j F s G ps M h/\Rdc xt b w g R C (kb K ps.length) M ps h s
def RsPost (xt:Xt)(b:Nat)(w:World)(g R C E K:Nat)(F:Nat->Nat->Int)(e:Ending)(w':World):Prop:=e= .returned (.tuple #[])/\Below b w w'/\RsAt xt b w' g R C K E F
theorem RsAt.below {xt:Xt}{b g R C K j:Nat}{w w':World}{F:Nat->Nat->Int}(h:RsAt xt b w g R C K j F)(hb:Below w.heap.size w w'):RsAt xt b w' g R C K j F:=by
 obtain⟨s,G,ps,M,h,h1,H,vp,sa,A,n,c,rows,h2⟩:=h;exact⟨s,G,ps,M,h,h1,H,vp,sa,A,n,c,rows,h2.below hb⟩
theorem r_m {xt:Xt}{b g R C E K:Nat}{F:Nat->Nat->Int}{w:World}(h:RsAt xt b w g R C K 0 F)(hE:E<=C)(hb:b<=w.heap.size)(hR:R<=1048576)(hC:C<=1048576)(hK:kb K R<=549755813888):
  Calls Tryz.prog 169 #[.pointer (some ⟨g,0,none⟩),.int .i64 (E:Int)] w (RsPost xt b w g R C E K F):=by
 have H0:=Lib.hid h;clear h;go_enter Tryz.func169,Tryz.ntmps169
 go_wp2_with fail
 go_loopw [6] (fun s6 wr=>∃j:Nat,s6= .int .i64 (j:Int)/\j<=E/\Hid (Below b w wr/\RsAt xt b wr g R C K j F)) (fun s6 _=>E - (intOf s6).toNat)
 case atStart=>exact⟨0,rfl,Nat.zero_le _,Lib.hid ⟨Below.refl _ _,H0.out⟩⟩
 case round=>
  obtain⟨j,rfl,hj,HB⟩:=hrel;by_cases hlt:j<E
  ·have u2:(j:Int)<(E:Int):=by omega
   have hlt:=Nat.lt_of_lt_of_le hlt hE;obtain⟨B0,s,G,ps,M,h,hr,H,vp,sa,A,n,c,rows,hm⟩:=HB.out;have hbw:b<=wr.heap.size:=Nat.le_trans hb B0.size;have HR:=Lib.hid hr;have HM:=Lib.hid hm;have HB0:=Lib.hid B0;clear HB hr hm B0
   go_wp2_with fail
   refine(w_v HM.out hbw hlt HR.out.nR hR (Nat.le_trans (s_n HR.out.nR) hK)).mono ?_;rintro e w2 (⟨rfl,hz,B2⟩|⟨rfl,i,rows2,hi,hiR,hne,hm2,B2⟩)
   ·have HS:Hid (Below b w w2/\RsAt xt b w2 g R C K (j+1) F):=Lib.hid ⟨HB0.out.trans (B2.mono hbw),s,G,ps,M,h,HR.out.no hlt hz,H,vp,sa,A,n,c,rows,HM.out.below B2⟩;clear hz B2
    go_wp2_with fail
    go_roundw
    case rel=>exact⟨j+1,by go_num,by omega,HS⟩
    case measure=>first|(simp[intOf];done)|(simp[intOf];omega)
   ·have hr2:=HR.out.swap hi hiR;have hn2:ps.length<R:=Nat.lt_of_le_of_lt hi hiR;have hne2:DT.swr M ps.length i ps.length j≠0:=by
     have:DT.swr M ps.length i ps.length=M i:=by unfold DT.swr;rw[if_pos rfl]
     rw[this];exact hne
    have HR2:=Lib.hid hr2;have HM2:=Lib.hid hm2;have hk2:kb K (ps.length+1)<=549755813888:=Nat.le_trans (s_n hn2) hK;have B3:=HB0.out.trans B2;have HB3:=Lib.hid B3;have hb2:b<=w2.heap.size:=Nat.le_trans hb B3.size;clear hr2 hm2 B2 B3 hi hiR hne
    go_wp2_with fail
    refine(w_q HM2.out hb2 hlt hn2 hR hC HR2.out.h0 (fun a l h1 h2 h3=>HR2.out.zero a l h1 h2 h3) (q:=DT.nxt R C j (DT.swr G ps.length i) ps) (fun a l h1 h2 h3=>HR2.out.step hlt h1 h2 h3) (Nat.le_refl _) (K':=kb K (ps.length+1)) (Nat.le_of_eq (p_k K ps.length)) hk2).mono ?_;rintro e w3 ⟨rfl,B3,vp',sa',A',n',c',rows',hm3⟩;have hr3:=HR2.out.yes (M':=fun a l=>if a<=ps.length then DT.swr M ps.length i a l else DT.nxt R C j (DT.swr G ps.length i) ps a l) hlt hn2 hne2 (fun a l h1 h2=>if_pos h1) (fun a l h1 h2 h3=>if_neg (by omega));have HS:Hid (Below b w w3/\RsAt xt b w3 g R C K (j+1) F):=Lib.hid ⟨HB3.out.trans B3,_,_,_,_,_,hr3,H,vp',sa',A',n',c',rows',by
     rw[show(ps++[j]).length=ps.length+1 by simp];exact hm3.mono (by have:=p_k K ps.length;omega) (fun _ _=>Nat.le_refl _)⟩
    clear hr3 hm3 B3
    go_wp2_with fail
    go_roundw
    case rel=>exact⟨j+1,by go_num,by omega,HS⟩
    case measure=>first|(simp[intOf];done)|(simp[intOf];omega)
  ·obtain rfl:j=E:=by omega
   have u2:¬(j:Int)<(j:Int):=by omega
   have P:Hid (RsPost xt b w g R C j K F (.returned (.tuple #[])) wr):=Lib.hid ⟨rfl,HB.out.1,HB.out.2⟩;clear HB
   go_wp2_with fail
   exact bodyPost_ret (v:=.tuple #[]) (by simp[results,Tryz.results169,go_sem]) rfl P.out
end
section
open Go.RowKit
theorem row_v {q:Bool}{r c n d k i:Nat}{A:Option Addr}{F:Nat->Nat->Rat}{w:World}(h:Mq q w r c A n d k F)(hi:i<r):Calls Tryz.prog 66 #[.agg #[.int .i64 (r:Int),.int .i64 (c:Int),.slice A n d],.int .i64 (i:Int)] w (RetK (.k (.slice (if d=i*c then A else A.map (·.add (i*c*4))) c (d - i*c))) w):=by
 have h1:=h.hr;have h2:=h.hc;have h5:(i+1)*c<=64*64:=Nat.mul_le_mul (by omega) h2;have h6:(i+1)*c<=r*c:=Nat.mul_le_mul_right c hi;have h7:i*c<=(i+1)*c:=Nat.mul_le_mul_right c (Nat.le_succ i);have h8:(i+1)*c=i*c+c:=Nat.succ_mul i c;have hn:=h.len;have hle:=h.ql.le;have hcp:=h.ql.cap;have h9:(i+1)*c<=d:=by omega
 obtain⟨V,hV⟩:∃V,Value.slice (if d=i*c then A else A.map (·.add (i*c*4))) c (d - i*c)=V:=⟨_,rfl⟩;rw[hV];have hV2:Value.slice (if d=i*c then A else A.map (·.add (i*c*4))) ((i+1)*c - i*c) (d - i*c)=V:=by rw[show(i+1)*c - i*c=c by omega];exact hV
 obtain⟨w1,hw1,b2,z1,s1⟩:=boxes1 w 24 [.int .i64 (r:Int),.int .i64 (c:Int),.slice A n d];have HW:=Lib.hid hw1;have HZ:=Lib.hid z1;have h8_:=Lib.hid h8;have hn_:=Lib.hid hn;have hV2_:=Lib.hid hV2;clear hw1 z1 h8 hn hV2 s1 hV;go_enter Tryz.func66,Tryz.ntmps66
 go_upto_region 1 with fail
 rw[HW.out];refine Run.start 13 ?_;refine .fa .o (fQ2 2) ?_;refine .ld (.i 0) (ldQl b2 2) ?_;refine .mv .o ?_;refine .fa .o (fQ1 1) ?_;refine .ld (.i 3) (ldInt b2 1) ?_;refine .two (.i 2) (.i 4) (opMulN i c (by omega)) ?_;refine .mv .o ?_;refine .two (.i 6) .o (opAddN i 1 (by omega)) ?_;refine .fa .o (fQ1 1) ?_;refine .ld (.i 8) (ldInt b2 1) ?_;refine .two (.i 7) (.i 9) (opMulN (i+1) c (by omega)) ?_;refine .slq2 (.i 1) (.i 5) (.i 10) (A:=A) (n:=n) (cap:=d) h7 h9 ?_;refine .mv (.i 11) ?_;refine .donep [some 5,some 6,some 7,some 8,some 9,some 10,some 11,some 12,some 13,some 14,some 15,some 16,some 4] ?_;intro w2 B2;refine sh [] ?_;simp only[Act.put,lS,lZ,lC];have P:Hid (RetK (.k V) w (.returned V) w2):=Lib.hid ⟨_,rfl,rfl,zup HZ.out B2⟩;rw[hV2_.out]
 go_wp2_with fail
 exact bodyPost_ret (v:=V) (by simp[results,Tryz.results66,go_sem]) rfl P.out
theorem u_3 {q:Bool}{r c n d k i:Nat}{A:Option Addr}{F:Nat->Nat->Rat}{w:World}(h:Mq q w r c A n d k F)(hi:i<r):∃Ar dr,∀w',Below w.heap.size w w'->QL q w' Ar c dr k (qrw c (F i))/\Calls Tryz.prog 66 #[.agg #[.int .i64 (r:Int),.int .i64 (c:Int),.slice A n d],.int .i64 (i:Int)] w' (RetK (.k (.slice Ar c dr)) w'):=⟨_,_,fun w' hB=>⟨(h.below hB).row hi,row_v (h.below hB) hi⟩⟩
theorem j_v {q:Bool}{n d k K kc b0:Nat}{A:Option Addr}{f:Nat->Rat}{w:World}(h:QL q w A n d k (qrw n f))(hn:n<=4096)(hk0:1<=k)(hk:pk n k=K)(hc:pc n k=kc)(hK:K<=1073741824)(hb:b0<=w.heap.size):Calls Tryz.prog 52 #[.slice A n d] w (RetK (kPt b0 n K kc f) w):=by
 subst hk hc;refine(x_7 h hn hk0 hK).mono fun e w' h'=>h'.mono fun v w2 ⟨g,sa,Aa,na,ca,sb,Ab,nb,cb,e,hp⟩=>⟨g,sa,Aa,na,ca,sb,Ab,nb,cb,e,hp.1,Nat.le_trans hb hp.2.1,hp.2.2⟩
theorem Zc.ct {w:World}{sa sb:Bool}{Aa Ab:Option Addr}{na ca nb cb n:Nat}{f:Nat->Rat}(h1:Zc w sa Aa na ca (abx f n:Int))(h2:Zc w sb Ab nb cb (blw f n:Int)):Qv w sa Aa na ca sb Ab nb cb (pct f n):=⟨_,_,h1.zv,h2.zv,Lib.hid rfl⟩
section
variable {ops:Array Oper}{Q:Exit->Act->World->Prop}{m i:Nat}{a0:Act}{w0:World}{l:List FK}{b:Bool}{id:Nat}
theorem y_w {Fs:List FVal}{j k:Nat}(h:FloatAt Tryz.prog ops m a0 w0 Fs j (opAt ops j))(h2:FloatAt Tryz.prog ops m a0 w0 Fs k (opAt ops k)):∀i,[j,k].contains i=true->i<m->FloatAt Tryz.prog ops m a0 w0 Fs i (opAt ops i):=fun i hi _=>by
 have e:i=j\/i=k:=by simpa using hi
 rcases e with rfl|rfl
 ·exact h
 ·exact h2
theorem r_g (w:World)(x y:Int):(Instr.build 24 #[(0,.int .i64 x),(1,.int .i64 y)]).run Tryz.prog w= .ok (.agg #[.int .i64 x,.int .i64 y,.slice none 0 0]) w:=by kernel_rfl
theorem Run.bdMq (s t:Src){x y:Int}(rest:R ops Q m a0 w0 b id (.k (.agg #[.int .i64 x,.int .i64 y,.slice none 0 0])::l) (i+1))(hx:s.K l i a0 (b2X (opAt ops i).op).1= .k (.int .i64 x):=by rfl)(hy:t.K l i a0 (b2X (opAt ops i).op).2= .k (.int .i64 y):=by rfl)(hc:okB2 24 ops m i s t=true:=by kernel_rfl)(hg:Gd l i (opAt ops i):=by first|exact trivial|exact rfl):R ops Q m a0 w0 b id l i:=by
 unfold okB2 at hc;rw[Bool.and_eq_true]at hc;obtain⟨hh,h4⟩:=hc;refine Run.val (x:=.k (.agg #[.int .i64 x,.int .i64 y,.slice none 0 0])) hh (FK.kne _) hg (fun a w h=>?_) rest;split at h4
 ·rename_i T xs e;split at h4
  ·rename_i u v ex;obtain⟨ys⟩:=xs;simp only at ex;subst ex;simp only[Bool.and_eq_true,beq_iff_eq]at h4;obtain⟨⟨rfl,h1⟩,h2⟩:=h4;rw[e]at hx hy;have e14:a.eval u= .int .i64 x:=h.srcK h1 hx;have e15:a.eval v= .int .i64 y:=h.srcK h2 hy;refine⟨_, ?_,rfl⟩;unfold execOp;rw[e];simp only[List.map_toArray,List.map_cons,List.map_nil,e14,e15];simp[r_g]
  ·cases h4
 ·cases h4
def IsBx (b:Nat)(T:TypeId)(cs:List Value):FVal:=fun v w=>∃g,v= .slice (some ⟨g,0,none⟩) 1 1/\Bx w g T cs/\b<=g
def kBx (b:Nat)(T:TypeId)(cs:List Value):FK:=.f (IsBx b T cs) (fun v w w' ⟨g,e,h1,h2⟩ hb=>⟨g,e,h1.below hb,h2⟩)
theorem Run.bsk (s:Src){S T:Bool}{A B:Option Addr}{n c n' c' b0:Nat}(hb0:b0<=w0.heap.size)(rest:R ops Q m a0 w0 b id (kBx b0 42 [.bool S,.slice A n c,.bool T,.slice B n' c']::l) (i+1))
  (hx:s.K l i a0 (bsX (opAt ops i).op)= .k (.agg #[.bool S,.slice A n c,.bool T,.slice B n' c']):=by rfl) (hc:okBsQ ops m i s=true:=by kernel_rfl) (hg:Gd l i (opAt ops i):=by first|exact trivial|exact rfl):R ops Q m a0 w0 b id l i:=by
 unfold okBsQ at hc;rw[Bool.and_eq_true]at hc;obtain⟨h1,h2⟩:=hc;refine Run.mem (x:=kBx b0 42 [.bool S,.slice A n c,.bool T,.slice B n' c']) (fun a w h=>?_) rest (FK.fne _) h1 hg;split at h2
 ·rename_i T' xs e;split at h2
  ·rename_i x ex;obtain⟨ys⟩:=xs;simp only at ex;subst ex;have e0:bsX (opAt ops i).op=x:=by rw[e];rfl
   rw[e0]at hx;rw[Bool.and_eq_true,beq_iff_eq]at h2;obtain⟨rfl,h2⟩:=h2;have ev:=h.srcK h2 hx;refine⟨_,_, ?_,⟨w.heap.size,rfl,Bx.new w _ _,Nat.le_trans hb0 h.below.size⟩,zba w _⟩;unfold execOp;rw[e];simp only[List.map_toArray,List.map_cons,List.map_nil,ev];simp[o_t]
  ·cases h2
 ·cases h2
theorem Run.bszk (s:Src){S:Bool}{A:Option Addr}{n c b0:Nat}(hb0:b0<=w0.heap.size)(rest:R ops Q m a0 w0 b id (kBx b0 31 [.bool S,.slice A n c]::l) (i+1))
  (hx:s.K l i a0 (bsX (opAt ops i).op)= .k (.agg #[.bool S,.slice A n c]):=by rfl) (hc:okBs ops m i s=true:=by kernel_rfl) (hg:Gd l i (opAt ops i):=by first|exact trivial|exact rfl):R ops Q m a0 w0 b id l i:=by
 unfold okBs at hc;rw[Bool.and_eq_true]at hc;obtain⟨h1,h2⟩:=hc;refine Run.mem (x:=kBx b0 31 [.bool S,.slice A n c]) (fun a w h=>?_) rest (FK.fne _) h1 hg;split at h2
 ·rename_i T' xs e;split at h2
  ·rename_i x ex;obtain⟨ys⟩:=xs;simp only at ex;subst ex;have e0:bsX (opAt ops i).op=x:=by rw[e];rfl
   rw[e0]at hx;rw[Bool.and_eq_true,beq_iff_eq]at h2;obtain⟨rfl,h2⟩:=h2;have ev:=h.srcK h2 hx;refine⟨_,_, ?_,⟨w.heap.size,rfl,Bx.new w _ _,Nat.le_trans hb0 h.below.size⟩,zba w _⟩;unfold execOp;rw[e];simp only[List.map_toArray,List.map_cons,List.map_nil,ev];simp[o_s]
  ·cases h2
 ·cases h2
end
def IsOq (b k:Nat)(xs:List Rat):FVal:=fun v w=>Oq false b w k v xs
def kOq (b k:Nat)(xs:List Rat):FK:=.f (IsOq b k xs) (fun v w w' h hb=>Oq.below h hb)
theorem rep_o {C h0 k b0:Nat}{s t:Bool}{A B:Option Addr}{n c m d:Nat}{x:Rat}{w:World}(hC:C<=64)(bx:Bx w h0 42 [.bool s,.slice A n c,.bool t,.slice B m d])(hx:Qe true w s A n c t B m d x)(hn:n<=k)(hm:m<=k)(hb:b0<=w.heap.size):Calls Tryz.prog 167 #[.slice (some ⟨h0,0,none⟩) 1 1,.int .i64 (C:Int)] w (RetK (kOq b0 k (List.replicate C x)) w):=
 (rep_q hC bx).mono fun e w' ⟨v,e1,⟨G,e2,h1,h2⟩,hB⟩=>⟨v,e1,by subst e2;exact rp_oq (q:=false) h1 (Nat.le_trans hb h2) (by omega) ⟨(hx.below hB).1,fun e=>nomatch e⟩ hn hm,hB⟩
section
variable {base base' k k' g:Nat}{w w':World}{v v' u:Value}{zs ys:List Int}{q:Bool}{xs:List Rat}
theorem Oq.lower (h:Oq q base w k v xs)(hb:base'<=base):Oq q base' w k v xs:=by
 obtain⟨vs,⟨⟨h1,h2⟩,h3⟩,h4⟩:=h;refine⟨vs,⟨⟨h1, ?_⟩,h3⟩,h4⟩;rcases h2 with h2|⟨g,cap,cur,e1,e2,e3⟩
 ·exact .inl h2
 ·exact .inr ⟨g,cap,cur,e1,Nat.le_trans hb e2,e3⟩
theorem ZB.grew (h:ZB w g k zs)(hG:Grew w w' v v')(hne:v.ownBlock≠some g):ZB w' g k zs:=by
 have h2:=hG.by';cases e:v.ownBlock with
 |none=>rw[e]at h2;exact h.below ⟨h2.os,h2.tape,h2.output,h2.size,fun k hk=>h2.block k hk (by simp)⟩
 |some g'=>rw[e]at h2;exact h.gro (fun e2=>hne (by rw[e,e2])) (hG.now g' e) h2
theorem Oq.nbx {T:TypeId}{cs:List Value}(h:Oq q base w k v xs)(b:Bx w g T cs)(hT:T≠42):v.ownBlock≠some g:=fun e=>by
 obtain⟨cs',h2⟩:=h.typ e;unfold Bx at b;rw[b]at h2;injection h2 with h3
 injection h3 with _ h4
 exact hT h4
theorem Oz.nbx {T:TypeId}{cs:List Value}(h:Oz base w k v zs)(b:Bx w g T cs)(hT:T≠31):v.ownBlock≠some g:=fun e=>by
 obtain⟨cs',h2⟩:=h.typ e;unfold Bx at b;rw[b]at h2;injection h2 with h3
 injection h3 with _ h4
 exact hT h4
end
section
variable {bs:Nat}{w w':World}{ga gb gs H:Nat}{ca cb:List Value}{R S:Nat}{vs vs':Value}{K1 K2:Nat}{Z Z':Nat->List Int}{xs:List Rat}{vt vt':Value}{K3:Nat}{ys:List Rat}{m:Nat}{rows:List Value}{v v':Value}
theorem RofA.cz (r:RofA bs w ga gb gs H ca cb R S vs K1 K2 Z xs vt K3 ys m rows)(h:∀j,j<m->Z j=Z' j):RofA bs w ga gb gs H ca cb R S vs K1 K2 Z' xs vt K3 ys m rows:=
 { r with row:=fun j hj=>by rw[<-h j hj];exact r.row j hj }
theorem RofA.pushN (r:RofA bs w ga gb gs H ca cb R S vs K1 K2 Z xs vt K3 ys m rows)(hG:Grew w w' vs vs'):Wless w' gs:=by
 refine(hG.bx r.bo fun e=>?_).now ?_
 ·have:=(r.own.lt e).1;have:=r.lts;omega
 ·obtain⟨A,c,e,-⟩:=r.own.form r.hb;subst e;simp
theorem RofA.growN (r:RofA bs w ga gb gs H ca cb R S vs K1 K2 Z xs vt K3 ys m rows)(hG:Grew w w' v v')(hv:∀g,v.ownBlock=some g->bs<=g):Wless w' H:=by
 refine(hG.bx r.hd fun e=>?_).now fun u hu m e=>?_
 ·have:=hv _ e;have:=r.lts;omega
 ·obtain⟨A,n,c,e2⟩:=r.slc u hu;rw[e2]at e;cases e
end
def qbd (C:Nat)(F G:Nat->Nat->Rat)(i l:Nat):Rat:=G i l / pct (F i) C
def qwr (R C:Nat)(F G:Nat->Nat->Rat)(i j:Nat):Int:=if j<C then ptn (F i) C j else ptn (fun a=>qbd C F G a (j - C)) R i
def qdc (R C:Nat)(F G:Nat->Nat->Rat)(l:Nat):Rat:=pct (fun a=>qbd C F G a l) R
def qcs (R C S:Nat)(F G:Nat->Nat->Rat):List Rat:=List.replicate C 1++(List.range S).map (qdc R C F G)
theorem r_y (R C S:Nat)(F G:Nat->Nat->Rat):qcs R C S F G++[qdc R C F G S]=qcs R C (S+1) F G:=by simp[qcs,List.range_succ]
theorem k_y (R C S:Nat)(F G:Nat->Nat->Rat):(qcs R C S F G).length=C+S:=by simp[qcs]
theorem u_m (n:Nat)(f:Nat->Int):rw' n f++[f n]=rw' (n+1) f:=by simp[rw',List.range_succ]
theorem o_j {l:List Rat}{m:Nat}(h:m<l.length):l.take m++[rth l m]=l.take (m+1):=by
 rw[List.take_succ_eq_append_getElem h];simp[rth,List.getD,h]
section
variable {w w':World}{q:Bool}{A:Option Addr}{n c k g:Nat}{xs:List Rat}
theorem QL.gro0 (h:QL q w A n c k xs)(hne:0<n->∀ad,A=some ad->ad.block≠g)(hn:Wless w g)(hg:w.grownBy w' (some g)):QL q w' A n c k xs:=by
 rcases Nat.eq_zero_or_pos n with h0|h0
 ·exact⟨h.len,h.le,h.cap,fun h1=>by omega⟩
 ·exact h.gro (hne h0) hn hg
def qmX (A:Option Addr)(c k:Nat)(ys:List Rat):Xt:=⟨154,[.slice A ys.length c],(fun v h m e=>by simp at h;rw[h]at e;cases e),fun w S=>QL false w A ys.length c k ys/\(0<ys.length->∀ad,A=some ad->ad.block ∉ S),
 fun w w' S h hb=>⟨h.1.below hb,h.2⟩,fun w w' S x h hx hn hg=>⟨h.1.gro0 (fun h0 ad ha e=>h.2 h0 ad ha (e ▸ hx)) hn hg,h.2⟩,fun w S S' h hS=>⟨h.1,fun h0 ad ha hx=>by
  rcases hS _ hx with h3|h3
  ·exact h.2 h0 ad ha h3
  ·obtain⟨ad',ha',h4,-⟩:=h.1.at h0;rw[ha]at ha';cases ha';omega⟩⟩
theorem fW0 {g o:Nat}(o':Nat)(h:o+0=o':=by rfl)(w:World):(Instr.fieldAt 154 (.pointer (some ⟨g,o,none⟩)) 0).run Tryz.prog w= .ok (.pointer (some ⟨g,o',none⟩)) w:=by subst h;simp[go_sem]
theorem fW1 {g o:Nat}(o':Nat)(h:o+5=o':=by rfl)(w:World):(Instr.fieldAt 154 (.pointer (some ⟨g,o,none⟩)) 1).run Tryz.prog w= .ok (.pointer (some ⟨g,o',none⟩)) w:=by subst h;simp[go_sem]
end
end
end Go.Proofs.YtfhbdlegkdbmfaaGreat
