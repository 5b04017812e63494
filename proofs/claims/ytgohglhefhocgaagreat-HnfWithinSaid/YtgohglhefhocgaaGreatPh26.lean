/- Ph26 -/
import Derived.Test.YtgohglhefhocgaaGreatPh25
set_option linter.unusedVariables false
set_option linter.unusedSimpArgs false
set_option linter.unusedSectionVars false
set_option maxRecDepth 100000
set_option maxHeartbeats 8000000
namespace Go.Proofs.YtgohglhefhocgaaGreat
section
open Go.RowKit
def JnSum (b:Nat)(xs ys us:List Nat)(x y k m l o:Nat):Prop:=
 us.length=k∧Low b us∧ev b us+b^k*(m+l+o)=pre b xs k*x+pre b ys k*y
theorem JnSum.start (b:Nat)(xs ys:List Nat)(x y:Nat):JnSum b xs ys [] x y 0 0 0 0:=⟨rfl,Low.nil b,by simp[ev,a_3]⟩
theorem JnSum.step {b:Nat}{xs ys us:List Nat}{x y k m l o z m' l' o':Nat}(h:JnSum b xs ys us x y k m l o)(hz:z<b)(he:z+b*(m'+l'+o')=nth xs k*x+m+(nth ys k*y+l)+o):
  JnSum b xs ys (us++[z]) x y (k+1) m' l' o':=by
 obtain⟨h1,h2,h3⟩:=h;refine⟨by simp[h1],h2.snoc hz, ?_⟩;rw[b_i,a_d,a_d,h1,Nat.pow_succ];generalize b^k=P at *;have e:P*z+P*b*(m'+l'+o')=P*nth xs k*x+P*nth ys k*y+P*(m+l+o):=by
  have:=congrArg (P* ·) he;grind
 grind
theorem JnSum.stop {b:Nat}{xs ys us:List Nat}{x y k m l o D:Nat}(h:JnSum b xs ys us x y k m l o)(hb:0<b)(hD:pre b xs k*x+pre b ys k*y=D)(hD2:D<b^k):ev b us=D:=by
 obtain⟨h1,h2,h3⟩:=h;have h4:=b_1 h2;rw[h1]at h4;rw[hD]at h3;have h6:=congrArg (· %b^k) h3;simp only[Nat.add_mul_mod_self_left]at h6;rwa [Nat.mod_eq_of_lt h4,Nat.mod_eq_of_lt hD2]at h6
def JoinRel (w:World)(base g1 g2 h1 h2 p q r s:Nat)(La Lb:List Nat)(k:Nat)(wr:World):Prop:=
 ∃(us1 us2:List Nat) (m1 l1 o1 m2 l2 o2:Nat),JnSum 18446744073709551616 La Lb us1 p q k m1 l1 o1∧JnSum 18446744073709551616 Lb La us2 s r k m2 l2 o2∧o1≤1∧o2≤1∧
  Wb wr g1 67 (us1++La.drop k)∧Wb wr g2 67 (us2++Lb.drop k)∧Wb wr h1 153 [p,q,m1,l1,o1]∧Wb wr h2 153 [s,r,m2,l2,o2]∧Tch (Tk2 w g1 g2) w wr
theorem i_f (w:World)(base g1 g2 n c1 c2 p q r s D1 D2:Nat)(La Lb:List Nat)(W1:Wb w g1 67 La)(W2:Wb w g2 67 Lb)(hg:g1≠g2)(hb1:base≤g1)(hb2:base≤g2)(n1:n≤La.length)(n2:n≤Lb.length)
  (hm:n≤1099511627776) (hp:p<18446744073709551616) (hq:q<18446744073709551616) (hr:r<18446744073709551616) (hs:s<18446744073709551616)
  (E1:pre 18446744073709551616 La n*p+pre 18446744073709551616 Lb n*q=D1) (F1:D1<18446744073709551616^n) (E2:pre 18446744073709551616 Lb n*s+pre 18446744073709551616 La n*r=D2) (F2:D2<18446744073709551616^n):
  Calls Tryz.prog 136 #[.agg #[.int .u64 p,.int .u64 q,.int .u64 r,.int .u64 s],.slice (some ⟨g1,0,none⟩) n c1,.slice (some ⟨g2,0,none⟩) n c2] w (TkPost w base g1 g2 n D1 D2 La Lb):=by
 have HE1:=Lib.hid E1;have HE2:=Lib.hid E2;have HF1:=Lib.hid F1;have HF2:=Lib.hid F2;clear E1 E2 F1 F2;go_enter Tryz.func136,Tryz.ntmps136
 go_upto_region 1 with fail
 go_cut [6,7] (TkCut w p q r s)
 case first=>
  clear HE1 HE2 HF1 HF2 W1 W2 hg hb1 hb2 n1 n2 hm;go_region
  all_goals
   go_wp2_with fail
   go_meet
   first
    |exact tk_a _ hp hq hr hs
    |exact tk_b _ hp hq hr hs
 case rest=>
  obtain⟨h1,h2,rfl,rfl,hh,hh1,hh2,V1,V2,B0⟩:=hcut;have lt1:=W1.1.lt;have lt2:=W2.1.lt;have I:=Lib.hid (show TkIn w base g1 g2 h1 h2 from⟨hb1,hb2,by omega,by omega,hg,by omega,by omega,by omega,by omega,hh,by omega,hh1,hh2⟩);have W1':Wb wc g1 67 La:=⟨W1.1.below B0 lt1,W1.2⟩;have W2':Wb wc g2 67 Lb:=⟨W2.1.below B0 lt2,W2.2⟩;have lLa:=W1.2;have lLb:=W2.2;have BB:Tch (Tk2 w g1 g2) w wc:=Tch.of_below _ B0;clear W1 W2 B0 hh hh1 hh2 hg lt1 lt2
  go_wp2_with fail
  go_loopw [23] (fun i wr=>∃k:Nat,k≤n∧i= .int .i64 k∧JoinRel w base g1 g2 h1 h2 p q r s La Lb k wr) (fun i _=>n - (intOf i).toNat)
  case atStart=>exact⟨0,Nat.zero_le _,rfl,[],[],0,0,0,0,0,0,JnSum.start _ _ _ _ _,JnSum.start _ _ _ _ _,by omega,by omega,by simpa using W1',by simpa using W2',V1,V2,BB⟩
  case round=>
   clear W1' W2' V1 V2 BB;obtain⟨k,hk,rfl,us1,us2,m1,l1,o1,m2,l2,o2,d1,d2,ho1,ho2,W1,W2,V1,V2,BB⟩:=hrel;by_cases hlt:k<n
   ·have cs1:=W1.1.cell (j:=k) (by rw[a_i d1.1 (by omega)];omega);rw[a_z d1.1]at cs1;have cs2:=W2.1.cell (j:=k) (by rw[a_i d2.1 (by omega)];omega);rw[a_z d2.1]at cs2;have x1:=lLa.any (by omega) k;have x2:=lLb.any (by omega) k;have HW1:=Lib.hid W1;have HW2:=Lib.hid W2;have HD1:=Lib.hid d1;have HD2:=Lib.hid d2;have HBB:=Lib.hid BB;clear W1 W2 d1 d2 BB
    go_wp2_with fail
    refine(g_v _ h1 p q m1 l1 o1 _ _ V1 ho1 x1 x2).mono ?_;rintro e w2 ⟨z1,m1',l1',o1',rfl,hz1,he1,hm1,hl1,hoo1,V1',T1,Z1⟩;have V2':=V2.tch T1 fun j _ h=>I.out.d6 h.symm;have W1:=HW1.out.tch T1 fun j _ h=>I.out.d2 h;have W2:=HW2.out.tch T1 fun j _ h=>I.out.d4 h;have HT1:=Lib.hid T1;have HZ1:=Lib.hid Z1;have HWa:=Lib.hid W1;have HWb:=Lib.hid W2;clear V1 V2 cs1 cs2 T1 Z1 W1 W2 HW1 HW2
    go_wp2_with fail
    refine(g_v _ h2 s r m2 l2 o2 _ _ V2' ho2 x2 x1).mono ?_;rintro e w3 ⟨z2,m2',l2',o2',rfl,hz2,he2,hm2,hl2,hoo2,V2'',T2,Z2⟩;have V1'':=V1'.tch T2 fun j _ h=>I.out.d6 h;have W1:=HWa.out.tch T2 fun j _ h=>I.out.d3 h;have W2:=HWb.out.tch T2 fun j _ h=>I.out.d5 h;have cs1:=W1.1.cell (j:=k) (by rw[a_i HD1.out.1 (by omega)];omega);have cf1:=W1.1.free k;obtain⟨T3,X1⟩:=Tch.store (S:=fun a=>a.block=g1) W1 k hz1 rfl;rw[b_b HD1.out.1 (by omega)]at X1;have X2:=W2.tch T3 fun j _ h=>I.out.d1 h.symm;have cs2:=X2.1.cell (j:=k) (by rw[a_i HD2.out.1 (by omega)];omega);have cf2:=X2.1.free k;obtain⟨T4,Y2⟩:=Tch.store (S:=fun a=>a.block=g2) X2 k hz2 rfl;rw[b_b HD2.out.1 (by omega)]at Y2;have Y1:=X1.tch T4 fun j _ h=>I.out.d1 h;have U1:=(V1''.tch T3 fun j _ h=>I.out.d2 h.symm).tch T4 fun j _ h=>I.out.d4 h.symm;have U2:=(V2''.tch T3 fun j _ h=>I.out.d3 h.symm).tch T4 fun j _ h=>I.out.d5 h.symm;have BB2:Hid (Tch (Tk2 w g1 g2) w ((w3.setCell ⟨g1,k,none⟩ (.int .u64 (z1:Int))).setCell ⟨g2,k,none⟩ (.int .u64 (z2:Int)))):=Lib.hid (by
     have b1:=HT1.out.mono (S:=Tk2 w g1 g2) fun a _ h=>.inr (.inr (by rw[h];exact I.out.s1));have b2:=T2.mono (S:=Tk2 w g1 g2) fun a _ h=>.inr (.inr (by rw[h];exact I.out.s2));have b3:=T3.mono (S:=Tk2 w g1 g2) fun a _ h=>.inl h;have b4:=T4.mono (S:=Tk2 w g1 g2) fun a _ h=>.inr (.inl h);exact(((HBB.out.trans b1).trans b2).trans b3).trans b4)
    have R:Hid (JoinRel w base g1 g2 h1 h2 p q r s La Lb (k+1) ((w3.setCell ⟨g1,k,none⟩ (.int .u64 (z1:Int))).setCell ⟨g2,k,none⟩ (.int .u64 (z2:Int)))):=
     Lib.hid ⟨_,_,_,_,_,_,_,_,HD1.out.step hz1 he1.out,HD2.out.step hz2 he2.out,hoo1,hoo2,Y1,Y2,U1,U2,BB2.out⟩
    clear V1' V2' V1'' V2'' W1 W2 X1 X2 Y1 Y2 U1 U2 T2 T3 T4 Z2
    go_wp2_with fail
    go_roundw
    case rel=>exact⟨k+1,by omega,by go_num,R.out⟩
    case measure=>simp[intOf];omega
   ·obtain rfl:k=n:=by omega
    have P:Hid (TkPost w base g1 g2 k D1 D2 La Lb (.returned (.tuple #[])) wr):=Lib.hid ⟨us1,us2,rfl,d1.1,d2.1,Lib.hid (d1.stop (by omega) HE1.out HF1.out),Lib.hid (d2.stop (by omega) HE2.out HF2.out),W1,W2,I.out.below BB,BB⟩;clear d1 d2 W1 W2 V1 V2 BB hlt
    go_wp2_with fail
    go_end0
    exact P.out
end
section
open Go.RowKit
def sgt (t:Bool):Int:=if t=true then -1 else 1
theorem l_c (t:Bool):sgt (!t)= -sgt t:=by cases t<;>rfl
structure Wm (u m G a b x y:Nat) (t:Bool):Prop where
 g:Nat.gcd a b=G
 s:a*y+b*x=m
 ca:(m:Int)∣(a:Int) - sgt t*x*u
 cb:(m:Int)∣(b:Int)+sgt t*y*u
theorem Wm.start (u m:Nat):Wm u m (Nat.gcd u m) m (u%m) 0 1 true:=by
 refine⟨by rw[Nat.gcd_comm u,Nat.gcd_comm m,Nat.gcd_rec m u],by omega, ?_, ?_⟩
 ·simp
 ·refine⟨-((u / m:Nat):Int), ?_⟩;have h:=Nat.div_add_mod u m;have h2:(u:Int)=m*((u / m:Nat):Int)+((u%m:Nat):Int):=by rw[←Int.natCast_mul,←Int.natCast_add,h]
  simp only[sgt];rw[Int.mul_neg];simp only[if_true];omega
theorem Wm.jump {u m G a b x y p q r s X Y:Nat}{t:Bool}(h:Wm u m G a b x y t)(h1:a*p=b*q+X)(h2:b*s=a*r+Y)(h3:s*X+q*Y=a)(h4:r*X+p*Y=b):Wm u m G X Y (x*p+y*q) (y*s+x*r) t:=by
 obtain⟨hg,hs,⟨k,hk⟩,⟨l,hl⟩⟩:=h;refine⟨by rw[n_8 h1 h2 h3 h4];exact hg, ?_,⟨p*k - q*l, ?_⟩,⟨s*l - r*k, ?_⟩⟩
 ·rw[←hs,←h3,←h4];grind
 ·have e:(X:Int)=a*p - b*q:=by have:=congrArg (Nat.cast (R:=Int)) h1;simp only[Int.natCast_mul,Int.natCast_add]at this;omega
  rw[e,Int.mul_sub,Int.mul_left_comm,←hk,Int.mul_left_comm,←hl];simp only[Int.natCast_add,Int.natCast_mul];generalize sgt t=σ;grind
 ·have e:(Y:Int)=b*s - a*r:=by have:=congrArg (Nat.cast (R:=Int)) h2;simp only[Int.natCast_mul,Int.natCast_add]at this;omega
  rw[e,Int.mul_sub,Int.mul_left_comm,←hl,Int.mul_left_comm,←hk];simp only[Int.natCast_add,Int.natCast_mul];generalize sgt t=σ;grind
theorem Wm.swap {u m G a b x y:Nat}{t:Bool}(h:Wm u m G a b x y t):Wm u m G b a y x (!t):=by
 obtain⟨hg,hs,hk,hl⟩:=h;refine⟨by rw[Nat.gcd_comm];exact hg,by rw[←hs,Nat.add_comm], ?_, ?_⟩
 ·rw[l_c,Int.neg_mul,Int.neg_mul,Int.sub_neg];exact hl
 ·rw[l_c,Int.neg_mul,Int.neg_mul,←Int.sub_eq_add_neg];exact hk
theorem Wm.bound {u m G X Y x y p q r s:Nat}{t:Bool}(h:Wm u m G X Y (x*p+y*q) (y*s+x*r) t)(hc:(0<X∧p≤r∧q≤s)∨(0<Y∧r≤p∧s≤q)):x*p+y*q≤m∧y*s+x*r≤m:=by
 have hs:=h.s;rcases hc with⟨h1,h2,h3⟩|⟨h1,h2,h3⟩
 ·have k1:y*s+x*r≤X*(y*s+x*r):=Nat.le_mul_of_pos_left _ h1;have k2:x*p≤x*r:=Nat.mul_le_mul_left _ h2;have k3:y*q≤y*s:=Nat.mul_le_mul_left _ h3;omega
 ·have k1:x*p+y*q≤Y*(x*p+y*q):=Nat.le_mul_of_pos_left _ h1;have k2:x*r≤x*p:=Nat.mul_le_mul_left _ h2;have k3:y*s≤y*q:=Nat.mul_le_mul_left _ h3;omega
theorem n_9 {a b:Nat}(h0:0<b)(h:b≤a):a*1=b*(a / b)+a%b∧b*1=a*0+b∧1*(a%b)+a / b*b=a∧0*(a%b)+1*b=b∧(0<b∧0≤1∧1≤a / b):=by
 have h1:=Nat.div_add_mod a b;have h2:0<a / b:=Nat.div_pos h h0;have h3:a / b*b=b*(a / b):=Nat.mul_comm _ _;refine⟨by omega,by omega,by omega,by omega,h0,by omega,h2⟩
def Wy (w:World)(h:Nat)(A B X Y:Value)(t:Bool):Prop:=w.heap[h]? =some (.cells #[A,B,X,Y,.bool t] 136 (0,0))
section
variable {w w':World}{h:Nat}{A B X Y:Value}{t:Bool}
theorem Wy.lt (k:Wy w h A B X Y t):h<w.heap.size:=by
 rcases Nat.lt_or_ge h w.heap.size with hlt|hge
 ·exact hlt
 ·unfold Wy at k;rw[Array.getElem?_eq_none hge]at k;cases k
theorem Wy.cells (k:Wy w h A B X Y t):w.cell? ⟨h,0,none⟩=some A∧w.cell? ⟨h,1,none⟩=some B∧w.cell? ⟨h,2,none⟩=some X∧w.cell? ⟨h,3,none⟩=some Y∧w.cell? ⟨h,4,none⟩=some (.bool t)∧
  w.frozen? ⟨h,0,none⟩=false∧w.frozen? ⟨h,1,none⟩=false∧w.frozen? ⟨h,2,none⟩=false∧w.frozen? ⟨h,3,none⟩=false∧w.frozen? ⟨h,4,none⟩=false:=by
 refine⟨?_, ?_, ?_, ?_, ?_,frozen_of_row w h _ _ _ k,frozen_of_row w h _ _ _ k,frozen_of_row w h _ _ _ k,frozen_of_row w h _ _ _ k,frozen_of_row w h _ _ _ k⟩<;>rw[cell_of_row w h _ _ _ (0,0) k]<;>rfl
theorem Wy.below (k:Wy w h A B X Y t)(hb:Below w.heap.size w w'):Wy w' h A B X Y t:=(hb.block h k.lt).trans k
theorem Wy.tch {S:Addr→Prop}(k:Wy w h A B X Y t)(ht:Tch S w w')(hS:∀a:Addr,a.block=h→¬S a):Wy w' h A B X Y t:=(ht.block h k.lt hS).trans k
theorem Wy.put0 (k:Wy w h A B X Y t)(A':Value):Wy (w.setCell ⟨h,0,none⟩ A') h A' B X Y t:=by unfold Wy;rw[heap_setCell_same w h 0 _ _ _ k];rfl
theorem Wy.put1 (k:Wy w h A B X Y t)(A':Value):Wy (w.setCell ⟨h,1,none⟩ A') h A A' X Y t:=by unfold Wy;rw[heap_setCell_same w h 1 _ _ _ k];rfl
theorem Wy.put2 (k:Wy w h A B X Y t)(A':Value):Wy (w.setCell ⟨h,2,none⟩ A') h A B A' Y t:=by unfold Wy;rw[heap_setCell_same w h 2 _ _ _ k];rfl
theorem Wy.put3 (k:Wy w h A B X Y t)(A':Value):Wy (w.setCell ⟨h,3,none⟩ A') h A B X A' t:=by unfold Wy;rw[heap_setCell_same w h 3 _ _ _ k];rfl
theorem Wy.put4 (k:Wy w h A B X Y t)(b:Bool):Wy (w.setCell ⟨h,4,none⟩ (.bool b)) h A B X Y b:=by unfold Wy;rw[heap_setCell_same w h 4 _ _ _ k];rfl
end
structure Four (w:World) (base N n ga gb gx gy:Nat) (La Lb Lx Ly:List Nat) (a b x y:Nat):Prop where
 dab:ga≠gb
 dax:ga≠gx
 day:ga≠gy
 dbx:gb≠gx
 dby:gb≠gy
 dxy:gx≠gy
 ba:base≤ga
 bb:base≤gb
 bx:base≤gx
 bY:base≤gy
 la:La.length=N
 lb:Lb.length=N
 lx:Lx.length=N
 ly:Ly.length=N
 hn:n≤N
 hN:N≤68719476736
 wa:Wb w ga 67 La
 wb:Wb w gb 67 Lb
 wx:Wb w gx 67 Lx
 wy:Wb w gy 67 Ly
 va:ev 18446744073709551616 (La.take n)=a
 vb:ev 18446744073709551616 (Lb.take n)=b
 vx:ev 18446744073709551616 Lx=x
 vy:ev 18446744073709551616 Ly=y
theorem Wb.below {w w':World}{g:Nat}{t:TypeId}{L:List Nat}(h:Wb w g t L)(hb:Below w.heap.size w w'):Wb w' g t L:=⟨h.1.below hb h.1.lt,h.2⟩
section
variable {w w':World}{base N n ga gb gx gy a b x y:Nat}{La Lb Lx Ly:List Nat}
theorem Four.below (f:Four w base N n ga gb gx gy La Lb Lx Ly a b x y)(hb:Below w.heap.size w w'):Four w' base N n ga gb gx gy La Lb Lx Ly a b x y:=
 ⟨f.dab,f.dax,f.day,f.dbx,f.dby,f.dxy,f.ba,f.bb,f.bx,f.bY,f.la,f.lb,f.lx,f.ly,f.hn,f.hN,f.wa.below hb,f.wb.below hb,f.wx.below hb,f.wy.below hb,f.va,f.vb,f.vx,f.vy⟩
theorem Four.swap (f:Four w base N n ga gb gx gy La Lb Lx Ly a b x y):Four w base N n gb ga gy gx Lb La Ly Lx b a y x:=
 ⟨f.dab.symm,f.dby,f.dbx,f.day,f.dax,f.dxy.symm,f.bb,f.ba,f.bY,f.bx,f.lb,f.la,f.ly,f.lx,f.hn,f.hN,f.wb,f.wa,f.wy,f.wx,f.vb,f.va,f.vy,f.vx⟩
theorem Four.nva (f:Four w base N n ga gb gx gy La Lb Lx Ly a b x y):Nv w (some ⟨ga,0,none⟩) n N a:=
 ⟨_,f.wa.1.rd0.take n,by have:=f.la;have:=f.hn;simp;omega,f.hn,by have:=f.hN;omega,f.wa.2.take n,f.va⟩
theorem Four.nvb (f:Four w base N n ga gb gx gy La Lb Lx Ly a b x y):Nv w (some ⟨gb,0,none⟩) n N b:=f.swap.nva
theorem Four.nvx (f:Four w base N n ga gb gx gy La Lb Lx Ly a b x y):Nv w (some ⟨gx,0,none⟩) N N x:=
 ⟨_,f.wx.1.rd0,f.lx,Nat.le_refl _,by have:=f.hN;omega,f.wx.2,f.vx⟩
theorem Four.nvy (f:Four w base N n ga gb gx gy La Lb Lx Ly a b x y):Nv w (some ⟨gy,0,none⟩) N N y:=f.swap.nvx
end
def RoPost (w:World)(N v:Nat)(e:Ending)(w':World):Prop:=
 ∃(g:Nat) (L:List Nat),e= .returned (.slice (some ⟨g,0,none⟩) N N)∧w.heap.size≤g∧L.length=N∧Wb w' g 67 L∧ev 18446744073709551616 L=v∧Below w.heap.size w w'
theorem d_o (A:Option Addr)(k c N v:Nat)(w:World)(hv:Nv w A k c v)(hk:k≤N)(hN:N≤68719476736):
  Calls Tryz.prog 131 #[.slice A k c,.int .i64 N] w (RoPost w N v):=by
 obtain⟨us,hr,hul,hc,hc',lu,hv⟩:=hv;have HK:=Lib.hid hul;have HV:=Lib.hid hv;have HS:=Lib.hid (show(List.replicate N 0).length=N from by simp);clear hul hv;go_enter Tryz.func131,Tryz.ntmps131
 go_wp2_with (at_make;refine a_f _ rfl _ _ 35 rfl 67 .u64 8 Tryz.underlying35 info_u64 _ _ _ _ N rfl rfl (by omega) (by omega) (by omega) (by omega) ?_)
 intro w1 hb1 hw1 hz1;have HZ1:=Lib.hid hz1;have ar1:=Ar.of_wb (c_y hb1);have W1:=c_y hb1;have hr1:=hr.below hw1;have HW1:=Lib.hid W1;have HBe:=Lib.hid hw1;clear hz1 hb1 hr W1 hw1
 go_wp2_with (refine a_x rfl (.tmp 8) (.tmp 9) _ _ rfl 67 Tryz.underlying35 (by kernel_rfl) A N N k c w.heap.size 0 67 _ us rfl rfl HS.out HK.out hk ar1 hr1 lu (Seg w.heap.size 0 N) (fun j hj=>⟨rfl,Nat.zero_le _,by simp;omega⟩) ?_)
 intro w2 ar2 T2 Z2;have Wb2:=HW1.out.part (n:=N) T2 ar2 (by have:=HK.out;simp;omega) (by simp) fun j hj h=>by have:=h.2.2;simp at this;omega
 have P:Hid (RoPost w N v (.returned (.slice (some ⟨w.heap.size,0,none⟩) N N)) w2):=Lib.hid (by
  rw[List.drop_of_length_le (by simp),List.append_nil]at Wb2;refine⟨_,_,rfl,Nat.le_refl _,by have:=HK.out;simp;omega,Wb2,by rw[ev_pad'];exact HV.out,HBe.out.trans (T2.below (B:=w.heap.size) (by have:=HZ1.out;omega) fun a h=>by rw[h.1];exact Nat.le_refl _)⟩)
 clear ar2 T2 Z2 Wb2 ar1 hr1
 go_wp2
 go_ret
 exact P.out
theorem e_g (g p cap n d:Nat)(B:Option Addr)(zs xs:List Nat)(m:Nat)(w:World)(har:Ar w g p 67 zs)(hzl:zs.length=m)(hr:Rd w .u64 B xs)(hn:xs.length=n)
  (lx:Low 18446744073709551616 xs) (hnm:n≤m) (hcap:m≤cap) (hm:cap≤9223372036854775807):
  Calls Tryz.prog 146 #[.slice (some ⟨g,p,none⟩) m cap,.slice B n d] w (FiPost w g p m xs):=by
 have HZ:=Lib.hid hzl;have HN:=Lib.hid hn;have hl:((xs++zs.drop n).drop n).length=m - n:=by simp;omega
 have HL:=Lib.hid hl;have he:∀w1 w2:World,Ar w1 g p 67 (xs++zs.drop n)→Tch (Seg g p m) w w1→w1.heap.size=w.heap.size→Ar w2 g (p+n) 67 (List.replicate (m - n) 0)→Tch (Seg g (p+n) (m - n)) w1 w2→w2.heap.size=w1.heap.size→
   FiPost w g p m xs (.returned (.tuple #[])) w2:=by
  subst hn;intro w1 w2 h1 t1 z1 h2 t2 z2;exact j_k hzl hnm h1 t1 z1 h2 t2 z2
 have HE:=Lib.hid he;clear hzl hn hl he;have hS:∀j,j<n→Seg g p m ⟨g,p+j,none⟩:=fun j hj=>⟨rfl,Nat.le_add_right _ _,Nat.add_lt_add_left (by omega) _⟩;have HS:=Lib.hid hS;have hS2:∀j,j<m - n→Seg g (p+n) (m - n) ⟨g,p+n+j,none⟩:=fun j hj=>⟨rfl,Nat.le_add_right _ _,Nat.add_lt_add_left hj _⟩;have HS2:=Lib.hid hS2;clear hS hS2;by_cases hc:n=cap
 ·obtain rfl:n=m:=by omega
  subst hc;have h0:n - n=0:=by omega
  have H0:=Lib.hid h0;clear h0;go_enter Tryz.func146,Tryz.ntmps146
  go_wp2_with (refine a_x rfl (.tmp 5) (.tmp 6) _ _ rfl 67 Tryz.underlying35 (by kernel_rfl) B n n n d g p 67 zs xs rfl rfl HZ.out HN.out (Nat.le_refl _) har hr lx (Seg g p n) HS.out ?_)
  intro w1 h1 t1 z1;have Z1:=Lib.hid z1;clear z1;have h2:=h1.drop n (by have:=HN.out;simp;omega)
  go_wp2_with (refine b_h rfl (.tmp 10) _ rfl 67 Tryz.underlying35 zero_u64 _ 0 _ g (p+n) 67 _ rfl (fun h=>by omega) (HL.out.trans H0.out) h2 (Seg g (p+n) (n - n)) (fun j hj=>by omega) ?_)
  intro w2 h3 t3 z3;have Z3:=Lib.hid z3;clear z3
  go_wp2
  go_end0
  exact HE.out _ _ h1 t1 Z1.out (by rw[H0.out];exact h3) (by rw[H0.out];exact t3) Z3.out
 ·have hlt:n<cap:=by omega
  clear hc;go_enter Tryz.func146,Tryz.ntmps146
  go_wp2_with (refine a_x rfl (.tmp 5) (.tmp 6) _ _ rfl 67 Tryz.underlying35 (by kernel_rfl) B m cap n d g p 67 zs xs rfl rfl HZ.out HN.out hnm har hr lx (Seg g p m) HS.out ?_)
  intro w1 h1 t1 z1;have Z1:=Lib.hid z1;clear z1;have h2:=h1.drop n (by have:=HN.out;have:=HZ.out;simp;omega)
  go_wp2_with (refine b_h rfl (.tmp 10) _ rfl 67 Tryz.underlying35 zero_u64 _ (m - n) _ g (p+n) 67 _ rfl (fun h=>rfl) HL.out h2 (Seg g (p+n) (m - n)) HS2.out ?_)
  intro w2 h3 t3 z3;have Z3:=Lib.hid z3;clear z3
  go_wp2
  go_end0
  exact HE.out _ _ h1 t1 Z1.out h3 t3 Z3.out
end
section
open Go.RowKit
structure Wh (base h ga gb gx gy:Nat):Prop where
 h0:base≤h
 ha:h≠ga
 hb:h≠gb
 hx:h≠gx
 hy:h≠gy
theorem Wh.swap {base h ga gb gx gy:Nat}(k:Wh base h ga gb gx gy):Wh base h gb ga gy gx:=⟨k.h0,k.hb,k.ha,k.hy,k.hx⟩
def WayAt (w:World)(base h u m G N g:Nat):Prop:=
 ∃(n ga gb gx gy a b x y:Nat) (La Lb Lx Ly:List Nat) (t:Bool),Wy w h (.slice (some ⟨ga,0,none⟩) n N) (.slice (some ⟨gb,0,none⟩) n N) (.slice (some ⟨gx,0,none⟩) N N) (.slice (some ⟨gy,0,none⟩) N N) t∧Wh base h ga gb gx gy∧
  Four w base N n ga gb gx gy La Lb Lx Ly a b x y∧Wm u m G a b x y t∧b≤a∧(n=0∨nth La (n - 1)≠0)∧a+b=g
def WoPost (w:World)(u m k:Nat)(e:Ending)(w':World):Prop:=
 ∃h N,e= .returned (.pointer (some ⟨h,0,none⟩))∧WayAt w' w.heap.size h u m (Nat.gcd u m) N (m+u%m)∧m<18446744073709551616^N∧N≤k∧N≤68719476736∧Below w.heap.size w w'
theorem h_u {A B:Option Addr}{n k c d u m:Nat}{w:World}(hu:Nv w A n c u)(hm:Nv w B k d m)(hn:n≤68719476736)(hk:k≤68719476736)(h0:0<m):
  Calls Tryz.prog 119 #[.slice A n c,.slice B k d] w (WoPost w u m k):=by
 have hW:=Below.refl w.heap.size w;obtain⟨N,hN⟩:∃N,N=(cn 18446744073709551616 m).length:=⟨_,rfl⟩;have hNk:N≤k:=by rw[hN];exact a_l _ _ _ (by omega) hm.lt
 have hmN:Hid (m<18446744073709551616^N):=Lib.hid (by rw[hN];exact e_5 _ _ (by omega));have htop:=s_g m;have hum:=Nat.mod_lt u h0;have hrN:u%m<18446744073709551616^N:=Nat.lt_trans hum hmN.out;have HUM:=Lib.hid hum;have HRN:=Lib.hid hrN;have HN:=Lib.hid hN;rw[←hN]at htop;have HTOP:=Lib.hid htop;clear hN hum hrN htop;go_enter Tryz.func119,Tryz.ntmps119
 go_wp2_with fail
 refine(q_z hm (by omega)).mono ?_;rw[show(NbPost m w:Ending→World→Prop)=NbPost m w from rfl];rintro e w1 ⟨g,rfl,hg,hblk,B1⟩;rw[←HN.out];have W1:Hid (Wb w1 g 67 (cn 18446744073709551616 m)):=Lib.hid ⟨hblk,c_x _ _ (by omega)⟩;replace hu:=hu.below B1;replace hm:=hm.below B1;have Z1:=Lib.hid hblk.lt;have HB:=Lib.hid B1;clear hblk B1
 go_wp2_with fail
 refine(u_a hu hm (by omega) (by omega) h0).mono ?_;rintro e w2 ⟨A2,n2,c2,rfl,p2,k2,B2⟩;have hn2:n2≤N:=by rw[←p2.2.1];exact a_l _ _ _ (by omega) HRN.out
 replace W1:=Lib.hid (W1.out.below B2);replace Z1:=Lib.hid (Nat.lt_of_lt_of_le Z1.out B2.size);replace HB:=Lib.hid (HB.out.trans (B2.mono HB.out.size));clear B2 hu hm
 go_wp2_with fail
 refine(d_o A2 n2 c2 N (u%m) _ p2.nv hn2 (by omega)).mono ?_;rintro e w3 ⟨gb,Lb,rfl,hgb,lb,Wb3,vb,B3⟩;replace W1:=Lib.hid (W1.out.below B3);have Wb3:=Lib.hid Wb3;have Zb:=Lib.hid Wb3.out.1.lt;have Z2:=Lib.hid (Nat.lt_of_lt_of_le Z1.out B3.size);have Dab:Hid (g≠gb):=Lib.hid (by have:=Z1.out;omega);have HLB:=Lib.hid lb;have HVB:=Lib.hid vb;have HGB:Hid (w.heap.size≤gb):=Lib.hid (by have:=HB.out.size;omega);replace HB:=Lib.hid (HB.out.trans (B3.mono HB.out.size));clear B3 p2 lb vb hgb Z1
 go_wp2_with fail
 refine(d_o none 0 0 N 0 _ (Nv.nil _) (by omega) (by omega)).mono ?_;rintro e w4 ⟨gx,Lx,rfl,hgx,lx,Wx4,vx,B4⟩;replace W1:=Lib.hid (W1.out.below B4);replace Wb3:=Lib.hid (Wb3.out.below B4);have Wx4:=Lib.hid Wx4;have Zx:=Lib.hid Wx4.out.1.lt;have Dax:Hid (g≠gx):=Lib.hid (by have:=Z2.out;omega);have Dbx:Hid (gb≠gx):=Lib.hid (by have:=Zb.out;omega);replace Z2:=Lib.hid (Nat.lt_of_lt_of_le Z2.out B4.size);replace Zb:=Lib.hid (Nat.lt_of_lt_of_le Zb.out B4.size);have HLX:=Lib.hid lx;have HVX:=Lib.hid vx;have HGX:Hid (w.heap.size≤gx):=Lib.hid (by have:=HB.out.size;omega);replace HB:=Lib.hid (HB.out.trans (B4.mono HB.out.size));clear B4 lx vx hgx
 go_wp2_with fail
 refine(f_7 1 (by omega) _).mono ?_;intro e w5 P5;obtain⟨A5,n5,c5,rfl,p5,k5,B5⟩:=NatPost.cv (k:=1) P5 (by omega);replace W1:=Lib.hid (W1.out.below B5);replace Wb3:=Lib.hid (Wb3.out.below B5);replace Wx4:=Lib.hid (Wx4.out.below B5);replace Z2:=Lib.hid (Nat.lt_of_lt_of_le Z2.out B5.size);replace Zb:=Lib.hid (Nat.lt_of_lt_of_le Zb.out B5.size);replace Zx:=Lib.hid (Nat.lt_of_lt_of_le Zx.out B5.size);replace HB:=Lib.hid (HB.out.trans (B5.mono HB.out.size));have hN0:1≤N:=by
  rcases Nat.eq_zero_or_pos N with h|h
  ·have:=hmN.out;rw[h]at this;omega
  ·exact h
 clear B5 P5
 go_wp2_with fail
 refine(d_o A5 n5 c5 N 1 _ p5.nv (by omega) (by omega)).mono ?_;rintro e w6 ⟨gy,Ly,rfl,hgy,ly,Wy6,vy,B6⟩;replace W1:=Lib.hid (W1.out.below B6);replace Wb3:=Lib.hid (Wb3.out.below B6);replace Wx4:=Lib.hid (Wx4.out.below B6);have Day:Hid (g≠gy):=Lib.hid (by have:=Z2.out;omega);have Dby:Hid (gb≠gy):=Lib.hid (by have:=Zb.out;omega);have Dxy:Hid (gx≠gy):=Lib.hid (by have:=Zx.out;omega);replace Z2:=Lib.hid (Nat.lt_of_lt_of_le Z2.out B6.size);replace Zb:=Lib.hid (Nat.lt_of_lt_of_le Zb.out B6.size);replace Zx:=Lib.hid (Nat.lt_of_lt_of_le Zx.out B6.size);have HGY:Hid (w.heap.size≤gy):=Lib.hid (by have:=HB.out.size;omega);replace HB:=Lib.hid (HB.out.trans (B6.mono HB.out.size));have HS6:Hid (w.heap.size≤w6.heap.size):=Lib.hid HB.out.size;have P:Hid (∀w7,w7=w6.alloc (.cells #[.slice (some ⟨g,0,none⟩) N N,.slice (some ⟨gb,0,none⟩) N N,.slice (some ⟨gx,0,none⟩) N N,.slice (some ⟨gy,0,none⟩) N N,.bool true] 136)→WoPost w u m k (.returned (.pointer (some ⟨w6.heap.size,0,none⟩))) w7):=Lib.hid (by
  rintro w7 rfl;have B7:=zb0 w6 (.cells #[.slice (some ⟨g,0,none⟩) N N,.slice (some ⟨gb,0,none⟩) N N,.slice (some ⟨gx,0,none⟩) N N,.slice (some ⟨gy,0,none⟩) N N,.bool true] 136);have hlc:(cn 18446744073709551616 m).length=N:=HN.out.symm;refine⟨w6.heap.size,N,rfl,⟨N,g,gb,gx,gy,m,u%m,0,1,_,Lb,Lx,Ly,true,heap_alloc_new w6 _,⟨HS6.out, ?_, ?_, ?_, ?_⟩,⟨Dab.out,Dax.out,Day.out,Dbx.out,Dby.out,Dxy.out,hg,HGB.out,HGX.out,HGY.out,hlc,HLB.out,HLX.out,ly,Nat.le_refl _,by omega,W1.out.below B7,Wb3.out.below B7,Wx4.out.below B7,Wy6.below B7, ?_, ?_,HVX.out,vy⟩,Wm.start u m, ?_,HTOP.out,rfl⟩,hmN.out,hNk,by omega,HB.out.trans (B7.mono HS6.out)⟩
  ·have:=Z2.out;omega
  ·have:=Zb.out;omega
  ·have:=Zx.out;omega
  ·have:=Wy6.1.lt;omega
  ·rw[List.take_of_length_le (by omega),e_1 _ _ (by omega)]
  ·rw[List.take_of_length_le (by have:=HLB.out;omega)];exact HVB.out
  ·have:=HUM.out;omega)
 clear B6 p5 ly vy hgy Wy6 HB
 go_wp2_with fail
 go_ret
 exact P.out _ rfl
end
end Go.Proofs.YtgohglhefhocgaaGreat
