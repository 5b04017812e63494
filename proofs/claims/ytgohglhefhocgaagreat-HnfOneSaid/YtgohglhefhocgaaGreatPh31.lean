/- Ph31 -/
import Derived.Test.YtgohglhefhocgaaGreatPh30
set_option linter.unusedVariables false
set_option linter.unusedSimpArgs false
set_option linter.unusedSectionVars false
set_option maxRecDepth 100000
set_option maxHeartbeats 8000000
namespace Go.Proofs.YtgohglhefhocgaaGreat
open Go.RowKit
structure Chg (w w':World) (n:Nat) (g:Nat→Nat):Prop where
 os:w'.os=w.os
 tape:w'.tape=w.tape
 output:w'.output=w.output
 size:w.heap.size≤w'.heap.size
 block:∀k,k<w.heap.size→(∀a,a<n→g a≠k)→w'.heap[k]? =w.heap[k]?
section
variable {w w' w'':World}{n b:Nat}{g:Nat→Nat}
theorem Chg.of (h:Below w.heap.size w w'):Chg w w' n g:=⟨h.os,h.tape,h.output,h.size,fun k hk _=>h.block k hk⟩
theorem Chg.one {a:Nat}(ha:a<n)(h:w.grownBy w' (some (g a))):Chg w w' n g:=⟨h.os,h.tape,h.output,h.size,fun k hk hn=>h.block k hk fun e=>hn a ha (Option.some.inj e).symm⟩
theorem Chg.trans (h:Chg w w' n g)(h2:Chg w' w'' n g):Chg w w'' n g:=⟨h2.os.trans h.os,h2.tape.trans h.tape,h2.output.trans h.output,Nat.le_trans h.size h2.size,fun k hk hn=>(h2.block k (Nat.lt_of_lt_of_le hk h.size) hn).trans (h.block k hk hn)⟩
theorem Chg.refl (w:World):Chg w w n g:=.of (Below.refl _ _)
theorem Chg.bx (h:Chg w w' n g){x:Nat}{T:TypeId}{cs:List Value}(bx:Bx w x T cs)(hn:∀a,a<n→g a≠x):Bx w' x T cs:=(h.block x bx.lt hn).trans bx
theorem Chg.up (h:Chg w w' n g){w0:World}(h0:Below b w0 w)(hb:b≤w.heap.size)(hg:∀a,a<n→b≤g a):Below b w0 w':=h0.trans ⟨h.os,h.tape,h.output,h.size,fun k hk=>h.block k (by omega) fun a ha e=>by have:=hg a ha;omega⟩
end
def AbPost (b:Nat)(w:World)(n W:Nat)(g o:Nat→Nat)(F:Nat→Nat→Int)(a ca:Nat)(f:Nat→Int)(e:Ending)(w':World):Prop:=
 e= .returned (rwV (g a) (o a) W ca)∧Rws b w' n W g o (DT.upd F a f)∧w.grownBy w' (some (g a))
def ngm (f:Nat→Int)(j:Nat):Nat→Int:=fun i=>if i<j then - f i else f i
theorem n_1 (f:Nat→Int):ngm f 0=f:=by funext i;unfold ngm;rw[if_neg (by omega)]
theorem s_1 {f:Nat→Int}{j:Nat}:ngm f j j=f j:=by unfold ngm;rw[if_neg (by omega)]
theorem n_2 {f:Nat→Int}{j:Nat}:(fun i=>if i=j then - f j else ngm f j i)=ngm f (j+1):=by
 funext i
 unfold ngm;by_cases e:i=j
 ·subst e;rw[if_pos rfl,if_pos (by omega)]
 ·rw[if_neg e];by_cases e2:i<j
  ·rw[if_pos e2,if_pos (by omega)]
  ·rw[if_neg e2,if_neg (by omega)]
theorem ldBoolE {w:World}{p:Addr}{s:Bool}(hp:p.block<w.heap.size)(h:w.cell? p=some (.bool s)):∀w',Below w.heap.size w w'→(Instr.loadAt 4 (.pointer (some p))).run Tryz.prog w'= .ok (.bool s) w':=fun w' hb=>by
 have:=(hb.cell hp).trans h;simp[go_sem,a_p,this]
theorem r_9 {b n W k ka ca:Nat}{g o:Nat→Nat}{F:Nat→Nat→Int}{a:Nat}{w:World}(r:Rws b w n W g o F)(ha:a<n)(hk:k<W)(hW:W≤1048576)(hBa:Bd W ka (F a))(hK:ka≤549755813888):
  Calls Tryz.prog 99 #[rwV (g a) (o a) W ca,.int .i64 (k:Int)] w (AbPost b w n W g o F a ca (if F a k<0 then fun j=>- F a j else F a)):=by
 have HBA:=Lib.hid hBa;have HR0:=Lib.hid r;have hla:=(r.row a ha).lt;have hga:=(r.row a ha).lo;obtain⟨f,hf⟩:∃f,(if F a k<0 then fun j=>- F a j else F a)=f:=⟨_,rfl⟩;rw[hf];have HF:=Lib.hid hf;clear hBa hf;go_enter Tryz.func99,Tryz.ntmps99
 go_upto_region 1 with fail
 have hR:=r;clear r;obtain⟨sx,Ax,nx,cx,ex0,ex1,zx⟩:=(hR.row a ha).cells hk;obtain⟨px,hpx⟩:∃p,o a+k*2=p:=⟨_,rfl⟩;rw[hpx]at ex0 ex1;have lx:=(hR.row a ha).lt;have hsx:=zx.2.out;clear zx;by_cases hneg:F a k<0
 ·have HF:=Lib.hid (HF.out.symm.trans (if_pos hneg));obtain rfl:sx=true:=by rw[hsx];exact decide_eq_true hneg
  refine Run.start 5 ?_;refine .mv .o ?_;refine .mv .o ?_;refine .two (.i 0) (.i 1) (opIxR hk hpx) ?_;refine .fa (.i 2) (fZ0 px) ?_;refine .ld (.i 3) (ldBoolE (p:=⟨g a,px,none⟩) lx ex0) ?_;refine .donep [some 7,some 8,some 9,some 10,some 11] ?_;intro w2 B2;change Shut (wpList _ _ _ [] _ _);refine⟨?_⟩;simp only[Act.put,lS,lZ,lC];have HS:Hid (w.grownBy w2 (some (g a))∧Rws b w2 n W g o (DT.upd F a (ngm (F a) 0))):=Lib.hid ⟨b_m B2 _,by rw[n_1,DT.upd_id];exact hR.below B2⟩;clear hR B2 ex0 ex1 lx hsx
  go_wp2_with fail
  go_loopw [14] (fun s14 wr=>∃j:Nat,s14= .int .i64 (j:Int)∧j≤W∧Hid (w.grownBy wr (some (g a))∧Rws b wr n W g o (DT.upd F a (ngm (F a) j)))) (fun s14 _=>W - (intOf s14).toNat)
  case atStart=>exact⟨0,rfl,Nat.zero_le _,HS⟩
  case round=>
   obtain⟨j,rfl,hjW,HB⟩:=hrel;obtain⟨hG,hR⟩:=HB.out;have hlw:=hG.size;by_cases hlt:j<W
   ·have u2:(j:Int)<(W:Int):=by omega
    clear HB HS;go_upto_region 4 with fail
    obtain⟨su,Au,nu,cu,eu0,eu1,zu⟩:=(hR.row a ha).cells hlt;obtain⟨pu,hpu⟩:∃p,o a+j*2=p:=⟨_,rfl⟩;rw[hpu]at eu0 eu1;have lu:=(hR.row a ha).lt;refine Run.start 5 ?_;refine .mv .o ?_;refine .two .o .o (opIxR hlt hpu) ?_;refine .ld (.i 1) (ldE (p:=⟨g a,pu,none⟩) lu eu0 eu1) ?_;refine .al ?_;refine .mv (.i 0) ?_;refine .donep [some 16,some 17,some 18,some 6,some 5] ?_;intro w3 B3;rintro g6 hg6 hl6 hc6 -;change Shut (wpList _ _ _ [_] _ _);refine⟨?_⟩;simp only[Act.put,lS,lZ,lC];have b6:=zeroZt hc6;rw[DT.upd_self,s_1]at zu;replace hR:=hR.below B3;replace hG:=a_t hG (b_m B3 (some (g a)));have hzu:=zu.below B3;have hnu:=zu.le (HBA.out j hlt);have N6:∀x,x<n→g x≠g6:=fun x hx e=>by have:=(HR0.out.row x hx).lt;omega
    clear B3 hc6 eu0 eu1 zu;obtain⟨w4,hw4⟩:∃x,zput w3 g6 su Au nu cu=x:=⟨_,rfl⟩;obtain⟨f1_,f2_,f3_,f4_,f5_⟩:=Ib.entry b6;replace hzu:=hzu.zp (s':=su) (A':=Au) (n':=nu) (c':=cu) b6;rw[hw4]at hzu;replace hR:=hR.zp (s:=su) (A:=Au) (m:=nu) (c:=cu) N6 b6;rw[hw4]at hR;replace hG:=e_x (s:=su) (A:=Au) (n:=nu) (c:=cu) hG (show _≤g6 by omega);rw[hw4]at hG;replace b6:=b6.zp (s:=su) (A:=Au) (n:=nu) (c:=cu);rw[hw4]at b6;have Hw4:=Lib.hid hw4;unfold zput at Hw4;clear hw4;go_upto_region 5 with fail
    rw[Hw4.out];clear f1_ f2_ f3_ f4_ f5_ Hw4;have HZU:=Lib.hid hzu;have N6:=Lib.hid N6;clear hzu;obtain⟨p9,hp9⟩:∃p,o a+j*2=p:=⟨_,rfl⟩;refine Run.start 5 ?_;refine .mv .o ?_;refine .mv .o ?_;refine .ld .o (ldZ b6 0) ?_;refine .c1 (.i 2) (x:=kC (- F a j) ka) (by rintro u w6 hB rfl;exact k_r ⟨_,_,_,_,rfl,(HZU.out.below hB).zv,hnu⟩ (by omega)) ?_;refine .two (.i 0) (.i 1) (opIxR hlt hp9) ?_;refine .donep [some 19,some 20,some 21,some 22,some 23] ?_;intro w6 B6;rintro v ⟨s9,A9,n9,c9,rfl,hz9,hk9⟩;change Shut (wpList _ _ _ [_] _ _);refine⟨?_⟩;simp only[Act.put,lS,lZ,lC];replace hR:=hR.below B6;have hG6:=a_t hG (b_m B6 (some (g a)));have hrow:=hR.row a ha;have hno:=hrow.now;have hgr:=b_l w6 (g a) (o a+j*2) s9 A9 n9 c9;have hR':=hR.put ha hlt hz9;rw[DT.upd_self,DT.upd_upd,n_2]at hR';obtain⟨t1,t2,t3,t4,x1,x2,-⟩:=hrow.cells hlt;have y1:=hrow.free (o a+j*2);have y2:=hrow.free (o a+j*2+1);rw[hp9]at x1 x2 y1 y2 hR' hgr;have HS:Hid (w.grownBy (zputo w6 (g a) p9 s9 A9 n9 c9) (some (g a))∧Rws b (zputo w6 (g a) p9 s9 A9 n9 c9) n W g o (DT.upd F a (ngm (F a) (j+1)))):=
     Lib.hid ⟨a_t hG6 hgr,hR'⟩
    unfold zputo at HS;clear hR hR' b6 hG hG6 B6 hz9 hrow hno hgr HZU
    go_wp2_with fail
    go_roundw
    case rel=>exact⟨j+1,by go_num,by omega,HS⟩
    case measure=>first|(simp[intOf];done)|(simp[intOf];omega)
   ·obtain rfl:j=W:=by omega
    have u2:¬(j:Int)<(j:Int):=by omega
    have P:Hid (AbPost b w n j g o F a ca f (.returned (rwV (g a) (o a) j ca)) wr):=by
     refine Lib.hid ⟨rfl, ?_,hG⟩;rw[HF.out];refine hR.congr fun x i hx hi=>?_;by_cases e:x=a
     ·subst e;rw[DT.upd_self,DT.upd_self];unfold ngm;rw[if_pos hi]
     ·rw[DT.upd_ne e,DT.upd_ne e]
    clear HB hR hG
    go_wp2_with fail
    exact bodyPost_ret (v:=rwV (g a) (o a) j ca) (by simp[results,Tryz.results99,go_sem]) rfl P.out
 ·have HF:=Lib.hid (HF.out.symm.trans (if_neg hneg));obtain rfl:sx=false:=by rw[hsx];exact decide_eq_false hneg
  refine Run.start 5 ?_;refine .mv .o ?_;refine .mv .o ?_;refine .two (.i 0) (.i 1) (opIxR hk hpx) ?_;refine .fa (.i 2) (fZ0 px) ?_;refine .ld (.i 3) (ldBoolE (p:=⟨g a,px,none⟩) lx ex0) ?_;refine .donep [some 7,some 8,some 9,some 10,some 11] ?_;intro w2 B2;change Shut (wpList _ _ _ [] _ _);refine⟨?_⟩;simp only[Act.put,lS,lZ,lC];have P:Hid (AbPost b w n W g o F a ca f (.returned (rwV (g a) (o a) W ca)) w2):=Lib.hid ⟨rfl,by rw[HF.out,DT.upd_id];exact hR.below B2,b_m B2 _⟩;clear hR B2 ex0 ex1
  go_wp2_with fail
  exact bodyPost_ret (v:=rwV (g a) (o a) W ca) (by simp[results,Tryz.results99,go_sem]) rfl P.out
end Go.Proofs.YtgohglhefhocgaaGreat
