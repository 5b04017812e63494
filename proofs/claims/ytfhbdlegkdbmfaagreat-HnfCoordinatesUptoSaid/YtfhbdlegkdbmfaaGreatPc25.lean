/- Pc25 -/
import Derived.Test.YtfhbdlegkdbmfaaGreatPc24
set_option linter.unusedVariables false
set_option linter.unusedSimpArgs false
set_option linter.unusedSectionVars false
set_option maxRecDepth 100000
set_option maxHeartbeats 8000000
namespace Go.Proofs.YtfhbdlegkdbmfaaGreat
section
open Go.RowKit
section
variable {b b':Nat}{w w':World}{n n' W:Nat}{g o:Nat->Nat}{F F':Nat->Nat->Int}
theorem Rws.put (h:Rws b w n W g o F){a j m c:Nat}(ha:a<n)(hj:j<W){s:Bool}{A:Option Addr}{z:Int}(hz:Zc w s A m c z):Rws b (zputo w (g a) (o a+j*2) s A m c) n W g o (DT.upd F a fun i=>if i=j then z else F a i):=
 ⟨fun x hx=>by
  by_cases e:x=a
  ·subst e;rw[DT.upd_self];exact(h.row x hx).put hj hz
  ·rw[DT.upd_ne e];refine(h.row x hx).off (h.row a ha) fun eg=>?_;rcases h.dj x a hx ha e with h1|h1|h1
   ·exact absurd eg h1
   ·right;omega
   ·left;omega,h.dj⟩
end
theorem opSn {A:Option Addr}{n c:Nat}{b:Bool}{X Y:Operand}{T U:TypeId}(h:A.isSome=b)(w:World):RunTwo Tryz.prog (.binOp .neq 25 X Y U) w (.slice A n c) (.slice none 0 0) (.bool b):=by
 unfold RunTwo;subst h;cases A<;>simp[go_sem]<;>rfl
theorem opSe {A:Option Addr}{n c:Nat}{b:Bool}{X Y:Operand}{T U:TypeId}(h:A.isNone=b)(w:World):RunTwo Tryz.prog (.binOp .eql 25 X Y U) w (.slice A n c) (.slice none 0 0) (.bool b):=by
 unfold RunTwo;subst h;cases A<;>simp[go_sem]<;>rfl
section
variable {ops:Array Oper}{m i:Nat}{a0:Act}{w0:World}
theorem b_j {Fs:List FVal}{k j:Nat}{F F':FVal}(hok:okFl ops m i k j=true)(hk:nthF Fs k=F)(hi:nthF Fs i=F')(hF:∀u w,F u w->∃vs:Array Value,∃v,u= .tuple vs/\vs[j]? =some v/\F' v w):FloatAt Tryz.prog ops m a0 w0 Fs i (opAt ops i):=fun a w hB ho hp=>by
 unfold okFl at hok;rw[Bool.and_eq_true]at hok;obtain⟨h1,h2⟩:=hok;split at h1
 ·rename_i t j' e;simp only[Bool.and_eq_true,beq_iff_eq]at h1;obtain⟨⟨⟨⟨rfl,h3⟩,h4⟩,h5⟩,h6⟩:=h1;have hv:=hp k t (by simp only[Bool.and_eq_true,beq_iff_eq];exact⟨⟨⟨h3,h4⟩,h5⟩,h6⟩);rw[hk]at hv;obtain⟨vs,v,eu,ev,hv'⟩:=hF _ _ hv;refine⟨v,by rw[hi];exact hv', ?_⟩;refine .inl ⟨c_u (Option.isNone_iff_eq_none.1 h2),fun w'=>?_⟩;unfold execOp;rw[e];simp only[eu];simp[go_sem,ev]
 ·cases h1
theorem h_n {Fs:List FVal}{j l:Nat}(h:FloatAt Tryz.prog ops m a0 w0 Fs j (opAt ops j))(h2:FloatAt Tryz.prog ops m a0 w0 Fs l (opAt ops l)):∀i,[j,l].contains i=true->i<m->FloatAt Tryz.prog ops m a0 w0 Fs i (opAt ops i):=fun i hi _=>by
 have e:i=j\/i=l:=by simpa using hi
 rcases e with rfl|rfl
 ·exact h
 ·exact h2
end
end
section
open Go.RowKit
theorem s_l {s:Bool}{A:Option Addr}{n c:Nat}{z:Int}{w:World}(hz:Zv w s A n c z)(hn:n<=1099511627776):Calls Tryz.prog 131 #[.agg #[.bool s,.slice A n c]] w (RetK (.k (.bool (decide (z≠0)))) w):=by
 obtain⟨p,hp⟩:∃p,decide (z≠0)=p:=⟨_,rfl⟩;obtain⟨x,hx⟩:∃x,z.sign=x:=⟨_,rfl⟩;have HX:=Lib.hid hx;have hxp:decide (x≠0)=p:=by rw[<-hp,<-hx];exact decide_eq_decide.2 (not_congr Int.sign_eq_zero_iff_zero)
 rw[hp];have HZV:=Lib.hid hz;clear hp hx hz;obtain⟨w1,hw1,b1,z1,s1⟩:=boxes1 w 31 [.bool s,.slice A n c];have HW:=Lib.hid hw1;have HZ:=Lib.hid z1;have hxp_:=Lib.hid hxp;clear hw1 z1 hxp s1;go_enter Tryz.func131,Tryz.ntmps131
 go_upto_region 1 with fail
 rw[HW.out];have hw1:Below w.heap.size w w1:=HZ.out;refine Run.start 4 ?_;refine .ld .o (ldZ b1 0) ?_;refine .c1 (.i 0) (x:=.k (.int .i64 x)) (by rintro u w4 hB rfl;exact a_m ⟨_,_,_,_,rfl,HZV.out.below (zup hw1 hB),Nat.le_refl _⟩ hn HX.out) ?_;refine .two (.i 1) .o (opNe hxp_.out) ?_;refine .mv (.i 2) ?_;refine .donep [some 3,some 4,some 5,some 2] ?_;intro w2 B2;refine sh [] ?_;simp only[Act.put,lS,lZ,lC];have P:Hid (RetK (.k (.bool p)) w (.returned (.bool p)) w2):=Lib.hid ⟨_,rfl,rfl,zup HZ.out B2⟩
 go_wp2_with fail
 exact bodyPost_ret (v:=.bool p) (by simp[results,Tryz.results131,go_sem]) rfl P.out
theorem s_m {q:Bool}{n c k:Nat}{A:Option Addr}{zs:List Int}{x:Int}{w:World}(hx:ZL q w A n c k zs)(hl:n<=1048576)(hk:k<=1099511627776)(hr:x=if DT.fst n (ith zs)<n then(DT.fst n (ith zs):Int)else -1):Calls Tryz.prog 130 #[.slice A n c,.func (.func 131) #[] #[]] w (RetK (.k (.int .i64 x)) w):=by
 have HX:=Lib.hid hx;have HR:=Lib.hid hr;clear hx hr;go_enter Tryz.func130,Tryz.ntmps130
 go_wp2_with fail
 go_loopw [8] (fun s8 wr=>∃j:Nat,s8= .int .i64 (j:Int)/\j<=n/\Hid (Below w.heap.size w wr/\∀a,a<j->ith zs a=0)) (fun s8 _=>n - (intOf s8).toNat)
 case atStart=>exact⟨0,rfl,Nat.zero_le _,Lib.hid ⟨Below.refl _ _,fun a ha=>by omega⟩⟩
 case round=>
  obtain⟨j,rfl,hj,HB⟩:=hrel;by_cases hlt:j<n
  ·have u2:(j:Int)<(n:Int):=by omega
   obtain⟨ad,rfl,hbl,hZ⟩:=(HX.out.below HB.out.1).at hlt;obtain⟨s,A1,n1,c1_,e1,e2,hz,hn1⟩:=hZ;have c1:wr.cell? (ad.add (j*2))=some (.bool s):=e1;have HZ:=Lib.hid hz;clear e1 hz
   go_wp2_with fail
   refine(s_l HZ.out.1 (by omega)).mono ?_;rintro e w2 ⟨v,rfl,rfl,B⟩;have B0:=Lib.hid (zup HB.out.1 B);clear B c1 e2;by_cases hz0:ith zs j=0
   ·have HS:Hid (Below w.heap.size w w2/\∀a,a<j+1->ith zs a=0):=Lib.hid ⟨B0.out,fun a ha=>by
     by_cases e:a=j
     ·subst e;exact hz0
     ·exact HB.out.2 a (by omega)⟩
    rw[show decide (ith zs j≠0)=false by simp[hz0]];clear HB B0 hz0
    go_wp2_with fail
    go_roundw
    case rel=>exact⟨j+1,by go_num,by omega,HS⟩
    case measure=>first|(simp[intOf];done)|(simp[intOf];omega)
   ·have P:Hid (RetK (.k (.int .i64 x)) w (.returned (.int .i64 (j:Int))) w2):=Lib.hid ⟨_,rfl,by
     have h1:=DT.fst_of hlt HB.out.2 hz0;have h2:=HR.out;rw[h1,if_pos hlt]at h2;rw[h2];rfl,B0.out⟩
    rw[show decide (ith zs j≠0)=true by simp[hz0]];clear HB B0 hz0
    go_wp2_with fail
    exact bodyPost_ret (v:=.int .i64 (j:Int)) (by simp[results,Tryz.results130,go_sem]) rfl P.out
  ·obtain rfl:j=n:=by omega
   have u2:¬(j:Int)<(j:Int):=by omega
   have P:Hid (RetK (.k (.int .i64 x)) w (.returned (.int .i64 (-1))) wr):=Lib.hid ⟨_,rfl,by
    have h2:=HR.out;rw[DT.fst_none HB.out.2,if_neg (by omega)]at h2;rw[h2];rfl,HB.out.1⟩
   clear HB
   go_wp2_with fail
   exact bodyPost_ret (v:=.int .i64 (-1)) (by simp[results,Tryz.results130,go_sem]) rfl P.out
theorem k_y {q:Bool}{n c k:Nat}{A:Option Addr}{zs:List Int}{w:World}(hx:ZL q w A n c k zs)(hl:n<=1048576)(hk:k<=1099511627776):Calls Tryz.prog 89 #[.slice A n c] w (RetK (.k (.int .i64 (DT.fst n (ith zs):Int))) w):=by
 obtain⟨x,hr⟩:∃x:Int,x=if DT.fst n (ith zs)<n then(DT.fst n (ith zs):Int)else -1:=⟨_,rfl⟩
 have hle:=DT.fst_le n (ith zs);obtain⟨f,hf⟩:∃f,DT.fst n (ith zs)=f:=⟨_,rfl⟩;have HC:=Lib.hid (s_m hx hl hk hr);rw[hf]at hr hle;rw[hf];clear hf hx;go_enter Tryz.func89,Tryz.ntmps89
 go_wp2_with fail
 refine HC.out.mono ?_;rintro e w2 ⟨v,rfl,rfl,B⟩;have P:Hid (RetK (.k (.int .i64 (f:Int))) w (.returned (.int .i64 (f:Int))) w2):=Lib.hid ⟨_,rfl,rfl,B⟩;clear B HC;by_cases h:f<n
 ·rw[if_pos h]at hr;subst hr;have u1:¬(f:Int)<0:=by omega
  go_wp2_with fail
  exact bodyPost_ret (v:=.int .i64 (f:Int)) (by simp[results,Tryz.results89,go_sem]) rfl P.out
 ·rw[if_neg h]at hr;subst hr;obtain rfl:f=n:=by omega
  go_wp2_with fail
  exact bodyPost_ret (v:=.int .i64 (f:Int)) (by simp[results,Tryz.results89,go_sem]) rfl P.out
theorem i_j {b g o W k c:Nat}{f:Nat->Int}{w:World}(h:Rw b w g o W f)(hB:Bd W k f)(hc:W<=c)(hm:c<=9223372036854775807)(hl:W<=1048576)(hk:k<=1099511627776):Calls Tryz.prog 89 #[rwV g o W c] w (RetK (.k (.int .i64 (DT.fst W f:Int))) w):=by
 have:=k_y (h.zl hB true hc hm) hl hk;rwa [DT.fst_ext (v:=f) fun j hj=>k_e hj]at this
end
section
open Go.RowKit
theorem l_e {w:World}{s t:Bool}{A B:Option Addr}{n m c d:Nat}{x y:Int}(hx:Zv w s A n c x)(hy:Zv w t B m d y)(h0:0<y):dqv s t t x.natAbs y.natAbs=x / y:=by
 have e1:=hx.abs.2.out;have e2:=hy.abs.2.out;have hY:0<y.natAbs:=by omega
 have e:=n_6 (s:=s) (t:=t) (u:=t) (X:=x.natAbs) hY;obtain⟨R,hR,h⟩:=n_5 (s:=s) (u:=t) (X:=x.natAbs) hY;have ht:t=false:=by
  cases t
  ·rfl
  ·have h3:sg true y.natAbs= -((y.natAbs:Nat):Int):=rfl;rw[h3]at e2;omega
 obtain⟨q,hq⟩:∃q,dqv s t t x.natAbs y.natAbs=q:=⟨_,rfl⟩;rw[hq,<-e1,<-e2,h,ht,m_d]at e;rw[hq,<-e,Int.add_comm,Int.add_mul_ediv_right _ _ (by omega),Int.ediv_eq_zero_of_lt (by omega) (by omega)];omega
theorem d_v (w:World)(g:Nat)(s:Bool)(A:Option Addr)(n c:Nat):w.grownBy (zput w g s A n c) (some g):=a_8 (q:=⟨g,1,none⟩) (a_8 (q:=⟨g,0,none⟩) (a_6 w (some g)) rfl _) rfl _
theorem zeroZt {w:World}{g:Nat}(h:w.heap[g]? =some (zeroObj 31)):Bx w g 31 [.bool false,.slice none 0 0]:=h.trans (congrArg some (by kernel_rfl))
theorem b_7 {w w':World}{x g n c:Nat}{s:Bool}{A:Option Addr}(h:w.grownBy w' (some x))(hg:w.heap.size<=g):w.grownBy (zput w' g s A n c) (some x):=by
 have h2:=d_v w' g s A n c;exact⟨h2.os.trans h.os,h2.tape.trans h.tape,h2.output.trans h.output,Nat.le_trans h.size h2.size,fun k hk hn=>(h2.block k (by have:=h.size;omega) (fun e=>by have:=Option.some.inj e;omega)).trans (h.block k hk hn)⟩
theorem Rws.zp {b n W x m c:Nat}{g o:Nat->Nat}{F:Nat->Nat->Int}{w:World}{s s0:Bool}{A A0:Option Addr}{n0 c0:Nat}(h:Rws b w n W g o F)(hne:∀a,a<n->g a≠x)(bx:Bx w x 31 [.bool s0,.slice A0 n0 c0]):Rws b (zput w x s A m c) n W g o F:=
 h.gro hne (bx.now (by simp)) (d_v _ _ _ _ _ _)
def HtPost (b:Nat)(w:World)(n W:Nat)(g o:Nat->Nat)(F:Nat->Nat->Int)(a:Nat)(q:Int)(f:Nat->Int)(e:Ending)(w':World):Prop:=
 ∃s A m d,e= .returned (.agg #[.bool s,.slice A m d])/\Zc w' s A m d q/\Rws b w' n W g o (DT.upd F a f)/\w.grownBy w' (some (g a))
def tkm (F:Nat->Nat->Int)(a c:Nat)(q:Int)(j:Nat):Nat->Int:=fun i=>if i<j then F a i - q*F c i else F a i
theorem n_t {F:Nat->Nat->Int}{a c j:Nat}{q:Int}:tkm F a c q j j=F a j:=by unfold tkm;rw[if_neg (by omega)]
theorem h_4 {F:Nat->Nat->Int}{a c j:Nat}{q z:Int}(hz:z=F a j - q*F c j):(fun i=>if i=j then z else tkm F a c q j i)=tkm F a c q (j+1):=by
 funext i
 unfold tkm;by_cases e:i=j
 ·subst e;rw[if_pos rfl,if_pos (by omega),hz]
 ·rw[if_neg e];by_cases e2:i<j
  ·rw[if_pos e2,if_pos (by omega)]
  ·rw[if_neg e2,if_neg (by omega)]
theorem l_7 {F:Nat->Nat->Int}{a c j:Nat}{q:Int}(h:F c j=0):tkm F a c q j=tkm F a c q (j+1):=by
 rw[<-h_4 (z:=F a j) (by rw[h];simp)];funext i
 by_cases e:i=j
 ·subst e;rw[if_pos rfl,n_t]
 ·rw[if_neg e]
theorem o_t {F:Nat->Nat->Int}{a c k:Nat}{q:Int}(h:∀j,j<k->F c j=0):F a=tkm F a c q k:=by
 funext i
 unfold tkm;split
 ·rename_i e;rw[h i e];simp
 ·rfl
theorem q_y {b n W k ka kc ca cc:Nat}{g o:Nat->Nat}{F:Nat->Nat->Int}{a c:Nat}{w:World}(r:Rws b w n W g o F)(hb:b<=w.heap.size)(ha:a<n)(hc:c<n)(hne:c≠a)(hk:k<W)(hW:W<=1048576)(h0:∀j,j<k->F c j=0)(hp:0<F c k)(hBa:Bd W ka (F a))(hBc:Bd W kc (F c))(hK:ka+kc+3<=549755813888):
  Calls Tryz.prog 90 #[rwV (g a) (o a) W ca,rwV (g c) (o c) W cc,.int .i64 (k:Int)] w (HtPost b w n W g o F a (F a k / F c k) (fun j=>F a j - F a k / F c k*F c j)):=by
 obtain⟨q,hq⟩:∃q,F a k / F c k=q:=⟨_,rfl⟩;have hqa:q.natAbs<18446744073709551616^ka:=by rw[<-hq];exact Nat.lt_of_le_of_lt (h_r _ _ hp) (hBa k hk)
 have HQ:=Lib.hid hq;have HQA:=Lib.hid hqa;have HP:=Lib.hid hp;have H0:=Lib.hid h0;have HBA:=Lib.hid hBa;have HBC:=Lib.hid hBc;have HR0:=Lib.hid r;have hla:=(r.row a ha).lt;have hga:=(r.row a ha).lo;rw[hq];clear hq hqa hp h0 hBa hBc;obtain⟨w1,hw1,b6,z1,s1⟩:=boxes1 w 31 [.bool false,.slice none 0 0];have HW:=Lib.hid hw1;have HZ:=Lib.hid z1;clear hw1 z1;go_enter Tryz.func90,Tryz.ntmps90
 go_upto_region 1 with fail
 rw[HW.out];have hR:=HR0.out.below HZ.out;clear r;obtain⟨sx,Ax,nx,cx,ex0,ex1,zx⟩:=(hR.row a ha).cells hk;obtain⟨px,hpx⟩:∃p,o a+k*2=p:=⟨_,rfl⟩;rw[hpx]at ex0 ex1;have lx:=(hR.row a ha).lt;obtain⟨sy,Ay,ny,cy,ey0,ey1,zy⟩:=(hR.row c hc).cells hk;obtain⟨py,hpy⟩:∃p,o c+k*2=p:=⟨_,rfl⟩;rw[hpy]at ey0 ey1;have ly:=(hR.row c hc).lt;have HFV:=Lib.hid (l_e zx.zv zy.zv HP.out);rw[HQ.out]at HFV;obtain⟨rr,hrr⟩:∃r,drv sx sy (F a k).natAbs (F c k).natAbs=r:=⟨_,rfl⟩;have HRR:=Lib.hid hrr;have HZX:=Lib.hid zx;have HZY:=Lib.hid zy;have hnx:=zx.le (HBA.out k hk);have hny:=zy.le (HBC.out k hk);clear hrr zx zy;refine Run.start 15 ?_;refine .mv .o ?_;refine .mv .o ?_;refine .two (.i 0) (.i 1) (opIxR hk hpx) ?_;refine .ld (.i 2) (ldE (p:=⟨g a,px,none⟩) lx ex0 ex1) ?_;refine .mv .o ?_;refine .mv .o ?_;refine .two (.i 4) (.i 5) (opIxR hk hpy) ?_;refine .ld (.i 6) (ldE (p:=⟨g c,py,none⟩) ly ey0 ey1) ?_;refine .c2 (.i 3) (.i 7) (x:=kT3 (kC q (nx+2)) (kC rr ny) (.k (.bool true))) (by rintro u v w4 hB rfl rfl;exact(h_1 (HZX.out.below hB).zv (HZY.out.below hB).zv (by omega) (by omega) (by have:=HP.out;omega) HFV.out HRR.out).mono fun e w' ⟨s,A,n,c,t,B,m,d,e1,h1,h2,h3,h4,h5⟩=>⟨_,e1,⟨_,_,_,rfl,⟨_,_,_,_,rfl,h1,h3⟩,⟨_,_,_,_,rfl,h2,h4⟩,rfl⟩,h5⟩) ?_;refine .mf (.i 8) ?_;refine .ex (.i 9) 0 (j_d (x:=kC q (nx+2)) (y:=kC rr ny) (z:=.k (.bool true))) ?_;refine .ex (.i 9) 1 (f_t (x:=kC q (nx+2)) (y:=kC rr ny) (z:=.k (.bool true))) ?_;refine .ex (.i 9) 2 (x:=.k (.bool true)) (f_s (x:=kC q (nx+2)) (y:=kC rr ny) (z:=.k (.bool true))) ?_;refine .al ?_;refine .al ?_;refine .donef [11,12] [some 12,some 13,some 14,some 15,some 16,some 17,some 18,some 19,some 20,some 11,some 21,some 22,some 23,some 7,some 8] (h_n (b_j (k:=9) (j:=1) (F:=(kT3 (kC q (nx+2)) (kC rr ny) (.k (.bool true))).F) (by kernel_rfl) rfl rfl (f_t (x:=kC q (nx+2)) (y:=kC rr ny) (z:=.k (.bool true)))) (b_j (k:=9) (j:=2) (F:=(kT3 (kC q (nx+2)) (kC rr ny) (.k (.bool true))).F) (by kernel_rfl) rfl rfl (f_s (x:=kC q (nx+2)) (y:=kC rr ny) (z:=.k (.bool true))))) ?_;intro w2 B2;rintro v20 -;rintro v11 -;rintro v ⟨s7,A7,n7,c7,rfl,hz7,hk7⟩;rintro v ⟨s8,A8,n8,c8,rfl,hz8,hk8⟩;rintro g7 hg7 hl7 hc7 -;rintro g8 hg8 hl8 hc8 ⟨n78,-⟩;refine sh [_,_,_] ?_;simp only[Act.put,lS,lZ,lC];have b7:=zeroZt hc7;have b8:=zeroZt hc8;have hl6:=b6.lt;replace b6:=b6.below B2;replace hR:=hR.below B2;have hG:w.grownBy w2 (some (g a)):=a_2 (zup HZ.out B2) _;have N7:∀x,x<n->g x≠g7:=fun x hx e=>by have:=(HR0.out.row x hx).lt;omega
 have N8:∀x,x<n->g x≠g8:=fun x hx e=>by have:=(HR0.out.row x hx).lt;omega
 clear B2 hc7 hc8 HZX HZY ex0 ex1 ey0 ey1;have HZ7z:=Lib.hid hz7;have hqs:q.sign=0↔q=0:=Int.sign_eq_zero_iff_zero;obtain⟨sq,hsq⟩:∃x,q.sign=x:=⟨_,rfl⟩;rw[hsq]at hqs;have HSQ:=Lib.hid hsq;have hq7:=hz7.le (HQA.out);clear hsq HZ7z;obtain⟨w3,hw3⟩:∃x,zput w2 g7 s7 A7 n7 c7=x:=⟨_,rfl⟩;obtain⟨f1_,f2_,f3_,f4_,f5_⟩:=Ib.entry b7;replace b8:=b8.zo (g:=g7) (s:=s7) (A:=A7) (n:=n7) (c:=c7) (by omega);rw[hw3]at b8;replace b6:=b6.zo (g:=g7) (s:=s7) (A:=A7) (n:=n7) (c:=c7) (by omega);rw[hw3]at b6;replace hz7:=hz7.zp (s':=s7) (A':=A7) (n':=n7) (c':=c7) b7;rw[hw3]at hz7;replace hz8:=hz8.zp (s':=s7) (A':=A7) (n':=n7) (c':=c7) b7;rw[hw3]at hz8;replace hR:=hR.zp (s:=s7) (A:=A7) (m:=n7) (c:=c7) N7 b7;rw[hw3]at hR;replace hG:=b_7 (s:=s7) (A:=A7) (n:=n7) (c:=c7) hG (show _<=g7 by omega);rw[hw3]at hG;replace b7:=b7.zp (s:=s7) (A:=A7) (n:=n7) (c:=c7);rw[hw3]at b7;have Hw3:=Lib.hid hw3;unfold zput at Hw3;clear hw3;obtain⟨fa1_,fa2_,fa3_,fa4_,fa5_⟩:=And.intro f1_ (And.intro f2_ (And.intro f3_ (And.intro f4_ f5_)));clear f1_ f2_ f3_ f4_ f5_;obtain⟨w4,hw4⟩:∃x,zput w3 g8 s8 A8 n8 c8=x:=⟨_,rfl⟩;obtain⟨f1_,f2_,f3_,f4_,f5_⟩:=Ib.entry b8;replace b7:=b7.zo (g:=g8) (s:=s8) (A:=A8) (n:=n8) (c:=c8) (by omega);rw[hw4]at b7;replace b6:=b6.zo (g:=g8) (s:=s8) (A:=A8) (n:=n8) (c:=c8) (by omega);rw[hw4]at b6;replace hz7:=hz7.zp (s':=s8) (A':=A8) (n':=n8) (c':=c8) b8;rw[hw4]at hz7;replace hz8:=hz8.zp (s':=s8) (A':=A8) (n':=n8) (c':=c8) b8;rw[hw4]at hz8;replace hR:=hR.zp (s:=s8) (A:=A8) (m:=n8) (c:=c8) N8 b8;rw[hw4]at hR;replace hG:=b_7 (s:=s8) (A:=A8) (n:=n8) (c:=c8) hG (show _<=g8 by omega);rw[hw4]at hG;replace b8:=b8.zp (s:=s8) (A:=A8) (n:=n8) (c:=c8);rw[hw4]at b8;have Hw4:=Lib.hid hw4;unfold zput at Hw4;clear hw4;rw[<-Hw3.out]at f1_ f2_ f3_ f4_ f5_ Hw4;go_upto_region 2 with fail
 rw[Hw4.out];clear f1_ f2_ f3_ f4_ f5_ fa1_ fa2_ fa3_ fa4_ fa5_ Hw4 Hw3 hz8;have HZ7:=Lib.hid hz7;have N7:=Lib.hid N7;have N8:=Lib.hid N8;clear hz7;by_cases h0q:sq=0
 ·have hq0:=hqs.1 h0q;refine Run.start 3 ?_;refine .ld .o (ldZ b7 0) ?_;refine .c1 (.i 0) (x:=.k (.int .i64 sq)) (by rintro u w4 hB rfl;exact a_m ⟨_,_,_,_,rfl,(HZ7.out.below hB).zv,Nat.le_refl _⟩ (by omega) HSQ.out) ?_;refine .two (.i 1) .o (opEq (decide_eq_true h0q)) ?_;refine .donep [some 24,some 25,some 26] ?_;intro w5 B5;refine sh [] ?_;simp only[Act.put,lS,lZ,lC];have b7c:=(b7.below B5).cell 0;have b7d:=(b7.below B5).cell 1;simp only[List.getElem?_cons_succ,List.getElem?_cons_zero]at b7c b7d;have P:Hid (HtPost b w n W g o F a q (fun j=>F a j - q*F c j) (.returned (.agg #[.bool s7,.slice A7 n7 c7])) (zput w5 w.heap.size s7 A7 n7 c7)):=Lib.hid ⟨_,_,_,_,rfl,(HZ7.out.below B5).zp (b6.below B5),by
   have h1:=(hR.below B5).zp (s:=s7) (A:=A7) (m:=n7) (c:=c7) (fun x hx e=>by have:=(HR0.out.row x hx).lt;omega) (b6.below B5);rw[hq0];simpa [DT.upd_id] using h1,b_7 (a_i hG (a_2 B5 _)) (Nat.le_refl _)⟩
  unfold zput at P;have b6':=b6.below B5;clear hR b7 b6 B5 hG;have hb6:=Ib.entry b6';obtain⟨i1,i2,i3,i4,i5⟩:=hb6
  go_wp2_with fail
  exact bodyPost_ret (v:=.agg #[.bool s7,.slice A7 n7 c7]) (by simp[results,Tryz.results90,go_sem,i1,i2]) rfl P.out
 ·have hq0:q≠0:=fun e=>h0q (hqs.2 e);refine Run.start 3 ?_;refine .ld .o (ldZ b7 0) ?_;refine .c1 (.i 0) (x:=.k (.int .i64 sq)) (by rintro u w4 hB rfl;exact a_m ⟨_,_,_,_,rfl,(HZ7.out.below hB).zv,Nat.le_refl _⟩ (by omega) HSQ.out) ?_;refine .two (.i 1) .o (opEq (decide_eq_false h0q)) ?_;refine .donep [some 24,some 25,some 26] ?_;intro w5 B5;refine sh [] ?_;simp only[Act.put,lS,lZ,lC];have HS:Hid (w.grownBy w5 (some (g a))/\Rws b w5 n W g o (DT.upd F a (tkm F a c q k))/\Bx w5 w.heap.size 31 [.bool false,.slice none 0 0]/\Bx w5 g7 31 [.bool s7,.slice A7 n7 c7]/\Zc w5 s7 A7 n7 c7 q):=Lib.hid ⟨a_i hG (a_2 B5 _),by rw[<-o_t H0.out,DT.upd_id];exact hR.below B5,b6.below B5,b7.below B5,HZ7.out.below B5⟩;clear hR b7 b6 b8 B5 hG hqs h0q HSQ
  go_wp2_with fail
  go_loopw [10] (fun s10 wr=>∃j:Nat,s10= .int .i64 (j:Int)/\k<=j/\j<=W/\Hid (w.grownBy wr (some (g a))/\Rws b wr n W g o (DT.upd F a (tkm F a c q j))/\Bx wr w.heap.size 31 [.bool false,.slice none 0 0]/\Bx wr g7 31 [.bool s7,.slice A7 n7 c7]/\Zc wr s7 A7 n7 c7 q)) (fun s10 _=>W - (intOf s10).toNat)
  case atStart=>exact⟨k,rfl,Nat.le_refl _,by omega,HS⟩
  case round=>
   obtain⟨j,rfl,hkj,hjW,HB⟩:=hrel;obtain⟨hG,hR,b6,b7,hz⟩:=HB.out;have HZq:=Lib.hid hz;have hlw:=hG.size;have g7l:=b7.lt;by_cases hlt:j<W
   ·have u2:(j:Int)<(W:Int):=by omega
    obtain⟨su,Au,nu,cu,eu0,eu1,zu⟩:=(hR.row c hc).cells hlt;obtain⟨pu,hpu⟩:∃p,o c+j*2=p:=⟨_,rfl⟩;rw[hpu]at eu0 eu1;have lu:=(hR.row c hc).lt;rw[DT.upd_ne hne]at zu;obtain⟨su',hsu'⟩:∃x,(F c j).sign=x:=⟨_,rfl⟩;have HSU:=Lib.hid hsu';have hsu0:su'=0↔F c j=0:=by rw[<-hsu'];exact Int.sign_eq_zero_iff_zero
    have HZU:=Lib.hid zu;have hnu:=zu.le (HBC.out j hlt);clear hsu' zu HB HS hz;go_upto_region 7 with fail
    by_cases hs0:su'=0
    ·have hz0:=hsu0.1 hs0;refine Run.start 6 ?_;refine .mv .o ?_;refine .mv .o ?_;refine .two (.i 0) (.i 1) (opIxR hlt hpu) ?_;refine .ld (.i 2) (ldE (p:=⟨g c,pu,none⟩) lu eu0 eu1) ?_;refine .c1 (.i 3) (x:=.k (.int .i64 su')) (by rintro u w5 hB rfl;exact a_m ⟨_,_,_,_,rfl,(HZU.out.below hB).zv,Nat.le_refl _⟩ (by omega) HSU.out) ?_;refine .two (.i 4) .o (opNe (by rw[hs0];decide:decide (su'≠0)=false)) ?_;refine .donep [some 35,some 36,some 37,some 38,some 39,some 40] ?_;intro w5 B5;refine sh [] ?_;simp only[Act.put,lS,lZ,lC];have HS:Hid (w.grownBy w5 (some (g a))/\Rws b w5 n W g o (DT.upd F a (tkm F a c q (j+1)))/\Bx w5 w.heap.size 31 [.bool false,.slice none 0 0]/\Bx w5 g7 31 [.bool s7,.slice A7 n7 c7]/\Zc w5 s7 A7 n7 c7 q):=Lib.hid ⟨a_i hG (a_2 B5 _),by rw[<-l_7 hz0];exact hR.below B5,b6.below B5,b7.below B5,HZq.out.below B5⟩;clear hR b6 b7 HZq hG B5 eu0 eu1 hs0 hsu0 HSU
     go_wp2_with fail
     go_roundw
     case rel=>exact⟨j+1,by go_num,by omega,by omega,HS⟩
     case measure=>first|(simp[intOf];done)|(simp[intOf];omega)
    ·skip
     refine Run.start 6 ?_;refine .mv .o ?_;refine .mv .o ?_;refine .two (.i 0) (.i 1) (opIxR hlt hpu) ?_;refine .ld (.i 2) (ldE (p:=⟨g c,pu,none⟩) lu eu0 eu1) ?_;refine .c1 (.i 3) (x:=.k (.int .i64 su')) (by rintro u w5 hB rfl;exact a_m ⟨_,_,_,_,rfl,(HZU.out.below hB).zv,Nat.le_refl _⟩ (by omega) HSU.out) ?_;refine .two (.i 4) .o (opNe (decide_eq_true hs0:decide (su'≠0)=true)) ?_;refine .donep [some 35,some 36,some 37,some 38,some 39,some 40] ?_;intro w5 B5;refine sh [] ?_;simp only[Act.put,lS,lZ,lC];replace hR:=hR.below B5;replace b6:=b6.below B5;replace b7:=b7.below B5;have HZq:=Lib.hid (HZq.out.below B5);have HZU:=Lib.hid (HZU.out.below B5);replace hG:=a_i hG (a_2 B5 (some (g a)));clear eu0 eu1 lu B5;clear HZU HSU hsu0 hs0 hnu hlw;obtain⟨sv,Av,nv,cv,ev0,ev1,zv⟩:=(hR.row c hc).cells hlt;obtain⟨pv,hpv⟩:∃p,o c+j*2=p:=⟨_,rfl⟩;rw[hpv]at ev0 ev1;have lv:=(hR.row c hc).lt;obtain⟨st,At,nt,ct,et0,et1,zt⟩:=(hR.row a ha).cells hlt;obtain⟨pt,hpt⟩:∃p,o a+j*2=p:=⟨_,rfl⟩;rw[hpt]at et0 et1;have lt:=(hR.row a ha).lt;rw[DT.upd_ne hne]at zv;rw[DT.upd_self,n_t]at zt;have HZV:=Lib.hid zv;have HZT:=Lib.hid zt;have hnv:=zv.le (HBC.out j hlt);have hnt:=zt.le (HBA.out j hlt);obtain⟨y,hy⟩:∃y,F c j=y:=⟨_,rfl⟩;obtain⟨x,hx⟩:∃x,F a j=x:=⟨_,rfl⟩;rw[hy]at HZV;rw[hx]at HZT;have HY:=Lib.hid hy;have HX:=Lib.hid hx;have g7l:=b7.lt;clear zv zt hy hx;go_upto_region 8 with fail
     refine Run.start 14 ?_;refine .mv .o ?_;refine .mv .o ?_;refine .mv .o ?_;refine .mv .o ?_;refine .two (.i 2) (.i 3) (opIxR hlt hpt) ?_;refine .ld (.i 4) (ldE (p:=⟨g a,pt,none⟩) lt et0 et1) ?_;refine .ld .o (ldZ b7 0) ?_;refine .mv .o ?_;refine .mv .o ?_;refine .two (.i 7) (.i 8) (opIxR hlt hpv) ?_;refine .ld (.i 9) (ldE (p:=⟨g c,pv,none⟩) lv ev0 ev1) ?_;refine .c2 (.i 6) (.i 10) (x:=kC (q*y) (n7+nv)) (by rintro u v w6 hB rfl rfl;exact d_r ⟨_,_,_,_,rfl,(HZq.out.below hB).zv,Nat.le_refl _⟩ ⟨_,_,_,_,rfl,(HZV.out.below hB).zv,Nat.le_refl _⟩ (by omega) (by omega) (Nat.le_refl _)) ?_;refine .c2 (.i 5) (.i 11) (x:=kC (x - q*y) (max nt (n7+nv)+1)) (by rintro u v w6 hB rfl ⟨s_,A_,n_,c_,rfl,hz_,hk_⟩;exact j_o ⟨_,_,_,_,rfl,(HZT.out.below hB).zv,Nat.le_refl _⟩ ⟨_,_,_,_,rfl,hz_.zv,hk_⟩ (by omega) (by omega) (Nat.le_refl _)) ?_;refine .two (.i 0) (.i 1) (opIxR hlt hpt) ?_;refine .done [some 41,some 42,some 43,some 44,some 45,some 46,some 47,some 48,some 49,some 50,some 51,some 52,some 53,some 54] ?_;intro w6 B6;rintro v52 -;rintro v ⟨s9,A9,n9,c9,rfl,hz9,hk9⟩;refine sh [_] ?_;simp only[Act.put,lS,lZ,lC];replace hR:=hR.below B6;have b7g:=b7.below B6;have b6g:=b6.below B6;have HZq6:=Lib.hid (HZq.out.below B6);have hG6:=a_i hG (a_2 B6 (some (g a)));have hrow:=hR.row a ha;have hno:=hrow.now;have hgr:=a_w w6 (g a) (o a+j*2) s9 A9 n9 c9;have hR':=hR.put ha hlt hz9;rw[DT.upd_self,DT.upd_upd,h_4 (by rw[HX.out,HY.out])]at hR';obtain⟨t1,t2,t3,t4,x1,x2,-⟩:=hrow.cells hlt;have y1:=hrow.free (o a+j*2);have y2:=hrow.free (o a+j*2+1);rw[hpt]at x1 x2 y1 y2 hR' hgr;have n6:w.heap.size≠g a:=by omega
     have n7_:g7≠g a:=by omega
     have HS:Hid (w.grownBy (zputo w6 (g a) pt s9 A9 n9 c9) (some (g a))/\Rws b (zputo w6 (g a) pt s9 A9 n9 c9) n W g o (DT.upd F a (tkm F a c q (j+1)))/\Bx (zputo w6 (g a) pt s9 A9 n9 c9) w.heap.size 31 [.bool false,.slice none 0 0]/\Bx (zputo w6 (g a) pt s9 A9 n9 c9) g7 31 [.bool s7,.slice A7 n7 c7]/\Zc (zputo w6 (g a) pt s9 A9 n9 c9) s7 A7 n7 c7 q):=
      Lib.hid ⟨a_i hG6 hgr,hR',a_t b6g hgr n6,a_t b7g hgr n7_,HZq6.out.gro hno hgr⟩
     unfold zputo at HS;clear hR hR' b6 b7 b6g b7g HZq HZq6 hG hG6 B6 ev0 ev1 et0 et1 hz9 hrow hno hgr n6 n7_ HZV HZT HX HY
     go_wp2_with fail
     go_roundw
     case rel=>exact⟨j+1,by go_num,by omega,by omega,HS⟩
     case measure=>first|(simp[intOf];done)|(simp[intOf];omega)
   ·obtain rfl:j=W:=by omega
    have u2:¬(j:Int)<(j:Int):=by omega
    clear HB;go_upto_region 9 with fail
    have b7c:=b7.cell 0;have b7d:=b7.cell 1;simp only[List.getElem?_cons_succ,List.getElem?_cons_zero]at b7c b7d;have P:Hid (HtPost b w n j g o F a q (fun j=>F a j - q*F c j) (.returned (.agg #[.bool s7,.slice A7 n7 c7])) (zput wr w.heap.size s7 A7 n7 c7)):=Lib.hid ⟨_,_,_,_,rfl,HZq.out.zp b6,by
     have h1:=hR.zp (s:=s7) (A:=A7) (m:=n7) (c:=c7) (fun x hx e=>by have:=(HR0.out.row x hx).lt;omega) b6;exact h1.congr fun x i hx hi=>by
       by_cases e:x=a
       ·subst e;rw[DT.upd_self,DT.upd_self];unfold tkm;rw[if_pos hi]
       ·rw[DT.upd_ne e,DT.upd_ne e],b_7 hG (Nat.le_refl _)⟩
    unfold zput at P;have b6':=b6;clear hR b7 b6 hG;have hb6:=Ib.entry b6';obtain⟨i1,i2,i3,i4,i5⟩:=hb6
    go_wp2_with fail
    exact bodyPost_ret (v:=.agg #[.bool s7,.slice A7 n7 c7]) (by simp[results,Tryz.results90,go_sem,i1,i2]) rfl P.out
end
section
open Go.RowKit
structure Chg (w w':World) (n:Nat) (g:Nat->Nat):Prop where
 os:w'.os=w.os
 tape:w'.tape=w.tape
 output:w'.output=w.output
 size:w.heap.size<=w'.heap.size
 block:∀k,k<w.heap.size->(∀a,a<n->g a≠k)->w'.heap[k]? =w.heap[k]?
section
variable {w w' w'':World}{n b:Nat}{g:Nat->Nat}
theorem Chg.of (h:Below w.heap.size w w'):Chg w w' n g:=⟨h.os,h.tape,h.output,h.size,fun k hk _=>h.block k hk⟩
theorem Chg.one {a:Nat}(ha:a<n)(h:w.grownBy w' (some (g a))):Chg w w' n g:=⟨h.os,h.tape,h.output,h.size,fun k hk hn=>h.block k hk fun e=>hn a ha (Option.some.inj e).symm⟩
theorem Chg.trans (h:Chg w w' n g)(h2:Chg w' w'' n g):Chg w w'' n g:=⟨h2.os.trans h.os,h2.tape.trans h.tape,h2.output.trans h.output,Nat.le_trans h.size h2.size,fun k hk hn=>(h2.block k (Nat.lt_of_lt_of_le hk h.size) hn).trans (h.block k hk hn)⟩
theorem Chg.refl (w:World):Chg w w n g:=.of (Below.refl _ _)
theorem Chg.bx (h:Chg w w' n g){x:Nat}{T:TypeId}{cs:List Value}(bx:Bx w x T cs)(hn:∀a,a<n->g a≠x):Bx w' x T cs:=(h.block x bx.lt hn).trans bx
theorem Chg.up (h:Chg w w' n g){w0:World}(h0:Below b w0 w)(hb:b<=w.heap.size)(hg:∀a,a<n->b<=g a):Below b w0 w':=h0.trans ⟨h.os,h.tape,h.output,h.size,fun k hk=>h.block k (by omega) fun a ha e=>by have:=hg a ha;omega⟩
end
def AbPost (b:Nat)(w:World)(n W:Nat)(g o:Nat->Nat)(F:Nat->Nat->Int)(a ca:Nat)(f:Nat->Int)(e:Ending)(w':World):Prop:=
 e= .returned (rwV (g a) (o a) W ca)/\Rws b w' n W g o (DT.upd F a f)/\w.grownBy w' (some (g a))
def ngm (f:Nat->Int)(j:Nat):Nat->Int:=fun i=>if i<j then - f i else f i
theorem m_t (f:Nat->Int):ngm f 0=f:=by funext i;unfold ngm;rw[if_neg (by omega)]
theorem r_f {f:Nat->Int}{j:Nat}:ngm f j j=f j:=by unfold ngm;rw[if_neg (by omega)]
theorem m_u {f:Nat->Int}{j:Nat}:(fun i=>if i=j then - f j else ngm f j i)=ngm f (j+1):=by
 funext i
 unfold ngm;by_cases e:i=j
 ·subst e;rw[if_pos rfl,if_pos (by omega)]
 ·rw[if_neg e];by_cases e2:i<j
  ·rw[if_pos e2,if_pos (by omega)]
  ·rw[if_neg e2,if_neg (by omega)]
theorem ldBoolE {w:World}{p:Addr}{s:Bool}(hp:p.block<w.heap.size)(h:w.cell? p=some (.bool s)):∀w',Below w.heap.size w w'->(Instr.loadAt 4 (.pointer (some p))).run Tryz.prog w'= .ok (.bool s) w':=fun w' hb=>by
 have:=(hb.cell hp).trans h;simp[go_sem,a_y,this]
theorem q_n {b n W k ka ca:Nat}{g o:Nat->Nat}{F:Nat->Nat->Int}{a:Nat}{w:World}(r:Rws b w n W g o F)(ha:a<n)(hk:k<W)(hW:W<=1048576)(hBa:Bd W ka (F a))(hK:ka<=549755813888):
  Calls Tryz.prog 158 #[rwV (g a) (o a) W ca,.int .i64 (k:Int)] w (AbPost b w n W g o F a ca (if F a k<0 then fun j=>- F a j else F a)):=by
 have HBA:=Lib.hid hBa;have HR0:=Lib.hid r;have hla:=(r.row a ha).lt;have hga:=(r.row a ha).lo;obtain⟨f,hf⟩:∃f,(if F a k<0 then fun j=>- F a j else F a)=f:=⟨_,rfl⟩;rw[hf];have HF:=Lib.hid hf;clear hBa hf;go_enter Tryz.func158,Tryz.ntmps158
 go_upto_region 1 with fail
 have hR:=r;clear r;obtain⟨sx,Ax,nx,cx,ex0,ex1,zx⟩:=(hR.row a ha).cells hk;obtain⟨px,hpx⟩:∃p,o a+k*2=p:=⟨_,rfl⟩;rw[hpx]at ex0 ex1;have lx:=(hR.row a ha).lt;have hsx:=zx.2.out;clear zx;by_cases hneg:F a k<0
 ·have HF:=Lib.hid (HF.out.symm.trans (if_pos hneg));obtain rfl:sx=true:=by rw[hsx];exact decide_eq_true hneg
  refine Run.start 5 ?_;refine .mv .o ?_;refine .mv .o ?_;refine .two (.i 0) (.i 1) (opIxR hk hpx) ?_;refine .fa (.i 2) (fZ0 px) ?_;refine .ld (.i 3) (ldBoolE (p:=⟨g a,px,none⟩) lx ex0) ?_;refine .donep [some 7,some 8,some 9,some 10,some 11] ?_;intro w2 B2;refine sh [] ?_;simp only[Act.put,lS,lZ,lC];have HS:Hid (w.grownBy w2 (some (g a))/\Rws b w2 n W g o (DT.upd F a (ngm (F a) 0))):=Lib.hid ⟨a_2 B2 _,by rw[m_t,DT.upd_id];exact hR.below B2⟩;clear hR B2 ex0 ex1 lx hsx
  go_wp2_with fail
  go_loopw [14] (fun s14 wr=>∃j:Nat,s14= .int .i64 (j:Int)/\j<=W/\Hid (w.grownBy wr (some (g a))/\Rws b wr n W g o (DT.upd F a (ngm (F a) j)))) (fun s14 _=>W - (intOf s14).toNat)
  case atStart=>exact⟨0,rfl,Nat.zero_le _,HS⟩
  case round=>
   obtain⟨j,rfl,hjW,HB⟩:=hrel;obtain⟨hG,hR⟩:=HB.out;have hlw:=hG.size;by_cases hlt:j<W
   ·have u2:(j:Int)<(W:Int):=by omega
    clear HB HS;go_upto_region 4 with fail
    obtain⟨su,Au,nu,cu,eu0,eu1,zu⟩:=(hR.row a ha).cells hlt;obtain⟨pu,hpu⟩:∃p,o a+j*2=p:=⟨_,rfl⟩;rw[hpu]at eu0 eu1;have lu:=(hR.row a ha).lt;refine Run.start 5 ?_;refine .mv .o ?_;refine .two .o .o (opIxR hlt hpu) ?_;refine .ld (.i 1) (ldE (p:=⟨g a,pu,none⟩) lu eu0 eu1) ?_;refine .al ?_;refine .mv (.i 0) ?_;refine .donep [some 16,some 17,some 18,some 6,some 5] ?_;intro w3 B3;rintro g6 hg6 hl6 hc6 -;refine sh [_] ?_;simp only[Act.put,lS,lZ,lC];have b6:=zeroZt hc6;rw[DT.upd_self,r_f]at zu;replace hR:=hR.below B3;replace hG:=a_i hG (a_2 B3 (some (g a)));have hzu:=zu.below B3;have hnu:=zu.le (HBA.out j hlt);have N6:∀x,x<n->g x≠g6:=fun x hx e=>by have:=(HR0.out.row x hx).lt;omega
    clear B3 hc6 eu0 eu1 zu;obtain⟨w4,hw4⟩:∃x,zput w3 g6 su Au nu cu=x:=⟨_,rfl⟩;obtain⟨f1_,f2_,f3_,f4_,f5_⟩:=Ib.entry b6;replace hzu:=hzu.zp (s':=su) (A':=Au) (n':=nu) (c':=cu) b6;rw[hw4]at hzu;replace hR:=hR.zp (s:=su) (A:=Au) (m:=nu) (c:=cu) N6 b6;rw[hw4]at hR;replace hG:=b_7 (s:=su) (A:=Au) (n:=nu) (c:=cu) hG (show _<=g6 by omega);rw[hw4]at hG;replace b6:=b6.zp (s:=su) (A:=Au) (n:=nu) (c:=cu);rw[hw4]at b6;have Hw4:=Lib.hid hw4;unfold zput at Hw4;clear hw4;go_upto_region 5 with fail
    rw[Hw4.out];clear f1_ f2_ f3_ f4_ f5_ Hw4;have HZU:=Lib.hid hzu;have N6:=Lib.hid N6;clear hzu;obtain⟨p9,hp9⟩:∃p,o a+j*2=p:=⟨_,rfl⟩;refine Run.start 5 ?_;refine .mv .o ?_;refine .mv .o ?_;refine .ld .o (ldZ b6 0) ?_;refine .c1 (.i 2) (x:=kC (- F a j) ka) (by rintro u w6 hB rfl;exact q_p ⟨_,_,_,_,rfl,(HZU.out.below hB).zv,hnu⟩ (by omega)) ?_;refine .two (.i 0) (.i 1) (opIxR hlt hp9) ?_;refine .donep [some 19,some 20,some 21,some 22,some 23] ?_;intro w6 B6;rintro v ⟨s9,A9,n9,c9,rfl,hz9,hk9⟩;refine sh [_] ?_;simp only[Act.put,lS,lZ,lC];replace hR:=hR.below B6;have hG6:=a_i hG (a_2 B6 (some (g a)));have hrow:=hR.row a ha;have hno:=hrow.now;have hgr:=a_w w6 (g a) (o a+j*2) s9 A9 n9 c9;have hR':=hR.put ha hlt hz9;rw[DT.upd_self,DT.upd_upd,m_u]at hR';obtain⟨t1,t2,t3,t4,x1,x2,-⟩:=hrow.cells hlt;have y1:=hrow.free (o a+j*2);have y2:=hrow.free (o a+j*2+1);rw[hp9]at x1 x2 y1 y2 hR' hgr;have HS:Hid (w.grownBy (zputo w6 (g a) p9 s9 A9 n9 c9) (some (g a))/\Rws b (zputo w6 (g a) p9 s9 A9 n9 c9) n W g o (DT.upd F a (ngm (F a) (j+1)))):=
     Lib.hid ⟨a_i hG6 hgr,hR'⟩
    unfold zputo at HS;clear hR hR' b6 hG hG6 B6 hz9 hrow hno hgr HZU
    go_wp2_with fail
    go_roundw
    case rel=>exact⟨j+1,by go_num,by omega,HS⟩
    case measure=>first|(simp[intOf];done)|(simp[intOf];omega)
   ·obtain rfl:j=W:=by omega
    have u2:¬(j:Int)<(j:Int):=by omega
    have P:Hid (AbPost b w n j g o F a ca f (.returned (rwV (g a) (o a) j ca)) wr):=by
     refine Lib.hid ⟨rfl, ?_,hG⟩;rw[HF.out];refine hR.congr fun x i hx hi=>?_;by_cases e:x=a
     ·subst e;rw[DT.upd_self,DT.upd_self];unfold ngm;rw[if_pos hi]
     ·rw[DT.upd_ne e,DT.upd_ne e]
    clear HB hR hG
    go_wp2_with fail
    exact bodyPost_ret (v:=rwV (g a) (o a) j ca) (by simp[results,Tryz.results158,go_sem]) rfl P.out
 ·have HF:=Lib.hid (HF.out.symm.trans (if_neg hneg));obtain rfl:sx=false:=by rw[hsx];exact decide_eq_false hneg
  refine Run.start 5 ?_;refine .mv .o ?_;refine .mv .o ?_;refine .two (.i 0) (.i 1) (opIxR hk hpx) ?_;refine .fa (.i 2) (fZ0 px) ?_;refine .ld (.i 3) (ldBoolE (p:=⟨g a,px,none⟩) lx ex0) ?_;refine .donep [some 7,some 8,some 9,some 10,some 11] ?_;intro w2 B2;refine sh [] ?_;simp only[Act.put,lS,lZ,lC];have P:Hid (AbPost b w n W g o F a ca f (.returned (rwV (g a) (o a) W ca)) w2):=Lib.hid ⟨rfl,by rw[HF.out,DT.upd_id];exact hR.below B2,a_2 B2 _⟩;clear hR B2 ex0 ex1
  go_wp2_with fail
  exact bodyPost_ret (v:=rwV (g a) (o a) W ca) (by simp[results,Tryz.results158,go_sem]) rfl P.out
end
end Go.Proofs.YtfhbdlegkdbmfaaGreat
