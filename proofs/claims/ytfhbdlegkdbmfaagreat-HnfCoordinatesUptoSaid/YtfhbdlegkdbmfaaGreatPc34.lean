/- Pc34 -/
import Derived.Test.YtfhbdlegkdbmfaaGreatPc33
import Derived.Deep.RegionHeld3
set_option linter.unusedVariables false
set_option linter.unusedSimpArgs false
set_option linter.unusedSectionVars false
set_option maxRecDepth 100000
set_option maxHeartbeats 8000000
namespace Go.Proofs.YtfhbdlegkdbmfaaGreat
section
open Go.RowKit
structure Rv (K b:Nat) (w:World) (g o W:Nat) (f:Nat->Int):Prop where
 ex:∃cs:Array Value,w.heap[g]? =some (.cells cs 31 (0,0))/\o+W*2<=cs.size/\∀j,j<W->∃s A n c,cs[o+j*2]? =some (.bool s)/\cs[o+j*2+1]? =some (.slice A n c)/\Zv w s A n c (f j)/\n<=K
 now:Wless w g
 lo:b<=g
section
variable {K K' b b':Nat}{w w':World}{g g' o o' W k:Nat}{f f':Nat->Int}
theorem Rv.blk (h:Rv K b w g o W f):Rw b w g o 0 f:=by
 obtain⟨cs,h1,h2,h3⟩:=h.ex;exact⟨⟨cs,h1,by omega,fun j hj=>absurd hj (Nat.not_lt_zero _)⟩,h.now,h.lo⟩
theorem Rv.lt (h:Rv K b w g o W f):g<w.heap.size:=h.blk.lt
theorem Rv.below (h:Rv K b w g o W f)(hb:Below w.heap.size w w'):Rv K b w' g o W f:=by
 have hl:=h.lt;obtain⟨cs,h1,h2,h3⟩:=h.ex;exact⟨⟨cs,(hb.block g hl).trans h1,h2,fun j hj=>by
  obtain⟨s,A,n,c,e1,e2,e3,e4⟩:=h3 j hj;exact⟨s,A,n,c,e1,e2,e3.below hb,e4⟩⟩,h.now.below hl hb,h.lo⟩
theorem Rv.congr (h:Rv K b w g o W f)(e:∀j,j<W->f' j=f j):Rv K b w g o W f':=by
 obtain⟨cs,h1,h2,h3⟩:=h.ex;exact⟨⟨cs,h1,h2,fun j hj=>by
  obtain⟨s,A,n,c,e1,e2,e3,e4⟩:=h3 j hj;exact⟨s,A,n,c,e1,e2,by rw[e j hj];exact e3,e4⟩⟩,h.now,h.lo⟩
theorem Rv.mono (h:Rv K b w g o W f)(hk:K<=K'):Rv K' b w g o W f:=by
 obtain⟨cs,h1,h2,h3⟩:=h.ex;exact⟨⟨cs,h1,h2,fun j hj=>by
  obtain⟨s,A,n,c,e1,e2,e3,e4⟩:=h3 j hj;exact⟨s,A,n,c,e1,e2,e3,by omega⟩⟩,h.now,h.lo⟩
theorem Rv.gro {x:Nat}(h:Rv K b w g o W f)(hne:g≠x)(hn:Wless w x)(hg:w.grownBy w' (some x)):Rv K b w' g o W f:=by
 have hl:=h.lt;obtain⟨cs,h1,h2,h3⟩:=h.ex;have e:=hg.block g hl (fun e=>hne (Option.some.inj e));exact⟨⟨cs,e.trans h1,h2,fun j hj=>by
  obtain⟨s,A,n,c,e1,e2,e3,e4⟩:=h3 j hj;exact⟨s,A,n,c,e1,e2,e3.gro hn hg,e4⟩⟩,(h.blk.gro hne hn hg).now,h.lo⟩
theorem Rv.cells (h:Rv K b w g o W f){j:Nat}(hj:j<W):∃s A n c,w.cell? ⟨g,o+j*2,none⟩=some (.bool s)/\w.cell? ⟨g,o+j*2+1,none⟩=some (.slice A n c)/\Zv w s A n c (f j)/\n<=K:=by
 obtain⟨cs,h1,h2,h3⟩:=h.ex;obtain⟨s,A,n,c,e1,e2,e3,e4⟩:=h3 j hj;exact⟨s,A,n,c,by rw[cell_of_row w g _ _ _ _ h1,e1],by rw[cell_of_row w g _ _ _ _ h1,e2],e3,e4⟩
theorem Rv.zl (h:Rv K b w g o W f){c:Nat}(hc:W<=c)(hm:c<=9223372036854775807):ZL false w (some ⟨g,o,none⟩) W c K (rw' W f):=by
 refine⟨c_q _ _,hc,hm,fun h0=>⟨_,rfl,h.lt,fun j hj=>?_⟩⟩;obtain⟨s,A,n,d,e1,e2,e3,e4⟩:=h.cells hj;rw[b_l,k_e hj];exact⟨s,A,n,d,e1,e2,⟨e3,fun e=>nomatch e⟩,e4⟩
theorem Rv.bd (h:Rv K b w g o W f):Bd W K f:=fun j hj=>by
 obtain⟨s,A,n,c,e1,e2,e3,e4⟩:=h.cells hj;exact Nat.lt_of_lt_of_le e3.lt (g_h e4)
theorem Rv.put (h:Rv K b w g o W f){j n c:Nat}(hj:j<W){s:Bool}{A:Option Addr}{z:Int}(hz:Zv w s A n c z)(hn:n<=K):Rv K b (zputo w g (o+j*2) s A n c) g o W (fun i=>if i=j then z else f i):=by
 have hgr:=a_w w g (o+j*2) s A n c;have hno:=h.now;have hbk:=h.blk;obtain⟨cs,h1,h2,h3⟩:=h.ex;refine⟨⟨_,f_m h1,by simpa using h2,fun i hi=>?_⟩,h_e hbk,h.lo⟩;by_cases e:i=j
 ·subst e;refine⟨s,A,n,c, ?_, ?_, ?_,hn⟩
  ·rw[Array.getElem?_setIfInBounds_ne (by omega),Array.getElem?_setIfInBounds_self_of_lt (by omega)]
  ·rw[Array.getElem?_setIfInBounds_self_of_lt (by simp;omega)]
  ·rw[if_pos rfl];exact hz.gro hno hgr
 ·obtain⟨s',A',n',c',c1,c2,c3,c4⟩:=h3 i hi;refine⟨s',A',n',c', ?_, ?_, ?_,c4⟩
  ·rw[Array.getElem?_setIfInBounds_ne (by omega),Array.getElem?_setIfInBounds_ne (by omega)];exact c1
  ·rw[Array.getElem?_setIfInBounds_ne (by omega),Array.getElem?_setIfInBounds_ne (by omega)];exact c2
  ·rw[if_neg e];exact c3.gro hno hgr
end
structure Rvc (K b:Nat) (w:World) (g o g' o' W:Nat) (f h:Nat->Int):Prop where
 v:Rv K b w g o W f
 c:Rw b w g' o' W h
 ne:g'≠g
section
variable {K K' b:Nat}{w w':World}{g g' o o' W x m c n0 c0:Nat}{f h f':Nat->Int}{s s0:Bool}{A A0:Option Addr}
theorem Rvc.below (r:Rvc K b w g o g' o' W f h)(hb:Below w.heap.size w w'):Rvc K b w' g o g' o' W f h:=⟨r.v.below hb,r.c.below hb,r.ne⟩
theorem Rvc.gro (r:Rvc K b w g o g' o' W f h)(hne:g≠x/\g'≠x)(hn:Wless w x)(hg:w.grownBy w' (some x)):Rvc K b w' g o g' o' W f h:=⟨r.v.gro hne.1 hn hg,r.c.gro hne.2 hn hg,r.ne⟩
theorem Rvc.zp (r:Rvc K b w g o g' o' W f h)(hne:g≠x/\g'≠x)(bx:Bx w x 31 [.bool s0,.slice A0 n0 c0]):Rvc K b (zput w x s A m c) g o g' o' W f h:=r.gro hne (bx.now (by simp)) (d_v _ _ _ _ _ _)
theorem Rvc.put (r:Rvc K b w g o g' o' W f h){j:Nat}(hj:j<W){z:Int}(hz:Zv w s A m c z)(hn:m<=K):Rvc K b (zputo w g (o+j*2) s A m c) g o g' o' W (fun i=>if i=j then z else f i) h:=⟨r.v.put hj hz hn,r.c.gro r.ne r.v.now (a_w _ _ _ _ _ _ _),r.ne⟩
theorem Rvc.congr (r:Rvc K b w g o g' o' W f h)(e:∀j,j<W->f' j=f j):Rvc K b w g o g' o' W f' h:=⟨r.v.congr e,r.c,r.ne⟩
theorem Rvc.mono (r:Rvc K b w g o g' o' W f h)(hk:K<=K'):Rvc K' b w g o g' o' W f h:=⟨r.v.mono hk,r.c,r.ne⟩
end
theorem r_l {K b g o W c:Nat}{f:Nat->Int}{w:World}(h:Rv K b w g o W f)(hc:W<=c)(hm:c<=9223372036854775807)(hl:W<=1048576)(hk:K<=1099511627776):Calls Tryz.prog 89 #[rwV g o W c] w (RetK (.k (.int .i64 (DT.fst W f:Int))) w):=by
 have:=k_y (h.zl hc hm) hl hk;rwa [DT.fst_ext (v:=f) fun j hj=>k_e hj]at this
def tkw (f h:Nat->Int)(q:Int)(j:Nat):Nat->Int:=fun i=>if i<j then f i - q*h i else f i
theorem n_s {f h:Nat->Int}{j:Nat}{q:Int}:tkw f h q j j=f j:=by unfold tkw;rw[if_neg (by omega)]
theorem h_3 {f h:Nat->Int}{j:Nat}{q z:Int}(hz:z=f j - q*h j):(fun i=>if i=j then z else tkw f h q j i)=tkw f h q (j+1):=by
 funext i
 unfold tkw;by_cases e:i=j
 ·subst e;rw[if_pos rfl,if_pos (by omega),hz]
 ·rw[if_neg e];by_cases e2:i<j
  ·rw[if_pos e2,if_pos (by omega)]
  ·rw[if_neg e2,if_neg (by omega)]
theorem l_6 {f h:Nat->Int}{j:Nat}{q:Int}(e:h j=0):tkw f h q j=tkw f h q (j+1):=by
 rw[<-h_3 (z:=f j) (by rw[e];simp)];funext i
 by_cases e:i=j
 ·subst e;rw[if_pos rfl,n_s]
 ·rw[if_neg e]
theorem o_s {f h:Nat->Int}{k:Nat}{q:Int}(e:∀j,j<k->h j=0):f=tkw f h q k:=by
 funext i
 unfold tkw;split
 ·rename_i e2;rw[e i e2];simp
 ·rfl
def TvPost (K b:Nat)(w:World)(g o g' o' W:Nat)(f h:Nat->Int)(kq:Nat)(q:Int)(e:Ending)(w':World):Prop:=
 ∃s A m d,e= .returned (.agg #[.bool s,.slice A m d])/\Zc w' s A m d q/\m<=kq/\Rvc K b w' g o g' o' W (fun j=>f j - q*h j) h/\w.grownBy w' (some g)
theorem q_x {K b W k kc ca cc ga oa gc oc:Nat}{f h:Nat->Int}{w:World}(r:Rvc K b w ga oa gc oc W f h)(hb:b<=w.heap.size)(hk:k<W)(hW:W<=1048576)(h0:∀j,j<k->h j=0)(hp:0<h k)(hBc:Bd W kc h)(hK:K+kc+4<=549755813888):
  Calls Tryz.prog 90 #[rwV ga oa W ca,rwV gc oc W cc,.int .i64 (k:Int)] w (TvPost (K+kc+1) b w ga oa gc oc W f h K (f k / h k)):=by
 obtain⟨q,hq⟩:∃q,f k / h k=q:=⟨_,rfl⟩;have hBa:=r.v.bd;have hqa:q.natAbs<18446744073709551616^K:=by rw[<-hq];exact Nat.lt_of_le_of_lt (h_r _ _ hp) (hBa k hk)
 have HQ:=Lib.hid hq;have HQA:=Lib.hid hqa;have HP:=Lib.hid hp;have H0:=Lib.hid h0;have HBA:=Lib.hid hBa;have HBC:=Lib.hid hBc;have HR0:=Lib.hid r;have hla:=r.v.lt;have hlc:=r.c.lt;have hga:=r.v.lo;have hne:=r.ne;rw[hq];unfold rwV;clear hq hqa hp h0 hBa hBc;obtain⟨w1,hw1,b6,z1,s1⟩:=boxes1 w 31 [.bool false,.slice none 0 0];have HW:=Lib.hid hw1;have HZ:=Lib.hid z1;clear hw1 z1;go_enter Tryz.func90,Tryz.ntmps90
 go_upto_region 1 with fail
 rw[HW.out];have hR:=HR0.out.below HZ.out;clear r;obtain⟨sx,Ax,nx,cx,ex0,ex1,zx,hnx⟩:=hR.v.cells hk;obtain⟨px,hpx⟩:∃p,oa+k*2=p:=⟨_,rfl⟩;rw[hpx]at ex0 ex1;have lx:=hR.v.lt;obtain⟨sy,Ay,ny,cy,ey0,ey1,zy⟩:=hR.c.cells hk;obtain⟨py,hpy⟩:∃p,oc+k*2=p:=⟨_,rfl⟩;rw[hpy]at ey0 ey1;have ly:=hR.c.lt;have HFV:=Lib.hid (l_e zx zy.zv HP.out);rw[HQ.out]at HFV;obtain⟨rr,hrr⟩:∃r,drv sx sy (f k).natAbs (h k).natAbs=r:=⟨_,rfl⟩;have HRR:=Lib.hid hrr;have HZX:=Lib.hid zx;have HZY:=Lib.hid zy;have hny:=zy.le (HBC.out k hk);clear hrr zx zy;refine Run.start 15 ?_;refine .mv .o ?_;refine .mv .o ?_;refine .two (.i 0) (.i 1) (opIxR hk hpx) ?_;refine .ld (.i 2) (ldE (p:=⟨ga,px,none⟩) lx ex0 ex1) ?_;refine .mv .o ?_;refine .mv .o ?_;refine .two (.i 4) (.i 5) (opIxR hk hpy) ?_;refine .ld (.i 6) (ldE (p:=⟨gc,py,none⟩) ly ey0 ey1) ?_;refine .c2 (.i 3) (.i 7) (x:=kT3 (kC q (nx+2)) (kC rr ny) (.k (.bool true))) (by rintro u v w4 hB rfl rfl;exact(h_1 (HZX.out.below hB) (HZY.out.below hB).zv (by omega) (by omega) (by have:=HP.out;omega) HFV.out HRR.out).mono fun e w' ⟨s,A,n,c,t,B,m,d,e1,h1,h2,h3,h4,h5⟩=>⟨_,e1,⟨_,_,_,rfl,⟨_,_,_,_,rfl,h1,h3⟩,⟨_,_,_,_,rfl,h2,h4⟩,rfl⟩,h5⟩) ?_;refine .mf (.i 8) ?_;refine .ex (.i 9) 0 (j_d (x:=kC q (nx+2)) (y:=kC rr ny) (z:=.k (.bool true))) ?_;refine .ex (.i 9) 1 (f_t (x:=kC q (nx+2)) (y:=kC rr ny) (z:=.k (.bool true))) ?_;refine .ex (.i 9) 2 (x:=.k (.bool true)) (f_s (x:=kC q (nx+2)) (y:=kC rr ny) (z:=.k (.bool true))) ?_;refine .al ?_;refine .al ?_;refine .donef [11,12] [some 12,some 13,some 14,some 15,some 16,some 17,some 18,some 19,some 20,some 11,some 21,some 22,some 23,some 7,some 8] (h_n (b_j (k:=9) (j:=1) (F:=(kT3 (kC q (nx+2)) (kC rr ny) (.k (.bool true))).F) (by kernel_rfl) rfl rfl (f_t (x:=kC q (nx+2)) (y:=kC rr ny) (z:=.k (.bool true)))) (b_j (k:=9) (j:=2) (F:=(kT3 (kC q (nx+2)) (kC rr ny) (.k (.bool true))).F) (by kernel_rfl) rfl rfl (f_s (x:=kC q (nx+2)) (y:=kC rr ny) (z:=.k (.bool true))))) ?_;intro w2 B2;rintro v20 -;rintro v11 -;rintro v ⟨s7,A7,n7,c7,rfl,hz7,hk7⟩;rintro v ⟨s8,A8,n8,c8,rfl,hz8,hk8⟩;rintro g7 hg7 hl7 hc7 -;rintro g8 hg8 hl8 hc8 ⟨n78,-⟩;refine sh [_,_,_] ?_;simp only[Act.put,lS,lZ,lC];have b7:=zeroZt hc7;have b8:=zeroZt hc8;have hl6:=b6.lt;replace b6:=b6.below B2;replace hR:=hR.below B2;have hG:w.grownBy w2 (some ga):=a_2 (zup HZ.out B2) _;have N7:ga≠g7/\gc≠g7:=by omega
 have N8:ga≠g8/\gc≠g8:=by omega
 clear B2 hc7 hc8 HZX HZY ex0 ex1 ey0 ey1;have HZ7z:=Lib.hid hz7;have hqs:q.sign=0↔q=0:=Int.sign_eq_zero_iff_zero;obtain⟨sq,hsq⟩:∃x,q.sign=x:=⟨_,rfl⟩;rw[hsq]at hqs;have HSQ:=Lib.hid hsq;have hq7:=hz7.le (HQA.out);clear hsq HZ7z;obtain⟨w3,hw3⟩:∃x,zput w2 g7 s7 A7 n7 c7=x:=⟨_,rfl⟩;obtain⟨f1_,f2_,f3_,f4_,f5_⟩:=Ib.entry b7;replace b8:=b8.zo (g:=g7) (s:=s7) (A:=A7) (n:=n7) (c:=c7) (by omega);rw[hw3]at b8;replace b6:=b6.zo (g:=g7) (s:=s7) (A:=A7) (n:=n7) (c:=c7) (by omega);rw[hw3]at b6;replace hz7:=hz7.zp (s':=s7) (A':=A7) (n':=n7) (c':=c7) b7;rw[hw3]at hz7;replace hz8:=hz8.zp (s':=s7) (A':=A7) (n':=n7) (c':=c7) b7;rw[hw3]at hz8;replace hR:=hR.zp (s:=s7) (A:=A7) (m:=n7) (c:=c7) N7 b7;rw[hw3]at hR;replace hG:=b_7 (s:=s7) (A:=A7) (n:=n7) (c:=c7) hG (show _<=g7 by omega);rw[hw3]at hG;replace b7:=b7.zp (s:=s7) (A:=A7) (n:=n7) (c:=c7);rw[hw3]at b7;have Hw3:=Lib.hid hw3;unfold zput at Hw3;clear hw3;obtain⟨fa1_,fa2_,fa3_,fa4_,fa5_⟩:=And.intro f1_ (And.intro f2_ (And.intro f3_ (And.intro f4_ f5_)));clear f1_ f2_ f3_ f4_ f5_;obtain⟨w4,hw4⟩:∃x,zput w3 g8 s8 A8 n8 c8=x:=⟨_,rfl⟩;obtain⟨f1_,f2_,f3_,f4_,f5_⟩:=Ib.entry b8;replace b7:=b7.zo (g:=g8) (s:=s8) (A:=A8) (n:=n8) (c:=c8) (by omega);rw[hw4]at b7;replace b6:=b6.zo (g:=g8) (s:=s8) (A:=A8) (n:=n8) (c:=c8) (by omega);rw[hw4]at b6;replace hz7:=hz7.zp (s':=s8) (A':=A8) (n':=n8) (c':=c8) b8;rw[hw4]at hz7;replace hz8:=hz8.zp (s':=s8) (A':=A8) (n':=n8) (c':=c8) b8;rw[hw4]at hz8;replace hR:=hR.zp (s:=s8) (A:=A8) (m:=n8) (c:=c8) N8 b8;rw[hw4]at hR;replace hG:=b_7 (s:=s8) (A:=A8) (n:=n8) (c:=c8) hG (show _<=g8 by omega);rw[hw4]at hG;replace b8:=b8.zp (s:=s8) (A:=A8) (n:=n8) (c:=c8);rw[hw4]at b8;have Hw4:=Lib.hid hw4;unfold zput at Hw4;clear hw4;rw[<-Hw3.out]at f1_ f2_ f3_ f4_ f5_ Hw4;go_upto_region 2 with fail
 rw[Hw4.out];clear f1_ f2_ f3_ f4_ f5_ fa1_ fa2_ fa3_ fa4_ fa5_ Hw4 Hw3 hz8;have HZ7:=Lib.hid hz7;have N7:=Lib.hid N7;have N8:=Lib.hid N8;clear hz7;by_cases h0q:sq=0
 ·have hq0:=hqs.1 h0q;refine Run.start 3 ?_;refine .ld .o (ldZ b7 0) ?_;refine .c1 (.i 0) (x:=.k (.int .i64 sq)) (by rintro u w4 hB rfl;exact a_m ⟨_,_,_,_,rfl,(HZ7.out.below hB).zv,Nat.le_refl _⟩ (by omega) HSQ.out) ?_;refine .two (.i 1) .o (opEq (decide_eq_true h0q)) ?_;refine .donep [some 24,some 25,some 26] ?_;intro w5 B5;refine sh [] ?_;simp only[Act.put,lS,lZ,lC];have b7c:=(b7.below B5).cell 0;have b7d:=(b7.below B5).cell 1;simp only[List.getElem?_cons_succ,List.getElem?_cons_zero]at b7c b7d;have P:Hid (TvPost (K+kc+1) b w ga oa gc oc W f h K q (.returned (.agg #[.bool s7,.slice A7 n7 c7])) (zput w5 w.heap.size s7 A7 n7 c7)):=Lib.hid ⟨_,_,_,_,rfl,(HZ7.out.below B5).zp (b6.below B5),hq7,by
   have h1:=(hR.below B5).zp (s:=s7) (A:=A7) (m:=n7) (c:=c7) (by omega:ga≠w.heap.size/\gc≠w.heap.size) (b6.below B5);exact(h1.congr fun j _=>by rw[hq0];simp).mono (by omega),b_7 (a_i hG (a_2 B5 _)) (Nat.le_refl _)⟩
  unfold zput at P;have b6':=b6.below B5;clear hR b7 b6 B5 hG;have hb6:=Ib.entry b6';obtain⟨i1,i2,i3,i4,i5⟩:=hb6
  go_wp2_with fail
  exact bodyPost_ret (v:=.agg #[.bool s7,.slice A7 n7 c7]) (by simp[results,Tryz.results90,go_sem,i1,i2]) rfl P.out
 ·have hq0:q≠0:=fun e=>h0q (hqs.2 e);refine Run.start 3 ?_;refine .ld .o (ldZ b7 0) ?_;refine .c1 (.i 0) (x:=.k (.int .i64 sq)) (by rintro u w4 hB rfl;exact a_m ⟨_,_,_,_,rfl,(HZ7.out.below hB).zv,Nat.le_refl _⟩ (by omega) HSQ.out) ?_;refine .two (.i 1) .o (opEq (decide_eq_false h0q)) ?_;refine .donep [some 24,some 25,some 26] ?_;intro w5 B5;refine sh [] ?_;simp only[Act.put,lS,lZ,lC];have HS:Hid (w.grownBy w5 (some ga)/\Rvc (K+kc+1) b w5 ga oa gc oc W (tkw f h q k) h/\Bx w5 w.heap.size 31 [.bool false,.slice none 0 0]/\Bx w5 g7 31 [.bool s7,.slice A7 n7 c7]/\Zc w5 s7 A7 n7 c7 q):=Lib.hid ⟨a_i hG (a_2 B5 _),by rw[<-o_s H0.out];exact(hR.below B5).mono (by omega),b6.below B5,b7.below B5,HZ7.out.below B5⟩;clear hR b7 b6 b8 B5 hG hqs h0q HSQ
  go_wp2_with fail
  go_loopw [10] (fun s10 wr=>∃j:Nat,s10= .int .i64 (j:Int)/\k<=j/\j<=W/\Hid (w.grownBy wr (some ga)/\Rvc (K+kc+1) b wr ga oa gc oc W (tkw f h q j) h/\Bx wr w.heap.size 31 [.bool false,.slice none 0 0]/\Bx wr g7 31 [.bool s7,.slice A7 n7 c7]/\Zc wr s7 A7 n7 c7 q)) (fun s10 _=>W - (intOf s10).toNat)
  case atStart=>exact⟨k,rfl,Nat.le_refl _,by omega,HS⟩
  case round=>
   obtain⟨j,rfl,hkj,hjW,HB⟩:=hrel;obtain⟨hG,hR,b6,b7,hz⟩:=HB.out;have HZq:=Lib.hid hz;have hlw:=hG.size;have g7l:=b7.lt;by_cases hlt:j<W
   ·have u2:(j:Int)<(W:Int):=by omega
    obtain⟨su,Au,nu,cu,eu0,eu1,zu⟩:=hR.c.cells hlt;obtain⟨pu,hpu⟩:∃p,oc+j*2=p:=⟨_,rfl⟩;rw[hpu]at eu0 eu1;have lu:=hR.c.lt;obtain⟨su',hsu'⟩:∃x,(h j).sign=x:=⟨_,rfl⟩;have HSU:=Lib.hid hsu';have hsu0:su'=0↔h j=0:=by rw[<-hsu'];exact Int.sign_eq_zero_iff_zero
    have HZU:=Lib.hid zu;have hnu:=zu.le (HBC.out j hlt);clear hsu' zu HB HS hz;go_upto_region 7 with fail
    by_cases hs0:su'=0
    ·have hz0:=hsu0.1 hs0;refine Run.start 6 ?_;refine .mv .o ?_;refine .mv .o ?_;refine .two (.i 0) (.i 1) (opIxR hlt hpu) ?_;refine .ld (.i 2) (ldE (p:=⟨gc,pu,none⟩) lu eu0 eu1) ?_;refine .c1 (.i 3) (x:=.k (.int .i64 su')) (by rintro u w5 hB rfl;exact a_m ⟨_,_,_,_,rfl,(HZU.out.below hB).zv,Nat.le_refl _⟩ (by omega) HSU.out) ?_;refine .two (.i 4) .o (opNe (by rw[hs0];decide:decide (su'≠0)=false)) ?_;refine .donep [some 35,some 36,some 37,some 38,some 39,some 40] ?_;intro w5 B5;refine sh [] ?_;simp only[Act.put,lS,lZ,lC];have HS:Hid (w.grownBy w5 (some ga)/\Rvc (K+kc+1) b w5 ga oa gc oc W (tkw f h q (j+1)) h/\Bx w5 w.heap.size 31 [.bool false,.slice none 0 0]/\Bx w5 g7 31 [.bool s7,.slice A7 n7 c7]/\Zc w5 s7 A7 n7 c7 q):=Lib.hid ⟨a_i hG (a_2 B5 _),by rw[<-l_6 hz0];exact hR.below B5,b6.below B5,b7.below B5,HZq.out.below B5⟩;clear hR b6 b7 HZq hG B5 eu0 eu1 hs0 hsu0 HSU
     go_wp2_with fail
     go_roundw
     case rel=>exact⟨j+1,by go_num,by omega,by omega,HS⟩
     case measure=>first|(simp[intOf];done)|(simp[intOf];omega)
    ·skip
     refine Run.start 6 ?_;refine .mv .o ?_;refine .mv .o ?_;refine .two (.i 0) (.i 1) (opIxR hlt hpu) ?_;refine .ld (.i 2) (ldE (p:=⟨gc,pu,none⟩) lu eu0 eu1) ?_;refine .c1 (.i 3) (x:=.k (.int .i64 su')) (by rintro u w5 hB rfl;exact a_m ⟨_,_,_,_,rfl,(HZU.out.below hB).zv,Nat.le_refl _⟩ (by omega) HSU.out) ?_;refine .two (.i 4) .o (opNe (decide_eq_true hs0:decide (su'≠0)=true)) ?_;refine .donep [some 35,some 36,some 37,some 38,some 39,some 40] ?_;intro w5 B5;refine sh [] ?_;simp only[Act.put,lS,lZ,lC];replace hR:=hR.below B5;replace b6:=b6.below B5;replace b7:=b7.below B5;have HZq:=Lib.hid (HZq.out.below B5);have HZU:=Lib.hid (HZU.out.below B5);replace hG:=a_i hG (a_2 B5 (some ga));clear eu0 eu1 lu B5;clear HZU HSU hsu0 hs0 hnu hlw;obtain⟨sv,Av,nv,cv,ev0,ev1,zv⟩:=hR.c.cells hlt;obtain⟨pv,hpv⟩:∃p,oc+j*2=p:=⟨_,rfl⟩;rw[hpv]at ev0 ev1;have lv:=hR.c.lt;obtain⟨st,At,nt,ct,et0,et1,zt,hnt⟩:=hR.v.cells hlt;obtain⟨pt,hpt⟩:∃p,oa+j*2=p:=⟨_,rfl⟩;rw[hpt]at et0 et1;have lt:=hR.v.lt;rw[n_s]at zt;have HZV:=Lib.hid zv;have HZT:=Lib.hid zt;have hnv:=zv.le (HBC.out j hlt);have hxb:=HBA.out j hlt;have hyb:=HBC.out j hlt;obtain⟨y,hy⟩:∃y,h j=y:=⟨_,rfl⟩;obtain⟨x,hx⟩:∃x,f j=x:=⟨_,rfl⟩;rw[hy]at HZV hyb;rw[hx]at HZT hxb;have hzb:(x - q*y).natAbs<18446744073709551616^(K+kc+1):=by
      refine Nat.lt_of_le_of_lt (Int.natAbs_sub_le _ _) ?_;rw[Int.natAbs_mul];exact i_e hxb (e_4 HQA.out hyb (Nat.le_refl _)) (by omega) (by omega)
     have HZB:=Lib.hid hzb;have HY:=Lib.hid hy;have HX:=Lib.hid hx;have g7l:=b7.lt;clear zv zt hy hx hxb hyb hzb;go_upto_region 8 with fail
     refine Run.start 14 ?_;refine .mv .o ?_;refine .mv .o ?_;refine .mv .o ?_;refine .mv .o ?_;refine .two (.i 2) (.i 3) (opIxR hlt hpt) ?_;refine .ld (.i 4) (ldE (p:=⟨ga,pt,none⟩) lt et0 et1) ?_;refine .ld .o (ldZ b7 0) ?_;refine .mv .o ?_;refine .mv .o ?_;refine .two (.i 7) (.i 8) (opIxR hlt hpv) ?_;refine .ld (.i 9) (ldE (p:=⟨gc,pv,none⟩) lv ev0 ev1) ?_;refine .c2 (.i 6) (.i 10) (x:=kC (q*y) (n7+nv)) (by rintro u v w6 hB rfl rfl;exact d_r ⟨_,_,_,_,rfl,(HZq.out.below hB).zv,Nat.le_refl _⟩ ⟨_,_,_,_,rfl,(HZV.out.below hB).zv,Nat.le_refl _⟩ (by omega) (by omega) (Nat.le_refl _)) ?_;refine .c2 (.i 5) (.i 11) (x:=kC (x - q*y) (max nt (n7+nv)+1)) (by rintro u v w6 hB rfl ⟨s_,A_,n_,c_,rfl,hz_,hk_⟩;exact j_o ⟨_,_,_,_,rfl,(HZT.out.below hB),Nat.le_refl _⟩ ⟨_,_,_,_,rfl,hz_.zv,hk_⟩ (by omega) (by omega) (Nat.le_refl _)) ?_;refine .two (.i 0) (.i 1) (opIxR hlt hpt) ?_;refine .done [some 41,some 42,some 43,some 44,some 45,some 46,some 47,some 48,some 49,some 50,some 51,some 52,some 53,some 54] ?_;intro w6 B6;rintro v52 -;rintro v ⟨s9,A9,n9,c9,rfl,hz9,hk9⟩;refine sh [_] ?_;simp only[Act.put,lS,lZ,lC];replace hR:=hR.below B6;have b7g:=b7.below B6;have b6g:=b6.below B6;have HZq6:=Lib.hid (HZq.out.below B6);have hG6:=a_i hG (a_2 B6 (some ga));have hrow:=hR.v;have hno:=hrow.now;have hgr:=a_w w6 ga (oa+j*2) s9 A9 n9 c9;have hR':=hR.put hlt hz9.zv (hz9.le HZB.out);rw[h_3 (by rw[HX.out,HY.out])]at hR';obtain⟨t1,t2,t3,t4,x1,x2,-⟩:=hrow.cells hlt;have y1:=hrow.blk.free (oa+j*2);have y2:=hrow.blk.free (oa+j*2+1);rw[hpt]at x1 x2 y1 y2 hR' hgr;have n6:w.heap.size≠ga:=by omega
     have n7_:g7≠ga:=by omega
     have HS:Hid (w.grownBy (zputo w6 ga pt s9 A9 n9 c9) (some ga)/\Rvc (K+kc+1) b (zputo w6 ga pt s9 A9 n9 c9) ga oa gc oc W (tkw f h q (j+1)) h/\Bx (zputo w6 ga pt s9 A9 n9 c9) w.heap.size 31 [.bool false,.slice none 0 0]/\Bx (zputo w6 ga pt s9 A9 n9 c9) g7 31 [.bool s7,.slice A7 n7 c7]/\Zc (zputo w6 ga pt s9 A9 n9 c9) s7 A7 n7 c7 q):=
      Lib.hid ⟨a_i hG6 hgr,hR',a_t b6g hgr n6,a_t b7g hgr n7_,HZq6.out.gro hno hgr⟩
     unfold zputo at HS;clear hR hR' b6 b7 b6g b7g HZq HZq6 hG hG6 B6 ev0 ev1 et0 et1 hz9 hrow hno hgr n6 n7_ HZV HZT HX HY HZB
     go_wp2_with fail
     go_roundw
     case rel=>exact⟨j+1,by go_num,by omega,by omega,HS⟩
     case measure=>first|(simp[intOf];done)|(simp[intOf];omega)
   ·obtain rfl:j=W:=by omega
    have u2:¬(j:Int)<(j:Int):=by omega
    clear HB;go_upto_region 9 with fail
    have b7c:=b7.cell 0;have b7d:=b7.cell 1;simp only[List.getElem?_cons_succ,List.getElem?_cons_zero]at b7c b7d;have P:Hid (TvPost (K+kc+1) b w ga oa gc oc j f h K q (.returned (.agg #[.bool s7,.slice A7 n7 c7])) (zput wr w.heap.size s7 A7 n7 c7)):=Lib.hid ⟨_,_,_,_,rfl,HZq.out.zp b6,hq7,by
     have h1:=hR.zp (s:=s7) (A:=A7) (m:=n7) (c:=c7) (by omega:ga≠w.heap.size/\gc≠w.heap.size) b6;exact h1.congr fun i hi=>by unfold tkw;rw[if_pos hi],b_7 hG (Nat.le_refl _)⟩
    unfold zput at P;have b6':=b6;clear hR b7 b6 hG;have hb6:=Ib.entry b6';obtain⟨i1,i2,i3,i4,i5⟩:=hb6
    go_wp2_with fail
    exact bodyPost_ret (v:=.agg #[.bool s7,.slice A7 n7 c7]) (by simp[results,Tryz.results90,go_sem,i1,i2]) rfl P.out
end
section
open Go.RowKit
theorem l_x (ad:Addr)(i:Nat):ad.add (i*2+1)=⟨(ad.add (i*2)).block,(ad.add (i*2)).off+1,none⟩:=by
 by_cases h:i*2=0
 ·have h1:i=0:=by omega
  subst h1;simp[Addr.add]
 ·simp[Addr.add,h,Nat.add_assoc]
theorem i_6 {w:World}{g n c K:Nat}{ad:Addr}{zs:List Int}(h:ZL false w (some ad) n c K zs)(h0:0<n)(hs:n<=1048576)(hg:∃cs,w.heap[g]? =some (.cells cs 31 (0,0)))(ty:TypeId):∃cp w',(Builtin.append_ #[25,25] ty #[.slice (some ⟨g,0,none⟩) 0 0,.slice (some ad) n c]).run Tryz.prog w= .ok (rwV w.heap.size 0 n cp) w'/\Below w.heap.size w w'/\Rv K w.heap.size w' w.heap.size 0 n (ith zs)/\n<=cp/\cp<=9223372036854775807:=by
 obtain⟨i,hi,hz0,hz1,hz2⟩:=info_parts info_zint;obtain⟨ad',e',hlt,hat⟩:=h.at' h0;cases e';have hex:∀j,j<n*2->∃u,w.cell? (ad.add j)=some u/\∀m,u≠ .int .u64 m:=fun j hj=>by
  obtain⟨s,A,m,d,c1,c2,-,-⟩:=hat (j / 2) (by omega);rcases(by omega:j=j / 2*2\/j=j / 2*2+1)with e|e
  ·rw[e];exact⟨_,c1,fun m e=>by cases e⟩
  ·rw[e];exact⟨_,by rw[l_x];exact c2,fun m e=>by cases e⟩
 obtain⟨ys,hys⟩:∃ys:List Value,ys=(List.range (n*2)).map fun j=>(w.cell? (ad.add j)).getD undef:=⟨_,rfl⟩;have hy1:ys.length=n*2:=by rw[hys];simp
 have hyat:∀j,j<n*2->ys[j]? =w.cell? (ad.add j):=fun j hj=>by
  obtain⟨u,hu,-⟩:=hex j hj;rw[hys,hu];simp[hj,hu]
 have hy2:∀j u,ys[j]? =some u->w.cell? (ad.add j)=some u:=fun j u hu=>by
  have hj:j<n*2:=by rw[<-hy1];exact(List.getElem?_eq_some_iff.1 hu).1
  rw[<-hyat j hj];exact hu
 have hrun:=Go.run_append_grow (P:=Tryz.prog) w 25 ty 31 i (.agg #[.bool false,.slice none 0 0]) Tryz.underlying25 hi hz0 ⟨g,0,none⟩ 0 0 [] (by simp) (fun j u hu=>by simp at hu) ad n c ys (by rw[hy1,hz1]) hy2 (by omega) (by omega) (growslice_fits (by omega) (by rw[hz2];omega));rw[show(#[]:Array Value)++ys.toArray=ys.toArray by simp]at hrun;rw[Nat.zero_add]at hrun;obtain⟨cp,hcp⟩:∃cp,grownCap w n 0 31=cp:=⟨_,rfl⟩;have hge:=grownCap_ge w n 0 31;have hle:=grownCap_le_maxLen w n 0 31 (by unfold maxLen;omega);rw[hcp]at hrun hge hle;have hB:Below w.heap.size w (w.drew.alloc (.cells (ys.toArray++Builtin.zeroCells (Value.agg #[.bool false,.slice none 0 0]).cells (cp - n)) 31)):=(a_a w).alloc (Nat.le_refl _) _;have hnew:(w.drew.alloc (.cells (ys.toArray++Builtin.zeroCells (Value.agg #[.bool false,.slice none 0 0]).cells (cp - n)) 31)).heap[w.heap.size]? =some (.cells (ys.toArray++Builtin.zeroCells (Value.agg #[.bool false,.slice none 0 0]).cells (cp - n)) 31 (0,0)):=heap_alloc_new w.drew _;have hcell:∀j,j<n*2->(ys.toArray++Builtin.zeroCells (Value.agg #[.bool false,.slice none 0 0]).cells (cp - n))[j]? =ys[j]? :=fun j hj=>by
  rw[Array.getElem?_append_left (by simp;omega)];simp
 refine⟨cp,_,hrun,hB,⟨⟨_,hnew,by simp;omega,fun j hj=>?_⟩,fun p m hp hc=>?_,Nat.le_refl _⟩,hge,by unfold maxLen at hle;omega⟩
 ·obtain⟨s,A,m,d,c1,c2,c3,c4⟩:=hat j hj;exact⟨s,A,m,d,by rw[Nat.zero_add,hcell _ (by omega),hyat _ (by omega)];exact c1,by rw[Nat.zero_add,hcell _ (by omega),hyat _ (by omega),l_x];exact c2,c3.1.below hB,c4⟩
 ·obtain⟨pb,po,ps⟩:=p;simp only at hp;subst hp;unfold World.cell? at hc;rw[hnew]at hc;have hc:ps=none/\(ys.toArray++Builtin.zeroCells (Value.agg #[.bool false,.slice none 0 0]).cells (cp - n))[po]? =some (.int .u64 m):=by simpa using hc
  by_cases e:po<n*2
  ·have h2:=hc.2;rw[hcell _ e,hyat _ e]at h2;obtain⟨u,hu,hne⟩:=hex po e;rw[hu]at h2;exact hne m (Option.some.inj h2)
  ·have h2:=hc.2;rw[Array.getElem?_append_right (by simp;omega)]at h2;have h3:=(Array.getElem?_eq_some_iff.1 h2);obtain⟨h4,h5⟩:=h3;have h6:Value.int .u64 m∈(Builtin.zeroCells (Value.agg #[.bool false,.slice none 0 0]).cells (cp - n)).toList:=by rw[<-h5];exact Array.getElem_mem_toList _
   unfold Builtin.zeroCells at h6;rw[Array.toList_map,List.mem_map]at h6;obtain⟨i,hi,h7⟩:=h6;have h8:(Value.agg #[.bool false,.slice none 0 0]).cells= #[.bool false,.slice none 0 0]:=rfl;rw[h8]at h7;have h9:i%(#[Value.bool false,.slice none 0 0]:Array Value).size=0\/i%(#[Value.bool false,.slice none 0 0]:Array Value).size=1:=by show i%2=0\/i%2=1;omega
   rcases h9 with h9|h9<;>rw[h9]at h7<;>cases h7
theorem f_4 {w:World}{ops:Array Oper}{rest:List Oper}{op:Oper}{a:Act}{Q:Exit->Act->World->Prop}(hgd:op.guard=none)(s x:Operand)
  (ho:op.op= .call { callee:=.builtin .append,args:=#[s,x],argTypes:=#[25,25] })
  {g n c K:Nat} {ad:Addr} {zs:List Int} (hs:a.eval s= .slice (some ⟨g,0,none⟩) 0 0) (hx:a.eval x= .slice (some ad) n c) (h:ZL false w (some ad) n c K zs) (h0:0<n) (hz:n<=1048576) (hg:∃cs,w.heap[g]? =some (.cells cs 31 (0,0)))
  (KK:∀cp w',Below w.heap.size w w'->Rv K w.heap.size w' w.heap.size 0 n (ith zs)->n<=cp->cp<=9223372036854775807->wpList Tryz.prog ops Q rest (a.put op.dst (rwV w.heap.size 0 n cp)) w'):
  wpList Tryz.prog ops Q (op::rest) a w:=by
 obtain⟨cp,w',hrun,h1,h2,h3,h4⟩:=i_6 h h0 hz hg op.type;refine wpList_plain hgd fun K' hK'=>?_;unfold Oper.wp execOp;simp only[ho,resolve,invoke,builtin,Sem.run_bind,Sem.run_pure,Result.andThen_ok,List.map_toArray,List.map_cons,List.map_nil,hs,hx,hrun];exact hK' _ _ (KK _ _ h1 h2 h3 h4)
def kB0 (b0:Nat):FK:=.f (fun v w=>∃g,v= .slice (some ⟨g,0,none⟩) 0 0/\Bx w g 31 []/\b0<=g) (fun v w w' ⟨g,e,h1,h2⟩ hb=>⟨g,e,h1.below hb,h2⟩)
theorem p_b {w:World}:(Instr.buildSlice 25 0 #[]).run Tryz.prog w= .ok (.slice (some ⟨w.heap.size,0,none⟩) 0 0) (w.alloc (.cells #[] 31)):=by kernel_rfl
def okBs0 (ops:Array Oper)(m i:Nat):Bool:=okH ops m i&&(match(opAt ops i).op with| .buildSlice T n ⟨[]⟩=>T==25&&n==0|_=>false)
theorem Run.bs0 {ops:Array Oper}{Q:Exit->Act->World->Prop}{m i:Nat}{a0:Act}{w0:World}{l:List FK}{b:Bool}{id b0:Nat}(hb0:b0<=w0.heap.size)(rest:R ops Q m a0 w0 b id (kB0 b0::l) (i+1))(hc:okBs0 ops m i=true:=by kernel_rfl)(hg:Gd l i (opAt ops i):=by first|exact trivial|exact rfl):R ops Q m a0 w0 b id l i:=by
 unfold okBs0 at hc;rw[Bool.and_eq_true]at hc;obtain⟨h1,h2⟩:=hc;refine Run.mem (x:=kB0 b0) (fun a w h=>?_) rest (FK.fne _) h1 hg;split at h2
 ·rename_i T n e;simp only[Bool.and_eq_true,beq_iff_eq]at h2;obtain⟨rfl,rfl⟩:=h2;refine⟨_,_, ?_,⟨w.heap.size,rfl,Bx.new w _ _,Nat.le_trans hb0 h.below.size⟩,zba w _⟩;unfold execOp;rw[e];simp[p_b]
 ·cases h2
def ClPost (w:World)(n K:Nat)(zs:List Int)(e:Ending)(w':World):Prop:=
 ∃A c,e= .returned (.slice A n c)/\Below w.heap.size w w'/\n<=c/\c<=9223372036854775807/\(0<n->∃g,A=some ⟨g,0,none⟩/\w.heap.size<=g/\Rv K w.heap.size w' g 0 n (ith zs))
theorem l_s {n c K:Nat}{A:Option Addr}{zs:List Int}{w:World}(hx:ZL false w A n c K zs)(hn:n<=1048576):Calls Tryz.prog 87 #[.slice A n c] w (ClPost w n K zs):=by
 have hX:=Lib.hid hx;by_cases h0:0<n
 ·obtain⟨ad,rfl,hlt,-⟩:=hx.at' h0;clear hx;go_enter Tryz.func87,Tryz.ntmps87
  go_upto_region 1 with fail
  refine Run.start 2 ?_;refine .mv .o ?_;refine .two (.i 0) .o (opSe (T:=0) (A:=some ad) (b:=false) rfl) ?_;refine .donep [some 3,some 4] ?_;intro w2 B2;refine sh [] ?_;simp only[Act.put,lS,lZ,lC];go_upto_region 3 with fail
  refine Run.start 2 ?_;refine .bs0 (b0:=w2.heap.size) (Nat.le_refl _) ?_;refine .mv .o ?_;refine .donep [some 5,some 6] ?_;intro w3 B3;rintro v ⟨gx,rfl,bg,hge⟩;refine sh [_,_] ?_;simp only[Act.put,lS,lZ,lC];have B0:=zup B2 B3
  go_wp2_with (at_builtin;refine f_4 rfl _ _ rfl (K:=K) (zs:=zs) rfl rfl (hX.out.below B0) h0 hn ⟨_,bg⟩ ?_)
  intro cp w' hB hR h1 h2;have P:Hid (ClPost w n K zs (.returned (rwV w3.heap.size 0 n cp)) w'):=Lib.hid ⟨_,_,rfl,zup B0 hB,h1,h2,fun _=>⟨_,rfl,by have:=B0.size;omega,⟨hR.ex,hR.now,by have:=B0.size;omega⟩⟩⟩;unfold rwV at P ⊢
  go_wp2_with fail
  exact bodyPost_ret (v:=.slice (some ⟨w3.heap.size,0,none⟩) n cp) (by simp[results,Tryz.results87,go_sem]) rfl P.out
 ·obtain rfl:n=0:=by omega
  have hle:=hx.le;have hcap:=hx.cap;clear hx h0;cases A with
  |none=>
   go_enter Tryz.func87,Tryz.ntmps87
   go_upto_region 1 with fail
   refine Run.start 2 ?_;refine .mv .o ?_;refine .two (.i 0) .o (opSe (T:=0) (A:=none) (b:=true) rfl) ?_;refine .donep [some 3,some 4] ?_;intro w2 B2;refine sh [] ?_;simp only[Act.put,lS,lZ,lC];have P:Hid (ClPost w 0 K zs (.returned (.slice none 0 0)) w2):=Lib.hid ⟨_,_,rfl,B2,Nat.le_refl _,by omega,fun h=>by omega⟩
   go_wp2_with fail
   exact bodyPost_ret (v:=.slice none 0 0) (by simp[results,Tryz.results87,go_sem]) rfl P.out
  |some ad=>
   go_enter Tryz.func87,Tryz.ntmps87
   go_upto_region 1 with fail
   refine Run.start 2 ?_;refine .mv .o ?_;refine .two (.i 0) .o (opSe (T:=0) (A:=some ad) (b:=false) rfl) ?_;refine .donep [some 3,some 4] ?_;intro w2 B2;refine sh [] ?_;simp only[Act.put,lS,lZ,lC];go_upto_region 3 with fail
   refine Run.start 2 ?_;refine .bs0 (b0:=w2.heap.size) (Nat.le_refl _) ?_;refine .mv .o ?_;refine .donep [some 5,some 6] ?_;intro w3 B3;rintro v ⟨gx,rfl,bg,hge⟩;refine sh [_,_] ?_;simp only[Act.put,lS,lZ,lC];have P:Hid (ClPost w 0 K zs (.returned (.slice (some ⟨gx,0,none⟩) 0 0)) w3):=Lib.hid ⟨_,_,rfl,zup B2 B3,Nat.le_refl _,by omega,fun h=>by omega⟩
   go_wp2_with fail
   exact bodyPost_ret (v:=.slice (some ⟨gx,0,none⟩) 0 0) (by simp[results,Tryz.results87,go_sem]) rfl P.out
end
section
open Go.RowKit
def cst (c:Nat)(F:Nat->Nat->Int)(v:Nat->Int):Nat->Nat->Int
 |0=>v
 |i+1=>if DT.fst c (F i)<c then(fun j=>cst c F v i j - cst c F v i (DT.fst c (F i)) / F i (DT.fst c (F i))*F i j)else cst c F v i
def cxx (c:Nat)(F:Nat->Nat->Int)(v:Nat->Int)(i:Nat):Int:=if DT.fst c (F i)<c then cst c F v i (DT.fst c (F i)) / F i (DT.fst c (F i))else 0
theorem h_s {c i:Nat}{F:Nat->Nat->Int}{v:Nat->Int}(h:DT.fst c (F i)<c):cst c F v (i+1)=fun j=>cst c F v i j - cst c F v i (DT.fst c (F i)) / F i (DT.fst c (F i))*F i j:=by show(if _ then _ else _)=_;rw[if_pos h]
theorem l_l {c i:Nat}{F:Nat->Nat->Int}{v:Nat->Int}(h:¬DT.fst c (F i)<c):cst c F v (i+1)=cst c F v i:=by show(if _ then _ else _)=_;rw[if_neg h]
theorem l_k {c i:Nat}{F:Nat->Nat->Int}{v:Nat->Int}(h:DT.fst c (F i)<c):cxx c F v i=cst c F v i (DT.fst c (F i)) / F i (DT.fst c (F i)):=by unfold cxx;rw[if_pos h]
theorem n_8 {c i:Nat}{F:Nat->Nat->Int}{v:Nat->Int}(h:¬DT.fst c (F i)<c):cxx c F v i=0:=by unfold cxx;rw[if_neg h]
theorem f_x {c:Nat}{F:Nat->Nat->Int}{v:Nat->Int}{j:Nat}(hj:j<c):∀i,v j=DT.sumN i (fun l=>cxx c F v l*F l j)+cst c F v i j
 |0=>by show v j=0+v j;rw[Int.zero_add]
 |i+1=>by
  refine(f_x (F:=F) (v:=v) hj i).trans ?_;show _=(DT.sumN i (fun l=>cxx c F v l*F l j)+cxx c F v i*F i j)+_
  by_cases h:DT.fst c (F i)<c
  ·rw[h_s h,l_k h];simp only[];omega
  ·rw[l_l h,n_8 h,Int.zero_mul];omega
theorem h_t {r c:Nat}{F:Nat->Nat->Int}{v:Nat->Int}(hH:DT.Herm r c F):∀i,i<=r->∀l,l<i->DT.fst c (F l)<c->0<=cst c F v i (DT.fst c (F l))/\cst c F v i (DT.fst c (F l))<F l (DT.fst c (F l))
 |0,_,l,hl,_=>absurd hl (Nat.not_lt_zero _)
 |i+1,hi,l,hl,hc=>by
  by_cases h:DT.fst c (F i)<c
  ·rw[h_s h];simp only[];by_cases e:l=i
   ·subst e;have hp:=hH.pos l (by omega) h;have h1:=Int.emod_nonneg (cst c F v l (DT.fst c (F l))) (show F l (DT.fst c (F l))≠0 by omega);have h2:=Int.emod_lt_of_pos (cst c F v l (DT.fst c (F l))) hp;have h3:=Int.emod_def (cst c F v l (DT.fst c (F l))) (F l (DT.fst c (F l)));rw[Int.mul_comm]at h3;rw[<-h3];exact⟨h1,h2⟩
   ·have h1:=hH.steps l i (by omega) (by omega) h;rw[DT.fst_zero h1,Int.mul_zero,Int.sub_zero];exact h_t hH i (by omega) l (by omega) hc
  ·rw[l_l h];by_cases e:l=i
   ·subst e;exact absurd hc h
   ·exact h_t hH i (by omega) l (by omega) hc
theorem l_m {r c:Nat}{F:Nat->Nat->Int}{v:Nat->Int}(hH:DT.Herm r c F)(h:DT.Lat r c F v):∀j,j<c->cst c F v r j=0:=by
 obtain⟨z,hz⟩:=h;obtain⟨y,hy⟩:∃y:Nat->Int,∀l,y l=z l - cxx c F v l:=⟨fun l=>z l - cxx c F v l,fun _=>rfl⟩;have hg:∀j,j<c->cst c F v r j=DT.sumN r fun l=>y l*F l j:=fun j hj=>by
  have h1:=f_x (F:=F) (v:=v) hj r;rw[hz j hj]at h1;have h2:DT.sumN r (fun l=>z l*F l j)=DT.sumN r (fun l=>y l*F l j)+DT.sumN r (fun l=>cxx c F v l*F l j):=by
   rw[<-DT.sum_add];exact DT.sum_ext fun l _=>by rw[hy,Int.sub_mul];omega
  omega
 have key:∀i,i<=r->∀l,l<i->y l=0\/¬DT.fst c (F l)<c:=by
  intro i;induction i with
  |zero=>intro _ l hl;omega
  |succ i ih=>
   intro hi l hl;by_cases e:l=i
   ·subst e;by_cases hc:DT.fst c (F l)<c
    ·left;have h1:=h_t (v:=v) hH r (Nat.le_refl _) l (by omega) hc;have h2:=hg _ hc;rw[DT.sum_one (show l<r by omega) fun a ha hne=>by
      rcases Nat.lt_or_ge a l with h3|h3
      ·rcases ih (by omega) a h3 with h4|h4
       ·rw[h4,Int.zero_mul]
       ·rw[DT.row_zero h4 hc,Int.mul_zero]
      ·by_cases h5:DT.fst c (F a)<c
       ·rw[DT.fst_zero (hH.steps l a (by omega) ha h5),Int.mul_zero]
       ·rw[DT.row_zero h5 hc,Int.mul_zero]]at h2
     rw[h2]at h1;have hp:=hH.pos l (by omega) hc;obtain⟨P,hP⟩:∃P,F l (DT.fst c (F l))=P:=⟨_,rfl⟩;rw[hP]at h1 hp;rcases Int.lt_trichotomy (y l) 0 with h6|h6|h6
     ·have:=Int.mul_neg_of_neg_of_pos h6 hp;omega
     ·exact h6
     ·have:=Int.mul_le_mul_of_nonneg_right (show 1<=y l by omega) (Int.le_of_lt hp);omega
    ·exact .inr hc
   ·exact ih (by omega) l (by omega)
 intro j hj;rw[hg j hj];refine DT.sum_zero fun l hl=>?_;rcases key r (Nat.le_refl _) l hl with h1|h1
 ·rw[h1,Int.zero_mul]
 ·rw[DT.row_zero h1 hj,Int.mul_zero]
end
end Go.Proofs.YtfhbdlegkdbmfaaGreat
