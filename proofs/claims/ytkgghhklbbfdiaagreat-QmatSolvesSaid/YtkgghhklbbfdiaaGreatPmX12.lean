/- PmX12 -/
import Derived.Test.YtkgghhklbbfdiaaGreatPmX06
import Derived.Test.YtkgghhklbbfdiaaGreatPmX07
import Derived.Test.YtkgghhklbbfdiaaGreatPmX08
import Derived.IntWalk
import Derived.RegionTactic
import Derived.BigRegion
set_option linter.unusedVariables false
set_option linter.unusedSimpArgs false
set_option linter.unusedSectionVars false
set_option maxRecDepth 100000
set_option maxHeartbeats 8000000
namespace Go.Proofs.YtkgghhklbbfdiaaGreat
section
open Go.RowKit
section
variable {w w':World}{g h:Nat}{T U:TypeId}{cs ds:List Value}
end
section
variable {g o:Nat}
end
section
variable {x y r:Int}{T:TypeId}{b:Bool}{X Y:Operand}{U:TypeId}
theorem opGt (h:decide (y<x)=b)(w:World):RunTwo Tryz.prog (.binOp .gtr T X Y U) w (.int .i64 x) (.int .i64 y) (.bool b):=by unfold RunTwo;simp[go_sem,←h];try rfl
end
end
section
open Go.RowKit
section
variable {u v:Value}{x y:Rat}{n m K:Nat}{w:World}
end
section
variable {q:Bool}{w w':World}{r c n d k k':Nat}{A:Option Addr}{F G:Nat→Nat→Rat}
theorem Mq.congr (h:Mq q w r c A n d k F)(e:∀i j,i<r→j<c→F i j=G i j):Mq q w r c A n d k G:=⟨by rw[←b_l e];exact h.ql,h.hr,h.hc⟩
end
end
section
open Go.RowKit
theorem argsO1 (i j a:Value):#[]++ #[i,j]++ #[a]= #[i,j,a]:=rfl
theorem r_1 {r c r' c':Int}{A A':Option Addr}{n d n' d':Nat}{b:Bool}(hb:(decide (r=r')&&decide (c=c'))=b)(w:World):Calls Tryz.prog 91 #[.agg #[.int .i64 r,.int .i64 c,.slice A n d],.agg #[.int .i64 r',.int .i64 c',.slice A' n' d']] w (RetK (.k (.bool b)) w):=by
 obtain⟨t1,h1⟩:∃t,decide (r=r')=t:=⟨_,rfl⟩;obtain⟨t2,h2⟩:∃t,decide (c=c')=t:=⟨_,rfl⟩;have hb':b=(t1&&t2):=by rw[←hb,h1,h2]
 have hbb:=Lib.hid hb';obtain⟨w1,hw1,b2,b3,z1,s1⟩:=boxes2 w 24 24 [.int .i64 r,.int .i64 c,.slice A n d] [.int .i64 r',.int .i64 c',.slice A' n' d'];have HW:=Lib.hid hw1;have HZ:=Lib.hid z1;have h1_:=Lib.hid h1;have h2_:=Lib.hid h2;clear hw1 z1 h1 h2 hb hb' s1;go_enter Tryz.func91,Tryz.ntmps91
 go_upto_region 1 with fail
 rw[HW.out];cases t1
 ·refine Run.start 13 ?_;refine .fa .o (fQ0 0) ?_;refine .ld (.i 0) (ldInt b2 0) ?_;refine .fa .o (fQ0 0) ?_;refine .ld (.i 2) (ldInt b3 0) ?_;refine .two (.i 1) (.i 3) (opEq h1_.out) ?_;refine .mv (.i 4) ?_;refine .no ?_;refine .no ?_;refine .no ?_;refine .no ?_;refine .no ?_;refine .pk (.i 5) .o false ?_;refine .mv (.i 11) ?_;refine .donep [some 5,some 6,some 7,some 8,some 9,some 10,some 11,some 12,some 13,some 14,some 15,some 16,some 4] ?_;intro w2 B2;change Shut (wpList _ _ _ [] _ _);refine⟨?_⟩;simp only[Act.put,lS,lZ,lC];cases hbb.out
  go_wp2_with fail
  exact bodyPost_ret (v:=.bool false) (by simp[results,Tryz.results91,go_sem]) rfl (a_9 rfl (zup HZ.out B2))
 ·refine Run.start 13 ?_;refine .fa .o (fQ0 0) ?_;refine .ld (.i 0) (ldInt b2 0) ?_;refine .fa .o (fQ0 0) ?_;refine .ld (.i 2) (ldInt b3 0) ?_;refine .two (.i 1) (.i 3) (opEq h1_.out) ?_;refine .mv (.i 4) ?_;refine .fa .o (fQ1 1) ?_;refine .ld (.i 6) (ldInt b2 1) ?_;refine .fa .o (fQ1 1) ?_;refine .ld (.i 8) (ldInt b3 1) ?_;refine .two (.i 7) (.i 9) (opEq h2_.out) ?_;refine .pk (.i 5) (.i 10) true ?_;refine .mv (.i 11) ?_;refine .donep [some 5,some 6,some 7,some 8,some 9,some 10,some 11,some 12,some 13,some 14,some 15,some 16,some 4] ?_;intro w2 B2;change Shut (wpList _ _ _ [] _ _);refine⟨?_⟩;simp only[Act.put,lS,lZ,lC];cases hbb.out
  go_wp2_with fail
  exact bodyPost_ret (v:=.bool t2) (by simp[results,Tryz.results91,go_sem]) rfl (a_9 rfl (zup HZ.out B2))
end
section
open Go.RowKit
theorem qadd_yes {q q':Bool}{r c n d k n' d':Nat}{A A':Option Addr}{F G:Nat→Nat→Rat}{w:World}(h:Mq q w r c A n d k F)(h':Mq q' w r c A' n' d' k G)(hk0:1≤k)(hk:k≤1073741824):Calls Tryz.prog 45 #[.agg #[.int .i64 (r:Int),.int .i64 (c:Int),.slice A n d],.agg #[.int .i64 (r:Int),.int .i64 (c:Int),.slice A' n' d']] w (RetK (kT (kMw w.heap.size r c (2*k+1) fun i j=>F i j+G i j) (.k (.int .i64 0))) w):=by
 have h1:(fmd (r:Int) (c:Int) n&&fmd (r:Int) (c:Int) n')=true:=by rw[h.fmd,h'.fmd];rfl
 have hr:=h.hr;have hc:=h.hc;obtain⟨w1,hw1,b2,b3,b4,z1,s1⟩:=boxes3 w 24 24 24 [.int .i64 (r:Int),.int .i64 (c:Int),.slice A n d] [.int .i64 (r:Int),.int .i64 (c:Int),.slice A' n' d'] [.int .i64 0,.int .i64 0,.slice none 0 0];have HW:=Lib.hid hw1;have HZ:=Lib.hid z1;have h1_:=Lib.hid h1;clear hw1 z1 h1 s1;go_enter Tryz.func45,Tryz.ntmps45
 go_upto_region 1 with fail
 rw[HW.out];refine Run.start 10 ?_;refine .ld .o (ldQm b2 0) ?_;refine .ld .o (ldQm b3 0) ?_;refine .c2 (.i 0) (.i 1) (x:=.k (.bool true)) (by rintro u v w2 hB rfl rfl;exact g_z h1_.out w2) ?_;refine .nt (.i 2) ?_;refine .mv (.i 3) ?_;refine .ld .o (ldQm b2 0) ?_;refine .ld .o (ldQm b3 0) ?_;refine .c2 (.i 5) (.i 6) (x:=.k (.bool true)) (by rintro u v w2 hB rfl rfl;exact r_1 (by simp) w2) ?_;refine .nt (.i 7) ?_;refine .pk (.i 4) (.i 8) false ?_;refine .donep [some 6,some 7,some 8,some 9,some 10,some 11,some 12,some 13,some 14,some 15] ?_;intro w2 B2;change Shut (wpList _ _ _ [] _ _);refine⟨?_⟩;simp only[Act.put,lS,lZ,lC];replace b2:=b2.below B2;replace b3:=b3.below B2;replace b4:=b4.below B2;have HZ2:=Lib.hid (zup HZ.out B2);clear B2 HZ;go_upto_region 3 with fail
 refine Run.start 6 ?_;refine .fa .o (fQ0 0) ?_;refine .ld (.i 0) (ldInt b2 0) ?_;refine .fa .o (fQ1 1) ?_;refine .ld (.i 2) (ldInt b2 1) ?_;refine .fn [] [.o,.o] [] [_,_] (trivial) (⟨rfl,rfl,trivial⟩) ?_;refine .c3 (.i 1) (.i 3) (.i 4) (x:=kMw w.heap.size r c (2*k+1) fun i j=>F i j+G i j) (by rintro u v x_ w4 hB rfl rfl rfl;exact(i_u hr hc (by kernel_rfl) (fun i j W hi hj hW=>by rw[argsO];exact v_o ((b2.below hB).below hW) ((b3.below hB).below hW) (h.below (zup (zup HZ2.out hB) hW)) (h'.below (zup (zup HZ2.out hB) hW)) hi hj hk0 hk)).mono fun e_ w' h=>h.mono fun v w2 ⟨A,n,d,e,h1⟩=>⟨A,n,d,e,h1.low (zup HZ2.out hB).size⟩) ?_;refine .donep [some 17,some 18,some 19,some 20,some 21,some 22] ?_;intro w3 B3;rintro v ⟨A_,n_,d_,rfl,hM⟩;change Shut (wpList _ _ _ [_,_] _ _);refine⟨?_⟩;simp only[Act.put,lS,lZ,lC];have P:=Lib.hid (retMwE hM (b4.below B3) (by omega) (zup HZ2.out B3));unfold mput at P;obtain⟨i0,i1,i2,i3,i4,i5,i6⟩:=(b4.below B3).m3;clear hM
 go_wp2_with fail
 exact bodyPost_ret (v:=.tuple #[.agg #[.int .i64 (r:Int),.int .i64 (c:Int),.slice A_ n_ d_],.int .i64 0]) (by simp[results,Tryz.results45,go_sem,i0,i1,i2]) rfl P.out
theorem tr1_q {q:Bool}{r c n d k i j g:Nat}{A:Option Addr}{F:Nat→Nat→Rat}{w:World}(b2:Bx w g 24 [.int .i64 (r:Int),.int .i64 (c:Int),.slice A n d])(h:Mq q w r c A n d k F)(hi:i<c)(hj:j<r)(hk0:1≤k)(hk:k≤1073741824):Calls Tryz.prog 73 #[.int .i64 (i:Int),.int .i64 (j:Int),.pointer (some ⟨g,0,none⟩)] w (RetK (kQ (F j i) k) w):=by
 obtain⟨w1,hw1,b5,z1,s1⟩:=boxes1 w 46 [.bool false,.slice none 0 0,.bool false,.slice none 0 0];have HW:=Lib.hid hw1;have HZ:=Lib.hid z1;replace b2:=b2.below z1;replace h:=h.below z1;clear hw1 z1 s1;go_enter Tryz.func73,Tryz.ntmps73
 go_upto_region 1 with fail
 rw[HW.out];refine Run.start 4 ?_;refine .ld .o (ldQm b2 0) ?_;refine .mv .o ?_;refine .mv .o ?_;refine .c3 (.i 0) (.i 1) (.i 2) (x:=kQ (F j i) k) (by rintro u v x w3 hB rfl rfl rfl;exact j_7 (h.below hB) hj hi hk0 hk) ?_;refine .donep [some 6,some 7,some 8,some 9] ?_;intro w2 B2;rintro v ⟨s_,A_,n_,c_,t_,B_,m_,d_,rfl,hz,hk1,hk2⟩;change Shut (wpList _ _ _ [_] _ _);refine⟨?_⟩;simp only[Act.put,lS,lZ,lC];have I:=(b5.below B2).rb;have P:=Lib.hid (retQ hz I (k:=k) hk1 hk2 (by omega) (zup HZ.out B2));unfold rput at P;obtain⟨i1,i2,i3,i4,i5,i6,i7,i8,i9⟩:=I;clear hz
 go_wp2_with fail
 exact bodyPost_ret (v:=.agg #[.bool s_,.slice A_ n_ c_,.bool t_,.slice B_ m_ d_]) (by simp[results,Tryz.results73,go_sem,i1,i2,i3,i4]) rfl P.out
theorem p_h {q:Bool}{r c n d k:Nat}{A:Option Addr}{F:Nat→Nat→Rat}{w:World}(h:Mq q w r c A n d k F)(hk0:1≤k)(hk:k≤1073741824):Calls Tryz.prog 25 #[.agg #[.int .i64 (r:Int),.int .i64 (c:Int),.slice A n d]] w (RetK (kT (kMw w.heap.size c r k fun i j=>F j i) (.k (.int .i64 0))) w):=by
 have h1:=h.fmd;have hr:=h.hr;have hc:=h.hc;obtain⟨w1,hw1,b1,b2,z1,s1⟩:=boxes2 w 24 24 [.int .i64 (r:Int),.int .i64 (c:Int),.slice A n d] [.int .i64 0,.int .i64 0,.slice none 0 0];have HW:=Lib.hid hw1;have HZ:=Lib.hid z1;have h1_:=Lib.hid h1;clear hw1 z1 h1 s1;go_enter Tryz.func25,Tryz.ntmps25
 go_upto_region 1 with fail
 rw[HW.out];refine Run.start 3 ?_;refine .ld .o (ldQm b1 0) ?_;refine .c1 (.i 0) (x:=.k (.bool true)) (by rintro u w2 hB rfl;exact b_m h1_.out w2) ?_;refine .nt (.i 1) ?_;refine .donep [some 4,some 5,some 6] ?_;intro w2 B2;change Shut (wpList _ _ _ [] _ _);refine⟨?_⟩;simp only[Act.put,lS,lZ,lC];replace b1:=b1.below B2;replace b2:=b2.below B2;have HZ2:=Lib.hid (zup HZ.out B2);clear B2 HZ;go_upto_region 3 with fail
 refine Run.start 6 ?_;refine .fa .o (fQ1 1) ?_;refine .ld (.i 0) (ldInt b1 1) ?_;refine .fa .o (fQ0 0) ?_;refine .ld (.i 2) (ldInt b1 0) ?_;refine .fn [] [.o] [] [_] (trivial) (⟨rfl,trivial⟩) ?_;refine .c3 (.i 1) (.i 3) (.i 4) (x:=kMw w.heap.size c r k fun i j=>F j i) (by rintro u v x_ w4 hB rfl rfl rfl;exact(i_u hc hr (by kernel_rfl) (fun i j W hi hj hW=>by rw[argsO1];exact tr1_q ((b1.below hB).below hW) (h.below (zup (zup HZ2.out hB) hW)) hi hj hk0 hk)).mono fun e_ w' h=>h.mono fun v w2 ⟨A,n,d,e,h1⟩=>⟨A,n,d,e,h1.low (zup HZ2.out hB).size⟩) ?_;refine .donep [some 8,some 9,some 10,some 11,some 12,some 13] ?_;intro w3 B3;rintro v ⟨A_,n_,d_,rfl,hM⟩;change Shut (wpList _ _ _ [_,_] _ _);refine⟨?_⟩;simp only[Act.put,lS,lZ,lC];have P:=Lib.hid (retMwE hM (b2.below B3) (by omega) (zup HZ2.out B3));unfold mput at P;obtain⟨i0,i1,i2,i3,i4,i5,i6⟩:=(b2.below B3).m3;clear hM
 go_wp2_with fail
 exact bodyPost_ret (v:=.tuple #[.agg #[.int .i64 (c:Int),.int .i64 (r:Int),.slice A_ n_ d_],.int .i64 0]) (by simp[results,Tryz.results25,go_sem,i0,i1,i2]) rfl P.out
end
section
namespace RT
attribute [local instance] rdvd
open DT (Inc)
variable {α:Type}[CR α]
variable[Fld α]
attribute [local simp] a_d a_h a_o a_g a_f a_l a_m
variable {R C:Nat}{M N H K A:Mx α}{u v:Nat→α}{p q:List Nat}
theorem RedOf.rk (h:RedOf R C A M p):rk R C A=p.length:=by unfold RT.rk;rw[h.piv]
def sol (C:Nat)(p:List Nat)(M:Mx α):Mx α:=fun c k=>sumN p.length fun r=>(if p.getD r 0=c then 1 else 0)*M r (C+k)
theorem RedOf.sol {S:Nat}{B:Mx α}(h:RedOf R (C+S) (RT.bsd C A B) M p)(hp:∀r,r<p.length→p.getD r 0<C){i k:Nat}(hi:i<R)(hk:k<S):mul C A (RT.sol C p M) i k=B i k:=by
 have h3:=h.hang hi (j:=C+k) (by omega);rw[bsd_r]at h3;rw[h3];unfold mul RT.sol;rw[i_i (f:=fun r=>p.getD r 0) ⟨h.shape.inc.up,hp⟩ (A i) fun r=>M r (C+k)];exact sum_ext fun r hr=>by rw[t_f i (hp r hr)]
theorem RedOf.more {S:Nat}{B:Mx α}(h:RedOf R (C+S) (RT.bsd C A B) M p)(hp:¬∀r,r<p.length→p.getD r 0<C):RT.rk R C A<RT.rk (C+S) R (RT.stk C (fun i j=>A j i) fun i j=>B j i):=by
 have e:(RT.stk C (fun i j=>A j i) fun i j=>B j i)=fun i j=>RT.bsd C A B j i:=rfl;rw[e,rk_T (R:=R) (C:=C+S) (M:=RT.bsd C A B),h.rk];obtain⟨l,h1,h2⟩:=h.bsd;have h3:p.length≠RT.rk R C A:=fun h4=>hp (h.rk_bsd.mpr h4);have h4:RT.rk R C A≤p.length:=by unfold RT.rk;rw[h1,List.length_append];omega
 omega
end RT
end
end Go.Proofs.YtkgghhklbbfdiaaGreat
section
namespace Go.Proofs.YtkgghhklbbfdiaaGreat.DT
section
variable {R C k:Nat}{F G M:Mx}{s:Bool}{ps:List Nat}{h:Int}
end
end Go.Proofs.YtkgghhklbbfdiaaGreat.DT
namespace Go.Proofs.YtkgghhklbbfdiaaGreat.RT
open DT (Red Cols)
attribute [local simp] a_d a_h a_o a_g a_f a_l a_m
section
variable {α:Type}[CR α][Fld α]{R C:Nat}{M A:Mx α}{p:List Nat}
theorem no_more {S:Nat}{B:Mx α}(hn:∀X:Mx α,¬∀i k,i<R→k<S→mul C A X i k=B i k):rk R C A<rk (C+S) R (stk C (fun i j=>A j i) fun i j=>B j i):=by
 obtain⟨M,p,h⟩:=ex_red R (C+S) (bsd C A B);exact h.more fun hp=>hn _ fun i k hi hk=>h.sol hp hi hk
end
section
variable {R C S C':Nat}{F G M:DT.Mx}{s:Bool}{ps:List Nat}{h:Int}{X:Nat→Nat→Int}{A B:Mx Rat}{c d:Nat→Rat}
end
end Go.Proofs.YtkgghhklbbfdiaaGreat.RT
end
namespace Go.Proofs.YtkgghhklbbfdiaaGreat
section
open Go.RowKit
theorem r_3 {q q':Bool}{r c n d k n' d' k':Nat}{A A':Option Addr}{F G:Nat→Nat→Rat}{w:World}(ha:Mq q w r c A n d k F)(hb:Mq q' w r c A' n' d' k' G)(hF:∀i j,i<r→j<c→F i j=G i j)(hk:max 1 (max k k')≤1073741824):Calls Tryz.prog 21 #[.agg #[.int .i64 (r:Int),.int .i64 (c:Int),.slice A n d],.agg #[.int .i64 (r:Int),.int .i64 (c:Int),.slice A' n' d']] w (RetK (.k (.bool true)) w):=by
 have hn:=ha.len;have hn':=hb.len;obtain rfl:n=n':=by omega
 clear hn';have hnd:=ha.ql.le;have hdm:=ha.ql.cap;have HX:=Lib.hid ha.ql;have hb2:=hb.congr fun i j hi hj=>(hF i j hi hj).symm;have HY:=Lib.hid hb2.ql;obtain⟨w1,hw1,b2,b3,z1,s1⟩:=boxes2 w 24 24 [.int .i64 (r:Int),.int .i64 (c:Int),.slice A n d] [.int .i64 (r:Int),.int .i64 (c:Int),.slice A' n d'];have HW:=Lib.hid hw1;have HZ:=Lib.hid z1;clear hw1 z1 ha hb hb2 hF hn;go_enter Tryz.func21,Tryz.ntmps21
 go_upto_region 1 with fail
 rw[HW.out];refine Run.start 12 ?_;refine .fa .o (fQ0 0) ?_;refine .ld (.i 0) (ldInt b2 0) ?_;refine .fa .o (fQ0 0) ?_;refine .ld (.i 2) (ldInt b3 0) ?_;refine .two (.i 1) (.i 3) (opNe (by simp:decide ((r:Int)≠(r:Int))=false)) ?_;refine .mv (.i 4) ?_;refine .fa .o (fQ1 1) ?_;refine .ld (.i 6) (ldInt b2 1) ?_;refine .fa .o (fQ1 1) ?_;refine .ld (.i 8) (ldInt b3 1) ?_;refine .two (.i 7) (.i 9) (opNe (by simp:decide ((c:Int)≠(c:Int))=false)) ?_;refine .pk (.i 5) (.i 10) false ?_;refine .donep [some 6,some 7,some 8,some 9,some 10,some 11,some 12,some 13,some 14,some 15,some 16,some 17] ?_;intro w2 B2;change Shut (wpList _ _ _ [] _ _);refine⟨?_⟩;simp only[Act.put,lS,lZ,lC];have HB:Hid (Below w.heap.size w w2∧Bx w2 (w.heap.size) 24 [.int .i64 (r:Int),.int .i64 (c:Int),.slice A n d]∧Bx w2 (w.heap.size+1) 24 [.int .i64 (r:Int),.int .i64 (c:Int),.slice A' n d']):=Lib.hid ⟨zup HZ.out B2,b2.below B2,b3.below B2⟩;clear b2 b3 HW HZ s1 B2
 go_wp2_with fail
 go_loopw [5] (fun s5 wr=>∃j:Nat,s5= .int .i64 (j:Int)∧j≤n∧Hid (Below w.heap.size w wr∧Bx wr (w.heap.size) 24 [.int .i64 (r:Int),.int .i64 (c:Int),.slice A n d]∧Bx wr (w.heap.size+1) 24 [.int .i64 (r:Int),.int .i64 (c:Int),.slice A' n d'])) (fun s5 _=>n - (intOf s5).toNat)
 case atStart=>exact⟨0,rfl,Nat.zero_le _,HB⟩
 case round=>
  clear HB;obtain⟨j,rfl,hj,HB⟩:=hrel;obtain⟨B0,b2,b3⟩:=HB.out;clear HB;have i2:=b2.cell 2;simp only[List.getElem?_cons_succ,List.getElem?_cons_zero]at i2;by_cases hlt:j<n
  ·have u2:(j:Int)<(n:Int):=by omega
   obtain⟨ad,rfl,hab,hA⟩:=(HX.out.below B0).at hlt;obtain⟨s_,A_,n_,c_,t_,B_,m_,d_,e0,e1,e2,e3,ze,hk1,hk2⟩:=hA;obtain⟨ad',rfl,hab',hA'⟩:=(HY.out.below B0).at hlt;obtain⟨s',A1,n1,c1,t',B1,m1,d1,e0',e1',e2',e3',ze',hk1',hk2'⟩:=hA';go_upto_region 6 with fail
   clear i2;refine Run.start 12 ?_;refine .fa .o (fQ2 2) ?_;refine .ld (.i 0) (ldQl b2 2) ?_;refine .mv .o ?_;refine .two (.i 1) (.i 2) (opIxQ hlt) ?_;refine .ld (.i 3) (ldQ (by rw[a_b];exact hab) e0 e1 e2 e3) ?_;refine .fa .o (fQ2 2) ?_;refine .ld (.i 5) (ldQl b3 2) ?_;refine .mv .o ?_;refine .two (.i 6) (.i 7) (opIxQ hlt) ?_;refine .ld (.i 8) (ldQ (by rw[a_b];exact hab') e0' e1' e2' e3') ?_;refine .c2 (.i 4) (.i 9) (x:=.k (.int .i64 0)) (by rintro u v w2 hB rfl rfl;exact g_y (max 1 (max k k')) ((ze.1.is hk1 hk2).below' hB) ((ze'.1.is hk1' hk2').below' hB) (by omega) (by omega) (by omega) hk (rsg_sub_zero.2 rfl)) ?_;refine .two (.i 10) .o (opNe (by decide:decide ((0:Int)≠0)=false)) ?_;refine .done [some 25,some 26,some 27,some 28,some 29,some 30,some 31,some 32,some 33,some 34,some 35,some 36] ?_;intro w3 B3;change Shut (wpList _ _ _ [] _ _);refine⟨?_⟩;simp only[Act.put,lS,lZ,lC];have HN2:Hid (Below w.heap.size w w3∧Bx w3 (w.heap.size) 24 [.int .i64 (r:Int),.int .i64 (c:Int),.slice (some ad) n d]∧Bx w3 (w.heap.size+1) 24 [.int .i64 (r:Int),.int .i64 (c:Int),.slice (some ad') n d']):=Lib.hid ⟨zup B0 B3,b2.below B3,b3.below B3⟩;clear b2 b3 B0 B3 e0 e1 e2 e3 ze e0' e1' e2' e3' ze'
   go_wp2_with fail
   go_roundw
   case rel=>exact⟨j+1,by go_num,by omega,HN2⟩
   case measure=>first|(simp[intOf];done)|(simp[intOf];omega)
  ·obtain rfl:j=n:=by omega
   have u2:¬(j:Int)<(j:Int):=by omega
   go_wp2_with fail
   exact bodyPost_ret (v:=.bool true) (by simp[results,Tryz.results21,go_sem]) rfl (a_9 rfl B0)
end
section
open Go.RowKit Go.Shelf
theorem v_e {r c r' c':Int}{n d n' d':Nat}{A A':Option Addr}{w:World}(h:(fmd r c n&&fmd r' c' n'&&decide (r=r'))=false):Calls Tryz.prog 24 #[.agg #[.int .i64 r,.int .i64 c,.slice A n d],.agg #[.int .i64 r',.int .i64 c',.slice A' n' d']] w (RetK (noM 2) w):=by
 obtain⟨t1,h1⟩:∃t,(fmd r c n&&fmd r' c' n')=t:=⟨_,rfl⟩;obtain⟨t2,h2⟩:∃t,decide (r≠r')=t:=⟨_,rfl⟩;have h3:(t1&& !t2)=false:=by rw[←h1,←h2];simpa using h
 obtain⟨w1,hw1,b2,b3,b4,z1,s1⟩:=boxes3 w 24 24 24 [.int .i64 r,.int .i64 c,.slice A n d] [.int .i64 r',.int .i64 c',.slice A' n' d'] [.int .i64 0,.int .i64 0,.slice none 0 0];have HW:=Lib.hid hw1;have HZ:=Lib.hid z1;have h1_:=Lib.hid h1;have h2_:=Lib.hid h2;have h3_:=Lib.hid h3;clear hw1 z1 h1 h2 h3 s1 h;go_enter Tryz.func24,Tryz.ntmps24
 go_upto_region 1 with fail
 rw[HW.out];cases t1
 ·skip
  refine Run.start 11 ?_;refine .ld .o (ldQm b2 0) ?_;refine .ld .o (ldQm b3 0) ?_;refine .c2 (.i 0) (.i 1) (x:=.k (.bool false)) (by rintro u v w2 hB rfl rfl;exact g_z h1_.out w2) ?_;refine .nf (.i 2) ?_;refine .mv (.i 3) ?_;refine .no ?_;refine .no ?_;refine .no ?_;refine .no ?_;refine .no ?_;refine .pk (.i 4) .o true ?_;refine .donep [some 11,some 12,some 13,some 14,some 15,some 16,some 17,some 18,some 19,some 20,some 21] ?_;intro w2 B2;change Shut (wpList _ _ _ [] _ _);refine⟨?_⟩;simp only[Act.put,lS,lZ,lC];have P:=Lib.hid (retNoT (e':=2) (b4.below B2) (by omega) (zup HZ.out B2));unfold mput at P;obtain⟨i0,i1,i2,i3,i4,i5,i6⟩:=(b4.below B2).m3
  go_wp2_with fail
  exact bodyPost_ret (v:=.tuple #[.agg #[.int .i64 0,.int .i64 0,.slice none 0 0],.int .i64 2]) (by simp[results,Tryz.results24,go_sem,i0,i1,i2]) rfl P.out
 ·obtain rfl:t2=true:=by have:=h3_.out;simpa using this
  refine Run.start 11 ?_;refine .ld .o (ldQm b2 0) ?_;refine .ld .o (ldQm b3 0) ?_;refine .c2 (.i 0) (.i 1) (x:=.k (.bool true)) (by rintro u v w2 hB rfl rfl;exact g_z h1_.out w2) ?_;refine .nt (.i 2) ?_;refine .mv (.i 3) ?_;refine .fa .o (fQ0 0) ?_;refine .ld (.i 5) (ldInt b2 0) ?_;refine .fa .o (fQ0 0) ?_;refine .ld (.i 7) (ldInt b3 0) ?_;refine .two (.i 6) (.i 8) (opNe h2_.out) ?_;refine .pk (.i 4) (.i 9) false ?_;refine .donep [some 11,some 12,some 13,some 14,some 15,some 16,some 17,some 18,some 19,some 20,some 21] ?_;intro w2 B2;change Shut (wpList _ _ _ [] _ _);refine⟨?_⟩;simp only[Act.put,lS,lZ,lC];have P:=Lib.hid (retNoT (e':=2) (b4.below B2) (by omega) (zup HZ.out B2));unfold mput at P;obtain⟨i0,i1,i2,i3,i4,i5,i6⟩:=(b4.below B2).m3
  go_wp2_with fail
  exact bodyPost_ret (v:=.tuple #[.agg #[.int .i64 0,.int .i64 0,.slice none 0 0],.int .i64 2]) (by simp[results,Tryz.results24,go_sem,i0,i1,i2]) rfl P.out
end
end Go.Proofs.YtkgghhklbbfdiaaGreat
