/- PmRQmatRows -/
import Derived.Test.YtkgghhklbbfdiaaGreatPm35
import Derived.RegionTactic
import Derived.BigRegion
set_option linter.unusedVariables false
set_option linter.unusedSimpArgs false
set_option linter.unusedSectionVars false
set_option maxRecDepth 100000
set_option maxHeartbeats 16000000
section
namespace Go.Proofs.YtkgghhklbbfdiaaGreat
open Go.RowKit
section
variable {u v:Value}{x y:Rat}{n m K:Nat}{w:World}
end
section
variable {q:Bool}{w w':World}{r c n d k k':Nat}{A:Option Addr}{F G:Nat→Nat→Rat}
theorem Mq.congr (h:Mq q w r c A n d k F)(e:∀i j,i<r→j<c→F i j=G i j):Mq q w r c A n d k G:=⟨by rw[←b_l e];exact h.ql,h.hr,h.hc⟩
end
end Go.Proofs.YtkgghhklbbfdiaaGreat
end
section
namespace Go.Proofs.YtkgghhklbbfdiaaGreat.RT
open DT (Inc sw sortP skip)
variable {α:Type}[CR α]
variable[Dom α]
attribute [local simp] a_d a_h a_o a_g a_f a_l a_m
variable {R C:Nat}{M N H K:Mx α}{u v:Nat→α}
attribute [local instance] rdvd
theorem Lat.mul {R S C:Nat}(X M:Mx α){i:Nat}:Lat R C M (mul R X M i):=⟨X i,fun j _=>rfl⟩
theorem mul_assoc' (n m:Nat)(A B C:Mx α):mul m (mul n A B) C=mul n A (mul m B C):=by
 funext i j
 unfold mul;rw[sum_ext (g:=fun k=>sumN n fun l=>A i l*(B l k*C k j)) fun k _=>by rw[←sum_mul'];exact sum_ext fun l _=>by grind];rw[d_e];exact sum_ext fun l _=>sum_mul _ _ _
theorem one_mul' {n:Nat}(M:Mx α){i:Nat}(hi:i<n)(j:Nat):mul n one M i j=M i j:=by
 unfold mul;rw[a_s hi fun k _ hne=>by rw[b_a fun e=>hne e.symm];simp,a_q,a_g]
theorem l_k {n:Nat}{A A' B B':Mx α}{i j:Nat}(h:∀k,k<n→A i k=A' i k)(h2:∀k,k<n→B k j=B' k j):mul n A B i j=mul n A' B' i j:=
 sum_ext fun k hk=>by rw[h k hk,h2 k hk]
theorem unim_lat {R C:Nat}{U:Mx α}(h:det R U∣1)(M:Mx α)(v:Nat→α):Lat R C (mul R U M) v↔Lat R C M v:=by
 obtain⟨V,h1,h2⟩:=unim h;refine⟨Lat.within fun i _=>Lat.mul (S:=R) U M,Lat.within fun i hi=>?_⟩;have e:Lat R C (mul R U M) (mul R V (mul R U M) i):=Lat.mul (S:=R) V _;refine e.ext fun j _=>?_;rw[←mul_assoc',l_k (A':=one) (B':=M) (fun k hk=>h1 i k hi hk) fun _ _=>rfl,one_mul' M hi]
end Go.Proofs.YtkgghhklbbfdiaaGreat.RT
end
section
namespace Go.Proofs.YtkgghhklbbfdiaaGreat.RT
attribute [local instance] rdvd
open DT (Inc)
variable {α:Type}[CR α]
variable[Fld α]
attribute [local simp] a_d a_h a_o a_g a_f a_l a_m
variable {R C:Nat}{M N H K A:Mx α}{u v:Nat→α}{p q:List Nat}
theorem g_k {n:Nat}{A X:Mx α}(h:∀i j,i<n→j<n→mul n A X i j=one i j):det n A∣1:=⟨det n X,by rw[←d_l,det_ext h,det_one]⟩
theorem Sp.mul {U:Mx α}(h:det R U∣1):Sp R R C (mul R U A) A:=fun v=>unim_lat h A v
end Go.Proofs.YtkgghhklbbfdiaaGreat.RT
end
section
namespace Go.Proofs.YtkgghhklbbfdiaaGreat
open Go.RowKit
theorem IsQv.below' {x:Rat}{k:Nat}{v:Value}{w w':World}(h:IsQv x k v w)(hb:Below w.heap.size w w'):IsQv x k v w':=o_z x k _ _ _ h hb
theorem r_3 {q q':Bool}{r c n d k n' d' k':Nat}{A A':Option Addr}{F G:Nat→Nat→Rat}{w:World}(ha:Mq q w r c A n d k F)(hb:Mq q' w r c A' n' d' k' G)(hF:∀i j,i<r→j<c→F i j=G i j)(hk:max 1 (max k k')≤1073741824):Calls Tryz.prog 21 #[.agg #[.int .i64 (r:Int),.int .i64 (c:Int),.slice A n d],.agg #[.int .i64 (r:Int),.int .i64 (c:Int),.slice A' n' d']] w (RetK (.k (.bool true)) w):=by
 have hn:=ha.len;have hn':=hb.len;obtain rfl:n=n':=by omega
 clear hn';have hnd:=ha.ql.le;have hdm:=ha.ql.cap;have HX:=Lib.hid ha.ql;have hb2:=hb.congr fun i j hi hj=>(hF i j hi hj).symm;have HY:=Lib.hid hb2.ql;obtain⟨w1,hw1,b2,b3,z1,s1⟩:=boxes2 w 24 24 [.int .i64 (r:Int),.int .i64 (c:Int),.slice A n d] [.int .i64 (r:Int),.int .i64 (c:Int),.slice A' n d'];have HW:=Lib.hid hw1;have HZ:=Lib.hid z1;clear hw1 z1 ha hb hb2 hF hn;go_enter Tryz.func21,Tryz.ntmps21
 go_upto_region 1 with fail
 rw[HW.out];refine Run.start 12 ?_;refine .fa .o (fQ0 0) ?_;refine .ld (.i 0) (ldInt b2 0) ?_;refine .fa .o (fQ0 0) ?_;refine .ld (.i 2) (ldInt b3 0) ?_;refine .two (.i 1) (.i 3) (opNe (by simp:decide ((r:Int)≠(r:Int))=false)) ?_;refine .mv (.i 4) ?_;refine .fa .o (fQ1 1) ?_;refine .ld (.i 6) (ldInt b2 1) ?_;refine .fa .o (fQ1 1) ?_;refine .ld (.i 8) (ldInt b3 1) ?_;refine .two (.i 7) (.i 9) (opNe (by simp:decide ((c:Int)≠(c:Int))=false)) ?_;refine .pk (.i 5) (.i 10) false ?_;refine .donep [some 6,some 7,some 8,some 9,some 10,some 11,some 12,some 13,some 14,some 15,some 16,some 17] ?_;intro w2 B2;change Shut (wpList _ _ _ [] _ _);refine⟨?_⟩;simp only[Act.put,lS,lZ,lC];have HB:Hid (Below w.heap.size w w2∧Bx w2 (w.heap.size) 24 [.int .i64 (r:Int),.int .i64 (c:Int),.slice A n d]∧Bx w2 (w.heap.size+1) 24 [.int .i64 (r:Int),.int .i64 (c:Int),.slice A' n d']):=Lib.hid ⟨zup HZ.out B2,b2.below B2,b3.below B2⟩;clear b2 b3 HW HZ s1 B2
 go_wp2_with fail
 go_loopw [5] (fun s5 wr=>∃j:Nat,s5= .int .i64 (j:Int)∧j≤n∧Hid (Below w.heap.size w wr∧Bx wr (w.heap.size) 24 [.int .i64 (r:Int),.int .i64 (c:Int),.slice A n d]∧Bx wr (w.heap.size+1) 24 [.int .i64 (r:Int),.int .i64 (c:Int),.slice A' n d'])) (fun s5 _=>n - (intOf s5).toNat)
 case atStart=>exact⟨0,rfl,Nat.zero_le _,HB⟩
 case round=>
  clear HB;obtain⟨j,rfl,hj,HB⟩:=hrel;obtain⟨B0,b2,b3⟩:=HB.out;clear HB;have i2:=b2.cell 2;simp only[List.getElem?_cons_succ,List.getElem?_cons_zero]at i2;by_cases hlt:j<n
  ·have u2:(j:Int)<(n:Int):=by omega
   obtain⟨ad,rfl,hab,hA⟩:=(HX.out.below B0).at hlt;obtain⟨s_,A_,n_,c_,t_,B_,m_,d_,e0,e1,e2,e3,ze,hk1,hk2⟩:=hA;obtain⟨ad',rfl,hab',hA'⟩:=(HY.out.below B0).at hlt;obtain⟨s',A1,n1,c1,t',B1,m1,d1,e0',e1',e2',e3',ze',hk1',hk2'⟩:=hA';go_upto_region 6 with fail
   clear i2;refine Run.start 12 ?_;refine .fa .o (fQ2 2) ?_;refine .ld (.i 0) (ldQl b2 2) ?_;refine .mv .o ?_;refine .two (.i 1) (.i 2) (opIxQ hlt) ?_;refine .ld (.i 3) (ldQ (by rw[a_b];exact hab) e0 e1 e2 e3) ?_;refine .fa .o (fQ2 2) ?_;refine .ld (.i 5) (ldQl b3 2) ?_;refine .mv .o ?_;refine .two (.i 6) (.i 7) (opIxQ hlt) ?_;refine .ld (.i 8) (ldQ (by rw[a_b];exact hab') e0' e1' e2' e3') ?_;refine .c2 (.i 4) (.i 9) (x:=.k (.int .i64 0)) (by rintro u v w2 hB rfl rfl;exact g_y (max 1 (max k k')) ((ze.1.is hk1 hk2).below' hB) ((ze'.1.is hk1' hk2').below' hB) (by omega) (by omega) (by omega) hk (rsg_sub_zero.2 rfl)) ?_;refine .two (.i 10) .o (opNe (by decide:decide ((0:Int)≠0)=false)) ?_;refine .done [some 25,some 26,some 27,some 28,some 29,some 30,some 31,some 32,some 33,some 34,some 35,some 36] ?_;intro w3 B3;change Shut (wpList _ _ _ [] _ _);refine⟨?_⟩;simp only[Act.put,lS,lZ,lC];have HN2:Hid (Below w.heap.size w w3∧Bx w3 (w.heap.size) 24 [.int .i64 (r:Int),.int .i64 (c:Int),.slice (some ad) n d]∧Bx w3 (w.heap.size+1) 24 [.int .i64 (r:Int),.int .i64 (c:Int),.slice (some ad') n d']):=Lib.hid ⟨zup B0 B3,b2.below B3,b3.below B3⟩;clear b2 b3 B0 B3 e0 e1 e2 e3 ze e0' e1' e2' e3' ze'
   go_wp2_with fail
   go_roundw
   case rel=>exact⟨j+1,by go_num,by omega,HN2⟩
   case measure=>first|(simp[intOf];done)|(simp[intOf];omega)
  ·obtain rfl:j=n:=by omega
   have u2:¬(j:Int)<(j:Int):=by omega
   go_wp2_with fail
   exact bodyPost_ret (v:=.bool true) (by simp[results,Tryz.results21,go_sem]) rfl (a_9 rfl B0)
end Go.Proofs.YtkgghhklbbfdiaaGreat
end
section
namespace Go.Proofs.YtkgghhklbbfdiaaGreat
open Go.RowKit
theorem v_g {r c:Int}{n d:Nat}{A:Option Addr}{w:World}(h1:fmd r c n=false):Calls Tryz.prog 12 #[.agg #[.int .i64 r,.int .i64 c,.slice A n d]] w (RetK (.k (.tuple #[.agg #[.int .i64 0,.int .i64 0,.slice none 0 0],.slice none 0 0,.int .i64 2])) w):=by
 obtain⟨w1,hw1,b1,b2,z1,s1⟩:=boxes2 w 24 24 [.int .i64 r,.int .i64 c,.slice A n d] [.int .i64 0,.int .i64 0,.slice none 0 0];have HW:=Lib.hid hw1;have HZ:=Lib.hid z1;have h1_:=Lib.hid h1;clear hw1 z1 h1 s1;go_enter Tryz.func12,Tryz.ntmps12
 go_upto_region 1 with fail
 rw[HW.out];refine Run.start 3 ?_;refine .ld .o (ldQm b1 0) ?_;refine .c1 (.i 0) (x:=.k (.bool false)) (by rintro u w2 hB rfl;exact b_m h1_.out w2) ?_;refine .nf (.i 1) ?_;refine .donep [some 10,some 11,some 12] ?_;intro w2 B2;change Shut (wpList _ _ _ [] _ _);refine⟨?_⟩;simp only[Act.put,lS,lZ,lC];have P:Hid (RetK (.k (.tuple #[.agg #[.int .i64 0,.int .i64 0,.slice none 0 0],.slice none 0 0,.int .i64 2])) w (.returned (.tuple #[.agg #[.int .i64 0,.int .i64 0,.slice none 0 0],.slice none 0 0,.int .i64 2])) (mput w2 (w.heap.size+1) 0 0 none 0 0)):=Lib.hid ⟨_,rfl,rfl,b_u (zup HZ.out B2) (by omega)⟩;unfold mput at P;obtain⟨i0,i1,i2,i3,i4,i5,i6⟩:=(b2.below B2).m3
 go_wp2_with fail
 exact bodyPost_ret (v:=.tuple #[.agg #[.int .i64 0,.int .i64 0,.slice none 0 0],.slice none 0 0,.int .i64 2]) (by simp[results,Tryz.results12,go_sem,i0,i1,i2]) rfl P.out
theorem v_n {r c:Int}{n d:Nat}{A:Option Addr}{w:World}(h:(fmd r c n&&decide (r=c))=false):Calls Tryz.prog 19 #[.agg #[.int .i64 r,.int .i64 c,.slice A n d]] w (RetK (noM 2) w):=by
 obtain⟨t1,h1⟩:∃t,fmd r c n=t:=⟨_,rfl⟩;obtain⟨t2,h2⟩:∃t,decide (r≠c)=t:=⟨_,rfl⟩;have h3:(t1&& !t2)=false:=by rw[←h1,←h2];simpa using h
 obtain⟨w1,hw1,b1,b2,z1,s1⟩:=boxes2 w 24 24 [.int .i64 r,.int .i64 c,.slice A n d] [.int .i64 0,.int .i64 0,.slice none 0 0];have HW:=Lib.hid hw1;have HZ:=Lib.hid z1;have h1_:=Lib.hid h1;have h2_:=Lib.hid h2;have h3_:=Lib.hid h3;clear hw1 z1 h1 h2 h3 s1 h;go_enter Tryz.func19,Tryz.ntmps19
 go_upto_region 1 with fail
 rw[HW.out];cases t1
 ·skip
  refine Run.start 10 ?_;refine .ld .o (ldQm b1 0) ?_;refine .c1 (.i 0) (x:=.k (.bool false)) (by rintro u w2 hB rfl;exact b_m h1_.out w2) ?_;refine .nf (.i 1) ?_;refine .mv (.i 2) ?_;refine .no ?_;refine .no ?_;refine .no ?_;refine .no ?_;refine .no ?_;refine .pk (.i 3) .o true ?_;refine .donep [some 6,some 7,some 8,some 9,some 10,some 11,some 12,some 13,some 14,some 15] ?_;intro w2 B2;change Shut (wpList _ _ _ [] _ _);refine⟨?_⟩;simp only[Act.put,lS,lZ,lC];have P:=Lib.hid (retNoT (e':=2) (b2.below B2) (by omega) (zup HZ.out B2));unfold mput at P;obtain⟨i0,i1,i2,i3,i4,i5,i6⟩:=(b2.below B2).m3
  go_wp2_with fail
  exact bodyPost_ret (v:=.tuple #[.agg #[.int .i64 0,.int .i64 0,.slice none 0 0],.int .i64 2]) (by simp[results,Tryz.results19,go_sem,i0,i1,i2]) rfl P.out
 ·obtain rfl:t2=true:=by have:=h3_.out;simpa using this
  refine Run.start 10 ?_;refine .ld .o (ldQm b1 0) ?_;refine .c1 (.i 0) (x:=.k (.bool true)) (by rintro u w2 hB rfl;exact b_m h1_.out w2) ?_;refine .nt (.i 1) ?_;refine .mv (.i 2) ?_;refine .fa .o (fQ0 0) ?_;refine .ld (.i 4) (ldInt b1 0) ?_;refine .fa .o (fQ1 1) ?_;refine .ld (.i 6) (ldInt b1 1) ?_;refine .two (.i 5) (.i 7) (opNe h2_.out) ?_;refine .pk (.i 3) (.i 8) false ?_;refine .donep [some 6,some 7,some 8,some 9,some 10,some 11,some 12,some 13,some 14,some 15] ?_;intro w2 B2;change Shut (wpList _ _ _ [] _ _);refine⟨?_⟩;simp only[Act.put,lS,lZ,lC];have P:=Lib.hid (retNoT (e':=2) (b2.below B2) (by omega) (zup HZ.out B2));unfold mput at P;obtain⟨i0,i1,i2,i3,i4,i5,i6⟩:=(b2.below B2).m3
  go_wp2_with fail
  exact bodyPost_ret (v:=.tuple #[.agg #[.int .i64 0,.int .i64 0,.slice none 0 0],.int .i64 2]) (by simp[results,Tryz.results19,go_sem,i0,i1,i2]) rfl P.out
end Go.Proofs.YtkgghhklbbfdiaaGreat
end
section
namespace Go.Proofs.YtkgghhklbbfdiaaGreat
open Go.RowKit Go.Shelf
theorem tim_val {n:Nat}{f f':Nat→Rat}:Rat.divInt ((DT.sumN n fun i=>ptn f n i*ptn f' n i)*((abx f n:Int)*(abx f' n:Int))) ((blw f n:Int)*(blw f' n:Int))=RT.sumN n fun i=>f i*f' i:=by
 have e1:∀x y b:Int,Rat.divInt (x*y) b=(x:Rat)*Rat.divInt y b:=fun x y b=>by
  rw[Rat.divInt_eq_div,Rat.divInt_eq_div,Rat.intCast_mul,Rat.div_def,Rat.div_def,Rat.mul_assoc]
 rw[e1,←Rat.divInt_mul_divInt];show _*(pct f n*pct f' n)=_
 rw[RT.g_d,←RT.sum_mul'];refine RT.sum_ext fun i hi=>?_;rw[p_n (f:=f) hi,p_n (f:=f') hi,Rat.intCast_mul];grind
theorem ptimes_q {b b' g g' n k k' kc kc' K na ca nb cb na' ca' nb' cb':Nat}{sa sb sa' sb':Bool}{Aa Ab Aa' Ab':Option Addr}{f f':Nat→Rat}{w:World}(hp:Pt b w g sa Aa na ca sb Ab nb cb n k kc (rw' n (ptn f n)) f)(hq:Pt b' w g' sa' Aa' na' ca' sb' Ab' nb' cb' n k' kc' (rw' n (ptn f' n)) f')(hn:n≤4096)(hK:k+k'+n+kc+kc'+1≤K)(hKb:K≤1073741824):Calls Tryz.prog 70 #[.agg #[.slice (some ⟨g,0,none⟩) n n,.bool sa,.slice Aa na ca,.bool sb,.slice Ab nb cb],.agg #[.slice (some ⟨g',0,none⟩) n n,.bool sa',.slice Aa' na' ca',.bool sb',.slice Ab' nb' cb']] w (RetK (kQ (RT.sumN n fun i=>f i*f' i) K) w):=by
 obtain⟨z1_,-,z2_,hna,z3_,hnb⟩:=hp;obtain⟨y1_,-,y2_,hna',y3_,hnb'⟩:=hq;have HX:=Lib.hid z1_;have HY:=Lib.hid y1_;have HTV:=Lib.hid (tim_val (n:=n) (f:=f) (f':=f'));obtain⟨TV,hTV⟩:∃TV,(RT.sumN n fun i=>f i*f' i)=TV:=⟨_,rfl⟩;rw[hTV]at HTV;rw[hTV];obtain⟨a1,ha1⟩:∃a1,(abx f n:Int)=a1:=⟨_,rfl⟩;obtain⟨a2,ha2⟩:∃a2,(abx f' n:Int)=a2:=⟨_,rfl⟩;obtain⟨l1,hl1⟩:∃l1,(blw f n:Int)=l1:=⟨_,rfl⟩;obtain⟨l2,hl2⟩:∃l2,(blw f' n:Int)=l2:=⟨_,rfl⟩;rw[ha1,ha2,hl1,hl2]at HTV;rw[ha1]at z2_;rw[ha2]at y2_;rw[hl1]at z3_;rw[hl2]at y3_;clear hTV ha1 ha2 hl1 hl2 z1_ y1_;have ez:∀i,i<n→ith (rw' n (ptn f n)) i=ptn f n i:=fun i hi=>e_w hi;have ey:∀i,i<n→ith (rw' n (ptn f' n)) i=ptn f' n i:=fun i hi=>e_w hi;have HEZ:=Lib.hid ez;have HEY:=Lib.hid ey;obtain⟨p,hp⟩:∃p:Nat→Int,(fun i=>ptn f n i)=p:=⟨_,rfl⟩;obtain⟨p',hp'⟩:∃p':Nat→Int,(fun i=>ptn f' n i)=p':=⟨_,rfl⟩;have HP1:Hid (∀i,i<n→ith (rw' n (ptn f n)) i=p i):=Lib.hid fun i hi=>by rw[←hp];exact e_w hi
 have HP2:Hid (∀i,i<n→ith (rw' n (ptn f' n)) i=p' i):=Lib.hid fun i hi=>by rw[←hp'];exact e_w hi
 have HS:Hid (Rat.divInt ((DT.sumN n fun i=>p i*p' i)*(a1*a2)) (l1*l2)=TV):=Lib.hid (by rw[←hp,←hp'];exact HTV.out);clear hp hp' ez ey HEZ HEY HTV;obtain⟨w1,hw1,b2,b3,b4,z1,s1⟩:=boxes3 w 90 90 46 [.slice (some ⟨g,0,none⟩) n n,.bool sa,.slice Aa na ca,.bool sb,.slice Ab nb cb] [.slice (some ⟨g',0,none⟩) n n,.bool sa',.slice Aa' na' ca',.bool sb',.slice Ab' nb' cb'] [.bool false,.slice none 0 0,.bool false,.slice none 0 0];have HW:=Lib.hid hw1;have HZ:=Lib.hid z1;clear hw1 z1 s1;go_enter Tryz.func70,Tryz.ntmps70
 go_upto_region 1 with fail
 rw[HW.out];refine Run.start 2 ?_;refine .run (v:=.agg #[.bool false,.slice none 0 0]) (fun a w _=>by kernel_rfl) ?_;refine .al ?_;refine .donep [some 11,some 5] ?_;intro w2 B2;rintro g5 hg5 hl5 hc5 -;change Shut (wpList _ _ _ [_] _ _);refine⟨?_⟩;simp only[Act.put,lS,lZ,lC];have b5:=zeroZ (T:=0) hc5;have B0:=zup HZ.out B2;have l2_:=b2.lt;have l3_:=b3.lt;have l4_:=b4.lt;replace b2:=b2.below B2;replace b3:=b3.below B2;replace b4:=b4.below B2;clear B2 hc5 HZ HW;obtain⟨w3,hw3⟩:∃x,zput w2 g5 false none 0 0=x:=⟨_,rfl⟩;obtain⟨f1_,f2_,f3_,f4_,f5_⟩:=Ib.entry b5;have hgr_:=c_q w2 g5 false none 0 0;rw[hw3]at hgr_;replace b2:=a_a b2 hgr_ (by omega);replace b3:=a_a b3 hgr_ (by omega);replace b4:=a_a b4 hgr_ (by omega);replace B0:=a_c B0 hgr_ (by omega);replace b5:=b5.zp (s:=false) (A:=none) (n:=0) (c:=0);rw[hw3]at b5;have Hw3:=Lib.hid hw3;unfold zput at Hw3;have hg5w:w.heap.size+1+1<g5:=by omega
 clear hw3 hgr_;go_upto_region 2 with fail
 rw[Hw3.out];clear f1_ f2_ f3_ f4_ f5_ Hw3 hl5 hg5;refine Run.start 4 ?_;refine .fa .o (fV0 0) ?_;refine .ld (.i 0) (ldSl b2 0) ?_;refine .len (.i 1) Tryz.underlying51 ?_;refine .mv .o ?_;refine .donep [some 12,some 13,some 14,some 15] ?_;intro w4 B4;change Shut (wpList _ _ _ [] _ _);refine⟨?_⟩;simp only[Act.put,lS,lZ,lC];have H0:Hid (Below w.heap.size w w4∧Bx w4 w.heap.size 90 [.slice (some ⟨g,0,none⟩) n n,.bool sa,.slice Aa na ca,.bool sb,.slice Ab nb cb]∧Bx w4 (w.heap.size+1) 90 [.slice (some ⟨g',0,none⟩) n n,.bool sa',.slice Aa' na' ca',.bool sb',.slice Ab' nb' cb']∧Bx w4 (w.heap.size+1+1) 46 [.bool false,.slice none 0 0,.bool false,.slice none 0 0]∧∃s A m d,Bx w4 g5 44 [.bool s,.slice A m d]∧Zc w4 s A m d (DT.sumN (0) fun i=>p i*p' i)∧m≤k+k'+(0)):=Lib.hid ⟨zup B0 B4,b2.below B4,b3.below B4,b4.below B4,_,_,_,_,b5.below B4,Zc.nought w4,Nat.zero_le _⟩;clear b2 b3 b4 b5 B0 B4
 go_wp2_with fail
 go_loopw [15] (fun s15 wr=>∃i:Nat,s15= .int .i64 (i:Int)∧i≤n∧Hid (Below w.heap.size w wr∧Bx wr w.heap.size 90 [.slice (some ⟨g,0,none⟩) n n,.bool sa,.slice Aa na ca,.bool sb,.slice Ab nb cb]∧Bx wr (w.heap.size+1) 90 [.slice (some ⟨g',0,none⟩) n n,.bool sa',.slice Aa' na' ca',.bool sb',.slice Ab' nb' cb']∧Bx wr (w.heap.size+1+1) 46 [.bool false,.slice none 0 0,.bool false,.slice none 0 0]∧∃s A m d,Bx wr g5 44 [.bool s,.slice A m d]∧Zc wr s A m d (DT.sumN (i) fun i=>p i*p' i)∧m≤k+k'+(i))) (fun s15 _=>n - (intOf s15).toNat)
 case atStart=>exact⟨0,rfl,Nat.zero_le _,H0⟩
 case round=>
  clear H0;obtain⟨i,rfl,hi,HB⟩:=hrel;obtain⟨B0,b2,b3,b4,s5,A5,n5,d5,b5,hz5,hk5⟩:=HB.out;clear HB;have hs0:=B0.size;have l5:=b5.lt;by_cases hlt:i<n
  ·have u1:(i:Int)<(n:Int):=by omega
   have hcx:=(HX.out.below B0);have hcl:=hcx.lt;obtain⟨sx,Ax,nx,dx,x1,x2,hzx,hkx⟩:=hcx.cells (j:=i) (by rw[b_k];exact hlt);rw[HP1.out i hlt]at hzx;clear hcx;go_upto_region 4 with fail
   refine Run.start 5 ?_;refine .mv .o ?_;refine .two .o .o (opIxB hlt) ?_;refine .ld (.i 1) (ldE (p:=⟨g,i*2,none⟩) hcl x1 x2) ?_;refine .al ?_;refine .mv (.i 0) ?_;refine .donep [some 17,some 18,some 19,some 7,some 6] ?_;intro w5 B5;rintro g7 hg7 hl7 hc7 -;change Shut (wpList _ _ _ [_] _ _);refine⟨?_⟩;simp only[Act.put,lS,lZ,lC];have b7:=zeroZ (T:=0) hc7;have l_b2:=b2.lt;have l_b3:=b3.lt;have l_b4:=b4.lt;have l_b5:=b5.lt;replace B0:=zup B0 B5;replace b2:=b2.below B5;replace b3:=b3.below B5;replace b4:=b4.below B5;replace b5:=b5.below B5;replace hz5:=hz5.below B5;replace hzx:=hzx.below B5;clear B5 hc7 x1 x2;obtain⟨w6,hw6⟩:∃x,zput w5 g7 sx Ax nx dx=x:=⟨_,rfl⟩;obtain⟨f1_,f2_,f3_,f4_,f5_⟩:=Ib.entry b7;replace b2:=b2.zo (g:=g7) (s:=sx) (A:=Ax) (n:=nx) (c:=dx) (by omega);rw[hw6]at b2;replace b3:=b3.zo (g:=g7) (s:=sx) (A:=Ax) (n:=nx) (c:=dx) (by omega);rw[hw6]at b3;replace b4:=b4.zo (g:=g7) (s:=sx) (A:=Ax) (n:=nx) (c:=dx) (by omega);rw[hw6]at b4;replace b5:=b5.zo (g:=g7) (s:=sx) (A:=Ax) (n:=nx) (c:=dx) (by omega);rw[hw6]at b5;replace hz5:=hz5.zp (s':=sx) (A':=Ax) (n':=nx) (c':=dx) b7;rw[hw6]at hz5;replace hzx:=hzx.zp (s':=sx) (A':=Ax) (n':=nx) (c':=dx) b7;rw[hw6]at hzx;replace B0:=b_h (g:=g7) (s:=sx) (A:=Ax) (n:=nx) (c:=dx) B0 (by omega);rw[hw6]at B0;replace b7:=b7.zp (s:=sx) (A:=Ax) (n:=nx) (c:=dx);rw[hw6]at b7;have Hw6:=Lib.hid hw6;unfold zput at Hw6;clear hw6;go_upto_region 5 with fail
   rw[Hw6.out];clear f1_ f2_ f3_ f4_ f5_ Hw6;have hcy:=(HY.out.below B0);have hcl:=hcy.lt;obtain⟨sy,Ay,ny,dy,x1,x2,hzy,hky⟩:=hcy.cells (j:=i) (by rw[b_k];exact hlt);rw[HP2.out i hlt]at hzy;have l7:=b7.lt;have hs6:=B0.size;clear hcy hl7;refine Run.start 6 ?_;refine .fa .o (fV0 0) ?_;refine .ld (.i 0) (ldSl b3 0) ?_;refine .mv .o ?_;refine .two (.i 1) (.i 2) (opIxB hlt) ?_;refine .ld (.i 3) (ldE (p:=⟨g',i*2,none⟩) hcl x1 x2) ?_;refine .al ?_;refine .donep [some 20,some 21,some 22,some 23,some 24,some 8] ?_;intro w7 B7;rintro g8 hg8 hl8 hc8 -;change Shut (wpList _ _ _ [_] _ _);refine⟨?_⟩;simp only[Act.put,lS,lZ,lC];have b8:=zeroZ (T:=0) hc8;replace B0:=zup B0 B7;have l_b2':=b2.lt;have l_b3':=b3.lt;have l_b4':=b4.lt;have l_b5':=b5.lt;have l_b7':=b7.lt;replace b2:=b2.below B7;replace b3:=b3.below B7;replace b4:=b4.below B7;replace b5:=b5.below B7;replace b7:=b7.below B7;replace hz5:=hz5.below B7;replace hzx:=hzx.below B7;replace hzy:=hzy.below B7;clear B7 hc8 x1 x2;obtain⟨w8,hw8⟩:∃x,zput w7 g8 sy Ay ny dy=x:=⟨_,rfl⟩;obtain⟨f1_,f2_,f3_,f4_,f5_⟩:=Ib.entry b8;replace b2:=b2.zo (g:=g8) (s:=sy) (A:=Ay) (n:=ny) (c:=dy) (by omega);rw[hw8]at b2;replace b3:=b3.zo (g:=g8) (s:=sy) (A:=Ay) (n:=ny) (c:=dy) (by omega);rw[hw8]at b3;replace b4:=b4.zo (g:=g8) (s:=sy) (A:=Ay) (n:=ny) (c:=dy) (by omega);rw[hw8]at b4;replace b5:=b5.zo (g:=g8) (s:=sy) (A:=Ay) (n:=ny) (c:=dy) (by omega);rw[hw8]at b5;replace b7:=b7.zo (g:=g8) (s:=sy) (A:=Ay) (n:=ny) (c:=dy) (by omega);rw[hw8]at b7;replace hz5:=hz5.zp (s':=sy) (A':=Ay) (n':=ny) (c':=dy) b8;rw[hw8]at hz5;replace hzx:=hzx.zp (s':=sy) (A':=Ay) (n':=ny) (c':=dy) b8;rw[hw8]at hzx;replace hzy:=hzy.zp (s':=sy) (A':=Ay) (n':=ny) (c':=dy) b8;rw[hw8]at hzy;replace B0:=b_h (g:=g8) (s:=sy) (A:=Ay) (n:=ny) (c:=dy) B0 (by omega);rw[hw8]at B0;replace b8:=b8.zp (s:=sy) (A:=Ay) (n:=ny) (c:=dy);rw[hw8]at b8;have Hw8:=Lib.hid hw8;unfold zput at Hw8;clear hw8;go_upto_region 6 with fail
   rw[Hw8.out];clear f1_ f2_ f3_ f4_ f5_ Hw8;have l8:=b8.lt;have hs8:=B0.size;by_cases hx0:p i=0
   ·have hsx:(p i).sign=0:=by rw[hx0];rfl
    refine Run.start 8 ?_;refine .ld .o (ldZ b7 0) ?_;refine .c1 (.i 0) (x:=.k (.int .i64 ((p i).sign))) (by rintro u w4 hB rfl;exact c_p ⟨_,_,_,_,rfl,(hzx.below hB).zv,hkx⟩ (by omega) rfl) ?_;refine .two (.i 1) .o (opNe (by rw[hsx];decide:decide ((p i).sign≠0)=false)) ?_;refine .mv (.i 2) ?_;refine .no ?_;refine .no ?_;refine .no ?_;refine .pk (.i 3) .o false ?_;refine .donep [some 25,some 26,some 27,some 28,some 29,some 30,some 31,some 32] ?_;intro w9 B9;change Shut (wpList _ _ _ [] _ _);refine⟨?_⟩;simp only[Act.put,lS,lZ,lC];have HN:Hid (Below w.heap.size w w9∧Bx w9 w.heap.size 90 [.slice (some ⟨g,0,none⟩) n n,.bool sa,.slice Aa na ca,.bool sb,.slice Ab nb cb]∧Bx w9 (w.heap.size+1) 90 [.slice (some ⟨g',0,none⟩) n n,.bool sa',.slice Aa' na' ca',.bool sb',.slice Ab' nb' cb']∧Bx w9 (w.heap.size+1+1) 46 [.bool false,.slice none 0 0,.bool false,.slice none 0 0]∧∃s A m d,Bx w9 g5 44 [.bool s,.slice A m d]∧Zc w9 s A m d (DT.sumN (i+1) fun i=>p i*p' i)∧m≤k+k'+(i+1)):=Lib.hid ⟨zup B0 B9,b2.below B9,b3.below B9,b4.below B9,_,_,_,_,b5.below B9,by
     have h:=hz5.below B9;rw[show(DT.sumN (i+1) fun i=>p i*p' i)=DT.sumN i fun i=>p i*p' i by show DT.sumN i (fun i=>p i*p' i)+p i*p' i=_;rw[hx0];omega];exact h,by omega⟩
    clear b2 b3 b4 b5 b7 b8 B0 B9 hz5 hzx hzy
    go_wp2_with fail
    go_roundw
    case rel=>exact⟨i+1,by go_num,by omega,HN⟩
    case measure=>first|(simp[intOf];done)|(simp[intOf];omega)
   ·have hsx:(p i).sign≠0:=fun e=>hx0 (Int.sign_eq_zero_iff_zero.1 e);by_cases hy0:p' i=0
    ·have hsy:(p' i).sign=0:=by rw[hy0];rfl
     refine Run.start 8 ?_;refine .ld .o (ldZ b7 0) ?_;refine .c1 (.i 0) (x:=.k (.int .i64 ((p i).sign))) (by rintro u w4 hB rfl;exact c_p ⟨_,_,_,_,rfl,(hzx.below hB).zv,hkx⟩ (by omega) rfl) ?_;refine .two (.i 1) .o (opNe (decide_eq_true hsx:decide ((p i).sign≠0)=true)) ?_;refine .mv (.i 2) ?_;refine .ld .o (ldZ b8 0) ?_;refine .c1 (.i 4) (x:=.k (.int .i64 ((p' i).sign))) (by rintro u w4 hB rfl;exact c_p ⟨_,_,_,_,rfl,(hzy.below hB).zv,hky⟩ (by omega) rfl) ?_;refine .two (.i 5) .o (opNe (by rw[hsy];decide:decide ((p' i).sign≠0)=false)) ?_;refine .pk (.i 3) (.i 6) true ?_;refine .donep [some 25,some 26,some 27,some 28,some 29,some 30,some 31,some 32] ?_;intro w9 B9;change Shut (wpList _ _ _ [] _ _);refine⟨?_⟩;simp only[Act.put,lS,lZ,lC];have HN:Hid (Below w.heap.size w w9∧Bx w9 w.heap.size 90 [.slice (some ⟨g,0,none⟩) n n,.bool sa,.slice Aa na ca,.bool sb,.slice Ab nb cb]∧Bx w9 (w.heap.size+1) 90 [.slice (some ⟨g',0,none⟩) n n,.bool sa',.slice Aa' na' ca',.bool sb',.slice Ab' nb' cb']∧Bx w9 (w.heap.size+1+1) 46 [.bool false,.slice none 0 0,.bool false,.slice none 0 0]∧∃s A m d,Bx w9 g5 44 [.bool s,.slice A m d]∧Zc w9 s A m d (DT.sumN (i+1) fun i=>p i*p' i)∧m≤k+k'+(i+1)):=Lib.hid ⟨zup B0 B9,b2.below B9,b3.below B9,b4.below B9,_,_,_,_,b5.below B9,by
      have h:=hz5.below B9;rw[show(DT.sumN (i+1) fun i=>p i*p' i)=DT.sumN i fun i=>p i*p' i by show DT.sumN i (fun i=>p i*p' i)+p i*p' i=_;rw[hy0];omega];exact h,by omega⟩
     clear b2 b3 b4 b5 b7 b8 B0 B9 hz5 hzx hzy
     go_wp2_with fail
     go_roundw
     case rel=>exact⟨i+1,by go_num,by omega,HN⟩
     case measure=>first|(simp[intOf];done)|(simp[intOf];omega)
    ·have hsy:(p' i).sign≠0:=fun e=>hy0 (Int.sign_eq_zero_iff_zero.1 e);refine Run.start 8 ?_;refine .ld .o (ldZ b7 0) ?_;refine .c1 (.i 0) (x:=.k (.int .i64 ((p i).sign))) (by rintro u w4 hB rfl;exact c_p ⟨_,_,_,_,rfl,(hzx.below hB).zv,hkx⟩ (by omega) rfl) ?_;refine .two (.i 1) .o (opNe (decide_eq_true hsx:decide ((p i).sign≠0)=true)) ?_;refine .mv (.i 2) ?_;refine .ld .o (ldZ b8 0) ?_;refine .c1 (.i 4) (x:=.k (.int .i64 ((p' i).sign))) (by rintro u w4 hB rfl;exact c_p ⟨_,_,_,_,rfl,(hzy.below hB).zv,hky⟩ (by omega) rfl) ?_;refine .two (.i 5) .o (opNe (decide_eq_true hsy:decide ((p' i).sign≠0)=true)) ?_;refine .pk (.i 3) (.i 6) true ?_;refine .donep [some 25,some 26,some 27,some 28,some 29,some 30,some 31,some 32] ?_;intro w9 B9;change Shut (wpList _ _ _ [] _ _);refine⟨?_⟩;simp only[Act.put,lS,lZ,lC];replace B0:=zup B0 B9;replace b2:=b2.below B9;replace b3:=b3.below B9;replace b4:=b4.below B9;replace b5:=b5.below B9;replace b7:=b7.below B9;replace b8:=b8.below B9;replace hz5:=hz5.below B9;replace hzx:=hzx.below B9;replace hzy:=hzy.below B9;clear B9;go_upto_region 7 with fail
     refine Run.start 5 ?_;refine .ld .o (ldZ b5 0) ?_;refine .ld .o (ldZ b7 0) ?_;refine .ld .o (ldZ b8 0) ?_;refine .c2 (.i 1) (.i 2) (x:=kC (p i*p' i) (k+k')) (by rintro u v w4 hB rfl rfl;exact c_h ⟨_,_,_,_,rfl,(hzx.below hB).zv,hkx⟩ ⟨_,_,_,_,rfl,(hzy.below hB).zv,hky⟩ (by omega) (by omega) (by omega)) ?_;refine .c2 (.i 0) (.i 3) (x:=kC (DT.sumN (i+1) fun i=>p i*p' i) (k+k'+(i+1))) (by rintro u v w4 hB rfl hv;exact x_a ⟨_,_,_,_,rfl,(hz5.below hB).zv,hk5⟩ hv.v (by omega) (by omega) (by omega)) ?_;refine .done [some 33,some 34,some 35,some 36,some 37] ?_;intro w10 B10;rintro v36 -;rintro v ⟨s9,A9,n9,d9,rfl,hz9,hk9⟩;change Shut (wpList _ _ _ [_] _ _);refine⟨?_⟩;simp only[Act.put,lS,lZ,lC];replace B0:=zup B0 B10;replace b2:=b2.below B10;replace b3:=b3.below B10;replace b4:=b4.below B10;replace b5:=b5.below B10;clear B10 hz5 hzx hzy b7 b8;have hs10:=B0.size;have l_2:=b2.lt;have l_3:=b3.lt;have l_4:=b4.lt;obtain⟨w11,hw11⟩:∃x,zput w10 g5 s9 A9 n9 d9=x:=⟨_,rfl⟩;obtain⟨f1_,f2_,f3_,f4_,f5_⟩:=Ib.entry b5;replace b2:=b2.zo (g:=g5) (s:=s9) (A:=A9) (n:=n9) (c:=d9) (by omega);rw[hw11]at b2;replace b3:=b3.zo (g:=g5) (s:=s9) (A:=A9) (n:=n9) (c:=d9) (by omega);rw[hw11]at b3;replace b4:=b4.zo (g:=g5) (s:=s9) (A:=A9) (n:=n9) (c:=d9) (by omega);rw[hw11]at b4;replace hz9:=hz9.zp (s':=s9) (A':=A9) (n':=n9) (c':=d9) b5;rw[hw11]at hz9;replace B0:=b_h (g:=g5) (s:=s9) (A:=A9) (n:=n9) (c:=d9) B0 (by omega);rw[hw11]at B0;replace b5:=b5.zp (s:=s9) (A:=A9) (n:=n9) (c:=d9);rw[hw11]at b5;have Hw11:=Lib.hid hw11;unfold zput at Hw11;clear hw11;have HN:Hid (Below w.heap.size w w11∧Bx w11 w.heap.size 90 [.slice (some ⟨g,0,none⟩) n n,.bool sa,.slice Aa na ca,.bool sb,.slice Ab nb cb]∧Bx w11 (w.heap.size+1) 90 [.slice (some ⟨g',0,none⟩) n n,.bool sa',.slice Aa' na' ca',.bool sb',.slice Ab' nb' cb']∧Bx w11 (w.heap.size+1+1) 46 [.bool false,.slice none 0 0,.bool false,.slice none 0 0]∧∃s A m d,Bx w11 g5 44 [.bool s,.slice A m d]∧Zc w11 s A m d (DT.sumN (i+1) fun i=>p i*p' i)∧m≤k+k'+(i+1)):=Lib.hid ⟨B0,b2,b3,b4,_,_,_,_,b5,hz9,hk9⟩;clear b2 b3 b4 b5 B0 hz9
     go_wp2_with fail
     rw[Hw11.out];clear f1_ f2_ f3_ f4_ f5_ Hw11;go_roundw
     case rel=>exact⟨i+1,by go_num,by omega,HN⟩
     case measure=>first|(simp[intOf];done)|(simp[intOf];omega)
  ·obtain rfl:i=n:=by omega
   have u1:¬(i:Int)<(i:Int):=by omega
   replace z2_:=z2_.below B0;replace z3_:=z3_.below B0;replace y2_:=y2_.below B0;replace y3_:=y3_.below B0;go_upto_region 9 with fail
   refine Run.start 16 ?_;refine .fa .o (fV1 1) ?_;refine .fa (.i 0) (fR0 1) ?_;refine .ld (.i 1) (ldZ b2 1) ?_;refine .fa .o (fV1 1) ?_;refine .fa (.i 3) (fR0 1) ?_;refine .ld (.i 4) (ldZ b3 1) ?_;refine .c2 (.i 2) (.i 5) (x:=kC (a1*a2) (kc+kc')) (by rintro u v w4 hB rfl rfl;exact c_h ⟨_,_,_,_,rfl,(z2_.below hB).zv,hna⟩ ⟨_,_,_,_,rfl,(y2_.below hB).zv,hna'⟩ (by omega) (by omega) (Nat.le_refl _)) ?_;refine .fa .o (fV1 1) ?_;refine .fa (.i 7) (fR1 3) ?_;refine .ld (.i 8) (ldZ b2 3) ?_;refine .fa .o (fV1 1) ?_;refine .fa (.i 10) (fR1 3) ?_;refine .ld (.i 11) (ldZ b3 3) ?_;refine .c2 (.i 9) (.i 12) (x:=kC (l1*l2) (kc+kc')) (by rintro u v w4 hB rfl rfl;exact c_h ⟨_,_,_,_,rfl,(z3_.below hB).zv,hnb⟩ ⟨_,_,_,_,rfl,(y3_.below hB).zv,hnb'⟩ (by omega) (by omega) (Nat.le_refl _)) ?_;refine .al ?_;refine .al ?_;refine .done [some 39,some 40,some 41,some 42,some 43,some 44,some 45,some 46,some 47,some 48,some 49,some 50,some 51,some 52,some 9,some 10] ?_;intro w5 B5;rintro v ⟨s6,A6,n6,d6,rfl,hz6,hk6⟩;rintro v ⟨s7,A7,n7,d7,rfl,hz7,hk7⟩;rintro g9 hg9 hl9 hc9 -;rintro g10 hg10 hl10 hc10 ⟨ne910,-⟩;change Shut (wpList _ _ _ [_,_] _ _);refine⟨?_⟩;simp only[Act.put,lS,lZ,lC];have b9:=zeroZ (T:=0) hc9;have b10:=zeroZ (T:=0) hc10;obtain⟨f1_,f2_,f3_,f4_,f5_⟩:=Ib.entry b9;obtain⟨e1_,e2_,e3_,e4_,e5_⟩:=Ib.entry b10;have l4:=b4.lt;replace B0:=zup B0 B5;replace b4:=b4.below B5;replace b5:=b5.below B5;replace hz5:=hz5.below B5;have hgr9:=c_q w5 g9 s6 A6 n6 d6;have hno9:Wless w5 g9:=b9.now (by simp);replace hz5:=hz5.gro hno9 hgr9;replace hz6:=hz6.gro hno9 hgr9;replace hz7:=hz7.gro hno9 hgr9;replace b4:=a_a b4 hgr9 (by omega);replace b5:=a_a b5 hgr9 (by omega);replace b10:=a_a b10 hgr9 (Ne.symm ne910);replace B0:=a_c B0 hgr9 (by omega);replace b9:=b9.zp (s:=s6) (A:=A6) (n:=n6) (c:=d6);obtain⟨w6,hw6⟩:∃x,zput w5 g9 s6 A6 n6 d6=x:=⟨_,rfl⟩;rw[hw6]at hz5 hz6 hz7 b4 b5 b10 B0 b9;have hgr10:=c_q w6 g10 s7 A7 n7 d7;have hno10:Wless w6 g10:=b10.now (by simp);replace hz5:=hz5.gro hno10 hgr10;replace hz6:=hz6.gro hno10 hgr10;replace hz7:=hz7.gro hno10 hgr10;replace b4:=a_a b4 hgr10 (by omega);replace b5:=a_a b5 hgr10 (by omega);replace b9:=a_a b9 hgr10 ne910;replace B0:=a_c B0 hgr10 (by omega);replace b10:=b10.zp (s:=s7) (A:=A7) (n:=n7) (c:=d7);obtain⟨w7,hw7⟩:∃x,zput w6 g10 s7 A7 n7 d7=x:=⟨_,rfl⟩;rw[hw7]at hz5 hz6 hz7 b4 b5 b9 B0 b10;have ne109:¬g10=g9:=Ne.symm ne910;have ne910':¬g9=g10:=ne910;have Hw6:=Lib.hid hw6;have Hw7:=Lib.hid hw7;unfold zput at Hw6 Hw7;clear hw6 hw7 hgr9 hgr10 hno9 hno10 hc9 hc10 B5 z2_ z3_ y2_ y3_ b2 b3;go_upto_region 10 with fail
   rw[Hw6.out,Hw7.out];clear f1_ f2_ f3_ f4_ f5_ e1_ e2_ e3_ e4_ e5_ Hw6 Hw7;refine Run.start 5 ?_;refine .ld .o (ldZ b5 0) ?_;refine .ld .o (ldZ b9 0) ?_;refine .c2 (.i 0) (.i 1) (x:=kC ((DT.sumN i fun i=>p i*p' i)*(a1*a2)) (k+k'+i+(kc+kc'))) (by rintro u v w4 hB rfl rfl;exact c_h ⟨_,_,_,_,rfl,(hz5.below hB).zv,hk5⟩ ⟨_,_,_,_,rfl,(hz6.below hB).zv,hk6⟩ (by omega) (by omega) (Nat.le_refl _)) ?_;refine .ld .o (ldZ b10 0) ?_;refine .c2 (.i 2) (.i 3) (x:=kQ TV K) (by rintro u v w4 hB hu rfl;rw[←HS.out];exact m_8 K hu.v ⟨_,_,_,_,rfl,(hz7.below hB).zv,hk7⟩ (by omega) (by omega) (by omega) hKb (Nat.le_refl _)) ?_;refine .done [some 53,some 54,some 55,some 56,some 57] ?_;intro w8 B8;rintro v55 -;rintro v ⟨s_,A_,n_,c_,t_,B_,m_,d_,rfl,hz,hk1,hk2⟩;change Shut (wpList _ _ _ [_] _ _);refine⟨?_⟩;simp only[Act.put,lS,lZ,lC];have I:=(b4.below B8).rb;have P:=Lib.hid (retQ hz I (k:=K) hk1 hk2 (by omega) (zup B0 B8));unfold rput at P;obtain⟨i1,i2,i3,i4,i5,i6,i7,i8,i9⟩:=I;clear hz
   go_wp2_with fail
   exact bodyPost_ret (v:=.agg #[.bool s_,.slice A_ n_ c_,.bool t_,.slice B_ m_ d_]) (by simp[results,Tryz.results70,go_sem,i1,i2,i3,i4]) rfl P.out
end Go.Proofs.YtkgghhklbbfdiaaGreat
end
section
namespace Go.Proofs.YtkgghhklbbfdiaaGreat
open Go.RowKit
def blkV (v:Value):Option Nat:=match v with| .slice (some a) _ _=>some a.block|_=>none
section
variable {P:Program}{ops:Array Oper}{Q:Exit→Act→World→Prop}
def LateB (P:Program)(ops:Array Oper)(m:Nat)(a0:Act)(w0:World)(Fs:List FVal)(kx ky i:Nat)(o:Oper):Prop:=
 ∀(a:Act) (w:World),Below w0.heap.size w0 w→(∀t,(List.range m).all (fun k=>slotOf ops k != some t)=true→a.eval (.tmp t)=a0.eval (.tmp t))→
  (∀k d,((predsOf ops i).contains k&&slotOf ops k==some d&&((ops[k]?).bind isAlloc).isNone&&decide (k<m))=true→nthF Fs k (a.eval (.tmp d)) w)→
  ∃(x:Value) (w':World),nthF Fs i x w'∧Below w.heap.size w w'∧(∀g v,w0.heap.size≤g→g<w.heap.size→(execOp a.eval o).run P (w.setCell ⟨g,0,none⟩ v)= .ok (.value x) (w'.setCell ⟨g,0,none⟩ v))∧(i=kx∨i=ky→blkV x=some w.heap.size)
theorem LateAt.b {a0:Act}{w0:World}{m kx ky i:Nat}{Fs:List FVal}{o:Oper}(h:LateAt P ops m a0 w0 Fs i o)(h1:i≠kx)(h2:i≠ky):LateB P ops m a0 w0 Fs kx ky i o:=fun a w k1 k2 k3=>by
 obtain⟨x,w',e1,e2,e3⟩:=h a w k1 k2 k3;exact⟨x,w',e1,e2,e3,fun h=>by rcases h with h|h;exact absurd h h1;exact absurd h h2⟩
def MakeAt (P:Program)(ops:Array Oper)(m:Nat)(a0:Act)(w0:World)(Fs:List FVal)(i:Nat)(o:Oper):Prop:=
 ∀(a:Act) (w:World),Below w0.heap.size w0 w→(∀t,(List.range m).all (fun k=>slotOf ops k != some t)=true→a.eval (.tmp t)=a0.eval (.tmp t))→
  (∀k d,((predsOf ops i).contains k&&slotOf ops k==some d&&((ops[k]?).bind isAlloc).isNone&&decide (k<m))=true→nthF Fs k (a.eval (.tmp d)) w)→
  ∃(v:Value) (w':World),(execOp a.eval o).run P w= .ok (.value v) w'∧nthF Fs i v w'∧Below w.heap.size w w'∧blkV v=some w.heap.size
theorem any_two {a0:Act}{w0:World}(fl:List Nat)(m:Nat)(Fs:List FVal)(Z:TypeId→Obj)
  (hQ:∀c a d v w,Q (.panic c) (a.put d v) w→Q (.panic c) a w)
  (hok:regionOk ops fl m a0.tmps.size=true)
  (ok:TypeId→Bool) (hzl:(allocTs ops m).all ok=true) (hz:∀T,ok T=true→∀w:World,(Instr.alloc T true (.tuple #[])).run P w= .ok (.pointer (some ⟨w.heap.size,0,none⟩)) (w.alloc (Z T)))
  (hg:(List.range m).all (fun k=>((ops[k]?).bind isAlloc).isNone || ((ops[k]?).map (·.guard))==some none)=true)
  (hs:StayAll Fs) (hops:HopAll P ops Q [] m a0 w0 Fs 0 (ops.toList.take m))
  (hcv:∀i,m<i→i<ops.size→covers ops [] i=true)
  {kx ky dx dy:Nat} (late:∀i o,i∈fl→ops[i]? =some o→o.guard=none∧LateB P ops m a0 w0 Fs kx ky i o)
  {ka ke d e:Nat} {om:Oper} {Ta:TypeId} (hom:ops[m]? =some om) (hog:om.guard=none) (hod0:om.dst=none) (hna:¬LetsOut Q) (hka:ka<m) (hke:ke<m) (hska:slotOf ops ka=some d) (hske:slotOf ops ke=some e) (hpa:ka∈predsOf ops m) (hpe:ke∈predsOf ops m) (haA:(ops[ka]?).bind isAlloc=some Ta) (heA:(ops[ke]?).bind isAlloc=none)
  (hst:∀(a:Act) (w:World) (g:Nat),a.eval (.tmp d)= .pointer (some ⟨g,0,none⟩)→w.heap[g]? =some (Z Ta)→nthF Fs ke (a.eval (.tmp e)) w→(execOp a.eval om).run P w= .ok .skip (w.setCell ⟨g,0,none⟩ (a.eval (.tmp e))))
  (G:Nat→Nat→List FVal) (hkx:kx<m) (hky:ky<m) (hxy:kx≠ky) (hdx:slotOf ops kx=some dx) (hdy:slotOf ops ky=some dy) (hxA:(ops[kx]?).bind isAlloc=none) (hyA:(ops[ky]?).bind isAlloc=none)
  (hbx:∀v w,nthF Fs kx v w→∃g,blkV v=some g∧g<w.heap.size) (hby:∀v w,nthF Fs ky v w→∃g,blkV v=some g∧g<w.heap.size)
  (hGo:∀gx gy k,k≠kx→k≠ky→nthF (G gx gy) k=nthF Fs k) (hGx:∀gx gy v w,nthF Fs kx v w→blkV v=some gx→nthF (G gx gy) kx v w) (hGy:∀gx gy v w,nthF Fs ky v w→blkV v=some gy→nthF (G gx gy) ky v w)
  (mk:∀i o,i=kx∨i=ky→ops[i]? =some o→o.guard=none∧MakeAt P ops m a0 w0 Fs i o)
  (hend:∀w gx gy,Below w0.heap.size w0 w→gx≠gy→EndAll P ops Q m w0 Z (G gx gy) w [] 0 (ops.toList.take m) a0):
  wpAny P .any ops Q ops.size (Array.replicate ops.size false) a0 { w0 with drawn:=w0.drawn+1 }:=by
 obtain⟨hm,hsl,htl,hlt,hfl,hnos⟩:=b_7 hok;have hmn:m<ops.size:=(Array.getElem?_eq_some_iff.1 hom).1;have uniq:∀j k x,j<m→k<m→j≠k→slotOf ops j=some x→slotOf ops k≠some x:=fun j k x hj hk hne ej ek=>by
  rcases Nat.lt_or_gt_of_ne hne with h|h
  ·obtain⟨y,e,-,h3⟩:=hsl k hk;rw[ek]at e;cases e;exact h3 j h ej
  ·obtain⟨y,e,-,h3⟩:=hsl j hj;rw[ej]at e;cases e;exact h3 k h ek
 let E:Array Bool→Act→Prop:=fun L a=>L.getD kx false=true→L.getD ky false=true→blkV (a.eval (.tmp dx))≠blkV (a.eval (.tmp dy))
 let J:Array Bool→Act→World→Prop:=fun listed a w=>
  ((∀k,m≤k→listed.getD k false=false)∧Inv ops m a0 w0 Z Fs listed a w∧E listed a)∨
  (∃(L:Array Bool) (wg:World) (g:Nat),L.size=ops.size∧(∀k,k≠m→L.getD k false=listed.getD k false)∧L.getD m false=false∧listed.getD m false=true∧(∀k,m<k→listed.getD k false=false)∧(∀k,k<m→k ∉ fl→listed.getD k false=true)∧listed.getD ka false=true∧listed.getD ke false=true∧(Inv ops m a0 w0 Z Fs L a wg∧E L a)∧a.eval (.tmp d)= .pointer (some ⟨g,0,none⟩)∧w0.heap.size≤g∧g<wg.heap.size∧w=wg.setCell ⟨g,0,none⟩ (a.eval (.tmp e)))∨
  (∃r,m<r∧r≤ops.size∧(∀k,k<ops.size→(listed.getD k false=true↔k<r))∧wpOps P ops Q (List.range' r (ops.size - r)) a w)
 have cls:∀(listed L:Array Bool) (a:Act) (wg:World) (g:Nat),(∀k,k≠m→L.getD k false=listed.getD k false)→(Inv ops m a0 w0 Z Fs L a wg∧E L a)→a.eval (.tmp d)= .pointer (some ⟨g,0,none⟩)→(∀k,k<m→listed.getD k false=true)→wpOps P ops Q (List.range' (m+1) (ops.size - (m+1))) a (wg.setCell ⟨g,0,none⟩ (a.eval (.tmp e))):=fun listed L a wg g hLk ⟨H,hE⟩ hgp hall=>by
  have hL:∀k,k<m→L.getD k false=true:=fun k hk=>by rw[hLk k (by omega)];exact hall k hk
  have fx:=H.facts kx hkx (hL kx hkx) dx hdx;have fy:=H.facts ky hky (hL ky hky) dy hdy;unfold FOf at fx fy;rw[hxA]at fx;rw[hyA]at fy;obtain⟨gx,hgx,-⟩:=hbx _ _ fx;obtain⟨gy,hgy,-⟩:=hby _ _ fy;have hne:gx≠gy:=fun e=>hE (hL kx hkx) (hL ky hky) (by rw[hgx,hgy,e]);have hG:∀k,k<m→L.getD k false=true→∀d,slotOf ops k=some d→FOf w0 Z ops (G gx gy) k (a.eval (.tmp d)) wg:=fun k hk hl d hd=>by
   have h2:=H.facts k hk hl d hd;by_cases e1:k=kx
   ·subst e1;rw[hdx]at hd;cases hd;unfold FOf;rw[hxA];exact hGx gx gy _ _ fx hgx
   ·by_cases e2:k=ky
    ·subst e2;rw[hdy]at hd;cases hd;unfold FOf;rw[hyA];exact hGy gx gy _ _ fy hgy
    ·unfold FOf at h2 ⊢;rw[hGo gx gy k e1 e2];exact h2
  have h1:=i_r (P:=P) (Q:=Q) (Z:=Z) hok (fun w hw=>hend w gx gy hw hne) L a wg ⟨H.size,H.defers,H.off,H.below,hG,H.apart⟩ hL;have fa:=H.facts ka hka (hL ka hka) d hska;have fe:=H.facts ke hke (hL ke hke) e hske;unfold FOf at fa fe;rw[haA]at fa;rw[heA]at fe;obtain⟨g',e1,-,-,e4⟩:=fa;rw[hgp]at e1;injection e1 with e1;injection e1 with e1;injection e1 with e1
  subst e1;have hrun:=hst a wg g hgp e4 fe;rw[show ops.size - m=(ops.size - (m+1))+1 by omega,List.range'_succ,wpOps_cons]at h1;unfold wpOp at h1;rw[hom]at h1;simp only[Region.wanted,hog,if_true]at h1;rcases h1 with h1|h1
  ·unfold Oper.wp at h1;rw[hrun,Oper.upon_skip,hod0]at h1;exact h1
  ·exact absurd h1.2 hna
 refine g_g J hnos hQ ?_ ?_ _ _ _ _ ?_ (by simp) (fun i hi=>?_) (.inl ⟨fun k _=>?_, ?_,fun h=>?_⟩)
 ·
  intro listed a w hsz hd hj;have hto:∀i o,i<m→ops[i]? =some o→(ops.toList.take m)[i]? =some o:=fun i o him ho=>by
   rw[List.getElem?_take_of_lt him];simpa using ho
  refine .inr fun i hi=>?_;obtain⟨hu,hin,hpre⟩:=b_n hi;have keepE:∀(L0:Array Bool) (x:Value) (d':Nat),E L0 a→i<m→i≠kx→i≠ky→slotOf ops i=some d'→E (L0.setIfInBounds i true) (a.put (some d') x):=fun L0 x d' h him h1 h2 hs e1 e2=>by
   rw[g_s L0 (Ne.symm h1)]at e1;rw[g_s L0 (Ne.symm h2)]at e2;rw[d_j fun e=>uniq i kx _ him hkx h1 hs (by rw[e];exact hdx),d_j fun e=>uniq i ky _ him hky h2 hs (by rw[e];exact hdy)];exact h e1 e2
  have newE:∀(L0:Array Bool) (v:Value) (d':Nat) (ww:World),Inv ops m a0 w0 Z Fs L0 a ww→slotOf ops i=some d'→d'<a.tmps.size→i=kx∨i=ky→blkV v=some ww.heap.size→E (L0.setIfInBounds i true) (a.put (some d') v):=fun L0 v d' ww H hdst hdl hik hv e1 e2=>by
   rcases hik with hk|hk
   ·subst hk;rw[hdx]at hdst;cases hdst;rw[g_s L0 (Ne.symm hxy)]at e2;have fy:=H.facts ky hky e2 dy hdy;unfold FOf at fy;rw[hyA]at fy;obtain⟨gy,hgy,hlt'⟩:=hby _ _ fy;rw[c_v hdl,d_j fun e=>uniq i ky _ hkx hky hxy hdx (by rw[e];exact hdy),hv,hgy];intro e;injection e with e;omega
   ·subst hk;rw[hdy]at hdst;cases hdst;rw[g_s L0 hxy]at e1;have fx:=H.facts kx hkx e1 dx hdx;unfold FOf at fx;rw[hxA]at fx;obtain⟨gx,hgx,hlt'⟩:=hbx _ _ fx;rw[c_v hdl,d_j fun e=>uniq i kx _ hky hkx (Ne.symm hxy) hdy (by rw[e];exact hdx),hv,hgx];intro e;injection e with e;omega
  have stepC:∀r,m<r→(∀k,k<ops.size→(listed.getD k false=true↔k<r))→wpOps P ops Q (List.range' r (ops.size - r)) a w→wpOp P ops Q i (J (listed.setIfInBounds i true)) a w:=fun r hmr hlr hwp=>by
   have hri:r≤i:=by
    rcases Nat.lt_or_ge i r with h|h
    ·have:=(hlr i hin).2 h;rw[c_n hu]at this;cases this
    ·exact h
   have hcov:=b_o hd hi (hcv i (by omega) hin);have him':i=r:=by
    rcases Nat.lt_or_ge r i with h|h
    ·have:=(hlr r (by omega)).1 (hcov r h (by simp));omega
    ·omega
   subst him';rw[show ops.size - i=(ops.size - i - 1)+1 by omega,List.range'_succ,wpOps_cons]at hwp;refine wpOp_mono (fun a' w' h'=>?_) hwp;refine .inr (.inr ⟨i+1,by omega,hin,fun k hk=>⟨fun h=>?_,fun h=>?_⟩, ?_⟩)
   ·rcases b_8 listed i k h with e|e
    ·omega
    ·have:=(hlr k hk).1 e;omega
   ·rcases Nat.lt_or_eq_of_le (Nat.le_of_lt_succ h)with h1|h1
    ·exact b_g ((hlr k hk).2 h1)
    ·subst h1;exact c_m (by omega)
   ·rw[show ops.size - (i+1)=ops.size - i - 1 by omega];exact h'
  rcases hj with⟨htail,H,hE⟩|⟨L,wg,g,hLs,hLk,hLm,hlm,htl2,hnf,hla,hle,⟨H,hE⟩,hgp,hg1,hg2,rfl⟩|⟨r,hmr,hrn,hlr,hwp⟩
  ·have htail':i<m→∀k,m≤k→(listed.setIfInBounds i true).getD k false=false:=fun him k hk=>by
    rw[g_s listed (by omega)];exact htail k hk
   have hpr:∀k d,((predsOf ops i).contains k&&slotOf ops k==some d&&((ops[k]?).bind isAlloc).isNone&&decide (k<m))=true→nthF Fs k (a.eval (.tmp d)) w:=by
    intro k d' hkd;simp only[Bool.and_eq_true,decide_eq_true_iff,beq_iff_eq,List.contains_iff_mem]at hkd;obtain⟨⟨⟨h1,h2⟩,h3⟩,h4⟩:=hkd
    have:=H.facts k h4 (hpre k h1) d' h2;unfold FOf at this;rw[Option.isNone_iff_eq_none.1 h3]at this;exact this
   have hoff:∀t,(List.range m).all (fun k=>slotOf ops k != some t)=true→a.eval (.tmp t)=a0.eval (.tmp t):=fun t ht=>H.off t (fun k hk=>by
    rw[List.all_eq_true]at ht;simpa using ht k (List.mem_range.2 hk))
   by_cases him:i<m
   ·obtain⟨d',hdst,hdlt,-⟩:=hsl i him;obtain⟨o,ho⟩:∃o,ops[i]? =some o:=⟨ops[i],by simp[hin]⟩;have hod:o.dst=some d':=by unfold slotOf at hdst;rw[ho]at hdst;exact hdst
    cases ha:isAlloc o with
    |some T=>
     have hop:o.op= .alloc T:=by
      unfold isAlloc at ha;split at ha
      ·cases ha;assumption
      ·cases ha
     have hgd:o.guard=none:=by
      rw[List.all_eq_true]at hg
      have:=hg i (List.mem_range.2 him);rw[ho]at this;simp[ha]at this;exact this
     unfold wpOp;rw[ho];simp only[Region.wanted,hgd,if_true];refine .inl ?_;unfold Oper.wp;have hrun:(execOp a.eval o).run P w= .ok (.value (.pointer (some ⟨w.heap.size,0,none⟩))) (w.alloc (Z T)):=by
      have hr:=hz T (List.all_eq_true.1 hzl T (List.mem_filterMap.2 ⟨i,List.mem_range.2 him,by rw[ho];simp[ha]⟩)) w;unfold execOp;rw[hop];simp[hr]
     rw[hrun,Oper.upon_value,hod];have hna2:∀k,(ops[k]?).bind isAlloc=none→i≠k:=fun k hk e=>by subst e;rw[ho,Option.bind_some,ha]at hk;cases hk
     refine .inl ⟨htail' him,Inv.step hok hs H hsz him hu hdst ?_ ((Below.refl _ _).alloc (Nat.le_refl _) _) (fun _=>⟨_,rfl,Nat.le_refl _⟩),keepE _ _ _ hE him (hna2 kx hxA) (hna2 ky hyA) hdst⟩;unfold FOf;rw[ho,Option.bind_some,ha];refine⟨w.heap.size,rfl,H.below.size,by simp, ?_⟩;show(w.heap.push (Z T))[w.heap.size]? =_
     simp
    |none=>
     by_cases hik:i=kx∨i=ky
     ·obtain⟨hgd,hmk⟩:=mk i o hik ho;obtain⟨v,w',hrun,hF,hb,hv⟩:=hmk a w H.below hoff hpr;unfold wpOp;rw[ho];simp only[Region.wanted,hgd,if_true];refine .inl ?_;unfold Oper.wp;rw[hrun,Oper.upon_value,hod];refine Or.inl ⟨htail' him,Inv.step hok hs H hsz him hu hdst ?_ hb (fun hc=>by rw[ho,Option.bind_some,ha]at hc;cases hc),newE _ _ _ _ H hdst (by rw[H.size];exact hdlt) hik hv⟩;unfold FOf;rw[ho,Option.bind_some,ha];exact hF
     ·have hop:=HopAll.at hops i o (hto i o him ho) ha;rw[Nat.zero_add,if_neg (by simp)]at hop;have hK:∀v w',nthF Fs i v w'→Below w.heap.size w w'→J (listed.setIfInBounds i true) (a.put o.dst v) w':=by
       intro v w' hF hb;rw[hod];refine Or.inl ⟨htail' him,Inv.step hok hs H hsz him hu hdst ?_ hb (fun hc=>by rw[ho,Option.bind_some,ha]at hc;cases hc),keepE _ _ _ hE him (fun e=>hik (.inl e)) (fun e=>hik (.inr e)) hdst⟩;unfold FOf;rw[ho,Option.bind_some,ha];exact hF
      have:=hop a w H.below hoff hpr _ hK;unfold wpOp;rw[ho];simp only;split
      ·rename_i hw;rw[if_pos hw]at this;exact .inl this
      ·rename_i hw;rw[if_neg hw]at this;exact this
   ·rcases(by omega:i=m∨m<i)with e1|e1
    ·subst e1;have hnf:=b_o hd hi (htl i (Nat.le_refl _) hin);have fa:=H.facts ka hka (hpre ka hpa) d hska;have fe:=H.facts ke hke (hpre ke hpe) e hske;unfold FOf at fa fe;rw[haA]at fa;rw[heA]at fe;obtain⟨g,e1,e2,e3,e4⟩:=fa;have hrun:=hst a w g e1 e4 fe;unfold wpOp;rw[hom];simp only[Region.wanted,hog,if_true];refine .inl ?_;unfold Oper.wp;rw[hrun,Oper.upon_skip,hod0];exact .inr (.inl ⟨listed,w,g,hsz,fun k hk=>(g_s listed hk).symm,htail i (Nat.le_refl _),c_m (by omega),fun k hk=>by rw[g_s listed (by omega)];exact htail k (by omega),fun k hk hf=>b_g (hnf k hk hf),b_g (hpre ka hpa),b_g (hpre ke hpe),⟨H,hE⟩,e1,e2,e3,rfl⟩)
    ·exfalso
     have:=b_o hd hi (hcv i e1 hin) m e1 (by simp);rw[htail m (Nat.le_refl _)]at this;cases this
  ·rcases(by omega:i<m∨i=m∨m<i)with him|him|him
   ·have hif:i∈fl:=Classical.byContradiction fun h=>by
     have:=hnf i him h;rw[c_n hu]at this;cases this
    obtain⟨d',hdst,hdlt,-⟩:=hsl i him;obtain⟨o,ho⟩:∃o,ops[i]? =some o:=⟨ops[i],by simp[hin]⟩;have hod:o.dst=some d':=by unfold slotOf at hdst;rw[ho]at hdst;exact hdst
    have hni:(ops[i]?).bind isAlloc=none:=(hfl i hif).2.2;obtain⟨hgd,hla2⟩:=late i o hif ho;have hLu:L.getD i true=false:=by
     have h1:=hLk i (by omega);rw[c_n hu]at h1;have h2:i<L.size:=by omega
     simp[h2]at h1 ⊢;exact h1
    have hpr:∀k d,((predsOf ops i).contains k&&slotOf ops k==some d&&((ops[k]?).bind isAlloc).isNone&&decide (k<m))=true→nthF Fs k (a.eval (.tmp d)) wg:=by
     intro k d' hkd;simp only[Bool.and_eq_true,decide_eq_true_iff,beq_iff_eq,List.contains_iff_mem]at hkd;obtain⟨⟨⟨h1,h2⟩,h3⟩,h4⟩:=hkd
     have:=H.facts k h4 (by rw[hLk k (by omega)];exact hpre k h1) d' h2;unfold FOf at this;rw[Option.isNone_iff_eq_none.1 h3]at this;exact this
    have hoff:∀t,(List.range m).all (fun k=>slotOf ops k != some t)=true→a.eval (.tmp t)=a0.eval (.tmp t):=fun t ht=>H.off t (fun k hk=>by
     rw[List.all_eq_true]at ht;simpa using ht k (List.mem_range.2 hk))
    obtain⟨x,w',h2,h3,h4,h5⟩:=hla2 a wg H.below hoff hpr;have hE2:E (L.setIfInBounds i true) (a.put (some d') x):=by
     by_cases hik:i=kx∨i=ky
     ·exact newE _ _ _ _ H hdst (by rw[H.size];exact hdlt) hik (h5 hik)
     ·exact keepE _ _ _ hE him (fun e=>hik (.inl e)) (fun e=>hik (.inr e)) hdst
    have nd:∀k y,k<m→slotOf ops k=some y→listed.getD k false=true→(a.put (some d') x).eval (.tmp y)=a.eval (.tmp y):=fun k y hk hy hl=>d_j fun e1=>by
     have hne:k≠i:=fun e2=>by subst e2;rw[c_n hu]at hl;cases hl
     exact uniq k i y hk him hne hy (by rw[←e1];exact hdst)
    unfold wpOp;rw[ho];simp only[Region.wanted,hgd,if_true];refine .inl ?_;unfold Oper.wp;rw[h4 g _ hg1 hg2,Oper.upon_value,hod];refine .inr (.inl ⟨L.setIfInBounds i true,w',g,by simpa using hLs,fun k hk=>?_,by rw[g_s L (by omega)];exact hLm,b_g hlm,fun k hk=>by rw[g_s listed (by omega)];exact htl2 k hk,fun k hk hf=>b_g (hnf k hk hf),b_g hla,b_g hle,⟨Inv.step hok hs H hLs him hLu hdst ?_ h3 (fun hc=>by rw[hni]at hc;cases hc),hE2⟩,by rw[nd ka d hka hska hla];exact hgp,hg1,Nat.lt_of_lt_of_le hg2 h3.size,by rw[nd ke e hke hske hle]⟩)
    ·by_cases e1:k=i
     ·subst e1;rw[c_m (by omega),c_m (by omega)]
     ·rw[g_s L e1,g_s listed e1];exact hLk k hk
    ·unfold FOf;rw[hni];exact h2
   ·subst him;rw[c_n hu]at hlm;cases hlm
   ·have hcov:=b_o hd hi (hcv i him hin);have hall:∀k,k<m→listed.getD k false=true:=fun k hk=>hcov k (by omega) (by simp);refine stepC (m+1) (by omega) (fun k hk=>⟨fun h=>?_,fun h=>?_⟩) (cls listed L a wg g hLk ⟨H,hE⟩ hgp hall)
    ·rcases Nat.lt_or_ge m k with h1|h1
     ·rw[htl2 k h1]at h;cases h
     ·omega
    ·rcases Nat.lt_or_eq_of_le (Nat.le_of_lt_succ h)with h1|h1
     ·exact hall k h1
     ·subst h1;exact hlm
  ·exact stepC r hmr hlr hwp
 ·
  intro listed a w hsz hd hj hr;have hall:∀k,k<ops.size→listed.getD k false=true:=by
   intro k;induction k using Nat.strongRecOn with
   |ind k ih=>
    intro hk;cases hc:listed.getD k false with
    |true=>rfl
    |false=>
     exfalso
     have hmem:k∈Region.ready .any ops listed:=e_y hsz hk hc (fun j hj=>by have:=hlt k hk j hj;exact ih j this (by omega));rw[hr]at hmem;cases hmem
  have endC:∀r,r≤ops.size→(∀k,k<ops.size→(listed.getD k false=true↔k<r))→wpOps P ops Q (List.range' r (ops.size - r)) a w→Q .normal a w:=fun r hrn hlr hwp=>by
   have hsr:ops.size=r:=by
    rcases Nat.lt_or_ge r ops.size with h|h
    ·have:=(hlr r h).1 (hall r h);omega
    ·omega
   rw[hsr,Nat.sub_self]at hwp;simpa [wpOps] using hwp
  rcases hj with⟨htail,H,hE⟩|⟨L,wg,g,hLs,hLk,hLm,hlm,htl2,hnf,hla,hle,⟨H,hE⟩,hgp,hg1,hg2,rfl⟩|⟨r,hmr,hrn,hlr,hwp⟩
  ·have:=hall m hmn;rw[htail m (Nat.le_refl _)]at this;cases this
  ·refine endC (m+1) (by omega) (fun k hk=>⟨fun h=>?_,fun h=>hall k hk⟩) (cls listed L a wg g hLk ⟨H,hE⟩ hgp fun k hk=>hall k (by omega));rcases Nat.lt_or_ge m k with h1|h1
   ·rw[htl2 k h1]at h;cases h
   ·omega
  ·exact endC r hrn hlr hwp
 ·unfold openOf;simp
 ·simp[Array.getD]at hi
 ·simp[Array.getD]
 ·refine⟨rfl,rfl,fun _ _=>rfl,(Below.refl _ _).drew,fun k _ hl=>?_,fun j k _ _ _ _ hl=>?_⟩
  ·simp[Array.getD]at hl
  ·simp[Array.getD]at hl
 ·simp[Array.getD]at h
end
def kAt (x:FK)(g:Nat):FK:=.f (fun v w=>x.F v w∧blkV v=some g) (fun v w w' ⟨h1,h2⟩ hb=>⟨x.stays _ _ _ h1 hb,h2⟩)
theorem nthK_set:∀(l:List FK) (i k:Nat) (x:FK),i<l.length→nthK (l.set i x) k=if k=i then x else nthK l k
 |y::l,0,0,x,_=>rfl
 |y::l,0,k+1,x,_=>rfl
 |y::l,i+1,0,x,_=>rfl
 |y::l,i+1,k+1,x,h=>by
  have:=nthK_set l i k x (by simpa using h);show nthK (l.set i x) k=_
  rw[this];by_cases e:k=i
  ·rw[if_pos e,if_pos (by omega)]
  ·rw[if_neg e,if_neg (by omega)];rfl
theorem okL_set {F:FVal}{hF:Stays F}:∀(os:List Oper) (l:List FK) (i:Nat),okL os l→(os[i]?).bind isAlloc=none→okL os (l.set i (.f F hF))
 | [],[],i,h,_=>by simpa using h
 | [],_::_,i,h,_=>by cases h
 |_::_,[],i,h,_=>by cases h
 |o::os,x::l,0,h,e=>⟨by simpa using e,h.2⟩
 |o::os,x::l,i+1,h,e=>⟨h.1,okL_set os l i h.2 (by simpa using e)⟩
section
variable {ops:Array Oper}{Q:Exit→Act→World→Prop}{m i:Nat}{a0 a:Act}{w0 w:World}{l:List FK}{b:Bool}{id:Nat}
theorem Run.donet (fl:List Nat)(ka ke d e:Nat)(Ta:TypeId)(kx ky dx dy:Nat)(ds:List (Option Nat))
  (late:∀i,i∈fl→(opAt ops i).guard=none∧LateB Tryz.prog ops m a0 w0 (fsOf l.reverse) kx ky i (opAt ops i))
  (hst:∀(a:Act) (w:World) (g:Nat),a.eval (.tmp d)= .pointer (some ⟨g,0,none⟩)→w.heap[g]? =some (zeroObj Ta)→nthF (fsOf l.reverse) ke (a.eval (.tmp e)) w→(execOp a.eval (opAt ops m)).run Tryz.prog w= .ok .skip (w.setCell ⟨g,0,none⟩ (a.eval (.tmp e))))
  (hbx:∀v w,nthF (fsOf l.reverse) kx v w→∃g,blkV v=some g∧g<w.heap.size) (hby:∀v w,nthF (fsOf l.reverse) ky v w→∃g,blkV v=some g∧g<w.heap.size)
  (mk:∀i,i=kx∨i=ky→(opAt ops i).guard=none∧MakeAt Tryz.prog ops m a0 w0 (fsOf l.reverse) i (opAt ops i))
  (hlo:¬LetsOut Q) (hend:∀w gx gy,Below w0.heap.size w0 w→gx≠gy→EndQ ops Q m w0 w [] ((l.reverse.set kx (kAt (nthK l.reverse kx) gx)).set ky (kAt (nthK l.reverse ky) gy)) ds a0) (hok:okEy ops fl m a0.tmps.size ka ke d e Ta=true:=by kernel_rfl)
  (hxy:(decide (kx<m)&&decide (ky<m)&&decide (kx≠ky)&&(slotOf ops kx==some dx)&&(slotOf ops ky==some dy)&&((ops[kx]?).bind isAlloc).isNone&&((ops[ky]?).bind isAlloc).isNone )=true:=by kernel_rfl) (hds:(ops.toList.take m).map (·.dst)=ds:=by rfl) (hi:i=m:=by rfl) (hQ:∀c a d v w,Q (.panic c) (a.put d v) w→Q (.panic c) a w:=by(intro _ _ d _ _ h;cases d<;>exact h)):R ops Q m a0 w0 true id l i:=fun hl hall=>by
 unfold okEy at hok;simp only[Bool.and_eq_true,decide_eq_true_iff,List.all_eq_true,beq_iff_eq,List.contains_iff_mem]at hok;obtain⟨⟨⟨⟨⟨⟨⟨⟨⟨⟨⟨⟨⟨h1,h2,h3⟩,h4⟩,h5⟩,h6⟩,h7⟩,h8⟩,h9⟩,h10⟩,h11⟩,h12⟩,h13⟩,h14⟩,h15⟩:=hok;simp only[Bool.and_eq_true,decide_eq_true_iff,beq_iff_eq,Option.isNone_iff_eq_none]at hxy;obtain⟨⟨⟨⟨⟨⟨x1,x2⟩,x3⟩,x4⟩,x5⟩,x6⟩,x7⟩:=hxy;subst hi;have h:=i_7 (b_7 h1).1 hl hall i 0 rfl;have hom:ops[i]? =some (opAt ops i):=by rw[f_3 h5];simp[h5]
 have hlr:l.reverse.length=i:=by simp[hl]
 have same:∀j o,ops[j]? =some o→o=opAt ops j:=fun j o ho=>by
  have hjl:=(Array.getElem?_eq_some_iff.1 ho).1;rw[f_3 hjl];exact(Array.getElem?_eq_some_iff.1 ho).2.symm
 have tk:∀k,k<i→((ops.toList.take i)[k]?).bind isAlloc=(ops[k]?).bind isAlloc:=fun k hk=>by rw[List.getElem?_take_of_lt hk,Array.getElem?_toList]
 refine wp_region_any (by kernel_rfl) (any_two fl i (fsOf l.reverse) zeroObj hQ h1 okZ (List.all_eq_true.2 h2) (fun T h w=>d_a h w) h3 (fsOf_stay l.reverse) h.1 (fun j hj hjn=>h4 j (List.mem_range'.2 ⟨j - (i+1),by omega,by omega⟩)) (fun j o hj ho=>?_) hom (Option.isNone_iff_eq_none.1 h6) (Option.isNone_iff_eq_none.1 h7) hlo h8 h9 h10 h11 h12 h13 h14 (Option.isNone_iff_eq_none.1 h15) hst
  (fun gx gy=>fsOf ((l.reverse.set kx (kAt (nthK l.reverse kx) gx)).set ky (kAt (nthK l.reverse ky) gy))) x1 x2 x3 x4 x5 x6 x7 hbx hby (fun gx gy k e1 e2=>?_) (fun gx gy v w hv e=>?_) (fun gx gy v w hv e=>?_) (fun j o hj ho=>?_) (fun w gx gy hw hne=>?_))
 ·have:=same j o ho;subst this;exact late j hj
 ·rw[nthF_of,nthF_of,nthK_set _ _ _ _ (by simpa [hl] using x2),if_neg e2,nthK_set _ _ _ _ (by rw[hlr];exact x1),if_neg e1]
 ·rw[nthF_of,nthK_set _ _ _ _ (by simpa [hl] using x2),if_neg x3,nthK_set _ _ _ _ (by rw[hlr];exact x1),if_pos rfl];rw[nthF_of]at hv;exact⟨hv,e⟩
 ·rw[nthF_of,nthK_set _ _ _ _ (by simpa [hl] using x2),if_pos rfl];rw[nthF_of]at hv;exact⟨hv,e⟩
 ·have:=same j o ho;subst this;exact mk j hj
 ·exact d_k (ops.toList.take i) ((l.reverse.set kx (kAt (nthK l.reverse kx) gx)).set ky (kAt (nthK l.reverse ky) gy)) _ [] 0 a0 (okL_set _ _ _ (okL_set _ _ _ h.2 (by rw[tk _ x1];exact x6)) (by rw[tk _ x2];exact x7)) (fun j _=>by rw[Nat.zero_add]) (by rw[hds];exact hend w gx gy hw hne)
end
end Go.Proofs.YtkgghhklbbfdiaaGreat
end
section
namespace Go.Proofs.YtkgghhklbbfdiaaGreat
open Go.RowKit Go.Shelf
def PB (b:Nat)(w:World)(g N m c k kc:Nat)(F:Nat→Nat→Rat):Prop:=∃cs:Array Value,w.heap[g]? =some (.cells cs 90 (0,0))∧cs.size=N*5∧(∀u,u∈cs.toList→NWd u)∧∀j,j<m→∃gj sa Aa na ca sb Ab nb cb,cs[j*5]? =some (.slice (some ⟨gj,0,none⟩) c c)∧cs[j*5+1]? =some (.bool sa)∧cs[j*5+2]? =some (.slice Aa na ca)∧cs[j*5+3]? =some (.bool sb)∧cs[j*5+4]? =some (.slice Ab nb cb)∧Pt b w gj sa Aa na ca sb Ab nb cb c k kc (rw' c (ptn (F j) c)) (F j)
section
variable {b:Nat}{w w':World}{g N m c k kc x:Nat}{F:Nat→Nat→Rat}
theorem PB.lt (h:PB b w g N m c k kc F):g<w.heap.size:=by
 obtain⟨cs,h1,-⟩:=h;exact(Array.getElem?_eq_some_iff.1 h1).1
theorem PB.now (h:PB b w g N m c k kc F):Wless w g:=fun p m hp e=>by
 obtain⟨cs,h1,h2,h3,-⟩:=h;have e2:cs[p.off]? =some (.int .u64 m):=by
  unfold World.cell? at e;rw[hp,h1]at e;exact(by simpa using e:p.spot=none∧cs[p.off]? =some (.int .u64 m)).2
 exact h3 _ (Array.mem_toList_iff.2 (Array.mem_of_getElem? e2)) m rfl
theorem PB.below (h:PB b w g N m c k kc F)(hb:Below w.heap.size w w'):PB b w' g N m c k kc F:=by
 have hl:=h.lt;obtain⟨cs,h1,h2,h3,h4⟩:=h;refine⟨cs,(hb.block g hl).trans h1,h2,h3,fun j hj=>?_⟩;obtain⟨gj,sa,Aa,na,ca,sb,Ab,nb,cb,c1,c2,c3,c4,c5,hp⟩:=h4 j hj;exact⟨gj,sa,Aa,na,ca,sb,Ab,nb,cb,c1,c2,c3,c4,c5,hp.below hb⟩
theorem PB.gro (h:PB b w g N m c k kc F)(hne:g≠x)(hx:x<b)(hn:Wless w x)(hg:w.grownBy w' (some x)):PB b w' g N m c k kc F:=by
 have hl:=h.lt;obtain⟨cs,h1,h2,h3,h4⟩:=h;refine⟨cs,(hg.block g hl (fun e=>hne (Option.some.inj e))).trans h1,h2,h3,fun j hj=>?_⟩;obtain⟨gj,sa,Aa,na,ca,sb,Ab,nb,cb,c1,c2,c3,c4,c5,hp⟩:=h4 j hj;exact⟨gj,sa,Aa,na,ca,sb,Ab,nb,cb,c1,c2,c3,c4,c5,hp.gro (by have:=hp.2.1;omega) hn hg⟩
theorem PB.free (h:PB b w g N m c k kc F)(j:Nat):w.frozen? ⟨g,j,none⟩=false:=by
 obtain⟨cs,h1,-⟩:=h;exact frozen_of_row w g j _ _ h1
theorem PB.any (h:PB b w g N m c k kc F){t:Nat}(ht:t<N*5):∃u,w.cell? ⟨g,t,none⟩=some u:=by
 obtain⟨cs,h1,h2,-⟩:=h;exact⟨cs[t],by rw[cell_of_row w g _ _ _ _ h1,Array.getElem?_eq_getElem (by omega)]⟩
theorem PB.cells (h:PB b w g N m c k kc F){j:Nat}(hj:j<m):∃gj sa Aa na ca sb Ab nb cb,w.cell? ⟨g,j*5,none⟩=some (.slice (some ⟨gj,0,none⟩) c c)∧w.cell? ⟨g,j*5+1,none⟩=some (.bool sa)∧w.cell? ⟨g,j*5+2,none⟩=some (.slice Aa na ca)∧w.cell? ⟨g,j*5+3,none⟩=some (.bool sb)∧w.cell? ⟨g,j*5+4,none⟩=some (.slice Ab nb cb)∧Pt b w gj sa Aa na ca sb Ab nb cb c k kc (rw' c (ptn (F j) c)) (F j):=by
 obtain⟨cs,h1,h2,h3,h4⟩:=h;obtain⟨gj,sa,Aa,na,ca,sb,Ab,nb,cb,c1,c2,c3,c4,c5,hp⟩:=h4 j hj;exact⟨gj,sa,Aa,na,ca,sb,Ab,nb,cb,by rw[cell_of_row w g _ _ _ _ h1,c1],by rw[cell_of_row w g _ _ _ _ h1,c2],by rw[cell_of_row w g _ _ _ _ h1,c3],by rw[cell_of_row w g _ _ _ _ h1,c4],by rw[cell_of_row w g _ _ _ _ h1,c5],hp⟩
theorem PB.made (w:World)(b N c k kc:Nat)(F:Nat→Nat→Rat):PB b (w.alloc (.cells (madeCells #[.slice none 0 0,.bool false,.slice none 0 0,.bool false,.slice none 0 0] (N*5)) 90)) w.heap.size N 0 c k kc F:=by
 refine⟨_,heap_alloc_new w _,by simp[size_madeCells],fun u hu=>?_,fun j hj=>by omega⟩;intro m e;subst e;obtain⟨t,ht,e⟩:=(by simpa [madeCells] using hu:∃a,a<N*5∧([Value.slice none 0 0,.bool false,.slice none 0 0,.bool false,.slice none 0 0]:List Value)[a%5]?.getD default=Value.int .u64 m);have hm:t%5<5:=Nat.mod_lt _ (by omega);rcases(by omega:t%5=0∨t%5=1∨t%5=2∨t%5=3∨t%5=4)with h|h|h|h|h<;>simp[h]at e
def pputo (w:World)(g o:Nat)(v0 v1 v2 v3 v4:Value):World:=((((w.setCell ⟨g,o,none⟩ v0).setCell ⟨g,o+1,none⟩ v1).setCell ⟨g,o+2,none⟩ v2).setCell ⟨g,o+3,none⟩ v3).setCell ⟨g,o+4,none⟩ v4
theorem pputo_gro (w:World)(g o:Nat)(v0 v1 v2 v3 v4:Value):w.grownBy (pputo w g o v0 v1 v2 v3 v4) (some g):=a_n (q:=⟨g,o+4,none⟩) (a_n (q:=⟨g,o+3,none⟩) (a_n (q:=⟨g,o+2,none⟩) (a_n (q:=⟨g,o+1,none⟩) (a_n (q:=⟨g,o,none⟩) (a_u w (some g)) rfl _) rfl _) rfl _) rfl _) rfl _
theorem PB.put (h:PB b w g N m c k kc F)(hm:m<N)(hgb:g<b){gj na ca nb cb:Nat}{sa sb:Bool}{Aa Ab:Option Addr}(hp:Pt b w gj sa Aa na ca sb Ab nb cb c k kc (rw' c (ptn (F m) c)) (F m)):PB b (pputo w g (m*5) (.slice (some ⟨gj,0,none⟩) c c) (.bool sa) (.slice Aa na ca) (.bool sb) (.slice Ab nb cb)) g N (m+1) c k kc F:=by
 have hno:=h.now;have hgr:=pputo_gro w g (m*5) (.slice (some ⟨gj,0,none⟩) c c) (.bool sa) (.slice Aa na ca) (.bool sb) (.slice Ab nb cb);obtain⟨cs,h1,h2,h3,h4⟩:=h;refine⟨((((cs.setIfInBounds (m*5) (.slice (some ⟨gj,0,none⟩) c c)).setIfInBounds (m*5+1) (.bool sa)).setIfInBounds (m*5+2) (.slice Aa na ca)).setIfInBounds (m*5+3) (.bool sb)).setIfInBounds (m*5+4) (.slice Ab nb cb), ?_,by simp[h2],fun u hu=>?_,fun j hj=>?_⟩
 ·unfold pputo;rw[heap_setCell_same _ g _ _ _ _ (heap_setCell_same _ g _ _ _ _ (heap_setCell_same _ g _ _ _ _ (heap_setCell_same _ g _ _ _ _ (heap_setCell_same w g _ _ _ _ h1))))]
 ·have mem:∀(xs:Array Value) (i:Nat) (y:Value),NWd y→(∀u,u∈xs.toList→NWd u)→∀u,u∈(xs.setIfInBounds i y).toList→NWd u:=fun xs i y hy hx u hu=>by
   rw[Array.toList_setIfInBounds]at hu;rcases List.mem_or_eq_of_mem_set hu with h|h
   ·exact hx u h
   ·rw[h];exact hy
  exact mem _ _ (.slice Ab nb cb) (fun m e=>nomatch e) (mem _ _ (.bool sb) (fun m e=>nomatch e) (mem _ _ (.slice Aa na ca) (fun m e=>nomatch e) (mem _ _ (.bool sa) (fun m e=>nomatch e) (mem _ _ (.slice (some ⟨gj,0,none⟩) c c) (fun m e=>nomatch e) h3)))) u hu
 ·by_cases e:j=m
  ·subst e;refine⟨gj,sa,Aa,na,ca,sb,Ab,nb,cb, ?_, ?_, ?_, ?_, ?_,hp.gro (by have:=hp.2.1;omega) hno hgr⟩
   ·rw[Array.getElem?_setIfInBounds_ne (by omega),Array.getElem?_setIfInBounds_ne (by omega),Array.getElem?_setIfInBounds_ne (by omega),Array.getElem?_setIfInBounds_ne (by omega),Array.getElem?_setIfInBounds_self_of_lt (by omega)]
   ·rw[Array.getElem?_setIfInBounds_ne (by omega),Array.getElem?_setIfInBounds_ne (by omega),Array.getElem?_setIfInBounds_ne (by omega),Array.getElem?_setIfInBounds_self_of_lt (by simp;omega)]
   ·rw[Array.getElem?_setIfInBounds_ne (by omega),Array.getElem?_setIfInBounds_ne (by omega),Array.getElem?_setIfInBounds_self_of_lt (by simp;omega)]
   ·rw[Array.getElem?_setIfInBounds_ne (by omega),Array.getElem?_setIfInBounds_self_of_lt (by simp;omega)]
   ·rw[Array.getElem?_setIfInBounds_self_of_lt (by simp;omega)]
  ·obtain⟨gj',sa',Aa',na',ca',sb',Ab',nb',cb',c1,c2,c3,c4,c5,hp'⟩:=h4 j (by omega);refine⟨gj',sa',Aa',na',ca',sb',Ab',nb',cb', ?_, ?_, ?_, ?_, ?_,hp'.gro (by have:=hp'.2.1;omega) hno hgr⟩
   ·rw[Array.getElem?_setIfInBounds_ne (by omega),Array.getElem?_setIfInBounds_ne (by omega),Array.getElem?_setIfInBounds_ne (by omega),Array.getElem?_setIfInBounds_ne (by omega),Array.getElem?_setIfInBounds_ne (by omega)];exact c1
   ·rw[Array.getElem?_setIfInBounds_ne (by omega),Array.getElem?_setIfInBounds_ne (by omega),Array.getElem?_setIfInBounds_ne (by omega),Array.getElem?_setIfInBounds_ne (by omega),Array.getElem?_setIfInBounds_ne (by omega)];exact c2
   ·rw[Array.getElem?_setIfInBounds_ne (by omega),Array.getElem?_setIfInBounds_ne (by omega),Array.getElem?_setIfInBounds_ne (by omega),Array.getElem?_setIfInBounds_ne (by omega),Array.getElem?_setIfInBounds_ne (by omega)];exact c3
   ·rw[Array.getElem?_setIfInBounds_ne (by omega),Array.getElem?_setIfInBounds_ne (by omega),Array.getElem?_setIfInBounds_ne (by omega),Array.getElem?_setIfInBounds_ne (by omega),Array.getElem?_setIfInBounds_ne (by omega)];exact c4
   ·rw[Array.getElem?_setIfInBounds_ne (by omega),Array.getElem?_setIfInBounds_ne (by omega),Array.getElem?_setIfInBounds_ne (by omega),Array.getElem?_setIfInBounds_ne (by omega),Array.getElem?_setIfInBounds_ne (by omega)];exact c5
end
theorem info_part:(Tryz.prog.info? 90).map (fun i=>(i.zero,i.size,i.bytes))=some (some (.agg #[.slice none 0 0,.bool false,.slice none 0 0,.bool false,.slice none 0 0]),5,88):=by kernel_rfl
theorem part_cells:Tryz.prog.cellsOf 90=5:=by kernel_rfl
theorem run_mkP (w:World)(n:Nat)(hn:n≤1048576):(Instr.makeSlice 88 (.int .i64 (n:Int)) (.int .i64 (n:Int))).run Tryz.prog w= .ok (.slice (some ⟨w.heap.size,0,none⟩) n n) (w.alloc (.cells (madeCells #[.slice none 0 0,.bool false,.slice none 0 0,.bool false,.slice none 0 0] (n*5)) 90)):=by
 obtain⟨i,hi,hz0,hz1,hz2⟩:=info_parts info_part;rw[run_make w _ _ i (.agg #[.slice none 0 0,.bool false,.slice none 0 0,.bool false,.slice none 0 0]) Tryz.underlying88 hi hz0 .i64 .i64 (n:Int) (n:Int) (by omega) (Int.le_refl _) (by rw[hz2];omega) (by omega)];rw[hz1];rfl
def IsP0 (b N:Nat):FVal:=fun v w=>∃g,v= .slice (some ⟨g,0,none⟩) N N∧b≤g∧∀b' c k kc F,PB b' w g N 0 c k kc F
def kP0 (b N:Nat):FK:=.f (IsP0 b N) (fun v w w' ⟨g,e,h1,h2⟩ hb=>⟨g,e,h1,fun b' c k kc F=>(h2 b' c k kc F).below hb⟩)
section
variable {ops:Array Oper}{Q:Exit→Act→World→Prop}{m i:Nat}{a0:Act}{w0:World}{l:List FK}{b:Bool}{id:Nat}
def okMp (ops:Array Oper)(m i:Nat)(s:Src):Bool:=okH ops m i&&(match(opAt ops i).op with| .makeSlice T x y=>T==88&&s.ok ops m i x&&s.ok ops m i y|_=>false)
theorem Run.mkP (s:Src){n b0:Nat}(hn:n≤1048576)(hb0:b0≤w0.heap.size)(rest:R ops Q m a0 w0 b id (kP0 b0 n::l) (i+1))(hx:s.K l i a0 (mzX (opAt ops i).op)= .k (.int .i64 (n:Int)):=by rfl)(hy:s.K l i a0 (mzY (opAt ops i).op)= .k (.int .i64 (n:Int)):=by rfl)(hc:okMp ops m i s=true:=by kernel_rfl)(hg:Gd l i (opAt ops i):=by first|exact trivial|exact rfl):R ops Q m a0 w0 b id l i:=by
 unfold okMp at hc;rw[Bool.and_eq_true]at hc;obtain⟨hh,h4⟩:=hc;refine Run.mem (x:=kP0 b0 n) (fun a w h=>?_) rest (FK.fne _) hh hg;split at h4
 ·rename_i T x y e;simp only[Bool.and_eq_true,beq_iff_eq]at h4;obtain⟨⟨rfl,h2⟩,h3⟩:=h4;rw[e]at hx hy;refine⟨_,_, ?_,⟨w.heap.size,rfl,Nat.le_trans hb0 h.below.size,fun b' c k kc F=>PB.made w b' n c k kc F⟩,zba w _⟩;unfold execOp;rw[e];simp only[h.srcK h2 hx,h.srcK h3 hy];simp[run_mkP w n hn]
 ·cases h4
end
theorem ldPl {w:World}{g:Nat}{T:TypeId}{cs:List Value}(b:Bx w g T cs)(o:Nat){A:Option Addr}{n c:Nat}(hc:cs[o]? =some (.slice A n c):=by rfl):∀w',Below w.heap.size w w'→(Instr.loadAt 88 (.pointer (some ⟨g,o,none⟩))).run Tryz.prog w'= .ok (.slice A n c) w':=fun w' hb=>by
 have h:=(b.below hb).cell o;rw[hc]at h;simp[go_sem,a_1,h]
theorem run_ixP {w:World}{ad:Addr}{n c k:Nat}(h:k<n):(Instr.indexAt 88 (.slice (some ad) n c) (.int .i64 (k:Int))).run Tryz.prog w= .ok (.pointer (some (ad.add (k*5)))) w:=by
 simp[go_sem,Tryz.underlying88,part_cells];omega
theorem opIxP {G n c k:Nat}{X Y:Operand}(h:k<n)(w:World):RunTwo Tryz.prog (.indexAddr 88 X Y) w (.slice (some ⟨G,0,none⟩) n c) (.int .i64 (k:Int)) (.pointer (some ⟨G,k*5,none⟩)):=by
 have h2:RunTwo Tryz.prog (.indexAddr 88 X Y) w (.slice (some ⟨G,0,none⟩) n c) (.int .i64 (k:Int)) (.pointer (some ((⟨G,0,none⟩:Addr).add (k*5)))):=run_ixP h;rwa [a_8]at h2
theorem ldPe {w:World}{g o:Nat}{A B C:Option Addr}{n c m d m' d':Nat}{s t:Bool}(hg:g<w.heap.size)(c0:w.cell? ⟨g,o,none⟩=some (.slice A n c))(c1:w.cell? ⟨g,o+1,none⟩=some (.bool s))(c2:w.cell? ⟨g,o+2,none⟩=some (.slice B m d))(c3:w.cell? ⟨g,o+3,none⟩=some (.bool t))(c4:w.cell? ⟨g,o+4,none⟩=some (.slice C m' d')):∀w',Below w.heap.size w w'→(Instr.loadAt 90 (.pointer (some ⟨g,o,none⟩))).run Tryz.prog w'= .ok (.agg #[.slice A n c,.bool s,.slice B m d,.bool t,.slice C m' d']) w':=fun w' hb=>by
 have e0:=(hb.cell (p:=⟨g,o,none⟩) hg).trans c0;have e1:=(hb.cell (p:=⟨g,o+1,none⟩) hg).trans c1;have e2:=(hb.cell (p:=⟨g,o+2,none⟩) hg).trans c2;have e3:=(hb.cell (p:=⟨g,o+3,none⟩) hg).trans c3;have e4:=(hb.cell (p:=⟨g,o+4,none⟩) hg).trans c4;simp[go_sem,Addr.add,e0,e1,e2,e3,e4]
theorem run_st1p {a:Act}{w:World}{g n c:Nat}{A:Option Addr}{o:Oper}{x y:Operand}{u:Value}(ho:o.op= .store 88 x y)(hx:a.eval x= .pointer (some ⟨g,0,none⟩))(hy:a.eval y= .slice A n c)(b:Bx w g 88 [u]):(execOp a.eval o).run Tryz.prog w= .ok .skip (w.setCell ⟨g,0,none⟩ (.slice A n c)):=by
 have h0:=b.cell 0;have f0:=b.free 0;simp only[List.getElem?_cons_zero]at h0;unfold execOp;rw[ho];simp only[hx,hy];simp[go_sem,h0,f0,a_1]
theorem qmul1_q {b R S C k kc K i j g g' Gr Gc:Nat}{F G:Nat→Nat→Rat}{w:World}(b2:Bx w g 88 [.slice (some ⟨Gr,0,none⟩) R R])(b3:Bx w g' 88 [.slice (some ⟨Gc,0,none⟩) S S])(hr:PB b w Gr R R C k kc F)(hc:PB b w Gc S S C k kc (fun j l=>G l j))(hi:i<R)(hj:j<S)(hC:C≤64)(hK:k+k+C+kc+kc+1≤K)(hKb:K≤1073741824):Calls Tryz.prog 69 #[.int .i64 (i:Int),.int .i64 (j:Int),.pointer (some ⟨g,0,none⟩),.pointer (some ⟨g',0,none⟩)] w (RetK (kQ (RT.mul C F G i j) K) w):=by
 have l2:=hr.lt;have l3:=hc.lt;obtain⟨gi,sa,Aa,na,ca,sb,Ab,nb,cb,x0,x1,x2,x3,x4,hp⟩:=hr.cells hi;obtain⟨gj,sa',Aa',na',ca',sb',Ab',nb',cb',y0,y1,y2,y3,y4,hq⟩:=hc.cells hj;obtain⟨w1,hw1,b6,z1,s1⟩:=boxes1 w 46 [.bool false,.slice none 0 0,.bool false,.slice none 0 0];have HW:=Lib.hid hw1;have HZ:=Lib.hid z1;have L1:=fun w' hb=>ldPe l2 x0 x1 x2 x3 x4 w' hb;have L2:=fun w' hb=>ldPe l3 y0 y1 y2 y3 y4 w' hb;replace b2:=b2.below z1;replace b3:=b3.below z1;have hz1:=z1;clear x0 x1 x2 x3 x4 y0 y1 y2 y3 y4 hr hc;clear hw1 z1 s1;go_enter Tryz.func69,Tryz.ntmps69
 go_upto_region 1 with fail
 rw[HW.out];refine Run.start 9 ?_;refine .ld .o (ldPl b2 0) ?_;refine .mv .o ?_;refine .two (.i 0) (.i 1) (opIxP hi) ?_;refine .ld (.i 2) (fun w' hb=>L1 w' (zup hz1 hb)) ?_;refine .ld .o (ldPl b3 0) ?_;refine .mv .o ?_;refine .two (.i 4) (.i 5) (opIxP hj) ?_;refine .ld (.i 6) (fun w' hb=>L2 w' (zup hz1 hb)) ?_;refine .c2 (.i 3) (.i 7) (x:=kQ (RT.mul C F G i j) K) (by rintro u v w3 hB rfl rfl;exact ptimes_q (hp.below (zup hz1 hB)) (hq.below (zup hz1 hB)) (by omega) (by omega) hKb) ?_;refine .done [some 7,some 8,some 9,some 10,some 11,some 12,some 13,some 14,some 15] ?_;intro w2 B2;rintro v ⟨s_,A_,n_,c_,t_,B_,m_,d_,rfl,hz,hk1,hk2⟩;change Shut (wpList _ _ _ [_] _ _);refine⟨?_⟩;simp only[Act.put,lS,lZ,lC];clear L1 L2 hp hq hz1;have I:=(b6.below B2).rb;have P:=Lib.hid (retQ hz I (k:=K) hk1 hk2 (by omega) (zup HZ.out B2));unfold rput at P;obtain⟨i1,i2,i3,i4,i5,i6,i7,i8,i9⟩:=I;clear hz
 go_wp2_with fail
 exact bodyPost_ret (v:=.agg #[.bool s_,.slice A_ n_ c_,.bool t_,.slice B_ m_ d_]) (by simp[results,Tryz.results69,go_sem,i1,i2,i3,i4]) rfl P.out
theorem qmul_yes {q q':Bool}{R C S n d n' d' k K:Nat}{A A':Option Addr}{F G:Nat→Nat→Rat}{w:World}(ha:Mq q w R C A n d k F)(hb:Mq q' w C S A' n' d' k G)(hk0:1≤k)(hK:pk C k+pk C k+C+pc C k+pc C k+1≤K)(hKb:K≤1073741824):Calls Tryz.prog 20 #[.agg #[.int .i64 (R:Int),.int .i64 (C:Int),.slice A n d],.agg #[.int .i64 (C:Int),.int .i64 (S:Int),.slice A' n' d']] w (RetK (kT (kMw w.heap.size R S K fun i j=>RT.mul C F G i j) (.k (.int .i64 0))) w):=by
 have h1:(fmd (R:Int) (C:Int) n&&fmd (C:Int) (S:Int) n')=true:=by rw[ha.fmd,hb.fmd];rfl
 have hR:=ha.hr;have hC:=ha.hc;have hS:=hb.hc;obtain⟨kp,hkp⟩:∃kp,pk C k=kp:=⟨_,rfl⟩;obtain⟨kc,hkc⟩:∃kc,pc C k=kc:=⟨_,rfl⟩;rw[hkp,hkc]at hK;have HKP:=Lib.hid hkp;have HKC:=Lib.hid hkc;have HA:=Lib.hid ha;have HB_:=Lib.hid hb;clear hkp hkc ha hb;obtain⟨w1,hw1,b2,b3,b4,z1,s1⟩:=boxes3 w 24 24 24 [.int .i64 (R:Int),.int .i64 (C:Int),.slice A n d] [.int .i64 (C:Int),.int .i64 (S:Int),.slice A' n' d'] [.int .i64 0,.int .i64 0,.slice none 0 0];have HW:=Lib.hid hw1;have HZ:=Lib.hid z1;have h1_:=Lib.hid h1;clear hw1 z1 h1 s1;go_enter Tryz.func20,Tryz.ntmps20
 go_upto_region 1 with fail
 rw[HW.out];refine Run.start 11 ?_;refine .ld .o (ldQm b2 0) ?_;refine .ld .o (ldQm b3 0) ?_;refine .c2 (.i 0) (.i 1) (x:=.k (.bool true)) (by rintro u v w2 hB rfl rfl;exact g_z h1_.out w2) ?_;refine .nt (.i 2) ?_;refine .mv (.i 3) ?_;refine .fa .o (fQ1 1) ?_;refine .ld (.i 5) (ldInt b2 1) ?_;refine .fa .o (fQ0 0) ?_;refine .ld (.i 7) (ldInt b3 0) ?_;refine .two (.i 6) (.i 8) (opNe (by simp:decide ((C:Int)≠(C:Int))=false)) ?_;refine .pk (.i 4) (.i 9) false ?_;refine .donep [some 10,some 11,some 12,some 13,some 14,some 15,some 16,some 17,some 18,some 19,some 20] ?_;intro w2 B2;change Shut (wpList _ _ _ [] _ _);refine⟨?_⟩;simp only[Act.put,lS,lZ,lC];have B0:=zup HZ.out B2;replace b2:=b2.below B2;replace b3:=b3.below B2;replace b4:=b4.below B2;clear B2 HZ;go_upto_region 3 with fail
 refine reg_noP ?_;refine Run.start 8 ?_;refine .fa .o (fQ0 0) ?_;refine .ld (.i 0) (ldInt b2 0) ?_;refine .mkP (.i 1) (n:=R) (b0:=w2.heap.size) (by omega) (Nat.le_refl _) ?_;refine .fa .o (fQ1 1) ?_;refine .ld (.i 3) (ldInt b3 1) ?_;refine .mkP (.i 4) (n:=S) (b0:=w2.heap.size) (by omega) (Nat.le_refl _) ?_;refine .al ?_;refine .al ?_;refine Run.donet [3,4,5] 6 2 6 24 88 2 5 24 27 [some 22,some 23,some 24,some 25,some 26,some 27,some 6,some 7] ?late ?st ?bx ?by_ ?mk (fun⟨_,_,h⟩=>h) ?_;case late=>
  intro i hi;have hc:i=3∨i=4∨i=5:=by simpa using hi
  rcases hc with rfl|rfl|rfl
  ·exact⟨rfl,(h_x rfl fun a w' hB ho hp=>m_p rfl (ho 3 (by kernel_rfl)) (fQ1 1 rfl w')).b (by decide) (by decide)⟩
  ·exact⟨rfl,(h_x rfl fun a w' hB ho hp=>m_o rfl (hp 3 25 _ (by kernel_rfl) rfl) (ldInt b3 1 rfl w' hB)).b (by decide) (by decide)⟩
  ·refine⟨rfl,fun a w' hB ho hp=>⟨.slice (some ⟨w'.heap.size,0,none⟩) S S,_,⟨w'.heap.size,rfl,hB.size,fun b' c k kc F=>PB.made w' b' S c k kc F⟩,zba w' _,fun g v h1 h2=>?_,fun _=>rfl⟩⟩;have e:a.eval (.tmp 26)= .int .i64 (S:Int):=hp 4 26 (by kernel_rfl);have h3:=run_mkP (w'.setCell ⟨g,0,none⟩ v) S (by omega);rw[←World.setCell_alloc_past _ _ _ _ h2,World.size_setCell]at h3;exact r_k rfl e e h3
 case st=>
  intro a w' g hd hz he;obtain⟨gO,e,-⟩:=he;rw[e];exact run_st1p rfl hd e (u:=.slice none 0 0) (hz.trans (congrArg some (by kernel_rfl)))
 case bx=>
  rintro v w' ⟨G,rfl,-,h⟩;exact⟨G,rfl,(h 0 0 0 0 fun _ _=>0).lt⟩
 case by_=>
  rintro v w' ⟨G,rfl,-,h⟩;exact⟨G,rfl,(h 0 0 0 0 fun _ _=>0).lt⟩
 case mk=>
  intro i hi;rcases hi with rfl|rfl
  ·refine⟨rfl,fun a w' hB ho hp=>⟨.slice (some ⟨w'.heap.size,0,none⟩) R R,_, ?_,⟨w'.heap.size,rfl,hB.size,fun b' c k kc F=>PB.made w' b' R c k kc F⟩,zba w' _,rfl⟩⟩;have e:a.eval (.tmp 23)= .int .i64 (R:Int):=hp 1 23 (by kernel_rfl);exact r_k rfl e e (run_mkP w' R (by omega))
  ·refine⟨rfl,fun a w' hB ho hp=>⟨.slice (some ⟨w'.heap.size,0,none⟩) S S,_, ?_,⟨w'.heap.size,rfl,hB.size,fun b' c k kc F=>PB.made w' b' S c k kc F⟩,zba w' _,rfl⟩⟩;have e:a.eval (.tmp 26)= .int .i64 (S:Int):=hp 4 26 (by kernel_rfl);exact r_k rfl e e (run_mkP w' S (by omega))
 intro w3 Gr Gc B3 hneRC;rintro v ⟨⟨Gr',rfl,hGr,hr0⟩,eR⟩;have eR':Gr=Gr':=(Option.some.inj eR).symm;subst eR';clear eR;rintro v ⟨⟨Gc',rfl,hGc,hc0⟩,eC⟩;have eC':Gc=Gc':=(Option.some.inj eC).symm;subst eC';clear eC;rintro g6 hg6 hl6 hc6 -;rintro g7 hg7 hl7 hc7 ⟨ne67,-⟩;change Shut (wpList _ _ _ [_,_] _ _);refine⟨?_⟩;simp only[Act.put,lS,lZ,lC];have b6:Bx w3 g6 88 [.slice none 0 0]:=hc6.trans (congrArg some (by kernel_rfl));have b7:Bx w3 g7 88 [.slice none 0 0]:=hc7.trans (congrArg some (by kernel_rfl));have lr:=(hr0 0 0 0 0 fun _ _=>0).lt;have lc:=(hc0 0 0 0 0 fun _ _=>0).lt;have ptyp:∀ {g N:Nat} {T:TypeId} {cs:List Value} {g'},PB 0 w3 g N 0 0 0 0 (fun _ _=>0)→Bx w3 g' T cs→90≠T→g≠g':=fun {g N T cs g'} h b hT e=>by
  obtain⟨c,h1,-⟩:=h;subst e;unfold Bx at b;rw[b]at h1;injection h1 with h3
  injection h3 with _ h4
  exact hT h4.symm
 have nr6:=ptyp (hr0 0 0 0 0 fun _ _=>0) b6 (by decide);have nr7:=ptyp (hr0 0 0 0 0 fun _ _=>0) b7 (by decide);have nc6:=ptyp (hc0 0 0 0 0 fun _ _=>0) b6 (by decide);have nc7:=ptyp (hc0 0 0 0 0 fun _ _=>0) b7 (by decide);clear ptyp;have i6:=b6.cell 0;have i6':=b6.free 0;have i7:=b7.cell 0;have i7':=b7.free 0;simp only[List.getElem?_cons_zero]at i6 i7;have l2:=b2.lt;have l3:=b3.lt;have l4:=b4.lt;replace B0:=zup B0 B3;replace b2:=b2.below B3;replace b3:=b3.below B3;replace b4:=b4.below B3;have gr6:w3.grownBy (w3.setCell ⟨g6,0,none⟩ (.slice (some ⟨Gr,0,none⟩) R R)) (some g6):=a_n (q:=⟨g6,0,none⟩) (a_u w3 (some g6)) rfl _;have no6:Wless w3 g6:=b6.now (by simp);obtain⟨bs,hbs⟩:∃bs,w3.heap.size=bs:=⟨_,rfl⟩;have hr:=(hr0 bs C kp kc F).gro nr6 (by omega) no6 gr6;have hc:=(hc0 bs C kp kc fun j l=>G l j).gro nc6 (by omega) no6 gr6;replace b2:=a_a b2 gr6 (by omega);replace b3:=a_a b3 gr6 (by omega);replace b4:=a_a b4 gr6 (by omega);replace b7:=a_a b7 gr6 (Ne.symm ne67);replace b6:=b6.set 0 (.slice (some ⟨Gr,0,none⟩) R R);replace B0:=a_c B0 gr6 (by have:=B0.size;omega);obtain⟨w4,hw4⟩:∃x,w3.setCell ⟨g6,0,none⟩ (.slice (some ⟨Gr,0,none⟩) R R)=x:=⟨_,rfl⟩;have hs4:=gr6.size;rw[hw4]at hr hc b2 b3 b4 b7 b6 B0 hs4;have gr7:w4.grownBy (w4.setCell ⟨g7,0,none⟩ (.slice (some ⟨Gc,0,none⟩) S S)) (some g7):=a_n (q:=⟨g7,0,none⟩) (a_u w4 (some g7)) rfl _;have no7:Wless w4 g7:=b7.now (by simp);replace hr:=hr.gro nr7 (by omega) no7 gr7;replace hc:=hc.gro nc7 (by omega) no7 gr7;replace b2:=a_a b2 gr7 (by omega);replace b3:=a_a b3 gr7 (by omega);replace b4:=a_a b4 gr7 (by omega);replace b6:=a_a b6 gr7 ne67;replace b7:=b7.set 0 (.slice (some ⟨Gc,0,none⟩) S S);have hw0:w.heap.size≤w2.heap.size:=by omega
 replace B0:=a_c B0 gr7 (by omega);obtain⟨w5,hw5⟩:∃x,w4.setCell ⟨g7,0,none⟩ (.slice (some ⟨Gc,0,none⟩) S S)=x:=⟨_,rfl⟩;have hs5:=gr7.size;rw[hw5]at hr hc b2 b3 b4 b6 b7 B0 hs5;have HW5:Hid ((w3.setCell ⟨g6,0,none⟩ (.slice (some ⟨Gr,0,none⟩) R R)).setCell ⟨g7,0,none⟩ (.slice (some ⟨Gc,0,none⟩) S S)=w5):=Lib.hid (by rw[hw4];exact hw5);have n67:¬g6=g7:=ne67;have n76:¬g7=g6:=Ne.symm ne67;have hrb:Gr<bs:=by omega
 have hcb:Gc<bs:=by omega
 have h6b:g6<bs:=by omega
 have h7b:g7<bs:=by omega
 have hbsw:bs≤w5.heap.size:=by omega
 have HR0:=Lib.hid hr;clear gr6 gr7 no6 no7 hw4 hw5 hc6 hc7 hr0 hc0 B3
 go_wp2_with fail
 refine k_d ?_;go_upto_region 4 with fail
 rw[HW5.out];clear i6 i6' i7 i7' HW5;have hRC:Gr≠Gc:=hneRC;obtain⟨w5',hw5'⟩:∃x,x=w5:=⟨_,rfl⟩;have H0:Hid (w5.grownBy w5 (some Gr)∧PB bs w5 Gr R 0 C kp kc F):=Lib.hid ⟨a_u _ _,hr⟩;have c6:=b6.cell 0;have HC0:=Lib.hid hc;clear hr hc hw5' w5'
 go_wp2_with fail
 clear c6;go_loopw [30] (fun s30 wr=>∃i:Nat,s30= .int .i64 (i:Int)∧i≤R∧Hid (w5.grownBy wr (some Gr)∧PB bs wr Gr R i C kp kc F)) (fun s30 _=>R - (intOf s30).toNat)
 case atStart=>exact⟨0,rfl,Nat.zero_le _,H0⟩
 case round=>
  clear H0;obtain⟨i,rfl,hi,HB⟩:=hrel;obtain⟨hG,hr⟩:=HB.out;clear HB;have hGs:=hG.size;have lrr:=hr.lt;by_cases hlt:i<R
  ·have u1:(i:Int)<(R:Int):=by omega
   have b2r:=a_a b2 hG (by omega);have b6r:=a_a b6 hG (by omega);have BW:=a_c B0 hG (by omega);obtain⟨Ar,dr,hrow⟩:=x_x HA.out hlt;go_upto_region 7 with fail
   refine Run.start 7 ?_;refine .ld .o (ldPl b6r 0) ?_;refine .mv .o ?_;refine .ld .o (ldQm b2r 0) ?_;refine .mv .o ?_;refine .c2 (.i 2) (.i 3) (x:=.k (.slice Ar C dr)) (by rintro u v w4 hB rfl rfl;exact(hrow w4 (zup BW hB)).2) ?_;refine .c1 (.i 4) (x:=kPt wr.heap.size C kp kc (F i)) (by rintro u w4 hB rfl;exact t_5 (hrow w4 (zup BW hB)).1 (by omega) hk0 HKP.out HKC.out (by omega) hB.size) ?_;refine .two (.i 0) (.i 1) (opIxP hlt) ?_;refine .done [some 33,some 34,some 35,some 36,some 37,some 38,some 39] ?_;intro w7 B7;rintro v ⟨gn,sa,Aa,na,ca,sb,Ab,nb,cb,rfl,hp⟩;change Shut (wpList _ _ _ [_] _ _);refine⟨?_⟩;simp only[Act.put,lS,lZ,lC];clear b2r b6r hrow;replace hr:=hr.below B7;have hm5:i*5+4<R*5:=by omega
   obtain⟨u0,x0⟩:=hr.any (t:=i*5) (by omega);obtain⟨u1_,x1⟩:=hr.any (t:=i*5+1) (by omega);obtain⟨u2_,x2⟩:=hr.any (t:=i*5+2) (by omega);obtain⟨u3_,x3⟩:=hr.any (t:=i*5+3) (by omega);obtain⟨u4_,x4⟩:=hr.any (t:=i*5+4) (by omega);have y0:=hr.free (i*5);have y1:=hr.free (i*5+1);have y2:=hr.free (i*5+2);have y3:=hr.free (i*5+3);have y4:=hr.free (i*5+4);have hs:=hr.put hlt (by omega) ⟨hp.1,by have:=hp.2.1;omega,hp.2.2⟩;have hgr:=pputo_gro w7 Gr (i*5) (.slice (some ⟨gn,0,none⟩) C C) (.bool sa) (.slice Aa na ca) (.bool sb) (.slice Ab nb cb);have HN:Hid (w5.grownBy (pputo w7 Gr (i*5) (.slice (some ⟨gn,0,none⟩) C C) (.bool sa) (.slice Aa na ca) (.bool sb) (.slice Ab nb cb)) (some Gr)∧PB bs (pputo w7 Gr (i*5) (.slice (some ⟨gn,0,none⟩) C C) (.bool sa) (.slice Aa na ca) (.bool sb) (.slice Ab nb cb)) Gr R (i+1) C kp kc F):=Lib.hid ⟨b_e (b_e hG (e_1 B7 _)) hgr,hs⟩;unfold pputo at HN;clear hr hs hgr hp B7 hG BW
   go_wp2_with fail
   clear x0 x1 x2 x3 x4 y0 y1 y2 y3 y4;go_roundw
   case rel=>exact⟨i+1,by go_num,by omega,HN⟩
   case measure=>first|(simp[intOf];done)|(simp[intOf];omega)
  ·obtain rfl:i=R:=by omega
   have u1:¬(i:Int)<(i:Int):=by omega
   have b2r:=a_a b2 hG (by omega);have b3r:=a_a b3 hG (by omega);have b4r:=a_a b4 hG (by omega);have b6r:=a_a b6 hG (by omega);have b7r:=a_a b7 hG (by omega);have BW0:=a_c B0 hG (by omega);have hc:=HC0.out.gro (Ne.symm hRC) hrb (HR0.out.now) hG;have HRr:=Lib.hid hr;obtain⟨wm,hwm⟩:∃x,x=wr:=⟨_,rfl⟩;subst hwm;have H0:Hid (wm.grownBy wm (some Gc)∧PB bs wm Gc S 0 C kp kc (fun j l=>G l j)):=Lib.hid ⟨a_u _ _,hc⟩;have c7:=b7r.cell 0;have HCm:=Lib.hid hc;clear hr hc hG HC0 HR0 b2 b3 b4 b6 b7 B0
   go_wp2_with fail
   clear c7;go_loopw [43] (fun s43 wr=>∃j:Nat,s43= .int .i64 (j:Int)∧j≤S∧Hid (wm.grownBy wr (some Gc)∧PB bs wr Gc S j C kp kc (fun j l=>G l j))) (fun s43 _=>S - (intOf s43).toNat)
   case atStart=>exact⟨0,rfl,Nat.zero_le _,H0⟩
   case round=>
    clear H0;obtain⟨j,rfl,hj,HB⟩:=hrel;obtain⟨hG,hc⟩:=HB.out;clear HB;have hGs2:=hG.size;have lcc:=hc.lt;by_cases hlt:j<S
    ·have u2:(j:Int)<(S:Int):=by omega
     have b3s:=a_a b3r hG (by omega);have b7s:=a_a b7r hG (by omega);have BW:=a_c BW0 hG (by omega);go_upto_region 12 with fail
     refine Run.start 7 ?_;refine .ld .o (ldPl b7s 0) ?_;refine .mv .o ?_;refine .ld .o (ldQm b3s 0) ?_;refine .mv .o ?_;refine .c2 (.i 2) (.i 3) (x:=kQl false C k (qrw C fun l=>G l j)) (by rintro u v w4 hB rfl rfl;exact t_a (HB_.out.below (zup BW hB)) hlt) ?_;refine .c1 (.i 4) (x:=kPt wr.heap.size C kp kc (fun l=>G l j)) (by rintro u w4 hB ⟨A',d',rfl,hq⟩;exact t_5 hq (by omega) hk0 HKP.out HKC.out (by omega) hB.size) ?_;refine .two (.i 0) (.i 1) (opIxP hlt) ?_;refine .done [some 46,some 47,some 48,some 49,some 50,some 51,some 52] ?_;intro w7 B7;rintro v50 -;rintro v ⟨gn,sa,Aa,na,ca,sb,Ab,nb,cb,rfl,hp⟩;change Shut (wpList _ _ _ [_] _ _);refine⟨?_⟩;simp only[Act.put,lS,lZ,lC];clear b3s b7s;replace hc:=hc.below B7;have hm5:j*5+4<S*5:=by omega
     obtain⟨u0,x0⟩:=hc.any (t:=j*5) (by omega);obtain⟨u1_,x1⟩:=hc.any (t:=j*5+1) (by omega);obtain⟨u2_,x2⟩:=hc.any (t:=j*5+2) (by omega);obtain⟨u3_,x3⟩:=hc.any (t:=j*5+3) (by omega);obtain⟨u4_,x4⟩:=hc.any (t:=j*5+4) (by omega);have y0:=hc.free (j*5);have y1:=hc.free (j*5+1);have y2:=hc.free (j*5+2);have y3:=hc.free (j*5+3);have y4:=hc.free (j*5+4);have hs:=hc.put hlt (by omega) ⟨hp.1,by have:=hp.2.1;omega,hp.2.2⟩;have hgr:=pputo_gro w7 Gc (j*5) (.slice (some ⟨gn,0,none⟩) C C) (.bool sa) (.slice Aa na ca) (.bool sb) (.slice Ab nb cb);have HN:Hid (wm.grownBy (pputo w7 Gc (j*5) (.slice (some ⟨gn,0,none⟩) C C) (.bool sa) (.slice Aa na ca) (.bool sb) (.slice Ab nb cb)) (some Gc)∧PB bs (pputo w7 Gc (j*5) (.slice (some ⟨gn,0,none⟩) C C) (.bool sa) (.slice Aa na ca) (.bool sb) (.slice Ab nb cb)) Gc S (j+1) C kp kc (fun j l=>G l j)):=Lib.hid ⟨b_e (b_e hG (e_1 B7 _)) hgr,hs⟩;unfold pputo at HN;clear hc hs hgr hp B7 hG BW
     go_wp2_with fail
     clear x0 x1 x2 x3 x4 y0 y1 y2 y3 y4;go_roundw
     case rel=>exact⟨j+1,by go_num,by omega,HN⟩
     case measure=>first|(simp[intOf];done)|(simp[intOf];omega)
    ·obtain rfl:j=S:=by omega
     have u2:¬(j:Int)<(j:Int):=by omega
     have b2s:=a_a b2r hG (by omega);have b3s:=a_a b3r hG (by omega);have b4s:=a_a b4r hG (by omega);have b6s:=a_a b6r hG (by omega);have b7s:=a_a b7r hG (by omega);have BW:=a_c BW0 hG (by omega);have hr:=HRr.out.gro hRC hcb (HCm.out.now) hG;clear hG b2r b3r b4r b6r b7r BW0 HRr;go_upto_region 14 with fail
     refine Run.start 6 ?_;refine .fa .o (fQ0 0) ?_;refine .ld (.i 0) (ldInt b2s 0) ?_;refine .fa .o (fQ1 1) ?_;refine .ld (.i 2) (ldInt b3s 1) ?_;refine .fn [] [.o,.o] [] [_,_] (trivial) (⟨rfl,rfl,trivial⟩) ?_;refine .c3 (.i 1) (.i 3) (.i 4) (x:=kMw w.heap.size i j K fun a b=>RT.mul C F G a b) (by rintro u v x w4 hB rfl rfl rfl;exact(i_u hR hS (by kernel_rfl) (fun a b W ha hb hW=>by rw[argsO];exact qmul1_q ((b6s.below hB).below hW) ((b7s.below hB).below hW) ((hr.below hB).below hW) ((hc.below hB).below hW) ha hb hC (by omega) hKb)).mono fun e w' h=>h.mono fun v w2 ⟨A,n,d,e,h1⟩=>⟨A,n,d,e,h1.low (zup BW hB).size⟩) ?_;refine .donep [some 54,some 55,some 56,some 57,some 58,some 59] ?_;intro w8 B8;rintro v ⟨A_,n_,d_,rfl,hM⟩;change Shut (wpList _ _ _ [_,_] _ _);refine⟨?_⟩;simp only[Act.put,lS,lZ,lC];clear hr hc b6s b7s b2s b3s;have P:=Lib.hid (retMwE hM (b4s.below B8) (by omega) (zup BW B8));unfold mput at P;obtain⟨i0,i1,i2,i3,i4,i5,i6⟩:=(b4s.below B8).m3;clear hM
     go_wp2_with fail
     exact bodyPost_ret (v:=.tuple #[.agg #[.int .i64 (i:Int),.int .i64 (j:Int),.slice A_ n_ d_],.int .i64 0]) (by simp[results,Tryz.results20,go_sem,i0,i1,i2]) rfl P.out
end Go.Proofs.YtkgghhklbbfdiaaGreat
end
