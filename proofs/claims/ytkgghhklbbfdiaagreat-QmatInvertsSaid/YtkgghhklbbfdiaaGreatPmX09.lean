/- PmX09 -/
import Derived.Test.YtkgghhklbbfdiaaGreatPmX04
import Derived.Test.YtkgghhklbbfdiaaGreatPmX05
import Derived.Test.YtkgghhklbbfdiaaGreatPmX06
set_option linter.unusedVariables false
set_option linter.unusedSimpArgs false
set_option linter.unusedSectionVars false
set_option maxRecDepth 100000
set_option maxHeartbeats 8000000
namespace Go.Proofs.YtkgghhklbbfdiaaGreat
section
namespace RT
open DT (Inc sw sortP skip)
variable {α:Type}[CR α]
variable[Dom α]
attribute [local simp] a_d a_h a_o a_g a_f a_l a_m
variable {R C:Nat}{M N H K:Mx α}{u v:Nat→α}
attribute [local instance] rdvd
theorem mul_assoc' (n m:Nat)(A B C:Mx α):mul m (mul n A B) C=mul n A (mul m B C):=by
 funext i j
 unfold mul;rw[sum_ext (g:=fun k=>sumN n fun l=>A i l*(B l k*C k j)) fun k _=>by rw[←sum_mul'];exact sum_ext fun l _=>by grind];rw[d_e];exact sum_ext fun l _=>sum_mul _ _ _
theorem one_mul' {n:Nat}(M:Mx α){i:Nat}(hi:i<n)(j:Nat):mul n one M i j=M i j:=by
 unfold mul;rw[a_s hi fun k _ hne=>by rw[b_a fun e=>hne e.symm];simp,a_q,a_g]
theorem l_k {n:Nat}{A A' B B':Mx α}{i j:Nat}(h:∀k,k<n→A i k=A' i k)(h2:∀k,k<n→B k j=B' k j):mul n A B i j=mul n A' B' i j:=
 sum_ext fun k hk=>by rw[h k hk,h2 k hk]
end RT
end
section
namespace RT
attribute [local instance] rdvd
open DT (Inc)
variable {α:Type}[CR α]
variable[Fld α]
attribute [local simp] a_d a_h a_o a_g a_f a_l a_m
variable {R C:Nat}{M N H K A:Mx α}{u v:Nat→α}{p q:List Nat}
theorem g_k {n:Nat}{A X:Mx α}(h:∀i j,i<n→j<n→mul n A X i j=one i j):det n A∣1:=⟨det n X,by rw[←d_l,det_ext h,det_one]⟩
theorem inv_left {n:Nat}{A X:Mx α}(h:∀i j,i<n→j<n→mul n A X i j=one i j):∀i j,i<n→j<n→mul n X A i j=one i j:=by
 obtain⟨V,h1,h2⟩:=unim (g_k h);have e:∀i j,i<n→j<n→X i j=V i j:=fun i j hi hj=>by
  rw[←one_mul' X hi j,←l_k (A:=mul n V A) (B:=X) (fun k hk=>h1 i k hi hk) fun _ _=>rfl,mul_assoc'];rw[l_k (A':=V) (B':=one) (fun _ _=>rfl) fun k hk=>h k j hk hj];unfold mul;rw[a_s hj fun k hk hne=>by rw[b_a hne];simp,a_q];simp
 intro i j hi hj;rw[←h1 i j hi hj];exact l_k (fun k hk=>e i k hi hk) fun _ _=>rfl
theorem rk_full {n:Nat}:rk n n A=n↔det n A≠0:=by
 have h:=p_d (R:=n) (C:=n) (M:=A) n;have h1:=rk_le_R (R:=n) (C:=n) (M:=A);have h2:DvAll n n n 0 A↔det n A=0:=by
  constructor
  ·intro h3
   have:=rzero_dvd.mp (h3 (fun i=>i) (fun i=>i) ⟨fun i _=>Nat.lt_succ_self i,fun i h=>h⟩ ⟨fun i _=>Nat.lt_succ_self i,fun i h=>h⟩);exact this
  ·intro h3 f g hf hg;have e:∀ {k:Nat} {f:Nat→Nat},Inc k k f→∀i,i<k→f i=i:=fun {k f} hf i hi=>by
    have lo:∀i,i<k→i≤f i:=fun i=>by
     induction i with
     |zero=>intro _;omega
     |succ i ih=>intro h;have:=ih (by omega);have:=hf.up i h;omega
    have hi':∀d i,i+d+1=k→f i≤i:=fun d=>by
     induction d with
     |zero=>intro i h;have:=hf.lt i (by omega);omega
     |succ d ih=>intro i h;have:=ih (i+1) (by omega);have:=hf.up i (by omega);omega
    have:=lo i hi;have:=hi' (k - i - 1) i (by omega);omega
   rw[det_ext (N:=A) fun i j hi hj=>by rw[e hf i hi,e hg j hj],h3];exact d_u 0
 rw[h2]at h;constructor
 ·intro h3 h4;have:=h.mp h4;omega
 ·intro h3;rcases Nat.lt_or_ge (rk n n A) n with h4|h4
  ·exact absurd (h.mpr h4) h3
  ·omega
theorem rk_of_inv {n:Nat}{A X:Mx α}(h:∀i j,i<n→j<n→mul n A X i j=one i j):rk n n A=n:=rk_full.mpr fun h0=>by
 have h1:=g_k h;rw[h0]at h1;exact Fld.ne (rzero_dvd.mp h1)
theorem RedOf.inv {n:Nat}{A M:Mx α}(h:RedOf n (n+n) (RT.bsd n A one) M p)(hp:RT.rk n n A=n):∀i j,i<n→j<n→mul n A (fun i j=>M i (n+j)) i j=one i j:=by
 obtain⟨l,h1,h2⟩:=h.bsd;have hlen:p.length=n:=by
  have h3:=h.shape.le;have h4:(RT.piv n A n).length=n:=hp;rw[h1,List.length_append,h4]at h3;rw[h1,List.length_append,h4];omega
 have hcol:=h.rk_bsd.mpr (by rw[hlen,hp]);have hid:∀r,r<n→p.getD r 0=r:=fun r hr=>by
  have hi:=h.shape.inc;rw[hlen]at hi hcol;have lo:∀i,i<n→i≤p.getD i 0:=fun i=>by
   induction i with
   |zero=>intro _;omega
   |succ i ih=>intro h;have:=ih (by omega);have:=hi.up i h;omega
  have hi':∀d i,i+d+1=n→p.getD i 0≤i:=fun d=>by
   induction d with
   |zero=>intro i h;have:=hcol i (by omega);omega
   |succ d ih=>intro i h;have:=ih (i+1) (by omega);have:=hi.up i (by omega);omega
  have:=lo r hr;have:=hi' (n - r - 1) r (by omega);omega
 intro i j hi hj;have h3:=h.hang hi (j:=n+j) (by omega);rw[hlen,bsd_r]at h3;rw[h3];unfold mul;exact sum_ext fun r hr=>by rw[hid r hr,t_f i hr]
end RT
end
section
namespace RT
attribute [local instance] rdvd
attribute [local simp] a_d a_h a_o a_g a_f a_l a_m
open DT (Inc)
section
variable {R C S:Nat}{A B M:Mx Rat}{p:List Nat}
theorem rdP_rk (R C:Nat)(A:Mx Rat):(rdP R C A).length=rk R C A:=rfl
end
end RT
end
section
open Go.RowKit
theorem p_k {q:Bool}{r n d k:Nat}{A:Option Addr}{F:Nat→Nat→Rat}{w:World}(ha:Mq q w r r A n d k F)(hF:∀i j,i<r→j<r→F i j=if i=j then 1 else 0)(hk0:1≤k)(hk:k≤1073741824):Calls Tryz.prog 22 #[.agg #[.int .i64 (r:Int),.int .i64 (r:Int),.slice A n d]] w (RetK (.k (.bool true)) w):=by
 have hr:=ha.hr;have HX:=Lib.hid ha;have HF:=Lib.hid hF;clear ha hF;obtain⟨w1,hw1,b1,z1,s1⟩:=boxes1 w 24 [.int .i64 (r:Int),.int .i64 (r:Int),.slice A n d];have HW:=Lib.hid hw1;have HZ:=Lib.hid z1;clear hw1 z1 s1;go_enter Tryz.func22,Tryz.ntmps22
 go_upto_region 1 with fail
 rw[HW.out];have HB:Hid (Below w.heap.size w w1∧Bx w1 w.heap.size 24 [.int .i64 (r:Int),.int .i64 (r:Int),.slice A n d]):=Lib.hid ⟨HZ.out,b1⟩;clear b1 HW HZ
 go_wp2_with fail
 go_loopw [3] (fun s3 wr=>∃i:Nat,s3= .int .i64 (i:Int)∧i≤r∧Hid (Below w.heap.size w wr∧Bx wr w.heap.size 24 [.int .i64 (r:Int),.int .i64 (r:Int),.slice A n d])) (fun s3 _=>r - (intOf s3).toNat)
 case atStart=>exact⟨0,rfl,Nat.zero_le _,HB⟩
 case round=>
  clear HB;obtain⟨i,rfl,hi,HB⟩:=hrel;obtain⟨B0,b1⟩:=HB.out;obtain⟨i0,i1,i2,i3,i4,i5,i6⟩:=b1.m3T;by_cases hlt:i<r
  ·have u1:(i:Int)<(r:Int):=by omega
   go_wp2_with fail
   clear i0 i1 i2 i3 i4 i5 i6 b1 B0;go_loopw [4] (fun s4 wr=>∃j:Nat,s4= .int .i64 (j:Int)∧j≤r∧Hid (Below w.heap.size w wr∧Bx wr w.heap.size 24 [.int .i64 (r:Int),.int .i64 (r:Int),.slice A n d])) (fun s4 _=>r - (intOf s4).toNat)
   case atStart=>exact⟨0,rfl,Nat.zero_le _,HB⟩
   case round=>
    clear HB;obtain⟨j,rfl,hj,HB⟩:=hrel;obtain⟨B0,b1⟩:=HB.out;clear HB;obtain⟨i0,i1,i2,i3,i4,i5,i6⟩:=b1.m3T;by_cases hjl:j<r
    ·have u2:(j:Int)<(r:Int):=by omega
     go_upto_region 7 with fail
     clear i0 i1 i2 i3 i4 i5 i6;refine Run.start 2 ?_;refine .c1 .o (x:=kC 0 1) (by rintro u w2 hB rfl;exact e_h (by decide) (by decide) w2) ?_;refine .al ?_;refine .donep [some 18,some 5] ?_;intro w2 B2;rintro v0 ⟨s8,A8,n8,d8,rfl,hz8,hk8⟩;rintro g5 hg5 hl5 hc5 -;change Shut (wpList _ _ _ [_] _ _);refine⟨?_⟩;simp only[Act.put,lS,lZ,lC];have b5:=zeroZ (T:=0) hc5;have hl1:=b1.lt;have hB0:=B0.size;replace B0:=zup B0 B2;replace b1:=b1.below B2;clear B2 hc5 hl5;obtain⟨w3,hw3⟩:∃x,zput w2 g5 s8 A8 n8 d8=x:=⟨_,rfl⟩;obtain⟨f1_,f2_,f3_,f4_,f5_⟩:=Ib.entry b5;replace b1:=b1.zo (g:=g5) (s:=s8) (A:=A8) (n:=n8) (c:=d8) (by omega);rw[hw3]at b1;replace hz8:=hz8.zp (s':=s8) (A':=A8) (n':=n8) (c':=d8) b5;rw[hw3]at hz8;replace B0:=b_h (g:=g5) (s:=s8) (A:=A8) (n:=n8) (c:=d8) B0 (by omega);rw[hw3]at B0;replace b5:=b5.zp (s:=s8) (A:=A8) (n:=n8) (c:=d8);rw[hw3]at b5;have Hw3:=Lib.hid hw3;unfold zput at Hw3;clear hw3;go_upto_region 8 with fail
     rw[Hw3.out];clear f1_ f2_ f3_ f4_ f5_ Hw3;have hl5:=b5.lt;have hB3:=B0.size;by_cases hij:i=j
     ·have u3:(i:Int)=(j:Int):=by omega
      clear hz8;go_upto_region 9 with fail
      clear u3;refine Run.start 1 ?_;refine .c1 .o (x:=kC 1 1) (by rintro u w2 hB rfl;exact e_h (by decide) (by decide) w2) ?_;refine .donep [some 22] ?_;intro w4 B4;rintro v0 ⟨s9,A9,n9,d9,rfl,hz9,hk9⟩;change Shut (wpList _ _ _ [_] _ _);refine⟨?_⟩;simp only[Act.put,lS,lZ,lC];replace B0:=zup B0 B4;replace b1:=b1.below B4;replace b5:=b5.below B4;clear B4;obtain⟨w5,hw5⟩:∃x,zput w4 g5 s9 A9 n9 d9=x:=⟨_,rfl⟩;obtain⟨f1_,f2_,f3_,f4_,f5_⟩:=Ib.entry b5;replace b1:=b1.zo (g:=g5) (s:=s9) (A:=A9) (n:=n9) (c:=d9) (by omega);rw[hw5]at b1;replace hz9:=hz9.zp (s':=s9) (A':=A9) (n':=n9) (c':=d9) b5;rw[hw5]at hz9;replace B0:=b_h (g:=g5) (s:=s9) (A:=A9) (n:=n9) (c:=d9) B0 (by omega);rw[hw5]at B0;replace b5:=b5.zp (s:=s9) (A:=A9) (n:=n9) (c:=d9);rw[hw5]at b5;have Hw5:=Lib.hid hw5;unfold zput at Hw5;clear hw5;go_upto_region 10 with fail
      rw[Hw5.out];clear f1_ f2_ f3_ f4_ f5_ Hw5;refine Run.start 8 ?_;refine .ld .o (ldQm b1 0) ?_;refine .mv .o ?_;refine .mv .o ?_;refine .c3 (.i 0) (.i 1) (.i 2) (x:=kQv (F i j) k) (by rintro u v x w4 hB rfl rfl rfl;exact c_4 (HX.out.below (zup B0 hB)) hlt hjl) ?_;refine .ld .o (ldZ b5 0) ?_;refine .c1 (.i 4) (x:=kQ ((1:Int):Rat) 1) (by rintro u w4 hB rfl;exact h_m 1 ⟨_,_,_,_,rfl,(hz9.below hB).zv,hk9⟩ (Nat.le_refl _) (Nat.le_refl _) (by omega)) ?_;refine .c2 (.i 3) (.i 5) (x:=.k (.int .i64 0)) (by intro u v w4 hB hu hv;exact g_y k hu hv.v (Nat.le_refl _) hk0 hk0 hk (rsg_sub_zero.2 (by rw[HF.out i j hlt hjl];rw[if_pos hij];rfl))) ?_;refine .two (.i 6) .o (opNe (by decide:decide ((0:Int)≠0)=false)) ?_;refine .done [some 23,some 24,some 25,some 26,some 27,some 28,some 29,some 30] ?_;intro w6 B6;rintro v26 -;rintro v28 -;change Shut (wpList _ _ _ [] _ _);refine⟨?_⟩;simp only[Act.put,lS,lZ,lC];have HN:Hid (Below w.heap.size w w6∧Bx w6 w.heap.size 24 [.int .i64 (r:Int),.int .i64 (r:Int),.slice A n d]):=Lib.hid ⟨zup B0 B6,b1.below B6⟩;clear B0 b1 b5 B6 hz9
      go_wp2_with fail
      go_roundw
      case rel=>exact⟨j+1,by go_num,by omega,HN⟩
      case measure=>first|(simp[intOf];done)|(simp[intOf];omega)
     ·have u3:¬(i:Int)=(j:Int):=by omega
      go_upto_region 10 with fail
      clear u3;refine Run.start 8 ?_;refine .ld .o (ldQm b1 0) ?_;refine .mv .o ?_;refine .mv .o ?_;refine .c3 (.i 0) (.i 1) (.i 2) (x:=kQv (F i j) k) (by rintro u v x w4 hB rfl rfl rfl;exact c_4 (HX.out.below (zup B0 hB)) hlt hjl) ?_;refine .ld .o (ldZ b5 0) ?_;refine .c1 (.i 4) (x:=kQ ((0:Int):Rat) 1) (by rintro u w4 hB rfl;exact h_m 1 ⟨_,_,_,_,rfl,(hz8.below hB).zv,hk8⟩ (Nat.le_refl _) (Nat.le_refl _) (by omega)) ?_;refine .c2 (.i 3) (.i 5) (x:=.k (.int .i64 0)) (by intro u v w4 hB hu hv;exact g_y k hu hv.v (Nat.le_refl _) hk0 hk0 hk (rsg_sub_zero.2 (by rw[HF.out i j hlt hjl];rw[if_neg hij];rfl))) ?_;refine .two (.i 6) .o (opNe (by decide:decide ((0:Int)≠0)=false)) ?_;refine .done [some 23,some 24,some 25,some 26,some 27,some 28,some 29,some 30] ?_;intro w6 B6;rintro v26 -;rintro v28 -;change Shut (wpList _ _ _ [] _ _);refine⟨?_⟩;simp only[Act.put,lS,lZ,lC];have HN:Hid (Below w.heap.size w w6∧Bx w6 w.heap.size 24 [.int .i64 (r:Int),.int .i64 (r:Int),.slice A n d]):=Lib.hid ⟨zup B0 B6,b1.below B6⟩;clear B0 b1 b5 B6 hz8
      go_wp2_with fail
      go_roundw
      case rel=>exact⟨j+1,by go_num,by omega,HN⟩
      case measure=>first|(simp[intOf];done)|(simp[intOf];omega)
    ·obtain rfl:j=r:=by omega
     have u2:¬(j:Int)<(j:Int):=by omega
     have HN:Hid (Below w.heap.size w wr∧Bx wr w.heap.size 24 [.int .i64 (j:Int),.int .i64 (j:Int),.slice A n d]):=Lib.hid ⟨B0,b1⟩
     go_wp2_with fail
     go_roundw
     case rel=>exact⟨i+1,by go_num,by omega,HN⟩
     case measure=>first|(simp[intOf];done)|(simp[intOf];omega)
  ·obtain rfl:i=r:=by omega
   have u1:¬(i:Int)<(i:Int):=by omega
   clear HB
   go_wp2_with fail
   exact bodyPost_ret (v:=.bool true) (by simp[results,Tryz.results22,go_sem]) rfl (a_9 rfl B0)
end
section
open Go.RowKit
theorem v_n {r c:Int}{n d:Nat}{A:Option Addr}{w:World}(h:(fmd r c n&&decide (r=c))=false):Calls Tryz.prog 19 #[.agg #[.int .i64 r,.int .i64 c,.slice A n d]] w (RetK (noM 2) w):=by
 obtain⟨t1,h1⟩:∃t,fmd r c n=t:=⟨_,rfl⟩;obtain⟨t2,h2⟩:∃t,decide (r≠c)=t:=⟨_,rfl⟩;have h3:(t1&& !t2)=false:=by rw[←h1,←h2];simpa using h
 obtain⟨w1,hw1,b1,b2,z1,s1⟩:=boxes2 w 24 24 [.int .i64 r,.int .i64 c,.slice A n d] [.int .i64 0,.int .i64 0,.slice none 0 0];have HW:=Lib.hid hw1;have HZ:=Lib.hid z1;have h1_:=Lib.hid h1;have h2_:=Lib.hid h2;have h3_:=Lib.hid h3;clear hw1 z1 h1 h2 h3 s1 h;go_enter Tryz.func19,Tryz.ntmps19
 go_upto_region 1 with fail
 rw[HW.out];cases t1
 ·skip
  refine Run.start 10 ?_;refine .ld .o (ldQm b1 0) ?_;refine .c1 (.i 0) (x:=.k (.bool false)) (by rintro u w2 hB rfl;exact b_m h1_.out w2) ?_;refine .nf (.i 1) ?_;refine .mv (.i 2) ?_;refine .no ?_;refine .no ?_;refine .no ?_;refine .no ?_;refine .no ?_;refine .pk (.i 3) .o true ?_;refine .donep [some 6,some 7,some 8,some 9,some 10,some 11,some 12,some 13,some 14,some 15] ?_;intro w2 B2;change Shut (wpList _ _ _ [] _ _);refine⟨?_⟩;simp only[Act.put,lS,lZ,lC];have P:=Lib.hid (retNoT (e':=2) (b2.below B2) (by omega) (zup HZ.out B2));unfold mput at P;obtain⟨i0,i1,i2,i3,i4,i5,i6⟩:=(b2.below B2).m3
  go_wp2_with fail
  exact bodyPost_ret (v:=.tuple #[.agg #[.int .i64 0,.int .i64 0,.slice none 0 0],.int .i64 2]) (by simp[results,Tryz.results19,go_sem,i0,i1,i2]) rfl P.out
 ·obtain rfl:t2=true:=by have:=h3_.out;simpa using this
  refine Run.start 10 ?_;refine .ld .o (ldQm b1 0) ?_;refine .c1 (.i 0) (x:=.k (.bool true)) (by rintro u w2 hB rfl;exact b_m h1_.out w2) ?_;refine .nt (.i 1) ?_;refine .mv (.i 2) ?_;refine .fa .o (fQ0 0) ?_;refine .ld (.i 4) (ldInt b1 0) ?_;refine .fa .o (fQ1 1) ?_;refine .ld (.i 6) (ldInt b1 1) ?_;refine .two (.i 5) (.i 7) (opNe h2_.out) ?_;refine .pk (.i 3) (.i 8) false ?_;refine .donep [some 6,some 7,some 8,some 9,some 10,some 11,some 12,some 13,some 14,some 15] ?_;intro w2 B2;change Shut (wpList _ _ _ [] _ _);refine⟨?_⟩;simp only[Act.put,lS,lZ,lC];have P:=Lib.hid (retNoT (e':=2) (b2.below B2) (by omega) (zup HZ.out B2));unfold mput at P;obtain⟨i0,i1,i2,i3,i4,i5,i6⟩:=(b2.below B2).m3
  go_wp2_with fail
  exact bodyPost_ret (v:=.tuple #[.agg #[.int .i64 0,.int .i64 0,.slice none 0 0],.int .i64 2]) (by simp[results,Tryz.results19,go_sem,i0,i1,i2]) rfl P.out
end
section
open Go.RowKit
theorem p_6 {n:Nat}{F:RT.Mx Rat}:Invt n F↔(RT.rdP n n F).length=n:=by
 rw[RT.rdP_rk];constructor
 ·rintro⟨X,h⟩;exact RT.rk_of_inv h
 ·intro h;obtain⟨M,p,h1⟩:=RT.ex_red n (n+n) (RT.bsd n F RT.one);exact⟨_,h1.inv h⟩
end
end Go.Proofs.YtkgghhklbbfdiaaGreat
