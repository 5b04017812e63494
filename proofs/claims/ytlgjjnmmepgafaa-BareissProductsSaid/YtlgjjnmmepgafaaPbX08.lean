/- PbX08 -/
import Derived.Test.YtlgjjnmmepgafaaPbX03
import Derived.IntWalk
set_option linter.unusedVariables false
set_option linter.unusedSimpArgs false
set_option linter.unusedSectionVars false
set_option maxRecDepth 100000
set_option maxHeartbeats 8000000
namespace Go.Proofs.Ytlgjjnmmepgafaa
section
open Go.RowKit
section
variable {w w':World}{g h:Nat}{T U:TypeId}{cs ds:List Value}
theorem ldP (b:Bx w g T cs){r c r' c':Int}{A A':Option Addr}{n d n' d':Nat}(h0:cs=[.int .i64 r,.int .i64 c,.slice A n d,.int .i64 r',.int .i64 c',.slice A' n' d']:=by rfl):∀w',Below w.heap.size w w'->(Instr.loadAt 70 (.pointer (some ⟨g,0,none⟩))).run Try.prog w'= .ok (.agg #[.int .i64 r,.int .i64 c,.slice A n d,.int .i64 r',.int .i64 c',.slice A' n' d']) w':=fun w' hb=>by
 subst h0;have e0:=(b.below hb).cell 0;have e1:=(b.below hb).cell 1;have e2:=(b.below hb).cell 2;have e3:=(b.below hb).cell 3;have e4:=(b.below hb).cell 4;have e5:=(b.below hb).cell 5;simp at e0 e1 e2 e3 e4 e5;simp[go_sem,e0,e1,e2,e3,e4,e5]
end
section
variable {g o:Nat}
theorem fP0 (o':Nat)(h:o+0=o':=by rfl)(w:World):(Instr.fieldAt 70 (.pointer (some ⟨g,o,none⟩)) 0).run Try.prog w= .ok (.pointer (some ⟨g,o',none⟩)) w:=by subst h;simp[go_sem]
theorem fP1 (o':Nat)(h:o+3=o':=by rfl)(w:World):(Instr.fieldAt 70 (.pointer (some ⟨g,o,none⟩)) 1).run Try.prog w= .ok (.pointer (some ⟨g,o',none⟩)) w:=by subst h;simp[go_sem]
end
section
variable {x y r:Int}{T:TypeId}{b:Bool}{X Y:Operand}{U:TypeId}
end
end
section
open Go.RowKit
theorem k_b {r c r' c':Int}{A A':Option Addr}{n d n' d':Nat}{b:Bool}(hb:(fmd r c n&&fmd r' c' n')=b)(w:World):Calls Try.prog 41 #[.agg #[.int .i64 r,.int .i64 c,.slice A n d,.int .i64 r',.int .i64 c',.slice A' n' d']] w (RetK (.k (.bool b)) w):=by
 obtain⟨t1,h1⟩:∃t,fmd r c n=t:=⟨_,rfl⟩;obtain⟨t2,h2⟩:∃t,fmd r' c' n'=t:=⟨_,rfl⟩;have hb':b=(t1&&t2):=by rw[<-hb,h1,h2]
 have hbb:=Lib.hid hb';obtain⟨w1,hw1,b1,z1,s1⟩:=boxes1 w 70 [.int .i64 r,.int .i64 c,.slice A n d,.int .i64 r',.int .i64 c',.slice A' n' d'];have HW:=Lib.hid hw1;have HZ:=Lib.hid z1;have h1_:=Lib.hid h1;have h2_:=Lib.hid h2;clear hw1 z1 h1 h2 hb hb' s1;go_enter Try.func41,Try.ntmps41
 go_upto_region 1 with fail
 rw[HW.out];cases t1
 ·refine Run.start 9 ?_;refine .fa .o (fP0 0) ?_;refine .ld (.i 0) (ldM b1 0) ?_;refine .c1 (.i 1) (x:=.k (.bool false)) (by rintro u w2 hB rfl;exact b_c h1_.out w2) ?_;refine .mv (.i 2) ?_;refine .no ?_;refine .no ?_;refine .no ?_;refine .pk (.i 3) .o false ?_;refine .mv (.i 7) ?_;refine .donep [some 3,some 4,some 5,some 6,some 7,some 8,some 9,some 10,some 2] ?_;intro w2 B2;refine sh [] ?_;simp only[Act.put,lS,lZ,lC];cases hbb.out
  go_wp2_with fail
  exact bodyPost_ret (v:=.bool false) (by simp[results,Try.results41,go_sem]) rfl (a_s rfl (zup HZ.out B2))
 ·refine Run.start 9 ?_;refine .fa .o (fP0 0) ?_;refine .ld (.i 0) (ldM b1 0) ?_;refine .c1 (.i 1) (x:=.k (.bool true)) (by rintro u w2 hB rfl;exact b_c h1_.out w2) ?_;refine .mv (.i 2) ?_;refine .fa .o (fP1 3) ?_;refine .ld (.i 4) (ldM b1 3) ?_;refine .c1 (.i 5) (x:=.k (.bool t2)) (by rintro u w2 hB rfl;exact b_c h2_.out w2) ?_;refine .pk (.i 3) (.i 6) true ?_;refine .mv (.i 7) ?_;refine .donep [some 3,some 4,some 5,some 6,some 7,some 8,some 9,some 10,some 2] ?_;intro w2 B2;refine sh [] ?_;simp only[Act.put,lS,lZ,lC];cases hbb.out
  go_wp2_with fail
  exact bodyPost_ret (v:=.bool t2) (by simp[results,Try.results41,go_sem]) rfl (a_s rfl (zup HZ.out B2))
end
section
open Go.RowKit
theorem f_3 {q:Bool}{r c n d k i j:Nat}{A:Option Addr}{F:Nat->Nat->Int}{g:Nat}{w:World}(b2:Bx w g 24 [.int .i64 (r:Int),.int .i64 (c:Int),.slice A n d])(ha:Mt q w r c A n d k F)(hi:i<c)(hj:j<r)(hk:k<=1099511627776):Calls Try.prog 44 #[.int .i64 (i:Int),.int .i64 (j:Int),.pointer (some ⟨g,0,none⟩)] w (RetK (kC (F j i) k) w):=by
 obtain⟨w1,hw1,b5,z1,s1⟩:=boxes1 w 30 [.bool false,.slice none 0 0];have HW:=Lib.hid hw1;have HZ:=Lib.hid z1;replace b2:=b2.below z1;replace ha:=ha.below z1;clear hw1 z1 s1;go_enter Try.func44,Try.ntmps44
 go_upto_region 1 with fail
 rw[HW.out];refine Run.start 4 ?_;refine .ld .o (ldM b2 0) ?_;refine .mv .o ?_;refine .mv .o ?_;refine .c3 (.i 0) (.i 1) (.i 2) (x:=kC (F j i) k) (by rintro u v x w2 hB rfl rfl rfl;exact i_a (ha.below hB) hj hi hk) ?_;refine .donep [some 6,some 7,some 8,some 9] ?_;intro w2 B2;rintro v ⟨s_,A_,n_,c_,rfl,hz,hk_⟩;refine sh [_] ?_;simp only[Act.put,lS,lZ,lC];have I:=Ib.entry (b5.below B2);have P:=Lib.hid (retC hz I (k:=k) (by omega) (by omega) (zup HZ.out B2));obtain⟨i1,i2,i3,i4,i5⟩:=I;clear hz
 go_wp2_with fail
 exact bodyPost_ret (v:=.agg #[.bool s_,.slice A_ n_ c_]) (by simp[results,Try.results44,go_sem,i1,i2]) rfl P.out
end
section
open Go.RowKit
def dot (F G:Nat->Nat->Int)(i j:Nat):Nat->Int
 |0=>0
 |m+1=>dot F G i j m+F i m*G m j
section
variable {w:World}{g h:Nat}{T:TypeId}{cs:List Value}{s t:Bool}{A B:Option Addr}{n c m d:Nat}{z:Int}
end
theorem i_2 {q q':Bool}{r c n d k r' c' n' d' k' i j:Nat}{A A':Option Addr}{F G:Nat->Nat->Int}{w:World}(ha:Mt q w r c A n d k F)(hb:Mt q' w r' c' A' n' d' k' G)(hcr:c=r')(hi:i<r)(hj:j<c')(hk:k+k'<=549755813888):Calls Try.prog 43 #[.agg #[.int .i64 (r:Int),.int .i64 (c:Int),.slice A n d,.int .i64 (r':Int),.int .i64 (c':Int),.slice A' n' d'],.int .i64 (i:Int),.int .i64 (j:Int)] w (RetK (kC (dot F G i j c) (k+k'+c)) w):=by
 have hc1:=ha.hc;have HC:=Lib.hid hcr;clear hcr;obtain⟨w1,hw1,b3,b6,z1,s1⟩:=boxes2 w 70 30 [.int .i64 (r:Int),.int .i64 (c:Int),.slice A n d,.int .i64 (r':Int),.int .i64 (c':Int),.slice A' n' d'] [.bool false,.slice none 0 0];have HW:=Lib.hid hw1;have HZ:=Lib.hid z1;clear hw1 z1;go_enter Try.func43,Try.ntmps43
 go_upto_region 1 with fail
 rw[HW.out];obtain⟨w2,hw2,b7,z2,s2⟩:=boxes1 w1 30 [.bool false,.slice none 0 0];have HW2:=Lib.hid hw2;clear hw2;go_upto_region 2 with fail
 rw[s1]at b7;rw[HW2.out];have HB:Hid (Below w.heap.size w w2/\Bx w2 w.heap.size 70 [.int .i64 (r:Int),.int .i64 (c:Int),.slice A n d,.int .i64 (r':Int),.int .i64 (c':Int),.slice A' n' d']/\Bx w2 (w.heap.size+1) 30 [.bool false,.slice none 0 0]/\∃s A n d,Bx w2 (w.heap.size+1+1) 30 [.bool s,.slice A n d]/\Zc w2 s A n d (dot F G i j (0))/\n<=k+k'+(0)):=Lib.hid ⟨zup HZ.out z2,b3.below z2,b6.below z2,_,_,_,_,b7,Zc.nought _,Nat.zero_le _⟩;have c1:=(b3.below z2).cell 1;simp only[List.getElem?_cons_succ,List.getElem?_cons_zero]at c1;clear b3 b6 b7 z2 s1 s2 HW2 HZ HW
 go_wp2_with fail
 clear c1;go_loopw [15] (fun s15 wr=>∃t:Nat,s15= .int .i64 (t:Int)/\t<=c/\Hid (Below w.heap.size w wr/\Bx wr w.heap.size 70 [.int .i64 (r:Int),.int .i64 (c:Int),.slice A n d,.int .i64 (r':Int),.int .i64 (c':Int),.slice A' n' d']/\Bx wr (w.heap.size+1) 30 [.bool false,.slice none 0 0]/\∃s A n d,Bx wr (w.heap.size+1+1) 30 [.bool s,.slice A n d]/\Zc wr s A n d (dot F G i j (t))/\n<=k+k'+(t))) (fun s15 _=>c - (intOf s15).toNat)
 case atStart=>exact⟨0,rfl,Nat.zero_le _,HB⟩
 case round=>
  clear HB;obtain⟨t,rfl,ht,HB⟩:=hrel;by_cases hlt:t<c
  ·have u1:(t:Int)<(c:Int):=by omega
   go_wp2_with fail
   obtain⟨B0,b3,b6,s7,A7,n7,d7,b7,hz7,hk7⟩:=HB.out;clear HB;refine Run.start 12 ?_;refine .fa .o (fP0 0) ?_;refine .ld (.i 0) (ldM b3 0) ?_;refine .mv .o ?_;refine .mv .o ?_;refine .c3 (.i 1) (.i 2) (.i 3) (x:=kV (F i t) k) (by rintro u v x w2 hB rfl rfl rfl;exact h_b (ha.below (zup B0 hB)) hi hlt) ?_;refine .fa .o (fP1 3) ?_;refine .ld (.i 5) (ldM b3 3) ?_;refine .mv .o ?_;refine .mv .o ?_;refine .c3 (.i 6) (.i 7) (.i 8) (x:=kV (G t j) k') (by rintro u v x w2 hB rfl rfl rfl;exact h_b (hb.below (zup B0 hB)) (by have:=HC.out;omega) hj) ?_;refine .al ?_;refine .al ?_;refine .done [some 18,some 19,some 20,some 21,some 22,some 23,some 24,some 25,some 26,some 27,some 9,some 10] ?_;intro w3 B3;rintro v0 ⟨s9,A9,n9,d9,rfl,hx,hk9⟩;rintro v1 ⟨s10,A10,n10,d10,rfl,hy,hk10⟩;rintro g9 hg9 hl9 hc9 -;rintro g10 hg10 hl10 hc10 ⟨n910,-⟩;refine sh [_,_] ?_;simp only[Act.put,lS,lZ,lC];have b9:=zeroZ (T:=0) hc9;have b10:=zeroZ (T:=0) hc10;have hl7:=b7.lt;have hl3:=b3.lt;have hl6:=b6.lt;obtain⟨w4,hw4⟩:∃w4,zput (zput w3 g9 s9 A9 n9 d9) g10 s10 A10 n10 d10=w4:=⟨_,rfl⟩;have e4:=hw4;have f9:=Ib.entry b9;have f10:=Ib.entry b10;have b10':=b10.zo (s:=s9) (A:=A9) (n:=n9) (c:=d9) (g:=g9) (Ne.symm n910);have B4:Below w.heap.size w w4:=by rw[<-hw4];exact a_e (a_e (zup B0 B3) (by omega)) (by omega)
   have k3:=((b3.below B3).zo (g:=g9) (s:=s9) (A:=A9) (n:=n9) (c:=d9) (by omega)).zo (g:=g10) (s:=s10) (A:=A10) (n:=n10) (c:=d10) (by omega);rw[hw4]at k3;have k6:=((b6.below B3).zo (g:=g9) (s:=s9) (A:=A9) (n:=n9) (c:=d9) (by omega)).zo (g:=g10) (s:=s10) (A:=A10) (n:=n10) (c:=d10) (by omega);rw[hw4]at k6;have k7:=((b7.below B3).zo (g:=g9) (s:=s9) (A:=A9) (n:=n9) (c:=d9) (by omega)).zo (g:=g10) (s:=s10) (A:=A10) (n:=n10) (c:=d10) (by omega);rw[hw4]at k7;have k9:=(b9.zp (s:=s9) (A:=A9) (n:=n9) (c:=d9)).zo (g:=g10) (s:=s10) (A:=A10) (n:=n10) (c:=d10) n910;rw[hw4]at k9;have k10:=b10'.zp (s:=s10) (A:=A10) (n:=n10) (c:=d10);rw[hw4]at k10;have hz4:Zc w4 s7 A7 n7 d7 (dot F G i j t):=by rw[<-hw4];exact((hz7.below B3).zp b9).zp b10'
   have hx4:Zv w4 s9 A9 n9 d9 (F i t):=by rw[<-hw4];exact(hx.zp b9).zp b10'
   have hy4:Zv w4 s10 A10 n10 d10 (G t j):=by rw[<-hw4];exact(hy.zp b9).zp b10'
   have HW4:Hid (_=w4):=Lib.hid e4;unfold zput at HW4;clear hw4 e4 b3 b6 b7 b9 b10 b10' hz7 hx hy B0 B3 hc9 hc10 hg9 hg10;obtain⟨f1,f2,f3,f4,f5⟩:=f9;obtain⟨h1,h2,h3,h4,h5⟩:=f10;have n109:¬(g10=g9):=Ne.symm n910;have n910':¬(g9=g10):=n910;go_upto_region 6 with fail
   rw[HW4.out];clear f1 f2 f3 f4 f5 h1 h2 h3 h4 h5 HW4;obtain⟨rx,hrx⟩:∃r,(F i t).sign=r:=⟨_,rfl⟩;obtain⟨ry,hry⟩:∃r,(G t j).sign=r:=⟨_,rfl⟩;have HRX:=Lib.hid hrx;have HRY:=Lib.hid hry;clear hrx hry;by_cases hx0:rx=0
   ·have ex:F i t=0:=by have:=HRX.out;rw[hx0]at this;exact Int.sign_eq_zero_iff_zero.1 this
    refine Run.start 8 ?_;refine .ld .o (ldZ k9 0) ?_;refine .c1 (.i 0) (x:=.k (.int .i64 rx)) (by rintro u w2 hB rfl;exact b_n ⟨_,_,_,_,rfl,hx4.below hB,Nat.le_refl _⟩ (by omega) HRX.out) ?_;refine .two (.i 1) .o (opNe (decide_eq_false (by omega:¬(rx≠0)))) ?_;refine .mv (.i 2) ?_;refine .no ?_;refine .no ?_;refine .no ?_;refine .pk (.i 3) .o false ?_;refine .donep [some 28,some 29,some 30,some 31,some 32,some 33,some 34,some 35] ?_;intro w5 B5;refine sh [] ?_;simp only[Act.put,lS,lZ,lC];have ed:dot F G i j (t+1)=dot F G i j t:=by show _+F i t*_=_;rw[ex];simp
    have HN:Hid (Below w.heap.size w w5/\Bx w5 w.heap.size 70 [.int .i64 (r:Int),.int .i64 (c:Int),.slice A n d,.int .i64 (r':Int),.int .i64 (c':Int),.slice A' n' d']/\Bx w5 (w.heap.size+1) 30 [.bool false,.slice none 0 0]/\∃s A n d,Bx w5 (w.heap.size+1+1) 30 [.bool s,.slice A n d]/\Zc w5 s A n d (dot F G i j (t+1))/\n<=k+k'+(t+1)):=Lib.hid ⟨zup B4 B5,k3.below B5,k6.below B5,_,_,_,_,k7.below B5,by rw[ed];exact hz4.below B5,by omega⟩;clear k3 k6 k7 hz4 B4
    go_wp2_with fail
    go_roundw
    case rel=>exact⟨t+1,by go_num,by omega,HN⟩
    case measure=>first|(simp[intOf];done)|(simp[intOf];omega)
   ·have ux:rx≠0:=hx0;by_cases hy0:ry=0
    ·have ey:G t j=0:=by have:=HRY.out;rw[hy0]at this;exact Int.sign_eq_zero_iff_zero.1 this
     refine Run.start 8 ?_;refine .ld .o (ldZ k9 0) ?_;refine .c1 (.i 0) (x:=.k (.int .i64 rx)) (by rintro u w2 hB rfl;exact b_n ⟨_,_,_,_,rfl,hx4.below hB,Nat.le_refl _⟩ (by omega) HRX.out) ?_;refine .two (.i 1) .o (opNe (decide_eq_true ux)) ?_;refine .mv (.i 2) ?_;refine .ld .o (ldZ k10 0) ?_;refine .c1 (.i 4) (x:=.k (.int .i64 ry)) (by rintro u w2 hB rfl;exact b_n ⟨_,_,_,_,rfl,hy4.below hB,Nat.le_refl _⟩ (by omega) HRY.out) ?_;refine .two (.i 5) .o (opNe (decide_eq_false (by omega:¬(ry≠0)))) ?_;refine .pk (.i 3) (.i 6) true ?_;refine .donep [some 28,some 29,some 30,some 31,some 32,some 33,some 34,some 35] ?_;intro w5 B5;refine sh [] ?_;simp only[Act.put,lS,lZ,lC];have ed:dot F G i j (t+1)=dot F G i j t:=by show _+F i t*G t j=_;rw[ey];simp
     have HN:Hid (Below w.heap.size w w5/\Bx w5 w.heap.size 70 [.int .i64 (r:Int),.int .i64 (c:Int),.slice A n d,.int .i64 (r':Int),.int .i64 (c':Int),.slice A' n' d']/\Bx w5 (w.heap.size+1) 30 [.bool false,.slice none 0 0]/\∃s A n d,Bx w5 (w.heap.size+1+1) 30 [.bool s,.slice A n d]/\Zc w5 s A n d (dot F G i j (t+1))/\n<=k+k'+(t+1)):=Lib.hid ⟨zup B4 B5,k3.below B5,k6.below B5,_,_,_,_,k7.below B5,by rw[ed];exact hz4.below B5,by omega⟩;clear k3 k6 k7 hz4 B4
     go_wp2_with fail
     go_roundw
     case rel=>exact⟨t+1,by go_num,by omega,HN⟩
     case measure=>first|(simp[intOf];done)|(simp[intOf];omega)
    ·have uy:ry≠0:=hy0;refine Run.start 8 ?_;refine .ld .o (ldZ k9 0) ?_;refine .c1 (.i 0) (x:=.k (.int .i64 rx)) (by rintro u w2 hB rfl;exact b_n ⟨_,_,_,_,rfl,hx4.below hB,Nat.le_refl _⟩ (by omega) HRX.out) ?_;refine .two (.i 1) .o (opNe (decide_eq_true ux)) ?_;refine .mv (.i 2) ?_;refine .ld .o (ldZ k10 0) ?_;refine .c1 (.i 4) (x:=.k (.int .i64 ry)) (by rintro u w2 hB rfl;exact b_n ⟨_,_,_,_,rfl,hy4.below hB,Nat.le_refl _⟩ (by omega) HRY.out) ?_;refine .two (.i 5) .o (opNe (decide_eq_true uy)) ?_;refine .pk (.i 3) (.i 6) true ?_;refine .donep [some 28,some 29,some 30,some 31,some 32,some 33,some 34,some 35] ?_;intro w5 B5;refine sh [] ?_;simp only[Act.put,lS,lZ,lC];replace k3:=k3.below B5;replace k6:=k6.below B5;replace k7:=k7.below B5;replace k9:=k9.below B5;replace k10:=k10.below B5;replace hz4:=hz4.below B5;replace hx4:=hx4.below B5;replace hy4:=hy4.below B5;replace B4:=zup B4 B5;clear B5;go_upto_region 7 with fail
     refine Run.start 5 ?_;refine .ld .o (ldZ k7 0) ?_;refine .ld .o (ldZ k9 0) ?_;refine .ld .o (ldZ k10 0) ?_;refine .c2 (.i 1) (.i 2) (x:=kC (F i t*G t j) (k+k')) (by rintro u v w2 hB rfl rfl;exact f_0 ⟨_,_,_,_,rfl,hx4.below hB,hk9⟩ ⟨_,_,_,_,rfl,hy4.below hB,hk10⟩ (by omega) (by omega) (Nat.le_refl _)) ?_;refine .c2 (.i 0) (.i 3) (x:=kC (dot F G i j (t+1)) (k+k'+(t+1))) (by rintro u v w2 hB rfl h2;exact j_k ⟨_,_,_,_,rfl,(hz4.below hB).zv,hk7⟩ h2.v (by omega) (by omega) (by omega)) ?_;refine .done [some 36,some 37,some 38,some 39,some 40] ?_;intro w6 B6;rintro v2 -;rintro v3 ⟨s11,A11,n11,d11,rfl,hs,hk11⟩;refine sh [_] ?_;simp only[Act.put,lS,lZ,lC];replace k7:=k7.below B6;obtain⟨w7,hw7⟩:∃w7,zput w6 (w.heap.size+1+1) s11 A11 n11 d11=w7:=⟨_,rfl⟩;have HN:Hid (Below w.heap.size w w7/\Bx w7 w.heap.size 70 [.int .i64 (r:Int),.int .i64 (c:Int),.slice A n d,.int .i64 (r':Int),.int .i64 (c':Int),.slice A' n' d']/\Bx w7 (w.heap.size+1) 30 [.bool false,.slice none 0 0]/\∃s A n d,Bx w7 (w.heap.size+1+1) 30 [.bool s,.slice A n d]/\Zc w7 s A n d (dot F G i j (t+1))/\n<=k+k'+(t+1)):=Lib.hid ⟨by rw[<-hw7];exact a_e (zup B4 B6) (by omega),by rw[<-hw7];exact(k3.below B6).zo (by omega),by rw[<-hw7];exact(k6.below B6).zo (by omega),s11,A11,n11,d11,by rw[<-hw7];exact k7.zp,by rw[<-hw7];exact hs.zp k7,hk11⟩;have HW7:=Lib.hid hw7;unfold zput at HW7;obtain⟨f1,f2,f3,f4,f5⟩:=Ib.entry k7;clear k3 k6 k7 k9 k10 hz4 hx4 hy4 hs B4 B6 hw7
     go_wp2_with fail
     rw[HW7.out];go_roundw
     case rel=>exact⟨t+1,by go_num,by omega,HN⟩
     case measure=>first|(simp[intOf];done)|(simp[intOf];omega)
  ·obtain rfl:t=c:=by omega
   have u1:¬(t:Int)<(t:Int):=by omega
   obtain⟨B0,b3,b6,s7,A7,n7,d7,b7,hz7,hk7⟩:=HB.out;have I:=Ib.entry b6;have J:=Ib.entry b7;have P:=Lib.hid (retC hz7 I (k:=k+k'+t) hk7 (by omega) B0);obtain⟨i1,i2,i3,i4,i5⟩:=I;obtain⟨j1,j2,j3,j4,j5⟩:=J;clear b3 b6 b7 hz7 HB B0
   go_wp2_with fail
   exact bodyPost_ret (v:=.agg #[.bool s7,.slice A7 n7 d7]) (by simp[results,Try.results43,go_sem,i1,i2]) rfl P.out
end
section
open Go.RowKit
theorem argsM (p i j:Value):#[p]++ #[i,j]++ #[]= #[p,i,j]:=rfl
theorem argsC1 (i j a:Value):#[]++ #[i,j]++ #[a]= #[i,j,a]:=rfl
theorem m_i {q q':Bool}{r c n d k r' c' n' d' k':Nat}{A A':Option Addr}{F G:Nat->Nat->Int}{w:World}(ha:Mt q w r c A n d k F)(hb:Mt q' w r' c' A' n' d' k' G)(hcr:c=r')(hk:k+k'<=549755813888):Calls Try.prog 20 #[.agg #[.int .i64 (r:Int),.int .i64 (c:Int),.slice A n d],.agg #[.int .i64 (r':Int),.int .i64 (c':Int),.slice A' n' d']] w (RetK (kT (kM true r c' (k+k'+c) (fun i j=>dot F G i j c)) (.k (.int .i64 0))) w):=by
 have h1:=ha.fmd;have h2:=hb.fmd;have h3:=ha.hr;have h4:=hb.hc;obtain⟨w1,hw1,b2,b3,b4,z1,s1⟩:=boxes3 w 24 24 24 [.int .i64 (r:Int),.int .i64 (c:Int),.slice A n d] [.int .i64 (r':Int),.int .i64 (c':Int),.slice A' n' d'] [.int .i64 0,.int .i64 0,.slice none 0 0];have HW:=Lib.hid hw1;have HZ:=Lib.hid z1;have h1_:=Lib.hid h1;have h2_:=Lib.hid h2;have hcr_:=Lib.hid hcr;clear hw1 z1 h1 h2 hcr;go_enter Try.func20,Try.ntmps20
 go_upto_region 1 with fail
 rw[HW.out];obtain⟨w2,hw2,b6,z2,s2⟩:=boxes1 w1 70 [.int .i64 (r:Int),.int .i64 (c:Int),.slice A n d,.int .i64 (r':Int),.int .i64 (c':Int),.slice A' n' d'];rw[s1]at b6;have HW2:=Lib.hid hw2;clear hw2 s2;obtain⟨i0,i1,i2,i3,i4,i5,i6⟩:=b2.m3;obtain⟨j0,j1,j2,j3,j4,j5,j6⟩:=b3.m3;go_upto_region 2 with fail
 rw[HW2.out];clear i0 i1 i2 i3 i4 i5 i6 j0 j1 j2 j3 j4 j5 j6 HW2 HW s1;replace b2:=b2.below z2;replace b3:=b3.below z2;replace b4:=b4.below z2;have HZ2:=Lib.hid (zup HZ.out z2);clear z2 HZ;refine Run.start 10 ?_;refine .ld .o (ldP b6) ?_;refine .c1 (.i 0) (x:=.k (.bool true)) (by rintro u w2 hB rfl;exact k_b (by rw[h1_.out,h2_.out];rfl) w2) ?_;refine .nt (.i 1) ?_;refine .mv (.i 2) ?_;refine .fa .o (fM1 1) ?_;refine .ld (.i 4) (ldInt b2 1) ?_;refine .fa .o (fM0 0) ?_;refine .ld (.i 6) (ldInt b3 0) ?_;refine .two (.i 5) (.i 7) (opNe (decide_eq_false (by have:=hcr_.out;omega:¬((c:Int)≠(r':Int))))) ?_;refine .pk (.i 3) (.i 8) false ?_;refine .donep [some 10,some 11,some 12,some 13,some 14,some 15,some 16,some 17,some 18,some 19] ?_;intro w3 B3;refine sh [] ?_;simp only[Act.put,lS,lZ,lC];replace b2:=b2.below B3;replace b3:=b3.below B3;replace b4:=b4.below B3;replace b6:=b6.below B3;have HZ3:=Lib.hid (zup HZ2.out B3);clear B3 HZ2;go_upto_region 4 with fail
 refine Run.start 7 ?_;refine .fa .o (fM0 0) ?_;refine .ld (.i 0) (ldInt b2 0) ?_;refine .fa .o (fM1 1) ?_;refine .ld (.i 2) (ldInt b3 1) ?_;refine .ld .o (ldP b6) ?_;refine .fn [(.i 4)] [] [_] [] (⟨rfl,trivial⟩) (trivial) ?_;refine .c3 (.i 1) (.i 3) (.i 5) (x:=kM true r c' (k+k'+c) (fun i j=>dot F G i j c)) (by rintro u v x w4 hB rfl rfl rfl;exact k_x h3 h4 (by kernel_rfl) (fun i j W hi hj hW=>by rw[argsM];exact i_2 (ha.below (zup (zup HZ3.out hB) hW)) (hb.below (zup (zup HZ3.out hB) hW)) hcr_.out hi hj hk)) ?_;refine .donep [some 21,some 22,some 23,some 24,some 25,some 26,some 27] ?_;intro w4 B4;rintro v ⟨A_,n_,d_,rfl,hM⟩;refine sh [_,_] ?_;simp only[Act.put,lS,lZ,lC];have P:=Lib.hid (retME hM (b4.below B4) (by omega) (zup HZ3.out B4));unfold mput at P;obtain⟨i0,i1,i2,i3,i4,i5,i6⟩:=(b4.below B4).m3;clear hM
 go_wp2_with fail
 exact bodyPost_ret (v:=.tuple #[.agg #[.int .i64 (r:Int),.int .i64 (c':Int),.slice A_ n_ d_],.int .i64 0]) (by simp[results,Try.results20,go_sem,i0,i1,i2]) rfl P.out
theorem i_5 {q:Bool}{r c n d k:Nat}{A:Option Addr}{F:Nat->Nat->Int}{w:World}(ha:Mt q w r c A n d k F)(hk:k<=1099511627776):Calls Try.prog 21 #[.agg #[.int .i64 (r:Int),.int .i64 (c:Int),.slice A n d]] w (RetK (kT (kM true c r (k) (fun i j=>F j i)) (.k (.int .i64 0))) w):=by
 have h1:=ha.fmd;have h3:=ha.hr;have h4:=ha.hc;obtain⟨w1,hw1,b1,b2,z1,s1⟩:=boxes2 w 24 24 [.int .i64 (r:Int),.int .i64 (c:Int),.slice A n d] [.int .i64 0,.int .i64 0,.slice none 0 0];have HW:=Lib.hid hw1;have HZ:=Lib.hid z1;have h1_:=Lib.hid h1;clear hw1 z1 h1 s1;go_enter Try.func21,Try.ntmps21
 go_upto_region 1 with fail
 rw[HW.out];refine Run.start 3 ?_;refine .ld .o (ldM b1 0) ?_;refine .c1 (.i 0) (x:=.k (.bool true)) (by rintro u w2 hB rfl;exact b_c h1_.out w2) ?_;refine .nt (.i 1) ?_;refine .donep [some 4,some 5,some 6] ?_;intro w2 B2;refine sh [] ?_;simp only[Act.put,lS,lZ,lC];replace b1:=b1.below B2;replace b2:=b2.below B2;have HZ2:=Lib.hid (zup HZ.out B2);clear B2 HZ;go_upto_region 3 with fail
 refine Run.start 6 ?_;refine .fa .o (fM1 1) ?_;refine .ld (.i 0) (ldInt b1 1) ?_;refine .fa .o (fM0 0) ?_;refine .ld (.i 2) (ldInt b1 0) ?_;refine .fn [] [.o] [] [_] (trivial) (⟨rfl,trivial⟩) ?_;refine .c3 (.i 1) (.i 3) (.i 4) (x:=kM true c r k (fun i j=>F j i)) (by rintro u v x w4 hB rfl rfl rfl;exact k_x h4 h3 (by kernel_rfl) (fun i j W hi hj hW=>by rw[argsC1];exact f_3 ((b1.below hB).below hW) (ha.below (zup (zup HZ2.out hB) hW)) hi hj hk)) ?_;refine .donep [some 8,some 9,some 10,some 11,some 12,some 13] ?_;intro w3 B3;rintro v ⟨A_,n_,d_,rfl,hM⟩;refine sh [_,_] ?_;simp only[Act.put,lS,lZ,lC];have P:=Lib.hid (retME hM (b2.below B3) (by omega) (zup HZ2.out B3));unfold mput at P;obtain⟨i0,i1,i2,i3,i4,i5,i6⟩:=(b2.below B3).m3;clear hM
 go_wp2_with fail
 exact bodyPost_ret (v:=.tuple #[.agg #[.int .i64 (c:Int),.int .i64 (r:Int),.slice A_ n_ d_],.int .i64 0]) (by simp[results,Try.results21,go_sem,i0,i1,i2]) rfl P.out
end
section
open Go.RowKit
theorem Mt.fput {q:Bool}{w0 w:World}{A B:Option Addr}{r c n d k g m e:Nat}{s' t:Bool}{A':Option Addr}{n' c':Nat}{F:Nat->Nat->Int}(h:Mt q w0 r c A n d k F)(hb:Below w0.heap.size w0 w)(hg:w0.heap.size<=g)(b:Bx w g 30 [.bool t,.slice B m e]):Mt q (Go.Proofs.Ytlgjjnmmepgafaa.zput w g s' A' n' c') r c A n d k F:=
 ⟨(h.zl.below hb).gro0 (fun h0 ad e he=>by
  obtain⟨ad',e',hl,-⟩:=h.zl.at' h0;rw[e]at e';cases e';omega) (b.now (by simp)) (f_a _ _ _ _ _ _),h.hr,h.hc⟩
end
end Go.Proofs.Ytlgjjnmmepgafaa
