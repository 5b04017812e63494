/- PhX13 -/
import Derived.Test.YtgohglhefhocgaaGreatPhX06
import Derived.Test.YtgohglhefhocgaaGreatPhX08
import Derived.Test.YtgohglhefhocgaaGreatPhX09
import Derived.IntWalk
import Derived.Deep.RegionHeld3
set_option linter.unusedVariables false
set_option linter.unusedSimpArgs false
set_option linter.unusedSectionVars false
set_option maxRecDepth 100000
set_option maxHeartbeats 8000000
namespace Go.Proofs.YtgohglhefhocgaaGreat
section
open Go.RowKit
section
variable {w w':World}{g h:Nat}{T U:TypeId}{cs ds:List Value}
theorem ldP (b:Bx w g T cs){r c r' c':Int}{A A':Option Addr}{n d n' d':Nat}(h0:cs=[.int .i64 r,.int .i64 c,.slice A n d,.int .i64 r',.int .i64 c',.slice A' n' d']:=by rfl):∀w',Below w.heap.size w w'→(Instr.loadAt 84 (.pointer (some ⟨g,0,none⟩))).run Tryz.prog w'= .ok (.agg #[.int .i64 r,.int .i64 c,.slice A n d,.int .i64 r',.int .i64 c',.slice A' n' d']) w':=fun w' hb=>by
 subst h0;have e0:=(b.below hb).cell 0;have e1:=(b.below hb).cell 1;have e2:=(b.below hb).cell 2;have e3:=(b.below hb).cell 3;have e4:=(b.below hb).cell 4;have e5:=(b.below hb).cell 5;simp at e0 e1 e2 e3 e4 e5;simp[go_sem,e0,e1,e2,e3,e4,e5]
end
section
variable {g o:Nat}
end
section
variable {x y r:Int}{T:TypeId}{b:Bool}{X Y:Operand}{U:TypeId}
end
end
section
open Go.RowKit
theorem d_c {r c r' c':Int}{A A':Option Addr}{n d n' d':Nat}{b:Bool}(hb:(fmd r c n&&fmd r' c' n')=b)(w:World):Calls Tryz.prog 59 #[.agg #[.int .i64 r,.int .i64 c,.slice A n d,.int .i64 r',.int .i64 c',.slice A' n' d']] w (RetK (.k (.bool b)) w):=by
 obtain⟨t1,h1⟩:∃t,fmd r c n=t:=⟨_,rfl⟩;obtain⟨t2,h2⟩:∃t,fmd r' c' n'=t:=⟨_,rfl⟩;have hb':b=(t1&&t2):=by rw[←hb,h1,h2]
 have hbb:=Lib.hid hb';obtain⟨w1,hw1,b1,z1,s1⟩:=boxes1 w 84 [.int .i64 r,.int .i64 c,.slice A n d,.int .i64 r',.int .i64 c',.slice A' n' d'];have HW:=Lib.hid hw1;have HZ:=Lib.hid z1;have h1_:=Lib.hid h1;have h2_:=Lib.hid h2;clear hw1 z1 h1 h2 hb hb' s1;go_enter Tryz.func59,Tryz.ntmps59
 go_upto_region 1 with fail
 rw[HW.out];cases t1
 ·refine Run.start 9 ?_;refine .fa .o (fP0 0) ?_;refine .ld (.i 0) (ldM b1 0) ?_;refine .c1 (.i 1) (x:=.k (.bool false)) (by rintro u w2 hB rfl;exact a_n h1_.out w2) ?_;refine .mv (.i 2) ?_;refine .no ?_;refine .no ?_;refine .no ?_;refine .pk (.i 3) .o false ?_;refine .mv (.i 7) ?_;refine .donep [some 3,some 4,some 5,some 6,some 7,some 8,some 9,some 10,some 2] ?_;intro w2 B2;change Shut (wpList _ _ _ [] _ _);refine⟨?_⟩;simp only[Act.put,lS,lZ,lC];cases hbb.out
  go_wp2_with fail
  exact bodyPost_ret (v:=.bool false) (by simp[results,Tryz.results59,go_sem]) rfl (a_r rfl (zup HZ.out B2))
 ·refine Run.start 9 ?_;refine .fa .o (fP0 0) ?_;refine .ld (.i 0) (ldM b1 0) ?_;refine .c1 (.i 1) (x:=.k (.bool true)) (by rintro u w2 hB rfl;exact a_n h1_.out w2) ?_;refine .mv (.i 2) ?_;refine .fa .o (fP1 3) ?_;refine .ld (.i 4) (ldM b1 3) ?_;refine .c1 (.i 5) (x:=.k (.bool t2)) (by rintro u w2 hB rfl;exact a_n h2_.out w2) ?_;refine .pk (.i 3) (.i 6) true ?_;refine .mv (.i 7) ?_;refine .donep [some 3,some 4,some 5,some 6,some 7,some 8,some 9,some 10,some 2] ?_;intro w2 B2;change Shut (wpList _ _ _ [] _ _);refine⟨?_⟩;simp only[Act.put,lS,lZ,lC];cases hbb.out
  go_wp2_with fail
  exact bodyPost_ret (v:=.bool t2) (by simp[results,Tryz.results59,go_sem]) rfl (a_r rfl (zup HZ.out B2))
end
section
open Go.RowKit
section
variable {w:World}{g h:Nat}{T:TypeId}{cs:List Value}{s t:Bool}{A B:Option Addr}{n c m d:Nat}{z:Int}
end
theorem k_b {q q':Bool}{r c n d k r' c' n' d' k' i j:Nat}{A A':Option Addr}{F G:Nat→Nat→Int}{w:World}(ha:Mt q w r c A n d k F)(hb:Mt q' w r' c' A' n' d' k' G)(hcr:c=r')(hi:i<r)(hj:j<c')(hk:k+k'≤549755813888):Calls Tryz.prog 61 #[.agg #[.int .i64 (r:Int),.int .i64 (c:Int),.slice A n d,.int .i64 (r':Int),.int .i64 (c':Int),.slice A' n' d'],.int .i64 (i:Int),.int .i64 (j:Int)] w (RetK (kC (dot F G i j c) (k+k'+c)) w):=by
 have hc1:=ha.hc;have HC:=Lib.hid hcr;clear hcr;obtain⟨w1,hw1,b3,b6,z1,s1⟩:=boxes2 w 84 37 [.int .i64 (r:Int),.int .i64 (c:Int),.slice A n d,.int .i64 (r':Int),.int .i64 (c':Int),.slice A' n' d'] [.bool false,.slice none 0 0];have HW:=Lib.hid hw1;have HZ:=Lib.hid z1;clear hw1 z1;go_enter Tryz.func61,Tryz.ntmps61
 go_upto_region 1 with fail
 rw[HW.out];obtain⟨w2,hw2,b7,z2,s2⟩:=boxes1 w1 37 [.bool false,.slice none 0 0];have HW2:=Lib.hid hw2;clear hw2;go_upto_region 2 with fail
 rw[s1]at b7;rw[HW2.out];have HB:Hid (Below w.heap.size w w2∧Bx w2 w.heap.size 84 [.int .i64 (r:Int),.int .i64 (c:Int),.slice A n d,.int .i64 (r':Int),.int .i64 (c':Int),.slice A' n' d']∧Bx w2 (w.heap.size+1) 37 [.bool false,.slice none 0 0]∧∃s A n d,Bx w2 (w.heap.size+1+1) 37 [.bool s,.slice A n d]∧Zc w2 s A n d (dot F G i j (0))∧n≤k+k'+(0)):=Lib.hid ⟨zup HZ.out z2,b3.below z2,b6.below z2,_,_,_,_,b7,Zc.nought _,Nat.zero_le _⟩;have c1:=(b3.below z2).cell 1;simp only[List.getElem?_cons_succ,List.getElem?_cons_zero]at c1;clear b3 b6 b7 z2 s1 s2 HW2 HZ HW
 go_wp2_with fail
 clear c1;go_loopw [15] (fun s15 wr=>∃t:Nat,s15= .int .i64 (t:Int)∧t≤c∧Hid (Below w.heap.size w wr∧Bx wr w.heap.size 84 [.int .i64 (r:Int),.int .i64 (c:Int),.slice A n d,.int .i64 (r':Int),.int .i64 (c':Int),.slice A' n' d']∧Bx wr (w.heap.size+1) 37 [.bool false,.slice none 0 0]∧∃s A n d,Bx wr (w.heap.size+1+1) 37 [.bool s,.slice A n d]∧Zc wr s A n d (dot F G i j (t))∧n≤k+k'+(t))) (fun s15 _=>c - (intOf s15).toNat)
 case atStart=>exact⟨0,rfl,Nat.zero_le _,HB⟩
 case round=>
  clear HB;obtain⟨t,rfl,ht,HB⟩:=hrel;by_cases hlt:t<c
  ·have u1:(t:Int)<(c:Int):=by omega
   go_wp2_with fail
   obtain⟨B0,b3,b6,s7,A7,n7,d7,b7,hz7,hk7⟩:=HB.out;clear HB;refine Run.start 12 ?_;refine .fa .o (fP0 0) ?_;refine .ld (.i 0) (ldM b3 0) ?_;refine .mv .o ?_;refine .mv .o ?_;refine .c3 (.i 1) (.i 2) (.i 3) (x:=kV (F i t) k) (by rintro u v x w2 hB rfl rfl rfl;exact d_q (ha.below (zup B0 hB)) hi hlt) ?_;refine .fa .o (fP1 3) ?_;refine .ld (.i 5) (ldM b3 3) ?_;refine .mv .o ?_;refine .mv .o ?_;refine .c3 (.i 6) (.i 7) (.i 8) (x:=kV (G t j) k') (by rintro u v x w2 hB rfl rfl rfl;exact d_q (hb.below (zup B0 hB)) (by have:=HC.out;omega) hj) ?_;refine .al ?_;refine .al ?_;refine .done [some 18,some 19,some 20,some 21,some 22,some 23,some 24,some 25,some 26,some 27,some 9,some 10] ?_;intro w3 B3;rintro v0 ⟨s9,A9,n9,d9,rfl,hx,hk9⟩;rintro v1 ⟨s10,A10,n10,d10,rfl,hy,hk10⟩;rintro g9 hg9 hl9 hc9 -;rintro g10 hg10 hl10 hc10 ⟨n910,-⟩;change Shut (wpList _ _ _ [_,_] _ _);refine⟨?_⟩;simp only[Act.put,lS,lZ,lC];have b9:=zeroZ (T:=0) hc9;have b10:=zeroZ (T:=0) hc10;have hl7:=b7.lt;have hl3:=b3.lt;have hl6:=b6.lt;obtain⟨w4,hw4⟩:∃w4,zput (zput w3 g9 s9 A9 n9 d9) g10 s10 A10 n10 d10=w4:=⟨_,rfl⟩;have e4:=hw4;have f9:=Ib.entry b9;have f10:=Ib.entry b10;have b10':=b10.zo (s:=s9) (A:=A9) (n:=n9) (c:=d9) (g:=g9) (Ne.symm n910);have B4:Below w.heap.size w w4:=by rw[←hw4];exact a_j (a_j (zup B0 B3) (by omega)) (by omega)
   have k3:=((b3.below B3).zo (g:=g9) (s:=s9) (A:=A9) (n:=n9) (c:=d9) (by omega)).zo (g:=g10) (s:=s10) (A:=A10) (n:=n10) (c:=d10) (by omega);rw[hw4]at k3;have k6:=((b6.below B3).zo (g:=g9) (s:=s9) (A:=A9) (n:=n9) (c:=d9) (by omega)).zo (g:=g10) (s:=s10) (A:=A10) (n:=n10) (c:=d10) (by omega);rw[hw4]at k6;have k7:=((b7.below B3).zo (g:=g9) (s:=s9) (A:=A9) (n:=n9) (c:=d9) (by omega)).zo (g:=g10) (s:=s10) (A:=A10) (n:=n10) (c:=d10) (by omega);rw[hw4]at k7;have k9:=(b9.zp (s:=s9) (A:=A9) (n:=n9) (c:=d9)).zo (g:=g10) (s:=s10) (A:=A10) (n:=n10) (c:=d10) n910;rw[hw4]at k9;have k10:=b10'.zp (s:=s10) (A:=A10) (n:=n10) (c:=d10);rw[hw4]at k10;have hz4:Zc w4 s7 A7 n7 d7 (dot F G i j t):=by rw[←hw4];exact((hz7.below B3).zp b9).zp b10'
   have hx4:Zv w4 s9 A9 n9 d9 (F i t):=by rw[←hw4];exact(hx.zp b9).zp b10'
   have hy4:Zv w4 s10 A10 n10 d10 (G t j):=by rw[←hw4];exact(hy.zp b9).zp b10'
   have HW4:Hid (_=w4):=Lib.hid e4;unfold zput at HW4;clear hw4 e4 b3 b6 b7 b9 b10 b10' hz7 hx hy B0 B3 hc9 hc10 hg9 hg10;obtain⟨f1,f2,f3,f4,f5⟩:=f9;obtain⟨h1,h2,h3,h4,h5⟩:=f10;have n109:¬(g10=g9):=Ne.symm n910;have n910':¬(g9=g10):=n910;go_upto_region 6 with fail
   rw[HW4.out];clear f1 f2 f3 f4 f5 h1 h2 h3 h4 h5 HW4;obtain⟨rx,hrx⟩:∃r,(F i t).sign=r:=⟨_,rfl⟩;obtain⟨ry,hry⟩:∃r,(G t j).sign=r:=⟨_,rfl⟩;have HRX:=Lib.hid hrx;have HRY:=Lib.hid hry;clear hrx hry;by_cases hx0:rx=0
   ·have ex:F i t=0:=by have:=HRX.out;rw[hx0]at this;exact Int.sign_eq_zero_iff_zero.1 this
    refine Run.start 8 ?_;refine .ld .o (ldZ k9 0) ?_;refine .c1 (.i 0) (x:=.k (.int .i64 rx)) (by rintro u w2 hB rfl;exact a_s ⟨_,_,_,_,rfl,hx4.below hB,Nat.le_refl _⟩ (by omega) HRX.out) ?_;refine .two (.i 1) .o (opNe (decide_eq_false (by omega:¬(rx≠0)))) ?_;refine .mv (.i 2) ?_;refine .no ?_;refine .no ?_;refine .no ?_;refine .pk (.i 3) .o false ?_;refine .donep [some 28,some 29,some 30,some 31,some 32,some 33,some 34,some 35] ?_;intro w5 B5;change Shut (wpList _ _ _ [] _ _);refine⟨?_⟩;simp only[Act.put,lS,lZ,lC];have ed:dot F G i j (t+1)=dot F G i j t:=by show _+F i t*_=_;rw[ex];simp
    have HN:Hid (Below w.heap.size w w5∧Bx w5 w.heap.size 84 [.int .i64 (r:Int),.int .i64 (c:Int),.slice A n d,.int .i64 (r':Int),.int .i64 (c':Int),.slice A' n' d']∧Bx w5 (w.heap.size+1) 37 [.bool false,.slice none 0 0]∧∃s A n d,Bx w5 (w.heap.size+1+1) 37 [.bool s,.slice A n d]∧Zc w5 s A n d (dot F G i j (t+1))∧n≤k+k'+(t+1)):=Lib.hid ⟨zup B4 B5,k3.below B5,k6.below B5,_,_,_,_,k7.below B5,by rw[ed];exact hz4.below B5,by omega⟩;clear k3 k6 k7 hz4 B4
    go_wp2_with fail
    go_roundw
    case rel=>exact⟨t+1,by go_num,by omega,HN⟩
    case measure=>first|(simp[intOf];done)|(simp[intOf];omega)
   ·have ux:rx≠0:=hx0;by_cases hy0:ry=0
    ·have ey:G t j=0:=by have:=HRY.out;rw[hy0]at this;exact Int.sign_eq_zero_iff_zero.1 this
     refine Run.start 8 ?_;refine .ld .o (ldZ k9 0) ?_;refine .c1 (.i 0) (x:=.k (.int .i64 rx)) (by rintro u w2 hB rfl;exact a_s ⟨_,_,_,_,rfl,hx4.below hB,Nat.le_refl _⟩ (by omega) HRX.out) ?_;refine .two (.i 1) .o (opNe (decide_eq_true ux)) ?_;refine .mv (.i 2) ?_;refine .ld .o (ldZ k10 0) ?_;refine .c1 (.i 4) (x:=.k (.int .i64 ry)) (by rintro u w2 hB rfl;exact a_s ⟨_,_,_,_,rfl,hy4.below hB,Nat.le_refl _⟩ (by omega) HRY.out) ?_;refine .two (.i 5) .o (opNe (decide_eq_false (by omega:¬(ry≠0)))) ?_;refine .pk (.i 3) (.i 6) true ?_;refine .donep [some 28,some 29,some 30,some 31,some 32,some 33,some 34,some 35] ?_;intro w5 B5;change Shut (wpList _ _ _ [] _ _);refine⟨?_⟩;simp only[Act.put,lS,lZ,lC];have ed:dot F G i j (t+1)=dot F G i j t:=by show _+F i t*G t j=_;rw[ey];simp
     have HN:Hid (Below w.heap.size w w5∧Bx w5 w.heap.size 84 [.int .i64 (r:Int),.int .i64 (c:Int),.slice A n d,.int .i64 (r':Int),.int .i64 (c':Int),.slice A' n' d']∧Bx w5 (w.heap.size+1) 37 [.bool false,.slice none 0 0]∧∃s A n d,Bx w5 (w.heap.size+1+1) 37 [.bool s,.slice A n d]∧Zc w5 s A n d (dot F G i j (t+1))∧n≤k+k'+(t+1)):=Lib.hid ⟨zup B4 B5,k3.below B5,k6.below B5,_,_,_,_,k7.below B5,by rw[ed];exact hz4.below B5,by omega⟩;clear k3 k6 k7 hz4 B4
     go_wp2_with fail
     go_roundw
     case rel=>exact⟨t+1,by go_num,by omega,HN⟩
     case measure=>first|(simp[intOf];done)|(simp[intOf];omega)
    ·have uy:ry≠0:=hy0;refine Run.start 8 ?_;refine .ld .o (ldZ k9 0) ?_;refine .c1 (.i 0) (x:=.k (.int .i64 rx)) (by rintro u w2 hB rfl;exact a_s ⟨_,_,_,_,rfl,hx4.below hB,Nat.le_refl _⟩ (by omega) HRX.out) ?_;refine .two (.i 1) .o (opNe (decide_eq_true ux)) ?_;refine .mv (.i 2) ?_;refine .ld .o (ldZ k10 0) ?_;refine .c1 (.i 4) (x:=.k (.int .i64 ry)) (by rintro u w2 hB rfl;exact a_s ⟨_,_,_,_,rfl,hy4.below hB,Nat.le_refl _⟩ (by omega) HRY.out) ?_;refine .two (.i 5) .o (opNe (decide_eq_true uy)) ?_;refine .pk (.i 3) (.i 6) true ?_;refine .donep [some 28,some 29,some 30,some 31,some 32,some 33,some 34,some 35] ?_;intro w5 B5;change Shut (wpList _ _ _ [] _ _);refine⟨?_⟩;simp only[Act.put,lS,lZ,lC];replace k3:=k3.below B5;replace k6:=k6.below B5;replace k7:=k7.below B5;replace k9:=k9.below B5;replace k10:=k10.below B5;replace hz4:=hz4.below B5;replace hx4:=hx4.below B5;replace hy4:=hy4.below B5;replace B4:=zup B4 B5;clear B5;go_upto_region 7 with fail
     refine Run.start 5 ?_;refine .ld .o (ldZ k7 0) ?_;refine .ld .o (ldZ k9 0) ?_;refine .ld .o (ldZ k10 0) ?_;refine .c2 (.i 1) (.i 2) (x:=kC (F i t*G t j) (k+k')) (by rintro u v w2 hB rfl rfl;exact c_5 ⟨_,_,_,_,rfl,hx4.below hB,hk9⟩ ⟨_,_,_,_,rfl,hy4.below hB,hk10⟩ (by omega) (by omega) (Nat.le_refl _)) ?_;refine .c2 (.i 0) (.i 3) (x:=kC (dot F G i j (t+1)) (k+k'+(t+1))) (by rintro u v w2 hB rfl h2;exact f_d ⟨_,_,_,_,rfl,(hz4.below hB).zv,hk7⟩ h2.v (by omega) (by omega) (by omega)) ?_;refine .done [some 36,some 37,some 38,some 39,some 40] ?_;intro w6 B6;rintro v2 -;rintro v3 ⟨s11,A11,n11,d11,rfl,hs,hk11⟩;change Shut (wpList _ _ _ [_] _ _);refine⟨?_⟩;simp only[Act.put,lS,lZ,lC];replace k7:=k7.below B6;obtain⟨w7,hw7⟩:∃w7,zput w6 (w.heap.size+1+1) s11 A11 n11 d11=w7:=⟨_,rfl⟩;have HN:Hid (Below w.heap.size w w7∧Bx w7 w.heap.size 84 [.int .i64 (r:Int),.int .i64 (c:Int),.slice A n d,.int .i64 (r':Int),.int .i64 (c':Int),.slice A' n' d']∧Bx w7 (w.heap.size+1) 37 [.bool false,.slice none 0 0]∧∃s A n d,Bx w7 (w.heap.size+1+1) 37 [.bool s,.slice A n d]∧Zc w7 s A n d (dot F G i j (t+1))∧n≤k+k'+(t+1)):=Lib.hid ⟨by rw[←hw7];exact a_j (zup B4 B6) (by omega),by rw[←hw7];exact(k3.below B6).zo (by omega),by rw[←hw7];exact(k6.below B6).zo (by omega),s11,A11,n11,d11,by rw[←hw7];exact k7.zp,by rw[←hw7];exact hs.zp k7,hk11⟩;have HW7:=Lib.hid hw7;unfold zput at HW7;obtain⟨f1,f2,f3,f4,f5⟩:=Ib.entry k7;clear k3 k6 k7 k9 k10 hz4 hx4 hy4 hs B4 B6 hw7
     go_wp2_with fail
     rw[HW7.out];go_roundw
     case rel=>exact⟨t+1,by go_num,by omega,HN⟩
     case measure=>first|(simp[intOf];done)|(simp[intOf];omega)
  ·obtain rfl:t=c:=by omega
   have u1:¬(t:Int)<(t:Int):=by omega
   obtain⟨B0,b3,b6,s7,A7,n7,d7,b7,hz7,hk7⟩:=HB.out;have I:=Ib.entry b6;have J:=Ib.entry b7;have P:=Lib.hid (retC hz7 I (k:=k+k'+t) hk7 (by omega) B0);obtain⟨i1,i2,i3,i4,i5⟩:=I;obtain⟨j1,j2,j3,j4,j5⟩:=J;clear b3 b6 b7 hz7 HB B0
   go_wp2_with fail
   exact bodyPost_ret (v:=.agg #[.bool s7,.slice A7 n7 d7]) (by simp[results,Tryz.results61,go_sem,i1,i2]) rfl P.out
end
section
open Go.RowKit
theorem argsM (p i j:Value):#[p]++ #[i,j]++ #[]= #[p,i,j]:=rfl
theorem i_9 {q q':Bool}{r c n d k r' c' n' d' k':Nat}{A A':Option Addr}{F G:Nat→Nat→Int}{w:World}(ha:Mt q w r c A n d k F)(hb:Mt q' w r' c' A' n' d' k' G)(hcr:c=r')(hk:k+k'≤549755813888):Calls Tryz.prog 26 #[.agg #[.int .i64 (r:Int),.int .i64 (c:Int),.slice A n d],.agg #[.int .i64 (r':Int),.int .i64 (c':Int),.slice A' n' d']] w (RetK (kT (kM true r c' (k+k'+c) (fun i j=>dot F G i j c)) (.k (.int .i64 0))) w):=by
 have h1:=ha.fmd;have h2:=hb.fmd;have h3:=ha.hr;have h4:=hb.hc;obtain⟨w1,hw1,b2,b3,b4,z1,s1⟩:=boxes3 w 24 24 24 [.int .i64 (r:Int),.int .i64 (c:Int),.slice A n d] [.int .i64 (r':Int),.int .i64 (c':Int),.slice A' n' d'] [.int .i64 0,.int .i64 0,.slice none 0 0];have HW:=Lib.hid hw1;have HZ:=Lib.hid z1;have h1_:=Lib.hid h1;have h2_:=Lib.hid h2;have hcr_:=Lib.hid hcr;clear hw1 z1 h1 h2 hcr;go_enter Tryz.func26,Tryz.ntmps26
 go_upto_region 1 with fail
 rw[HW.out];obtain⟨w2,hw2,b6,z2,s2⟩:=boxes1 w1 84 [.int .i64 (r:Int),.int .i64 (c:Int),.slice A n d,.int .i64 (r':Int),.int .i64 (c':Int),.slice A' n' d'];rw[s1]at b6;have HW2:=Lib.hid hw2;clear hw2 s2;obtain⟨i0,i1,i2,i3,i4,i5,i6⟩:=b2.m3;obtain⟨j0,j1,j2,j3,j4,j5,j6⟩:=b3.m3;go_upto_region 2 with fail
 rw[HW2.out];clear i0 i1 i2 i3 i4 i5 i6 j0 j1 j2 j3 j4 j5 j6 HW2 HW s1;replace b2:=b2.below z2;replace b3:=b3.below z2;replace b4:=b4.below z2;have HZ2:=Lib.hid (zup HZ.out z2);clear z2 HZ;refine Run.start 10 ?_;refine .ld .o (ldP b6) ?_;refine .c1 (.i 0) (x:=.k (.bool true)) (by rintro u w2 hB rfl;exact d_c (by rw[h1_.out,h2_.out];rfl) w2) ?_;refine .nt (.i 1) ?_;refine .mv (.i 2) ?_;refine .fa .o (fM1 1) ?_;refine .ld (.i 4) (ldInt b2 1) ?_;refine .fa .o (fM0 0) ?_;refine .ld (.i 6) (ldInt b3 0) ?_;refine .two (.i 5) (.i 7) (opNe (decide_eq_false (by have:=hcr_.out;omega:¬((c:Int)≠(r':Int))))) ?_;refine .pk (.i 3) (.i 8) false ?_;refine .donep [some 10,some 11,some 12,some 13,some 14,some 15,some 16,some 17,some 18,some 19] ?_;intro w3 B3;change Shut (wpList _ _ _ [] _ _);refine⟨?_⟩;simp only[Act.put,lS,lZ,lC];replace b2:=b2.below B3;replace b3:=b3.below B3;replace b4:=b4.below B3;replace b6:=b6.below B3;have HZ3:=Lib.hid (zup HZ2.out B3);clear B3 HZ2;go_upto_region 4 with fail
 refine Run.start 7 ?_;refine .fa .o (fM0 0) ?_;refine .ld (.i 0) (ldInt b2 0) ?_;refine .fa .o (fM1 1) ?_;refine .ld (.i 2) (ldInt b3 1) ?_;refine .ld .o (ldP b6) ?_;refine .fn [(.i 4)] [] [_] [] (⟨rfl,trivial⟩) (trivial) ?_;refine .c3 (.i 1) (.i 3) (.i 5) (x:=kM true r c' (k+k'+c) (fun i j=>dot F G i j c)) (by rintro u v x w4 hB rfl rfl rfl;exact e_z h3 h4 (by kernel_rfl) (fun i j W hi hj hW=>by rw[argsM];exact k_b (ha.below (zup (zup HZ3.out hB) hW)) (hb.below (zup (zup HZ3.out hB) hW)) hcr_.out hi hj hk)) ?_;refine .donep [some 21,some 22,some 23,some 24,some 25,some 26,some 27] ?_;intro w4 B4;rintro v ⟨A_,n_,d_,rfl,hM⟩;change Shut (wpList _ _ _ [_,_] _ _);refine⟨?_⟩;simp only[Act.put,lS,lZ,lC];have P:=Lib.hid (retME hM (b4.below B4) (by omega) (zup HZ3.out B4));unfold mput at P;obtain⟨i0,i1,i2,i3,i4,i5,i6⟩:=(b4.below B4).m3;clear hM
 go_wp2_with fail
 exact bodyPost_ret (v:=.tuple #[.agg #[.int .i64 (r:Int),.int .i64 (c':Int),.slice A_ n_ d_],.int .i64 0]) (by simp[results,Tryz.results26,go_sem,i0,i1,i2]) rfl P.out
theorem l_y {r c r' c':Int}{A A':Option Addr}{n d n' d':Nat}{w:World}(h:(fmd r c n&&fmd r' c' n'&&decide (c=r'))=false):Calls Tryz.prog 26 #[.agg #[.int .i64 r,.int .i64 c,.slice A n d],.agg #[.int .i64 r',.int .i64 c',.slice A' n' d']] w (RetK (noM 2) w):=by
 obtain⟨t1,h1⟩:∃t,(fmd r c n&&fmd r' c' n')=t:=⟨_,rfl⟩;rw[h1]at h;have h_:=Lib.hid h;clear h;obtain⟨w1,hw1,b2,b3,b4,z1,s1⟩:=boxes3 w 24 24 24 [.int .i64 r,.int .i64 c,.slice A n d] [.int .i64 r',.int .i64 c',.slice A' n' d'] [.int .i64 0,.int .i64 0,.slice none 0 0];have HW:=Lib.hid hw1;have HZ:=Lib.hid z1;have h1_:=Lib.hid h1;clear hw1 z1 h1;go_enter Tryz.func26,Tryz.ntmps26
 go_upto_region 1 with fail
 rw[HW.out];obtain⟨w2,hw2,b6,z2,s2⟩:=boxes1 w1 84 [.int .i64 r,.int .i64 c,.slice A n d,.int .i64 r',.int .i64 c',.slice A' n' d'];rw[s1]at b6;have HW2:=Lib.hid hw2;clear hw2 s2;obtain⟨i0,i1,i2,i3,i4,i5,i6⟩:=b2.m3;obtain⟨j0,j1,j2,j3,j4,j5,j6⟩:=b3.m3;go_upto_region 2 with fail
 rw[HW2.out];clear i0 i1 i2 i3 i4 i5 i6 j0 j1 j2 j3 j4 j5 j6 HW2 HW s1;replace b2:=b2.below z2;replace b3:=b3.below z2;replace b4:=b4.below z2;have HZ2:=Lib.hid (zup HZ.out z2);clear z2 HZ;cases t1
 ·refine Run.start 10 ?_;refine .ld .o (ldP b6) ?_;refine .c1 (.i 0) (x:=.k (.bool false)) (by rintro u w2 hB rfl;exact d_c h1_.out w2) ?_;refine .nf (.i 1) ?_;refine .mv (.i 2) ?_;refine .no ?_;refine .no ?_;refine .no ?_;refine .no ?_;refine .no ?_;refine .pk (.i 3) .o true ?_;refine .donep [some 10,some 11,some 12,some 13,some 14,some 15,some 16,some 17,some 18,some 19] ?_;intro w3 B3;change Shut (wpList _ _ _ [] _ _);refine⟨?_⟩;simp only[Act.put,lS,lZ,lC];have P:=Lib.hid (retNo (e:=2) (b4.below B3) (by omega) (zup HZ2.out B3));unfold mput at P;obtain⟨i0,i1,i2,i3,i4,i5,i6⟩:=(b4.below B3).m3
  go_wp2_with fail
  exact bodyPost_ret (v:=.tuple #[.agg #[.int .i64 0,.int .i64 0,.slice none 0 0],.int .i64 2]) (by simp[results,Tryz.results26,go_sem,i0,i1,i2]) rfl P.out
 ·have u1:c≠r':=by have:=h_.out;simpa using this
  refine Run.start 10 ?_;refine .ld .o (ldP b6) ?_;refine .c1 (.i 0) (x:=.k (.bool true)) (by rintro u w2 hB rfl;exact d_c h1_.out w2) ?_;refine .nt (.i 1) ?_;refine .mv (.i 2) ?_;refine .fa .o (fM1 1) ?_;refine .ld (.i 4) (ldInt b2 1) ?_;refine .fa .o (fM0 0) ?_;refine .ld (.i 6) (ldInt b3 0) ?_;refine .two (.i 5) (.i 7) (opNe (decide_eq_true u1)) ?_;refine .pk (.i 3) (.i 8) false ?_;refine .donep [some 10,some 11,some 12,some 13,some 14,some 15,some 16,some 17,some 18,some 19] ?_;intro w3 B3;change Shut (wpList _ _ _ [] _ _);refine⟨?_⟩;simp only[Act.put,lS,lZ,lC];have P:=Lib.hid (retNo (e:=2) (b4.below B3) (by omega) (zup HZ2.out B3));unfold mput at P;obtain⟨i0,i1,i2,i3,i4,i5,i6⟩:=(b4.below B3).m3
  go_wp2_with fail
  exact bodyPost_ret (v:=.tuple #[.agg #[.int .i64 0,.int .i64 0,.slice none 0 0],.int .i64 2]) (by simp[results,Tryz.results26,go_sem,i0,i1,i2]) rfl P.out
end
section
open Go.RowKit
section
variable {ops:Array Oper}{Q:Exit→Act→World→Prop}{m i:Nat}{a0:Act}{w0:World}{l:List FK}{b:Bool}{id:Nat}
end
theorem f_l {q q':Bool}{r c n d k r' c' n' d' k':Nat}{A A':Option Addr}{F G:Nat→Nat→Int}{w:World}(ha:Mt q w r c A n d k F)(hb:Mt q' w r' c' A' n' d' k' G)(hcc:c=c')(hs:r+r'≤64)(hk:k≤1099511627776)(hk':k'≤1099511627776):Calls Tryz.prog 28 #[.agg #[.int .i64 (r:Int),.int .i64 (c:Int),.slice A n d],.agg #[.int .i64 (r':Int),.int .i64 (c':Int),.slice A' n' d']] w (RetK (kT (kM true (r+r') c (max k k') (fun i j=>if i<r then F i j else G (i - r) j)) (.k (.int .i64 0))) w):=by
 have h1:=ha.fmd;have h2:=hb.fmd;have h3:=ha.hr;have h4:=ha.hc;obtain⟨w1,hw1,b2,b3,b4,z1,s1⟩:=boxes3 w 24 24 24 [.int .i64 (r:Int),.int .i64 (c:Int),.slice A n d] [.int .i64 (r':Int),.int .i64 (c':Int),.slice A' n' d'] [.int .i64 0,.int .i64 0,.slice none 0 0];have HW:=Lib.hid hw1;have HZ:=Lib.hid z1;have h1_:=Lib.hid h1;have h2_:=Lib.hid h2;have hcc_:=Lib.hid hcc;clear hw1 z1 h1 h2 hcc;go_enter Tryz.func28,Tryz.ntmps28
 go_upto_region 1 with fail
 rw[HW.out];obtain⟨w2,hw2,b6,z2,s2⟩:=boxes1 w1 84 [.int .i64 (r:Int),.int .i64 (c:Int),.slice A n d,.int .i64 (r':Int),.int .i64 (c':Int),.slice A' n' d'];rw[s1]at b6;have HW2:=Lib.hid hw2;clear hw2 s2;obtain⟨i0,i1,i2,i3,i4,i5,i6⟩:=b2.m3;obtain⟨j0,j1,j2,j3,j4,j5,j6⟩:=b3.m3;go_upto_region 2 with fail
 rw[HW2.out];clear i0 i1 i2 i3 i4 i5 i6 j0 j1 j2 j3 j4 j5 j6 HW2 HW s1;replace b2:=b2.below z2;replace b3:=b3.below z2;replace b4:=b4.below z2;have HZ2:=Lib.hid (zup HZ.out z2);clear z2 HZ;refine Run.start 11 ?_;refine .ld .o (ldP b6) ?_;refine .c1 (.i 0) (x:=.k (.bool true)) (by rintro u w2 hB rfl;exact d_c (by rw[h1_.out,h2_.out];rfl) w2) ?_;refine .nt (.i 1) ?_;refine .mv (.i 2) ?_;refine .fa .o (fM1 1) ?_;refine .ld (.i 4) (ldInt b2 1) ?_;refine .fa .o (fM1 1) ?_;refine .ld (.i 6) (ldInt b3 1) ?_;refine .two (.i 5) (.i 7) (opNe (decide_eq_false (by have:=hcc_.out;omega:¬((c:Int)≠(c':Int))))) ?_;refine .pk (.i 3) (.i 8) false ?_;refine .mv (.i 9) ?_;refine .donep [some 11,some 12,some 13,some 14,some 15,some 16,some 17,some 18,some 19,some 20,some 10] ?_;intro w3 B3;change Shut (wpList _ _ _ [] _ _);refine⟨?_⟩;simp only[Act.put,lS,lZ,lC];replace b2:=b2.below B3;replace b3:=b3.below B3;replace b4:=b4.below B3;replace b6:=b6.below B3;have HZ3:=Lib.hid (zup HZ2.out B3);clear B3 HZ2;go_upto_region 4 with fail
 refine Run.start 8 ?_;refine .fa .o (fM0 0) ?_;refine .ld (.i 0) (ldInt b2 0) ?_;refine .fa .o (fM0 0) ?_;refine .ld (.i 2) (ldInt b3 0) ?_;refine .two (.i 1) (.i 3) (opAddN r r' (by omega)) ?_;refine .c1 (.i 4) (x:=.k (.bool true)) (by rintro u w2 hB rfl;exact c_9 _ (by unfold sd;exact decide_eq_true (by omega)) w2) ?_;refine .nt (.i 5) ?_;refine .mv (.i 6) ?_;refine .donep [some 23,some 24,some 25,some 26,some 27,some 28,some 29,some 22] ?_;intro w4 B4;change Shut (wpList _ _ _ [] _ _);refine⟨?_⟩;simp only[Act.put,lS,lZ,lC];replace b2:=b2.below B4;replace b3:=b3.below B4;replace b4:=b4.below B4;replace b6:=b6.below B4;have HZ4:=Lib.hid (zup HZ3.out B4);clear B4 HZ3;go_upto_region 6 with fail
 refine Run.start 10 ?_;refine .fa .o (fM0 0) ?_;refine .ld (.i 0) (ldInt b2 0) ?_;refine .fa .o (fM0 0) ?_;refine .ld (.i 2) (ldInt b3 0) ?_;refine .two (.i 1) (.i 3) (opAddN r r' (by omega)) ?_;refine .fa .o (fM1 1) ?_;refine .ld (.i 5) (ldInt b2 1) ?_;refine .ld .o (ldP b6) ?_;refine .fn [(.i 7)] [] [_] [] (⟨rfl,trivial⟩) (trivial) ?_;refine .c3 (.i 4) (.i 6) (.i 8) (x:=kM true (r+r') c (max k k') (fun i j=>if i<r then F i j else G (i - r) j)) (by rintro u v x w5 hB rfl rfl rfl;exact e_z hs h4 (by kernel_rfl) (fun i j W hi hj hW=>by rw[argsM];exact k_a (ha.below (zup (zup HZ4.out hB) hW)) (hb.below (zup (zup HZ4.out hB) hW)) hi hj (by have:=hcc_.out;omega) hk hk')) ?_;refine .donep [some 31,some 32,some 33,some 34,some 35,some 36,some 37,some 38,some 39,some 40] ?_;intro w5 B5;rintro v ⟨A_,n_,d_,rfl,hM⟩;change Shut (wpList _ _ _ [_,_] _ _);refine⟨?_⟩;simp only[Act.put,lS,lZ,lC];have P:=Lib.hid (retME hM (b4.below B5) (by omega) (zup HZ4.out B5));unfold mput at P;obtain⟨i0,i1,i2,i3,i4,i5,i6⟩:=(b4.below B5).m3;clear hM
 go_wp2_with fail
 exact bodyPost_ret (v:=.tuple #[.agg #[.int .i64 ((r+r':Nat):Int),.int .i64 (c:Int),.slice A_ n_ d_],.int .i64 0]) (by simp[results,Tryz.results28,go_sem,i0,i1,i2]) rfl P.out
end
section
namespace DT
variable {R C:Nat}{M N H K:Mx}{u v:Nat→Int}
theorem Lat.mat (h:Lat R C M u)(e:∀i j,i<R→j<C→M i j=N i j):Lat R C N u:=by
 obtain⟨x,hx⟩:=h;exact⟨x,fun j hj=>(hx j hj).trans (sum_ext fun i hi=>by rw[e i j hi hj])⟩
end DT
end
section
section
variable {R C r:Nat}{F G:Nat→Nat→Int}
end
theorem LatOk.rk_le {R C r:Nat}{F G:Nat→Nat→Int}(h:LatOk R C r F G):r≤R:=by
 have hX:∀i,∃x:Nat→Int,i<r→∀j,j<C→G i j=DT.sumN R fun l=>x l*F l j:=fun i=>by
  by_cases hi:i<r
  ·obtain⟨x,hx⟩:=(h.lat (G i)).mp (DT.Lat.row _ _ _ hi);exact⟨x,fun _=>hx⟩
  ·exact⟨fun _=>0,fun h=>absurd h hi⟩
 obtain⟨X,hX2⟩:=Classical.axiomOfChoice hX;refine Nat.le_of_not_lt fun h1=>?_;have h2:=DT.det_thin h1 X fun a j=>F a (DT.fst C (G j));have h3:DT.det r (fun i j=>G i (DT.fst C (G j)))=DT.det r fun i j=>DT.sumN R fun a=>X i a*F a (DT.fst C (G j)):=DT.det_ext fun i j hi hj=>hX2 i hi _ (h.full j hj);rw[h2,h.hm.steps.det h.full]at h3;exact DT.prod_ne (fun k hk=>DT.fst_ne (h.full k hk)) h3
theorem LatOk.rows {R C r r':Nat}{F G G':Nat→Nat→Int}(h:LatOk R C r F G)(h':LatOk R C r' F G'):r=r':=by
 have e:∀v,DT.Lat r C G v↔DT.Lat r' C G' v:=fun v=>(h.lat v).trans (h'.lat v).symm;have hX:∀i,∃x:Nat→Int,i<r→∀j,j<C→G i j=DT.sumN r' fun l=>x l*G' l j:=fun i=>by
  by_cases hi:i<r
  ·obtain⟨x,hx⟩:=(e (G i)).mp (DT.Lat.row _ _ _ hi);exact⟨x,fun _=>hx⟩
  ·exact⟨fun _=>0,fun h=>absurd h hi⟩
 obtain⟨X,hX2⟩:=Classical.axiomOfChoice hX;have hZ:∀i,∃x:Nat→Int,i<r'→∀j,j<C→G' i j=DT.sumN r fun l=>x l*G l j:=fun i=>by
  by_cases hi:i<r'
  ·obtain⟨x,hx⟩:=(e (G' i)).mpr (DT.Lat.row _ _ _ hi);exact⟨x,fun _=>hx⟩
  ·exact⟨fun _=>0,fun h=>absurd h hi⟩
 obtain⟨Z,hZ2⟩:=Classical.axiomOfChoice hZ;rcases Nat.lt_trichotomy r r' with h1|h1|h1
 ·exfalso
  have h2:=DT.det_thin h1 Z fun a j=>G a (DT.fst C (G' j));have h3:DT.det r' (fun i j=>G' i (DT.fst C (G' j)))=DT.det r' fun i j=>DT.sumN r fun a=>Z i a*G a (DT.fst C (G' j)):=DT.det_ext fun i j hi hj=>hZ2 i hi _ (h'.full j hj);rw[h2,h'.hm.steps.det h'.full]at h3;exact DT.prod_ne (fun k hk=>DT.fst_ne (h'.full k hk)) h3
 ·exact h1
 ·exfalso
  have h2:=DT.det_thin h1 X fun a j=>G' a (DT.fst C (G j));have h3:DT.det r (fun i j=>G i (DT.fst C (G j)))=DT.det r fun i j=>DT.sumN r' fun a=>X i a*G' a (DT.fst C (G j)):=DT.det_ext fun i j hi hj=>hX2 i hi _ (h.full j hj);rw[h2,h.hm.steps.det h.full]at h3;exact DT.prod_ne (fun k hk=>DT.fst_ne (h.full k hk)) h3
noncomputable def ltv (R C:Nat)(F:Nat→Nat→Int):Nat × (Nat→Nat→Int):=open Classical in if h:∃p:Nat × (Nat→Nat→Int),LatOk R C p.1 F p.2 then Classical.choose h else(0,fun _ _=>0)
theorem n_3 {R C r:Nat}{F G:Nat→Nat→Int}(h:LatOk R C r F G):LatOk R C r F (ltv R C F).2∧(ltv R C F).1=r∧∀i j,i<r→j<C→(ltv R C F).2 i j=G i j:=by
 have he:∃p:Nat × (Nat→Nat→Int),LatOk R C p.1 F p.2:=⟨(r,G),h⟩;have hs:=Classical.choose_spec he;have hv:ltv R C F=Classical.choose he:=by unfold ltv;rw[dif_pos he]
 rw[←hv]at hs;have hr:=hs.rows h;rw[hr]at hs;exact⟨hs,hr,DT.herm_uniq hs.hm h.hm fun v=>(hs.lat v).trans (h.lat v).symm⟩
end
section
open Go.RowKit
theorem q_o {R W hi K cA:Nat}{A:Option Addr}{M:Nat→Nat→Int}{w:World}(hrow:RowsAt w A R W K M)(hhi:hi≤W)(hW:W≤1048576)(hR:R≤64)(hC:hi≤64):Calls Tryz.prog 39 #[.slice A R cA,.int .i64 0,.int .i64 (hi:Int)] w (RetK (kM true R hi K M) w):=by
 have h:=h_4 (cA:=cA) (lo:=0) hrow (Nat.zero_le hi) hhi hW hR (by omega);simp only[Nat.sub_zero,Nat.zero_add]at h;exact h
noncomputable def kLt (R C k:Nat)(F:Nat→Nat→Int):FK:=kT (kP (LatOk R C (ltv R C F).1 F (ltv R C F).2) (kM true (ltv R C F).1 C k (ltv R C F).2)) (.k (.int .i64 0))
theorem e_c {q:Bool}{r c n d k:Nat}{A:Option Addr}{F:Nat→Nat→Int}{w:World}(ha:Mt q w r c A n d k F)(hk2:k≤549755813888)(hk3:t1 k c*(c+3)≤68719476736):Calls Tryz.prog 29 #[.agg #[.int .i64 (r:Int),.int .i64 (c:Int),.slice A n d]] w (RetK (kLt r c (tm k c) F) w):=by
 have h1:=ha.fmd;have h3:=ha.hr;have h4:=ha.hc;have HA:=Lib.hid ha;have HK:=Lib.hid hk3;clear ha hk3;obtain⟨w1,hw1,b1,b2,z1,s1⟩:=boxes2 w 24 24 [.int .i64 (r:Int),.int .i64 (c:Int),.slice A n d] [.int .i64 0,.int .i64 0,.slice none 0 0];have HW:=Lib.hid hw1;have HZ:=Lib.hid z1;have h1_:=Lib.hid h1;clear hw1 z1 h1;go_enter Tryz.func29,Tryz.ntmps29
 go_upto_region 1 with fail
 rw[HW.out];refine Run.start 3 ?_;refine .ld .o (ldM b1 0) ?_;refine .c1 (.i 0) (x:=.k (.bool true)) (by rintro u w4 hB rfl;exact a_n h1_.out w4) ?_;refine .nt (.i 1) ?_;refine .donep [some 4,some 5,some 6] ?_;intro w2 B2;change Shut (wpList _ _ _ [] _ _);refine⟨?_⟩;simp only[Act.put,lS,lZ,lC];have BW:=zup HZ.out B2;replace b1:=b1.below B2;replace b2:=b2.below B2;have HA2:=Lib.hid (HA.out.below BW);have hs1:=s1;have hs2:=B2.size;have HB1:=Lib.hid b1;have HB2:=Lib.hid b2;have HBW:=Lib.hid BW;have hl1:=b1.lt;obtain⟨c0,c1,c2,-,-,-,-⟩:=b1.m3;have hcz:∀a,a<r→c≤c∧c≤9223372036854775807:=fun _ _=>⟨Nat.le_refl _,by omega⟩;have HCZ:=Lib.hid hcz;clear b1 b2 B2 BW HZ s1 HA hcz;go_upto_region 3 with fail
 go_region_held3 (fun w'=>w'.cell? ⟨w.heap.size,0,none⟩=some (.int .i64 (r:Int))∧w'.cell? ⟨w.heap.size,1,none⟩=some (.int .i64 (c:Int))∧w'.cell? ⟨w.heap.size,2,none⟩=some (.slice A n d)) (go_keep) (first
  |(go_at_call 51;(with_reducible refine(e_s (HA2.out.below (a_a _)) hk2).mono ?_);rintro e w4 ⟨L,g0,rfl,B4,hL,bL,R4,hbd4⟩;have Q4:=zup (a_a _) B4;obtain⟨x0,x1,x2,-,-,-,-⟩:=(HB1.out.below Q4).m3)
  |(go_at_call 36;(with_reducible refine(k_2 bL R4 B4.size HCZ.out hbd4 (by omega) (by omega) HK.out).mono ?_);rintro e w5 ⟨H,Fh,p,rfl,hH,T,hC⟩;have Q5:=hC.up Q4 (by have:=Q4.size;omega) (fun a ha=>by have:=(R4.row a ha).lo;have:=a_a w2;have:=this.size;omega);obtain⟨y0,y1,y2,-,-,-,-⟩:=(HB1.out.below Q5).m3)
  |(go_at_call 38;(with_reducible refine(k_1 T (Nat.le_refl _) (by omega) HCZ.out).mono ?_);rintro e w6 ⟨Br,cr,rfl,hRA,B6⟩;have Q6:=zup Q5 B6;obtain⟨z0,z1,z2,-,-,-,-⟩:=(HB1.out.below Q6).m3)
  |(go_at_call 39;(with_reducible refine(q_o (hi:=c) hRA (Nat.le_refl _) (by omega) (by have:=T.form.rk_le;omega) (by omega)).mono ?_);rintro e w7 ⟨v7,rfl,⟨A7,n7,d7,rfl,m7⟩,B7⟩;have Q7:=zup Q6 B7;obtain⟨u0,u1,u2,-,-,-,-⟩:=(HB1.out.below Q7).m3;obtain⟨i0,i1,i2,i3,i4,i5,i6⟩:=(HB2.out.below Q7).m3)
  |fail)
 have P:Hid (RetK (kLt r c (tm k c) F) w (.returned (.tuple #[.agg #[.int .i64 ((DT.rl p c).length:Int),.int .i64 (c:Int),.slice A7 n7 d7],.int .i64 0])) (mput w7 (w.heap.size+1) ((DT.rl p c).length:Int) (c:Int) A7 n7 d7)):=by
  have hsp:=n_3 T.form;have hm:=(m7.congr (G:=(ltv r c F).2) fun i j hi hj=>(hsp.2.2 i j hi hj).symm);have h2:=hm.put (r':=((DT.rl p c).length:Int)) (c':=(c:Int)) (C:=A7) (n':=n7) (d':=d7) (HB2.out.below Q7);have hr:=hsp.2.1;refine Lib.hid ⟨_,rfl,⟨_,_,rfl,⟨⟨A7,n7,d7,by rw[hr],by rw[hr];exact h2⟩,by rw[hr];exact hsp.1⟩,rfl⟩,a_c (zup HBW.out Q7) (by omega)⟩
 unfold mput at P;clear m7 T hRA hC bL R4 hbd4 B4 B6 B7 Q4 Q5 Q6 Q7 x0 x1 x2 y0 y1 y2 z0 z1 z2 c0 c1 c2
 go_wp2_with fail
 exact bodyPost_ret (v:=.tuple #[.agg #[.int .i64 ((DT.rl p c).length:Int),.int .i64 (c:Int),.slice A7 n7 d7],.int .i64 0]) (by simp[results,Tryz.results29,go_sem,i0,i1,i2]) rfl P.out
end
section
open Go.RowKit
theorem f_p {N W:Nat}{F:Nat→Nat→Int}{p:Nat→Option Nat}(h:DT.Tri N W F p)(hr:DT.Rst N W F p)(f:Nat→Int):DT.fst W (DT.rd F p 0 W f)<W↔¬DT.Lat N W F f:=by
 rw[h.left hr];constructor
 ·intro hlt h0;exact DT.fst_ne hlt (h0 _ hlt)
 ·intro hn;refine Nat.lt_of_le_of_ne (DT.fst_le _ _) fun e=>hn fun j hj=>DT.fst_zero (C:=W) (by omega)
def two (n:Nat){α:Type}(f g:Nat→α):Nat→α:=fun x=>if x<n then f x else g (x - n)
theorem b_u {n x:Nat}{α:Type}{f g:Nat→α}(h:x<n):two n f g x=f x:=by unfold two;rw[if_pos h]
theorem c_h {n x:Nat}{α:Type}{f g:Nat→α}:two n f g (n+x)=g x:=by unfold two;rw[if_neg (by omega),Nat.add_sub_cancel_left]
theorem t_2 {n x:Nat}{α:Type}{c:α}:two n (fun _=>c) (fun _=>c) x=c:=by unfold two;split<;>rfl
theorem Rws.two {b b':Nat}{w:World}{n n' W:Nat}{g o g' o':Nat→Nat}{F F':Nat→Nat→Int}(h:Rws b w n W g o F)(h':Rws b' w n' W g' o' F')(hb:b≤b')(hn:∀a c,a<n→c<n'→g a≠g' c):Rws b w (n+n') W (Proofs.YtgohglhefhocgaaGreat.two n g g') (Proofs.YtgohglhefhocgaaGreat.two n o o') (Proofs.YtgohglhefhocgaaGreat.two n F F'):=by
 refine⟨fun a ha=>?_,fun a c ha hc hne=>?_⟩
 ·rcases Nat.lt_or_ge a n with h1|h1
  ·rw[b_u h1,b_u h1,b_u h1];exact h.row a h1
  ·obtain⟨x,rfl⟩:∃x,a=n+x:=⟨a - n,by omega⟩;rw[c_h,c_h,c_h];exact(h'.row x (by omega)).low hb
 ·rcases Nat.lt_or_ge a n with h1|h1<;>rcases Nat.lt_or_ge c n with h2|h2
  ·rw[b_u h1,b_u h1,b_u h2,b_u h2];exact h.dj a c h1 h2 hne
  ·obtain⟨x,rfl⟩:∃x,c=n+x:=⟨c - n,by omega⟩;rw[b_u h1,c_h];exact .inl (hn a x h1 (by omega))
  ·obtain⟨x,rfl⟩:∃x,a=n+x:=⟨a - n,by omega⟩;rw[b_u h2,c_h];exact .inl (Ne.symm (hn c x h2 (by omega)))
  ·obtain⟨x,rfl⟩:∃x,a=n+x:=⟨a - n,by omega⟩;obtain⟨y,rfl⟩:∃y,c=n+y:=⟨c - n,by omega⟩;rw[c_h,c_h,c_h,c_h];exact h'.dj x y (by omega) (by omega) (by omega)
def IxPost (w:World)(n Rb Ra C:Nat)(g:Nat→Nat)(F:Nat→Nat→Int)(e:Ending)(w':World):Prop:=
 ∃x:Int,e= .returned (.int .i64 x)∧Hid (0≤x↔∃i,i<Ra∧¬DT.Lat Rb C F (F (Rb+i)))∧Chg w w' n g
def CfPost (w:World)(n Rb Ra C:Nat)(g:Nat→Nat)(F:Nat→Nat→Int)(e:Ending)(w':World):Prop:=
 ∃x:Bool,e= .returned (.bool x)∧Hid (x=true↔∃i,i<Ra∧¬DT.Lat Rb C F (F (Rb+i)))∧Chg w w' n g
theorem t_e {b Rb Ra C H La ka m:Nat}{g o cp:Nat→Nat}{F:Nat→Nat→Int}{p:Nat→Option Nat}{w:World}(bx:Bx w H 22 (tcs C g o cp p))(bl:Bx w La 22 (rcs Ra C (fun i=>g (Rb+i)) (fun i=>o (Rb+i)) fun i=>cp (Rb+i)))(r:Rws b w (Rb+Ra) C g o F)(hb:b≤w.heap.size)(T:DT.Tri Rb C F p)(hr:DT.Rst Rb C F p)(hcp:∀x,x<Rb+Ra→C≤cp x∧cp x≤9223372036854775807)(hA:∀i,i<Ra→Bd C ka (F (Rb+i)))(hm:∀k c,k<C→p k=some c→Bd C m (F c))(hC:C≤1048576)(hRa:Ra≤1048576)(hK:ka+C*(m+1)+m+3≤549755813888):Calls Tryz.prog 96 #[.slice (some ⟨La,0,none⟩) Ra Ra,.func (.func 63) #[.slice (some ⟨H,0,none⟩) C C] #[]] w (IxPost w (Rb+Ra) Rb Ra C g F):=by
 have HBX:=Lib.hid bx;have HBL:=Lib.hid bl;have HT:=Lib.hid T;have HRS:=Lib.hid hr;have HCP:=Lib.hid hcp;have HA:=Lib.hid hA;have HM:=Lib.hid hm;have HNX:=Lib.hid (fun a (ha:a<Rb+Ra)=>r.ne bx (by decide) ha);have HNL:=Lib.hid (fun a (ha:a<Rb+Ra)=>r.ne bl (by decide) ha);have HI:Hid (Chg w w (Rb+Ra) g∧(∃F',Rws b w (Rb+Ra) C g o F'∧(∀x,x<Rb→F' x=F x)∧∀x,Rb+0≤x→F' x=F x)∧∀i,i<0→DT.Lat Rb C F (F (Rb+i))):=Lib.hid ⟨.refl w,⟨F,r,fun _ _=>rfl,fun _ _=>rfl⟩,fun i hi=>by omega⟩;clear bx bl r T hr hcp hA hm;go_enter Tryz.func96,Tryz.ntmps96
 go_wp2_with fail
 go_loopw [8] (fun s8 wr=>∃j:Nat,s8= .int .i64 (j:Int)∧j≤Ra∧Hid (Chg w wr (Rb+Ra) g∧(∃F',Rws b wr (Rb+Ra) C g o F'∧(∀x,x<Rb→F' x=F x)∧∀x,Rb+j≤x→F' x=F x)∧∀i,i<j→DT.Lat Rb C F (F (Rb+i)))) (fun s8 _=>Ra - (intOf s8).toNat)
 case atStart=>exact⟨0,rfl,Nat.zero_le _,HI⟩
 case round=>
  obtain⟨j,rfl,hj,HB⟩:=hrel;clear HI;by_cases hlt:j<Ra
  ·have u2:(j:Int)<(Ra:Int):=by omega
   obtain⟨hG,⟨F',hR,hlo,hhi⟩,hL⟩:=HB.out;have bx:=hG.bx HBX.out (fun a ha=>HNX.out a ha);have bl:=hG.bx HBL.out (fun a ha=>HNL.out a ha);have c1:wr.cell? ⟨La,j,none⟩=some (rwV (g (Rb+j)) (o (Rb+j)) C (cp (Rb+j))):=(bl.cell j).trans (d_6 hlt);have hfj:F' (Rb+j)=F (Rb+j):=hhi _ (Nat.le_refl _);have hrd:∀i,DT.rd F' p 0 i (F' (Rb+j))=DT.rd F p 0 i (F (Rb+j))∨C<i:=fun i=>by
    rcases Nat.lt_or_ge C i with h|h
    ·exact .inr h
    ·left;rw[hfj];exact DT.rd_ext i fun k a _ hk ha=>hlo a (HT.out.lt k a (by omega) ha)
   have HC:=j_b (ca:=cp (Rb+j)) (β:=ka+C*(m+1)) (κ:=m) bx hR (by have:=hG.size;omega) (HT.out.ext fun k a hk ha=>hlo a (HT.out.lt k a hk ha)) (by omega) (show Rb+j<Rb+Ra by omega) (fun k c hk hc=>by have:=HT.out.lt k c hk hc;omega) (HCP.out _ (by omega)).1 (HCP.out _ (by omega)).2 hC (fun i hi=>by
    rw[(hrd i).resolve_right (by omega)];have h3:=n_u (lo:=0) (f:=F (Rb+j)) (β:=fun i=>ka+i*(m+1)) HT.out (by simpa using HA.out j hlt) (fun j=>by have:=Nat.add_mul j 1 (m+1);show _+j*(m+1)≤_+(j+1)*(m+1);omega) (fun i c hi hc=>.inr ⟨m,HM.out i c (by omega) (by rwa [Nat.zero_add]at hc),by have:=Nat.add_mul i 1 (m+1);show _+i*(m+1)+m+1≤_+(i+1)*(m+1);omega⟩) i (by omega);refine h3.mono ?_;show ka+i*(m+1)≤ka+C*(m+1)
    have:i*(m+1)≤C*(m+1):=Nat.mul_le_mul_right _ hi;omega) (fun k c hk hc=>by rw[hlo c (HT.out.lt k c hk hc)];exact HM.out k c hk hc) (by omega)
   rw[(hrd C).resolve_right (by omega)]at HC;obtain⟨d,hd⟩:∃d,decide (DT.fst C (DT.rd F p 0 C (F (Rb+j)))<C)=d:=⟨_,rfl⟩;rw[hd]at HC;have HD:=Lib.hid hd;have HCC:=Lib.hid HC;have HG:=Lib.hid hG;have HLO:=Lib.hid hlo;have HHI:=Lib.hid hhi;have HL:=Lib.hid hL;clear hG hR hlo hhi hL bx bl hfj hrd HC hd HB
   go_wp2_with fail
   refine HCC.out.mono ?_;rintro e w2 ⟨rfl,hR2,hG2⟩;have HG2:=Lib.hid (HG.out.trans (Chg.one (show Rb+j<Rb+Ra by omega) hG2));have HR2:=Lib.hid hR2;clear HCC hR2 hG2 c1;cases d
   ·have hlj:DT.Lat Rb C F (F (Rb+j)):=Classical.byContradiction fun h=>by
     have:=(f_p HT.out HRS.out (F (Rb+j))).mpr h;exact absurd this (of_decide_eq_false HD.out)
    have HI:Hid (Chg w w2 (Rb+Ra) g∧(∃F',Rws b w2 (Rb+Ra) C g o F'∧(∀x,x<Rb→F' x=F x)∧∀x,Rb+(j+1)≤x→F' x=F x)∧∀i,i<(j+1)→DT.Lat Rb C F (F (Rb+i))):=Lib.hid ⟨HG2.out,⟨_,HR2.out,fun x hx=>by rw[DT.upd_ne (by omega)];exact HLO.out x hx,fun x hx=>by rw[DT.upd_ne (by omega)];exact HHI.out x (by omega)⟩,fun i hi=>by
     by_cases e:i=j
     ·subst e;exact hlj
     ·exact HL.out i (by omega)⟩
    clear hlj HG2 HR2 HG
    go_wp2_with fail
    go_roundw
    case rel=>exact⟨j+1,by go_num,by omega,HI⟩
    case measure=>first|(simp[intOf];done)|(simp[intOf];omega)
   ·have P:Hid (IxPost w (Rb+Ra) Rb Ra C g F (.returned (.int .i64 (j:Int))) w2):=Lib.hid ⟨_,rfl,Lib.hid ⟨fun _=>⟨j,hlt,(f_p HT.out HRS.out (F (Rb+j))).mp (of_decide_eq_true HD.out)⟩,fun _=>by omega⟩,HG2.out⟩;clear HG2 HR2 HG
    go_wp2_with fail
    exact bodyPost_ret (v:=.int .i64 (j:Int)) (by simp[results,Tryz.results96,go_sem]) rfl P.out
  ·obtain rfl:j=Ra:=by omega
   have u2:¬(j:Int)<(j:Int):=by omega
   have P:Hid (IxPost w (Rb+j) Rb j C g F (.returned (.int .i64 (-1))) wr):=Lib.hid ⟨_,rfl,Lib.hid ⟨fun h=>by omega,fun⟨i,hi,hn⟩=>absurd (HB.out.2.2 i hi) hn⟩,HB.out.1⟩;clear HB
   go_wp2_with fail
   exact bodyPost_ret (v:=.int .i64 (-1)) (by simp[results,Tryz.results96,go_sem]) rfl P.out
theorem t_h {b Rb Ra C H La ka m:Nat}{g o cp:Nat→Nat}{F:Nat→Nat→Int}{p:Nat→Option Nat}{w:World}(bx:Bx w H 22 (tcs C g o cp p))(bl:Bx w La 22 (rcs Ra C (fun i=>g (Rb+i)) (fun i=>o (Rb+i)) fun i=>cp (Rb+i)))(r:Rws b w (Rb+Ra) C g o F)(hb:b≤w.heap.size)(T:DT.Tri Rb C F p)(hr:DT.Rst Rb C F p)(hcp:∀x,x<Rb+Ra→C≤cp x∧cp x≤9223372036854775807)(hA:∀i,i<Ra→Bd C ka (F (Rb+i)))(hm:∀k c,k<C→p k=some c→Bd C m (F c))(hC:C≤1048576)(hRa:Ra≤1048576)(hK:ka+C*(m+1)+m+3≤549755813888):Calls Tryz.prog 62 #[.slice (some ⟨La,0,none⟩) Ra Ra,.func (.func 63) #[.slice (some ⟨H,0,none⟩) C C] #[]] w (CfPost w (Rb+Ra) Rb Ra C g F):=by
 have HC:=Lib.hid (t_e bx bl r hb T hr hcp hA hm hC hRa hK);clear bx bl r T hr hcp hA hm;go_enter Tryz.func62,Tryz.ntmps62
 go_wp2_with fail
 refine HC.out.mono ?_;rintro e w2 ⟨z,rfl,hz,hG⟩;have HG:=Lib.hid hG;clear hG HC;by_cases u1:(0:Int)≤z
 ·have P:Hid (CfPost w (Rb+Ra) Rb Ra C g F (.returned (.bool true)) w2):=Lib.hid ⟨_,rfl,Lib.hid ⟨fun _=>hz.out.mp u1,fun _=>rfl⟩,HG.out⟩
  go_wp2_with fail
  exact bodyPost_ret (v:=.bool true) (by simp[results,Tryz.results62,go_sem]) rfl P.out
 ·have P:Hid (CfPost w (Rb+Ra) Rb Ra C g F (.returned (.bool false)) w2):=Lib.hid ⟨_,rfl,Lib.hid ⟨fun h=>(nomatch h),fun h=>absurd (hz.out.mpr h) u1⟩,HG.out⟩
  go_wp2_with fail
  exact bodyPost_ret (v:=.bool false) (by simp[results,Tryz.results62,go_sem];try omega) rfl P.out
noncomputable def wth (Ra Rb C:Nat)(F G:Nat→Nat→Int):Bool:=@decide (∀i,i<Ra→DT.Lat Rb C G (F i)) (Classical.propDecidable _)
theorem wth_iff {Ra Rb C:Nat}{F G:Nat→Nat→Int}:wth Ra Rb C F G=true↔∀i,i<Ra→DT.Lat Rb C G (F i):=by unfold wth;exact @decide_eq_true_iff _ (Classical.propDecidable _)
theorem c_o {q q':Bool}{r r' c n d k n' d' k':Nat}{A A':Option Addr}{F G:Nat→Nat→Int}{w:World}(ha:Mt q w r c A n d k F)(hb:Mt q' w r' c A' n' d' k' G)(hk1:k≤549755813888)(hk2:k'≤549755813888)(hk3:t1 k' c*(c+3)≤68719476736)(hk4:k+c*(tm k' c+1)+tm k' c+3≤549755813888):Calls Tryz.prog 27 #[.agg #[.int .i64 (r:Int),.int .i64 (c:Int),.slice A n d],.agg #[.int .i64 (r':Int),.int .i64 (c:Int),.slice A' n' d']] w (RetK (kT (.k (.bool (wth r r' c F G))) (.k (.int .i64 0))) w):=by
 have h1:=ha.fmd;have h1b:=hb.fmd;have h3:=ha.hr;have h4:=ha.hc;have h3':=hb.hr;have HA:=Lib.hid ha;have HB:=Lib.hid hb;have HK:=Lib.hid hk3;have HK4:=Lib.hid hk4;obtain⟨bw,hbw⟩:∃bw,wth r r' c F G=bw:=⟨_,rfl⟩;rw[hbw];have HBW_:=Lib.hid hbw;clear ha hb hk3 hk4 hbw;obtain⟨w1,hw1,b2,b3,z1,s1⟩:=boxes2 w 24 24 [.int .i64 (r:Int),.int .i64 (c:Int),.slice A n d] [.int .i64 (r':Int),.int .i64 (c:Int),.slice A' n' d'];have HW:=Lib.hid hw1;have HZ:=Lib.hid z1;have h1_:=Lib.hid h1;have h1b_:=Lib.hid h1b;clear hw1 z1 h1 h1b;go_enter Tryz.func27,Tryz.ntmps27
 go_upto_region 1 with fail
 rw[HW.out];refine Run.start 15 ?_;refine .ld .o (ldM b2 0) ?_;refine .c1 (.i 0) (x:=.k (.bool true)) (by rintro u w4 hB rfl;exact a_n h1_.out w4) ?_;refine .nt (.i 1) ?_;refine .mv (.i 2) ?_;refine .ld .o (ldM b3 0) ?_;refine .c1 (.i 4) (x:=.k (.bool true)) (by rintro u w4 hB rfl;exact a_n h1b_.out w4) ?_;refine .nt (.i 5) ?_;refine .pk (.i 3) (.i 6) false ?_;refine .mv (.i 7) ?_;refine .fa .o (fM1 1) ?_;refine .ld (.i 9) (ldInt b2 1) ?_;refine .fa .o (fM1 1) ?_;refine .ld (.i 11) (ldInt b3 1) ?_;refine .two (.i 10) (.i 12) (opNe (by simp:decide ((c:Int)≠(c:Int))=false)) ?_;refine .pk (.i 8) (.i 13) false ?_;refine .donep [some 7,some 8,some 9,some 10,some 11,some 12,some 13,some 14,some 15,some 16,some 17,some 18,some 19,some 20,some 21] ?_;intro w2 B2;change Shut (wpList _ _ _ [] _ _);refine⟨?_⟩;simp only[Act.put,lS,lZ,lC];have BW:=zup HZ.out B2;replace b2:=b2.below B2;replace b3:=b3.below B2;have HA2:=Lib.hid (HA.out.below BW);have HB2:=Lib.hid (HB.out.below BW);have hs1:=s1;have hs2:=B2.size;have HX2:=Lib.hid b2;have HX3:=Lib.hid b3;have HBW:=Lib.hid BW;have hl1:=b2.lt;have hl3:=b3.lt;obtain⟨c0,c1,c2,-,-,-,-⟩:=b3.m3;have hcz:∀a,a<r'→c≤c∧c≤9223372036854775807:=fun _ _=>⟨Nat.le_refl _,by omega⟩;have HCZ:=Lib.hid hcz;clear b2 b3 B2 BW HZ s1 HA HB hcz;go_upto_region 3 with fail
 go_region_held3 (fun w'=>w'.cell? ⟨w.heap.size+1,0,none⟩=some (.int .i64 (r':Int))∧w'.cell? ⟨w.heap.size+1,1,none⟩=some (.int .i64 (c:Int))∧w'.cell? ⟨w.heap.size+1,2,none⟩=some (.slice A' n' d')) (go_keep) (first
  |(go_at_call 51;(with_reducible refine(e_s (HB2.out.below (a_a _)) hk2).mono ?_);rintro e w4 ⟨L,g0,rfl,B4,hL,bL,R4,hbd4⟩;have Q4:=zup (a_a _) B4;obtain⟨x0,x1,x2,-,-,-,-⟩:=(HX3.out.below Q4).m3)
  |(go_at_call 36;(with_reducible refine(k_2 bL R4 B4.size HCZ.out hbd4 (by omega) (by omega) HK.out).mono ?_);rintro e w5 ⟨H,Fh,p,rfl,hH,T,hC⟩;have Q5:=hC.up Q4 (by have:=Q4.size;omega) (fun a ha=>by have:=(R4.row a ha).lo;have:=a_a w2;have:=this.size;omega);obtain⟨y0,y1,y2,-,-,-,-⟩:=(HX3.out.below Q5).m3)
  |fail)
 have HT:=Lib.hid T;have HA5:=Lib.hid (HA2.out.below Q5);have HX5:=Lib.hid (HX2.out.below Q5);have HQ5:=Lib.hid (zup HBW.out Q5);have hw2:w2.heap.size≤w2.drew.heap.size:=(a_a w2).size;have hs4:=B4.size;have hs5:=hC.size;have hg04:=fun a (h:a<r')=>(R4.row a h).lt;have HG04:=Lib.hid hg04;have hlo4:=fun a (h:a<r')=>(R4.row a h).lo;have HLO4:=Lib.hid hlo4;obtain⟨f0,f1,f2,-,-,-,-⟩:=HX5.out.m3;clear T hC bL R4 hbd4 B4 Q4 Q5 x0 x1 x2 y0 y1 y2 c0 c1 c2 HB2 HA2 HX2 HX3 hg04 hlo4
 go_wp2_with fail
 refine(e_s HA5.out hk1).mono ?_;rintro e w6 ⟨La,ga,rfl,B6,hLa,bLa,R6,hbd6⟩;have T6:=HT.out.below B6;have hTm:=T6.form.rk_le;have R:=T6.rws.two R6 (by have:=HQ5.out.size;omega) (fun a x ha hx e=>by
  have h5:=HG04.out a ha;have h6:=(R6.row x hx).lo;omega)
 have htri:=T6.tri;have htr2:DT.Tri r' c (two r' Fh F) p:=htri.ext fun k a hk ha=>b_u (htri.lt k a hk ha);have hrs2:DT.Rst r' c (two r' Fh F) p:=fun a ha hn j hj=>by rw[b_u ha];exact T6.rst a ha hn j hj
 have bT:Bx w6 H 22 (tcs c (two r' (fun _=>g0) fun _=>ga) (two r' (fun a=>a*c*2) fun a=>a*c*2) (two r' (fun _=>c) fun _=>c) p):=by
  have e:tcs c (two r' (fun _=>g0) fun _=>ga) (two r' (fun a=>a*c*2) fun a=>a*c*2) (two r' (fun _=>c) fun _=>c) p=tcs c (fun _=>g0) (fun a=>a*c*2) (fun _=>c) p:=by
   unfold tcs;refine List.map_congr_left fun k hk=>?_;unfold tvl;cases hpk:p k with
   |none=>rfl
   |some a=>
    have:=htri.lt k a (List.mem_range.1 hk) hpk;simp only[b_u this]
  rw[e];exact T6.bx
 have bA:Bx w6 La 22 (rcs r c (fun i=>two r' (fun _=>g0) (fun _=>ga) (r'+i)) (fun i=>two r' (fun a=>a*c*2) (fun a=>a*c*2) (r'+i)) fun i=>two r' (fun _=>c) (fun _=>c) (r'+i)):=by
  simp only[c_h];exact bLa
 have HC:=t_h (La:=La) (ka:=k) (m:=tm k' c) bT bA R (by have:=B6.size;omega) htr2 hrs2 (fun x hx=>by rw[t_2];omega) (fun i hi=>by rw[c_h];exact hbd6 i hi) (fun j a hj ha=>by rw[b_u (htri.lt j a hj ha)];exact T6.bd j a hj ha) (by omega) (by omega) HK4.out;have HCC:=Lib.hid HC;have HQ6:=Lib.hid (zup HQ5.out B6);have HLT:=Lib.hid T6.lat;have hs6:=B6.size;have HRL:=Lib.hid (fun a (h:a<r'+r)=>(R.row a h).lt);have HRO:=Lib.hid (fun a (h:a<r'+r)=>(R.row a h).lo);clear T6 R htri htr2 hrs2 bT bA bLa R6 hbd6 HC B6 f0 f1 f2 HX5 HT HA5
 go_wp2_with fail
 refine HCC.out.mono ?_;rintro e w7 ⟨xb,rfl,hxb,hC7⟩;have hbx:(!xb)=bw:=by
  rw[←HBW_.out];have h5:=wth_iff (Ra:=r) (Rb:=r') (C:=c) (F:=F) (G:=G);have hlat:∀i,i<r→(DT.Lat r' c (two r' Fh F) (two r' Fh F (r'+i))↔DT.Lat r' c G (F i)):=fun i hi=>by
   rw[c_h];refine Iff.trans ?_ (HLT.out _);exact⟨fun h=>h.mat fun a j ha _=>by rw[b_u ha],fun h=>h.mat fun a j ha _=>by rw[b_u ha]⟩
  cases xb
  ·have h6:¬_:=fun h=>Bool.noConfusion (hxb.out.mpr h);have:wth r r' c F G=true:=h5.mpr fun i hi=>(hlat i hi).mp (Classical.byContradiction fun h=>h6 ⟨i,hi,h⟩);rw[this];rfl
  ·obtain⟨i,hi,hn⟩:=hxb.out.mp rfl;have:wth r r' c F G≠true:=fun h=>hn ((hlat i hi).mpr (h5.mp h i hi));rw[Bool.eq_false_iff.mpr this];rfl
 have P:Hid (RetK (kT (.k (.bool bw)) (.k (.int .i64 0))) w (.returned (.tuple #[.bool bw,.int .i64 0])) w7):=Lib.hid ⟨_,rfl,⟨_,_,rfl,rfl,rfl⟩,hC7.up HQ6.out (by have:=HQ6.out.size;omega) (fun a ha=>by have:=HRO.out a ha;omega)⟩;clear HCC hxb hC7 HQ6 HLT HRL HRO
 go_wp2_with fail
 exact bodyPost_ret (v:=.tuple #[.bool bw,.int .i64 0]) (by simp[results,Tryz.results27,go_sem];try exact hbx) rfl P.out
theorem g_r {r c r' c':Int}{n d n' d':Nat}{A A':Option Addr}{w:World}(h:fmd r c n=false∨fmd r' c' n'=false∨c≠c'):Calls Tryz.prog 27 #[.agg #[.int .i64 r,.int .i64 c,.slice A n d],.agg #[.int .i64 r',.int .i64 c',.slice A' n' d']] w (RetK (.k (.tuple #[.bool false,.int .i64 2])) w):=by
 obtain⟨ba,hba⟩:∃b,fmd r c n=b:=⟨_,rfl⟩;obtain⟨bb,hbb⟩:∃b,fmd r' c' n'=b:=⟨_,rfl⟩;have h_:=Lib.hid h;clear h;obtain⟨w1,hw1,b2,b3,z1,s1⟩:=boxes2 w 24 24 [.int .i64 r,.int .i64 c,.slice A n d] [.int .i64 r',.int .i64 c',.slice A' n' d'];have HW:=Lib.hid hw1;have HZ:=Lib.hid z1;have hba_:=Lib.hid hba;have hbb_:=Lib.hid hbb;clear hw1 z1 hba hbb;go_enter Tryz.func27,Tryz.ntmps27
 go_upto_region 1 with fail
 rw[HW.out];cases ba
 ·skip
  refine Run.start 15 ?_;refine .ld .o (ldM b2 0) ?_;refine .c1 (.i 0) (x:=.k (.bool false)) (by rintro u w4 hB rfl;exact a_n hba_.out w4) ?_;refine .nf (.i 1) ?_;refine .mv (.i 2) ?_;refine .no ?_;refine .no ?_;refine .no ?_;refine .pk (.i 3) .o true ?_;refine .mv (.i 7) ?_;refine .no ?_;refine .no ?_;refine .no ?_;refine .no ?_;refine .no ?_;refine .pk (.i 8) .o true ?_;refine .donep [some 7,some 8,some 9,some 10,some 11,some 12,some 13,some 14,some 15,some 16,some 17,some 18,some 19,some 20,some 21] ?_;intro w2 B2;change Shut (wpList _ _ _ [] _ _);refine⟨?_⟩;simp only[Act.put,lS,lZ,lC];clear b2 b3;have P:Hid (RetK (.k (.tuple #[.bool false,.int .i64 2])) w (.returned (.tuple #[.bool false,.int .i64 2])) w2):=Lib.hid ⟨_,rfl,rfl,zup HZ.out B2⟩;clear B2
  go_wp2_with fail
  exact bodyPost_ret (v:=.tuple #[.bool false,.int .i64 2]) (by simp[results,Tryz.results27,go_sem]) rfl P.out
 ·cases bb
  ·skip
   refine Run.start 15 ?_;refine .ld .o (ldM b2 0) ?_;refine .c1 (.i 0) (x:=.k (.bool true)) (by rintro u w4 hB rfl;exact a_n hba_.out w4) ?_;refine .nt (.i 1) ?_;refine .mv (.i 2) ?_;refine .ld .o (ldM b3 0) ?_;refine .c1 (.i 4) (x:=.k (.bool false)) (by rintro u w4 hB rfl;exact a_n hbb_.out w4) ?_;refine .nf (.i 5) ?_;refine .pk (.i 3) (.i 6) false ?_;refine .mv (.i 7) ?_;refine .no ?_;refine .no ?_;refine .no ?_;refine .no ?_;refine .no ?_;refine .pk (.i 8) .o true ?_;refine .donep [some 7,some 8,some 9,some 10,some 11,some 12,some 13,some 14,some 15,some 16,some 17,some 18,some 19,some 20,some 21] ?_;intro w2 B2;change Shut (wpList _ _ _ [] _ _);refine⟨?_⟩;simp only[Act.put,lS,lZ,lC];clear b2 b3;have P:Hid (RetK (.k (.tuple #[.bool false,.int .i64 2])) w (.returned (.tuple #[.bool false,.int .i64 2])) w2):=Lib.hid ⟨_,rfl,rfl,zup HZ.out B2⟩;clear B2
   go_wp2_with fail
   exact bodyPost_ret (v:=.tuple #[.bool false,.int .i64 2]) (by simp[results,Tryz.results27,go_sem]) rfl P.out
  ·have hc:c≠c':=by
    rcases h_.out with h|h|h
    ·exact absurd (hba_.out.symm.trans h) (by decide)
    ·exact absurd (hbb_.out.symm.trans h) (by decide)
    ·exact h
   refine Run.start 15 ?_;refine .ld .o (ldM b2 0) ?_;refine .c1 (.i 0) (x:=.k (.bool true)) (by rintro u w4 hB rfl;exact a_n hba_.out w4) ?_;refine .nt (.i 1) ?_;refine .mv (.i 2) ?_;refine .ld .o (ldM b3 0) ?_;refine .c1 (.i 4) (x:=.k (.bool true)) (by rintro u w4 hB rfl;exact a_n hbb_.out w4) ?_;refine .nt (.i 5) ?_;refine .pk (.i 3) (.i 6) false ?_;refine .mv (.i 7) ?_;refine .fa .o (fM1 1) ?_;refine .ld (.i 9) (ldInt b2 1) ?_;refine .fa .o (fM1 1) ?_;refine .ld (.i 11) (ldInt b3 1) ?_;refine .two (.i 10) (.i 12) (opNe (by simp[hc]:decide (c≠c')=true)) ?_;refine .pk (.i 8) (.i 13) false ?_;refine .donep [some 7,some 8,some 9,some 10,some 11,some 12,some 13,some 14,some 15,some 16,some 17,some 18,some 19,some 20,some 21] ?_;intro w2 B2;change Shut (wpList _ _ _ [] _ _);refine⟨?_⟩;simp only[Act.put,lS,lZ,lC];clear b2 b3;have P:Hid (RetK (.k (.tuple #[.bool false,.int .i64 2])) w (.returned (.tuple #[.bool false,.int .i64 2])) w2):=Lib.hid ⟨_,rfl,rfl,zup HZ.out B2⟩;clear B2
   go_wp2_with fail
   exact bodyPost_ret (v:=.tuple #[.bool false,.int .i64 2]) (by simp[results,Tryz.results27,go_sem]) rfl P.out
end
end Go.Proofs.YtgohglhefhocgaaGreat
