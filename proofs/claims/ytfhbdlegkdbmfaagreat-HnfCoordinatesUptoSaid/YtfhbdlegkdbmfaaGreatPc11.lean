/- Pc11 -/
import Derived.Test.YtfhbdlegkdbmfaaGreatPc10
set_option linter.unusedVariables false
set_option linter.unusedSimpArgs false
set_option linter.unusedSectionVars false
set_option maxRecDepth 100000
set_option maxHeartbeats 8000000
namespace Go.Proofs.YtfhbdlegkdbmfaaGreat
section
open Go.RowKit
def dot (F G:Nat->Nat->Int)(i j:Nat):Nat->Int
 |0=>0
 |m+1=>dot F G i j m+F i m*G m j
section
variable {w:World}{g h:Nat}{T:TypeId}{cs:List Value}{s t:Bool}{A B:Option Addr}{n c m d:Nat}{z:Int}
theorem Bx.zp (b:Bx w g 31 [.bool t,.slice B m d]):Bx (zput w g s A n c) g 31 [.bool s,.slice A n c]:=(b.set 0 _).set 1 _
theorem Bx.zo (b:Bx w h T cs)(hn:h≠g):Bx (zput w g s A n c) h T cs:=(b.off hn _ _).off hn _ _
theorem Zv.zp {s':Bool}{A':Option Addr}{n' c':Nat}(x:Zv w s A n c z)(b:Bx w g 31 [.bool t,.slice B m d]):Zv (Go.Proofs.YtfhbdlegkdbmfaaGreat.zput w g s' A' n' c') s A n c z:=x.put (Ib.entry b)
theorem Zc.zp {s':Bool}{A':Option Addr}{n' c':Nat}(x:Zc w s A n c z)(b:Bx w g 31 [.bool t,.slice B m d]):Zc (Go.Proofs.YtfhbdlegkdbmfaaGreat.zput w g s' A' n' c') s A n c z:=x.put (Ib.entry b)
theorem zeroZ {T:TypeId}(h:w.heap[g]? =some (zeroObj 31)):Bx w g 31 [.bool false,.slice none 0 0]:=h.trans (congrArg some (by kernel_rfl))
end
theorem i_9 {q q':Bool}{r c n d k r' c' n' d' k' i j:Nat}{A A':Option Addr}{F G:Nat->Nat->Int}{w:World}(ha:Mt q w r c A n d k F)(hb:Mt q' w r' c' A' n' d' k' G)(hcr:c=r')(hi:i<r)(hj:j<c')(hk:k+k'<=549755813888):Calls Tryz.prog 65 #[.agg #[.int .i64 (r:Int),.int .i64 (c:Int),.slice A n d,.int .i64 (r':Int),.int .i64 (c':Int),.slice A' n' d'],.int .i64 (i:Int),.int .i64 (j:Int)] w (RetK (kC (dot F G i j c) (k+k'+c)) w):=by
 have hc1:=ha.hc;have HC:=Lib.hid hcr;clear hcr;obtain⟨w1,hw1,b3,b6,z1,s1⟩:=boxes2 w 87 31 [.int .i64 (r:Int),.int .i64 (c:Int),.slice A n d,.int .i64 (r':Int),.int .i64 (c':Int),.slice A' n' d'] [.bool false,.slice none 0 0];have HW:=Lib.hid hw1;have HZ:=Lib.hid z1;clear hw1 z1;go_enter Tryz.func65,Tryz.ntmps65
 go_upto_region 1 with fail
 rw[HW.out];obtain⟨w2,hw2,b7,z2,s2⟩:=boxes1 w1 31 [.bool false,.slice none 0 0];have HW2:=Lib.hid hw2;clear hw2;go_upto_region 2 with fail
 rw[s1]at b7;rw[HW2.out];have HB:Hid (Below w.heap.size w w2/\Bx w2 w.heap.size 87 [.int .i64 (r:Int),.int .i64 (c:Int),.slice A n d,.int .i64 (r':Int),.int .i64 (c':Int),.slice A' n' d']/\Bx w2 (w.heap.size+1) 31 [.bool false,.slice none 0 0]/\∃s A n d,Bx w2 (w.heap.size+1+1) 31 [.bool s,.slice A n d]/\Zc w2 s A n d (dot F G i j (0))/\n<=k+k'+(0)):=Lib.hid ⟨zup HZ.out z2,b3.below z2,b6.below z2,_,_,_,_,b7,Zc.nought _,Nat.zero_le _⟩;have c1:=(b3.below z2).cell 1;simp only[List.getElem?_cons_succ,List.getElem?_cons_zero]at c1;clear b3 b6 b7 z2 s1 s2 HW2 HZ HW
 go_wp2_with fail
 clear c1;go_loopw [15] (fun s15 wr=>∃t:Nat,s15= .int .i64 (t:Int)/\t<=c/\Hid (Below w.heap.size w wr/\Bx wr w.heap.size 87 [.int .i64 (r:Int),.int .i64 (c:Int),.slice A n d,.int .i64 (r':Int),.int .i64 (c':Int),.slice A' n' d']/\Bx wr (w.heap.size+1) 31 [.bool false,.slice none 0 0]/\∃s A n d,Bx wr (w.heap.size+1+1) 31 [.bool s,.slice A n d]/\Zc wr s A n d (dot F G i j (t))/\n<=k+k'+(t))) (fun s15 _=>c - (intOf s15).toNat)
 case atStart=>exact⟨0,rfl,Nat.zero_le _,HB⟩
 case round=>
  clear HB;obtain⟨t,rfl,ht,HB⟩:=hrel;by_cases hlt:t<c
  ·have u1:(t:Int)<(c:Int):=by omega
   go_wp2_with fail
   obtain⟨B0,b3,b6,s7,A7,n7,d7,b7,hz7,hk7⟩:=HB.out;clear HB;refine Run.start 12 ?_;refine .fa .o (fP0 0) ?_;refine .ld (.i 0) (ldM b3 0) ?_;refine .mv .o ?_;refine .mv .o ?_;refine .c3 (.i 1) (.i 2) (.i 3) (x:=kV (F i t) k) (by rintro u v x w2 hB rfl rfl rfl;exact h_f (ha.below (zup B0 hB)) hi hlt) ?_;refine .fa .o (fP1 3) ?_;refine .ld (.i 5) (ldM b3 3) ?_;refine .mv .o ?_;refine .mv .o ?_;refine .c3 (.i 6) (.i 7) (.i 8) (x:=kV (G t j) k') (by rintro u v x w2 hB rfl rfl rfl;exact h_f (hb.below (zup B0 hB)) (by have:=HC.out;omega) hj) ?_;refine .al ?_;refine .al ?_;refine .done [some 18,some 19,some 20,some 21,some 22,some 23,some 24,some 25,some 26,some 27,some 9,some 10] ?_;intro w3 B3;rintro v0 ⟨s9,A9,n9,d9,rfl,hx,hk9⟩;rintro v1 ⟨s10,A10,n10,d10,rfl,hy,hk10⟩;rintro g9 hg9 hl9 hc9 -;rintro g10 hg10 hl10 hc10 ⟨n910,-⟩;refine sh [_,_] ?_;simp only[Act.put,lS,lZ,lC];have b9:=zeroZ (T:=0) hc9;have b10:=zeroZ (T:=0) hc10;have hl7:=b7.lt;have hl3:=b3.lt;have hl6:=b6.lt;obtain⟨w4,hw4⟩:∃w4,zput (zput w3 g9 s9 A9 n9 d9) g10 s10 A10 n10 d10=w4:=⟨_,rfl⟩;have e4:=hw4;have f9:=Ib.entry b9;have f10:=Ib.entry b10;have b10':=b10.zo (s:=s9) (A:=A9) (n:=n9) (c:=d9) (g:=g9) (Ne.symm n910);have B4:Below w.heap.size w w4:=by rw[<-hw4];exact a_l (a_l (zup B0 B3) (by omega)) (by omega)
   have k3:=((b3.below B3).zo (g:=g9) (s:=s9) (A:=A9) (n:=n9) (c:=d9) (by omega)).zo (g:=g10) (s:=s10) (A:=A10) (n:=n10) (c:=d10) (by omega);rw[hw4]at k3;have k6:=((b6.below B3).zo (g:=g9) (s:=s9) (A:=A9) (n:=n9) (c:=d9) (by omega)).zo (g:=g10) (s:=s10) (A:=A10) (n:=n10) (c:=d10) (by omega);rw[hw4]at k6;have k7:=((b7.below B3).zo (g:=g9) (s:=s9) (A:=A9) (n:=n9) (c:=d9) (by omega)).zo (g:=g10) (s:=s10) (A:=A10) (n:=n10) (c:=d10) (by omega);rw[hw4]at k7;have k9:=(b9.zp (s:=s9) (A:=A9) (n:=n9) (c:=d9)).zo (g:=g10) (s:=s10) (A:=A10) (n:=n10) (c:=d10) n910;rw[hw4]at k9;have k10:=b10'.zp (s:=s10) (A:=A10) (n:=n10) (c:=d10);rw[hw4]at k10;have hz4:Zc w4 s7 A7 n7 d7 (dot F G i j t):=by rw[<-hw4];exact((hz7.below B3).zp b9).zp b10'
   have hx4:Zv w4 s9 A9 n9 d9 (F i t):=by rw[<-hw4];exact(hx.zp b9).zp b10'
   have hy4:Zv w4 s10 A10 n10 d10 (G t j):=by rw[<-hw4];exact(hy.zp b9).zp b10'
   have HW4:Hid (_=w4):=Lib.hid e4;unfold zput at HW4;clear hw4 e4 b3 b6 b7 b9 b10 b10' hz7 hx hy B0 B3 hc9 hc10 hg9 hg10;obtain⟨f1,f2,f3,f4,f5⟩:=f9;obtain⟨h1,h2,h3,h4,h5⟩:=f10;have n109:¬(g10=g9):=Ne.symm n910;have n910':¬(g9=g10):=n910;go_upto_region 6 with fail
   rw[HW4.out];clear f1 f2 f3 f4 f5 h1 h2 h3 h4 h5 HW4;obtain⟨rx,hrx⟩:∃r,(F i t).sign=r:=⟨_,rfl⟩;obtain⟨ry,hry⟩:∃r,(G t j).sign=r:=⟨_,rfl⟩;have HRX:=Lib.hid hrx;have HRY:=Lib.hid hry;clear hrx hry;by_cases hx0:rx=0
   ·have ex:F i t=0:=by have:=HRX.out;rw[hx0]at this;exact Int.sign_eq_zero_iff_zero.1 this
    refine Run.start 8 ?_;refine .ld .o (ldZ k9 0) ?_;refine .c1 (.i 0) (x:=.k (.int .i64 rx)) (by rintro u w2 hB rfl;exact a_m ⟨_,_,_,_,rfl,hx4.below hB,Nat.le_refl _⟩ (by omega) HRX.out) ?_;refine .two (.i 1) .o (opNe (decide_eq_false (by omega:¬(rx≠0)))) ?_;refine .mv (.i 2) ?_;refine .no ?_;refine .no ?_;refine .no ?_;refine .pk (.i 3) .o false ?_;refine .donep [some 28,some 29,some 30,some 31,some 32,some 33,some 34,some 35] ?_;intro w5 B5;refine sh [] ?_;simp only[Act.put,lS,lZ,lC];have ed:dot F G i j (t+1)=dot F G i j t:=by show _+F i t*_=_;rw[ex];simp
    have HN:Hid (Below w.heap.size w w5/\Bx w5 w.heap.size 87 [.int .i64 (r:Int),.int .i64 (c:Int),.slice A n d,.int .i64 (r':Int),.int .i64 (c':Int),.slice A' n' d']/\Bx w5 (w.heap.size+1) 31 [.bool false,.slice none 0 0]/\∃s A n d,Bx w5 (w.heap.size+1+1) 31 [.bool s,.slice A n d]/\Zc w5 s A n d (dot F G i j (t+1))/\n<=k+k'+(t+1)):=Lib.hid ⟨zup B4 B5,k3.below B5,k6.below B5,_,_,_,_,k7.below B5,by rw[ed];exact hz4.below B5,by omega⟩;clear k3 k6 k7 hz4 B4
    go_wp2_with fail
    go_roundw
    case rel=>exact⟨t+1,by go_num,by omega,HN⟩
    case measure=>first|(simp[intOf];done)|(simp[intOf];omega)
   ·have ux:rx≠0:=hx0;by_cases hy0:ry=0
    ·have ey:G t j=0:=by have:=HRY.out;rw[hy0]at this;exact Int.sign_eq_zero_iff_zero.1 this
     refine Run.start 8 ?_;refine .ld .o (ldZ k9 0) ?_;refine .c1 (.i 0) (x:=.k (.int .i64 rx)) (by rintro u w2 hB rfl;exact a_m ⟨_,_,_,_,rfl,hx4.below hB,Nat.le_refl _⟩ (by omega) HRX.out) ?_;refine .two (.i 1) .o (opNe (decide_eq_true ux)) ?_;refine .mv (.i 2) ?_;refine .ld .o (ldZ k10 0) ?_;refine .c1 (.i 4) (x:=.k (.int .i64 ry)) (by rintro u w2 hB rfl;exact a_m ⟨_,_,_,_,rfl,hy4.below hB,Nat.le_refl _⟩ (by omega) HRY.out) ?_;refine .two (.i 5) .o (opNe (decide_eq_false (by omega:¬(ry≠0)))) ?_;refine .pk (.i 3) (.i 6) true ?_;refine .donep [some 28,some 29,some 30,some 31,some 32,some 33,some 34,some 35] ?_;intro w5 B5;refine sh [] ?_;simp only[Act.put,lS,lZ,lC];have ed:dot F G i j (t+1)=dot F G i j t:=by show _+F i t*G t j=_;rw[ey];simp
     have HN:Hid (Below w.heap.size w w5/\Bx w5 w.heap.size 87 [.int .i64 (r:Int),.int .i64 (c:Int),.slice A n d,.int .i64 (r':Int),.int .i64 (c':Int),.slice A' n' d']/\Bx w5 (w.heap.size+1) 31 [.bool false,.slice none 0 0]/\∃s A n d,Bx w5 (w.heap.size+1+1) 31 [.bool s,.slice A n d]/\Zc w5 s A n d (dot F G i j (t+1))/\n<=k+k'+(t+1)):=Lib.hid ⟨zup B4 B5,k3.below B5,k6.below B5,_,_,_,_,k7.below B5,by rw[ed];exact hz4.below B5,by omega⟩;clear k3 k6 k7 hz4 B4
     go_wp2_with fail
     go_roundw
     case rel=>exact⟨t+1,by go_num,by omega,HN⟩
     case measure=>first|(simp[intOf];done)|(simp[intOf];omega)
    ·have uy:ry≠0:=hy0;refine Run.start 8 ?_;refine .ld .o (ldZ k9 0) ?_;refine .c1 (.i 0) (x:=.k (.int .i64 rx)) (by rintro u w2 hB rfl;exact a_m ⟨_,_,_,_,rfl,hx4.below hB,Nat.le_refl _⟩ (by omega) HRX.out) ?_;refine .two (.i 1) .o (opNe (decide_eq_true ux)) ?_;refine .mv (.i 2) ?_;refine .ld .o (ldZ k10 0) ?_;refine .c1 (.i 4) (x:=.k (.int .i64 ry)) (by rintro u w2 hB rfl;exact a_m ⟨_,_,_,_,rfl,hy4.below hB,Nat.le_refl _⟩ (by omega) HRY.out) ?_;refine .two (.i 5) .o (opNe (decide_eq_true uy)) ?_;refine .pk (.i 3) (.i 6) true ?_;refine .donep [some 28,some 29,some 30,some 31,some 32,some 33,some 34,some 35] ?_;intro w5 B5;refine sh [] ?_;simp only[Act.put,lS,lZ,lC];replace k3:=k3.below B5;replace k6:=k6.below B5;replace k7:=k7.below B5;replace k9:=k9.below B5;replace k10:=k10.below B5;replace hz4:=hz4.below B5;replace hx4:=hx4.below B5;replace hy4:=hy4.below B5;replace B4:=zup B4 B5;clear B5;go_upto_region 7 with fail
     refine Run.start 5 ?_;refine .ld .o (ldZ k7 0) ?_;refine .ld .o (ldZ k9 0) ?_;refine .ld .o (ldZ k10 0) ?_;refine .c2 (.i 1) (.i 2) (x:=kC (F i t*G t j) (k+k')) (by rintro u v w2 hB rfl rfl;exact d_r ⟨_,_,_,_,rfl,hx4.below hB,hk9⟩ ⟨_,_,_,_,rfl,hy4.below hB,hk10⟩ (by omega) (by omega) (Nat.le_refl _)) ?_;refine .c2 (.i 0) (.i 3) (x:=kC (dot F G i j (t+1)) (k+k'+(t+1))) (by rintro u v w2 hB rfl h2;exact j_w ⟨_,_,_,_,rfl,(hz4.below hB).zv,hk7⟩ h2.v (by omega) (by omega) (by omega)) ?_;refine .done [some 36,some 37,some 38,some 39,some 40] ?_;intro w6 B6;rintro v2 -;rintro v3 ⟨s11,A11,n11,d11,rfl,hs,hk11⟩;refine sh [_] ?_;simp only[Act.put,lS,lZ,lC];replace k7:=k7.below B6;obtain⟨w7,hw7⟩:∃w7,zput w6 (w.heap.size+1+1) s11 A11 n11 d11=w7:=⟨_,rfl⟩;have HN:Hid (Below w.heap.size w w7/\Bx w7 w.heap.size 87 [.int .i64 (r:Int),.int .i64 (c:Int),.slice A n d,.int .i64 (r':Int),.int .i64 (c':Int),.slice A' n' d']/\Bx w7 (w.heap.size+1) 31 [.bool false,.slice none 0 0]/\∃s A n d,Bx w7 (w.heap.size+1+1) 31 [.bool s,.slice A n d]/\Zc w7 s A n d (dot F G i j (t+1))/\n<=k+k'+(t+1)):=Lib.hid ⟨by rw[<-hw7];exact a_l (zup B4 B6) (by omega),by rw[<-hw7];exact(k3.below B6).zo (by omega),by rw[<-hw7];exact(k6.below B6).zo (by omega),s11,A11,n11,d11,by rw[<-hw7];exact k7.zp,by rw[<-hw7];exact hs.zp k7,hk11⟩;have HW7:=Lib.hid hw7;unfold zput at HW7;obtain⟨f1,f2,f3,f4,f5⟩:=Ib.entry k7;clear k3 k6 k7 k9 k10 hz4 hx4 hy4 hs B4 B6 hw7
     go_wp2_with fail
     rw[HW7.out];go_roundw
     case rel=>exact⟨t+1,by go_num,by omega,HN⟩
     case measure=>first|(simp[intOf];done)|(simp[intOf];omega)
  ·obtain rfl:t=c:=by omega
   have u1:¬(t:Int)<(t:Int):=by omega
   obtain⟨B0,b3,b6,s7,A7,n7,d7,b7,hz7,hk7⟩:=HB.out;have I:=Ib.entry b6;have J:=Ib.entry b7;have P:=Lib.hid (retC hz7 I (k:=k+k'+t) hk7 (by omega) B0);obtain⟨i1,i2,i3,i4,i5⟩:=I;obtain⟨j1,j2,j3,j4,j5⟩:=J;clear b3 b6 b7 hz7 HB B0
   go_wp2_with fail
   exact bodyPost_ret (v:=.agg #[.bool s7,.slice A7 n7 d7]) (by simp[results,Tryz.results65,go_sem,i1,i2]) rfl P.out
end
section
open Go.RowKit
theorem Bx.m3 {w:World}{g:Nat}{T:TypeId}{x y z:Value}(b:Bx w g T [x,y,z]):w.cell? ⟨g,0,none⟩=some x/\w.cell? ⟨g,1,none⟩=some y/\w.cell? ⟨g,2,none⟩=some z/\w.frozen? ⟨g,0,none⟩=false/\w.frozen? ⟨g,1,none⟩=false/\w.frozen? ⟨g,2,none⟩=false/\g<w.heap.size:=⟨b.cell 0,b.cell 1,b.cell 2,b.free 0,b.free 1,b.free 2,b.lt⟩
theorem argsM (p i j:Value):#[p]++ #[i,j]++ #[]= #[p,i,j]:=rfl
theorem argsF (i j:Value):#[]++ #[i,j]++ #[]= #[i,j]:=rfl
theorem argsC2 (i j a b:Value):#[]++ #[i,j]++ #[a,b]= #[i,j,a,b]:=rfl
theorem m_v {q q':Bool}{r c n d k r' c' n' d' k':Nat}{A A':Option Addr}{F G:Nat->Nat->Int}{w:World}(ha:Mt q w r c A n d k F)(hb:Mt q' w r' c' A' n' d' k' G)(hcr:c=r')(hk:k+k'<=549755813888):Calls Tryz.prog 24 #[.agg #[.int .i64 (r:Int),.int .i64 (c:Int),.slice A n d],.agg #[.int .i64 (r':Int),.int .i64 (c':Int),.slice A' n' d']] w (RetK (kT (kM true r c' (k+k'+c) (fun i j=>dot F G i j c)) (.k (.int .i64 0))) w):=by
 have h1:=ha.fmd;have h2:=hb.fmd;have h3:=ha.hr;have h4:=hb.hc;obtain⟨w1,hw1,b2,b3,b4,z1,s1⟩:=boxes3 w 27 27 27 [.int .i64 (r:Int),.int .i64 (c:Int),.slice A n d] [.int .i64 (r':Int),.int .i64 (c':Int),.slice A' n' d'] [.int .i64 0,.int .i64 0,.slice none 0 0];have HW:=Lib.hid hw1;have HZ:=Lib.hid z1;have h1_:=Lib.hid h1;have h2_:=Lib.hid h2;have hcr_:=Lib.hid hcr;clear hw1 z1 h1 h2 hcr;go_enter Tryz.func24,Tryz.ntmps24
 go_upto_region 1 with fail
 rw[HW.out];obtain⟨w2,hw2,b6,z2,s2⟩:=boxes1 w1 87 [.int .i64 (r:Int),.int .i64 (c:Int),.slice A n d,.int .i64 (r':Int),.int .i64 (c':Int),.slice A' n' d'];rw[s1]at b6;have HW2:=Lib.hid hw2;clear hw2 s2;obtain⟨i0,i1,i2,i3,i4,i5,i6⟩:=b2.m3;obtain⟨j0,j1,j2,j3,j4,j5,j6⟩:=b3.m3;go_upto_region 2 with fail
 rw[HW2.out];clear i0 i1 i2 i3 i4 i5 i6 j0 j1 j2 j3 j4 j5 j6 HW2 HW s1;replace b2:=b2.below z2;replace b3:=b3.below z2;replace b4:=b4.below z2;have HZ2:=Lib.hid (zup HZ.out z2);clear z2 HZ;refine Run.start 10 ?_;refine .ld .o (ldP b6) ?_;refine .c1 (.i 0) (x:=.k (.bool true)) (by rintro u w2 hB rfl;exact k_p (by rw[h1_.out,h2_.out];rfl) w2) ?_;refine .nt (.i 1) ?_;refine .mv (.i 2) ?_;refine .fa .o (fM1 1) ?_;refine .ld (.i 4) (ldInt b2 1) ?_;refine .fa .o (fM0 0) ?_;refine .ld (.i 6) (ldInt b3 0) ?_;refine .two (.i 5) (.i 7) (opNe (decide_eq_false (by have:=hcr_.out;omega:¬((c:Int)≠(r':Int))))) ?_;refine .pk (.i 3) (.i 8) false ?_;refine .donep [some 10,some 11,some 12,some 13,some 14,some 15,some 16,some 17,some 18,some 19] ?_;intro w3 B3;refine sh [] ?_;simp only[Act.put,lS,lZ,lC];replace b2:=b2.below B3;replace b3:=b3.below B3;replace b4:=b4.below B3;replace b6:=b6.below B3;have HZ3:=Lib.hid (zup HZ2.out B3);clear B3 HZ2;go_upto_region 4 with fail
 refine Run.start 7 ?_;refine .fa .o (fM0 0) ?_;refine .ld (.i 0) (ldInt b2 0) ?_;refine .fa .o (fM1 1) ?_;refine .ld (.i 2) (ldInt b3 1) ?_;refine .ld .o (ldP b6) ?_;refine .fn [(.i 4)] [] [_] [] (⟨rfl,trivial⟩) (trivial) ?_;refine .c3 (.i 1) (.i 3) (.i 5) (x:=kM true r c' (k+k'+c) (fun i j=>dot F G i j c)) (by rintro u v x w4 hB rfl rfl rfl;exact k_9 h3 h4 (by kernel_rfl) (fun i j W hi hj hW=>by rw[argsM];exact i_9 (ha.below (zup (zup HZ3.out hB) hW)) (hb.below (zup (zup HZ3.out hB) hW)) hcr_.out hi hj hk)) ?_;refine .donep [some 21,some 22,some 23,some 24,some 25,some 26,some 27] ?_;intro w4 B4;rintro v ⟨A_,n_,d_,rfl,hM⟩;refine sh [_,_] ?_;simp only[Act.put,lS,lZ,lC];have P:=Lib.hid (retME hM (b4.below B4) (by omega) (zup HZ3.out B4));unfold mput at P;obtain⟨i0,i1,i2,i3,i4,i5,i6⟩:=(b4.below B4).m3;clear hM
 go_wp2_with fail
 exact bodyPost_ret (v:=.tuple #[.agg #[.int .i64 (r:Int),.int .i64 (c':Int),.slice A_ n_ d_],.int .i64 0]) (by simp[results,Tryz.results24,go_sem,i0,i1,i2]) rfl P.out
end
section
open Go.RowKit
def bsL (o:Op):List Operand:=match o with| .buildSlice _ _ xs=>xs.toList.map (·.2)|_=>[]
section
variable {ops:Array Oper}{Q:Exit->Act->World->Prop}{m i:Nat}{a0:Act}{w0:World}{l:List FK}{b:Bool}{id:Nat}
end
end
section
open Go.RowKit
structure Il (w:World) (A:Option Addr) (n d:Nat) (xs:List Int):Prop where
 len:xs.length=n
 le:n<=d
 cap:d<=9223372036854775807
 at':0<n->∃ad,A=some ad/\ad.block<w.heap.size/\∀j,j<n->w.cell? (ad.add j)=some (.int .i64 (xs.getD j 0))
 bd:∀j,j<n-> -9223372036854775808<=xs.getD j 0/\xs.getD j 0<=9223372036854775807
theorem Il.below {w w':World}{A:Option Addr}{n d:Nat}{xs:List Int}(h:Il w A n d xs)(hb:Below w.heap.size w w'):Il w' A n d xs:=⟨h.len,h.le,h.cap,fun h0=>by
 obtain⟨ad,e,h1,h2⟩:=h.at' h0;exact⟨ad,e,Nat.lt_of_lt_of_le h1 hb.size,fun j hj=>(hb.cell (p:=ad.add j) (by rw[a_b];exact h1)).trans (h2 j hj)⟩,h.bd⟩
theorem p_a {w:World}{ad:Addr}{n d k:Nat}(h:k<n):(Instr.indexAt 110 (.slice (some ad) n d) (.int .i64 (k:Int))).run Tryz.prog w= .ok (.pointer (some (ad.add k))) w:=by
 simp[go_sem,Tryz.underlying110,show Tryz.prog.cellsOf 2=1 by kernel_rfl];omega
theorem opIxJ {ad:Addr}{n d k:Nat}{X Y:Operand}(h:k<n)(w:World):RunTwo Tryz.prog (.indexAddr 110 X Y) w (.slice (some ad) n d) (.int .i64 (k:Int)) (.pointer (some (ad.add k))):=p_a h
theorem ldJ {w:World}{p:Addr}{x:Int}(hp:p.block<w.heap.size)(h:w.cell? p=some (.int .i64 x)):∀w',Below w.heap.size w w'->(Instr.loadAt 2 (.pointer (some p))).run Tryz.prog w'= .ok (.int .i64 x) w':=fun w' hb=>by
 have:=(hb.cell hp).trans h;simp[go_sem,a_y,this]
theorem ldIL {w:World}{g:Nat}{T:TypeId}{cs:List Value}(b:Bx w g T cs)(o:Nat){A:Option Addr}{n c:Nat}(hc:cs[o]? =some (.slice A n c):=by rfl):∀w',Below w.heap.size w w'->(Instr.loadAt 110 (.pointer (some ⟨g,o,none⟩))).run Tryz.prog w'= .ok (.slice A n c) w':=fun w' hb=>by
 have h:=(b.below hb).cell o;rw[hc]at h;simp[go_sem,a_y,h]
theorem s_h {i j n d r c g g':Nat}{A:Option Addr}{xs:List Int}{w:World}(b2:Bx w g 110 [.slice A n d])(b3:Bx w g' 3 [.int .i64 (c:Int)])(hl:Il w A n d xs)(hn:n=r*c)(hr:r<=64)(hc:c<=64)(hi:i<r)(hj:j<c):Calls Tryz.prog 96 #[.int .i64 (i:Int),.int .i64 (j:Int),.pointer (some ⟨g,0,none⟩),.pointer (some ⟨g',0,none⟩)] w (RetK (kC (xs.getD (i*c+j) 0) 1) w):=by
 have h5:i*c<=64*64:=Nat.mul_le_mul (by omega) hc;have hlt:i*c+j<n:=by rw[hn];exact g_x hi hj
 obtain⟨x,hx⟩:∃x,xs.getD (i*c+j) 0=x:=⟨_,rfl⟩;rw[hx];obtain⟨w1,hw1,b6,z1,s1⟩:=boxes1 w 31 [.bool false,.slice none 0 0];have HW:=Lib.hid hw1;have HZ:=Lib.hid z1;replace b2:=b2.below z1;replace b3:=b3.below z1;obtain⟨ad,rfl,hab,hcell⟩:=(hl.below z1).at' (by omega);have hce:=hcell _ hlt;have hbd:=hl.bd _ hlt;rw[hx]at hce hbd;clear hcell hl;clear hw1 z1 s1 hx hn;go_enter Tryz.func96,Tryz.ntmps96
 go_upto_region 1 with fail
 rw[HW.out];refine Run.start 9 ?_;refine .ld .o (ldIL b2 0) ?_;refine .mv .o ?_;refine .ld .o (ldInt b3 0) ?_;refine .two (.i 1) (.i 2) (opMulN i c (by omega)) ?_;refine .mv .o ?_;refine .two (.i 3) (.i 4) (opAddN (i*c) j (by omega)) ?_;refine .two (.i 0) (.i 5) (opIxJ hlt) ?_;refine .ld (.i 6) (ldJ (by rw[a_b];exact hab) hce) ?_;refine .c1 (.i 7) (x:=kC x 1) (by rintro u w2 hB rfl;exact j_r hbd.1 hbd.2 w2) ?_;refine .donep [some 7,some 8,some 9,some 10,some 11,some 12,some 13,some 14,some 15] ?_;intro w2 B2;rintro v ⟨s_,A_,n_,c_,rfl,hz,hk_⟩;refine sh [_] ?_;simp only[Act.put,lS,lZ,lC];have I:=Ib.entry (b6.below B2);have P:=Lib.hid (retC hz I (k:=1) (by omega) (by omega) (zup HZ.out B2));obtain⟨i1,i2,i3,i4,i5⟩:=I;clear hz
 go_wp2_with fail
 exact bodyPost_ret (v:=.agg #[.bool s_,.slice A_ n_ c_]) (by simp[results,Tryz.results96,go_sem,i1,i2]) rfl P.out
theorem p_o {r c n d:Nat}{A:Option Addr}{xs:List Int}{w:World}(hl:Il w A n d xs)(hn:n=r*c)(hr:r<=64)(hc:c<=64):Calls Tryz.prog 37 #[.int .i64 (r:Int),.int .i64 (c:Int),.slice A n d] w (RetK (kT (kM true r c (1) (fun i j=>xs.getD (i*c+j) 0)) (.k (.int .i64 0))) w):=by
 have h1:sd (r:Int)=true:=by unfold sd;exact decide_eq_true (by omega)
 have h2:sd (c:Int)=true:=by unfold sd;exact decide_eq_true (by omega)
 have hrc:r*c<=64*64:=Nat.mul_le_mul hr hc;obtain⟨w1,hw1,b4,b5,b6,z1,s1⟩:=boxes3 w 3 110 27 [.int .i64 (c:Int)] [.slice A n d] [.int .i64 0,.int .i64 0,.slice none 0 0];have HW:=Lib.hid hw1;have HZ:=Lib.hid z1;have h1_:=Lib.hid h1;have h2_:=Lib.hid h2;have hn_:=Lib.hid hn;clear hw1 z1 h1 h2 hn s1;go_enter Tryz.func37,Tryz.ntmps37
 go_upto_region 1 with fail
 rw[HW.out];refine Run.start 9 ?_;refine .mv .o ?_;refine .c1 (.i 0) (x:=.k (.bool true)) (by rintro u w2 hB rfl;exact d_t _ h1_.out w2) ?_;refine .nt (.i 1) ?_;refine .mv (.i 2) ?_;refine .ld .o (ldInt b4 0) ?_;refine .c1 (.i 4) (x:=.k (.bool true)) (by rintro u w2 hB rfl;exact d_t _ h2_.out w2) ?_;refine .nt (.i 5) ?_;refine .pk (.i 3) (.i 6) false ?_;refine .mv (.i 7) ?_;refine .donep [some 9,some 10,some 11,some 12,some 13,some 14,some 15,some 16,some 8] ?_;intro w2 B2;refine sh [] ?_;simp only[Act.put,lS,lZ,lC];replace b4:=b4.below B2;replace b5:=b5.below B2;replace b6:=b6.below B2;have HZ2:=Lib.hid (zup HZ.out B2);clear B2 HZ;go_upto_region 3 with fail
 refine Run.start 7 ?_;refine .ld .o (ldIL b5 0) ?_;refine .len (.i 0) Tryz.underlying110 ?_;refine .mv .o ?_;refine .ld .o (ldInt b4 0) ?_;refine .two (.i 2) (.i 3) (opMulN r c (by omega)) ?_;refine .two (.i 1) (.i 4) (opNe (decide_eq_false (by have:=hn_.out;omega:¬((n:Int)≠((r*c:Nat):Int))))) ?_;refine .mv (.i 5) ?_;refine .donep [some 19,some 20,some 21,some 22,some 23,some 24,some 18] ?_;intro w3 B3;refine sh [] ?_;simp only[Act.put,lS,lZ,lC];replace b4:=b4.below B3;replace b5:=b5.below B3;replace b6:=b6.below B3;have HZ3:=Lib.hid (zup HZ2.out B3);clear B3 HZ2;go_upto_region 5 with fail
 refine Run.start 4 ?_;refine .mv .o ?_;refine .ld .o (ldInt b4 0) ?_;refine .fn [] [.o,.o] [] [_,_] (trivial) (⟨rfl,rfl,trivial⟩) ?_;refine .c3 (.i 0) (.i 1) (.i 2) (x:=kM true r c 1 (fun i j=>xs.getD (i*c+j) 0)) (by rintro u v x w4 hB rfl rfl rfl;exact k_9 hr hc (by kernel_rfl) (fun i j W hi hj hW=>by rw[argsC2];exact s_h ((b5.below hB).below hW) ((b4.below hB).below hW) (hl.below (zup (zup HZ3.out hB) hW)) hn_.out hr hc hi hj)) ?_;refine .donep [some 26,some 27,some 28,some 29] ?_;intro w4 B4;rintro v ⟨A_,n_,d_,rfl,hM⟩;refine sh [_,_] ?_;simp only[Act.put,lS,lZ,lC];have P:=Lib.hid (retME hM (b6.below B4) (by omega) (zup HZ3.out B4));unfold mput at P;obtain⟨i0,i1,i2,i3,i4,i5,i6⟩:=(b6.below B4).m3;clear hM
 go_wp2_with fail
 exact bodyPost_ret (v:=.tuple #[.agg #[.int .i64 (r:Int),.int .i64 (c:Int),.slice A_ n_ d_],.int .i64 0]) (by simp[results,Tryz.results37,go_sem,i0,i1,i2]) rfl P.out
theorem p_r {r:Nat}{w:World}(hr:r<=64):Calls Tryz.prog 127 #[.int .i64 (r:Int)] w (RetK (kT (kM true r r (1) (fun i j=>if i=j then 1 else 0)) (.k (.int .i64 0))) w):=by
 have h1:sd (r:Int)=true:=by unfold sd;exact decide_eq_true (by omega)
 obtain⟨w1,hw1,b2,z1,s1⟩:=boxes1 w 27 [.int .i64 0,.int .i64 0,.slice none 0 0];have HW:=Lib.hid hw1;have HZ:=Lib.hid z1;have h1_:=Lib.hid h1;clear hw1 z1 h1 s1;go_enter Tryz.func127,Tryz.ntmps127
 go_upto_region 1 with fail
 rw[HW.out];refine Run.start 3 ?_;refine .mv .o ?_;refine .c1 (.i 0) (x:=.k (.bool true)) (by rintro u w2 hB rfl;exact d_t _ h1_.out w2) ?_;refine .nt (.i 1) ?_;refine .donep [some 4,some 5,some 6] ?_;intro w2 B2;refine sh [] ?_;simp only[Act.put,lS,lZ,lC];replace b2:=b2.below B2;have HZ2:=Lib.hid (zup HZ.out B2);clear B2 HZ;go_upto_region 3 with fail
 refine Run.start 3 ?_;refine .mv .o ?_;refine .mv .o ?_;refine .c3 (.i 0) (.i 1) .o (x:=kM true r r 1 (fun i j=>if i=j then 1 else 0)) (by rintro u v x w4 hB rfl rfl rfl;exact k_9 hr hr (by kernel_rfl) (fun i j W hi hj hW=>by rw[argsF];exact q_r W)) ?_;refine .donep [some 8,some 9,some 10] ?_;intro w3 B3;rintro v ⟨A_,n_,d_,rfl,hM⟩;refine sh [_,_] ?_;simp only[Act.put,lS,lZ,lC];have P:=Lib.hid (retME hM (b2.below B3) (by omega) (zup HZ2.out B3));unfold mput at P;obtain⟨i0,i1,i2,i3,i4,i5,i6⟩:=(b2.below B3).m3;clear hM
 go_wp2_with fail
 exact bodyPost_ret (v:=.tuple #[.agg #[.int .i64 (r:Int),.int .i64 (r:Int),.slice A_ n_ d_],.int .i64 0]) (by simp[results,Tryz.results127,go_sem,i0,i1,i2]) rfl P.out
theorem k_w {q:Bool}{r c n d k i j:Nat}{A:Option Addr}{F:Nat->Nat->Int}{w:World}(ha:Mt q w r c A n d k F)(hi:i<r)(hj:j<c)(hk:k<=1099511627776):Calls Tryz.prog 81 #[.agg #[.int .i64 (r:Int),.int .i64 (c:Int),.slice A n d],.int .i64 (i:Int),.int .i64 (j:Int)] w (RetK (kC (F i j) k) w):=by
 have h1:=ha.fmd;obtain⟨w1,hw1,b3,b6,z1,s1⟩:=boxes2 w 27 31 [.int .i64 (r:Int),.int .i64 (c:Int),.slice A n d] [.bool false,.slice none 0 0];have HW:=Lib.hid hw1;have HZ:=Lib.hid z1;have h1_:=Lib.hid h1;clear hw1 z1 h1 s1;go_enter Tryz.func81,Tryz.ntmps81
 go_upto_region 1 with fail
 rw[HW.out];refine Run.start 13 ?_;refine .ld .o (ldM b3 0) ?_;refine .c1 (.i 0) (x:=.k (.bool true)) (by rintro u w2 hB rfl;exact b_f h1_.out w2) ?_;refine .nt (.i 1) ?_;refine .mv (.i 2) ?_;refine .fa .o (fM0 0) ?_;refine .ld (.i 4) (ldInt b3 0) ?_;refine .fa .o (fM1 1) ?_;refine .ld (.i 6) (ldInt b3 1) ?_;refine .mv .o ?_;refine .mv .o ?_;refine .c4 (.i 5) (.i 7) (.i 8) (.i 9) (x:=.k (.bool true)) (by rintro u v x y w2 hB rfl rfl rfl rfl;exact s_n (by simp;omega) w2) ?_;refine .nt (.i 10) ?_;refine .pk (.i 3) (.i 11) false ?_;refine .donep [some 7,some 8,some 9,some 10,some 11,some 12,some 13,some 14,some 15,some 16,some 17,some 18,some 19] ?_;intro w2 B2;refine sh [] ?_;simp only[Act.put,lS,lZ,lC];replace b3:=b3.below B2;replace b6:=b6.below B2;have HZ2:=Lib.hid (zup HZ.out B2);clear B2 HZ;go_upto_region 3 with fail
 refine Run.start 4 ?_;refine .ld .o (ldM b3 0) ?_;refine .mv .o ?_;refine .mv .o ?_;refine .c3 (.i 0) (.i 1) (.i 2) (x:=kC (F i j) k) (by rintro u v x w3 hB rfl rfl rfl;exact i_g (ha.below (zup HZ2.out hB)) hi hj hk) ?_;refine .donep [some 21,some 22,some 23,some 24] ?_;intro w3 B3;rintro v ⟨s_,A_,n_,c_,rfl,hz,hk_⟩;refine sh [_] ?_;simp only[Act.put,lS,lZ,lC];have I:=Ib.entry (b6.below B3);have P:=Lib.hid (retC hz I (k:=k) (by omega) (by omega) (zup HZ2.out B3));obtain⟨i1,i2,i3,i4,i5⟩:=I;clear hz
 go_wp2_with fail
 exact bodyPost_ret (v:=.agg #[.bool s_,.slice A_ n_ c_]) (by simp[results,Tryz.results81,go_sem,i1,i2]) rfl P.out
end
end Go.Proofs.YtfhbdlegkdbmfaaGreat
