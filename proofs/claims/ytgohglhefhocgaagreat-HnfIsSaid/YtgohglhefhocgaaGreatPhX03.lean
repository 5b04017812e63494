/- PhX03 -/
import Derived.Test.YtgohglhefhocgaaGreatPh38
set_option linter.unusedVariables false
set_option linter.unusedSimpArgs false
set_option linter.unusedSectionVars false
set_option maxRecDepth 100000
set_option maxHeartbeats 8000000
namespace Go.Proofs.YtgohglhefhocgaaGreat
section
open Go.RowKit
theorem l_a {r c r' c':Int}{A A':Option Addr}{n d n' d':Nat}{b:Bool}(hb:(decide (r=r')&&decide (c=c'))=b)(w:World):Calls Tryz.prog 49 #[.agg #[.int .i64 r,.int .i64 c,.slice A n d],.agg #[.int .i64 r',.int .i64 c',.slice A' n' d']] w (RetK (.k (.bool b)) w):=by
 obtain⟨t1,h1⟩:∃t,decide (r=r')=t:=⟨_,rfl⟩;obtain⟨t2,h2⟩:∃t,decide (c=c')=t:=⟨_,rfl⟩;have hb':b=(t1&&t2):=by rw[←hb,h1,h2]
 have hbb:=Lib.hid hb';obtain⟨w1,hw1,b2,b3,z1,s1⟩:=boxes2 w 24 24 [.int .i64 r,.int .i64 c,.slice A n d] [.int .i64 r',.int .i64 c',.slice A' n' d'];have HW:=Lib.hid hw1;have HZ:=Lib.hid z1;have h1_:=Lib.hid h1;have h2_:=Lib.hid h2;clear hw1 z1 h1 h2 hb hb' s1;go_enter Tryz.func49,Tryz.ntmps49
 go_upto_region 1 with fail
 rw[HW.out];cases t1
 ·refine Run.start 13 ?_;refine .fa .o (fM0 0) ?_;refine .ld (.i 0) (ldInt b2 0) ?_;refine .fa .o (fM0 0) ?_;refine .ld (.i 2) (ldInt b3 0) ?_;refine .two (.i 1) (.i 3) (opEq h1_.out) ?_;refine .mv (.i 4) ?_;refine .no ?_;refine .no ?_;refine .no ?_;refine .no ?_;refine .no ?_;refine .pk (.i 5) .o false ?_;refine .mv (.i 11) ?_;refine .donep [some 5,some 6,some 7,some 8,some 9,some 10,some 11,some 12,some 13,some 14,some 15,some 16,some 4] ?_;intro w2 B2;change Shut (wpList _ _ _ [] _ _);refine⟨?_⟩;simp only[Act.put,lS,lZ,lC];cases hbb.out
  go_wp2_with fail
  exact bodyPost_ret (v:=.bool false) (by simp[results,Tryz.results49,go_sem]) rfl (a_r rfl (zup HZ.out B2))
 ·refine Run.start 13 ?_;refine .fa .o (fM0 0) ?_;refine .ld (.i 0) (ldInt b2 0) ?_;refine .fa .o (fM0 0) ?_;refine .ld (.i 2) (ldInt b3 0) ?_;refine .two (.i 1) (.i 3) (opEq h1_.out) ?_;refine .mv (.i 4) ?_;refine .fa .o (fM1 1) ?_;refine .ld (.i 6) (ldInt b2 1) ?_;refine .fa .o (fM1 1) ?_;refine .ld (.i 8) (ldInt b3 1) ?_;refine .two (.i 7) (.i 9) (opEq h2_.out) ?_;refine .pk (.i 5) (.i 10) true ?_;refine .mv (.i 11) ?_;refine .donep [some 5,some 6,some 7,some 8,some 9,some 10,some 11,some 12,some 13,some 14,some 15,some 16,some 4] ?_;intro w2 B2;change Shut (wpList _ _ _ [] _ _);refine⟨?_⟩;simp only[Act.put,lS,lZ,lC];cases hbb.out
  go_wp2_with fail
  exact bodyPost_ret (v:=.bool t2) (by simp[results,Tryz.results49,go_sem]) rfl (a_r rfl (zup HZ.out B2))
end
section
open Go.RowKit
def ilist (xs:List Int):List Value:=xs.map (.int .i64 ·)
def IsIL (b:Nat)(xs:List Int):FVal:=fun v w=>∃g,v= .slice (some ⟨g,0,none⟩) xs.length xs.length∧Bx w g 3 (ilist xs)∧b≤g
def kIL (b:Nat)(xs:List Int):FK:=.f (IsIL b xs) (fun v w w' ⟨g,e,h1,h2⟩ hb=>⟨g,e,h1.below hb,h2⟩)
def okBsI (ops:Array Oper)(m i:Nat)(ss:List Src):Bool:=okH ops m i&&(match(opAt ops i).op with| .buildSlice T n xs=>T==44&&n==ss.length&&xs.toList.map (·.1)==List.range ss.length&&okSrcs ops m i (xs.toList.map (·.2)) ss|_=>false)
theorem n_p {w:World}{x y:Int}:(Instr.buildSlice 44 2 #[(0,.int .i64 x),(1,.int .i64 y)]).run Tryz.prog w= .ok (.slice (some ⟨w.heap.size,0,none⟩) 2 2) (w.alloc (.cells #[.int .i64 x,.int .i64 y] 3)):=by kernel_rfl
section
variable {ops:Array Oper}{Q:Exit→Act→World→Prop}{m i:Nat}{a0:Act}{w0:World}{l:List FK}{b:Bool}{id:Nat}
theorem Run.bsI2 (s t:Src){x y:Int}{b0:Nat}(hb0:b0≤w0.heap.size)(rest:R ops Q m a0 w0 b id (kIL b0 [x,y]::l) (i+1))(hx:srcsK l i a0 (bsL (opAt ops i).op) [s,t] [.int .i64 x,.int .i64 y]:=by exact⟨rfl,rfl,trivial⟩)(hc:okBsI ops m i [s,t]=true:=by kernel_rfl)(hg:Gd l i (opAt ops i):=by first|exact trivial|exact rfl):R ops Q m a0 w0 b id l i:=by
 unfold okBsI at hc;rw[Bool.and_eq_true]at hc;obtain⟨h1,h2⟩:=hc;refine Run.mem (x:=kIL b0 [x,y]) (fun a w h=>?_) rest (FK.fne _) h1 hg;split at h2
 ·rename_i T n xs e;rw[e]at hx;simp only[Bool.and_eq_true,beq_iff_eq]at h2;obtain⟨⟨⟨rfl,rfl⟩,h3⟩,h4⟩:=h2;have hv:=h.srcs h4 hx;have hp:(xs.map fun(i,y)=>(i,a.eval y))= #[(0,.int .i64 x),(1,.int .i64 y)]:=by
   obtain⟨ys⟩:=xs;match ys,h3,hv with
   | [(k0,x0),(k1,x1)],h3,hv=>
    have h3':[k0,k1]=[0,1]:=h3;have hv':[a.eval x0,a.eval x1]=[.int .i64 x,.int .i64 y]:=hv;simp only[List.cons.injEq,and_true]at h3' hv';simp[h3'.1,h3'.2,hv'.1,hv'.2]
  have B:=zba w (.cells #[.int .i64 x,.int .i64 y] 3);refine⟨_,_, ?_,⟨w.heap.size,rfl,Bx.new w _ [.int .i64 x,.int .i64 y],Nat.le_trans hb0 h.below.size⟩,B⟩;unfold execOp;rw[e];simp only[hp];simp[n_p]
 ·cases h2
end
end
section
open Go.RowKit
theorem argsE (i j:Value):#[]++ #[i,j]++ #[]= #[i,j]:=rfl
theorem u_h {q q':Bool}{n d k n' d' k':Nat}{A A':Option Addr}{zs ys:List Int}{b:Bool}{w:World}(hx:ZL q w A n d k zs)(hy:ZL q' w A' n' d' k' ys)(hb:decide (zs=ys)=b)(hk:k≤1099511627776)(hk':k'≤1099511627776):Calls Tryz.prog 50 #[.slice A n d,.slice A' n' d',.func (.func 31) #[] #[]] w (RetK (.k (.bool b)) w):=by
 have Hb:=Lib.hid hb;have HX:=Lib.hid hx;have HY:=Lib.hid hy;have hnd:=hx.le;have hdm:=hx.cap;clear hb hx hy;by_cases hn:n=n'
 ·subst hn;go_enter Tryz.func50,Tryz.ntmps50
  go_wp2_with fail
  go_loopw [17] (fun s17 wr=>∃j:Nat,s17= .int .i64 (j:Int)∧j≤n∧Hid (Below w.heap.size w wr∧∀i,i<j→ith zs i=ith ys i)) (fun s17 _=>n - (intOf s17).toNat)
  case atStart=>exact⟨0,rfl,Nat.zero_le _,Lib.hid ⟨Below.refl _ _,fun i hi=>by omega⟩⟩
  case round=>
   obtain⟨j,rfl,hj,HB⟩:=hrel;by_cases hlt:j<n
   ·have u2:(j:Int)<(n:Int):=by omega
    obtain⟨B0,hall⟩:=HB.out;have HA:=Lib.hid hall;have hs0:=B0.size;clear hall HB;obtain⟨ad,rfl,hab,hA⟩:=(HX.out.below B0).at hlt;obtain⟨s1,A1,n1,c1,e1,e2,ze,hk1⟩:=hA;obtain⟨ad',rfl,hab',hA'⟩:=(HY.out.below B0).at (j:=j) (by omega);obtain⟨s2,A2,n2,c2,e3,e4,ze',hk2⟩:=hA';have hz1:=ze.1;have hz2:=ze'.1;clear ze ze';go_upto_region 5 with fail
    refine Run.start 5 ?_;refine .mv .o ?_;refine .two .o .o (opIx hlt) ?_;refine .ld (.i 1) (ldE (by rw[a_b];exact hab) e1 e2) ?_;refine .al ?_;refine .mv (.i 0) ?_;refine .donep [some 19,some 20,some 21,some 8,some 7] ?_;intro w2 B2;rintro g8 hg8 hl8 hc8 -;change Shut (wpList _ _ _ [_] _ _);refine⟨?_⟩;simp only[Act.put,lS,lZ,lC];have b8:=zeroZ (T:=0) hc8;replace B0:=zup B0 B2;replace hz1:=hz1.below B2;replace hz2:=hz2.below B2;have c3:=(B2.cell (p:=ad'.add (j*2)) (by rw[a_b];exact hab')).trans e3;have c4:=(B2.cell (p:=⟨(ad'.add (j*2)).block,(ad'.add (j*2)).off+1,none⟩) (by show(ad'.add (j*2)).block<_;rw[a_b];exact hab')).trans e4;have hab2:=Nat.lt_of_lt_of_le hab' B2.size;have hne:ad'.block≠g8:=by have:=hab';omega
    clear e1 e2 e3 e4 hab hab' hc8 B2;have C3:Below w2.heap.size w2 (zput w2 g8 s1 A1 n1 c1)∨True:=.inr trivial;clear C3;have d3:(zput w2 g8 s1 A1 n1 c1).cell? (ad'.add (j*2))=some (.bool s2):=by
     unfold zput;rw[World.cell?_setCell_other (h:=fun e=>hne (by have:=congrArg Addr.block e;simp[a_b]at this;exact this.symm)),World.cell?_setCell_other (h:=fun e=>hne (by have:=congrArg Addr.block e;simp[a_b]at this;exact this.symm))];exact c3
    have d4:(zput w2 g8 s1 A1 n1 c1).cell? ⟨(ad'.add (j*2)).block,(ad'.add (j*2)).off+1,none⟩=some (.slice A2 n2 c2):=by
     unfold zput;rw[World.cell?_setCell_other (h:=fun e=>hne (by have:=congrArg Addr.block e;simp[a_b]at this;exact this.symm)),World.cell?_setCell_other (h:=fun e=>hne (by have:=congrArg Addr.block e;simp[a_b]at this;exact this.symm))];exact c4
    have hs3:(zput w2 g8 s1 A1 n1 c1).heap.size=w2.heap.size:=by unfold zput;simp
    obtain⟨w3,hw3⟩:∃x,zput w2 g8 s1 A1 n1 c1=x:=⟨_,rfl⟩;obtain⟨f1_,f2_,f3_,f4_,f5_⟩:=Ib.entry b8;replace hz1:=hz1.zp (s':=s1) (A':=A1) (n':=n1) (c':=c1) b8;rw[hw3]at hz1;replace hz2:=hz2.zp (s':=s1) (A':=A1) (n':=n1) (c':=c1) b8;rw[hw3]at hz2;replace B0:=a_j (g:=g8) (s:=s1) (A:=A1) (n:=n1) (c:=c1) B0 (by omega);rw[hw3]at B0;replace b8:=b8.zp (s:=s1) (A:=A1) (n:=n1) (c:=c1);rw[hw3]at b8;have Hw3:=Lib.hid hw3;unfold zput at Hw3;clear hw3;have e3:w3.cell? (ad'.add (j*2))=some (.bool s2):=by rw[←Hw3.out];exact d3
    have e4:w3.cell? ⟨(ad'.add (j*2)).block,(ad'.add (j*2)).off+1,none⟩=some (.slice A2 n2 c2):=by rw[←Hw3.out];exact d4
    have hab3:ad'.block<w3.heap.size:=by rw[←Hw3.out];unfold zput at hs3;rw[hs3];exact hab2
    clear d3 d4 c3 c4 hab2 hs3;go_upto_region 6 with fail
    rw[Hw3.out];clear f1_ f2_ f3_ f4_ f5_ Hw3;refine Run.start 5 ?_;refine .mv .o ?_;refine .mv .o ?_;refine .two (.i 0) (.i 1) (opIx hlt) ?_;refine .ld (.i 2) (ldE (by rw[a_b];exact hab3) e3 e4) ?_;refine .al ?_;refine .donep [some 22,some 23,some 24,some 25,some 9] ?_;intro w4 B4;rintro g9 hg9 hl9 hc9 -;change Shut (wpList _ _ _ [_] _ _);refine⟨?_⟩;simp only[Act.put,lS,lZ,lC];have b9:=zeroZ (T:=0) hc9;have hl8:=b8.lt;have hs1:=B0.size;replace B0:=zup B0 B4;replace hz1:=hz1.below B4;replace hz2:=hz2.below B4;replace b8:=b8.below B4;clear e3 e4 hc9 B4 hab3;obtain⟨w5,hw5⟩:∃x,zput w4 g9 s2 A2 n2 c2=x:=⟨_,rfl⟩;obtain⟨f1_,f2_,f3_,f4_,f5_⟩:=Ib.entry b9;replace b8:=b8.zo (g:=g9) (s:=s2) (A:=A2) (n:=n2) (c:=c2) (by omega);rw[hw5]at b8;replace hz1:=hz1.zp (s':=s2) (A':=A2) (n':=n2) (c':=c2) b9;rw[hw5]at hz1;replace hz2:=hz2.zp (s':=s2) (A':=A2) (n':=n2) (c':=c2) b9;rw[hw5]at hz2;replace B0:=a_j (g:=g9) (s:=s2) (A:=A2) (n:=n2) (c:=c2) B0 (by omega);rw[hw5]at B0;replace b9:=b9.zp (s:=s2) (A:=A2) (n:=n2) (c:=c2);rw[hw5]at b9;have Hw5:=Lib.hid hw5;unfold zput at Hw5;clear hw5;go_upto_region 7 with fail
    rw[Hw5.out];clear f1_ f2_ f3_ f4_ f5_ Hw5;obtain⟨t,ht⟩:∃t,decide (ith zs j=ith ys j)=t:=⟨_,rfl⟩;have HT:=Lib.hid ht;clear ht;cases t
    ·refine Run.start 5 ?_;refine .mv .o ?_;refine .ld .o (ldZ b8 0) ?_;refine .ld .o (ldZ b9 0) ?_;refine .cv2 (.i 0) (.i 1) (.i 2) (x:=.k (.bool false)) rfl (by kernel_rfl) (by rintro u v w6 hB rfl rfl;rw[argsE];exact e_f ⟨_,_,_,_,rfl,hz1.below hB,hk1⟩ ⟨_,_,_,_,rfl,hz2.below hB,hk2⟩ hk hk' HT.out) ?_;refine .nf (.i 3) ?_;refine .donep [some 26,some 27,some 28,some 29,some 30] ?_;intro w6 B6;change Shut (wpList _ _ _ [] _ _);refine⟨?_⟩;simp only[Act.put,lS,lZ,lC];have e:b=false:=by
      rw[←Hb.out];refine decide_eq_false fun h=>?_
      have:=HT.out;rw[h]at this;simp at this
     subst e;clear b8 b9 hz1 hz2
     go_wp2_with fail
     exact bodyPost_ret (v:=.bool false) (by simp[results,Tryz.results50,go_sem]) rfl (a_r rfl (zup B0 B6))
    ·refine Run.start 5 ?_;refine .mv .o ?_;refine .ld .o (ldZ b8 0) ?_;refine .ld .o (ldZ b9 0) ?_;refine .cv2 (.i 0) (.i 1) (.i 2) (x:=.k (.bool true)) rfl (by kernel_rfl) (by rintro u v w6 hB rfl rfl;rw[argsE];exact e_f ⟨_,_,_,_,rfl,hz1.below hB,hk1⟩ ⟨_,_,_,_,rfl,hz2.below hB,hk2⟩ hk hk' HT.out) ?_;refine .nt (.i 3) ?_;refine .donep [some 26,some 27,some 28,some 29,some 30] ?_;intro w6 B6;change Shut (wpList _ _ _ [] _ _);refine⟨?_⟩;simp only[Act.put,lS,lZ,lC];have HN:Hid (Below w.heap.size w w6∧∀i,i<j+1→ith zs i=ith ys i):=Lib.hid ⟨zup B0 B6,fun i hi=>by
      rcases Nat.lt_or_ge i j with h|h
      ·exact HA.out i h
      ·rw[show i=j by omega];exact of_decide_eq_true HT.out⟩
     clear b8 b9 hz1 hz2 B6 B0
     go_wp2_with fail
     go_roundw
     case rel=>exact⟨j+1,by go_num,by omega,HN⟩
     case measure=>first|(simp[intOf];done)|(simp[intOf];omega)
   ·obtain rfl:j=n:=by omega
    have u2:¬(j:Int)<(j:Int):=by omega
    obtain⟨B0,hall⟩:=HB.out;have e:b=true:=by
     rw[←Hb.out];refine decide_eq_true (List.ext_getElem (by rw[HX.out.len,HY.out.len]) fun i h1 h2=>?_)
     have:=hall i (by rw[HX.out.len]at h1;exact h1);simp[ith,List.getD,h1,h2]at this;exact this
    subst e;clear HB hall
    go_wp2_with fail
    exact bodyPost_ret (v:=.bool true) (by simp[results,Tryz.results50,go_sem]) rfl (a_r rfl B0)
 ·have u1:¬(n:Int)=(n':Int):=by omega
  have e:b=false:=by
   rw[←Hb.out];exact decide_eq_false fun h=>hn (by rw[←HX.out.len,←HY.out.len,h])
  subst e;go_enter Tryz.func50,Tryz.ntmps50
  go_wp2_with fail
  exact bodyPost_ret (v:=.bool false) (by simp[results,Tryz.results50,go_sem]) rfl (a_r rfl (Below.refl _ _))
end
section
open Go.RowKit
theorem f_9 {q q':Bool}{r c n d k r' c' n' d' k':Nat}{A A':Option Addr}{F G:Nat→Nat→Int}{b:Bool}{w:World}(ha:Mt q w r c A n d k F)(hg:Mt q' w r' c' A' n' d' k' G)(hb:(b=true)↔(r=r'∧c=c'∧∀i j,i<r→j<c→F i j=G i j))(hk:k≤1099511627776)(hk':k'≤1099511627776):Calls Tryz.prog 19 #[.agg #[.int .i64 (r:Int),.int .i64 (c:Int),.slice A n d],.agg #[.int .i64 (r':Int),.int .i64 (c':Int),.slice A' n' d']] w (RetK (.k (.bool b)) w):=by
 have h1:=ha.fmd;have h2:=hg.fmd;obtain⟨t,ht⟩:∃t,(decide ((r:Int)=(r':Int))&&decide ((c:Int)=(c':Int)))=t:=⟨_,rfl⟩;have hbt:t=true→decide (mk r c F=mk r' c' G)=b:=fun e=>by
  rw[e,Bool.and_eq_true,decide_eq_true_iff,decide_eq_true_iff]at ht;obtain⟨rfl,rfl⟩:r=r'∧c=c':=by omega
  rw[Bool.eq_iff_iff,hb,decide_eq_true_iff];exact⟨fun h=>⟨rfl,rfl,fun i j hi hj=>by rw[←g_b (F:=F) hi hj,h,g_b hi hj]⟩,fun h=>g_a h.2.2⟩
 have hbf:t=false→b=false:=fun e=>by
  cases hbb:b with
  |false=>rfl
  |true=>
   obtain⟨rfl,rfl,_⟩:=hb.1 hbb;rw[←ht]at e;simp at e
 obtain⟨w1,hw1,b2,b3,z1,s1⟩:=boxes2 w 24 24 [.int .i64 (r:Int),.int .i64 (c:Int),.slice A n d] [.int .i64 (r':Int),.int .i64 (c':Int),.slice A' n' d'];have HW:=Lib.hid hw1;have HZ:=Lib.hid z1;have h1_:=Lib.hid h1;have h2_:=Lib.hid h2;have ht_:=Lib.hid ht;have hbt_:=Lib.hid hbt;have hbf_:=Lib.hid hbf;clear hw1 z1 h1 h2 ht hbt hbf s1 hb;go_enter Tryz.func19,Tryz.ntmps19
 go_upto_region 1 with fail
 rw[HW.out];cases t
 ·refine Run.start 19 ?_;refine .ld .o (ldM b2 0) ?_;refine .c1 (.i 0) (x:=.k (.bool true)) (by rintro u w2 hB rfl;exact a_n h1_.out w2) ?_;refine .mv (.i 1) ?_;refine .ld .o (ldM b3 0) ?_;refine .c1 (.i 3) (x:=.k (.bool true)) (by rintro u w2 hB rfl;exact a_n h2_.out w2) ?_;refine .pk (.i 2) (.i 4) true ?_;refine .mv (.i 5) ?_;refine .ld .o (ldM b2 0) ?_;refine .ld .o (ldM b3 0) ?_;refine .c2 (.i 7) (.i 8) (x:=.k (.bool false)) (by rintro u v w2 hB rfl rfl;exact l_a ht_.out w2) ?_;refine .pk (.i 6) (.i 9) true ?_;refine .mv (.i 10) ?_;refine .no ?_;refine .no ?_;refine .no ?_;refine .no ?_;refine .no ?_;refine .pk (.i 11) .o false ?_;refine .mv (.i 17) ?_;refine .donep [some 5,some 6,some 7,some 8,some 9,some 10,some 11,some 12,some 13,some 14,some 15,some 16,some 17,some 18,some 19,some 20,some 21,some 22,some 4] ?_;intro w2 B2;change Shut (wpList _ _ _ [] _ _);refine⟨?_⟩;simp only[Act.put,lS,lZ,lC];have e:=hbf_.out rfl;subst e
  go_wp2_with fail
  exact bodyPost_ret (v:=.bool false) (by simp[results,Tryz.results19,go_sem]) rfl (a_r rfl (zup HZ.out B2))
 ·refine Run.start 19 ?_;refine .ld .o (ldM b2 0) ?_;refine .c1 (.i 0) (x:=.k (.bool true)) (by rintro u w2 hB rfl;exact a_n h1_.out w2) ?_;refine .mv (.i 1) ?_;refine .ld .o (ldM b3 0) ?_;refine .c1 (.i 3) (x:=.k (.bool true)) (by rintro u w2 hB rfl;exact a_n h2_.out w2) ?_;refine .pk (.i 2) (.i 4) true ?_;refine .mv (.i 5) ?_;refine .ld .o (ldM b2 0) ?_;refine .ld .o (ldM b3 0) ?_;refine .c2 (.i 7) (.i 8) (x:=.k (.bool true)) (by rintro u v w2 hB rfl rfl;exact l_a ht_.out w2) ?_;refine .pk (.i 6) (.i 9) true ?_;refine .mv (.i 10) ?_;refine .fa .o (fM2 2) ?_;refine .ld (.i 12) (ldSl b2 2) ?_;refine .fa .o (fM2 2) ?_;refine .ld (.i 14) (ldSl b3 2) ?_;refine .c3 (.i 13) (.i 15) .o (x:=.k (.bool b)) (by rintro u v x w2 hB rfl rfl rfl;exact u_h (ha.below (zup HZ.out hB)).zl (hg.below (zup HZ.out hB)).zl (hbt_.out rfl) hk hk') ?_;refine .pk (.i 11) (.i 16) true ?_;refine .mv (.i 17) ?_;refine .donep [some 5,some 6,some 7,some 8,some 9,some 10,some 11,some 12,some 13,some 14,some 15,some 16,some 17,some 18,some 19,some 20,some 21,some 22,some 4] ?_;intro w2 B2;change Shut (wpList _ _ _ [] _ _);refine⟨?_⟩;simp only[Act.put,lS,lZ,lC]
  go_wp2_with fail
  exact bodyPost_ret (v:=.bool b) (by simp[results,Tryz.results19,go_sem]) rfl (a_r rfl (zup HZ.out B2))
end
end Go.Proofs.YtgohglhefhocgaaGreat
