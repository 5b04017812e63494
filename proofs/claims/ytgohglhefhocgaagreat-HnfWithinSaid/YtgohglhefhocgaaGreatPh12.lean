/- Ph12 -/
import Derived.Test.YtgohglhefhocgaaGreatPh11
import Derived.Deep.AppendLies
set_option linter.unusedVariables false
set_option linter.unusedSimpArgs false
set_option linter.unusedSectionVars false
set_option maxRecDepth 100000
set_option maxHeartbeats 8000000
namespace Go.Proofs.YtgohglhefhocgaaGreat
section
open Go.RowKit
theorem a_h {r c:Int}{A:Option Addr}{n d:Nat}{b:Bool}(hb:fmd r c n=b)(w:World):Calls Tryz.prog 11 #[.agg #[.int .i64 r,.int .i64 c,.slice A n d]] w (RetK (.k (.bool b)) w):=by
 obtain⟨w1,hw1,b1,z1,s1⟩:=boxes1 w 24 [.int .i64 r,.int .i64 c,.slice A n d];have HW:=Lib.hid hw1;have HZ:=Lib.hid z1;have hb_:=Lib.hid hb;clear hw1 z1 hb s1;go_enter Tryz.func11,Tryz.ntmps11
 go_upto_region 1 with fail
 rw[HW.out];by_cases g5:0≤r
 rotate_left
 ·refine Run.start 30 ?_;refine .fa .o (fM0 0) ?_;refine .ld (.i 0) (ldInt b1 0) ?_;refine .two (.i 1) .o (opGe (decide_eq_false g5)) ?_;refine .mv (.i 2) ?_;refine .no ?_;refine .no ?_;refine .no ?_;refine .pk (.i 3) .o false ?_;refine .mv (.i 7) ?_;refine .no ?_;refine .no ?_;refine .no ?_;refine .pk (.i 8) .o false ?_;refine .mv (.i 12) ?_;refine .no ?_;refine .no ?_;refine .no ?_;refine .pk (.i 13) .o false ?_;refine .mv (.i 17) ?_;refine .no ?_;refine .no ?_;refine .no ?_;refine .no ?_;refine .no ?_;refine .no ?_;refine .no ?_;refine .no ?_;refine .no ?_;refine .pk (.i 18) .o false ?_;refine .mv (.i 28) ?_;refine .donep [some 3,some 4,some 5,some 6,some 7,some 8,some 9,some 10,some 11,some 12,some 13,some 14,some 15,some 16,some 17,some 18,some 19,some 20,some 21,some 22,some 23,some 24,some 25,some 26,some 27,some 28,some 29,some 30,some 31,some 2] ?_;intro w2 B2;change Shut (wpList _ _ _ [] _ _);refine⟨?_⟩;simp only[Act.put,lS,lZ,lC];have e:b=false:=by rw[←hb_.out];unfold fmd sd;simp;omega
  subst e
  go_wp2_with fail
  exact bodyPost_ret (v:=.bool false) (by simp[results,Tryz.results11,go_sem]) rfl (a_r rfl (zup HZ.out B2))
 ·skip
  by_cases g9:r≤64
  rotate_left
  ·refine Run.start 30 ?_;refine .fa .o (fM0 0) ?_;refine .ld (.i 0) (ldInt b1 0) ?_;refine .two (.i 1) .o (opGe (decide_eq_true g5)) ?_;refine .mv (.i 2) ?_;refine .fa .o (fM0 0) ?_;refine .ld (.i 4) (ldInt b1 0) ?_;refine .two (.i 5) .o (opLe (decide_eq_false g9)) ?_;refine .pk (.i 3) (.i 6) true ?_;refine .mv (.i 7) ?_;refine .no ?_;refine .no ?_;refine .no ?_;refine .pk (.i 8) .o false ?_;refine .mv (.i 12) ?_;refine .no ?_;refine .no ?_;refine .no ?_;refine .pk (.i 13) .o false ?_;refine .mv (.i 17) ?_;refine .no ?_;refine .no ?_;refine .no ?_;refine .no ?_;refine .no ?_;refine .no ?_;refine .no ?_;refine .no ?_;refine .no ?_;refine .pk (.i 18) .o false ?_;refine .mv (.i 28) ?_;refine .donep [some 3,some 4,some 5,some 6,some 7,some 8,some 9,some 10,some 11,some 12,some 13,some 14,some 15,some 16,some 17,some 18,some 19,some 20,some 21,some 22,some 23,some 24,some 25,some 26,some 27,some 28,some 29,some 30,some 31,some 2] ?_;intro w2 B2;change Shut (wpList _ _ _ [] _ _);refine⟨?_⟩;simp only[Act.put,lS,lZ,lC];have e:b=false:=by rw[←hb_.out];unfold fmd sd;simp;omega
   subst e
   go_wp2_with fail
   exact bodyPost_ret (v:=.bool false) (by simp[results,Tryz.results11,go_sem]) rfl (a_r rfl (zup HZ.out B2))
  ·skip
   by_cases g14:0≤c
   rotate_left
   ·refine Run.start 30 ?_;refine .fa .o (fM0 0) ?_;refine .ld (.i 0) (ldInt b1 0) ?_;refine .two (.i 1) .o (opGe (decide_eq_true g5)) ?_;refine .mv (.i 2) ?_;refine .fa .o (fM0 0) ?_;refine .ld (.i 4) (ldInt b1 0) ?_;refine .two (.i 5) .o (opLe (decide_eq_true g9)) ?_;refine .pk (.i 3) (.i 6) true ?_;refine .mv (.i 7) ?_;refine .fa .o (fM1 1) ?_;refine .ld (.i 9) (ldInt b1 1) ?_;refine .two (.i 10) .o (opGe (decide_eq_false g14)) ?_;refine .pk (.i 8) (.i 11) true ?_;refine .mv (.i 12) ?_;refine .no ?_;refine .no ?_;refine .no ?_;refine .pk (.i 13) .o false ?_;refine .mv (.i 17) ?_;refine .no ?_;refine .no ?_;refine .no ?_;refine .no ?_;refine .no ?_;refine .no ?_;refine .no ?_;refine .no ?_;refine .no ?_;refine .pk (.i 18) .o false ?_;refine .mv (.i 28) ?_;refine .donep [some 3,some 4,some 5,some 6,some 7,some 8,some 9,some 10,some 11,some 12,some 13,some 14,some 15,some 16,some 17,some 18,some 19,some 20,some 21,some 22,some 23,some 24,some 25,some 26,some 27,some 28,some 29,some 30,some 31,some 2] ?_;intro w2 B2;change Shut (wpList _ _ _ [] _ _);refine⟨?_⟩;simp only[Act.put,lS,lZ,lC];have e:b=false:=by rw[←hb_.out];unfold fmd sd;simp;omega
    subst e
    go_wp2_with fail
    exact bodyPost_ret (v:=.bool false) (by simp[results,Tryz.results11,go_sem]) rfl (a_r rfl (zup HZ.out B2))
   ·skip
    by_cases g19:c≤64
    rotate_left
    ·refine Run.start 30 ?_;refine .fa .o (fM0 0) ?_;refine .ld (.i 0) (ldInt b1 0) ?_;refine .two (.i 1) .o (opGe (decide_eq_true g5)) ?_;refine .mv (.i 2) ?_;refine .fa .o (fM0 0) ?_;refine .ld (.i 4) (ldInt b1 0) ?_;refine .two (.i 5) .o (opLe (decide_eq_true g9)) ?_;refine .pk (.i 3) (.i 6) true ?_;refine .mv (.i 7) ?_;refine .fa .o (fM1 1) ?_;refine .ld (.i 9) (ldInt b1 1) ?_;refine .two (.i 10) .o (opGe (decide_eq_true g14)) ?_;refine .pk (.i 8) (.i 11) true ?_;refine .mv (.i 12) ?_;refine .fa .o (fM1 1) ?_;refine .ld (.i 14) (ldInt b1 1) ?_;refine .two (.i 15) .o (opLe (decide_eq_false g19)) ?_;refine .pk (.i 13) (.i 16) true ?_;refine .mv (.i 17) ?_;refine .no ?_;refine .no ?_;refine .no ?_;refine .no ?_;refine .no ?_;refine .no ?_;refine .no ?_;refine .no ?_;refine .no ?_;refine .pk (.i 18) .o false ?_;refine .mv (.i 28) ?_;refine .donep [some 3,some 4,some 5,some 6,some 7,some 8,some 9,some 10,some 11,some 12,some 13,some 14,some 15,some 16,some 17,some 18,some 19,some 20,some 21,some 22,some 23,some 24,some 25,some 26,some 27,some 28,some 29,some 30,some 31,some 2] ?_;intro w2 B2;change Shut (wpList _ _ _ [] _ _);refine⟨?_⟩;simp only[Act.put,lS,lZ,lC];have e:b=false:=by rw[←hb_.out];unfold fmd sd;simp;omega
     subst e
     go_wp2_with fail
     exact bodyPost_ret (v:=.bool false) (by simp[results,Tryz.results11,go_sem]) rfl (a_r rfl (zup HZ.out B2))
    ·skip
     refine Run.start 30 ?_;refine .fa .o (fM0 0) ?_;refine .ld (.i 0) (ldInt b1 0) ?_;refine .two (.i 1) .o (opGe (decide_eq_true g5)) ?_;refine .mv (.i 2) ?_;refine .fa .o (fM0 0) ?_;refine .ld (.i 4) (ldInt b1 0) ?_;refine .two (.i 5) .o (opLe (decide_eq_true g9)) ?_;refine .pk (.i 3) (.i 6) true ?_;refine .mv (.i 7) ?_;refine .fa .o (fM1 1) ?_;refine .ld (.i 9) (ldInt b1 1) ?_;refine .two (.i 10) .o (opGe (decide_eq_true g14)) ?_;refine .pk (.i 8) (.i 11) true ?_;refine .mv (.i 12) ?_;refine .fa .o (fM1 1) ?_;refine .ld (.i 14) (ldInt b1 1) ?_;refine .two (.i 15) .o (opLe (decide_eq_true g19)) ?_;refine .pk (.i 13) (.i 16) true ?_;refine .mv (.i 17) ?_;refine .fa .o (fM2 2) ?_;refine .ld (.i 19) (ldSl b1 2) ?_;refine .len (.i 20) Tryz.underlying22 ?_;refine .fa .o (fM0 0) ?_;refine .ld (.i 22) (ldInt b1 0) ?_;refine .fa .o (fM1 1) ?_;refine .ld (.i 24) (ldInt b1 1) ?_;refine .two (.i 23) (.i 25) (opMul rfl (l_f (by unfold sd;exact decide_eq_true ⟨g5,g9⟩) (by unfold sd;exact decide_eq_true ⟨g14,g19⟩)).1 (l_f (by unfold sd;exact decide_eq_true ⟨g5,g9⟩) (by unfold sd;exact decide_eq_true ⟨g14,g19⟩)).2) ?_;refine .two (.i 21) (.i 26) (opEq rfl) ?_;refine .pk (.i 18) (.i 27) true ?_;refine .mv (.i 28) ?_;refine .donep [some 3,some 4,some 5,some 6,some 7,some 8,some 9,some 10,some 11,some 12,some 13,some 14,some 15,some 16,some 17,some 18,some 19,some 20,some 21,some 22,some 23,some 24,some 25,some 26,some 27,some 28,some 29,some 30,some 31,some 2] ?_;intro w2 B2;change Shut (wpList _ _ _ [] _ _);refine⟨?_⟩;simp only[Act.put,lS,lZ,lC];have e:decide ((n:Int)=r*c)=b:=by rw[←hb_.out];unfold fmd sd;simp[g5,g9,g14,g19]
     rw[e];clear e
     go_wp2_with fail
     exact bodyPost_ret (v:=.bool b) (by simp[results,Tryz.results11,go_sem]) rfl (a_r rfl (zup HZ.out B2))
def fewb (r c:Int)(R:List Zr)(N W:Nat):Bool:=decide (r≤N)&&decide (c≤N)&&fwb R 100 W
theorem a_o {r c:Int}{A:Option Addr}{n d N W:Nat}{R:List Zr}{b:Bool}{w:World}(hx:RL w A n d R)(hb:fewb r c R N W=b)(hW':W≤1000):Calls Tryz.prog 9 #[.agg #[.int .i64 r,.int .i64 c,.slice A n d],.int .i64 (N:Int),.int .i64 (W:Int)] w (RetK (.k (.bool b)) w):=by
 obtain⟨t,ht⟩:∃t,fwb R 100 W=t:=⟨_,rfl⟩;obtain⟨w1,hw1,b3,z1,s1⟩:=boxes1 w 24 [.int .i64 r,.int .i64 c,.slice A n d];have HW:=Lib.hid hw1;have HZ:=Lib.hid z1;have hb_:=Lib.hid hb;have ht_:=Lib.hid ht;clear hw1 z1 hb ht s1;go_enter Tryz.func9,Tryz.ntmps9
 go_upto_region 1 with fail
 rw[HW.out];by_cases g10:r≤(N:Int)
 rotate_left
 ·refine Run.start 17 ?_;refine .fa .o (fM0 0) ?_;refine .ld (.i 0) (ldInt b3 0) ?_;refine .mv .o ?_;refine .two (.i 1) (.i 2) (opLe (decide_eq_false g10)) ?_;refine .mv (.i 3) ?_;refine .no ?_;refine .no ?_;refine .no ?_;refine .no ?_;refine .pk (.i 4) .o false ?_;refine .mv (.i 9) ?_;refine .no ?_;refine .no ?_;refine .no ?_;refine .no ?_;refine .pk (.i 10) .o false ?_;refine .mv (.i 15) ?_;refine .donep [some 7,some 8,some 9,some 10,some 11,some 12,some 13,some 14,some 15,some 16,some 17,some 18,some 19,some 20,some 21,some 22,some 6] ?_;intro w2 B2;change Shut (wpList _ _ _ [] _ _);refine⟨?_⟩;simp only[Act.put,lS,lZ,lC];have e:b=false:=by rw[←hb_.out];unfold fewb;simp[g10]
  subst e
  go_wp2_with fail
  exact bodyPost_ret (v:=.bool false) (by simp[results,Tryz.results9,go_sem]) rfl (a_r rfl (zup HZ.out B2))
 ·skip
  by_cases g15:c≤(N:Int)
  rotate_left
  ·refine Run.start 17 ?_;refine .fa .o (fM0 0) ?_;refine .ld (.i 0) (ldInt b3 0) ?_;refine .mv .o ?_;refine .two (.i 1) (.i 2) (opLe (decide_eq_true g10)) ?_;refine .mv (.i 3) ?_;refine .fa .o (fM1 1) ?_;refine .ld (.i 5) (ldInt b3 1) ?_;refine .mv .o ?_;refine .two (.i 6) (.i 7) (opLe (decide_eq_false g15)) ?_;refine .pk (.i 4) (.i 8) true ?_;refine .mv (.i 9) ?_;refine .no ?_;refine .no ?_;refine .no ?_;refine .no ?_;refine .pk (.i 10) .o false ?_;refine .mv (.i 15) ?_;refine .donep [some 7,some 8,some 9,some 10,some 11,some 12,some 13,some 14,some 15,some 16,some 17,some 18,some 19,some 20,some 21,some 22,some 6] ?_;intro w2 B2;change Shut (wpList _ _ _ [] _ _);refine⟨?_⟩;simp only[Act.put,lS,lZ,lC];have e:b=false:=by rw[←hb_.out];unfold fewb;simp[g15]
   subst e
   go_wp2_with fail
   exact bodyPost_ret (v:=.bool false) (by simp[results,Tryz.results9,go_sem]) rfl (a_r rfl (zup HZ.out B2))
  ·skip
   refine Run.start 17 ?_;refine .fa .o (fM0 0) ?_;refine .ld (.i 0) (ldInt b3 0) ?_;refine .mv .o ?_;refine .two (.i 1) (.i 2) (opLe (decide_eq_true g10)) ?_;refine .mv (.i 3) ?_;refine .fa .o (fM1 1) ?_;refine .ld (.i 5) (ldInt b3 1) ?_;refine .mv .o ?_;refine .two (.i 6) (.i 7) (opLe (decide_eq_true g15)) ?_;refine .pk (.i 4) (.i 8) true ?_;refine .mv (.i 9) ?_;refine .fa .o (fM2 2) ?_;refine .ld (.i 11) (ldSl b3 2) ?_;refine .mv .o ?_;refine .c3 (.i 12) .o (.i 13) (x:=.k (.bool t)) (by rintro u v x w2 hB rfl rfl rfl;exact(n_r (hx.below (zup HZ.out hB)) (by omega) hW' ht_.out).mono fun e w' h=>⟨_,h.1,rfl,h.2⟩) ?_;refine .pk (.i 10) (.i 14) true ?_;refine .mv (.i 15) ?_;refine .donep [some 7,some 8,some 9,some 10,some 11,some 12,some 13,some 14,some 15,some 16,some 17,some 18,some 19,some 20,some 21,some 22,some 6] ?_;intro w2 B2;change Shut (wpList _ _ _ [] _ _);refine⟨?_⟩;simp only[Act.put,lS,lZ,lC];have e:b=t:=by rw[←hb_.out,←ht_.out];unfold fewb;simp[g10,g15]
   subst e
   go_wp2_with fail
   exact bodyPost_ret (v:=.bool b) (by simp[results,Tryz.results9,go_sem]) rfl (a_r rfl (zup HZ.out B2))
end
section
open Go.RowKit
def kAny:FK:=.f (fun _ _=>True) (fun _ _ _ _ _=>trivial)
def Weak:List FK→List FK→Prop
 | [],[]=>True
 | .a T::l,.a U::l0=>T=U∧Weak l l0
 | .k v::l,.k u::l0=>v=u∧Weak l l0
 | .k v::l,.f F _::l0=>(∀w,F v w)∧Weak l l0
 | .f F _::l,.f G _::l0=>(∀v w,F v w→G v w)∧Weak l l0
 |_,_=>False
section
variable {ops:Array Oper}{Q:Exit→Act→World→Prop}{m:Nat}{a0 a:Act}{w0 w:World}{b:Bool}{id:Nat}
theorem EndQ.weak:∀ {l l0:List FK} {acc:List Nat} {ds:List (Option Nat)} {a:Act},Weak l l0→EndQ ops Q m w0 w acc l0 ds a→EndQ ops Q m w0 w acc l ds a
 | [],[],acc,ds,a,_,h=>h
 | .a T::l,.a U::l0,acc,[],a,hw,h=>h
 | .a T::l,.a U::l0,acc,d::ds,a,hw,h=>fun g e1 e2 e3 e4=>EndQ.weak hw.2 (h g e1 e2 (by rw[←hw.1];exact e3) e4)
 | .k v::l,.k u::l0,acc,[],a,hw,h=>h
 | .k v::l,.k u::l0,acc,d::ds,a,hw,h=>by
  obtain⟨rfl,hw⟩:=hw;exact EndQ.weak (l:=l) (a:=a.put d v) hw h
 | .k v::l,.f F hF::l0,acc,[],a,hw,h=>h
 | .k v::l,.f F hF::l0,acc,d::ds,a,hw,h=>EndQ.weak (l:=l) (a:=a.put d v) hw.2 (h v (hw.1 w))
 | .f F hF::l,.f G hG::l0,acc,[],a,hw,h=>h
 | .f F hF::l,.f G hG::l0,acc,d::ds,a,hw,h=>fun u hu=>EndQ.weak hw.2 (h u (hw.1 u w hu))
 | .f _ _::_,.k _::_,_,_,_,hw,_=>hw.elim
 | .f _ _::_,.a _::_,_,_,_,hw,_=>hw.elim
 | .k _::_,.a _::_,_,_,_,hw,_=>hw.elim
 | .a _::_,.k _::_,_,_,_,hw,_=>hw.elim
 | .a _::_,.f _ _::_,_,_,_,hw,_=>hw.elim
 | [],_::_,_,_,_,hw,_=>hw.elim
 | .k _::_,[],_,_,_,hw,_=>hw.elim
 | .f _ _::_,[],_,_,_,hw,_=>hw.elim
 | .a _::_,[],_,_,_,hw,_=>hw.elim
theorem Run.merge (m:Nat)(l0:List FK)(ds:List (Option Nat))(ways:(∀w,Below w0.heap.size w0 w→EndQ ops Q m w0 w [] l0 ds a0)→R ops Q m a0 w0 b id [] 0)(hend:∀w,Below w0.heap.size w0 w→EndQ ops Q m w0 w [] l0 ds a0):(Code.region id ops b).wp Tryz.prog Q a0 w0:=Run.start m (ways hend)
end
section
variable {w:World}{g h:Nat}{T:TypeId}{cs:List Value}{s t:Bool}{A B:Option Addr}{n c m d e:Nat}{r c' x y z:Int}
theorem Bx.mo {c:Int}{n d:Nat}(b:Bx w h T cs)(hn:h≠g):Bx (mput w g r c A n d) h T cs:=((b.off hn _ _).off hn _ _).off hn _ _
theorem Bx.mp {c:Int}{n d:Nat}(b:Bx w g 24 [.int .i64 x,.int .i64 y,.slice B m e]):Bx (mput w g r c A n d) g 24 [.int .i64 r,.int .i64 c,.slice A n d]:=((b.set 0 _).set 1 _).set 2 _
theorem zeroM (h:w.heap[g]? =some (zeroObj 24)):Bx w g 24 [.int .i64 0,.int .i64 0,.slice none 0 0]:=h.trans (congrArg some (by kernel_rfl))
end
def IsIJ (xs:List Int):FVal:=fun v w=>∃g,v= .slice (some ⟨g,0,none⟩) xs.length xs.length∧Il w (some ⟨g,0,none⟩) xs.length xs.length xs
def kIJ (xs:List Int):FK:=.f (IsIJ xs) (fun v w w' ⟨g,e,h⟩ hb=>⟨g,e,h.below hb⟩)
def okBsJ (ops:Array Oper)(m i:Nat)(ss:List Src):Bool:=okH ops m i&&(match(opAt ops i).op with| .buildSlice T n xs=>T==90&&n==ss.length&&xs.toList.map (·.1)==List.range ss.length&&okSrcs ops m i (xs.toList.map (·.2)) ss|_=>false)
end
section
open Go.RowKit
def mf (R:List Zr)(c:Nat):Nat→Nat→Int:=fun i j=>ith (nums R) (i*c+j)
theorem u_c {R:List Zr}{r c n:Nat}(hl:R.length=n)(hn:n=r*c):mk r c (mf R c)=nums R:=u_b (by unfold nums;rw[List.length_map,hl,hn])
theorem h_f {r c:Int}{R:List Zr}{N W:Nat}(h:fewb r c R N W=true):r≤N∧c≤N∧Fw R 100 W:=by
 unfold fewb at h;simp only[Bool.and_eq_true,decide_eq_true_eq]at h;exact⟨h.1.1,h.1.2,s_0 h.2⟩
theorem RL.few {w:World}{A:Option Addr}{n d:Nat}{R:List Zr}{r c:Int}{N W:Nat}(h:RL w A n d R)(hw:fewb r c R N W=true):ZL false w A n d W (nums R):=
 h.zl fun j hj=>t_k (h_f hw).2.2 (by omega) j (by rw[h.len];exact hj)
theorem RL.mt {w:World}{A:Option Addr}{n d:Nat}{R:List Zr}{r c:Int}{N W:Nat}(h:RL w A n d R)(hf:fmd r c n=true)(hw:fewb r c R N W=true):∃r' c':Nat,r=r'∧c=c'∧r'≤N∧c'≤N∧n=r'*c'∧Mt false w r' c' A n d W (mf R c'):=by
 unfold fmd at hf;simp only[Bool.and_eq_true,decide_eq_true_eq]at hf;obtain⟨⟨h1,h2⟩,h3⟩:=hf;obtain⟨a1,a2⟩:=n_j h1;obtain⟨b1,b2⟩:=n_j h2;obtain⟨e1,e2,_⟩:=h_f hw;obtain⟨r',rfl⟩:=Int.eq_ofNat_of_zero_le a1;obtain⟨c',rfl⟩:=Int.eq_ofNat_of_zero_le b1;have hn:n=r'*c':=by
  have:(n:Int)=((r'*c':Nat):Int):=by rw[h3];simp
  omega
 refine⟨r',c',rfl,rfl,by omega,by omega,hn, ?_,by omega,by omega⟩;rw[u_c h.len hn];exact h.few hw
theorem EndQ.weaker {ops:Array Oper}{Q:Exit→Act→World→Prop}{m:Nat}{w0 w:World}{l l0:List FK}{acc:List Nat}{ds:List (Option Nat)}{a:Act}(h:EndQ ops Q m w0 w acc l0 ds a)(hw:Weak l l0):EndQ ops Q m w0 w acc l ds a:=EndQ.weak hw h
end
section
open Go.RowKit
def OwnI (w:World)(base:Nat)(e:TypeId)(v:Value)(n:Nat)(xs:List Value):Prop:=
 w.ownsRow base e 1 v n xs∧∀g cs,v.ownBlock=some g→w.heap[g]? =some (.cells cs e (0,0))→∀u,u∈cs.toList→NWd u
theorem k_t {z:Array Value}(hs:z.size=1)(hz:∀u,u∈z.toList→NWd u)(k:Nat)(u:Value)(hu:u∈(Builtin.zeroCells z k).toList):NWd u:=by
 unfold Builtin.zeroCells at hu;rw[Array.toList_map,List.mem_map]at hu;obtain⟨i,hi,rfl⟩:=hu;have hlt:i%z.size<z.size:=Nat.mod_lt _ (by omega);rw[getElem!_pos z _ hlt];exact hz _ (Array.getElem_mem_toList hlt)
section
variable {P:Program}(w:World)
theorem g_2 (base:Nat)(t ty e:TypeId)(i:TypeInfo)(z:Value)(bytes:Nat)(ht:P.underlying t=some (.slice e))(hi:P.info? e=some i)(hz:i.zero=some z)
  (hsize:i.size=1) (hby:i.bytes=bytes) (hzs:z.cells.size=1) (hzn:∀u,u∈z.cells.toList→NWd u)
  (v:Value) (n:Nat) (xs:List Value) (hown:OwnI w base e v n xs)
  (a:Addr) (c:Nat) (news:List Value) (hl:news.length=1) (hnews:∀j u,news[j]? =some u→w.cell? (a.add j)=some u) (h1:∀u∈news,u.oneCell'=true) (hn:∀u,u∈news→NWd u)
  (h63:n+1≤maxLen) (hbytes:(n+1)*bytes≤140737488355328) (hbase:base≤w.heap.size):
  ∃v' w',(Builtin.append_ #[t,t] ty #[v,.slice (some a) 1 c]).run P w= .ok v' w'∧OwnI w' base e v' (n+1) (xs++news)∧w.grownBy w' v.ownBlock∧(v'.ownBlock=v.ownBlock∨v'.ownBlock=some w.heap.size):=by
 obtain⟨v',w',hr,ho,hg,-⟩:=run_append_own (P:=P) w base t ty e i z 1 bytes ht hi hz hsize hby hzs (by omega) v n xs hown.1 a 1 c news (by omega) hnews h1 h63 hbytes hbase;suffices H:(∀g cs,v'.ownBlock=some g→w'.heap[g]? =some (.cells cs e (0,0))→∀u,u∈cs.toList→NWd u)∧(v'.ownBlock=v.ownBlock∨v'.ownBlock=some w.heap.size)from⟨v',w',hr,⟨ho,H.1⟩,hg,H.2⟩
 have hsmall:n+1≤9223372036854775807:=by simp only[maxLen]at h63;omega
 have zz:=k_t hzs hzn;have fresh:∀(ys:List Value) (k:Nat) (cap:Nat),(∀u,u∈ys→NWd u)→v'= .slice (some ⟨w.heap.size,0,none⟩) (n+1) cap→w'=w.drew.alloc (.cells (ys.toArray++news.toArray++Builtin.zeroCells z.cells k) e)→
   ∀g cs,v'.ownBlock=some g→w'.heap[g]? =some (.cells cs e (0,0))→∀u,u∈cs.toList→NWd u:=fun ys k cap hys e1 e2 g cs h2 h3 u hu=>by
  subst e1 e2;have e3:w.heap.size=g:=by simpa [Value.ownBlock] using h2
  subst e3;have h9:(w.drew.alloc (.cells (ys.toArray++news.toArray++Builtin.zeroCells z.cells k) e)).heap[w.heap.size]? =some (.cells (ys.toArray++news.toArray++Builtin.zeroCells z.cells k) e (0,0)):=heap_alloc_new w.drew _;rw[h9]at h3;injection h3 with e4
  injection e4 with e5
  subst e5;simp only[Array.toList_append,List.mem_append]at hu;rcases hu with(hu|hu)|hu
  ·exact hys u hu
  ·exact hn u hu
  ·exact zz k u hu
 rcases hown.1.2 with⟨rfl,rfl⟩|⟨g,cap,cur,rfl,hbg,hh,hnc,hcm,hcs,htake⟩
 ·have hr2:=Go.run_append_nil (P:=P) w t ty e i z ht hi hz a 1 c news (by omega) hnews (by omega) (by omega) (by simp only[Nat.zero_add]at hbytes;omega);rw[hr]at hr2;injection hr2 with e1 e2
  exact⟨fresh [] (grownCap w 1 0 e - 1) (grownCap w 1 0 e) (fun u hu=>nomatch hu) e1 (by rw[e2];simp),.inr (by rw[e1];rfl)⟩
 ·have hcur:∀u,u∈cur.toList→NWd u:=hown.2 g cur rfl hh;have hxs:∀u,u∈xs→NWd u:=fun u hu=>hcur u (by rw[←htake]at hu;exact List.mem_of_mem_take hu);by_cases hroom:n+1≤cap
  ·have hfit:n*i.size+news.length≤cur.size:=by rw[hl,hcs,hsize];omega
   have hr2:=run_append_room (P:=P) w t ty e i ht hi g n cap cur hh a 1 c news (by omega) hnews h1 hroom hfit;rw[hr]at hr2;injection hr2 with e1 e2
   refine⟨?_,.inl (by rw[e1];rfl)⟩;intro g' cs h2 h3 u hu;subst e1 e2;have e3:g=g':=by simpa [Value.ownBlock] using h2
   subst e3;rw[setRow_heap w g cur _ e _ hh]at h3;injection h3 with e4
   injection e4 with e5
   subst e5;simp only[List.mem_append]at hu;rcases hu with(hu|hu)|hu
   ·exact hcur u (List.mem_of_mem_take hu)
   ·exact hn u hu
   ·exact hcur u (List.mem_of_mem_drop hu)
  ·have holds:∀j u,xs[j]? =some u→w.cell? ((⟨g,0,none⟩:Addr).add j)=some u:=hown.1.cells (g:=g) rfl;have hr2:=run_append_grow (P:=P) w t ty e i z ht hi hz ⟨g,0,none⟩ n cap xs (by rw[hown.1.1,hsize]) holds a 1 c news (by omega) hnews (by omega) (by omega) (growslice_fits (by omega) (by rw[hby];exact hbytes));rw[hr]at hr2;injection hr2 with e1 e2
   exact⟨fresh xs _ _ hxs e1 e2,.inr (by rw[e1];rfl)⟩
end
theorem OwnI.lt {w:World}{base:Nat}{e:TypeId}{v:Value}{n:Nat}{xs:List Value}(h:OwnI w base e v n xs){g:Nat}(hg:v.ownBlock=some g):base≤g∧g<w.heap.size:=h.1.lt g hg
theorem OwnI.below {w w':World}{base:Nat}{e:TypeId}{v:Value}{n:Nat}{xs:List Value}(h:OwnI w base e v n xs)(hb:Below w.heap.size w w'):OwnI w' base e v n xs:=by
 refine⟨h.1.kept (row:=none) ⟨hb.os,hb.tape,hb.output,hb.size,fun k hk _=>hb.block k hk⟩ (by cases hv:v.ownBlock<;>simp),fun g cs hv hc=>h.2 g cs hv ?_⟩;rw[←hb.block g (h.lt hv).2];exact hc
theorem OwnI.nil (w:World)(base:Nat)(e:TypeId):OwnI w base e (.slice none 0 0) 0 []:=⟨World.ownsRow_nil w _ _ _,fun g cs h=>nomatch h⟩
theorem OwnI.form {w:World}{base:Nat}{e:TypeId}{v:Value}{n:Nat}{xs:List Value}(h:OwnI w base e v n xs):∃A c,v= .slice A n c∧n≤c∧c≤9223372036854775807∧(0<n→∃g,A=some ⟨g,0,none⟩∧g<w.heap.size∧∀j u,xs[j]? =some u→w.cell? ⟨g,j,none⟩=some u):=by
 rcases h.1.2 with⟨rfl,rfl⟩|⟨g,cap,cur,rfl,hb,hh,hn,hm,hcs,ht⟩
 ·exact⟨none,0,rfl,Nat.le_refl _,by omega,fun h=>by omega⟩
 ·refine⟨_,cap,rfl,hn,by unfold maxLen at hm;omega,fun h0=>⟨g,rfl,(Array.getElem?_eq_some_iff.1 hh).1,fun j u hu=>?_⟩⟩
  have:=h.1.cells (g:=g) rfl j u hu;rwa [b_k]at this
theorem f_e {P:Program}{w:World}{ops:Array Oper}{rest:List Oper}{o:Oper}{a:Act}{Q:Exit→Act→World→Prop}(hgd:o.guard=none)(s x:Operand)(t:TypeId)
  (ho:o.op= .call { callee:=.builtin .append,args:=#[s,x],argTypes:=#[t,t] }) (base:Nat) (e:TypeId) (bytes:Nat) (zv:Value)
  (ht:P.underlying t=some (.slice e)) (hinfo:(P.info? e).map (fun i=>(i.zero,i.size,i.bytes))=some (some zv,1,bytes)) (hzs:zv.cells.size=1) (hzn:∀u,u∈zv.cells.toList→NWd u) (hby:bytes≤64)
  (v:Value) (n:Nat) (xs:List Value) (hs:a.eval s=v) (hown:OwnI w base e v n xs) {g:Nat} {T:TypeId} {u:Value} (hone:Bx w g T [u]) (h1:u.oneCell'=true) (hnw:NWd u)
  (hx:a.eval x= .slice (some ⟨g,0,none⟩) 1 1) (hlen:n≤1099511627776) (hbase:base≤w.heap.size)
  (h:∀v' w',OwnI w' base e v' (n+1) (xs++[u])→Grew w w' v v'→wpList P ops Q rest (a.put o.dst v') w'):wpList P ops Q (o::rest) a w:=by
 obtain⟨i,hi,hz0,hz1,hz2⟩:=info_parts hinfo;obtain⟨v',w',hr,h2,h3,h4⟩:=g_2 (P:=P) w base t o.type e i zv bytes ht hi hz0 hz1 hz2 hzs hzn v n xs hown ⟨g,0,none⟩ 1 [u] rfl (fun j y hy=>by
  rw[b_k];match j,hy with
  |0,hy=>simp at hy;subst hy;exact hone.cell 0) (by simpa using h1) (by simpa using hnw) (by unfold maxLen;omega) (by have:(n+1)*bytes≤(1099511627776+1)*64:=Nat.mul_le_mul (by omega) hby;omega) hbase
 refine wpList_plain hgd fun K' hK'=>?_;unfold Oper.wp execOp;simp only[ho,resolve,invoke,builtin,Sem.run_bind,Sem.run_pure,Result.andThen_ok,List.map_toArray,List.map_cons,List.map_nil,hs,hx,hr];exact hK' _ _ (h v' w' h2 ⟨h3,fun g hg=>by
  intro p m hp hc;rcases hown.1.2 with⟨rfl,_⟩|⟨g',cap,cur,rfl,hb,hh,_⟩
  ·cases hg
  ·have e':g'=g:=by simpa [Value.ownBlock] using hg
   subst e';have e2:cur[p.off]? =some (.int .u64 m):=by
    unfold World.cell? at hc;rw[hp,hh]at hc;exact(by simpa using hc:p.spot=none∧cur[p.off]? =some (.int .u64 m)).2
   exact hown.2 g' cur hg hh (.int .u64 m) (by rw[←Array.getElem?_toList]at e2;exact List.mem_of_getElem? e2) m rfl,h4⟩)
theorem r_q {w0 w w':World}{v v':Value}(hb:Below w0.heap.size w0 w)(hG:Grew w w' v v')(hv:∀g,v.ownBlock=some g→w0.heap.size≤g):Below w0.heap.size w0 w':=by
 have h:=hG.by';cases e:v.ownBlock with
 |none=>rw[e]at h;exact zup hb ⟨h.os,h.tape,h.output,h.size,fun k hk=>h.block k hk (by simp)⟩
 |some g=>rw[e]at h;exact h_d hb h (hv g e)
theorem OwnI.up {w0 w w':World}{base n:Nat}{e:TypeId}{v v':Value}{xs:List Value}(h:OwnI w base e v n xs)(hb:Below w0.heap.size w0 w)(hG:Grew w w' v v')(h0:w0.heap.size≤base):Below w0.heap.size w0 w':=r_q hb hG fun g hg=>Nat.le_trans h0 (h.lt hg).1
end
end Go.Proofs.YtgohglhefhocgaaGreat
