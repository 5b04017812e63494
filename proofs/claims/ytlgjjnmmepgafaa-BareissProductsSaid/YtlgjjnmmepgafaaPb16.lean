/- Pb16 -/
import Derived.Test.YtlgjjnmmepgafaaPb15
set_option linter.unusedVariables false
set_option linter.unusedSimpArgs false
set_option linter.unusedSectionVars false
set_option maxRecDepth 100000
set_option maxHeartbeats 8000000
namespace Go.Proofs.Ytlgjjnmmepgafaa
section
open Go.RowKit
theorem d_a {r c:Int}{A:Option Addr}{n d:Nat}{b:Bool}(hb:fmd r c n=b)(w:World):Calls Try.prog 16 #[.agg #[.int .i64 r,.int .i64 c,.slice A n d]] w (RetK (.k (.bool b)) w):=by
 obtain⟨w1,hw1,b1,z1,s1⟩:=boxes1 w 24 [.int .i64 r,.int .i64 c,.slice A n d];have HW:=Lib.hid hw1;have HZ:=Lib.hid z1;have hb_:=Lib.hid hb;clear hw1 z1 hb s1;go_enter Try.func16,Try.ntmps16
 go_upto_region 1 with fail
 rw[HW.out];by_cases g5:0<=r
 rotate_left
 ·refine Run.start 30 ?_;refine .fa .o (fM0 0) ?_;refine .ld (.i 0) (ldInt b1 0) ?_;refine .two (.i 1) .o (opGe (decide_eq_false g5)) ?_;refine .mv (.i 2) ?_;refine .no ?_;refine .no ?_;refine .no ?_;refine .pk (.i 3) .o false ?_;refine .mv (.i 7) ?_;refine .no ?_;refine .no ?_;refine .no ?_;refine .pk (.i 8) .o false ?_;refine .mv (.i 12) ?_;refine .no ?_;refine .no ?_;refine .no ?_;refine .pk (.i 13) .o false ?_;refine .mv (.i 17) ?_;refine .no ?_;refine .no ?_;refine .no ?_;refine .no ?_;refine .no ?_;refine .no ?_;refine .no ?_;refine .no ?_;refine .no ?_;refine .pk (.i 18) .o false ?_;refine .mv (.i 28) ?_;refine .donep [some 3,some 4,some 5,some 6,some 7,some 8,some 9,some 10,some 11,some 12,some 13,some 14,some 15,some 16,some 17,some 18,some 19,some 20,some 21,some 22,some 23,some 24,some 25,some 26,some 27,some 28,some 29,some 30,some 31,some 2] ?_;intro w2 B2;refine sh [] ?_;simp only[Act.put,lS,lZ,lC];have e:b=false:=by rw[<-hb_.out];unfold fmd sd;simp;omega
  subst e
  go_wp2_with fail
  exact bodyPost_ret (v:=.bool false) (by simp[results,Try.results16,go_sem]) rfl (a_s rfl (zup HZ.out B2))
 ·skip
  by_cases g9:r<=64
  rotate_left
  ·refine Run.start 30 ?_;refine .fa .o (fM0 0) ?_;refine .ld (.i 0) (ldInt b1 0) ?_;refine .two (.i 1) .o (opGe (decide_eq_true g5)) ?_;refine .mv (.i 2) ?_;refine .fa .o (fM0 0) ?_;refine .ld (.i 4) (ldInt b1 0) ?_;refine .two (.i 5) .o (opLe (decide_eq_false g9)) ?_;refine .pk (.i 3) (.i 6) true ?_;refine .mv (.i 7) ?_;refine .no ?_;refine .no ?_;refine .no ?_;refine .pk (.i 8) .o false ?_;refine .mv (.i 12) ?_;refine .no ?_;refine .no ?_;refine .no ?_;refine .pk (.i 13) .o false ?_;refine .mv (.i 17) ?_;refine .no ?_;refine .no ?_;refine .no ?_;refine .no ?_;refine .no ?_;refine .no ?_;refine .no ?_;refine .no ?_;refine .no ?_;refine .pk (.i 18) .o false ?_;refine .mv (.i 28) ?_;refine .donep [some 3,some 4,some 5,some 6,some 7,some 8,some 9,some 10,some 11,some 12,some 13,some 14,some 15,some 16,some 17,some 18,some 19,some 20,some 21,some 22,some 23,some 24,some 25,some 26,some 27,some 28,some 29,some 30,some 31,some 2] ?_;intro w2 B2;refine sh [] ?_;simp only[Act.put,lS,lZ,lC];have e:b=false:=by rw[<-hb_.out];unfold fmd sd;simp;omega
   subst e
   go_wp2_with fail
   exact bodyPost_ret (v:=.bool false) (by simp[results,Try.results16,go_sem]) rfl (a_s rfl (zup HZ.out B2))
  ·skip
   by_cases g14:0<=c
   rotate_left
   ·refine Run.start 30 ?_;refine .fa .o (fM0 0) ?_;refine .ld (.i 0) (ldInt b1 0) ?_;refine .two (.i 1) .o (opGe (decide_eq_true g5)) ?_;refine .mv (.i 2) ?_;refine .fa .o (fM0 0) ?_;refine .ld (.i 4) (ldInt b1 0) ?_;refine .two (.i 5) .o (opLe (decide_eq_true g9)) ?_;refine .pk (.i 3) (.i 6) true ?_;refine .mv (.i 7) ?_;refine .fa .o (fM1 1) ?_;refine .ld (.i 9) (ldInt b1 1) ?_;refine .two (.i 10) .o (opGe (decide_eq_false g14)) ?_;refine .pk (.i 8) (.i 11) true ?_;refine .mv (.i 12) ?_;refine .no ?_;refine .no ?_;refine .no ?_;refine .pk (.i 13) .o false ?_;refine .mv (.i 17) ?_;refine .no ?_;refine .no ?_;refine .no ?_;refine .no ?_;refine .no ?_;refine .no ?_;refine .no ?_;refine .no ?_;refine .no ?_;refine .pk (.i 18) .o false ?_;refine .mv (.i 28) ?_;refine .donep [some 3,some 4,some 5,some 6,some 7,some 8,some 9,some 10,some 11,some 12,some 13,some 14,some 15,some 16,some 17,some 18,some 19,some 20,some 21,some 22,some 23,some 24,some 25,some 26,some 27,some 28,some 29,some 30,some 31,some 2] ?_;intro w2 B2;refine sh [] ?_;simp only[Act.put,lS,lZ,lC];have e:b=false:=by rw[<-hb_.out];unfold fmd sd;simp;omega
    subst e
    go_wp2_with fail
    exact bodyPost_ret (v:=.bool false) (by simp[results,Try.results16,go_sem]) rfl (a_s rfl (zup HZ.out B2))
   ·skip
    by_cases g19:c<=64
    rotate_left
    ·refine Run.start 30 ?_;refine .fa .o (fM0 0) ?_;refine .ld (.i 0) (ldInt b1 0) ?_;refine .two (.i 1) .o (opGe (decide_eq_true g5)) ?_;refine .mv (.i 2) ?_;refine .fa .o (fM0 0) ?_;refine .ld (.i 4) (ldInt b1 0) ?_;refine .two (.i 5) .o (opLe (decide_eq_true g9)) ?_;refine .pk (.i 3) (.i 6) true ?_;refine .mv (.i 7) ?_;refine .fa .o (fM1 1) ?_;refine .ld (.i 9) (ldInt b1 1) ?_;refine .two (.i 10) .o (opGe (decide_eq_true g14)) ?_;refine .pk (.i 8) (.i 11) true ?_;refine .mv (.i 12) ?_;refine .fa .o (fM1 1) ?_;refine .ld (.i 14) (ldInt b1 1) ?_;refine .two (.i 15) .o (opLe (decide_eq_false g19)) ?_;refine .pk (.i 13) (.i 16) true ?_;refine .mv (.i 17) ?_;refine .no ?_;refine .no ?_;refine .no ?_;refine .no ?_;refine .no ?_;refine .no ?_;refine .no ?_;refine .no ?_;refine .no ?_;refine .pk (.i 18) .o false ?_;refine .mv (.i 28) ?_;refine .donep [some 3,some 4,some 5,some 6,some 7,some 8,some 9,some 10,some 11,some 12,some 13,some 14,some 15,some 16,some 17,some 18,some 19,some 20,some 21,some 22,some 23,some 24,some 25,some 26,some 27,some 28,some 29,some 30,some 31,some 2] ?_;intro w2 B2;refine sh [] ?_;simp only[Act.put,lS,lZ,lC];have e:b=false:=by rw[<-hb_.out];unfold fmd sd;simp;omega
     subst e
     go_wp2_with fail
     exact bodyPost_ret (v:=.bool false) (by simp[results,Try.results16,go_sem]) rfl (a_s rfl (zup HZ.out B2))
    ·skip
     refine Run.start 30 ?_;refine .fa .o (fM0 0) ?_;refine .ld (.i 0) (ldInt b1 0) ?_;refine .two (.i 1) .o (opGe (decide_eq_true g5)) ?_;refine .mv (.i 2) ?_;refine .fa .o (fM0 0) ?_;refine .ld (.i 4) (ldInt b1 0) ?_;refine .two (.i 5) .o (opLe (decide_eq_true g9)) ?_;refine .pk (.i 3) (.i 6) true ?_;refine .mv (.i 7) ?_;refine .fa .o (fM1 1) ?_;refine .ld (.i 9) (ldInt b1 1) ?_;refine .two (.i 10) .o (opGe (decide_eq_true g14)) ?_;refine .pk (.i 8) (.i 11) true ?_;refine .mv (.i 12) ?_;refine .fa .o (fM1 1) ?_;refine .ld (.i 14) (ldInt b1 1) ?_;refine .two (.i 15) .o (opLe (decide_eq_true g19)) ?_;refine .pk (.i 13) (.i 16) true ?_;refine .mv (.i 17) ?_;refine .fa .o (fM2 2) ?_;refine .ld (.i 19) (ldSl b1 2) ?_;refine .len (.i 20) Try.underlying22 ?_;refine .fa .o (fM0 0) ?_;refine .ld (.i 22) (ldInt b1 0) ?_;refine .fa .o (fM1 1) ?_;refine .ld (.i 24) (ldInt b1 1) ?_;refine .two (.i 23) (.i 25) (opMul rfl (j_w (by unfold sd;exact decide_eq_true ⟨g5,g9⟩) (by unfold sd;exact decide_eq_true ⟨g14,g19⟩)).1 (j_w (by unfold sd;exact decide_eq_true ⟨g5,g9⟩) (by unfold sd;exact decide_eq_true ⟨g14,g19⟩)).2) ?_;refine .two (.i 21) (.i 26) (opEq rfl) ?_;refine .pk (.i 18) (.i 27) true ?_;refine .mv (.i 28) ?_;refine .donep [some 3,some 4,some 5,some 6,some 7,some 8,some 9,some 10,some 11,some 12,some 13,some 14,some 15,some 16,some 17,some 18,some 19,some 20,some 21,some 22,some 23,some 24,some 25,some 26,some 27,some 28,some 29,some 30,some 31,some 2] ?_;intro w2 B2;refine sh [] ?_;simp only[Act.put,lS,lZ,lC];have e:decide ((n:Int)=r*c)=b:=by rw[<-hb_.out];unfold fmd sd;simp[g5,g9,g14,g19]
     rw[e];clear e
     go_wp2_with fail
     exact bodyPost_ret (v:=.bool b) (by simp[results,Try.results16,go_sem]) rfl (a_s rfl (zup HZ.out B2))
def fewb (r c:Int)(R:List Zr)(N W:Nat):Bool:=decide (r<=N)&&decide (c<=N)&&fwb R 100 W
theorem a_6 {r c:Int}{A:Option Addr}{n d N W:Nat}{R:List Zr}{b:Bool}{w:World}(hx:RL w A n d R)(hb:fewb r c R N W=b)(hW':W<=1000):Calls Try.prog 8 #[.agg #[.int .i64 r,.int .i64 c,.slice A n d],.int .i64 (N:Int),.int .i64 (W:Int)] w (RetK (.k (.bool b)) w):=by
 obtain⟨t,ht⟩:∃t,fwb R 100 W=t:=⟨_,rfl⟩;obtain⟨w1,hw1,b3,z1,s1⟩:=boxes1 w 24 [.int .i64 r,.int .i64 c,.slice A n d];have HW:=Lib.hid hw1;have HZ:=Lib.hid z1;have hb_:=Lib.hid hb;have ht_:=Lib.hid ht;clear hw1 z1 hb ht s1;go_enter Try.func8,Try.ntmps8
 go_upto_region 1 with fail
 rw[HW.out];by_cases g10:r<=(N:Int)
 rotate_left
 ·refine Run.start 17 ?_;refine .fa .o (fM0 0) ?_;refine .ld (.i 0) (ldInt b3 0) ?_;refine .mv .o ?_;refine .two (.i 1) (.i 2) (opLe (decide_eq_false g10)) ?_;refine .mv (.i 3) ?_;refine .no ?_;refine .no ?_;refine .no ?_;refine .no ?_;refine .pk (.i 4) .o false ?_;refine .mv (.i 9) ?_;refine .no ?_;refine .no ?_;refine .no ?_;refine .no ?_;refine .pk (.i 10) .o false ?_;refine .mv (.i 15) ?_;refine .donep [some 7,some 8,some 9,some 10,some 11,some 12,some 13,some 14,some 15,some 16,some 17,some 18,some 19,some 20,some 21,some 22,some 6] ?_;intro w2 B2;refine sh [] ?_;simp only[Act.put,lS,lZ,lC];have e:b=false:=by rw[<-hb_.out];unfold fewb;simp[g10]
  subst e
  go_wp2_with fail
  exact bodyPost_ret (v:=.bool false) (by simp[results,Try.results8,go_sem]) rfl (a_s rfl (zup HZ.out B2))
 ·skip
  by_cases g15:c<=(N:Int)
  rotate_left
  ·refine Run.start 17 ?_;refine .fa .o (fM0 0) ?_;refine .ld (.i 0) (ldInt b3 0) ?_;refine .mv .o ?_;refine .two (.i 1) (.i 2) (opLe (decide_eq_true g10)) ?_;refine .mv (.i 3) ?_;refine .fa .o (fM1 1) ?_;refine .ld (.i 5) (ldInt b3 1) ?_;refine .mv .o ?_;refine .two (.i 6) (.i 7) (opLe (decide_eq_false g15)) ?_;refine .pk (.i 4) (.i 8) true ?_;refine .mv (.i 9) ?_;refine .no ?_;refine .no ?_;refine .no ?_;refine .no ?_;refine .pk (.i 10) .o false ?_;refine .mv (.i 15) ?_;refine .donep [some 7,some 8,some 9,some 10,some 11,some 12,some 13,some 14,some 15,some 16,some 17,some 18,some 19,some 20,some 21,some 22,some 6] ?_;intro w2 B2;refine sh [] ?_;simp only[Act.put,lS,lZ,lC];have e:b=false:=by rw[<-hb_.out];unfold fewb;simp[g15]
   subst e
   go_wp2_with fail
   exact bodyPost_ret (v:=.bool false) (by simp[results,Try.results8,go_sem]) rfl (a_s rfl (zup HZ.out B2))
  ·skip
   refine Run.start 17 ?_;refine .fa .o (fM0 0) ?_;refine .ld (.i 0) (ldInt b3 0) ?_;refine .mv .o ?_;refine .two (.i 1) (.i 2) (opLe (decide_eq_true g10)) ?_;refine .mv (.i 3) ?_;refine .fa .o (fM1 1) ?_;refine .ld (.i 5) (ldInt b3 1) ?_;refine .mv .o ?_;refine .two (.i 6) (.i 7) (opLe (decide_eq_true g15)) ?_;refine .pk (.i 4) (.i 8) true ?_;refine .mv (.i 9) ?_;refine .fa .o (fM2 2) ?_;refine .ld (.i 11) (ldSl b3 2) ?_;refine .mv .o ?_;refine .c3 (.i 12) .o (.i 13) (x:=.k (.bool t)) (by rintro u v x w2 hB rfl rfl rfl;exact(l_3 (hx.below (zup HZ.out hB)) (by omega) hW' ht_.out).mono fun e w' h=>⟨_,h.1,rfl,h.2⟩) ?_;refine .pk (.i 10) (.i 14) true ?_;refine .mv (.i 15) ?_;refine .donep [some 7,some 8,some 9,some 10,some 11,some 12,some 13,some 14,some 15,some 16,some 17,some 18,some 19,some 20,some 21,some 22,some 6] ?_;intro w2 B2;refine sh [] ?_;simp only[Act.put,lS,lZ,lC];have e:b=t:=by rw[<-hb_.out,<-ht_.out];unfold fewb;simp[g10,g15]
   subst e
   go_wp2_with fail
   exact bodyPost_ret (v:=.bool b) (by simp[results,Try.results8,go_sem]) rfl (a_s rfl (zup HZ.out B2))
end
section
open Go.RowKit
section
variable {ops:Array Oper}{Q:Exit->Act->World->Prop}{m:Nat}{a0 a:Act}{w0 w:World}{b:Bool}{id:Nat}
end
section
variable {w:World}{g h:Nat}{T:TypeId}{cs:List Value}{s t:Bool}{A B:Option Addr}{n c m d e:Nat}{r c' x y z:Int}
theorem Bx.mo {c:Int}{n d:Nat}(b:Bx w h T cs)(hn:h≠g):Bx (mput w g r c A n d) h T cs:=((b.off hn _ _).off hn _ _).off hn _ _
theorem Bx.mp {c:Int}{n d:Nat}(b:Bx w g 24 [.int .i64 x,.int .i64 y,.slice B m e]):Bx (mput w g r c A n d) g 24 [.int .i64 r,.int .i64 c,.slice A n d]:=((b.set 0 _).set 1 _).set 2 _
theorem zeroM (h:w.heap[g]? =some (zeroObj 24)):Bx w g 24 [.int .i64 0,.int .i64 0,.slice none 0 0]:=h.trans (congrArg some (by kernel_rfl))
end
def IsIJ (xs:List Int):FVal:=fun v w=>∃g,v= .slice (some ⟨g,0,none⟩) xs.length xs.length/\Il w (some ⟨g,0,none⟩) xs.length xs.length xs
def kIJ (xs:List Int):FK:=.f (IsIJ xs) (fun v w w' ⟨g,e,h⟩ hb=>⟨g,e,h.below hb⟩)
def okBsJ (ops:Array Oper)(m i:Nat)(ss:List Src):Bool:=okH ops m i&&(match(opAt ops i).op with| .buildSlice T n xs=>T==82&&n==ss.length&&xs.toList.map (·.1)==List.range ss.length&&okSrcs ops m i (xs.toList.map (·.2)) ss|_=>false)
theorem l_0 {w:World}{x y z u:Int}:(Instr.buildSlice 82 4 #[(0,.int .i64 x),(1,.int .i64 y),(2,.int .i64 z),(3,.int .i64 u)]).run Try.prog w= .ok (.slice (some ⟨w.heap.size,0,none⟩) 4 4) (w.alloc (.cells #[.int .i64 x,.int .i64 y,.int .i64 z,.int .i64 u] 2)):=by kernel_rfl
theorem Run.bsJ4 {ops:Array Oper}{Q:Exit->Act->World->Prop}{m i:Nat}{a0:Act}{w0:World}{l:List FK}{b:Bool}{id:Nat}(s t p q:Src){x y z u:Int}(hb:∀v,v∈[x,y,z,u]-> -9223372036854775808<=v/\v<=9223372036854775807)(rest:R ops Q m a0 w0 b id (kIJ [x,y,z,u]::l) (i+1))(hx:srcsK l i a0 (bsL (opAt ops i).op) [s,t,p,q] [.int .i64 x,.int .i64 y,.int .i64 z,.int .i64 u]:=by exact⟨rfl,rfl,rfl,rfl,trivial⟩)(hc:okBsJ ops m i [s,t,p,q]=true:=by kernel_rfl)(hg:Gd l i (opAt ops i):=by first|exact trivial|exact rfl):R ops Q m a0 w0 b id l i:=by
 unfold okBsJ at hc;rw[Bool.and_eq_true]at hc;obtain⟨h1,h2⟩:=hc;refine Run.mem (x:=kIJ [x,y,z,u]) (fun a w h=>?_) rest (FK.fne _) h1 hg;split at h2
 ·rename_i T n xs e;rw[e]at hx;simp only[Bool.and_eq_true,beq_iff_eq]at h2;obtain⟨⟨⟨rfl,rfl⟩,h3⟩,h4⟩:=h2;have hv:=h.srcs h4 hx;have hp:(xs.map fun(i,y)=>(i,a.eval y))= #[(0,.int .i64 x),(1,.int .i64 y),(2,.int .i64 z),(3,.int .i64 u)]:=by
   obtain⟨ys⟩:=xs;match ys,h3,hv with
   | [(k0,x0),(k1,x1),(k2,x2),(k3,x3)],h3,hv=>
    have h3':[k0,k1,k2,k3]=[0,1,2,3]:=h3;have hv':[a.eval x0,a.eval x1,a.eval x2,a.eval x3]=[.int .i64 x,.int .i64 y,.int .i64 z,.int .i64 u]:=hv;simp only[List.cons.injEq,and_true]at h3' hv';simp[h3'.1,h3'.2.1,h3'.2.2.1,h3'.2.2.2,hv'.1,hv'.2.1,hv'.2.2.1,hv'.2.2.2]
  have B:=zba w (.cells #[.int .i64 x,.int .i64 y,.int .i64 z,.int .i64 u] 2);have b4:=Bx.new w 2 [.int .i64 x,.int .i64 y,.int .i64 z,.int .i64 u];refine⟨_,_, ?_,⟨w.heap.size,rfl,rfl,Nat.le_refl _,by show 4<=9223372036854775807;decide,fun _=>⟨_,rfl,b4.lt,fun j hj=>?_⟩,fun j hj=>?_⟩,B⟩
  ·unfold execOp;rw[e];simp only[hp];simp[l_0]
  ·rw[b_d];refine(b4.cell j).trans ?_;match j,hj with
   |0,_=>rfl
   |1,_=>rfl
   |2,_=>rfl
   |3,_=>rfl
  ·match j,hj with
   |0,_=>exact hb x (by simp)
   |1,_=>exact hb y (by simp)
   |2,_=>exact hb z (by simp)
   |3,_=>exact hb u (by simp)
 ·cases h2
end
section
open Go.RowKit
def mf (R:List Zr)(c:Nat):Nat->Nat->Int:=fun i j=>ith (nums R) (i*c+j)
theorem s_a {R:List Zr}{r c n:Nat}(hl:R.length=n)(hn:n=r*c):mk r c (mf R c)=nums R:=r_9 (by unfold nums;rw[List.length_map,hl,hn])
theorem g_r {r c:Int}{R:List Zr}{N W:Nat}(h:fewb r c R N W=true):r<=N/\c<=N/\Fw R 100 W:=by
 unfold fewb at h;simp only[Bool.and_eq_true,decide_eq_true_eq]at h;exact⟨h.1.1,h.1.2,r_e h.2⟩
theorem RL.few {w:World}{A:Option Addr}{n d:Nat}{R:List Zr}{r c:Int}{N W:Nat}(h:RL w A n d R)(hw:fewb r c R N W=true):ZL false w A n d W (nums R):=
 h.zl fun j hj=>r_m (g_r hw).2.2 (by omega) j (by rw[h.len];exact hj)
theorem RL.mt {w:World}{A:Option Addr}{n d:Nat}{R:List Zr}{r c:Int}{N W:Nat}(h:RL w A n d R)(hf:fmd r c n=true)(hw:fewb r c R N W=true):∃r' c':Nat,r=r'/\c=c'/\r'<=N/\c'<=N/\n=r'*c'/\Mt false w r' c' A n d W (mf R c'):=by
 unfold fmd at hf;simp only[Bool.and_eq_true,decide_eq_true_eq]at hf;obtain⟨⟨h1,h2⟩,h3⟩:=hf;obtain⟨a1,a2⟩:=l_u h1;obtain⟨b1,b2⟩:=l_u h2;obtain⟨e1,e2,_⟩:=g_r hw;obtain⟨r',rfl⟩:=Int.eq_ofNat_of_zero_le a1;obtain⟨c',rfl⟩:=Int.eq_ofNat_of_zero_le b1;have hn:n=r'*c':=by
  have:(n:Int)=((r'*c':Nat):Int):=by rw[h3];simp
  omega
 refine⟨r',c',rfl,rfl,by omega,by omega,hn, ?_,by omega,by omega⟩;rw[s_a h.len hn];exact h.few hw
end
end Go.Proofs.Ytlgjjnmmepgafaa
