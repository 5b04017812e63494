/- PmX10 -/
import Derived.Test.YtkgghhklbbfdiaaGreatPmX04
import Derived.Test.YtkgghhklbbfdiaaGreatPmX07
import Derived.IntWalk
import Derived.RegionTactic
import Derived.BigRegion
set_option linter.unusedVariables false
set_option linter.unusedSimpArgs false
set_option linter.unusedSectionVars false
set_option maxRecDepth 100000
set_option maxHeartbeats 8000000
namespace Go.Proofs.YtkgghhklbbfdiaaGreat
section
open Go.RowKit
section
variable {w w':World}{g h:Nat}{T U:TypeId}{cs ds:List Value}
end
section
variable {g o:Nat}
end
section
variable {x y r:Int}{T:TypeId}{b:Bool}{X Y:Operand}{U:TypeId}
theorem opSub (h:x - y=r)(h1:-9223372036854775808≤r)(h2:r≤9223372036854775807)(w:World):RunTwo Tryz.prog (.binOp .sub T X Y U) w (.int .i64 x) (.int .i64 y) (.int .i64 r):=by unfold RunTwo;subst h;simp[go_sem,IntWalk.i64_in _ ⟨h1,h2⟩]
end
end
section
open Go.RowKit
theorem x_2 {A B:Option Addr}{n c m d k:Nat}{s t:Bool}{N D:Int}{w:World}(hn:Zv w s A n c N)(hd:Zv w t B m d D)(hnk:n≤k)(hmk:m≤k)(h1:1≤k)(hk:k≤1073741824):
  Calls Tryz.prog 76 #[.agg #[.bool s,.slice A n c,.bool t,.slice B m d]] w (QPost (-Rat.divInt N D) k w):=by
 rw[Rat.neg_divInt];obtain⟨w1,hw1,b2,b4,z1,z2⟩:=boxes2 w 46 46 [.bool s,.slice A n c,.bool t,.slice B m d] [.bool false,.slice none 0 0,.bool false,.slice none 0 0];have HW:=Lib.hid hw1;have HZ:=Lib.hid z1;replace hn:=hn.below z1;replace hd:=hd.below z1;clear hw1 z1;go_enter Tryz.func76,Tryz.ntmps76
 go_upto_region 1 with fail
 rw[HW.out];refine Run.start 6 ?_;refine .fa .o (fR0 0) ?_;refine .ld (.i 0) (ldZ b2 0) ?_;refine .c1 (.i 1) (x:=kC (-N) n) (by rintro _ w2 hB rfl;exact o_l ⟨_,_,_,_,rfl,hn.below hB,Nat.le_refl _⟩ (by omega)) ?_;refine .fa .o (fR1 2) ?_;refine .ld (.i 3) (ldZ b2 2) ?_;refine .c2 (.i 2) (.i 4) (x:=kQ (Rat.divInt (-N) D) k) (by rintro _ _ w2 hB h2 rfl;exact d_8 h2.v ⟨_,_,_,_,rfl,hd.below hB,hmk⟩ hnk (Nat.le_refl _) h1 (by omega)) ?_;refine .done [some 3,some 4,some 5,some 6,some 7,some 8] ?_;intro w2 B2;rintro _ -;rintro _ ⟨s1,A1,n1,c1,t1,B1,m1,d1,rfl,hq,g1,g2⟩;change Shut (wpList _ _ _ [_] _ _);refine⟨?_⟩;simp only[Act.put,lS,lZ,lC];have b5:=(b4.below B2).rb;have P:=Lib.hid (qfin (w:=w) (k:=k) hq b5 g1 g2 (by omega) (zup HZ.out B2));obtain⟨r1,r2,r3,r4,r5,r6,r7,r8,r9⟩:=b5;unfold rput at P;clear B2 hq b2 b4 HZ HW
 go_wp2_with fail
 exact bodyPost_ret (v:=(.agg #[.bool s1,.slice A1 n1 c1,.bool t1,.slice B1 m1 d1])) (by simp[results,Tryz.results76,go_sem,r1,r2,r3,r4]) rfl P.out
end
section
open Go.RowKit
section
variable {w w':World}{g:Nat}{s t s' t' s0 t0 u v:Bool}{A B A' B' A0 B0 C D':Option Addr}{n c m d n' c' m' d' n0 c0 m0 d0 l e' f' h' k:Nat}{p q:Rat}
theorem neg_q (ha:Qv w s A n c t B m d p)(k:Nat)(hnk:n≤k)(hmk:m≤k)(h1:1≤k)(hk:k≤1073741824):
  Calls Tryz.prog 76 #[.agg #[.bool s,.slice A n c,.bool t,.slice B m d]] w (QPost (-p) k w):=by
 obtain⟨N,D,a1,a2,a3⟩:=ha;rw[←a3.out];exact x_2 a1 a2 hnk hmk h1 hk
end
end
section
open Go.RowKit
section
variable {u v:Value}{x y:Rat}{n m K:Nat}{w:World}
theorem x_3 (k:Nat)(hx:IsQv x n u w)(hn:n≤k)(h1:1≤k)(hk:k≤1073741824)(hK:k≤K):Calls Tryz.prog 76 #[u] w (RetK (kQ (-x) K) w):=by
 obtain⟨s,A,a,c,t,B,b,d,rfl,g1,g2,g3⟩:=hx;exact(neg_q g1 k (by omega) (by omega) h1 hk).mono fun e w' h=>h.q hK
end
section
variable {q:Bool}{w w':World}{r c n d k k':Nat}{A:Option Addr}{F G:Nat→Nat→Rat}
end
end
section
open Go.RowKit
def ilist (xs:List Int):List Value:=xs.map (.int .i64 ·)
def IsIL (b:Nat)(xs:List Int):FVal:=fun v w=>∃g,v= .slice (some ⟨g,0,none⟩) xs.length xs.length∧Bx w g 3 (ilist xs)∧b≤g
def kIL (b:Nat)(xs:List Int):FK:=.f (IsIL b xs) (fun v w w' ⟨g,e,h1,h2⟩ hb=>⟨g,e,h1.below hb,h2⟩)
def okBsI (ops:Array Oper)(m i:Nat)(ss:List Src):Bool:=okH ops m i&&(match(opAt ops i).op with| .buildSlice T n xs=>T==27&&n==ss.length&&xs.toList.map (·.1)==List.range ss.length&&okSrcs ops m i (xs.toList.map (·.2)) ss|_=>false)
theorem r_o {w:World}{x y:Int}:(Instr.buildSlice 27 2 #[(0,.int .i64 x),(1,.int .i64 y)]).run Tryz.prog w= .ok (.slice (some ⟨w.heap.size,0,none⟩) 2 2) (w.alloc (.cells #[.int .i64 x,.int .i64 y] 3)):=by kernel_rfl
theorem r_p {w:World}{x:Int}:(Instr.buildSlice 27 1 #[(0,.int .i64 x)]).run Tryz.prog w= .ok (.slice (some ⟨w.heap.size,0,none⟩) 1 1) (w.alloc (.cells #[.int .i64 x] 3)):=by kernel_rfl
section
variable {ops:Array Oper}{Q:Exit→Act→World→Prop}{m i:Nat}{a0:Act}{w0:World}{l:List FK}{b:Bool}{id:Nat}
theorem Run.bsI2 (s t:Src){x y:Int}{b0:Nat}(hb0:b0≤w0.heap.size)(rest:R ops Q m a0 w0 b id (kIL b0 [x,y]::l) (i+1))(hx:srcsK l i a0 (bsL (opAt ops i).op) [s,t] [.int .i64 x,.int .i64 y]:=by exact⟨rfl,rfl,trivial⟩)(hc:okBsI ops m i [s,t]=true:=by kernel_rfl)(hg:Gd l i (opAt ops i):=by first|exact trivial|exact rfl):R ops Q m a0 w0 b id l i:=by
 unfold okBsI at hc;rw[Bool.and_eq_true]at hc;obtain⟨h1,h2⟩:=hc;refine Run.mem (x:=kIL b0 [x,y]) (fun a w h=>?_) rest (FK.fne _) h1 hg;split at h2
 ·rename_i T n xs e;rw[e]at hx;simp only[Bool.and_eq_true,beq_iff_eq]at h2;obtain⟨⟨⟨rfl,rfl⟩,h3⟩,h4⟩:=h2;have hv:=h.srcs h4 hx;have hp:(xs.map fun(i,y)=>(i,a.eval y))= #[(0,.int .i64 x),(1,.int .i64 y)]:=by
   obtain⟨ys⟩:=xs;match ys,h3,hv with
   | [(k0,x0),(k1,x1)],h3,hv=>
    have h3':[k0,k1]=[0,1]:=h3;have hv':[a.eval x0,a.eval x1]=[.int .i64 x,.int .i64 y]:=hv;simp only[List.cons.injEq,and_true]at h3' hv';simp[h3'.1,h3'.2,hv'.1,hv'.2]
  have B:=zba w (.cells #[.int .i64 x,.int .i64 y] 3);refine⟨_,_, ?_,⟨w.heap.size,rfl,Bx.new w _ [.int .i64 x,.int .i64 y],Nat.le_trans hb0 h.below.size⟩,B⟩;unfold execOp;rw[e];simp only[hp];simp[r_o]
 ·cases h2
theorem Run.bsI1 (s:Src){x:Int}{b0:Nat}(hb0:b0≤w0.heap.size)(rest:R ops Q m a0 w0 b id (kIL b0 [x]::l) (i+1))(hx:srcsK l i a0 (bsL (opAt ops i).op) [s] [.int .i64 x]:=by exact⟨rfl,trivial⟩)(hc:okBsI ops m i [s]=true:=by kernel_rfl)(hg:Gd l i (opAt ops i):=by first|exact trivial|exact rfl):R ops Q m a0 w0 b id l i:=by
 unfold okBsI at hc;rw[Bool.and_eq_true]at hc;obtain⟨h1,h2⟩:=hc;refine Run.mem (x:=kIL b0 [x]) (fun a w h=>?_) rest (FK.fne _) h1 hg;split at h2
 ·rename_i T n xs e;rw[e]at hx;simp only[Bool.and_eq_true,beq_iff_eq]at h2;obtain⟨⟨⟨rfl,rfl⟩,h3⟩,h4⟩:=h2;have hv:=h.srcs h4 hx;have hp:(xs.map fun(i,y)=>(i,a.eval y))= #[(0,.int .i64 x)]:=by
   obtain⟨ys⟩:=xs;match ys,h3,hv with
   | [(k0,x0)],h3,hv=>
    have h3':[k0]=[0]:=h3;have hv':[a.eval x0]=[.int .i64 x]:=hv;simp only[List.cons.injEq,and_true]at h3' hv';simp[h3',hv']
  have B:=zba w (.cells #[.int .i64 x] 3);refine⟨_,_, ?_,⟨w.heap.size,rfl,Bx.new w _ [.int .i64 x],Nat.le_trans hb0 h.below.size⟩,B⟩;unfold execOp;rw[e];simp only[hp];simp[r_p]
 ·cases h2
end
end
section
namespace RT
attribute [local instance] rdvd
open DT (Inc)
variable {α:Type}[CR α]
variable[Dom α]
attribute [local simp] a_d a_h a_o a_g a_f a_l a_m
variable {R C:Nat}{M N H K:Mx α}{u v:Nat→α}
theorem rk_le_C:rk R C M≤C:=by rw[←rk_T];exact rk_le_R
end RT
end
section
namespace RT
attribute [local instance] rdvd
open DT (Inc)
variable {α:Type}[CR α]
variable[Fld α]
attribute [local simp] a_d a_h a_o a_g a_f a_l a_m
variable {R C:Nat}{M N H K A:Mx α}{u v:Nat→α}{p q:List Nat}
def ker (p:List Nat)(M:Mx α)(f:Nat):Nat→α:=fun c=>(if c=f then 1 else 0) - sumN p.length fun r=>(if p.getD r 0=c then 1 else 0)*M r f
theorem RedOf.ker (h:RedOf R C A M p){f i:Nat}(hf:f<C)(hi:i<R):sumN C (fun c=>A i c*RT.ker p M f c)=0:=by
 unfold RT.ker;rw[sum_ext (g:=fun c=>A i c*(if c=f then 1 else 0) - A i c*sumN p.length fun r=>(if p.getD r 0=c then 1 else 0)*M r f) fun c hc=>by grind,e_k];rw[i_i (f:=fun r=>p.getD r 0) h.shape.inc (A i) fun r=>M r f,←h.hang hi hf];rw[a_s hf fun k hk hne=>by rw[if_neg hne];simp,if_pos rfl];grind
theorem ker_off {f c:Nat}(h:¬c∈p):ker p M f c=if c=f then 1 else 0:=by
 unfold ker;rw[a_7 fun r hr=>by rw[if_neg fun e=>h (by rw[←e,List.getD_eq_getElem?_getD,List.getElem?_eq_getElem hr];exact List.getElem_mem hr)];simp];simp
end RT
end
section
open Go.RowKit
theorem y_u {ps:List Nat}{n c x:Nat}{A:Option Addr}{w:World}(hn:ps.length=n)(hl:n≤4096)(hI:0<n→∃g,A=some ⟨g,0,none⟩∧g<w.heap.size∧∀j u,(ints ps)[j]? =some u→w.cell? ⟨g,j,none⟩=some u):Calls Tryz.prog 131 #[.slice A n c,.int .i64 (x:Int)] w (RetK (.k (.bool (decide (x∈ps)))) w):=by
 obtain⟨p,hp⟩:∃p,(decide (x∈ps))=p:=⟨_,rfl⟩;have HP:=Lib.hid hp;rw[hp];clear hp;go_enter Tryz.func131,Tryz.ntmps131
 go_wp2_with fail
 refine(idx_q hn hl hI).mono ?_;rintro e w2 ⟨v,rfl,⟨z,rfl,hz⟩,B⟩;rw[HP.out]at hz;have P:Hid (RetK (.k (.bool p)) w (.returned (.bool p)) w2):=Lib.hid ⟨_,rfl,rfl,B⟩;cases p
 ·have u1:¬(0:Int)≤z:=of_decide_eq_false hz;clear hz B HP
  go_wp2_with fail
  exact bodyPost_ret (v:=.bool false) (by simp[results,Tryz.results131,go_sem];try exact u1) rfl P.out
 ·have u1:(0:Int)≤z:=of_decide_eq_true hz;clear hz B HP
  go_wp2_with fail
  exact bodyPost_ret (v:=.bool true) (by simp[results,Tryz.results131,go_sem]) rfl P.out
section
variable {ops:Array Oper}{Q:Exit→Act→World→Prop}{m i:Nat}{a0:Act}{w0:World}{l:List FK}{b:Bool}{id:Nat}
end
end
section
open Go.RowKit
def nop (ps:List Nat)(k:Nat):List Nat:=(List.range k).filter fun x=> !decide (x∈ps)
theorem i_z {ps:List Nat}{k:Nat}(h:k∈ps):nop ps (k+1)=nop ps k:=by simp[nop,List.range_succ,h]
theorem h_u {ps:List Nat}{k:Nat}(h:¬k∈ps):nop ps (k+1)=nop ps k++[k]:=by simp[nop,List.range_succ,h]
theorem p_u (ps:List Nat)(k:Nat):(nop ps k).length≤k:=by have:=List.length_filter_le (fun x=> !decide (x∈ps)) (List.range k);simp at this;exact this
def IsIo (b:Nat)(l:List Nat):FVal:=fun v w=>OwnI w b 3 v l.length (ints l)
def kIo (b:Nat)(l:List Nat):FK:=.f (IsIo b l) (fun v w w' h hb=>OwnI.below h hb)
theorem s_y (l:List Nat)(k:Nat):ints l++[.int .i64 (k:Int)]=ints (l++[k]):=by simp[ints]
theorem OwnI.up {w0 w w':World}{base n:Nat}{e:TypeId}{v v':Value}{xs:List Value}(h:OwnI w base e v n xs)(hb:Below w0.heap.size w0 w)(hG:Grew w w' v v')(h0:w0.heap.size≤base):Below w0.heap.size w0 w':=g_6 hb hG fun g hg=>Nat.le_trans h0 (h.lt hg).1
theorem s_f {A A1:Option Addr}{c K3 b g H R C E Ka Kb n1 c1:Nat}{ys:List Rat}{M:Nat→Nat→Int}{ps:List Nat}{h:Int}{s sa:Bool}{vp:Value}{rows:List Value}{w:World}(r:RAt (qmX A c K3 ys) b w g H R C Ka (fun _=>Kb) M ps h s vp sa A1 n1 c1 rows)(hP:ps.length≤64)(hE:E≤4096):Calls Tryz.prog 75 #[.pointer (some ⟨g,0,none⟩),.int .i64 (E:Int)] w (RetK (kIo w.heap.size (nop ps E)) w):=by
 obtain⟨Ap,cp,rfl⟩:=r.vpf;obtain⟨Ap',cp',e,-,-,hI⟩:=r.own.form;injection e with e1 e2 e3
 subst e1 e3;have bx:=r.bx;obtain⟨n,hn⟩:∃n,ps.length=n:=⟨_,rfl⟩;rw[hn]at bx hP;have HN:=Lib.hid hn;have HI:Hid (∀w',Below w.heap.size w w'→0<n→∃g,Ap=some ⟨g,0,none⟩∧g<w'.heap.size∧∀j u,(ints ps)[j]? =some u→w'.cell? ⟨g,j,none⟩=some u):=Lib.hid fun w' hB h0=>by
  obtain⟨g,h1,h2,h3⟩:=hI (by omega);exact⟨g,h1,by have:=hB.size;omega,fun j u hu=>(hB.cell (p:=⟨g,j,none⟩) h2).trans (h3 j u hu)⟩
 have H0:Hid (Below w.heap.size w w∧OwnI w w.heap.size 3 (.slice none 0 0) (nop ps 0).length (ints (nop ps 0))):=Lib.hid ⟨Below.refl _ _,OwnI.nil _ _ _⟩;have BX:=Lib.hid bx;clear hn hI r e2 bx;go_enter Tryz.func75,Tryz.ntmps75
 go_wp2_with fail
 go_loopw [8,5] (fun s8 s5 wr=>∃(j:Nat) (vt:Value),s8= .int .i64 (j:Int)∧vt=s5∧j≤E∧Hid (Below w.heap.size w wr∧OwnI wr w.heap.size 3 vt (nop ps j).length (ints (nop ps j)))) (fun s8 _ _=>E - (intOf s8).toNat)
 case atStart=>exact⟨0,_,rfl,rfl,Nat.zero_le _,H0⟩
 case round=>
  clear H0;obtain⟨j,vt,rfl,rfl,hj,HB⟩:=hrel;by_cases hlt:j<E
  ·have u2:(j:Int)<(E:Int):=by omega
   obtain⟨B0,ho⟩:=HB.out;have bx:=BX.out.below B0;clear HB;by_cases hin:j∈ps
   ·go_upto_region 5 with fail
    refine Run.start 8 ?_;refine .mv .o ?_;refine .nc (.i 0) ?_;refine .fa (.i 1) (fW0 0) ?_;refine .fa (.i 2) (fE1 1) ?_;refine .ld (.i 3) (ldIs bx 1) ?_;refine .mv .o ?_;refine .c2 (.i 4) (.i 5) (x:=.k (.bool true)) (by rintro u v w4 hB rfl rfl;have h1:=y_u (x:=j) (c:=cp) HN.out (by omega) (HI.out w4 (zup B0 hB));rw[decide_eq_true hin]at h1;exact h1) ?_;refine .nt (.i 6) ?_;refine .donep [some 11,some 12,some 13,some 14,some 15,some 16,some 17,some 18] ?_;intro w3 B3;change Shut (wpList _ _ _ [] _ _);refine⟨?_⟩;simp only[Act.put,lS,lZ,lC];replace B0:=zup B0 B3;replace ho:=ho.below B3;clear B3 bx;have HS:Hid (Below w.heap.size w w3∧OwnI w3 w.heap.size 3 vt (nop ps (j+1)).length (ints (nop ps (j+1)))):=Lib.hid ⟨B0,by rw[i_z hin];exact ho⟩;clear B0 ho
    go_wp2_with fail
    go_roundw
    case rel=>exact⟨j+1,_,by go_num,rfl,by omega,HS⟩
    case measure=>first|(simp[intOf];done)|(simp[intOf];omega)
   ·go_upto_region 5 with fail
    refine Run.start 8 ?_;refine .mv .o ?_;refine .nc (.i 0) ?_;refine .fa (.i 1) (fW0 0) ?_;refine .fa (.i 2) (fE1 1) ?_;refine .ld (.i 3) (ldIs bx 1) ?_;refine .mv .o ?_;refine .c2 (.i 4) (.i 5) (x:=.k (.bool false)) (by rintro u v w4 hB rfl rfl;have h1:=y_u (x:=j) (c:=cp) HN.out (by omega) (HI.out w4 (zup B0 hB));rw[decide_eq_false hin]at h1;exact h1) ?_;refine .nf (.i 6) ?_;refine .donep [some 11,some 12,some 13,some 14,some 15,some 16,some 17,some 18] ?_;intro w3 B3;change Shut (wpList _ _ _ [] _ _);refine⟨?_⟩;simp only[Act.put,lS,lZ,lC];replace B0:=zup B0 B3;replace ho:=ho.below B3;clear B3 bx;go_upto_region 6 with fail
    refine Run.start 3 ?_;refine .mv .o ?_;refine .mv .o ?_;refine .bsI1 (.i 1) (x:=(j:Int)) (b0:=w3.heap.size) (Nat.le_refl _) ?_;refine .donep [some 19,some 20,some 21] ?_;intro w4 B4;rintro v ⟨gx,rfl,bg,hge⟩;change Shut (wpList _ _ _ [_,_] _ _);refine⟨?_⟩;simp only[Act.put,lS,lZ,lC];replace B0:=zup B0 B4;replace ho:=ho.below B4;have hlen:=p_u ps j;have hb1:=B0.size;replace bg:Bx w4 gx 3 [.int .i64 (j:Int)]:=bg;have hnw:NWd (.int .i64 (j:Int)):=fun m e=>by cases e
    have hz0:∀u,u∈(Value.int .i64 0).cells.toList→NWd u:=by
     intro u hu m e;subst e;simp[Value.cells]at hu
    clear B4
    go_wp2_with (at_builtin;refine n_n rfl _ _ 27 rfl w.heap.size 3 8 (.int .i64 0) Tryz.underlying27 info_int' rfl hz0 (by omega) vt _ (ints (nop ps j)) rfl ho bg rfl hnw rfl (by omega) hb1 ?_)
    intro v5 w5 ho5 hG;rw[s_y]at ho5;have HS:Hid (Below w.heap.size w w5∧OwnI w5 w.heap.size 3 v5 (nop ps (j+1)).length (ints (nop ps (j+1)))):=Lib.hid ⟨ho.up B0 hG (Nat.le_refl _),by rw[h_u hin,List.length_append];exact ho5⟩;clear B0 ho ho5 hG bg hge hlen hb1 hnw hz0
    go_wp2_with fail
    go_roundw
    case rel=>exact⟨j+1,_,by go_num,rfl,by omega,HS⟩
    case measure=>first|(simp[intOf];done)|(simp[intOf];omega)
  ·obtain rfl:j=E:=by omega
   have u2:¬(j:Int)<(j:Int):=by omega
   have P:Hid (RetK (kIo w.heap.size (nop ps j)) w (.returned vt) wr):=Lib.hid ⟨_,rfl,HB.out.2,HB.out.1⟩;clear HB
   go_wp2_with fail
   exact bodyPost_ret (v:=vt) (by simp[results,Tryz.results75,go_sem]) rfl P.out
end
section
namespace RT
attribute [local instance] rdvd
attribute [local simp] a_d a_h a_o a_g a_f a_l a_m
open DT (Inc)
section
variable {R C S:Nat}{A B M:Mx Rat}{p:List Nat}
theorem rdP_leC (R C:Nat)(A:Mx Rat):(rdP R C A).length≤C:=rk_le_C
theorem rdP_inc (R C:Nat)(A:Mx Rat):Inc (rdP R C A).length C fun r=>(rdP R C A).getD r 0:=(rd_of R C A).shape.inc
noncomputable def kerM (p:List Nat)(M:Mx Rat)(l:List Nat):Mx Rat:=fun c k=>RT.ker p M (l.getD k 0) c
end
end RT
end
section
open Go.RowKit
theorem r_2 {q:Bool}{r c n d k:Nat}{A:Option Addr}{F:Nat→Nat→Rat}{w:World}(ha:Mq q w r c A n d k F)(hF:∀i j,i<r→j<c→F i j=0)(hk:k≤1073741824):Calls Tryz.prog 30 #[.agg #[.int .i64 (r:Int),.int .i64 (c:Int),.slice A n d]] w (RetK (.k (.bool true)) w):=by
 have h1:=ha.fmd;have hn:=ha.len;have hnd:=ha.ql.le;have hdm:=ha.ql.cap;have HX:=Lib.hid ha;have HN:=Lib.hid hn;clear hn;have HF:Hid (∀j,j<n→rth (qmk r c F) j=0):=Lib.hid fun j hj=>by
  obtain⟨h1,h2,h3⟩:=m_x (r:=r) (c:=c) (by rw[←HN.out];exact hj);rw[←h3,h_s h1 h2,hF _ _ h1 h2]
 clear hF;obtain⟨w1,hw1,b1,z1,s1⟩:=boxes1 w 24 [.int .i64 (r:Int),.int .i64 (c:Int),.slice A n d];have HW:=Lib.hid hw1;have HZ:=Lib.hid z1;have h1_:=Lib.hid h1;clear hw1 z1 h1 ha;go_enter Tryz.func30,Tryz.ntmps30
 go_upto_region 1 with fail
 rw[HW.out];have HB:Hid (Below w.heap.size w w1∧Bx w1 (w.heap.size) 24 [.int .i64 (r:Int),.int .i64 (c:Int),.slice A n d]):=Lib.hid ⟨HZ.out,b1⟩;clear b1 HW HZ s1
 go_wp2_with fail
 go_loopw [3] (fun s3 wr=>∃j:Nat,s3= .int .i64 (j:Int)∧j≤n∧Hid (Below w.heap.size w wr∧Bx wr (w.heap.size) 24 [.int .i64 (r:Int),.int .i64 (c:Int),.slice A n d])) (fun s3 _=>n - (intOf s3).toNat)
 case atStart=>exact⟨0,rfl,Nat.zero_le _,HB⟩
 case round=>
  clear HB;obtain⟨j,rfl,hj,HB⟩:=hrel;obtain⟨B0,b1⟩:=HB.out;clear HB;have i2:=b1.cell 2;simp only[List.getElem?_cons_succ,List.getElem?_cons_zero]at i2;by_cases hlt:j<n
  ·have u2:(j:Int)<(n:Int):=by omega
   obtain⟨ad,rfl,hab,hA⟩:=(HX.out.ql.below B0).at hlt;obtain⟨s_,A_,n_,c_,t_,B_,m_,d_,e0,e1,e2,e3,ze,hk1,hk2⟩:=hA;go_upto_region 4 with fail
   clear i2;refine Run.start 7 ?_;refine .fa .o (fQ2 2) ?_;refine .ld (.i 0) (ldQl b1 2) ?_;refine .mv .o ?_;refine .two (.i 1) (.i 2) (opIxQ hlt) ?_;refine .ld (.i 3) (ldQ (by rw[a_b];exact hab) e0 e1 e2 e3) ?_;refine .c1 (.i 4) (x:=.k (.int .i64 0)) (by rintro u w2 hB rfl;exact g_w k ((ze.1.is hk1 hk2).below' hB) (Nat.le_refl _) hk (by rw[HF.out j hlt];rfl)) ?_;refine .two (.i 5) .o (opNe (by decide:decide ((0:Int)≠0)=false)) ?_;refine .donep [some 11,some 12,some 13,some 14,some 15,some 16,some 17] ?_;intro w2 B2;change Shut (wpList _ _ _ [] _ _);refine⟨?_⟩;simp only[Act.put,lS,lZ,lC];have HN2:Hid (Below w.heap.size w w2∧Bx w2 (w.heap.size) 24 [.int .i64 (r:Int),.int .i64 (c:Int),.slice (some ad) n d]):=Lib.hid ⟨zup B0 B2,b1.below B2⟩;clear b1 B0 B2 e0 e1 e2 e3 ze
   go_wp2_with fail
   go_roundw
   case rel=>exact⟨j+1,by go_num,by omega,HN2⟩
   case measure=>first|(simp[intOf];done)|(simp[intOf];omega)
  ·obtain rfl:j=n:=by omega
   have u2:¬(j:Int)<(j:Int):=by omega
   go_wp2_with fail
   exact bodyPost_ret (v:=.bool true) (by simp[results,Tryz.results30,go_sem]) rfl (a_9 rfl B0)
end
section
open Go.RowKit
theorem kq_5:∀R,R<6→∀C,C<6→kb (kq1 R C 2) R≤549755813888∧kqf R C 2≤51129:=by decide+kernel
end
section
open Go.RowKit Go.Shelf
theorem nop_mem {ps:List Nat}{k x:Nat}:x∈nop ps k↔x<k∧¬x∈ps:=by simp[nop]
theorem g_2 (ps:List Nat){i:Nat}:∀ {k:Nat},i≤k→∃l,nop ps k=nop ps i++l∧∀x∈l,i≤x
 |0,h=>⟨[],by rw[show i=0 by omega];simp,by simp⟩
 |k+1,h=>by
  by_cases e:i=k+1
  ·subst e;exact⟨[],by simp,by simp⟩
  ·obtain⟨l,h1,h2⟩:=g_2 ps (i:=i) (k:=k) (by omega);by_cases hk:k∈ps
   ·exact⟨l,by rw[i_z hk,h1],h2⟩
   ·exact⟨l++[k],by rw[h_u hk,h1,List.append_assoc],fun x hx=>by
     rcases List.mem_append.1 hx with h3|h3
     ·exact h2 x h3
     ·rw[List.mem_singleton.1 h3];omega⟩
theorem y_f {ps:List Nat}{i k:Nat}(hi:i<k)(hn:¬i∈ps):(nop ps i).length<(nop ps k).length∧(nop ps k).getD (nop ps i).length 0=i:=by
 obtain⟨l,h1,-⟩:=g_2 ps (i:=i+1) (k:=k) hi;rw[h_u hn]at h1;rw[h1];simp[List.getD]
theorem y_e {ps:List Nat}{i k t:Nat}(hi:i<k)(hn:¬i∈ps)(ht:t<(nop ps k).length)(hne:t≠(nop ps i).length):(nop ps k).getD t 0≠i:=by
 obtain⟨l,h1,h2⟩:=g_2 ps (i:=i+1) (k:=k) hi;rw[h_u hn]at h1;rw[h1]at ht ⊢;by_cases h3:t<(nop ps i).length
 ·have e:(nop ps i++[i]++l).getD t 0=(nop ps i)[t]:=by
   rw[List.append_assoc];simp[List.getD,List.getElem?_append_left h3,h3]
  rw[e]
  have:=(nop_mem.1 (List.getElem_mem h3)).1;omega
 ·obtain⟨u,rfl⟩:∃u,t=(nop ps i).length+1+u:=⟨t - (nop ps i).length - 1,by omega⟩;have hu:u<l.length:=by simp at ht;omega
  have e:(nop ps i++[i]++l).getD ((nop ps i).length+1+u) 0=l[u]:=by
   have:(nop ps i++[i]).length≤(nop ps i).length+1+u:=by simp
   simp only[List.getD];rw[List.getElem?_append_right this];simp[hu]
  rw[e]
  have:=h2 _ (List.getElem_mem hu);omega
theorem k_c {ps:List Nat}{N:Nat}(hp:DT.Inc ps.length N fun r=>ps.getD r 0):∀k,∃m,m≤ps.length∧(nop ps k).length+m=k∧(∀r,r<m→ps.getD r 0<k)∧∀r,m≤r→r<ps.length→k≤ps.getD r 0
 |0=>⟨0,Nat.zero_le _,rfl,fun r h=>by omega,fun r _ _=>Nat.zero_le _⟩
 |k+1=>by
  obtain⟨m,h1,h2,h3,h4⟩:=k_c hp k;by_cases hk:k∈ps
  ·obtain⟨r,hr,e⟩:=List.getElem_of_mem hk;have e':ps.getD r 0=k:=by simp[List.getD,hr,e]
   have hmr:m≤r:=by
    rcases Nat.lt_or_ge r m with h|h
    ·have:=h3 r h;omega
    ·exact h
   have hrm:r=m:=by
    rcases Nat.lt_or_ge m r with h|h
    ·have h5:=RT.Inc.le_of hp h hr;have h6:=h4 m (Nat.le_refl _) (by omega);try simp only at h5
     omega
    ·omega
   subst hrm;refine⟨r+1,by omega,by rw[i_z hk];omega,fun x hx=>?_,fun x hx hl=>?_⟩
   ·rcases Nat.lt_or_ge x r with h|h
    ·have:=h3 x h;omega
    ·rw[show x=r by omega,e'];omega
   ·have h5:=RT.Inc.le_of hp (show r<x by omega) hl;try simp only at h5
    omega
  ·refine⟨m,h1,by rw[h_u hk,List.length_append,List.length_singleton];omega,fun x hx=>by have:=h3 x hx;omega,fun x hx hl=>?_⟩;have h5:=h4 x hx hl;have h6:ps.getD x 0≠k:=fun e=>hk (by rw[←e];exact d_x hl);omega
theorem v_5 {ps:List Nat}{N:Nat}(hp:DT.Inc ps.length N fun r=>ps.getD r 0):(nop ps N).length=N - ps.length:=by
 obtain⟨m,h1,h2,h3,h4⟩:=k_c hp N;have:m=ps.length:=by
  rcases Nat.lt_or_ge m ps.length with h|h
  ·have h5:=h4 m (Nat.le_refl _) h;have h6:=hp.lt m h;try simp only at h6
   omega
  ·omega
 omega
theorem i_0 {ps:List Nat}{N t:Nat}(ht:t<(nop ps N).length):(nop ps N).getD t 0<N∧¬(nop ps N).getD t 0∈ps:=nop_mem.1 (d_x ht)
theorem v_s {w:World}{b b' s n:Nat}{e:TypeId}{v:Value}{xs:List Value}(h:w.ownsRow b e s v n xs)(hb:b'≤b):w.ownsRow b' e s v n xs:=by
 refine⟨h.1, ?_⟩;rcases h.2 with h1|⟨g,cap,cur,h1,h2,h3⟩
 ·exact .inl h1
 ·exact .inr ⟨g,cap,cur,h1,Nat.le_trans hb h2,h3⟩
theorem w_d {ps:List Nat}{np N f a:Nat}{Mx:RT.Mx Rat}{y:Nat→Rat}(hnp:ps.length=np)(hp:DT.Inc np N fun r=>ps.getD r 0)(hf:¬f∈ps)(hy:∀r,r<np→y r= - Mx r f):(if a=f then((1:Int):Rat)else RT.pt (fun r=>ps.getD r 0) y np a)=RT.ker ps Mx f a:=by
 by_cases e:a=f
 ·subst e;rw[if_pos rfl,RT.ker_off hf,if_pos rfl];rfl
 ·rw[if_neg e,RT.pt_sum hp y a np (Nat.le_refl _)];unfold RT.ker;rw[if_neg e,hnp,RT.sum_ext (g:=fun r=>(-1:Rat)*((if ps.getD r 0=a then 1 else 0)*Mx r f)) fun r hr=>by rw[hy r hr];grind,RT.sum_mul];grind
theorem r_7 {q:Bool}{R C n d k KF:Nat}{A:Option Addr}{F:Nat→Nat→Rat}{w:World}(ha:Mq q w R C A n d k F)(hk0:1≤k)(hK:kb (kq1 R C k) R≤549755813888)(hKF:kqf R C k≤KF)(hKF2:KF≤1073741824):Calls Tryz.prog 29 #[.agg #[.int .i64 (R:Int),.int .i64 (C:Int),.slice A n d]] w (RetK (kT (kMw w.heap.size C (nop (RT.rdP R C F) C).length KF (RT.kerM (RT.rdP R C F) (RT.rdM R C F) (nop (RT.rdP R C F) C))) (.k (.int .i64 0))) w):=by
 have hR:=ha.hr;have hC:=ha.hc;have h1:=ha.fmd;obtain⟨Kx,hKx⟩:∃Kx,kb (kq1 R C k) (min R C)=Kx:=⟨_,rfl⟩;have hk1:kq1 R C k≤Kx:=by rw[←hKx];exact s_s
 obtain⟨K3,hK3⟩:∃K3,pc R (2*pc C k)=K3:=⟨_,rfl⟩;obtain⟨K1,hK1⟩:∃K1,kq1 R C k=K1:=⟨_,rfl⟩;have hf2:(R+2)*(Kx+R)+K3+Kx+1≤KF:=by unfold kqf at hKF;rw[hKx,hK3]at hKF;exact hKF
 have hb1:Kx+R≤(R+2)*(Kx+R):=Nat.le_mul_of_pos_left _ (by omega);rw[hK1]at hk1 hK hKx;have hK1b:K1≤1073741824:=by omega
 have hkf1:1≤KF:=by omega
 have hKxF:Kx≤KF:=by omega
 have hKS:Hid (pk C k+pk R (2*pc C k)=K1):=Lib.hid hK1;have HF2:=Lib.hid hf2;have HA:=Lib.hid ha;obtain⟨w1,hw1,b1,b2,z1,s1⟩:=boxes2 w 24 24 [.int .i64 (R:Int),.int .i64 (C:Int),.slice A n d] [.int .i64 0,.int .i64 0,.slice none 0 0];have HW:=Lib.hid hw1;have HZ:=Lib.hid z1;have h1_:=Lib.hid h1;have hK3_:=Lib.hid hK3;have hKx_:=Lib.hid hKx;clear hw1 z1 h1 hK3 hKx s1 hK1 ha hKF hf2 hb1;go_enter Tryz.func29,Tryz.ntmps29
 go_upto_region 1 with fail
 rw[HW.out];refine Run.start 3 ?_;refine .ld .o (ldQm b1 0) ?_;refine .c1 (.i 0) (x:=.k (.bool true)) (by rintro u w2 hB rfl;exact b_m h1_.out w2) ?_;refine .nt (.i 1) ?_;refine .donep [some 11,some 12,some 13] ?_;intro w2 B2;change Shut (wpList _ _ _ [] _ _);refine⟨?_⟩;simp only[Act.put,lS,lZ,lC];have B0:=zup HZ.out B2;replace b1:=b1.below B2;replace b2:=b2.below B2;have hl2:=b2.lt;clear B2 HZ;go_upto_region 3 with fail
 refine Run.start 6 ?_;refine .ld .o (ldQm b1 0) ?_;refine .fa .o (fQ0 0) ?_;refine .ld (.i 1) (ldInt b1 0) ?_;refine .bdM1 (.i 2) (x:=(R:Int)) ?_;refine .c2 (.i 0) (.i 3) (x:=kRq w2.heap.size R C 0 K1 K3 F (fun _ _=>0)) (by rintro u v w4 hB rfl rfl;exact(m_u (HA.out.below (zup B0 hB)) (p_v (G:=fun _ _=>0) (k:=k) hR) hk0 rfl rfl rfl hK3_.out rfl hKS.out hK hK1b).mono fun e w' h=>h.k.mono fun v w2 ⟨g,A,c,e,h1⟩=>⟨g,A,c,e,h1.low hB.size⟩) ?_;refine .mf (.i 4) ?_;refine .donep [some 15,some 16,some 17,some 18,some 19,some 4] ?_;intro w3 B3;rintro v19 -;rintro v4 ⟨g,Aq,cq,rfl,hrs⟩;change Shut (wpList _ _ _ [] _ _);refine⟨?_⟩;simp only[Act.put,lS,lZ,lC];replace B0:=zup B0 B3;replace b1:=b1.below B3;replace b2:=b2.below B3;clear B3;obtain⟨s,Gm,ps,M,hh,X,H,vp,sa,A1,n1,c1,rows,hr,hX,hnR,hnC,r⟩:=m_s hrs hKx_.out;obtain⟨Ap,cp,rfl⟩:=r.vpf;have bx:=r.bx;have HR:=Lib.hid r;have HRD:=Lib.hid hr;have HXC:=Lib.hid hX;obtain⟨np,hnp⟩:∃np,ps.length=np:=⟨_,rfl⟩;rw[hnp]at hnR hnC bx;have HNP:=Lib.hid hnp;obtain⟨nys,hnys⟩:∃nys,(qcs R C 0 F (fun _ _=>0)).length=nys:=⟨_,rfl⟩;change Bx w3 g 84 [.slice (some ⟨H,0,none⟩) R R,.slice Ap np cp,.bool sa,.slice A1 n1 c1,.bool s,.slice Aq (qcs R C 0 F (fun _ _=>0)).length cq]at bx;rw[hnys]at bx;clear hrs r hr hX hnp hnys;go_upto_region 4 with fail
 refine Run.start 5 ?_;refine .mv .o ?_;refine .fa .o (fQ1 1) ?_;refine .ld (.i 1) (ldInt b1 1) ?_;refine .c2 (.i 0) (.i 2) (x:=kIo w3.heap.size (nop ps C)) (by rintro u v w4 hB rfl rfl;exact(s_f (HR.out.below hB) (by rw[HNP.out];omega) (by omega)).mono fun e w' h=>h.mono fun v w2 h=>⟨(v_s h.1 hB.size),h.2⟩) ?_;refine .mf (.i 3) ?_;refine .donep [some 20,some 21,some 22,some 23,some 5] ?_;intro w4 B4;rintro v23 -;rintro v5 ho;change Shut (wpList _ _ _ [] _ _);refine⟨?_⟩;simp only[Act.put,lS,lZ,lC];replace B0:=zup B0 B4;replace b1:=b1.below B4;replace b2:=b2.below B4;replace bx:=bx.below B4;replace HR:=Lib.hid (HR.out.below B4);obtain⟨no,hno⟩:∃no,(nop ps C).length=no:=⟨_,rfl⟩;have hnoC:no≤C:=by rw[←hno];exact p_u ps C
 obtain⟨Ao,co,rfl,hoI⟩:=m_z (ps:=nop ps C) (n:=no) (by rw[←hno];exact ho) hno;rw[hno]at hoI;rw[hno];have HNO:=Lib.hid hno;have HOI:=Lib.hid hoI;clear B4 ho hno hoI;go_upto_region 5 with fail
 refine Run.start 6 ?_;refine .fa .o (fQ1 1) ?_;refine .ld (.i 0) (ldInt b1 1) ?_;refine .mv .o ?_;refine .len (.i 2) Tryz.underlying27 ?_;refine .c2 (.i 1) (.i 3) (x:=kMw w4.heap.size C no 1 fun _ _=>0) (by rintro u v w9 hB rfl rfl;exact(v_2 hC (by omega)).mono fun e w' h=>h.mono fun v w2 ⟨A,n,d,e,h1⟩=>⟨A,n,d,e,h1.low hB.size⟩) ?_;refine .al ?_;refine .donep [some 24,some 25,some 26,some 27,some 28,some 6] ?_;intro w5 B5;rintro v ⟨A_,n_,d_,rfl,hM⟩;rintro g6 hg6 hl6 hc6 -;change Shut (wpList _ _ _ [_] _ _);refine⟨?_⟩;simp only[Act.put,lS,lZ,lC];obtain⟨gO,rfl,rfl,rfl,hO,hgO,-,-⟩:=hM;have b6:=zeroMq hc6;have neO:gO≠g6:=p_m hO b6 (by decide);have l_b1:=b1.lt;replace b1:=b1.below B5;have l_b2:=b2.lt;replace b2:=b2.below B5;have lbx:=bx.lt;replace bx:=bx.below B5;have hgr_:=a_k w5 g6 (C:Int) (no:Int) (some ⟨gO,0,none⟩) (C*no) (C*no);have hno_:Wless w5 g6:=b6.now (by simp);obtain⟨w6,hw6⟩:∃x,mput w5 g6 (C:Int) (no:Int) (some ⟨gO,0,none⟩) (C*no) (C*no)=x:=⟨_,rfl⟩;obtain⟨f0_,f1_,f2_,f3_,f4_,f5_,f6_⟩:=b6.m3T;rw[hw6]at hgr_;have hB0s:=B0.size;have B35:=a_c B5 hgr_ hg6;replace hO:=hO.gro neO hno_ hgr_;replace b1:=a_a b1 hgr_ (by omega);replace b2:=a_a b2 hgr_ (by omega);replace bx:=a_a bx hgr_ (by omega);replace b6:=b6.mpT (r':=(C:Int)) (c':=(no:Int)) (C:=some ⟨gO,0,none⟩) (n':=C*no) (d':=C*no);rw[hw6]at b6;have Hw6:=Lib.hid hw6;unfold mput at Hw6;have lO:=hO.lt;have l6:=b6.lt;have neO':g6≠gO:=Ne.symm neO;clear hw6 hgr_ hno_ B5 hc6 hl6;go_upto_region 6 with fail
 rw[Hw6.out];clear f0_ f1_ f2_ f3_ f4_ f5_ f6_ Hw6;have HI:Hid (0<np→∃gp,Ap=some ⟨gp,0,none⟩∧gp<w4.heap.size∧∀j,j<np→w4.cell? ⟨gp,j,none⟩=some (.int .i64 ((ps.getD j 0:Nat):Int))):=Lib.hid fun h0=>by
  have h:=HR.out.own;rw[HNP.out]at h;obtain⟨A',c',e,h2⟩:=m_z h HNP.out;injection e with e1 e2 e3
  subst e1;rw[HNP.out]at h2;obtain⟨g,h3,-,h4,h5⟩:=h2 h0;exact⟨g,h3,h4,h5⟩
 have H0:Hid (w6.grownBy w6 (some gO)∧QB w6 gO KF (fun _=>true) (qmk C no fun a b=>if b<0 then(RT.kerM ps (RT.xr ps.length hh X) (nop ps C)) a b else 0)):=Lib.hid ⟨a_u _ _,by
  have h:=hO.mono hkf1;rw[b_l (G:=fun a b=>if b<0 then(RT.kerM ps (RT.xr ps.length hh X) (nop ps C)) a b else 0) fun a b _ _=>by rw[if_neg (by omega)]]at h;exact h⟩
 clear hO
 go_wp2_with fail
 go_loopw [31] (fun s31 wr=>∃kk:Nat,s31= .int .i64 (kk:Int)∧kk≤no∧Hid (w6.grownBy wr (some gO)∧QB wr gO KF (fun _=>true) (qmk C no fun a b=>if b<kk then(RT.kerM ps (RT.xr ps.length hh X) (nop ps C)) a b else 0))) (fun s31 _=>no - (intOf s31).toNat)
 case atStart=>exact⟨0,rfl,Nat.zero_le _,H0⟩
 case round=>
  clear H0;obtain⟨kk,rfl,hkk,HB⟩:=hrel;obtain⟨hG,hQ⟩:=HB.out;clear HB;have BR:=a_c B35 hG hgO;have r':=HR.out.below BR;have hBRs:=BR.size;have hGs:=hG.size;have b2r:=a_a b2 hG (by omega);have b6r:=a_a b6 hG neO';have lOr:=hQ.lt;by_cases hlt:kk<no
  ·have u1:(kk:Int)<(no:Int):=by omega
   obtain⟨kx,hkx⟩:∃kx,(nop ps C).getD kk 0=kx:=⟨_,rfl⟩;have hkl:kk<(nop ps C).length:=by rw[HNO.out];exact hlt
   have hkC:kx<C:=by rw[←hkx];exact(i_0 hkl).1
   have hkp:¬kx∈ps:=by rw[←hkx];exact(i_0 hkl).2
   obtain⟨go,rfl,-,hgo,hco⟩:=HOI.out (by omega);have hco:=hco kk hlt;rw[hkx]at hco;have hcor:=(BR.cell (p:=⟨go,kk,none⟩) hgo).trans hco;have hgor:=Nat.lt_of_lt_of_le hgo BR.size;have HKX:=Lib.hid hkx;have HKP:=Lib.hid hkp;obtain⟨y,hy⟩:∃y:Nat→Rat,(fun i=>((X kx i:Int):Rat)*(hh:Rat)⁻¹*rth (qcs R C 0 F (fun _ _=>0)) kx)=y:=⟨_,rfl⟩;have HY:=Lib.hid hy;clear hy hkx hkl hco hkp;go_upto_region 8 with fail
   refine Run.start 5 ?_;refine .mv .o ?_;refine .two .o .o (opIxI hlt) ?_;refine .ld (.i 1) (ldIn (p:=⟨go,kk,none⟩) hgor hcor) ?_;refine .mv (.i 0) ?_;refine .mv (.i 2) ?_;refine .donep [some 33,some 34,some 35,some 7,some 8] ?_;intro w1' B1';change Shut (wpList _ _ _ [] _ _);refine⟨?_⟩;simp only[Act.put,lS,lZ,lC];go_upto_region 9 with fail
   refine Run.start 5 ?_;refine .mv .o ?_;refine .mv .o ?_;refine .c2 (.i 0) (.i 1) (x:=kQw true w1'.heap.size np KF (qrw np y)) (by rintro u v w4 hB rfl rfl;have h:=w_t (kk:=kx) HRD.out HXC.out ((r'.below B1').below hB) (g_x ..) (by omega) (Nat.le_add_right _ _) (Nat.le_refl _) hR HF2.out hKF2;rw[HNP.out,HY.out]at h;exact h.mono fun e w' h=>h.mono fun v w2 ⟨g,e,h1,h2⟩=>⟨g,e,h1,Nat.le_trans hB.size h2⟩) ?_;refine .lnf (.i 2) (fun v w ⟨_,e,_⟩=>⟨_,_,e⟩) Tryz.underlying22 ?_;refine .mv .o ?_;refine .donep [some 36,some 37,some 38,some 39,some 40] ?_;intro w7 B7;rintro v ⟨gc,rfl,hc,hgc⟩;change Shut (wpList _ _ _ [] _ _);refine⟨?_⟩;simp only[Act.put,lS,lZ,lC];have hs1_:=B1'.size;have B17:=zup B1' B7;clear B7 B1';have B7:=B17;clear B17;have hgc':wr.heap.size≤gc:=by have:=hgc;omega
   have hQ7:=hQ.below B7;have b6q:=b6r.below B7;have lc:=hc.lt;have necO:gc≠gO:=by omega
   have H0:Hid (w7.grownBy w7 (some gO)∧QB w7 gO KF (fun _=>true) (qmk C no (RT.ptm (RT.kerM ps (RT.xr ps.length hh X) (nop ps C)) (fun r=>ps.getD r 0) (fun i=>- y i) kk 0))):=Lib.hid ⟨a_u _ _,by
    have h:=hQ7;rw[b_l (G:=RT.ptm (RT.kerM ps (RT.xr ps.length hh X) (nop ps C)) (fun r=>ps.getD r 0) (fun i=>- y i) kk 0) fun a b _ _=>(RT.ptm_zero a b).symm]at h;exact h⟩
   have HC:=Lib.hid hc;clear hc hcor
   go_wp2_with fail
   go_loopw [40] (fun s40 wi=>∃i:Nat,s40= .int .i64 (i:Int)∧i≤np∧Hid (w7.grownBy wi (some gO)∧QB wi gO KF (fun _=>true) (qmk C no (RT.ptm (RT.kerM ps (RT.xr ps.length hh X) (nop ps C)) (fun r=>ps.getD r 0) (fun i=>- y i) kk i)))) (fun s40 _=>np - (intOf s40).toNat)
   case atStart=>exact⟨0,rfl,Nat.zero_le _,H0⟩
   case round=>
    clear H0;obtain⟨i,rfl,hi,HB⟩:=hrel;obtain⟨hGi,hQi⟩:=HB.out;clear HB;by_cases hil:i<np
    ·have u2:(i:Int)<(np:Int):=by omega
     have hci:=HC.out.gro necO hQ7.now hGi;have hcl:=hci.lt;have b6i:=a_a b6q hGi neO';have BRi:=a_c (zup BR B7) hGi hgO;obtain⟨gp,rfl,hgp,hcp⟩:=HI.out (by omega);obtain⟨pp,hpp⟩:∃pp,ps.getD i 0=pp:=⟨_,rfl⟩;have hppC:pp<C:=by rw[←hpp];exact HRD.out.inc.lt i (by rw[HNP.out];exact hil)
     have hcp:=hcp i hil;rw[hpp]at hcp;have HPP:=Lib.hid hpp;obtain⟨s_,A_,n_,c_,t_,B_,m_,d_,x1,x2,x3,x4,zq,hz1,hz2⟩:=hci.cells (j:=i) (by rw[b_5];exact hil);rw[e_z hil]at zq;have hx:=zq.2 rfl;have hGis:=hGi.size;have hlOi:=hQi.lt;have hl6i:=b6i.lt;have hBRi:=BRi.size;clear zq hpp;go_upto_region 11 with fail
     refine Run.start 5 ?_;refine .mv .o ?_;refine .two .o .o (opIxQB hil) ?_;refine .ld (.i 1) (ldQ (p:=⟨gc,i*4,none⟩) hcl x1 x2 x3 x4) ?_;refine .al ?_;refine .mv (.i 0) ?_;refine .donep [some 42,some 43,some 44,some 10,some 9] ?_;intro w8 B8;rintro g10 hg10 hl10 hc10 -;change Shut (wpList _ _ _ [_] _ _);refine⟨?_⟩;simp only[Act.put,lS,lZ,lC];have b10:=zeroQ hc10;replace hx:=hx.below B8;replace hQi:=hQi.below B8;have b6j:=b6i.below B8;clear hc10 hl10 x1 x2 x3 x4;obtain⟨w9,hw9⟩:∃x,rput w8 g10 s_ A_ n_ c_ t_ B_ m_ d_=x:=⟨_,rfl⟩;obtain⟨f1_,f2_,f3_,f4_,f5_,f6_,f7_,f8_,f9_⟩:=b10.rb;have hgr_:=b_p w8 g10 s_ A_ n_ c_ t_ B_ m_ d_;have hno_:Wless w8 g10:=b10.now (by simp);rw[hw9]at hgr_;replace b6j:=a_a b6j hgr_ (by omega);replace hx:=hx.gro hno_ hgr_;replace hQi:=hQi.gro (by omega) hno_ hgr_;replace B8:=a_c B8 hgr_ (by omega);replace b10:=b10.rp (s':=s_) (A':=A_) (n':=n_) (c':=c_) (t':=t_) (B':=B_) (m':=m_) (d':=d_);rw[hw9]at b10;have Hw9:=Lib.hid hw9;unfold rput at Hw9;clear hw9 hgr_ hno_;have HBi:=Lib.hid B8;clear B8;go_upto_region 12 with fail
     rw[Hw9.out];clear f1_ f2_ f3_ f4_ f5_ f6_ f7_ f8_ f9_ Hw9;have BRj:=zup BRi HBi.out;have bxj:=(HR.out.below BRj).bx;change Bx w9 g 84 [.slice (some ⟨H,0,none⟩) R R,.slice (some ⟨gp,0,none⟩) ps.length cp,.bool sa,.slice A1 n1 c1,.bool s,.slice Aq (qcs R C 0 F (fun _ _=>0)).length cq]at bxj;rw[HNP.out]at bxj;have cpj:=(BRj.cell (p:=⟨gp,i,none⟩) hgp).trans hcp;have hgpj:=Nat.lt_of_lt_of_le hgp BRj.size;refine Run.start 12 ?_;refine .ld .o (ldQm b6j 0) ?_;refine .mv .o ?_;refine .nc (.i 1) ?_;refine .fa (.i 2) (fW0 0) ?_;refine .fa (.i 3) (fE1 1) ?_;refine .ld (.i 4) (ldIs bxj 1) ?_;refine .mv .o ?_;refine .two (.i 5) (.i 6) (opIxI hil) ?_;refine .ld (.i 7) (ldIn (p:=⟨gp,i,none⟩) hgpj cpj) ?_;refine .mv .o ?_;refine .ld .o (ldQr b10) ?_;refine .c1 (.i 10) (x:=kQ (- y i) KF) (by rintro u w4 hB rfl;exact x_3 KF ⟨_,_,_,_,_,_,_,_,rfl,(hx.below hB).qv,hz1,hz2⟩ (Nat.le_refl _) hkf1 hKF2 (Nat.le_refl _)) ?_;refine .done [some 45,some 46,some 47,some 48,some 49,some 50,some 51,some 52,some 53,some 54,some 55,some 56] ?_;intro w10 B10;rintro v ⟨s2_,A2_,n2_,c2_,t2_,B2_,m2_,d2_,rfl,hx2,hz1',hz2'⟩;change Shut (wpList _ _ _ [_] _ _);refine⟨?_⟩;simp only[Act.put,lS,lZ,lC];clear hx hz1 hz2;have hz1:=hz1';have hz2:=hz2';skip
     replace hQi:=hQi.below B10;have HGF:Hid (w7.grownBy w10 (some gO)):=Lib.hid (b_e hGi (e_1 (zup HBi.out B10) _));clear B10 HBi b6i b6j b10 hci bxj BRj BRi cpj hcp
     go_wp2_with fail
     refine(s_a (s1:=0) (n1:=0) (m1:=0) hQi hC (by omega) hppC hlt hx2 hz1 hz2).mono ?_;intro e w11 hp;obtain⟨rfl,hg,hq⟩:=l_h (rw:=fun r=>ps.getD r 0) (y:=fun i=>- y i) HPP.out rfl hp;have HN:Hid (w7.grownBy w11 (some gO)∧QB w11 gO KF (fun _=>true) (qmk C no (RT.ptm (RT.kerM ps (RT.xr ps.length hh X) (nop ps C)) (fun r=>ps.getD r 0) (fun i=>- y i) kk (i+1)))):=Lib.hid ⟨b_e HGF.out hg,hq⟩;clear hQi hx2 hp hg hq HGF
     go_wp2_with fail
     go_roundw
     case rel=>exact⟨i+1,by go_num,by omega,HN⟩
     case measure=>first|(simp[intOf];done)|(simp[intOf];omega)
    ·obtain rfl:i=np:=by omega
     have u2:¬(i:Int)<(i:Int):=by omega
     have b6i:=a_a b6q hGi neO';have hGis:=hGi.size;go_upto_region 14 with fail
     refine Run.start 5 ?_;refine .ld .o (ldQm b6i 0) ?_;refine .mv .o ?_;refine .mv .o ?_;refine .c1 .o (x:=kC 1 1) (by rintro u w2 hB rfl;exact e_h (by decide) (by decide) w2) ?_;refine .c1 (.i 3) (x:=kQ ((1:Int):Rat) 1) (by intro u w4 hB hu;exact h_m 1 hu.v (Nat.le_refl _) (Nat.le_refl _) (by omega)) ?_;refine .done [some 59,some 60,some 61,some 62,some 63] ?_;intro w10 B10;rintro v62 -;rintro v ⟨s2_,A2_,n2_,c2_,t2_,B2_,m2_,d2_,rfl,hx2,hz1,hz2⟩;change Shut (wpList _ _ _ [_] _ _);refine⟨?_⟩;simp only[Act.put,lS,lZ,lC];replace hQi:=hQi.below B10;have HGF:Hid (w6.grownBy w10 (some gO)):=Lib.hid (b_e (b_e (b_e hG (e_1 B7 _)) hGi) (e_1 B10 _));clear B10 b6i
     go_wp2_with fail
     refine(s_a (s1:=0) (n1:=0) (m1:=0) hQi hC (by omega) hkC hlt hx2 (by omega) (by omega)).mono ?_;rintro e w11 ⟨rfl,hg,hq⟩;have HN:Hid (w6.grownBy w11 (some gO)∧QB w11 gO KF (fun _=>true) (qmk C no fun a b=>if b<kk+1 then(RT.kerM ps (RT.xr ps.length hh X) (nop ps C)) a b else 0)):=Lib.hid ⟨b_e HGF.out hg,by
      have h:=hq;rw[b_l (G:=fun a b=>if b<kk+1 then(RT.kerM ps (RT.xr ps.length hh X) (nop ps C)) a b else 0) fun a b _ _=>by
       have hk:=w_d (a:=a) (Mx:=RT.xr ps.length hh X) (y:=fun i=>- y i) HNP.out (by have h:=HRD.out.inc;rw[HNP.out]at h;exact h) HKP.out (fun r hr=>by
        rw[←HY.out];unfold RT.xr;rw[HNP.out,if_pos hr,t_1 hkC];simp)
       unfold RT.ptm;by_cases hb:b=kk
       ·subst hb;rw[if_pos rfl,if_pos (show b<b+1 by omega)];unfold RT.kerM;rw[HKX.out,←hk];by_cases ha:a=kx
        ·rw[if_pos ⟨ha,rfl⟩,if_pos ha]
        ·rw[if_neg fun e=>ha e.1,if_neg ha]
       ·rw[if_neg fun e=>hb e.2,if_neg hb];by_cases hb2:b<kk
        ·rw[if_pos hb2,if_pos (show b<kk+1 by omega)]
        ·rw[if_neg hb2,if_neg (show ¬b<kk+1 by omega)]]at h
      exact h⟩
     clear hQi hx2 hg hq HGF hQ hG hQ7 HC hGi B7 b2r b6r b6q r' BR
     go_wp2_with fail
     go_roundw
     case rel=>exact⟨kk+1,by go_num,by omega,HN⟩
     case measure=>first|(simp[intOf];done)|(simp[intOf];omega)
  ·obtain rfl:kk=no:=by omega
   have u1:¬(kk:Int)<(kk:Int):=by omega
   have hp0:=RT.red_of HRD.out (Nat.le_add_right _ _) HXC.out (A:=F) (c:=fun i=>pct (F i) C) (fun i _=>f_t _ _) (fun i j _ hj=>qF hj);obtain⟨e1,e2⟩:=RT.rd_eq hp0;have hQF:QB wr gO KF (fun _=>true) (qmk C kk (RT.kerM (RT.rdP R C F) (RT.rdM R C F) (nop (RT.rdP R C F) C))):=by
    have h:=hQ;rw[b_l (G:=RT.kerM (RT.rdP R C F) (RT.rdM R C F) (nop (RT.rdP R C F) C)) fun a b ha hb=>by
     rw[if_pos hb,←e1];unfold RT.kerM RT.ker;congr 1
     refine RT.sum_ext fun r hr=>?_;rw[e2 r _ (by rw[HNP.out]at hr;omega) (i_0 (by rw[HNO.out];exact hb)).1]]at h
    exact h
   have hBw:=zup B0 BR;have hMW:Mw w.heap.size wr C kk (some ⟨gO,0,none⟩) (C*kk) (C*kk) KF (RT.kerM (RT.rdP R C F) (RT.rdM R C F) (nop (RT.rdP R C F) C)):=⟨gO,rfl,rfl,rfl,hQF,by omega,hC,by omega⟩;have HKE:Hid ((nop (RT.rdP R C F) C).length=kk):=Lib.hid (by rw[←e1];exact HNO.out);obtain⟨MX,hMX⟩:∃MX,RT.kerM (RT.rdP R C F) (RT.rdM R C F) (nop (RT.rdP R C F) C)=MX:=⟨_,rfl⟩;rw[hMX]at hMW;have HMX:=Lib.hid hMX;clear hQ hG hQF r' hp0 e1 e2 hMX;go_upto_region 16 with fail
   refine Run.start 1 ?_;refine .ld .o (ldQm b6r 0) ?_;refine .donep [some 66] ?_;intro w12 B12;change Shut (wpList _ _ _ [_,_] _ _);refine⟨?_⟩;simp only[Act.put,lS,lZ,lC];replace hMW:=hMW.below B12;replace b2r:=b2r.below B12;have hgr:=a_k w12 (w.heap.size+1) (C:Int) (kk:Int) (some ⟨gO,0,none⟩) (C*kk) (C*kk);have hMV:=hMW.box b2r (by decide) (by simp) hgr;have P:Hid (RetK (kT (kMw w.heap.size C (nop (RT.rdP R C F) C).length KF (RT.kerM (RT.rdP R C F) (RT.rdM R C F) (nop (RT.rdP R C F) C))) (.k (.int .i64 0))) w (.returned (.tuple #[.agg #[.int .i64 (C:Int),.int .i64 (kk:Int),.slice (some ⟨gO,0,none⟩) (C*kk) (C*kk)],.int .i64 0])) (mput w12 (w.heap.size+1) (C:Int) (kk:Int) (some ⟨gO,0,none⟩) (C*kk) (C*kk))):=Lib.hid (by rw[HMX.out,HKE.out];exact⟨_,rfl,⟨_,_,rfl,⟨_,_,_,rfl,hMV⟩,rfl⟩,a_c (zup hBw B12) hgr (by omega)⟩);unfold mput at P;obtain⟨i0,i1,i2,i3,i4,i5,i6⟩:=b2r.m3T;clear hMW hMV hgr hBw B12 b6r b2r
   go_wp2_with fail
   exact bodyPost_ret (v:=.tuple #[.agg #[.int .i64 (C:Int),.int .i64 (kk:Int),.slice (some ⟨gO,0,none⟩) (C*kk) (C*kk)],.int .i64 0]) (by simp[results,Tryz.results29,go_sem,i0,i1,i2]) rfl P.out
theorem v_m {r c:Int}{n d:Nat}{A:Option Addr}{w:World}(h1:fmd r c n=false):Calls Tryz.prog 29 #[.agg #[.int .i64 r,.int .i64 c,.slice A n d]] w (RetK (noM 2) w):=by
 obtain⟨w1,hw1,b1,b2,z1,s1⟩:=boxes2 w 24 24 [.int .i64 r,.int .i64 c,.slice A n d] [.int .i64 0,.int .i64 0,.slice none 0 0];have HW:=Lib.hid hw1;have HZ:=Lib.hid z1;have h1_:=Lib.hid h1;clear hw1 z1 h1 s1;go_enter Tryz.func29,Tryz.ntmps29
 go_upto_region 1 with fail
 rw[HW.out];refine Run.start 3 ?_;refine .ld .o (ldQm b1 0) ?_;refine .c1 (.i 0) (x:=.k (.bool false)) (by rintro u w2 hB rfl;exact b_m h1_.out w2) ?_;refine .nf (.i 1) ?_;refine .donep [some 11,some 12,some 13] ?_;intro w2 B2;change Shut (wpList _ _ _ [] _ _);refine⟨?_⟩;simp only[Act.put,lS,lZ,lC];have P:=Lib.hid (retNoT (e':=2) (b2.below B2) (by omega) (zup HZ.out B2));unfold mput at P;obtain⟨i0,i1,i2,i3,i4,i5,i6⟩:=(b2.below B2).m3
 go_wp2_with fail
 exact bodyPost_ret (v:=.tuple #[.agg #[.int .i64 0,.int .i64 0,.slice none 0 0],.int .i64 2]) (by simp[results,Tryz.results29,go_sem,i0,i1,i2]) rfl P.out
end
end Go.Proofs.YtkgghhklbbfdiaaGreat
