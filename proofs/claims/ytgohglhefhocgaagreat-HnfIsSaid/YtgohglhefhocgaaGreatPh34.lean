/- Ph34 -/
import Derived.RangeFuncNested
import Derived.RangeFuncBound
import Derived.RangeFuncCalls
import Derived.RangeFuncLeaves
import Derived.RangeFuncBox
import Derived.Shelf.Abstract
import Derived.Shelf.RegionOpen
import Derived.OwnWalkIn
import Derived.TacticsInMore
import Derived.LoopNIn
import Derived.LoopIn
import Derived.Test.YtgohglhefhocgaaGreatPh33
set_option linter.unusedVariables false
set_option linter.unusedSimpArgs false
set_option linter.unusedSectionVars false
set_option maxRecDepth 100000
set_option maxHeartbeats 8000000
namespace Go.Proofs.YtgohglhefhocgaaGreat
section
namespace DT
variable {R C n W X D:Nat}{M N G A F F' F0:Mx}{u v:Nat→Int}{p p':Nat→Option Nat}
def stl (p:Nat→Option Nat)(W k:Nat)(F:Mx):Mx:=if k<W then(match p k with|none=>F|some a=>upd F a (rd F p (k+1) (W - (k+1)) (F a)))else F
theorem stl_none {k:Nat}(h:p k=none):stl p W k F=F:=by
 unfold stl;rw[h];split<;>rfl
theorem stl_some {k a:Nat}(hk:k<W)(h:p k=some a):stl p W k F=upd F a (rd F p (k+1) (W - (k+1)) (F a)):=by
 unfold stl;rw[if_pos hk,h]
theorem stl_off {k:Nat}(hk:¬k<W):stl p W k F=F:=by unfold stl;rw[if_neg hk]
structure SetO (n W X:Nat) (F0 F:Mx) (p:Nat→Option Nat):Prop where
 tri:Tri n W F p
 rst:Rst n W F p
 lat:∀v,Lat n W F v↔Lat n W F0 v
 low:∀a,(∀k,k<W→p k≠some a)→F a=F0 a
 piv:∀k a l c,k<W→l<W→p k=some a→p l=some c→(F a l).natAbs≤X
theorem SetO.start (h:Tri n W F p)(hr:Rst n W F p)(hX:∀k a l,k<W→l<W→p k=some a→(F a l).natAbs≤X):SetO n W X F F p:=⟨h,hr,fun _=>Iff.rfl,fun _ _=>rfl,fun k a l c hk hl ha _=>hX k a l hk hl ha⟩
theorem SetO.step (h:SetO n W X F0 F p)(m:Nat):SetO n W X F0 (stl p W m F) p:=by
 by_cases hm:m<W
 ·cases e:p m with
  |none=>rw[stl_none e];exact h
  |some a=>
   rw[stl_some hm e];have hne:∀ {l b:Nat},m<l→l<W→p l=some b→b≠a:=fun {l b} h1 h2 hb e2=>by
    subst e2
    have:=h.tri.inj l m b h2 hm hb e;omega
   have hlow:=h.tri.rd_low (lo:=m+1) (f:=F a) (W - (m+1)) (by omega);refine⟨⟨h.tri.lt,h.tri.inj,fun l b hl hb j hj=>?_,fun l b hl hb=>?_⟩,fun b hb hno j hj=>?_,fun v=>?_,fun b hno=>?_,fun k b l c hk hl hb hc=>?_⟩
   ·by_cases e2:b=a
    ·subst e2;obtain rfl:=h.tri.inj l m b hl hm hb e;rw[upd_self,hlow j (by omega)];exact h.tri.zero l b hl hb j hj
    ·rw[upd_ne e2];exact h.tri.zero l b hl hb j hj
   ·by_cases e2:b=a
    ·subst e2;obtain rfl:=h.tri.inj l m b hl hm hb e;rw[upd_self,hlow l (by omega)];exact h.tri.pos l b hl hb
    ·rw[upd_ne e2];exact h.tri.pos l b hl hb
   ·rw[upd_ne (fun e2=>by subst e2;exact hno m hm e)];exact h.rst b hb hno j hj
   ·have h1:=j_f (n:=n) (W:=W) (F:=F) (p:=p) (a:=a) (lo:=m+1) (h.tri.lt m a hm e) (F a) (W - (m+1)) (fun k b h1 h2 hb=>⟨h.tri.lt k b (by omega) hb,hne (by omega) (by omega) hb⟩) v;rw[h1,upd_id,h.lat]
   ·rw[upd_ne (fun e2=>by subst e2;exact hno m hm e)];exact h.low b hno
   ·by_cases e2:b=a
    ·subst e2;obtain rfl:=h.tri.inj k m b hk hm hb e;rw[upd_self];rcases Nat.lt_or_ge l (k+1)with h3|h3
     ·rw[hlow l h3];exact h.piv k b l c hk hl hb hc
     ·have h4:=h.tri.rd_red (lo:=k+1) (f:=F b) (W - (k+1)) (by omega) l c h3 (by omega) hc;have h5:=h.piv l c l c hl hl hc hc;omega
    ·rw[upd_ne e2];exact h.piv k b l c hk hl hb hc
 ·rw[stl_off hm];exact h
theorem SetO.le (h:SetO n W X F0 F p)(e:∀v,Lat n W F0 v↔Lat R W A v)(hD:∀f q:Nat→Nat,(∀i,i<(rl p W).length→f i<R)→(∀i,i<(rl p W).length→q i<W)→(det (rl p W).length fun i j=>A (f i) (q j)).natAbs≤D)
  {k a:Nat} (hk:k<W) (ha:p k=some a) {j:Nat} (hj:j<W):(F a j).natAbs≤(rl p W).length*(X*D):=by
 refine s_8 h.tri.steps (fun l hl=>h.tri.full hl) (fun v=>(h.tri.lat h.rst v).trans ((h.lat v).trans (e v))) hD ((h.tri.lat h.rst _).mpr (Lat.row n W F (h.tri.lt k a hk ha))) (fun l hl=>?_) hj;obtain⟨k',a',h1,h2,-,h3,h4⟩:=h.tri.row hl;rw[h4];exact h.piv k a k' a' hk h1 ha h2
theorem Sets.step {m:Nat}(h:Sets n W (m+1) F F' p)(hm:m<W):Sets n W m F (stl p W m F') p:=by
 cases e:p m with
 |none=>rw[stl_none e];exact h.none e
 |some a=>rw[stl_some hm e];exact h.some hm e
theorem Sets.herm_le (h:Sets n W 0 F F' p)(e:∀v,Lat n W F v↔Lat R W A v)(hD:∀f q:Nat→Nat,(∀i,i<(rl p W).length→f i<R)→(∀i,i<(rl p W).length→q i<W)→(det (rl p W).length fun i j=>A (f i) (q j)).natAbs≤D)
  {k a:Nat} (hk:k<W) (ha:p k=Option.some a) {j:Nat} (hj:j<W):(F' a j).natAbs≤(rl p W).length*D:=by
 have hm:=rl_mem.mpr ⟨k,hk,ha⟩;obtain⟨i,hi,hi2⟩:=List.getElem_of_mem hm
 have:=DT.herm_le (h.tri.herm h.rdc) (fun l hl=>h.tri.full hl) (fun v=>(h.tri.lat h.rst v).trans ((h.lat v).trans (e v))) hD i j hi hj;rwa [show srt F' p W i=F' a by unfold srt;rw[show(rl p W).getD i 0=a by simp[List.getD,hi,hi2]]]at this
end DT
end
section
open Go.RowKit Go.Shelf
attribute [local go_sem] Oper.semAt_some
def upto {α:Type}(f:Nat→α)(k:Nat):List α:=(List.range k).map f
theorem e_j {α:Type}(f:Nat→α)(k:Nat):upto f (k+1)=upto f k++[f k]:=by simp[upto,List.range_succ]
theorem h_v {α:Type}(f:Nat→α)(k:Nat):(upto f k).length=k:=by simp[upto]
end
section
open Go.RowKit Go.Shelf
attribute [local go_sem] Oper.semAt_some
def tix (W x:Nat):Nat:=if x<W then x else 0
def tvx (W:Nat)(g o cp:Nat→Nat)(p:Nat→Option Nat)(x:Nat):Value:=if x<W then tvl W g o cp p x else .slice none 0 0
def targs (W:Nat)(g o cp:Nat→Nat)(p:Nat→Option Nat)(x:Nat):Array Value:=#[.int .i64 (tix W x:Int),tvx W g o cp p x]
theorem n_e {W x:Nat}{g o cp:Nat→Nat}{p:Nat→Option Nat}(h:x<W):targs W g o cp p x= #[.int .i64 (x:Int),tvl W g o cp p x]:=by unfold targs tix tvx;rw[if_pos h,if_pos h]
theorem n_b (W:Nat)(g o cp:Nat→Nat)(p:Nat→Option Nat)(k:Nat):∃A n c,tvl W g o cp p k= .slice A n c:=by
 unfold tvl;split
 ·exact⟨_,_,_,rfl⟩
 ·exact⟨_,_,_,rfl⟩
def KeepT (H Bs:Nat)(W W':World):Prop:=W.heap.size≤W'.heap.size∧W'.heap[H]? =W.heap[H]? ∧W'.heap[Bs]? =W.heap[Bs]?
theorem r_c (H Bs:Nat)(W:World):KeepT H Bs W W:=⟨Nat.le_refl _,rfl,rfl⟩
theorem l_3 {H Bs:Nat}{A B C:World}(h:KeepT H Bs A B)(k:KeepT H Bs B C):KeepT H Bs A C:=⟨Nat.le_trans h.1 k.1,k.2.1.trans h.2.1,k.2.2.trans h.2.2⟩
theorem r_d {H Bs:Nat}{w:World}(hH:H<w.heap.size)(hb:Bs<w.heap.size)(W:World)(l:Nat)(o o':Obj)(hl:w.heap.size≤l)(h:W.heap[l]? =some o)(h1:o.isCells=false)(h2:o.isWalk=false):KeepT H Bs W (W.putObj l o'):=
 ⟨by simp,World.putObj_heap_other (fun e=>by omega),World.putObj_heap_other (fun e=>by omega)⟩
def fromEndT (n k:Nat):Nat:=n - 1 - k
theorem m_0 (F:Fence)(n:Nat)(h7:F.fn 115)(hro:F.round=none)(hn:1≤n)(l Bs H N:Nat)(g o cp:Nat→Nat)(p:Nat→Option Nat)(hN:N≤1048576)(J Jx:List Nat→World→Prop)
  (hY:∀pre x W,J pre W→pre.length<N→YieldAt F (n - 1) Tryz.prog l (targs N g o cp p x) W fun e W'=>
   (e= .returned (.bool true)∧J (pre++[x]) W'∧KeepT H Bs W W')∨(e= .returned (.bool false)∧Jx (pre++[x]) W'))
  (W:World) (hBs:W.cell? ⟨Bs,0,none⟩=some (.slice (some ⟨H,0,none⟩) N N)) (hc:Bx W H 22 (tcs N g o cp p)) (h0:J [] W):
  CallsIn F n Tryz.prog 115 #[.func (.yield l) #[] #[],.pointer (some ⟨Bs,0,none⟩)] W fun e W'=>(∃v,e= .returned v)∧
   ((∃ys,ys=upto (fromEndT N) N∧J ys W')∨(∃pre,(∃k,k≤N∧pre=upto (fromEndT N) k)∧Jx pre W')):=by
 have hwr:IntKind.i64.wrap ((N:Int) - 1)=(N:Int) - 1:=by rw[IntKind.wrap_i64];omega
 refine callsIn_of_wp Tryz.func115 rfl h7 ?_ hro;simp only[Tryz.ntmps115,List.size_toArray,List.length_cons,List.length_nil,Nat.reduceAdd,Nat.reduceSub,Array.replicate_succ,Array.replicate_zero,List.push_toArray,List.append_toArray,List.nil_append,List.cons_append]
 gi_wp2
 gi_loopw [3] (fun i wr=>∃k:Nat,k≤N∧i= .int .i64 ((k:Int) - 1)∧J (upto (fromEndT N) (N - k)) wr∧KeepT H Bs W wr)
  (fun i _=>(intOf i+1).toNat)
 case atStart=>exact⟨N,Nat.le_refl _,rfl,by rw[Nat.sub_self];exact h0,r_c _ _ _⟩
 case round=>
  obtain⟨k,hk,rfl,hJs,hnx⟩:=hrel;have hBr:wr.cell? ⟨Bs,0,none⟩=some (.slice (some ⟨H,0,none⟩) N N):=(World.cell?_of_block hnx.2.2).trans hBs;rcases k with _|k
  ·gi_wp2
   go_end0
   exact⟨⟨_,rfl⟩,.inl ⟨_,rfl,hJs⟩⟩
  ·rw[show((k+1:Nat):Int) - 1=(k:Int) by omega];obtain⟨A',n',c',hv⟩:=n_b N g o cp p k;have hcx:wr.cell? ⟨H,k,none⟩=some (.slice A' n' c'):=(World.cell?_of_block hnx.2.1).trans ((hc.cell k).trans (by simp[tcs,show k<N by omega,hv]));have hfe:fromEndT N (N - (k+1))=k:=by unfold fromEndT;omega
   obtain⟨fn,tmps,assign,body,hy,hR⟩:=hY _ k wr hJs (by rw[h_v];omega);rw[n_e (by omega),hv]at hy;have u1:(0:Int)≤(k:Int):=by omega
   have u2:(k:Int)<(N:Int):=by omega
   clear hv
   gi_wp2
   refine hR.mono ?_;rintro e W3 (⟨rfl,hJ3,hk3⟩|⟨rfl,hJx3⟩)
   ·gi_wp2
    go_roundw
    case rel=>exact⟨k,by omega,by simp,by rw[show N - k=(N - (k+1))+1 by omega,e_j,hfe];exact hJ3,l_3 hnx hk3⟩
    case measure=>simp[intOf]
   ·gi_wp2
    refine bodyPost_ret (results_none rfl _ _ _) rfl ?_;exact⟨⟨_,rfl⟩,.inr ⟨_,⟨N - (k+1)+1,by omega,by rw[e_j,hfe]⟩,hJx3⟩⟩
theorem o_x (A:Option Addr)(len cap:Nat)(w:World):
  Calls Tryz.prog 101 #[.slice A len cap] w fun e w'=>e= .returned (.func (.func 115) #[] #[.pointer (some ⟨w.heap.size,0,none⟩)])∧w'=w.alloc (.cells #[.slice A len cap] 62):=by
 go_enter Tryz.func101,Tryz.ntmps101
 go_wp2_with fail
 go_ret
 exact⟨rfl,rfl⟩
theorem i_q (F:Fence)(n:Nat)(h7:F.fn 115)(hro:F.round=none)(hn:1≤n)(Bs H N:Nat)(g o cp:Nat→Nat)(p:Nat→Option Nat)(hN:N≤1048576)(w:World)(hBs:Bs<w.heap.size)
  (hc:w.cell? ⟨Bs,0,none⟩=some (.slice (some ⟨H,0,none⟩) N N)) (hI:Bx w H 22 (tcs N g o cp p)):
  SeqStopsK F n Tryz.prog 115 #[.pointer (some ⟨Bs,0,none⟩)] (fun x:Nat=>targs N g o cp p x) (KeepT H Bs) (fun ys=>ys=upto (fromEndT N) N)
   (fun pre=>∃k,k≤N∧pre=upto (fromEndT N) k) N w:=fun l J Jx W hW _ _ hY h0=>
 m_0 F n h7 hro hn l Bs H N g o cp p hN J Jx hY W ((hW.cell (p:=⟨Bs,0,none⟩) hBs).trans hc) (hI.below hW) h0
theorem m_8 {W:World}{r:Nat}(h:∃o:Obj,W.heap[r]? =some o∧o.isCells=false):Wless W r:=fun p m hp hc=>by
 obtain⟨o,h1,h2⟩:=h;obtain⟨o',h3,h4⟩:=cells_of_cell hc;rw[hp,h1]at h3;cases h3;rw[h2]at h4;cases h4
section
variable {W W':World}{row:Option Nat}{b n w':Nat}{g o:Nat→Nat}{F:Nat→Nat→Int}
theorem Rws.kept {V:Nat}(h:Rws b W n V g o F)(hg:W.grownBy W' row)(hr:∀r,row=some r→∃o:Obj,W.heap[r]? =some o∧o.isCells=false):Rws b W' n V g o F:=by
 cases row with
 |none=>exact h.below ⟨hg.os,hg.tape,hg.output,hg.size,fun k hk=>hg.block k hk (by simp)⟩
 |some r=>
  refine h.gro (fun a ha e=>?_) (m_8 (hr r rfl)) hg;obtain⟨cs,h1,-⟩:=(h.row a ha).ex;obtain⟨o',h2,h3⟩:=hr r rfl;rw[e,h2]at h1;cases h1;cases h3
theorem Bx.kept {x:Nat}{T:TypeId}{cs:List Value}(h:Bx W x T cs)(hg:W.grownBy W' row)(hr:∀r,row=some r→∃o:Obj,W.heap[r]? =some o∧o.isCells=false):Bx W' x T cs:=by
 refine(hg.block x h.lt fun e=>?_).trans h;obtain⟨o',h2,h3⟩:=hr x e.symm;unfold Bx at h;rw[h2]at h;cases h;cases h3
theorem Chg.grow {w:World}(h:Chg w W n g)(hg:W.grownBy W' row)(hr:∀r,row=some r→w.heap.size≤r):Chg w W' n g:=
 ⟨hg.os.trans h.os,hg.tape.trans h.tape,hg.output.trans h.output,Nat.le_trans h.size hg.size,fun k hk hn=>(hg.block k (Nat.lt_of_lt_of_le hk h.size) (fun e=>by have:=hr k e.symm;omega)).trans (h.block k hk hn)⟩
end
def SePost (b:Nat)(w:World)(n W:Nat)(g o:Nat→Nat)(F':Nat→Nat→Int)(e:Ending)(w':World):Prop:=
 e= .returned (.tuple #[])∧Rws b w' n W g o F'∧Chg w w' n g
def stls (p:Nat→Option Nat)(W:Nat)(F:Nat→Nat→Int)(pre:List Nat):Nat→Nat→Int:=pre.foldl (fun F x=>DT.stl p W x F) F
theorem g_z {p:Nat→Option Nat}{W:Nat}{F:Nat→Nat→Int}{pre:List Nat}{x:Nat}:stls p W F (pre++[x])=DT.stl p W x (stls p W F pre):=by
 unfold stls;rw[List.foldl_append,List.foldl_cons,List.foldl_nil]
theorem s_l {N W X:Nat}{F:Nat→Nat→Int}{p:Nat→Option Nat}(h:DT.SetO N W X F F p)(pre:List Nat):DT.SetO N W X F (stls p W F pre) p:=by
 have:∀(pre:List Nat) (G:Nat→Nat→Int),DT.SetO N W X F G p→DT.SetO N W X F (pre.foldl (fun F x=>DT.stl p W x F) G) p:=fun pre=>by
  induction pre with
  |nil=>intro G h;exact h
  |cons x pre ih=>intro G h;exact ih _ (h.step x)
 exact this pre F h
theorem i_y {N W:Nat}{F:Nat→Nat→Int}{p:Nat→Option Nat}(h:DT.Sets N W W F F p):∀k,k≤W→DT.Sets N W (W - k) F (stls p W F (upto (fromEndT W) k)) p
 |0,_=>h
 |k+1,hk=>by
  have ih:=i_y h k (by omega);rw[e_j,g_z];have e:fromEndT W k=W - (k+1):=by unfold fromEndT;omega
  rw[e];rw[show W - k=(W - (k+1))+1 by omega]at ih;exact ih.step (by omega)
theorem n_h {b n N W H X M β:Nat}{g o cp:Nat→Nat}{F:Nat→Nat→Int}{p:Nat→Option Nat}{w:World}(bx:Bx w H 22 (tcs W g o cp p))(r:Rws b w n W g o F)(hb:b≤w.heap.size)(hN:N≤n)(hS:DT.SetO N W X F F p)(hcp:∀a,a<N→W≤cp a∧cp a≤9223372036854775807)(hW:W≤1048576)
  (hM:∀F',DT.SetO N W X F F' p→∀k a,k<W→p k=some a→Bd W M (F' a)) (hβ:M+W*(M+1)≤β) (hK:β+M+3≤549755813888):
  Calls Tryz.prog 72 #[.slice (some ⟨H,0,none⟩) W W] w (SePost b w n W g o (stls p W F (upto (fromEndT W) W))):=by
 have HBX:=Lib.hid bx;have HR:=Lib.hid r;have HS:=Lib.hid hS;have HM:=Lib.hid hM;have hHl:=bx.lt;have HNH:=Lib.hid (fun a (ha:a<n)=>r.ne bx (by decide) ha);have HGL:=Lib.hid (fun a (ha:a<n)=>(r.row a ha).lt);have HB_:=Lib.hid hβ;clear bx r hS hM hβ;refine(callsIn_wide (n:=5)).1 ?_;refine callsIn_of_wp_marks Tryz.func72 rfl trivial ?_ rfl;simp only[Tryz.ntmps72,List.size_toArray,List.length_cons,List.length_nil,Nat.reduceAdd,Nat.reduceSub,Array.replicate_succ,Array.replicate_zero,List.push_toArray,List.append_toArray,List.nil_append,List.cons_append]
 gi_wp2_with fail
 refine⟨trivial,(callsIn_wide.2 (o_x (some ⟨H,0,none⟩) W W _)).mono ?_⟩;rintro e w2 ⟨rfl,rfl⟩;obtain⟨W2,hW2⟩:∃W2,(w.alloc (.cells #[.slice (some ⟨H,0,none⟩) W W] 62)).alloc (.cells #[.slice (some ⟨H,0,none⟩) W W] 62)=W2:=⟨_,rfl⟩;have bT:Bx W2 w.heap.size 62 [.slice (some ⟨H,0,none⟩) W W]:=by rw[←hW2];exact(Bx.new w _ _).below (zba _ _)
 have bI:Bx W2 (w.heap.size+1) 62 [.slice (some ⟨H,0,none⟩) W W]:=by
  rw[←hW2]
  have:=Bx.new (w.alloc (.cells #[.slice (some ⟨H,0,none⟩) W W] 62)) 62 [.slice (some ⟨H,0,none⟩) W W];simpa using this
 have hB2:Below w.heap.size w W2:=by rw[←hW2];exact zba2 _ _ _
 have sz2:W2.heap.size=w.heap.size+1+1:=by rw[←hW2];simp
 simp only[World.size_alloc];rw[hW2];clear hW2
 gi_wp2_with fail
 refine wpIn_rangeFunc_ownG rfl (by omega) (gf:=115) (lb:=#[.pointer (some ⟨w.heap.size+1,0,none⟩)]) rfl trivial (enters_of Tryz.func115 (by kernel_rfl) rfl)
  (i_q Fence.wide _ trivial rfl (by omega) (w.heap.size+1) H W g o cp p hW W2 (by omega) (bI.cell 0) (HBX.out.below hB2)) l_3 (r_d (by omega) (by omega)) (Below.refl _ _) (fun _=>rfl)
  (fun pre V=>((Rws b V n W g o (stls p W F pre)∧Bx V H 22 (tcs W g o cp p))∧Bx V w.heap.size 62 [.slice (some ⟨H,0,none⟩) W W])∧(Chg w V n g∧w.heap.size+2≤V.heap.size))
  (fun _ _ _=>False)
  (OwnFrom.and (OwnFrom.and (OwnFrom.and (Own.from (fun _ _ _ _ hs hg hr=>hs.kept hg hr) _) (Own.from (fun _ _ _ _ hs hg hr=>hs.kept hg hr) _)) (Own.from (fun _ _ _ _ hs hg hr=>hs.kept hg hr) _)) (OwnFrom.and (fun _ _ _ _ hs hg hr=>hs.grow hg (fun r e=>by have:=(hr r e).1;omega)) (fun _ _ _ _ hs hg _=>Nat.le_trans hs hg.size)))
  (fun _ _ _ _ _ hs _ _=>hs)
  ⟨⟨⟨HR.out.below hB2,HBX.out.below hB2⟩,bT⟩,.of hB2,by omega⟩
  (fun x=>{ tmps:=#[.slice (some ⟨H,0,none⟩) W W,.pointer (some ⟨w.heap.size,0,none⟩),.int .i64 (tix W x:Int),tvx W g o cp p x,.slice (some ⟨H,0,none⟩) W W,.func (.func 115) #[] #[.pointer (some ⟨w.heap.size+1,0,none⟩)],.int .i64 (tix W x:Int),tvx W g o cp p x,undef,undef,undef,undef,undef],defers:=[] }) ?assign ?body ?done ?stop
 case assign=>
  intro l x V K hK;unfold targs
  gi_wp2_with fail
  exact hK
 case body=>
  rintro l pre x V ⟨⟨⟨hR,hB⟩,hT⟩,hC,hsz⟩ hlen;have hSO:=s_l HS.out pre;have HRv:=Lib.hid hR;have HBv:=Lib.hid hB;have HTv:=Lib.hid hT;have HCv:=Lib.hid hC;have cT:=hT.cell 0;simp only[List.getElem?_cons_zero]at cT;obtain⟨i,hi⟩:∃i,tix W x=i:=⟨_,rfl⟩;have hi2:i≤W:=by rw[←hi];unfold tix;split<;>omega
  have hwi:IntKind.i64.wrap ((i:Int)+1)=((i+1:Nat):Int):=by rw[IntKind.wrap_i64];omega
  have hsn:=g_z (p:=p) (W:=W) (F:=F) (pre:=pre) (x:=x);have HSN:=Lib.hid hsn;have HSO:=Lib.hid hSO;rw[hi];clear hR hB hT hC hSO hsn;have hcase:(∃a,x<W∧i=x∧p x=some a)∨(tvx W g o cp p x= .slice none 0 0∧DT.stl p W x (stls p W F pre)=stls p W F pre):=by
   by_cases hx:x<W
   ·cases hp:p x with
    |none=>right;rw[DT.stl_none hp];exact⟨by unfold tvx tvl;rw[if_pos hx,hp],rfl⟩
    |some a=>left;exact⟨a,hx,by rw[←hi];unfold tix;rw[if_pos hx],rfl⟩
   ·right;rw[DT.stl_off hx];exact⟨by unfold tvx;rw[if_neg hx],rfl⟩
  rcases hcase with⟨a,hx,rfl,hpa⟩|⟨h1,h2⟩
  ·have hv:tvx W g o cp p i=rwV (g a) (o a) W (cp a):=by unfold tvx tvl;rw[if_pos hx,hpa]
   rw[hv];have haN:=HSO.out.tri.lt i a hx hpa;have hne:∀k c,i+1≤k→k<W→p k=some c→c≠a:=fun k c h1 h2 hc e=>by
    subst e
    have:=HSO.out.tri.inj k i c h2 hx hc hpa;omega
   have hbM:=HM.out _ HSO.out;have hC:=i_5 (ca:=cp a) (lo:=i+1) (κ:=M) (β:=β) HBv.out HRv.out (by have:=HCv.out.size;omega) HSO.out.tri hN (by omega) hne hx hW (fun j hj=>by
    have h3:=n_u (lo:=i+1) (f:=stls p W F pre a) (β:=fun j=>M+j*(M+1)) HSO.out.tri (by simpa using hbM i a hx hpa) (fun j=>by have:=Nat.add_mul j 1 (M+1);show _+j*(M+1)≤_+(j+1)*(M+1);omega) (fun j c hj hc=>.inr ⟨M,hbM _ c hj hc,by have:=Nat.add_mul j 1 (M+1);show _+j*(M+1)+M+1≤_+(j+1)*(M+1);omega⟩) j hj;refine h3.mono ?_;show M+j*(M+1)≤β
    have h4:j*(M+1)≤W*(M+1):=Nat.mul_le_mul_right _ (by omega)
    have:=HB_.out;omega) (fun k c _ hk hc=>hbM k c hk hc) hK
   have HC:=Lib.hid hC;have hst:=DT.stl_some (F:=stls p W F pre) hx hpa;have HST:=Lib.hid hst;clear hv hne hbM hC hst hi
   gi_wp2_with fail
   refine⟨trivial,(CallsIn.inRound l (callsIn_wide.2 HC.out)).mono ?_⟩;rintro e W3 ⟨rfl,hR3,hG3⟩;have P:KeepsFrom W2.heap.size V W3∧KeepT H (w.heap.size+1) V W3∧(((Rws b W3 n W g o (stls p W F (pre++[i]))∧Bx W3 H 22 (tcs W g o cp p))∧Bx W3 w.heap.size 62 [.slice (some ⟨H,0,none⟩) W W])∧(Chg w W3 n g∧w.heap.size+2≤W3.heap.size)):=by
    have hga:=HGL.out a (by omega);have hnH:=HNH.out a (by omega);have hs3:=hG3.size;refine⟨KeepsFrom.of_grownBy hG3 (fun j e=>by cases e;omega),⟨hG3.size,hG3.block H (by omega) (fun e=>hnH (Option.some.inj e).symm),hG3.block _ (by omega) (fun e=>by have:=Option.some.inj e;omega)⟩,⟨⟨?_,b_a HBv.out hG3 (Ne.symm hnH)⟩,b_a HTv.out hG3 (by omega)⟩,HCv.out.trans (Chg.one (by omega) hG3),by omega⟩;rw[HSN.out,HST.out];exact hR3
   clear HC hR3 hG3
   gi_wp2_with fail
   exact P
  ·rw[h1];have HST:=Lib.hid h2;clear h1 h2 hi
   gi_wp2_with fail
   refine⟨trivial,(CallsIn.inRound l (callsIn_wide.2 (j_8 (W:=W) (H:=H) (lo:=i+1)))).mono ?_⟩;rintro e W3 ⟨rfl,B3⟩;have P:KeepsFrom W2.heap.size V W3∧KeepT H (w.heap.size+1) V W3∧(((Rws b W3 n W g o (stls p W F (pre++[x]))∧Bx W3 H 22 (tcs W g o cp p))∧Bx W3 w.heap.size 62 [.slice (some ⟨H,0,none⟩) W W])∧(Chg w W3 n g∧w.heap.size+2≤W3.heap.size)):=by
    have hs3:=B3.size;refine⟨KeepsFrom.of_grownBy (b_m B3 none) (fun j e=>by cases e),⟨B3.size,B3.block H (by omega),B3.block _ (by omega)⟩,⟨⟨?_,HBv.out.below B3⟩,HTv.out.below B3⟩,HCv.out.trans (.of B3),by omega⟩;rw[HSN.out,HST.out];exact HRv.out.below B3
   clear B3
   gi_wp2_with fail
   exact P
 case done=>
  rintro D ys V hD rfl ⟨⟨⟨hR,hB⟩,hT⟩,hC,hsz⟩ hK
  gi_wp2_with fail
  refine⟨by simp,.inl ⟨_,_,rfl,run_takeDeferred hK, ?_⟩⟩;have kk:∀r,some D=some r→∃o:Obj,V.heap[r]? =some o∧o.isCells=false:=fun r e=>by cases e;exact⟨_,hK,rfl⟩
  refine⟨.tuple #[],by simp[results,Tryz.results72,go_sem],rfl,hR.kept (grownBy_putObj' V D (.deferred none)) kk,hC.grow (grownBy_putObj' V D (.deferred none)) (fun r e=>by cases e;omega)⟩
 case stop=>
  rintro D c pre V _ _ h _;exact h.elim
end
end Go.Proofs.YtgohglhefhocgaaGreat
