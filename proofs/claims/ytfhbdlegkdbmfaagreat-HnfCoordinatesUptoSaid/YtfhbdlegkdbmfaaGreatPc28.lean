/- Pc28 -/
import Derived.Test.YtfhbdlegkdbmfaaGreatPc27
set_option linter.unusedVariables false
set_option linter.unusedSimpArgs false
set_option linter.unusedSectionVars false
set_option maxRecDepth 100000
set_option maxHeartbeats 8000000
namespace Go.Proofs.YtfhbdlegkdbmfaaGreat
section
open Go.RowKit Go.Shelf
attribute [local go_sem] Oper.semAt_some
def tix (W x:Nat):Nat:=if x<W then x else 0
def tvx (W:Nat)(g o cp:Nat->Nat)(p:Nat->Option Nat)(x:Nat):Value:=if x<W then tvl W g o cp p x else .slice none 0 0
def targs (W:Nat)(g o cp:Nat->Nat)(p:Nat->Option Nat)(x:Nat):Array Value:=#[.int .i64 (tix W x:Int),tvx W g o cp p x]
theorem l_9 {W x:Nat}{g o cp:Nat->Nat}{p:Nat->Option Nat}(h:x<W):targs W g o cp p x= #[.int .i64 (x:Int),tvl W g o cp p x]:=by unfold targs tix tvx;rw[if_pos h,if_pos h]
theorem l_5 (W:Nat)(g o cp:Nat->Nat)(p:Nat->Option Nat)(k:Nat):∃A n c,tvl W g o cp p k= .slice A n c:=by
 unfold tvl;split
 ·exact⟨_,_,_,rfl⟩
 ·exact⟨_,_,_,rfl⟩
def KeepT (H Bs:Nat)(W W':World):Prop:=W.heap.size<=W'.heap.size/\W'.heap[H]? =W.heap[H]? /\W'.heap[Bs]? =W.heap[Bs]?
theorem p_w (H Bs:Nat)(W:World):KeepT H Bs W W:=⟨Nat.le_refl _,rfl,rfl⟩
theorem k_z {H Bs:Nat}{A B C:World}(h:KeepT H Bs A B)(k:KeepT H Bs B C):KeepT H Bs A C:=⟨Nat.le_trans h.1 k.1,k.2.1.trans h.2.1,k.2.2.trans h.2.2⟩
theorem p_x {H Bs:Nat}{w:World}(hH:H<w.heap.size)(hb:Bs<w.heap.size)(W:World)(l:Nat)(o o':Obj)(hl:w.heap.size<=l)(h:W.heap[l]? =some o)(h1:o.isCells=false)(h2:o.isWalk=false):KeepT H Bs W (W.putObj l o'):=
 ⟨by simp,World.putObj_heap_other (fun e=>by omega),World.putObj_heap_other (fun e=>by omega)⟩
def fromEndT (n k:Nat):Nat:=n - 1 - k
theorem l_v (F:Fence)(n:Nat)(h7:F.fn 189)(hro:F.round=none)(hn:1<=n)(l Bs H N:Nat)(g o cp:Nat->Nat)(p:Nat->Option Nat)(hN:N<=1048576)(J Jx:List Nat->World->Prop)
  (hY:∀pre x W,J pre W->pre.length<N->YieldAt F (n - 1) Tryz.prog l (targs N g o cp p x) W fun e W'=>
   (e= .returned (.bool true)/\J (pre++[x]) W'/\KeepT H Bs W W')\/(e= .returned (.bool false)/\Jx (pre++[x]) W'))
  (W:World) (hBs:W.cell? ⟨Bs,0,none⟩=some (.slice (some ⟨H,0,none⟩) N N)) (hc:Bx W H 25 (tcs N g o cp p)) (h0:J [] W):
  CallsIn F n Tryz.prog 189 #[.func (.yield l) #[] #[],.pointer (some ⟨Bs,0,none⟩)] W fun e W'=>(∃v,e= .returned v)/\
   ((∃ys,ys=upto (fromEndT N) N/\J ys W')\/(∃pre,(∃k,k<=N/\pre=upto (fromEndT N) k)/\Jx pre W')):=by
 have hwr:IntKind.i64.wrap ((N:Int) - 1)=(N:Int) - 1:=by rw[IntKind.wrap_i64];omega
 refine callsIn_of_wp Tryz.func189 rfl h7 ?_ hro;simp only[Tryz.ntmps189,List.size_toArray,List.length_cons,List.length_nil,Nat.reduceAdd,Nat.reduceSub,Array.replicate_succ,Array.replicate_zero,List.push_toArray,List.append_toArray,List.nil_append,List.cons_append]
 gi_wp2
 gi_loopw [3] (fun i wr=>∃k:Nat,k<=N/\i= .int .i64 ((k:Int) - 1)/\J (upto (fromEndT N) (N - k)) wr/\KeepT H Bs W wr)
  (fun i _=>(intOf i+1).toNat)
 case atStart=>exact⟨N,Nat.le_refl _,rfl,by rw[Nat.sub_self];exact h0,p_w _ _ _⟩
 case round=>
  obtain⟨k,hk,rfl,hJs,hnx⟩:=hrel;have hBr:wr.cell? ⟨Bs,0,none⟩=some (.slice (some ⟨H,0,none⟩) N N):=(World.cell?_of_block hnx.2.2).trans hBs;rcases k with _|k
  ·gi_wp2
   go_end0
   exact⟨⟨_,rfl⟩,.inl ⟨_,rfl,hJs⟩⟩
  ·rw[show((k+1:Nat):Int) - 1=(k:Int) by omega];obtain⟨A',n',c',hv⟩:=l_5 N g o cp p k;have hcx:wr.cell? ⟨H,k,none⟩=some (.slice A' n' c'):=(World.cell?_of_block hnx.2.1).trans ((hc.cell k).trans (by simp[tcs,show k<N by omega,hv]));have hfe:fromEndT N (N - (k+1))=k:=by unfold fromEndT;omega
   obtain⟨fn,tmps,assign,body,hy,hR⟩:=hY _ k wr hJs (by rw[g_5];omega);rw[l_9 (by omega),hv]at hy;have u1:(0:Int)<=(k:Int):=by omega
   have u2:(k:Int)<(N:Int):=by omega
   clear hv
   gi_wp2
   refine hR.mono ?_;rintro e W3 (⟨rfl,hJ3,hk3⟩|⟨rfl,hJx3⟩)
   ·gi_wp2
    go_roundw
    case rel=>exact⟨k,by omega,by simp,by rw[show N - k=(N - (k+1))+1 by omega,d_8,hfe];exact hJ3,k_z hnx hk3⟩
    case measure=>simp[intOf]
   ·gi_wp2
    refine bodyPost_ret (results_none rfl _ _ _) rfl ?_;exact⟨⟨_,rfl⟩,.inr ⟨_,⟨N - (k+1)+1,by omega,by rw[d_8,hfe]⟩,hJx3⟩⟩
theorem n_m (A:Option Addr)(len cap:Nat)(w:World):
  Calls Tryz.prog 160 #[.slice A len cap] w fun e w'=>e= .returned (.func (.func 189) #[] #[.pointer (some ⟨w.heap.size,0,none⟩)])/\w'=w.alloc (.cells #[.slice A len cap] 99):=by
 go_enter Tryz.func160,Tryz.ntmps160
 go_wp2_with fail
 go_ret
 exact⟨rfl,rfl⟩
theorem h_x (F:Fence)(n:Nat)(h7:F.fn 189)(hro:F.round=none)(hn:1<=n)(Bs H N:Nat)(g o cp:Nat->Nat)(p:Nat->Option Nat)(hN:N<=1048576)(w:World)(hBs:Bs<w.heap.size)
  (hc:w.cell? ⟨Bs,0,none⟩=some (.slice (some ⟨H,0,none⟩) N N)) (hI:Bx w H 25 (tcs N g o cp p)):
  SeqStopsK F n Tryz.prog 189 #[.pointer (some ⟨Bs,0,none⟩)] (fun x:Nat=>targs N g o cp p x) (KeepT H Bs) (fun ys=>ys=upto (fromEndT N) N)
   (fun pre=>∃k,k<=N/\pre=upto (fromEndT N) k) N w:=fun l J Jx W hW _ _ hY h0=>
 l_v F n h7 hro hn l Bs H N g o cp p hN J Jx hY W ((hW.cell (p:=⟨Bs,0,none⟩) hBs).trans hc) (hI.below hW) h0
theorem l_3 {W:World}{r:Nat}(h:∃o:Obj,W.heap[r]? =some o/\o.isCells=false):Wless W r:=fun p m hp hc=>by
 obtain⟨o,h1,h2⟩:=h;obtain⟨o',h3,h4⟩:=cells_of_cell hc;rw[hp,h1]at h3;cases h3;rw[h2]at h4;cases h4
section
variable {W W':World}{row:Option Nat}{b n w':Nat}{g o:Nat->Nat}{F:Nat->Nat->Int}
theorem Rws.kept {V:Nat}(h:Rws b W n V g o F)(hg:W.grownBy W' row)(hr:∀r,row=some r->∃o:Obj,W.heap[r]? =some o/\o.isCells=false):Rws b W' n V g o F:=by
 cases row with
 |none=>exact h.below ⟨hg.os,hg.tape,hg.output,hg.size,fun k hk=>hg.block k hk (by simp)⟩
 |some r=>
  refine h.gro (fun a ha e=>?_) (l_3 (hr r rfl)) hg;obtain⟨cs,h1,-⟩:=(h.row a ha).ex;obtain⟨o',h2,h3⟩:=hr r rfl;rw[e,h2]at h1;cases h1;cases h3
theorem Bx.kept {x:Nat}{T:TypeId}{cs:List Value}(h:Bx W x T cs)(hg:W.grownBy W' row)(hr:∀r,row=some r->∃o:Obj,W.heap[r]? =some o/\o.isCells=false):Bx W' x T cs:=by
 refine(hg.block x h.lt fun e=>?_).trans h;obtain⟨o',h2,h3⟩:=hr x e.symm;unfold Bx at h;rw[h2]at h;cases h;cases h3
theorem Chg.grow {w:World}(h:Chg w W n g)(hg:W.grownBy W' row)(hr:∀r,row=some r->w.heap.size<=r):Chg w W' n g:=
 ⟨hg.os.trans h.os,hg.tape.trans h.tape,hg.output.trans h.output,Nat.le_trans h.size hg.size,fun k hk hn=>(hg.block k (Nat.lt_of_lt_of_le hk h.size) (fun e=>by have:=hr k e.symm;omega)).trans (h.block k hk hn)⟩
end
def SePost (b:Nat)(w:World)(n W:Nat)(g o:Nat->Nat)(F':Nat->Nat->Int)(e:Ending)(w':World):Prop:=
 e= .returned (.tuple #[])/\Rws b w' n W g o F'/\Chg w w' n g
def stls (p:Nat->Option Nat)(W:Nat)(F:Nat->Nat->Int)(pre:List Nat):Nat->Nat->Int:=pre.foldl (fun F x=>DT.stl p W x F) F
theorem g_c {p:Nat->Option Nat}{W:Nat}{F:Nat->Nat->Int}{pre:List Nat}{x:Nat}:stls p W F (pre++[x])=DT.stl p W x (stls p W F pre):=by
 unfold stls;rw[List.foldl_append,List.foldl_cons,List.foldl_nil]
theorem q_1 {N W X:Nat}{F:Nat->Nat->Int}{p:Nat->Option Nat}(h:DT.SetO N W X F F p)(pre:List Nat):DT.SetO N W X F (stls p W F pre) p:=by
 have:∀(pre:List Nat) (G:Nat->Nat->Int),DT.SetO N W X F G p->DT.SetO N W X F (pre.foldl (fun F x=>DT.stl p W x F) G) p:=fun pre=>by
  induction pre with
  |nil=>intro G h;exact h
  |cons x pre ih=>intro G h;exact ih _ (h.step x)
 exact this pre F h
theorem h_6 {N W:Nat}{F:Nat->Nat->Int}{p:Nat->Option Nat}(h:DT.Sets N W W F F p):∀k,k<=W->DT.Sets N W (W - k) F (stls p W F (upto (fromEndT W) k)) p
 |0,_=>h
 |k+1,hk=>by
  have ih:=h_6 h k (by omega);rw[d_8,g_c];have e:fromEndT W k=W - (k+1):=by unfold fromEndT;omega
  rw[e];rw[show W - k=(W - (k+1))+1 by omega]at ih;exact ih.step (by omega)
theorem m_e {b n N W H X M β:Nat}{g o cp:Nat->Nat}{F:Nat->Nat->Int}{p:Nat->Option Nat}{w:World}(bx:Bx w H 25 (tcs W g o cp p))(r:Rws b w n W g o F)(hb:b<=w.heap.size)(hN:N<=n)(hS:DT.SetO N W X F F p)(hcp:∀a,a<N->W<=cp a/\cp a<=9223372036854775807)(hW:W<=1048576)
  (hM:∀F',DT.SetO N W X F F' p->∀k a,k<W->p k=some a->Bd W M (F' a)) (hβ:M+W*(M+1)<=β) (hK:β+M+3<=549755813888):
  Calls Tryz.prog 126 #[.slice (some ⟨H,0,none⟩) W W] w (SePost b w n W g o (stls p W F (upto (fromEndT W) W))):=by
 have HBX:=Lib.hid bx;have HR:=Lib.hid r;have HS:=Lib.hid hS;have HM:=Lib.hid hM;have hHl:=bx.lt;have HNH:=Lib.hid (fun a (ha:a<n)=>r.ne bx (by decide) ha);have HGL:=Lib.hid (fun a (ha:a<n)=>(r.row a ha).lt);have HB_:=Lib.hid hβ;clear bx r hS hM hβ;refine(callsIn_wide (n:=5)).1 ?_;refine callsIn_of_wp_marks Tryz.func126 rfl trivial ?_ rfl;simp only[Tryz.ntmps126,List.size_toArray,List.length_cons,List.length_nil,Nat.reduceAdd,Nat.reduceSub,Array.replicate_succ,Array.replicate_zero,List.push_toArray,List.append_toArray,List.nil_append,List.cons_append]
 gi_wp2_with fail
 refine⟨trivial,(callsIn_wide.2 (n_m (some ⟨H,0,none⟩) W W _)).mono ?_⟩;rintro e w2 ⟨rfl,rfl⟩;obtain⟨W2,hW2⟩:∃W2,(w.alloc (.cells #[.slice (some ⟨H,0,none⟩) W W] 99)).alloc (.cells #[.slice (some ⟨H,0,none⟩) W W] 99)=W2:=⟨_,rfl⟩;have bT:Bx W2 w.heap.size 99 [.slice (some ⟨H,0,none⟩) W W]:=by rw[<-hW2];exact(Bx.new w _ _).below (zba _ _)
 have bI:Bx W2 (w.heap.size+1) 99 [.slice (some ⟨H,0,none⟩) W W]:=by
  rw[<-hW2]
  have:=Bx.new (w.alloc (.cells #[.slice (some ⟨H,0,none⟩) W W] 99)) 99 [.slice (some ⟨H,0,none⟩) W W];simpa using this
 have hB2:Below w.heap.size w W2:=by rw[<-hW2];exact zba2 _ _ _
 have sz2:W2.heap.size=w.heap.size+1+1:=by rw[<-hW2];simp
 simp only[World.size_alloc];rw[hW2];clear hW2
 gi_wp2_with fail
 refine wpIn_rangeFunc_ownG rfl (by omega) (gf:=189) (lb:=#[.pointer (some ⟨w.heap.size+1,0,none⟩)]) rfl trivial (enters_of Tryz.func189 (by kernel_rfl) rfl)
  (h_x Fence.wide _ trivial rfl (by omega) (w.heap.size+1) H W g o cp p hW W2 (by omega) (bI.cell 0) (HBX.out.below hB2)) k_z (p_x (by omega) (by omega)) (Below.refl _ _) (fun _=>rfl)
  (fun pre V=>((Rws b V n W g o (stls p W F pre)/\Bx V H 25 (tcs W g o cp p))/\Bx V w.heap.size 99 [.slice (some ⟨H,0,none⟩) W W])/\(Chg w V n g/\w.heap.size+2<=V.heap.size))
  (fun _ _ _=>False)
  (OwnFrom.and (OwnFrom.and (OwnFrom.and (Own.from (fun _ _ _ _ hs hg hr=>hs.kept hg hr) _) (Own.from (fun _ _ _ _ hs hg hr=>hs.kept hg hr) _)) (Own.from (fun _ _ _ _ hs hg hr=>hs.kept hg hr) _)) (OwnFrom.and (fun _ _ _ _ hs hg hr=>hs.grow hg (fun r e=>by have:=(hr r e).1;omega)) (fun _ _ _ _ hs hg _=>Nat.le_trans hs hg.size)))
  (fun _ _ _ _ _ hs _ _=>hs)
  ⟨⟨⟨HR.out.below hB2,HBX.out.below hB2⟩,bT⟩,.of hB2,by omega⟩
  (fun x=>{ tmps:=#[.slice (some ⟨H,0,none⟩) W W,.pointer (some ⟨w.heap.size,0,none⟩),.int .i64 (tix W x:Int),tvx W g o cp p x,.slice (some ⟨H,0,none⟩) W W,.func (.func 189) #[] #[.pointer (some ⟨w.heap.size+1,0,none⟩)],.int .i64 (tix W x:Int),tvx W g o cp p x,undef,undef,undef,undef,undef],defers:=[] }) ?assign ?body ?done ?stop
 case assign=>
  intro l x V K hK;unfold targs
  gi_wp2_with fail
  exact hK
 case body=>
  rintro l pre x V ⟨⟨⟨hR,hB⟩,hT⟩,hC,hsz⟩ hlen;have hSO:=q_1 HS.out pre;have HRv:=Lib.hid hR;have HBv:=Lib.hid hB;have HTv:=Lib.hid hT;have HCv:=Lib.hid hC;have cT:=hT.cell 0;simp only[List.getElem?_cons_zero]at cT;obtain⟨i,hi⟩:∃i,tix W x=i:=⟨_,rfl⟩;have hi2:i<=W:=by rw[<-hi];unfold tix;split<;>omega
  have hwi:IntKind.i64.wrap ((i:Int)+1)=((i+1:Nat):Int):=by rw[IntKind.wrap_i64];omega
  have hsn:=g_c (p:=p) (W:=W) (F:=F) (pre:=pre) (x:=x);have HSN:=Lib.hid hsn;have HSO:=Lib.hid hSO;rw[hi];clear hR hB hT hC hSO hsn;have hcase:(∃a,x<W/\i=x/\p x=some a)\/(tvx W g o cp p x= .slice none 0 0/\DT.stl p W x (stls p W F pre)=stls p W F pre):=by
   by_cases hx:x<W
   ·cases hp:p x with
    |none=>right;rw[DT.stl_none hp];exact⟨by unfold tvx tvl;rw[if_pos hx,hp],rfl⟩
    |some a=>left;exact⟨a,hx,by rw[<-hi];unfold tix;rw[if_pos hx],rfl⟩
   ·right;rw[DT.stl_off hx];exact⟨by unfold tvx;rw[if_neg hx],rfl⟩
  rcases hcase with⟨a,hx,rfl,hpa⟩|⟨h1,h2⟩
  ·have hv:tvx W g o cp p i=rwV (g a) (o a) W (cp a):=by unfold tvx tvl;rw[if_pos hx,hpa]
   rw[hv];have haN:=HSO.out.tri.lt i a hx hpa;have hne:∀k c,i+1<=k->k<W->p k=some c->c≠a:=fun k c h1 h2 hc e=>by
    subst e
    have:=HSO.out.tri.inj k i c h2 hx hc hpa;omega
   have hbM:=HM.out _ HSO.out;have hC:=i_d (ca:=cp a) (lo:=i+1) (κ:=M) (β:=β) HBv.out HRv.out (by have:=HCv.out.size;omega) HSO.out.tri hN (by omega) hne hx hW (fun j hj=>by
    have h3:=p_f (lo:=i+1) (f:=stls p W F pre a) (β:=fun j=>M+j*(M+1)) HSO.out.tri (by simpa using hbM i a hx hpa) (fun j=>by have:=Nat.add_mul j 1 (M+1);show _+j*(M+1)<=_+(j+1)*(M+1);omega) (fun j c hj hc=>.inr ⟨M,hbM _ c hj hc,by have:=Nat.add_mul j 1 (M+1);show _+j*(M+1)+M+1<=_+(j+1)*(M+1);omega⟩) j hj;refine h3.mono ?_;show M+j*(M+1)<=β
    have h4:j*(M+1)<=W*(M+1):=Nat.mul_le_mul_right _ (by omega)
    have:=HB_.out;omega) (fun k c _ hk hc=>hbM k c hk hc) hK
   have HC:=Lib.hid hC;have hst:=DT.stl_some (F:=stls p W F pre) hx hpa;have HST:=Lib.hid hst;clear hv hne hbM hC hst hi
   gi_wp2_with fail
   refine⟨trivial,(CallsIn.inRound l (callsIn_wide.2 HC.out)).mono ?_⟩;rintro e W3 ⟨rfl,hR3,hG3⟩;have P:KeepsFrom W2.heap.size V W3/\KeepT H (w.heap.size+1) V W3/\(((Rws b W3 n W g o (stls p W F (pre++[i]))/\Bx W3 H 25 (tcs W g o cp p))/\Bx W3 w.heap.size 99 [.slice (some ⟨H,0,none⟩) W W])/\(Chg w W3 n g/\w.heap.size+2<=W3.heap.size)):=by
    have hga:=HGL.out a (by omega);have hnH:=HNH.out a (by omega);have hs3:=hG3.size;refine⟨KeepsFrom.of_grownBy hG3 (fun j e=>by cases e;omega),⟨hG3.size,hG3.block H (by omega) (fun e=>hnH (Option.some.inj e).symm),hG3.block _ (by omega) (fun e=>by have:=Option.some.inj e;omega)⟩,⟨⟨?_,a_t HBv.out hG3 (Ne.symm hnH)⟩,a_t HTv.out hG3 (by omega)⟩,HCv.out.trans (Chg.one (by omega) hG3),by omega⟩;rw[HSN.out,HST.out];exact hR3
   clear HC hR3 hG3
   gi_wp2_with fail
   exact P
  ·rw[h1];have HST:=Lib.hid h2;clear h1 h2 hi
   gi_wp2_with fail
   refine⟨trivial,(CallsIn.inRound l (callsIn_wide.2 (i_7 (W:=W) (H:=H) (lo:=i+1)))).mono ?_⟩;rintro e W3 ⟨rfl,B3⟩;have P:KeepsFrom W2.heap.size V W3/\KeepT H (w.heap.size+1) V W3/\(((Rws b W3 n W g o (stls p W F (pre++[x]))/\Bx W3 H 25 (tcs W g o cp p))/\Bx W3 w.heap.size 99 [.slice (some ⟨H,0,none⟩) W W])/\(Chg w W3 n g/\w.heap.size+2<=W3.heap.size)):=by
    have hs3:=B3.size;refine⟨KeepsFrom.of_grownBy (a_2 B3 none) (fun j e=>by cases e),⟨B3.size,B3.block H (by omega),B3.block _ (by omega)⟩,⟨⟨?_,HBv.out.below B3⟩,HTv.out.below B3⟩,HCv.out.trans (.of B3),by omega⟩;rw[HSN.out,HST.out];exact HRv.out.below B3
   clear B3
   gi_wp2_with fail
   exact P
 case done=>
  rintro D ys V hD rfl ⟨⟨⟨hR,hB⟩,hT⟩,hC,hsz⟩ hK
  gi_wp2_with fail
  refine⟨by simp,.inl ⟨_,_,rfl,run_takeDeferred hK, ?_⟩⟩;have kk:∀r,some D=some r->∃o:Obj,V.heap[r]? =some o/\o.isCells=false:=fun r e=>by cases e;exact⟨_,hK,rfl⟩
  refine⟨.tuple #[],by simp[results,Tryz.results126,go_sem],rfl,hR.kept (grownBy_putObj' V D (.deferred none)) kk,hC.grow (grownBy_putObj' V D (.deferred none)) (fun r e=>by cases e;omega)⟩
 case stop=>
  rintro D c pre V _ _ h _;exact h.elim
end
section
open Go.RowKit
def tm (k W:Nat):Nat:=(k+1)*W+1
def tE (k W:Nat):Nat:=k+(W+1)*((W+1)*(tm k W+1))
def t0 (k W:Nat):Nat:=2*tE k W+2*tm k W+5
def t1 (k W:Nat):Nat:=t0 k W+tm k W
theorem n_7 {k W R:Nat}{A:Nat->Nat->Int}(hA:∀a,a<R->Bd W k (A a))(r:Nat)(f q:Nat->Nat)(hf:∀i,i<r->f i<R)(hq:∀i,i<r->q i<W):(DT.det r fun i j=>A (f i) (q j)).natAbs<=(r*18446744073709551616^k)^r:=
 DT.det_abs _ _ _ fun i j hi hj=>Nat.le_of_lt (hA _ (hf i hi) _ (hq j hj))
theorem r_b {k W r:Nat}(hr:r<=W)(hW:W<=1048576):r*(r*18446744073709551616^k)^r<18446744073709551616^tm k W:=by
 have h1:r*18446744073709551616^k<=18446744073709551616^(k+1):=by
  rw[Nat.pow_succ,Nat.mul_comm];exact Nat.mul_le_mul_left _ (by omega)
 have h2:(r*18446744073709551616^k)^r<=18446744073709551616^((k+1)*W):=by
  refine Nat.le_trans (Nat.pow_le_pow_left h1 r) ?_;rw[<-Nat.pow_mul];exact g_h (Nat.mul_le_mul_left _ hr)
 unfold tm;rw[Nat.pow_succ,Nat.mul_comm];exact Nat.lt_of_le_of_lt (Nat.mul_le_mul_right r h2) (Nat.mul_lt_mul_of_pos_left (by omega) (Nat.pow_pos (by omega)))
section
variable {k W R N M:Nat}{F F' F0 A:Nat->Nat->Int}{p:Nat->Option Nat}
theorem o_0 (h:DT.SetO N W (18446744073709551616^M) F0 F p)(e:∀v,DT.Lat N W F0 v↔DT.Lat R W A v)(hA:∀a,a<R->Bd W k (A a))(hW:W<=1048576){j a:Nat}(hj:j<W)(ha:p j=some a):Bd W (M+tm k W) (F a):=fun i hi=>by
 refine Nat.lt_of_le_of_lt (h.le e (fun f q hf hq=>n_7 hA _ f q hf hq) hj ha hi) ?_;rw[Nat.mul_left_comm,Nat.pow_add];exact Nat.mul_lt_mul_of_pos_left (r_b (DT.rl_len_le p W) hW) (Nat.pow_pos (by omega))
theorem o_z (h:DT.Sets N W 0 F0 F p)(e:∀v,DT.Lat N W F0 v↔DT.Lat R W A v)(hA:∀a,a<R->Bd W k (A a))(hW:W<=1048576){j a:Nat}(hj:j<W)(ha:p j=some a):Bd W (tm k W) (F a):=fun i hi=>
 Nat.lt_of_le_of_lt (h.herm_le e (fun f q hf hq=>n_7 hA _ f q hf hq) hj ha hi) (r_b (DT.rl_len_le p W) hW)
theorem m_0 {i:Nat}(h:∀v,DT.Lat i W F v↔DT.Lat i W A v)(he:F i=A i)(v:Nat->Int):DT.Lat (i+1) W F v↔DT.Lat (i+1) W A v:=by
 have up:∀ {M:Nat->Nat->Int} {v:Nat->Int},DT.Lat i W M v->DT.Lat (i+1) W M v:=fun {M v} hv=>DT.Lat.within (fun a ha=>DT.Lat.row (i+1) W M (by omega)) hv;refine DT.lat_both (fun a ha=>?_) (fun a ha=>?_) v
 ·by_cases e:a=i
  ·subst e;rw[he];exact DT.Lat.row _ _ _ (by omega)
  ·exact up ((h _).mp (DT.Lat.row _ _ _ (by omega)))
 ·by_cases e:a=i
  ·subst e;rw[<-he];exact DT.Lat.row _ _ _ (by omega)
  ·exact up ((h _).mpr (DT.Lat.row _ _ _ (by omega)))
end
structure TrOk (b:Nat) (w:World) (R W H k:Nat) (g o cp:Nat->Nat) (A F:Nat->Nat->Int) (p:Nat->Option Nat) (i:Nat):Prop where
 bx:Bx w H 25 (tcs W g o cp p)
 rws:Rws b w R W g o F
 tri:DT.Tri i W F p
 rst:DT.Rst i W F p
 rdc:DT.Rdc 0 W F p
 lat:∀v,DT.Lat i W F v↔DT.Lat i W A v
 low:∀a,i<=a->F a=A a
 bd:∀j a,j<W->p j=some a->Bd W (tm k W) (F a)
theorem TrOk.below {b R W H k i:Nat}{g o cp:Nat->Nat}{A F:Nat->Nat->Int}{p:Nat->Option Nat}{w w':World}(h:TrOk b w R W H k g o cp A F p i)(hb:Below w.heap.size w w'):TrOk b w' R W H k g o cp A F p i:={ h with bx:=h.bx.below hb,rws:=h.rws.below hb }
def TrPost (b:Nat)(w:World)(R W k:Nat)(g o cp:Nat->Nat)(A:Nat->Nat->Int)(e:Ending)(w':World):Prop:=
 ∃H F p,e= .returned (.slice (some ⟨H,0,none⟩) W W)/\w.heap.size<=H/\TrOk b w' R W H k g o cp A F p R/\Chg w w' R g
theorem o_w {W:Nat}{g o cp:Nat->Nat}:List.replicate W (.slice none 0 0)=tcs W g o cp fun _=>none:=by
 apply List.ext_getElem
 ·rw[List.length_replicate,tcs_len]
 ·intro j h1 h2;simp[tcs,tvl]
theorem q_t {b R W L k:Nat}{g o cp:Nat->Nat}{A:Nat->Nat->Int}{w:World}(bl:Bx w L 25 (rcs R W g o cp))(r:Rws b w R W g o A)(hb:b<=w.heap.size)(hcp:∀a,a<R->W<=cp a/\cp a<=9223372036854775807)(hA:∀a,a<R->Bd W k (A a))(hW:W<=1048576)(hR:R<=1048576)(hK:t1 k W*(W+3)<=68719476736):
  Calls Tryz.prog 82 #[.slice (some ⟨L,0,none⟩) R R,.int .i64 (W:Int)] w (TrPost b w R W k g o cp A):=by
 have HLl:=bl.lt;have HNL:=Lib.hid (fun a (ha:a<R)=>r.ne bl (by decide) ha);have HGL:=Lib.hid (fun a (ha:a<R)=>(r.row a ha).lt);have HBL:=Lib.hid bl;have HR0:=Lib.hid r;have HCP:=Lib.hid hcp;have HA:=Lib.hid hA;have HK:=Lib.hid hK;clear bl r hcp hA hK;go_enter Tryz.func82,Tryz.ntmps82
 go_upto_region 1 with fail
 refine Run.start 3 ?_;refine .mv .o ?_;refine .mkST (.i 0) (T:=99) (r:=W) (b0:=w.heap.size) Tryz.underlying99 (by omega) (Nat.le_refl _) ?_;refine .mf (.i 1) ?_;refine .donep [some 8,some 9,some 5] ?_;intro w2 B2;rintro v9 -;rintro v5 ⟨H,rfl,bh,hH⟩;refine sh [] ?_;simp only[Act.put,lS,lZ,lC];rw[o_w (g:=g) (o:=o) (cp:=cp)]at bh;have HI:Hid (Bx w2 L 25 (rcs R W g o cp)/\Chg w w2 R g/\∃F p,TrOk b w2 R W H k g o cp A F p 0):=Lib.hid ⟨HBL.out.below B2,.of B2,A,fun _=>none,{
  bx:=bh
  rws:=HR0.out.below B2
  tri:=⟨fun _ _ _ h=>(nomatch h),fun _ _ _ _ _ h=>(nomatch h),fun _ _ _ h=>(nomatch h),fun _ _ _ h=>(nomatch h)⟩
  rst:=fun a ha=>by omega
  rdc:=fun _ _ _ _ _ _ _ h=>(nomatch h)
  lat:=fun _=>Iff.rfl
  low:=fun _ _=>rfl
  bd:=fun _ _ _ h=>(nomatch h) }⟩
 clear bh B2
 go_wp2_with fail
 go_loopw [12] (fun s12 wr=>∃i:Nat,s12= .int .i64 (i:Int)/\i<=R/\Hid (Bx wr L 25 (rcs R W g o cp)/\Chg w wr R g/\∃F p,TrOk b wr R W H k g o cp A F p i)) (fun s12 _=>R - (intOf s12).toNat)
 case atStart=>exact⟨0,rfl,Nat.zero_le _,HI⟩
 case round=>
  obtain⟨i,rfl,hiR,HB⟩:=hrel;clear HI;by_cases hlt:i<R
  ·have u2:(i:Int)<(R:Int):=by omega
   obtain⟨bl,hC,F,p,T⟩:=HB.out;have c0:wr.cell? ⟨L,i,none⟩=some (rwV (g i) (o i) W (cp i)):=(bl.cell i).trans (e_j hlt);have hI:=PutI.start (k0:=k) (m:=tm k W) (M:=t0 k W) T.tri T.rst (by rw[T.low i (Nat.le_refl _)];exact HA.out i hlt) T.bd (by unfold t0;omega);have hk1:t0 k W<=t1 k W:=by unfold t1;omega
   have hk2:t1 k W*3<=t1 k W*(W+3):=Nat.mul_le_mul_left _ (by omega);have hk3:5<=t0 k W:=by unfold t0;omega
   have hP:=s_g (E:=tE k W) T.bx T.rws (by have:=hC.size;omega) hlt hI (HCP.out i hlt).1 (HCP.out i hlt).2 hW (Nat.le_refl _) (by unfold t0;omega) (by have:=HK.out;omega);have HP:=Lib.hid hP;have HC:=Lib.hid hC;have HT:=Lib.hid T;have HBl:=Lib.hid bl;clear hP hI hC T HB
   go_wp2_with fail
   refine HP.out.mono ?_;rintro e w3 ⟨rfl,p',F',hT,hRs,hLt,hlo,hbd,bx3,hR3,hC3⟩;have hHL:L≠H:=by omega
   have bl3:=hC3.bx HBl.out hHL (fun a ha=>HNL.out a ha);have hC3':Chg w w3 R g:=by
    have h1:=HC.out;exact⟨hC3.os.trans h1.os,hC3.tape.trans h1.tape,hC3.output.trans h1.output,Nat.le_trans h1.size hC3.size,fun x hx hn=>(hC3.block x (Nat.lt_of_lt_of_le hx h1.size) (by omega) hn).trans (h1.block x hx hn)⟩
   have hlat:∀v,DT.Lat (i+1) W F' v↔DT.Lat (i+1) W A v:=fun v=>(hLt v).trans (m_0 HT.out.lat (HT.out.low i (Nat.le_refl _)) v);have hSO:=DT.SetO.start (X:=18446744073709551616^t0 k W) hT hRs fun j a l hj hl ha=>Nat.le_of_lt (hbd j a hj ha l hl);have hS:=m_e (M:=t1 k W) (β:=t1 k W+W*(t1 k W+1)) bx3 hR3 (by have:=hC3'.size;omega) (show i+1<=R by omega) hSO (fun a ha=>HCP.out a (by omega)) hW (fun F'' h'' j a hj ha=>o_0 h'' hlat (fun a ha=>HA.out a (by omega)) hW hj ha) (Nat.le_refl _) (by
    have h4:=HK.out;have h5:t1 k W*(W+3)=W*t1 k W+t1 k W*3:=by rw[Nat.mul_add,Nat.mul_comm (t1 k W) W]
    have h6:W*(t1 k W+1)=W*t1 k W+W:=by rw[Nat.mul_add,Nat.mul_one]
    omega)
   have HS:=Lib.hid hS;have HST:=Lib.hid (h_6 (.start hT hRs) W (Nat.le_refl _));have HBX:=Lib.hid bx3;have HBL3:=Lib.hid bl3;have HC3:=Lib.hid hC3';have HLAT:=Lib.hid hlat;have HLO:=Lib.hid hlo;have HNH:=Lib.hid (fun a (ha:a<R)=>hR3.ne bx3 (by decide) ha);clear hS hT hRs hLt hlo hbd bx3 hR3 hC3 hC3' bl3 hSO hlat HP HC HBl c0
   go_wp2_with fail
   refine HS.out.mono ?_;rintro e w4 ⟨rfl,hR4,hC4⟩;have HI:Hid (Bx w4 L 25 (rcs R W g o cp)/\Chg w w4 R g/\∃F p,TrOk b w4 R W H k g o cp A F p (i+1)):=by
    have hst:=HST.out;rw[Nat.sub_self]at hst;exact Lib.hid ⟨hC4.bx HBL3.out (fun a ha=>HNL.out a ha),HC3.out.trans hC4,_,p',{
     bx:=hC4.bx HBX.out (fun a ha=>HNH.out a ha)
     rws:=hR4
     tri:=hst.tri
     rst:=hst.rst
     rdc:=hst.rdc
     lat:=fun v=>(hst.lat v).trans (HLAT.out v)
     low:=fun a ha=>by
      rw[hst.low a (fun j hj e=>by have:=hst.tri.lt j a hj e;omega),HLO.out a (by omega)];exact HT.out.low a (by omega)
     bd:=fun j a hj ha=>o_z hst HLAT.out (fun a ha=>HA.out a (by omega)) hW hj ha }⟩
   clear HS hR4 hC4 HST HBX HBL3 HC3 HLAT HLO HNH HT
   go_wp2_with fail
   go_roundw
   case rel=>exact⟨i+1,by go_num,by omega,HI⟩
   case measure=>first|(simp[intOf];done)|(simp[intOf];omega)
  ·obtain rfl:i=R:=by omega
   have u2:¬(i:Int)<(i:Int):=by omega
   have P:Hid (TrPost b w i W k g o cp A (.returned (.slice (some ⟨H,0,none⟩) W W)) wr):=by
    obtain⟨bl,hC,F,p,T⟩:=HB.out;exact Lib.hid ⟨H,F,p,rfl,hH,T,hC⟩
   clear HB
   go_wp2_with fail
   exact bodyPost_ret (v:=.slice (some ⟨H,0,none⟩) W W) (by simp[results,Tryz.results82,go_sem]) rfl P.out
end
end Go.Proofs.YtfhbdlegkdbmfaaGreat
