/- Pq14 -/
import Derived.Test.YtfhbdlegkdbmfaaGreatPq13
import Derived.Deep.DeepCutAuto
set_option linter.unusedVariables false
set_option linter.unusedSimpArgs false
set_option linter.unusedSectionVars false
set_option maxRecDepth 100000
set_option maxHeartbeats 8000000
namespace Go.Proofs.YtfhbdlegkdbmfaaGreat
section
open Go.RowKit
theorem h_z {P:Program}(w:World){ops:Array Oper}{rest:List Oper}{o:Oper}{a:Act}{Q:Exit->Act->World->Prop}
  (hg:o.guard=none) (l c:Operand) (t:TypeId) (hop:o.op=Op.makeSlice t l c)
  (ht:P.underlying t=some (.slice 31)) (hinfo:(P.info? 31).map (fun i=>(i.zero,i.size,i.bytes))=some (some (.agg #[.bool false,.slice none 0 0]),2,32))
  (n:Nat) (hl:a.eval l= .int .i64 0) (hc:a.eval c= .int .i64 (n:Int)) (hbytes:n<=8796093022208)
  (hK:∀w',ZB w' w.heap.size 0 (List.replicate n 0)->Below w.heap.size w w'->w'.heap.size=w.heap.size+1->wpList P ops Q rest (a.put o.dst (.slice (some ⟨w.heap.size,0,none⟩) 0 n)) w'):
  wpList P ops Q (o::rest) a w:=by
 obtain⟨i,hi,hz0,hz1,hz2⟩:=info_parts hinfo;have hrun:=run_make (P:=P) w t 31 i (.agg #[.bool false,.slice none 0 0]) ht hi hz0 .i64 .i64 0 (n:Int) (by omega) (by omega) (by rw[hz2];omega) (by omega);refine wpList_plain hg fun K hK'=>?_;unfold Oper.wp;simp[execOp,hop,hl,hc,hrun,Result.andThen];refine hK' _ _ (hK _ ?_ ((Below.refl _ _).alloc (Nat.le_refl _) _) (by simp));rw[hz1];exact ZB.made w n
theorem Bx.now {w:World}{g:Nat}{T:TypeId}{cs:List Value}(b:Bx w g T cs)(h:∀v,v∈cs->∀m:Int,v≠ .int .u64 m):Wless w g:=fun p m hp hc=>by
 have e:w.cell? p=cs[p.off]? \/w.cell? p=none:=by
  unfold World.cell?;rw[hp,b];by_cases hs:p.spot=none
  ·left;simp[hs]
  ·right;simp[hs]
 rcases e with e|e
 ·rw[e]at hc;exact h _ (List.mem_of_getElem? hc) m rfl
 ·rw[e]at hc;cases hc
theorem ZL.apart {q:Bool}{w:World}{ad:Addr}{n c k g:Nat}{zs:List Int}{T:TypeId}{cs:List Value}(h:ZL q w (some ad) n c k zs)(h0:0<n)(b:Bx w g T cs)(hb:∀v,v∈cs->∀s,v≠ .bool s):ad.block≠g:=fun e=>by
 obtain⟨s,A,m,d,h1,_⟩:=h.elem h0;rw[Nat.zero_mul,a_j]at h1;have e1:w.cell? ad=cs[ad.off]? \/w.cell? ad=none:=by
  unfold World.cell?;rw[e,b];by_cases hs:ad.spot=none
  ·left;simp[hs]
  ·right;simp[hs]
 rcases e1 with e1|e1
 ·rw[e1]at h1;exact hb _ (List.mem_of_getElem? h1) s rfl
 ·rw[e1]at h1;cases h1
theorem ZL.box {q:Bool}{w w':World}{A:Option Addr}{n c k g:Nat}{zs:List Int}{T:TypeId}{cs:List Value}(h:ZL q w A n c k zs)(b:Bx w g T cs)(hb:∀v,v∈cs->∀s,v≠ .bool s)(hw:∀v,v∈cs->∀m:Int,v≠ .int .u64 m)(hg:w.grownBy w' (some g)):ZL q w' A n c k zs:=by
 by_cases h0:0<n
 ·obtain⟨ad,e,_⟩:=h.at' h0;subst e;exact h.gro (fun a ha=>by cases ha;exact h.apart h0 b hb) (b.now hw) hg
 ·exact⟨h.len,h.le,h.cap,fun h1=>absurd h1 h0⟩
def mput (w:World)(g:Nat)(r c:Int)(A:Option Addr)(n d:Nat):World:=((w.setCell ⟨g,0,none⟩ (.int .i64 r)).setCell ⟨g,1,none⟩ (.int .i64 c)).setCell ⟨g,2,none⟩ (.slice A n d)
theorem a_h (w:World)(g:Nat)(r c:Int)(A:Option Addr)(n d:Nat):w.grownBy (mput w g r c A n d) (some g):=a_d (q:=⟨g,2,none⟩) (a_d (q:=⟨g,1,none⟩) (a_d (q:=⟨g,0,none⟩) (a_m w (some g)) rfl _) rfl _) rfl _
theorem b_4 {b g:Nat}{w w2:World}{r c:Int}{A:Option Addr}{n d:Nat}(h:Below b w w2)(hg:b<=g):Below b w (mput w2 g r c A n d):=((h.setCell hg _).setCell hg _).setCell hg _
theorem Mt.box {q:Bool}{w w':World}{A:Option Addr}{r c n d k g:Nat}{F:Nat->Nat->Int}{T:TypeId}{cs:List Value}(h:Mt q w r c A n d k F)(b:Bx w g T cs)(hb:∀v,v∈cs->∀s,v≠ .bool s)(hw:∀v,v∈cs->∀m:Int,v≠ .int .u64 m)(hg:w.grownBy w' (some g)):Mt q w' r c A n d k F:=⟨h.zl.box b hb hw hg,h.hr,h.hc⟩
theorem Mt.put {q:Bool}{w:World}{A B:Option Addr}{r c n d k g m e:Nat}{x y r' c':Int}{C:Option Addr}{n' d':Nat}{F:Nat->Nat->Int}(h:Mt q w r c A n d k F)(b:Bx w g 27 [.int .i64 x,.int .i64 y,.slice B m e]):Mt q (mput w g r' c' C n' d') r c A n d k F:=
 h.box b (by simp) (by simp) (a_h _ _ _ _ _ _ _)
theorem retME {q:Bool}{w w2:World}{A B:Option Addr}{r c n d k g m e:Nat}{x y:Int}{F:Nat->Nat->Int}(h:Mt q w2 r c A n d k F)(b:Bx w2 g 27 [.int .i64 x,.int .i64 y,.slice B m e])(hg:w.heap.size<=g)(hB:Below w.heap.size w w2):
  RetK (kT (kM q r c k F) (.k (.int .i64 0))) w (.returned (.tuple #[.agg #[.int .i64 (r:Int),.int .i64 (c:Int),.slice A n d],.int .i64 0])) (mput w2 g (r:Int) (c:Int) A n d):=⟨_,rfl,⟨_,_,rfl,⟨A,n,d,rfl,h.put b⟩,rfl⟩,b_4 hB hg⟩
def noM (e:Int):FK:=.k (.tuple #[.agg #[.int .i64 0,.int .i64 0,.slice none 0 0],.int .i64 e])
def IsOne (b:Nat)(z:Int)(k:Nat):FVal:=fun v w=>∃g s A n c,v= .slice (some ⟨g,0,none⟩) 1 1/\Bx w g 31 [.bool s,.slice A n c]/\b<=g/\Zc w s A n c z/\n<=k
def kOne (b:Nat)(z:Int)(k:Nat):FK:=.f (IsOne b z k) (fun v w w' ⟨g,s,A,n,c,e,h1,h2,h3,h4⟩ hb=>⟨g,s,A,n,c,e,h1.below hb,h2,h3.below hb,h4⟩)
theorem o_s {w:World}{s:Bool}{A:Option Addr}{n c:Nat}:(Instr.buildSlice 25 1 #[(0,.agg #[.bool s,.slice A n c])]).run Tryz.prog w= .ok (.slice (some ⟨w.heap.size,0,none⟩) 1 1) (w.alloc (.cells #[.bool s,.slice A n c] 31)):=by kernel_rfl
def bsX (o:Op):Operand:=match o with| .buildSlice _ _ xs=>(match xs.toList with|(_,x)::_=>x| []=>.func 0)|_=>.func 0
def okBs (ops:Array Oper)(m i:Nat)(s:Src):Bool:=okH ops m i&&(match(opAt ops i).op with| .buildSlice T 1 xs=>(match xs.toList with| [(0,x)]=>T==25&&s.ok ops m i x|_=>false)|_=>false)
theorem Run.bs {ops:Array Oper}{Q:Exit->Act->World->Prop}{m i:Nat}{a0:Act}{w0:World}{l:List FK}{b:Bool}{id:Nat}(s:Src){z:Int}{k b0:Nat}(hb0:b0<=w0.heap.size)(rest:R ops Q m a0 w0 b id (kOne b0 z k::l) (i+1))
  (hx:s.K l i a0 (bsX (opAt ops i).op)=kC z k:=by rfl) (hc:okBs ops m i s=true:=by kernel_rfl) (hg:Gd l i (opAt ops i):=by first|exact trivial|exact rfl):R ops Q m a0 w0 b id l i:=by
 unfold okBs at hc;rw[Bool.and_eq_true]at hc;obtain⟨h1,h2⟩:=hc;refine Run.mem (x:=kOne b0 z k) (fun a w h=>?_) rest (FK.fne _) h1 hg;split at h2
 ·rename_i T xs e;split at h2
  ·rename_i x ex;obtain⟨ys⟩:=xs;simp only at ex;subst ex;have e0:bsX (opAt ops i).op=x:=by rw[e];rfl
   rw[e0]at hx;rw[Bool.and_eq_true,beq_iff_eq]at h2;obtain⟨rfl,h2⟩:=h2
   have:=h.src h2;rw[hx]at this;obtain⟨s',A,n,c,ev,hz,hk⟩:=this;have B:=zba w (.cells #[.bool s',.slice A n c] 31);refine⟨_,_, ?_,⟨w.heap.size,s',A,n,c,rfl,Bx.new w _ _,Nat.le_trans hb0 h.below.size,hz.below B,hk⟩,B⟩;unfold execOp;rw[e];simp only[List.map_toArray,List.map_cons,List.map_nil,ev];simp[o_s]
  ·cases h2
 ·cases h2
def IsZw (b n k:Nat)(zs:List Int):FVal:=fun v w=>∃g,v= .slice (some ⟨g,0,none⟩) n n/\ZB w g k zs/\b<=g
def kZw (b n k:Nat)(zs:List Int):FK:=.f (IsZw b n k zs) (fun v w w' ⟨g,e,h1,h2⟩ hb=>⟨g,e,h1.below hb,h2⟩)
theorem w_j {r c k:Nat}{f:FuncId}{first captured:Array Value}{F:Nat->Nat->Int}{w:World}(hr:r<=64)(hc:c<=64)(hgo:goes f=true)
  (H:∀i j W,i<r->j<c->Below w.heap.size w W->Calls Tryz.prog f (first++ #[.int .i64 (i:Int),.int .i64 (j:Int)]++captured) W (RetK (kC (F i j) k) W)):
  Calls Tryz.prog 122 #[.int .i64 (r:Int),.int .i64 (c:Int),.func (.func f) first captured] w (RetK (kZw w.heap.size (r*c) k (mk r c F)) w):=by
 have HF:=Lib.hid H;obtain⟨N,hN⟩:∃N,r*c=N:=⟨_,rfl⟩;have hN2:N<=4096:=by rw[<-hN];exact Nat.mul_le_mul hr hc
 have e12:(r:Int)*(c:Int)=(N:Int):=by rw[<-hN];simp
 have HN:=Lib.hid hN;rw[HN.out];clear H hN;go_enter Tryz.func122,Tryz.ntmps122
 go_wp2_with (at_make;refine h_z _ rfl _ _ 25 rfl Tryz.underlying25 info_zint N rfl rfl (by omega) ?_)
 intro w2 hb B2 s2;have HB:Hid (Below w.heap.size w w2/\ZB w2 w.heap.size k (fil (mk r c F) 0)):=
  Lib.hid ⟨B2,by rw[m_v,d_q,HN.out];exact hb.mono (Nat.zero_le _)⟩
 clear hb B2 s2 e12
 go_wp2_with fail
 go_loopw [7,15] (fun s7 s15 wr=>∃i:Nat,s7= .slice (some ⟨w.heap.size,0,none⟩) (i*c) N/\s15= .int .i64 (i:Int)/\i<=r/\Hid (Below w.heap.size w wr/\ZB wr w.heap.size k (fil (mk r c F) (i*c)))) (fun _ s15 _=>r - (intOf s15).toNat)
 case atStart=>exact⟨0,by rw[Nat.zero_mul],rfl,Nat.zero_le _,by rw[Nat.zero_mul];exact HB⟩
 case round=>
  clear HB;obtain⟨i,rfl,rfl,hi,HB⟩:=hrel;by_cases hlt:i<r
  ·have u1:(i:Int)<(r:Int):=by omega
   go_wp2_with fail
   go_loopw [7,19] (fun s7 s19 wq=>∃j:Nat,s7= .slice (some ⟨w.heap.size,0,none⟩) (i*c+j) N/\s19= .int .i64 (j:Int)/\j<=c/\Hid (Below w.heap.size w wq/\ZB wq w.heap.size k (fil (mk r c F) (i*c+j)))) (fun _ s19 _=>c - (intOf s19).toNat)
   case atStart=>exact⟨0,rfl,rfl,Nat.zero_le _,HB⟩
   case round=>
    clear HB;obtain⟨j,rfl,rfl,hj,HB⟩:=hrel;by_cases hjl:j<c
    ·have u2:(j:Int)<(c:Int):=by omega
     go_upto_region 8 with fail
     obtain⟨B0,hb⟩:=HB.out;refine Run.start 6 ?_;refine .mv .o ?_;refine .mv .o ?_;refine .mv .o ?_;refine .mv .o ?_;refine .cv2 (.i 1) (.i 2) (.i 3) (x:=kC (F i j) k) rfl hgo (by rintro u v w4 hB rfl rfl;exact HF.out i j w4 hlt hjl (zup B0 hB)) ?_;refine .bs (.i 4) (Nat.le_refl _) ?_;refine .donep [some 22,some 23,some 24,some 25,some 26,some 27] ?_;intro w4 B4;rintro v0 -;rintro v ⟨g,s_,A_,n_,c_,rfl,bg,hge,hz,hk⟩;refine sh [_,_] ?_;simp only[Act.put,lS,lZ,lC];have hm:=q_p hlt hjl;have hL:(fil (mk r c F) (i*c+j)).length=N:=by rw[e_h (by rw[d_q];omega),d_q,HN.out]
     have hlt0:=hb.lt
     go_wp2_with (at_builtin;refine g_5 rfl _ _ 25 rfl Tryz.underlying25 info_zint rfl rfl bg hz hk (hb.below B4) (by rw[hL,<-HN.out];exact hm) hL.symm ?_)
     intro w5 hb5 hg5;have HN2:Hid (Below w.heap.size w w5/\ZB w5 w.heap.size k (fil (mk r c F) (i*c+(j+1)))):=by
      refine Lib.hid ⟨a_c (zup B0 B4) hg5 (Nat.le_refl _), ?_⟩;rw[<-v_6 (F:=F) hlt hjl,l_h (by rw[d_q];exact hm)]at hb5;exact hb5
     clear hb5 hg5 hb bg hz hk hm hL hlt0 B0 B4
     go_wp2_with fail
     go_roundw
     case rel=>exact⟨j+1,rfl,by go_num,by omega,HN2⟩
     case measure=>first|(simp[intOf];done)|(simp[intOf];omega)
    ·obtain rfl:j=c:=by omega
     have u2:¬(j:Int)<(j:Int):=by omega
     rw[show i*j+j=(i+1)*j by rw[Nat.succ_mul]]at HB
     go_wp2_with fail
     go_roundw
     case rel=>exact⟨i+1,by rw[Nat.succ_mul],by go_num,by omega,HB⟩
     case measure=>first|(simp[intOf];done)|(simp[intOf];omega)
  ·obtain rfl:i=r:=by omega
   have u1:¬(i:Int)<(i:Int):=by omega
   obtain⟨B0,hb⟩:=HB.out;rw[HN.out,show fil (mk i c F) N=mk i c F by have:=l_i (mk i c F);rwa [d_q,HN.out]at this]at hb;have P:Hid (RetK (kZw w.heap.size N k (mk i c F)) w (.returned (.slice (some ⟨w.heap.size,0,none⟩) N N)) _):=Lib.hid ⟨_,rfl,⟨_,rfl,hb,Nat.le_refl _⟩,B0⟩;clear hb B0 HB;rw[HN.out]
   go_wp2_with fail
   exact bodyPost_ret (v:=.slice (some ⟨w.heap.size,0,none⟩) N N) (by simp[results,Tryz.results122,go_sem]) rfl P.out
def IsMB (b r c k:Nat)(F:Nat->Nat->Int):FVal:=fun v w=>∃g N,v= .agg #[.int .i64 (r:Int),.int .i64 (c:Int),.slice (some ⟨g,0,none⟩) N N]/\N=r*c/\ZB w g k (mk r c F)/\b<=g/\r<=64/\c<=64
def kMB (b r c k:Nat)(F:Nat->Nat->Int):FK:=.f (IsMB b r c k F) (fun v w w' ⟨g,N,e,e2,h1,h2⟩ hb=>⟨g,N,e,e2,h1.below hb,h2⟩)
theorem IsMB.mt {b r c k g N:Nat}{F:Nat->Nat->Int}{w:World}(e:N=r*c)(hb:ZB w g k (mk r c F))(hr:r<=64)(hc:c<=64):Mt true w r c (some ⟨g,0,none⟩) N N k F:=⟨by
 have hN2:r*c<=4096:=Nat.mul_le_mul hr hc
 have:=hb.zl0 true (n:=N) (c:=N) (by rw[d_q];omega) (Nat.le_refl _) (by omega);rwa [List.take_of_length_le (by rw[d_q];omega)]at this,hr,hc⟩
theorem IsMB.m {b r c k:Nat}{F:Nat->Nat->Int}{v:Value}{w:World}(h:IsMB b r c k F v w):IsM true r c k F v w:=by
 obtain⟨g,N,e,e2,h1,h2,h3,h4⟩:=h;exact⟨_,_,_,e,IsMB.mt (b:=b) e2 h1 h3 h4⟩
theorem y_v {r c k:Nat}{f:FuncId}{first captured:Array Value}{F:Nat->Nat->Int}{w:World}(hr:r<=64)(hc:c<=64)(hgo:goes f=true)
  (H:∀i j W,i<r->j<c->Below w.heap.size w W->Calls Tryz.prog f (first++ #[.int .i64 (i:Int),.int .i64 (j:Int)]++captured) W (RetK (kC (F i j) k) W)):
  Calls Tryz.prog 64 #[.int .i64 (r:Int),.int .i64 (c:Int),.func (.func f) first captured] w (RetK (kMB w.heap.size r c k F) w):=by
 obtain⟨w1,hw1,b6,z1,s1⟩:=boxes1 w 27 [.int .i64 0,.int .i64 0,.slice none 0 0];have HW:=Lib.hid hw1;have HF:=Lib.hid H;obtain⟨N,hN⟩:∃N,r*c=N:=⟨_,rfl⟩;have hN2:N<=4096:=by rw[<-hN];exact Nat.mul_le_mul hr hc
 have HN:=Lib.hid hN;clear hw1 H hN;go_enter Tryz.func64,Tryz.ntmps64
 go_upto_region 1 with fail
 rw[HW.out];have hG:=w_j (w:=w1) hr hc hgo fun i j W hi hj hW=>HF.out i j W hi hj (zup z1 hW);rw[HN.out]at hG
 go_wp2_with fail
 refine hG.mono ?_;rintro e w2 ⟨v,rfl,⟨g,rfl,hb,hg⟩,B2⟩;clear hG;replace b6:=b6.below B2;have P:Hid (RetK (kMB w.heap.size r c k F) w (.returned (.agg #[.int .i64 (r:Int),.int .i64 (c:Int),.slice (some ⟨g,0,none⟩) N N])) (mput w2 w.heap.size (r:Int) (c:Int) (some ⟨g,0,none⟩) N N)):=
  Lib.hid ⟨_,rfl,⟨g,N,rfl,HN.out.symm,hb.gro (fun e=>by have:=s1;omega) (b6.now (by simp)) (a_h _ _ _ _ _ _ _),by omega,hr,hc⟩,b_4 (zup z1 B2) (Nat.le_refl _)⟩
 have i0:=b6.cell 0;have i1:=b6.cell 1;have i2:=b6.cell 2;have f0:=b6.free 0;have f1:=b6.free 1;have f2:=b6.free 2;simp only[List.getElem?_cons_succ,List.getElem?_cons_zero]at i0 i1 i2;clear b6 hb B2 z1 s1 HW;unfold mput at P
 go_wp2_with fail
 exact bodyPost_ret (v:=.agg #[.int .i64 (r:Int),.int .i64 (c:Int),.slice (some ⟨g,0,none⟩) N N]) (by simp[results,Tryz.results64,go_sem,i0,i1,i2]) rfl P.out
theorem h_o {r c k:Nat}{f:FuncId}{first captured:Array Value}{F:Nat->Nat->Int}{w:World}(hr:r<=64)(hc:c<=64)(hgo:goes f=true)
  (H:∀i j W,i<r->j<c->Below w.heap.size w W->Calls Tryz.prog f (first++ #[.int .i64 (i:Int),.int .i64 (j:Int)]++captured) W (RetK (kC (F i j) k) W)):
  Calls Tryz.prog 64 #[.int .i64 (r:Int),.int .i64 (c:Int),.func (.func f) first captured] w (RetK (kM true r c k F) w):=
 (y_v hr hc hgo H).mono fun e w' h=>h.mono fun v w h=>h.m
end
section
open Go.RowKit
section
variable {w:World}{g h:Nat}{T:TypeId}{cs:List Value}{s t:Bool}{A B:Option Addr}{n c m d:Nat}{z:Int}
theorem Bx.zp (b:Bx w g 31 [.bool t,.slice B m d]):Bx (zput w g s A n c) g 31 [.bool s,.slice A n c]:=(b.set 0 _).set 1 _
theorem Bx.zo (b:Bx w h T cs)(hn:h≠g):Bx (zput w g s A n c) h T cs:=(b.off hn _ _).off hn _ _
theorem Zv.zp {s':Bool}{A':Option Addr}{n' c':Nat}(x:Zv w s A n c z)(b:Bx w g 31 [.bool t,.slice B m d]):Zv (Go.Proofs.YtfhbdlegkdbmfaaGreat.zput w g s' A' n' c') s A n c z:=x.put (Ib.entry b)
theorem Zc.zp {s':Bool}{A':Option Addr}{n' c':Nat}(x:Zc w s A n c z)(b:Bx w g 31 [.bool t,.slice B m d]):Zc (Go.Proofs.YtfhbdlegkdbmfaaGreat.zput w g s' A' n' c') s A n c z:=x.put (Ib.entry b)
theorem zeroZ {T:TypeId}(h:w.heap[g]? =some (zeroObj 31)):Bx w g 31 [.bool false,.slice none 0 0]:=h.trans (congrArg some (by kernel_rfl))
end
end
section
open Go.RowKit
section
variable {P:Program}{ops:Array Oper}{Q:Exit->Act->World->Prop}{m i:Nat}{a0 a:Act}{w0 w:World}{l:List FK}{b:Bool}{id:Nat}
theorem m_m {fl:List Nat}(hm:m<=ops.size)(hl:l.length=m)(h:AllK Tryz.prog ops Q m a0 w0 l)(hfl:∀i,fl.contains i=true->i<m->FloatAt Tryz.prog ops m a0 w0 (fsOf l.reverse) i (opAt ops i)):∀(n i:Nat),n+i=m->HopAll Tryz.prog ops Q fl m a0 w0 (fsOf l.reverse) i ((ops.toList.take m).drop i)/\okL ((ops.toList.take m).drop i) (l.reverse.drop i):=by
 intro n;induction n with
 |zero=>
  intro i hi;rw[List.drop_of_length_le (by rw[List.length_take,Array.length_toList];omega),List.drop_of_length_le (by rw[List.length_reverse];omega)];exact⟨trivial,trivial⟩
 |succ n ih=>
  intro i hi;have hin:i<(ops.toList.take m).length:=by rw[List.length_take,Array.length_toList];omega
  have hil:i<l.reverse.length:=by rw[List.length_reverse];omega
  obtain⟨h1,h2⟩:=ih (i+1) (by omega);have hsz:i<ops.size:=by omega
  have ho:(ops.toList.take m)[i]=opAt ops i:=by rw[d_x hsz];simp
  have hx:nthK l.reverse i=l.reverse[i]:=by
   have:∀(l:List FK) (i:Nat) (h:i<l.length),nthK l i=l[i]:=by
    intro l;induction l with
    |nil=>intro i h;simp at h
    |cons x l ih=>intro i h;cases i with
     |zero=>rfl
     |succ i=>simp only[nthK,List.getElem_cons_succ];exact ih i (by simpa using h)
   exact this l.reverse i hil
  obtain⟨l',hlk,hi2⟩:=allK_at l h i (by omega);rw[List.drop_eq_getElem_cons hin,List.drop_eq_getElem_cons hil,ho];rw[hx]at hi2;have hop:∀x:FK,nthK l.reverse i=x->HopK Tryz.prog ops Q m a0 w0 l' i x->HopAt Tryz.prog ops Q m a0 w0 (fsOf l.reverse) i (opAt ops i):=fun x ex hk a w hB ho' hp K hK=>
   hk a w ⟨hB,ho',fun k d hkk hd=>by
    have hkk0:=hkk;unfold inPre at hkk;simp only[Bool.and_eq_true,decide_eq_true_iff]at hkk;rw[hlk k hkk.1.1.1,<-nthF_of];exact hp k d (by simp only[Bool.and_eq_true,decide_eq_true_iff];exact⟨⟨⟨hkk.1.1.2,by rw[hd];simp⟩,hkk.1.2⟩,hkk.2⟩)⟩ K (fun v w' hv hb=>hK v w' (by rw[nthF_of,ex];exact hv) hb)
  cases ex:l.reverse[i]with
  |a T=>rw[ex]at hi2;exact⟨HopAll.al (by rw[hi2];rfl) h1,hi2,h2⟩
  |k v=>rw[ex]at hi2;exact⟨by
    cases ec:fl.contains i
    ·exact HopAll.cons ec (hop _ (hx.trans ex) hi2.2) h1
    ·exact HopAll.fl ec (hfl i ec (by omega)) h1,hi2.1,h2⟩
  |f F hF=>rw[ex]at hi2;exact⟨by
    cases ec:fl.contains i
    ·exact HopAll.cons ec (hop _ (hx.trans ex) hi2.2) h1
    ·exact HopAll.fl ec (hfl i ec (by omega)) h1,hi2.1,h2⟩
noncomputable def okQf (ops:Array Oper)(fl:List Nat)(m size:Nat):Bool:=regionOk ops fl m size&&((allocTs ops m).all okZ&&allocGuards ops m)
def okFl (ops:Array Oper)(m i k j:Nat):Bool:=(match(opAt ops i).op with| .extract (.tmp t) j'=>j'==j&&(predsOf ops i).contains k&&slotOf ops k==some t&&((ops[k]?).bind isAlloc).isNone&&decide (k<m)|_=>false)&&(opAt ops i).guard.isNone
theorem e_v {Fs:List FVal}{k j:Nat}{F F':FVal}{v:Value}(hok:okFl ops m i k j=true)(hk:nthF Fs k=F)(hi:nthF Fs i=F')(hF:∀u w,F u w->∃vs:Array Value,u= .tuple vs/\vs[j]? =some v)(hF':∀w,F' v w):FloatAt Tryz.prog ops m a0 w0 Fs i (opAt ops i):=fun a w hB ho hp=>by
 unfold okFl at hok;rw[Bool.and_eq_true]at hok;obtain⟨h1,h2⟩:=hok;split at h1
 ·rename_i t j' e;simp only[Bool.and_eq_true,beq_iff_eq]at h1;obtain⟨⟨⟨⟨rfl,h3⟩,h4⟩,h5⟩,h6⟩:=h1;have hv:=hp k t (by simp only[Bool.and_eq_true,beq_iff_eq];exact⟨⟨⟨h3,h4⟩,h5⟩,h6⟩);rw[hk]at hv;obtain⟨vs,eu,ev⟩:=hF _ _ hv;refine⟨v,by rw[hi];exact hF' _, ?_⟩;refine .inl ⟨a_k (Option.isNone_iff_eq_none.1 h2),fun w'=>?_⟩;unfold execOp;rw[e];simp only[eu];simp[go_sem,ev]
 ·cases h1
def okFm (ops:Array Oper)(m i:Nat):Bool:=(match(opAt ops i).op with| .move (.tmp t)=>(List.range m).all fun k=>slotOf ops k != some t|_=>false)&&(opAt ops i).guard.isNone
theorem f_5 {Fs:List FVal}{v:Value}(hok:okFm ops m i=true)(hi:nthF Fs i=IsK v)(hv:a0.eval (mvX ops i)=v):FloatAt Tryz.prog ops m a0 w0 Fs i (opAt ops i):=fun a w hB ho hp=>by
 unfold okFm at hok;unfold mvX at hv;rw[Bool.and_eq_true]at hok;obtain⟨h1,h2⟩:=hok;split at h1
 ·rename_i t e;rw[e]at hv;refine⟨v,by rw[hi];rfl,.inl ⟨a_k (Option.isNone_iff_eq_none.1 h2),fun w'=>?_⟩⟩;unfold execOp;rw[e];have h3:=(ho t h1).trans hv;simp only[h3];rfl
 ·cases h1
theorem e_w {Fs:List FVal}{j:Nat}(h:FloatAt Tryz.prog ops m a0 w0 Fs j (opAt ops j)):∀i,[j].contains i=true->i<m->FloatAt Tryz.prog ops m a0 w0 Fs i (opAt ops i):=fun i hi _=>by
 have e:i=j:=by simpa using hi
 subst e;exact h
theorem Run.donef (fl:List Nat)(ds:List (Option Nat))(hfl:∀i,fl.contains i=true->i<m->FloatAt Tryz.prog ops m a0 w0 (fsOf l.reverse) i (opAt ops i))(hend:∀w,Below w0.heap.size w0 w->EndQ ops Q m w0 w [] l.reverse ds a0)(hok:okQf ops fl m a0.tmps.size=true:=by kernel_rfl)(hds:(ops.toList.take m).map (·.dst)=ds:=by rfl)(hi:i=m:=by rfl)(hQ:∀c a d v w,Q (.panic c) (a.put d v) w->Q (.panic c) a w:=by(intro _ _ d _ _ h;cases d<;>exact h)):R ops Q m a0 w0 true id l i:=fun hl hall=>by
 unfold okQf at hok;simp only[Bool.and_eq_true]at hok;subst hi;have h:=m_m (fl:=fl) (b_s hok.1).1 hl hall hfl i 0 rfl;exact region8 fl i (fsOf l.reverse) hQ hok.1 hok.2.1 hok.2.2 (fsOf_stay l.reverse) h.1 (fun w hw=>c_0 _ l.reverse l.reverse [] 0 a0 h.2 (fun j _=>by rw[Nat.zero_add]) (by rw[hds];exact hend w hw))
end
theorem h_i {w:World}{g g':Nat}{T T':TypeId}{cs cs':Array Value}{x x':Nat × Nat}(h:w.heap[g]? =some (.cells cs T x))(h':w.heap[g']? =some (.cells cs' T' x'))(hT:T≠T'):g≠g':=fun e=>by
 subst e;rw[h]at h';injection h' with h1
 injection h1 with _ h2
 exact hT h2
section
variable {a:Act}{w:World}{o:Oper}
theorem i_e {T:TypeId}{x:Operand}{p v:Value}(ho:o.op= .load T x)(hx:a.eval x=p)(hr:(Instr.loadAt T p).run Tryz.prog w= .ok v w):(execOp a.eval o).run Tryz.prog w= .ok (.value v) w:=by
 unfold execOp;rw[ho];simp only[hx];simp[hr]
theorem r_c {x:Operand}{p:Addr}(ho:o.op= .nilCheck x)(hx:a.eval x= .pointer (some p)):(execOp a.eval o).run Tryz.prog w= .ok (.value (.pointer (some p))) w:=by
 unfold execOp;rw[ho];simp only[hx];simp[go_sem]
theorem i_f {T:TypeId}{x:Operand}{f:Nat}{p v:Value}(ho:o.op= .fieldAddr T x f)(hx:a.eval x=p)(hr:(Instr.fieldAt T p f).run Tryz.prog w= .ok v w):(execOp a.eval o).run Tryz.prog w= .ok (.value v) w:=by
 unfold execOp;rw[ho];simp only[hx];simp[hr]
theorem r_d {T E:TypeId}{x:Operand}{A:Option Addr}{n c:Nat}(ho:o.op= .call { callee:=.builtin .len,args:=#[x],argTypes:=#[T] })(hx:a.eval x= .slice A n c)(hu:Tryz.prog.underlying T=some (.slice E)):(execOp a.eval o).run Tryz.prog w= .ok (.value (.int .i64 (n:Int))) w:=by
 unfold execOp;rw[ho];simp only[resolve,List.map_toArray,List.map_cons,List.map_nil,hx];simp[go_sem,Builtin.len_,underlying,hu]
theorem f_z {T:TypeId}{x y:Operand}{u v r:Value}{w':World}(ho:o.op= .makeSlice T x y)(hx:a.eval x=u)(hy:a.eval y=v)(hr:(Instr.makeSlice T u v).run Tryz.prog w= .ok r w'):(execOp a.eval o).run Tryz.prog w= .ok (.value r) w':=by
 unfold execOp;rw[ho];simp only[hx,hy];simp[hr]
end
def noP (Q:Exit->Act->World->Prop):Exit->Act->World->Prop
 | .panic _,_,_=>False
 | .outgrown,_,_=>False
 |e,a,w=>Q e a w
theorem reg_noP {P:Program}{c:Code}{Q:Exit->Act->World->Prop}{a:Act}{w:World}(h:c.wp P (noP Q) a w):c.wp P Q a w:=wp_mono h fun e a w h=>by
 cases e<;>first|exact h|exact h.elim
theorem i_q {Q:Exit->Act->World->Prop}{a:Act}{w:World}(h:Q .normal a w):noP Q .normal a w:=h
end
section
open Go.RowKit
section
variable {g o:Nat}
theorem fR0 (o':Nat)(h:o+0=o':=by rfl)(w:World):(Instr.fieldAt 42 (.pointer (some ⟨g,o,none⟩)) 0).run Tryz.prog w= .ok (.pointer (some ⟨g,o',none⟩)) w:=by subst h;simp[go_sem]
theorem fR1 (o':Nat)(h:o+2=o':=by rfl)(w:World):(Instr.fieldAt 42 (.pointer (some ⟨g,o,none⟩)) 1).run Tryz.prog w= .ok (.pointer (some ⟨g,o',none⟩)) w:=by subst h;simp[go_sem]
end
theorem Bx.rb {w:World}{g:Nat}{T:TypeId}{s t:Bool}{A B:Option Addr}{n c m d:Nat}(b:Bx w g T [.bool s,.slice A n c,.bool t,.slice B m d]):Rb w g s A n c t B m d:=Rb.entry b
theorem ldQr {w:World}{g:Nat}{T:TypeId}{cs:List Value}(b:Bx w g T cs){s t:Bool}{A B:Option Addr}{n c m d:Nat}(h0:cs=[.bool s,.slice A n c,.bool t,.slice B m d]:=by rfl):∀w',Below w.heap.size w w'->(Instr.loadAt 42 (.pointer (some ⟨g,0,none⟩))).run Tryz.prog w'= .ok (.agg #[.bool s,.slice A n c,.bool t,.slice B m d]) w':=fun w' hb=>by
 subst h0;obtain⟨e0,e1,e2,e3,-⟩:=(b.below hb).rb;exact u_t e0 e1 e2 e3
def kQ (x:Rat)(k:Nat):FK:=.f (IsQ x k) (x_i x k)
def kR (N D:Int)(k:Nat):FK:=.f (IsR N D k) (x_h N D k)
theorem RPost.q {N D:Int}{k:Nat}{w w':World}{e:Ending}(h:RPost N D k w e w'):RetK (kR N D k) w e w':=by
 obtain⟨s,A,n,c,t,B,m,d,e,h1,h2,h3,h4,h5⟩:=h;exact⟨_,e,⟨s,A,n,c,t,B,m,d,rfl,h1,h2,h3,h4⟩,h5⟩
section
variable {w w0:World}{s t s0 t0 s' t' u v u' v':Bool}{A B A0 B0 A' B' C E C' E':Option Addr}{n c m d n0 c0 m0 d0 n' c' m' d' l e f h l' e' f' h' g g2:Nat}{T U:TypeId}{cs:List Value}
theorem Bx.rp (b:Bx w g T [.bool s,.slice A n c,.bool t,.slice B m d]):Bx (rput w g s' A' n' c' t' B' m' d') g T [.bool s',.slice A' n' c',.bool t',.slice B' m' d']:=(((b.set 0 _).set 1 _).set 2 _).set 3 _
theorem Bx.ro (b:Bx w g2 U cs)(hn:g2≠g):Bx (rput w g s A n c t B m d) g2 U cs:=(((b.off hn _ _).off hn _ _).off hn _ _).off hn _ _
theorem l_1 (b2:Bx w g T [.bool s,.slice A n c,.bool t,.slice B m d])(b3:Bx w g2 U [.bool u,.slice C l e,.bool v,.slice E f h])(hne:g≠g2)(hg:w0.heap.size<=g)(hh:w0.heap.size<=g2)(B0:Below w0.heap.size w0 w):
  ∃w',rput (rput w g s' A' n' c' t' B' m' d') g2 u' C' l' e' v' E' f' h'=w'/\Bx w' g T [.bool s',.slice A' n' c',.bool t',.slice B' m' d']/\Bx w' g2 U [.bool u',.slice C' l' e',.bool v',.slice E' f' h']/\Below w0.heap.size w0 w'/\
   (∀ {s A n c z},Zv w s A n c z->Zv w' s A n c z)/\∀ {g3 V ds},Bx w g3 V ds->g3≠g->g3≠g2->Bx w' g3 V ds:=
 ⟨_,rfl,b2.rp.ro hne,(b3.ro hne.symm).rp,b_9 (b_9 B0 hg) hh,fun x=>(x.rput b2.rb).rput (b3.ro hne.symm).rb,fun x h1 h2=>(x.ro h1).ro h2⟩
end
def opC (o:Op):Value:=match o with| .binOp _ _ _ (.const c) _=>c|_=>undef
def okFb (ops:Array Oper)(m i k:Nat):Bool:=(match(opAt ops i).op with| .binOp _ _ (.tmp t) (.const _) _=>(predsOf ops i).contains k&&slotOf ops k==some t&&((ops[k]?).bind isAlloc).isNone&&decide (k<m)|_=>false)&&(opAt ops i).guard.isNone
theorem j_7 {ops:Array Oper}{m i k:Nat}{a0:Act}{w0:World}{Fs:List FVal}{u v:Value}(hok:okFb ops m i k=true)(hk:nthF Fs k=IsK u)(hi:nthF Fs i=IsK v)(hr:∀w,RunTwo Tryz.prog (opAt ops i).op w u (opC (opAt ops i).op) v):FloatAt Tryz.prog ops m a0 w0 Fs i (opAt ops i):=fun a w hB ho hp=>by
 unfold okFb at hok;rw[Bool.and_eq_true]at hok;obtain⟨h1,h2⟩:=hok;split at h1
 ·rename_i o T t c U e;have hv:=hp k t h1;rw[hk]at hv;rw[e]at hr;refine⟨v,by rw[hi];rfl,.inl ⟨a_k (Option.isNone_iff_eq_none.1 h2),fun w'=>?_⟩⟩;have h3:=hr w';unfold RunTwo at h3;unfold execOp;rw[e];have h4:a.eval (.tmp t)=u:=hv;simp only[opC]at h3;simp only[h4,b_2];simp only[Sem.run_bind,Result.andThen]at h3 ⊢;simp[h3]
 ·cases h1
section
variable {ops:Array Oper}{Q:Exit->Act->World->Prop}{m i:Nat}{a0:Act}{w0:World}{l:List FK}{b:Bool}{id:Nat}
def b2X (o:Op):Operand × Operand:=match o with| .build _ xs=>(match xs.toList with| [(0,x),(1,y)]=>(x,y)|_=>(.func 0,.func 0))|_=>(.func 0,.func 0)
def b2T (o:Op):TypeId:=match o with| .build T _=>T|_=>0
def okB (ops:Array Oper)(m i:Nat)(s t:Src):Bool:=okH ops m i&&(match(opAt ops i).op with| .build _ xs=>(match xs.toList with| [(0,x),(1,y)]=>s.ok ops m i x&&t.ok ops m i y|_=>false)|_=>false)
theorem Run.bd2 (s t:Src){x:FK}(H:∀u v w,Below w0.heap.size w0 w->(s.K l i a0 (b2X (opAt ops i).op).1).F u w->(t.K l i a0 (b2X (opAt ops i).op).2).F v w->∃r,(Instr.build (b2T (opAt ops i).op) #[(0,u),(1,v)]).run Tryz.prog w= .ok r w/\x.F r w)
  (rest:R ops Q m a0 w0 b id (x::l) (i+1)) (hx:∀T,x≠ .a T:=by first|exact FK.kne _|exact FK.fne _) (hc:okB ops m i s t=true:=by kernel_rfl) (hg:Gd l i (opAt ops i):=by first|exact trivial|exact rfl):R ops Q m a0 w0 b id l i:=by
 unfold okB at hc;rw[Bool.and_eq_true]at hc;obtain⟨hh,h4⟩:=hc;refine Run.val (x:=x) hh hx hg (fun a w h=>?_) rest;split at h4
 ·rename_i T xs e;split at h4
  ·rename_i u v ex;obtain⟨ys⟩:=xs;simp only at ex;subst ex;rw[Bool.and_eq_true]at h4;rw[e]at H;obtain⟨r,h1,h2⟩:=H _ _ w h.below (h.src h4.1) (h.src h4.2);have h3:(Instr.build T #[(0,a.eval u),(1,a.eval v)]).run Tryz.prog w= .ok r w:=h1;refine⟨r, ?_,h2⟩;unfold execOp;rw[e];simp only[List.map_toArray,List.map_cons,List.map_nil];simp[h3]
  ·cases h4
 ·cases h4
end
def NS (W:World)(k:Nat)(q:Rat)(w:World):Prop:=∃s A n c t B m d N D,Below W.heap.size W w/\Bx w W.heap.size 31 [.bool s,.slice A n c]/\Bx w (W.heap.size+1) 31 [.bool t,.slice B m d]/\Bx w (W.heap.size+1+1) 42 [.bool false,.slice none 0 0,.bool false,.slice none 0 0]/\Zv w s A n c N/\Zv w t B m d D/\n<=k/\m<=k/\D≠0/\Hid (Rat.divInt N D=q)
def NC (W:World)(k:Nat)(q:Rat)(v:Value)(w:World):Prop:=∃s A n c t B m d N D G x E p e,v= .pointer (some ⟨G,0,none⟩)/\Below W.heap.size W w/\Bx w W.heap.size 31 [.bool s,.slice A n c]/\Bx w (W.heap.size+1) 31 [.bool t,.slice B m d]/\Bx w (W.heap.size+1+1) 42 [.bool false,.slice none 0 0,.bool false,.slice none 0 0]/\Bx w G 31 [.bool x,.slice E p e]/\
 Zv w s A n c N/\Zv w t B m d D/\Zv w x E p e (rcom N D)/\n<=k/\m<=k/\p<=k/\D≠0/\W.heap.size+1+1<G/\Hid (Rat.divInt N D=q)
section
variable {w w0:World}{s t s' t':Bool}{A B A' B':Option Addr}{n c m d n' c' m' d' g g2:Nat}
theorem f_0 (b:Bx w g 31 [.bool t,.slice B m d])(hg:w0.heap.size<=g)(B0:Below w0.heap.size w0 w):∃w',zput w g s A n c=w'/\Bx w' g 31 [.bool s,.slice A n c]/\Below w0.heap.size w0 w'/\(∀ {s A n c z},Zv w s A n c z->Zv w' s A n c z)/\(∀ {s A n c z},Zc w s A n c z->Zc w' s A n c z)/\∀ {g3 V ds},Bx w g3 V ds->g3≠g->Bx w' g3 V ds:=
 ⟨_,rfl,b.zp,a_8 B0 hg,fun x=>x.zp b,fun x=>x.zp b,fun x h=>x.zo h⟩
theorem q_1 (b2:Bx w g 31 [.bool s,.slice A n c])(b3:Bx w g2 31 [.bool t,.slice B m d])(hne:g≠g2)(hg:w0.heap.size<=g)(hh:w0.heap.size<=g2)(B0:Below w0.heap.size w0 w):
  ∃w',zput (zput w g s' A' n' c') g2 t' B' m' d'=w'/\Bx w' g 31 [.bool s',.slice A' n' c']/\Bx w' g2 31 [.bool t',.slice B' m' d']/\Below w0.heap.size w0 w'/\(∀ {s A n c z},Zv w s A n c z->Zv w' s A n c z)/\∀ {g3 V ds},Bx w g3 V ds->g3≠g->g3≠g2->Bx w' g3 V ds:=
 ⟨_,rfl,b2.zp.zo hne,(b3.zo hne.symm).zp,a_8 (a_8 B0 hg) hh,fun x=>(x.zp b2).zp (b3.zo hne.symm),fun x h1 h2=>(x.zo h1).zo h2⟩
end
theorem l_y {u v:Value}{x y q:Int}{n m k:Nat}{w:World}(hx:IsV x n u w)(hy:IsV y m v w)(hn:n<=k)(hm:m<=k)(hk:k<=549755813888)(h0:y≠0)(hq:q*y=x):Calls Tryz.prog 113 #[u,v] w (RetK (kT (kC q k) (.k (.bool true))) w):=by
 obtain⟨s,A,a,c,rfl,i1,i2⟩:=hx;obtain⟨t,B,b,d,rfl,j1,j2⟩:=hy;refine(g_8 i1 j1 (by omega) (by omega) h0 hq).mono ?_;rintro e w' ⟨s,A,n,c,e,h,hk,hb⟩;exact⟨_,e,⟨_,_,rfl,⟨s,A,n,c,rfl,h,by omega⟩,rfl⟩,hb⟩
theorem i_p {A B:Option Addr}{n c m d k:Nat}{s t:Bool}{N D:Int}{w:World}(hn:Zv w s A n c N)(hd:Zv w t B m d D)(hnk:n<=k)(hmk:m<=k)(h1:1<=k)(hk:k<=137438953472):
  Calls Tryz.prog 78 #[.agg #[.bool s,.slice A n c],.agg #[.bool t,.slice B m d]] w (QPost (Rat.divInt N D) k w):=by
 obtain⟨q,hq⟩:∃q,Rat.divInt N D=q:=⟨_,rfl⟩;rw[hq];have HQ:=Lib.hid hq;obtain⟨w1,hw1,b2,b3,b4,z1,z2⟩:=boxes3 w 31 31 42 [.bool s,.slice A n c] [.bool t,.slice B m d] [.bool false,.slice none 0 0,.bool false,.slice none 0 0];have HW:=Lib.hid hw1;have HZ:=Lib.hid z1;replace hn:=hn.below z1;replace hd:=hd.below z1;obtain⟨b,hb⟩:∃b,decide (D.sign=0)=b:=⟨_,rfl⟩;have HB:=Lib.hid hb;clear hw1 z1 hb hq;go_enter Tryz.func78,Tryz.ntmps78
 go_upto_region 1 with fail
 rw[HW.out];refine Run.start 3 ?_;refine .ld .o (ldZ b3 0) ?_;refine .c1 (.i 0) (x:=.k (.int .i64 D.sign)) (by rintro _ w2 hB rfl;exact a_z ⟨_,_,_,_,rfl,hd.below hB,Nat.le_refl _⟩ (by omega) rfl) ?_;refine .two (.i 1) .o (opEq HB.out) ?_;refine .donep [some 6,some 7,some 8] ?_;intro w2 B2;refine sh [] ?_;simp only[Act.put,lS,lZ,lC];have B0:=zup HZ.out B2;replace b2:=b2.below B2;replace b3:=b3.below B2;replace b4:=b4.below B2;replace hn:=hn.below B2;replace hd:=hd.below B2;have hl:=b4.lt;clear B2 HW HZ;go_upto_if 8 with fail
 go_cut [] (NS w k q)
 case first=>
  cases b
  ·have h0:D≠0:=fun e=>by have:=of_decide_eq_false HB.out;rw[e]at this;exact this rfl
   have P:=Lib.hid (show NS w k q w2 from⟨s,A,n,c,t,B,m,d,N,D,B0,b2,b3,b4,hn,hd,hnk,hmk,h0,HQ⟩);clear h0 HB
   go_wp2_with fail
   go_meet
   exact P.out
  ·have h0:D=0:=Int.sign_eq_zero_iff_zero.1 (of_decide_eq_true HB.out);have hq0:Rat.divInt 0 1=q:=by have:=HQ.out;rw[h0]at this;rw[<-this];simp
   have HQ0:=Lib.hid hq0;have HB0:=Lib.hid B0;clear h0 hq0 HB B0 hn hd;go_upto_region 2 with fail
   refine Run.start 2 ?_;refine .val rfl (x:=kC 0 0) (FK.fne _) trivial (fun a w h=>⟨_,by kernel_rfl,_,_,_,_,rfl,i_3 _,Nat.le_refl _⟩) ?_;refine .c1 .o (x:=kC 1 1) (by rintro _ w2 hB rfl;exact h_x (by omega) (by omega) _) ?_;refine .donep [some 9,some 10] ?_;intro w3 B3;rintro _ ⟨s5,A5,n5,c5,rfl,p5,k5⟩;rintro _ ⟨s6,A6,n6,c6,rfl,p6,k6⟩;refine sh [_,_] ?_;simp only[Act.put,lS,lZ,lC];replace b2:=b2.below B3;replace b3:=b3.below B3;obtain⟨w4,hw4,b5,b6,B4,zv,bo⟩:=q_1 (s':=s5) (A':=A5) (n':=n5) (c':=c5) (t':=s6) (B':=A6) (m':=n6) (d':=c6) b2 b3 (by omega) (Nat.le_refl _) (by omega) (zup HB0.out B3);obtain⟨a1,a2,a3,a4,a5⟩:=Ib.entry b2;obtain⟨r1,r2,r3,r4,r5⟩:=Ib.entry b3;have nn:¬(w.heap.size=w.heap.size+1):=by omega
   have nm:¬(w.heap.size+1=w.heap.size):=by omega
   have P:=Lib.hid (show NS w k q w4 from⟨s5,A5,n5,c5,s6,A6,n6,c6,0,1,B4,b5,b6,bo (b4.below B3) (by omega) (by omega),zv p5.zv,zv p6.zv,by omega,by omega,by decide,HQ0⟩);have Hw4:=Lib.hid hw4;unfold zput at Hw4;clear hw4 zv bo b2 b3 b4 b5 b6 B3 B4 HQ HQ0 HB0 p5 p6
   go_wp2_with fail
   go_meet
   rw[Hw4.out];exact P.out
 case rest=>
  obtain⟨s,A,n,c,t,B,m,d,N,D,B0,b2,b3,b4,hn,hd,hnk,hmk,h0,HQ⟩:=hcut;obtain⟨g,hg⟩:∃g:Int,((Nat.gcd N.natAbs D.natAbs:Nat):Int)=g:=⟨_,rfl⟩;have HG:=Lib.hid hg;clear hg;go_upto_region 3 with fail
  refine Run.start 4 ?_;refine .ld .o (ldZ b2 0) ?_;refine .ld .o (ldZ b3 0) ?_;refine .c2 (.i 0) (.i 1) (x:=kC g k) (by rintro _ _ w2 hB rfl rfl;exact(t_j (hn.below hB) (hd.below hB) (by omega) (by omega) HG.out).mono fun e w h=>h.q (by omega)) ?_;refine .al ?_;refine .donep [some 11,some 12,some 13,some 5] ?_;intro w3 B3;rintro _ ⟨x,E,p,e,rfl,hx,hp⟩;rintro G hG hlG hc -;refine sh [_] ?_;simp only[Act.put,lS,lZ,lC];have b5:=zeroZ (T:=0) hc;have hl4:=b4.lt;obtain⟨w4,hw4,b6,B4,zv,-,bo⟩:=f_0 (s:=x) (A:=E) (n:=p) (c:=e) b5 (by omega) (zup B0 B3);obtain⟨a1,a2,a3,a4,a5⟩:=Ib.entry b5;replace b2:=bo (b2.below B3) (by omega);replace b3:=bo (b3.below B3) (by omega);replace b4:=bo (b4.below B3) (by omega);replace hn:=zv (hn.below B3);replace hd:=zv (hd.below B3);have hy:=zv hx.zv;have Hw4:=Lib.hid hw4;unfold zput at Hw4;obtain⟨b,hb⟩:∃b,decide (D.sign<0)=b:=⟨_,rfl⟩;have HB:=Lib.hid hb;clear hw4 zv bo b5 B3 B0 hx hc hb;go_upto_region 4 with fail
  rw[Hw4.out];clear a1 a2 a3 a4 a5 Hw4;refine Run.start 3 ?_;refine .ld .o (ldZ b3 0) ?_;refine .c1 (.i 0) (x:=.k (.int .i64 D.sign)) (by rintro _ w2 hB rfl;exact a_z ⟨_,_,_,_,rfl,hd.below hB,Nat.le_refl _⟩ (by omega) rfl) ?_;refine .two (.i 1) .o (opLt HB.out) ?_;refine .donep [some 14,some 15,some 16] ?_;intro w5 B5;refine sh [] ?_;simp only[Act.put,lS,lZ,lC];have B6:=zup B4 B5;replace b2:=b2.below B5;replace b3:=b3.below B5;replace b4:=b4.below B5;replace b6:=b6.below B5;replace hn:=hn.below B5;replace hd:=hd.below B5;replace hy:=hy.below B5;clear B4 B5;go_upto_if 16 with fail
  go_cut [5] (NC w k q)
  case first=>
   cases b
   ·have h2:¬D<0:=fun e=>of_decide_eq_false HB.out (by rw[Int.sign_eq_neg_one_of_neg e];decide);have hr:rcom N D=g:=by rw[<-HG.out];unfold rcom;rw[if_neg h2]
    rw[<-hr]at hy;have P:=Lib.hid (show NC w k q (.pointer (some ⟨G,0,none⟩)) w5 from⟨s,A,n,c,t,B,m,d,N,D,G,x,E,p,e,rfl,B6,b2,b3,b4,b6,hn,hd,hy,hnk,hmk,hp,h0,by omega,HQ⟩);clear hr h2 HB HG HQ hy b2 b3 b4 b6 hn hd B6 h0
    go_wp2_with fail
    go_meet
    exact P.out
   ·have h2:D<0:=by
     have h3:=of_decide_eq_true HB.out;rcases Int.lt_trichotomy D 0 with h|h|h
     ·exact h
     ·rw[h]at h3;exact absurd h3 (by decide)
     ·rw[Int.sign_eq_one_of_pos h]at h3;exact absurd h3 (by decide)
    have hr:-g=rcom N D:=by rw[<-HG.out];unfold rcom;rw[if_pos h2]
    have HR:=Lib.hid hr;clear h2 hr HB;go_upto_region 5 with fail
    refine Run.start 2 ?_;refine .ld .o (ldZ b6 0) ?_;refine .c1 (.i 0) (x:=kC (-g) p) (by rintro _ w2 hB rfl;exact w_5 ⟨_,_,_,_,rfl,hy.below hB,Nat.le_refl _⟩ (by omega)) ?_;refine .donep [some 17,some 18] ?_;intro w7 B7;rintro _ ⟨x',E',p',e',rfl,hx,hp'⟩;refine sh [_] ?_;simp only[Act.put,lS,lZ,lC];replace b6:=b6.below B7;obtain⟨a1,a2,a3,a4,a5⟩:=Ib.entry b6;obtain⟨w8,hw8,b6,B8,zv,-,bo⟩:=f_0 (s:=x') (A:=E') (n:=p') (c:=e') b6 (by omega) (zup B6 B7);have hy':=zv hx.zv;rw[HR.out]at hy';have P:=Lib.hid (show NC w k q (.pointer (some ⟨G,0,none⟩)) w8 from⟨s,A,n,c,t,B,m,d,N,D,G,x',E',p',e',rfl,B8,bo (b2.below B7) (by omega),bo (b3.below B7) (by omega),bo (b4.below B7) (by omega),b6,zv (hn.below B7),zv (hd.below B7),hy',hnk,hmk,by omega,h0,by omega,HQ⟩);have Hw8:=Lib.hid hw8;unfold zput at Hw8;clear hw8 zv bo b2 b3 b4 b6 B8 B7 B6 hx hy hy' hn hd HR HG HQ h0
    go_wp2_with fail
    go_meet
    rw[Hw8.out];exact P.out
  case rest=>
   clear hn hd hy b2 b3 b4 b6 B6 HB HG HQ h0 hnk hmk hp;obtain⟨s,A,n,c,t,B,m,d,N,D,G,x,E,p,e,rfl,B0,b2,b3,b4,b5,hn,hd,hx,hnk,hmk,hp,h0,hG,HQ⟩:=hcut;have hq:=HQ.out;subst hq;have hc0:=u_7 (N:=N) h0;have HN:=Lib.hid (r_6 (N:=N) h0);have HD:=Lib.hid (s_4 (N:=N) h0);clear HQ h0;go_upto_region 6 with fail
   refine Run.start 6 ?_;refine .ld .o (ldZ b2 0) ?_;refine .ld .o (ldZ b5 0) ?_;refine .c2 (.i 0) (.i 1) (x:=kT (kC (Rat.divInt N D).num k) (.k (.bool true))) (by rintro _ _ w2 hB rfl rfl;exact l_y ⟨_,_,_,_,rfl,hn.below hB,hnk⟩ ⟨_,_,_,_,rfl,hx.below hB,hp⟩ (Nat.le_refl _) (Nat.le_refl _) (by omega) hc0 HN.out) ?_;refine .mf (.i 2) ?_;refine .ex (.i 3) 0 kT_0 ?_;refine .ex (.i 3) 1 kT_1 ?_;refine .donep [some 20,some 21,some 22,some 19,some 23,some 24] ?_;intro w3 B3;rintro _ - _ - _ ⟨s1,A1,n1,c1,rfl,pn,g1⟩;refine sh [_] ?_;simp only[Act.put,lS,lZ,lC];replace b2:=b2.below B3;obtain⟨a1,a2,a3,a4,a5⟩:=Ib.entry b2;obtain⟨w4,hw4,b6,B4,zv,zc,bo⟩:=f_0 (s:=s1) (A:=A1) (n:=n1) (c:=c1) b2 (Nat.le_refl _) (zup B0 B3);replace b3:=bo (b3.below B3) (by omega);replace b4:=bo (b4.below B3) (by omega);replace b5:=bo (b5.below B3) (by omega);replace hd:=zv (hd.below B3);replace hx:=zv (hx.below B3);replace pn:=zc pn;have Hw4:=Lib.hid hw4;unfold zput at Hw4;clear hw4 zv zc bo b2 B3 B0 hn HN;go_upto_region 7 with fail
   rw[Hw4.out];clear a1 a2 a3 a4 a5 Hw4;refine Run.start 6 ?_;refine .ld .o (ldZ b3 0) ?_;refine .ld .o (ldZ b5 0) ?_;refine .c2 (.i 0) (.i 1) (x:=kT (kC ((Rat.divInt N D).den:Int) k) (.k (.bool true))) (by rintro _ _ w2 hB rfl rfl;exact l_y ⟨_,_,_,_,rfl,hd.below hB,hmk⟩ ⟨_,_,_,_,rfl,hx.below hB,hp⟩ (Nat.le_refl _) (Nat.le_refl _) (by omega) hc0 HD.out) ?_;refine .mf (.i 2) ?_;refine .ex (.i 3) 0 kT_0 ?_;refine .ex (.i 3) 1 kT_1 ?_;refine .donep [some 26,some 27,some 28,some 25,some 29,some 30] ?_;intro w5 B5;rintro _ - _ - _ ⟨t1,B1,m1,d1,rfl,pd,g2⟩;refine sh [_] ?_;simp only[Act.put,lS,lZ,lC];replace b3:=b3.below B5;obtain⟨a1,a2,a3,a4,a5⟩:=Ib.entry b3;obtain⟨w6,hw6,b7,B6,zv,zc,bo⟩:=f_0 (s:=t1) (A:=B1) (n:=m1) (c:=d1) b3 (by omega) (zup B4 B5);replace b6:=bo (b6.below B5) (by omega);replace b4:=bo (b4.below B5) (by omega);replace pn:=zc (pn.below B5);replace pd:=zc pd;have Hw6:=Lib.hid hw6;unfold zput at Hw6;clear hw6 zv zc bo b3 B5 B4 hd HD hc0;go_upto_region 8 with fail
   rw[Hw6.out];clear a1 a2 a3 a4 a5 Hw6;refine Run.start 3 ?_;refine .ld .o (ldZ b6 0) ?_;refine .ld .o (ldZ b7 0) ?_;refine Run.bd2 (.i 0) (.i 1) (x:=kQ (Rat.divInt N D) k) (by rintro _ _ w2 hB rfl rfl;exact⟨_,by kernel_rfl,_,_,_,_,_,_,_,_,rfl,⟨pn.below hB,pd.below hB⟩,g1,g2⟩) ?_;refine .donep [some 31,some 32,some 33] ?_;intro w2 B2;rintro _ ⟨s1,A1,n1,c1,t1,B1,m1,d1,rfl,hq,i1,i2⟩;refine sh [_] ?_;simp only[Act.put,lS,lZ,lC];have b8:=(b4.below B2).rb;have P:=Lib.hid (qfin (w:=w) (k:=k) hq b8 i1 i2 (by omega) (zup B6 B2));obtain⟨r1,r2,r3,r4,r5,r6,r7,r8,r9⟩:=b8;unfold rput at P;clear B2 hq b4 b5 b6 b7 B6 pn pd hx
   go_wp2_with fail
   exact bodyPost_ret (v:=(.agg #[.bool s1,.slice A1 n1 c1,.bool t1,.slice B1 m1 d1])) (by simp[results,Tryz.results78,go_sem,r1,r2,r3,r4]) rfl P.out
theorem e_t {u v:Value}{N D:Int}{n m k:Nat}{w:World}(hx:IsV N n u w)(hy:IsV D m v w)(hn:n<=k)(hm:m<=k)(h1:1<=k)(hk:k<=137438953472):Calls Tryz.prog 78 #[u,v] w (RetK (kQ (Rat.divInt N D) k) w):=by
 obtain⟨s,A,a,c,rfl,i1,i2⟩:=hx;obtain⟨t,B,b,d,rfl,j1,j2⟩:=hy;refine(i_p i1 j1 (Nat.le_trans i2 hn) (Nat.le_trans j2 hm) h1 hk).mono ?_;rintro e w' ⟨s,A,n,c,t,B,m,d,e,h1,h2,h3,h4⟩;exact⟨_,e,⟨s,A,n,c,t,B,m,d,rfl,h1,h2,h3⟩,h4⟩
end
end Go.Proofs.YtfhbdlegkdbmfaaGreat
