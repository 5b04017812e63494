/- Pb14 -/
import Derived.Test.YtlgjjnmmepgafaaPb13
set_option linter.unusedVariables false
set_option linter.unusedSimpArgs false
set_option linter.unusedSectionVars false
set_option maxRecDepth 100000
set_option maxHeartbeats 8000000
namespace Go.Proofs.Ytlgjjnmmepgafaa
section
open Go.RowKit
theorem c_6 {P:Program}(w:World){ops:Array Oper}{rest:List Oper}{o:Oper}{a:Act}{Q:Exit->Act->World->Prop}
  (hg:o.guard=none) (l c:Operand) (t:TypeId) (hop:o.op=Op.makeSlice t l c)
  (ht:P.underlying t=some (.slice 30)) (hinfo:(P.info? 30).map (fun i=>(i.zero,i.size,i.bytes))=some (some (.agg #[.bool false,.slice none 0 0]),2,32))
  (n:Nat) (hl:a.eval l= .int .i64 0) (hc:a.eval c= .int .i64 (n:Int)) (hbytes:n<=8796093022208)
  (hK:∀w',ZB w' w.heap.size 0 (List.replicate n 0)->Below w.heap.size w w'->w'.heap.size=w.heap.size+1->wpList P ops Q rest (a.put o.dst (.slice (some ⟨w.heap.size,0,none⟩) 0 n)) w'):
  wpList P ops Q (o::rest) a w:=by
 obtain⟨i,hi,hz0,hz1,hz2⟩:=info_parts hinfo;have hrun:=run_make (P:=P) w t 30 i (.agg #[.bool false,.slice none 0 0]) ht hi hz0 .i64 .i64 0 (n:Int) (by omega) (by omega) (by rw[hz2];omega) (by omega);refine wpList_plain hg fun K hK'=>?_;unfold Oper.wp;simp[execOp,hop,hl,hc,hrun,Result.andThen];refine hK' _ _ (hK _ ?_ ((Below.refl _ _).alloc (Nat.le_refl _) _) (by simp));rw[hz1];exact ZB.made w n
theorem Bx.now {w:World}{g:Nat}{T:TypeId}{cs:List Value}(b:Bx w g T cs)(h:∀v,v∈cs->∀m:Int,v≠ .int .u64 m):Wless w g:=fun p m hp hc=>by
 have e:w.cell? p=cs[p.off]? \/w.cell? p=none:=by
  unfold World.cell?;rw[hp,b];by_cases hs:p.spot=none
  ·left;simp[hs]
  ·right;simp[hs]
 rcases e with e|e
 ·rw[e]at hc;exact h _ (List.mem_of_getElem? hc) m rfl
 ·rw[e]at hc;cases hc
theorem ZL.apart {q:Bool}{w:World}{ad:Addr}{n c k g:Nat}{zs:List Int}{T:TypeId}{cs:List Value}(h:ZL q w (some ad) n c k zs)(h0:0<n)(b:Bx w g T cs)(hb:∀v,v∈cs->∀s,v≠ .bool s):ad.block≠g:=fun e=>by
 obtain⟨s,A,m,d,h1,_⟩:=h.elem h0;rw[Nat.zero_mul,a_u]at h1;have e1:w.cell? ad=cs[ad.off]? \/w.cell? ad=none:=by
  unfold World.cell?;rw[e,b];by_cases hs:ad.spot=none
  ·left;simp[hs]
  ·right;simp[hs]
 rcases e1 with e1|e1
 ·rw[e1]at h1;exact hb _ (List.mem_of_getElem? h1) s rfl
 ·rw[e1]at h1;cases h1
theorem ZL.box {q:Bool}{w w':World}{A:Option Addr}{n c k g:Nat}{zs:List Int}{T:TypeId}{cs:List Value}(h:ZL q w A n c k zs)(b:Bx w g T cs)(hb:∀v,v∈cs->∀s,v≠ .bool s)(hw:∀v,v∈cs->∀m:Int,v≠ .int .u64 m)(hg:w.grownBy w' (some g)):ZL q w' A n c k zs:=by
 by_cases h0:0<n
 ·obtain⟨ad,e,_⟩:=h.at' h0;subst e;exact h.gro (fun a ha=>by cases ha;exact h.apart h0 b hb) (b.now hw) hg
 ·exact⟨h.len,h.le,h.cap,fun h1=>absurd h1 h0⟩
def mput (w:World)(g:Nat)(r c:Int)(A:Option Addr)(n d:Nat):World:=((w.setCell ⟨g,0,none⟩ (.int .i64 r)).setCell ⟨g,1,none⟩ (.int .i64 c)).setCell ⟨g,2,none⟩ (.slice A n d)
theorem c_s (w:World)(g:Nat)(r c:Int)(A:Option Addr)(n d:Nat):w.grownBy (mput w g r c A n d) (some g):=a_o (q:=⟨g,2,none⟩) (a_o (q:=⟨g,1,none⟩) (a_o (q:=⟨g,0,none⟩) (a_2 w (some g)) rfl _) rfl _) rfl _
theorem a_q {b g:Nat}{w w2:World}{r c:Int}{A:Option Addr}{n d:Nat}(h:Below b w w2)(hg:b<=g):Below b w (mput w2 g r c A n d):=((h.setCell hg _).setCell hg _).setCell hg _
theorem Mt.box {q:Bool}{w w':World}{A:Option Addr}{r c n d k g:Nat}{F:Nat->Nat->Int}{T:TypeId}{cs:List Value}(h:Mt q w r c A n d k F)(b:Bx w g T cs)(hb:∀v,v∈cs->∀s,v≠ .bool s)(hw:∀v,v∈cs->∀m:Int,v≠ .int .u64 m)(hg:w.grownBy w' (some g)):Mt q w' r c A n d k F:=⟨h.zl.box b hb hw hg,h.hr,h.hc⟩
theorem Mt.put {q:Bool}{w:World}{A B:Option Addr}{r c n d k g m e:Nat}{x y r' c':Int}{C:Option Addr}{n' d':Nat}{F:Nat->Nat->Int}(h:Mt q w r c A n d k F)(b:Bx w g 24 [.int .i64 x,.int .i64 y,.slice B m e]):Mt q (mput w g r' c' C n' d') r c A n d k F:=
 h.box b (by simp) (by simp) (c_s _ _ _ _ _ _ _)
theorem retME {q:Bool}{w w2:World}{A B:Option Addr}{r c n d k g m e:Nat}{x y:Int}{F:Nat->Nat->Int}(h:Mt q w2 r c A n d k F)(b:Bx w2 g 24 [.int .i64 x,.int .i64 y,.slice B m e])(hg:w.heap.size<=g)(hB:Below w.heap.size w w2):
  RetK (kT (kM q r c k F) (.k (.int .i64 0))) w (.returned (.tuple #[.agg #[.int .i64 (r:Int),.int .i64 (c:Int),.slice A n d],.int .i64 0])) (mput w2 g (r:Int) (c:Int) A n d):=⟨_,rfl,⟨_,_,rfl,⟨A,n,d,rfl,h.put b⟩,rfl⟩,a_q hB hg⟩
def IsOne (b:Nat)(z:Int)(k:Nat):FVal:=fun v w=>∃g s A n c,v= .slice (some ⟨g,0,none⟩) 1 1/\Bx w g 30 [.bool s,.slice A n c]/\b<=g/\Zc w s A n c z/\n<=k
def kOne (b:Nat)(z:Int)(k:Nat):FK:=.f (IsOne b z k) (fun v w w' ⟨g,s,A,n,c,e,h1,h2,h3,h4⟩ hb=>⟨g,s,A,n,c,e,h1.below hb,h2,h3.below hb,h4⟩)
theorem j_x {w:World}{s:Bool}{A:Option Addr}{n c:Nat}:(Instr.buildSlice 22 1 #[(0,.agg #[.bool s,.slice A n c])]).run Try.prog w= .ok (.slice (some ⟨w.heap.size,0,none⟩) 1 1) (w.alloc (.cells #[.bool s,.slice A n c] 30)):=by kernel_rfl
def bsX (o:Op):Operand:=match o with| .buildSlice _ _ xs=>(match xs.toList with|(_,x)::_=>x| []=>.func 0)|_=>.func 0
def okBs (ops:Array Oper)(m i:Nat)(s:Src):Bool:=okH ops m i&&(match(opAt ops i).op with| .buildSlice T 1 xs=>(match xs.toList with| [(0,x)]=>T==22&&s.ok ops m i x|_=>false)|_=>false)
theorem Run.bs {ops:Array Oper}{Q:Exit->Act->World->Prop}{m i:Nat}{a0:Act}{w0:World}{l:List FK}{b:Bool}{id:Nat}(s:Src){z:Int}{k b0:Nat}(hb0:b0<=w0.heap.size)(rest:R ops Q m a0 w0 b id (kOne b0 z k::l) (i+1))
  (hx:s.K l i a0 (bsX (opAt ops i).op)=kC z k:=by rfl) (hc:okBs ops m i s=true:=by kernel_rfl) (hg:Gd l i (opAt ops i):=by first|exact trivial|exact rfl):R ops Q m a0 w0 b id l i:=by
 unfold okBs at hc;rw[Bool.and_eq_true]at hc;obtain⟨h1,h2⟩:=hc;refine Run.mem (x:=kOne b0 z k) (fun a w h=>?_) rest (FK.fne _) h1 hg;split at h2
 ·rename_i T xs e;split at h2
  ·rename_i x ex;obtain⟨ys⟩:=xs;simp only at ex;subst ex;have e0:bsX (opAt ops i).op=x:=by rw[e];rfl
   rw[e0]at hx;rw[Bool.and_eq_true,beq_iff_eq]at h2;obtain⟨rfl,h2⟩:=h2
   have:=h.src h2;rw[hx]at this;obtain⟨s',A,n,c,ev,hz,hk⟩:=this;have B:=zba w (.cells #[.bool s',.slice A n c] 30);refine⟨_,_, ?_,⟨w.heap.size,s',A,n,c,rfl,Bx.new w _ _,Nat.le_trans hb0 h.below.size,hz.below B,hk⟩,B⟩;unfold execOp;rw[e];simp only[List.map_toArray,List.map_cons,List.map_nil,ev];simp[j_x]
  ·cases h2
 ·cases h2
def IsZw (b n k:Nat)(zs:List Int):FVal:=fun v w=>∃g,v= .slice (some ⟨g,0,none⟩) n n/\ZB w g k zs/\b<=g
def kZw (b n k:Nat)(zs:List Int):FK:=.f (IsZw b n k zs) (fun v w w' ⟨g,e,h1,h2⟩ hb=>⟨g,e,h1.below hb,h2⟩)
theorem p_q {r c k:Nat}{f:FuncId}{first captured:Array Value}{F:Nat->Nat->Int}{w:World}(hr:r<=64)(hc:c<=64)(hgo:goes f=true)
  (H:∀i j W,i<r->j<c->Below w.heap.size w W->Calls Try.prog f (first++ #[.int .i64 (i:Int),.int .i64 (j:Int)]++captured) W (RetK (kC (F i j) k) W)):
  Calls Try.prog 68 #[.int .i64 (r:Int),.int .i64 (c:Int),.func (.func f) first captured] w (RetK (kZw w.heap.size (r*c) k (mk r c F)) w):=by
 have HF:=Lib.hid H;obtain⟨N,hN⟩:∃N,r*c=N:=⟨_,rfl⟩;have hN2:N<=4096:=by rw[<-hN];exact Nat.mul_le_mul hr hc
 have e12:(r:Int)*(c:Int)=(N:Int):=by rw[<-hN];simp
 have HN:=Lib.hid hN;rw[HN.out];clear H hN;go_enter Try.func68,Try.ntmps68
 go_wp2_with (at_make;refine c_6 _ rfl _ _ 22 rfl Try.underlying22 info_zint N rfl rfl (by omega) ?_)
 intro w2 hb B2 s2;have HB:Hid (Below w.heap.size w w2/\ZB w2 w.heap.size k (fil (mk r c F) 0)):=
  Lib.hid ⟨B2,by rw[i_g,a_y,HN.out];exact hb.mono (Nat.zero_le _)⟩
 clear hb B2 s2 e12
 go_wp2_with fail
 go_loopw [7,15] (fun s7 s15 wr=>∃i:Nat,s7= .slice (some ⟨w.heap.size,0,none⟩) (i*c) N/\s15= .int .i64 (i:Int)/\i<=r/\Hid (Below w.heap.size w wr/\ZB wr w.heap.size k (fil (mk r c F) (i*c)))) (fun _ s15 _=>r - (intOf s15).toNat)
 case atStart=>exact⟨0,by rw[Nat.zero_mul],rfl,Nat.zero_le _,by rw[Nat.zero_mul];exact HB⟩
 case round=>
  clear HB;obtain⟨i,rfl,rfl,hi,HB⟩:=hrel;by_cases hlt:i<r
  ·have u1:(i:Int)<(r:Int):=by omega
   go_wp2_with fail
   go_loopw [7,19] (fun s7 s19 wq=>∃j:Nat,s7= .slice (some ⟨w.heap.size,0,none⟩) (i*c+j) N/\s19= .int .i64 (j:Int)/\j<=c/\Hid (Below w.heap.size w wq/\ZB wq w.heap.size k (fil (mk r c F) (i*c+j)))) (fun _ s19 _=>c - (intOf s19).toNat)
   case atStart=>exact⟨0,rfl,rfl,Nat.zero_le _,HB⟩
   case round=>
    clear HB;obtain⟨j,rfl,rfl,hj,HB⟩:=hrel;by_cases hjl:j<c
    ·have u2:(j:Int)<(c:Int):=by omega
     go_upto_region 8 with fail
     obtain⟨B0,hb⟩:=HB.out;refine Run.start 6 ?_;refine .mv .o ?_;refine .mv .o ?_;refine .mv .o ?_;refine .mv .o ?_;refine .cv2 (.i 1) (.i 2) (.i 3) (x:=kC (F i j) k) rfl hgo (by rintro u v w4 hB rfl rfl;exact HF.out i j w4 hlt hjl (zup B0 hB)) ?_;refine .bs (.i 4) (Nat.le_refl _) ?_;refine .donep [some 22,some 23,some 24,some 25,some 26,some 27] ?_;intro w4 B4;rintro v0 -;rintro v ⟨g,s_,A_,n_,c_,rfl,bg,hge,hz,hk⟩;refine sh [_,_] ?_;simp only[Act.put,lS,lZ,lC];have hm:=f_y hlt hjl;have hL:(fil (mk r c F) (i*c+j)).length=N:=by rw[b_x (by rw[a_y];omega),a_y,HN.out]
     have hlt0:=hb.lt
     go_wp2_with (at_builtin;refine e_u rfl _ _ 22 rfl Try.underlying22 info_zint rfl rfl bg hz hk (hb.below B4) (by rw[hL,<-HN.out];exact hm) hL.symm ?_)
     intro w5 hb5 hg5;have HN2:Hid (Below w.heap.size w w5/\ZB w5 w.heap.size k (fil (mk r c F) (i*c+(j+1)))):=by
      refine Lib.hid ⟨e_5 (zup B0 B4) hg5 (Nat.le_refl _), ?_⟩;rw[<-h_f (F:=F) hlt hjl,k_z (by rw[a_y];exact hm)]at hb5;exact hb5
     clear hb5 hg5 hb bg hz hk hm hL hlt0 B0 B4
     go_wp2_with fail
     go_roundw
     case rel=>exact⟨j+1,rfl,by go_num,by omega,HN2⟩
     case measure=>first|(simp[intOf];done)|(simp[intOf];omega)
    ·obtain rfl:j=c:=by omega
     have u2:¬(j:Int)<(j:Int):=by omega
     rw[show i*j+j=(i+1)*j by rw[Nat.succ_mul]]at HB
     go_wp2_with fail
     go_roundw
     case rel=>exact⟨i+1,by rw[Nat.succ_mul],by go_num,by omega,HB⟩
     case measure=>first|(simp[intOf];done)|(simp[intOf];omega)
  ·obtain rfl:i=r:=by omega
   have u1:¬(i:Int)<(i:Int):=by omega
   obtain⟨B0,hb⟩:=HB.out;rw[HN.out,show fil (mk i c F) N=mk i c F by have:=h_n (mk i c F);rwa [a_y,HN.out]at this]at hb;have P:Hid (RetK (kZw w.heap.size N k (mk i c F)) w (.returned (.slice (some ⟨w.heap.size,0,none⟩) N N)) _):=Lib.hid ⟨_,rfl,⟨_,rfl,hb,Nat.le_refl _⟩,B0⟩;clear hb B0 HB;rw[HN.out]
   go_wp2_with fail
   exact bodyPost_ret (v:=.slice (some ⟨w.heap.size,0,none⟩) N N) (by simp[results,Try.results68,go_sem]) rfl P.out
def IsMB (b r c k:Nat)(F:Nat->Nat->Int):FVal:=fun v w=>∃g N,v= .agg #[.int .i64 (r:Int),.int .i64 (c:Int),.slice (some ⟨g,0,none⟩) N N]/\N=r*c/\ZB w g k (mk r c F)/\b<=g/\r<=64/\c<=64
def kMB (b r c k:Nat)(F:Nat->Nat->Int):FK:=.f (IsMB b r c k F) (fun v w w' ⟨g,N,e,e2,h1,h2⟩ hb=>⟨g,N,e,e2,h1.below hb,h2⟩)
theorem IsMB.mt {b r c k g N:Nat}{F:Nat->Nat->Int}{w:World}(e:N=r*c)(hb:ZB w g k (mk r c F))(hr:r<=64)(hc:c<=64):Mt true w r c (some ⟨g,0,none⟩) N N k F:=⟨by
 have hN2:r*c<=4096:=Nat.mul_le_mul hr hc
 have:=hb.zl0 true (n:=N) (c:=N) (by rw[a_y];omega) (Nat.le_refl _) (by omega);rwa [List.take_of_length_le (by rw[a_y];omega)]at this,hr,hc⟩
theorem IsMB.m {b r c k:Nat}{F:Nat->Nat->Int}{v:Value}{w:World}(h:IsMB b r c k F v w):IsM true r c k F v w:=by
 obtain⟨g,N,e,e2,h1,h2,h3,h4⟩:=h;exact⟨_,_,_,e,IsMB.mt (b:=b) e2 h1 h3 h4⟩
theorem IsMB.lo {b b' r c k:Nat}{F:Nat->Nat->Int}(hb:b'<=b)(v:Value)(w:World)(h:IsMB b r c k F v w):IsMB b' r c k F v w:=by
 obtain⟨g,N,e,e2,h1,h2,h3⟩:=h;exact⟨g,N,e,e2,h1,Nat.le_trans hb h2,h3⟩
theorem n_u {r c k:Nat}{f:FuncId}{first captured:Array Value}{F:Nat->Nat->Int}{w:World}(hr:r<=64)(hc:c<=64)(hgo:goes f=true)
  (H:∀i j W,i<r->j<c->Below w.heap.size w W->Calls Try.prog f (first++ #[.int .i64 (i:Int),.int .i64 (j:Int)]++captured) W (RetK (kC (F i j) k) W)):
  Calls Try.prog 42 #[.int .i64 (r:Int),.int .i64 (c:Int),.func (.func f) first captured] w (RetK (kMB w.heap.size r c k F) w):=by
 obtain⟨w1,hw1,b6,z1,s1⟩:=boxes1 w 24 [.int .i64 0,.int .i64 0,.slice none 0 0];have HW:=Lib.hid hw1;have HF:=Lib.hid H;obtain⟨N,hN⟩:∃N,r*c=N:=⟨_,rfl⟩;have hN2:N<=4096:=by rw[<-hN];exact Nat.mul_le_mul hr hc
 have HN:=Lib.hid hN;clear hw1 H hN;go_enter Try.func42,Try.ntmps42
 go_upto_region 1 with fail
 rw[HW.out];have hG:=p_q (w:=w1) hr hc hgo fun i j W hi hj hW=>HF.out i j W hi hj (zup z1 hW);rw[HN.out]at hG
 go_wp2_with fail
 refine hG.mono ?_;rintro e w2 ⟨v,rfl,⟨g,rfl,hb,hg⟩,B2⟩;clear hG;replace b6:=b6.below B2;have P:Hid (RetK (kMB w.heap.size r c k F) w (.returned (.agg #[.int .i64 (r:Int),.int .i64 (c:Int),.slice (some ⟨g,0,none⟩) N N])) (mput w2 w.heap.size (r:Int) (c:Int) (some ⟨g,0,none⟩) N N)):=
  Lib.hid ⟨_,rfl,⟨g,N,rfl,HN.out.symm,hb.gro (fun e=>by have:=s1;omega) (b6.now (by simp)) (c_s _ _ _ _ _ _ _),by omega,hr,hc⟩,a_q (zup z1 B2) (Nat.le_refl _)⟩
 have i0:=b6.cell 0;have i1:=b6.cell 1;have i2:=b6.cell 2;have f0:=b6.free 0;have f1:=b6.free 1;have f2:=b6.free 2;simp only[List.getElem?_cons_succ,List.getElem?_cons_zero]at i0 i1 i2;clear b6 hb B2 z1 s1 HW;unfold mput at P
 go_wp2_with fail
 exact bodyPost_ret (v:=.agg #[.int .i64 (r:Int),.int .i64 (c:Int),.slice (some ⟨g,0,none⟩) N N]) (by simp[results,Try.results42,go_sem,i0,i1,i2]) rfl P.out
theorem r_n {b r c k:Nat}{f:FuncId}{first captured:Array Value}{F:Nat->Nat->Int}{w:World}(hb:b<=w.heap.size)(hr:r<=64)(hc:c<=64)(hgo:goes f=true)
  (H:∀i j W,i<r->j<c->Below w.heap.size w W->Calls Try.prog f (first++ #[.int .i64 (i:Int),.int .i64 (j:Int)]++captured) W (RetK (kC (F i j) k) W)):
  Calls Try.prog 42 #[.int .i64 (r:Int),.int .i64 (c:Int),.func (.func f) first captured] w (RetK (kMB b r c k F) w):=
 (n_u hr hc hgo H).mono fun e w' h=>h.mono (IsMB.lo hb)
theorem k_x {r c k:Nat}{f:FuncId}{first captured:Array Value}{F:Nat->Nat->Int}{w:World}(hr:r<=64)(hc:c<=64)(hgo:goes f=true)
  (H:∀i j W,i<r->j<c->Below w.heap.size w W->Calls Try.prog f (first++ #[.int .i64 (i:Int),.int .i64 (j:Int)]++captured) W (RetK (kC (F i j) k) W)):
  Calls Try.prog 42 #[.int .i64 (r:Int),.int .i64 (c:Int),.func (.func f) first captured] w (RetK (kM true r c k F) w):=
 (n_u hr hc hgo H).mono fun e w' h=>h.mono fun v w h=>h.m
end
section
open Go.RowKit
section
variable {w:World}{g h:Nat}{T:TypeId}{cs:List Value}{s t:Bool}{A B:Option Addr}{n c m d:Nat}{z:Int}
theorem Bx.zp (b:Bx w g 30 [.bool t,.slice B m d]):Bx (zput w g s A n c) g 30 [.bool s,.slice A n c]:=(b.set 0 _).set 1 _
theorem Bx.zo (b:Bx w h T cs)(hn:h≠g):Bx (zput w g s A n c) h T cs:=(b.off hn _ _).off hn _ _
theorem Zc.zp {s':Bool}{A':Option Addr}{n' c':Nat}(x:Zc w s A n c z)(b:Bx w g 30 [.bool t,.slice B m d]):Zc (Go.Proofs.Ytlgjjnmmepgafaa.zput w g s' A' n' c') s A n c z:=x.put (Ib.entry b)
theorem zeroZ {T:TypeId}(h:w.heap[g]? =some (zeroObj 30)):Bx w g 30 [.bool false,.slice none 0 0]:=h.trans (congrArg some (by kernel_rfl))
end
end
section
open Go.RowKit
theorem Bx.m3 {w:World}{g:Nat}{T:TypeId}{x y z:Value}(b:Bx w g T [x,y,z]):w.cell? ⟨g,0,none⟩=some x/\w.cell? ⟨g,1,none⟩=some y/\w.cell? ⟨g,2,none⟩=some z/\w.frozen? ⟨g,0,none⟩=false/\w.frozen? ⟨g,1,none⟩=false/\w.frozen? ⟨g,2,none⟩=false/\g<w.heap.size:=⟨b.cell 0,b.cell 1,b.cell 2,b.free 0,b.free 1,b.free 2,b.lt⟩
theorem argsC2 (i j a b:Value):#[]++ #[i,j]++ #[a,b]= #[i,j,a,b]:=rfl
end
section
open Go.RowKit
def bsL (o:Op):List Operand:=match o with| .buildSlice _ _ xs=>xs.toList.map (·.2)|_=>[]
section
variable {ops:Array Oper}{Q:Exit->Act->World->Prop}{m i:Nat}{a0:Act}{w0:World}{l:List FK}{b:Bool}{id:Nat}
end
end
end Go.Proofs.Ytlgjjnmmepgafaa
