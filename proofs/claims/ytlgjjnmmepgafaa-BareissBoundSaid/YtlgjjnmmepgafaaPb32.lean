/- Pb32 -/
import Derived.Test.YtlgjjnmmepgafaaPb27
set_option linter.unusedVariables false
set_option linter.unusedSimpArgs false
set_option linter.unusedSectionVars false
set_option maxRecDepth 100000
set_option maxHeartbeats 8000000
namespace Go.Proofs.Ytlgjjnmmepgafaa
section
open Go.RowKit
theorem o_k {A:Option Addr}{n cap l h m:Nat}(h1:l<=h)(h2:h<=m)(h3:m<=cap)(w:World):(Instr.sliceAt 22 (.slice A n cap) (some (.int .i64 (l:Int))) (some (.int .i64 (h:Int))) (some (.int .i64 (m:Int)))).run Try.prog w= .ok (.slice (if m=l then A else A.map (·.add (l*2))) (h - l) (m - l)) w:=by
 have a1:(0:Int)<=(l:Int):=by omega
 have a2:(l:Int)<=(h:Int):=by omega
 have a3:(h:Int)<=(m:Int):=by omega
 have a4:(m:Int)<=(cap:Int):=by omega
 simp[go_sem,Try.underlying22,zp_cells,h1,h2,h3]
section
variable {ops:Array Oper}{Q:Exit->Act->World->Prop}{m i:Nat}{a0:Act}{w0:World}{l:List FK}{b:Bool}{id:Nat}
def slO (o:Op):List Operand:=match o with| .slice _ x (some l) (some h) (some m)=>[x,l,h,m] | .slice _ x (some l) (some h) none=>[x,l,h] |_=>[]
def okSl3 (ops:Array Oper)(m i:Nat)(s t u v:Src):Bool:=okH ops m i&&(match(opAt ops i).op with| .slice T x (some l) (some h) (some mx)=>T==22&&s.ok ops m i x&&t.ok ops m i l&&u.ok ops m i h&&v.ok ops m i mx|_=>false)
theorem Run.sl3 (s t u v:Src){A:Option Addr}{n cap x y z:Nat}(h1:x<=y)(h2:y<=z)(h3:z<=cap)(rest:R ops Q m a0 w0 b id (.k (.slice (if z=x then A else A.map (·.add (x*2))) (y - x) (z - x))::l) (i+1))(hx:srcsK l i a0 (slO (opAt ops i).op) [s,t,u,v] [.slice A n cap,.int .i64 (x:Int),.int .i64 (y:Int),.int .i64 (z:Int)]:=by exact⟨rfl,rfl,rfl,rfl,trivial⟩)(hc:okSl3 ops m i s t u v=true:=by kernel_rfl)(hg:Gd l i (opAt ops i):=by first|exact trivial|exact rfl):R ops Q m a0 w0 b id l i:=by
 unfold okSl3 at hc;rw[Bool.and_eq_true]at hc;obtain⟨hh,h4⟩:=hc;refine Run.run (fun a w h=>?_) rest hh hg;split at h4
 ·rename_i T X L H M e;simp only[Bool.and_eq_true,beq_iff_eq]at h4;obtain⟨⟨⟨⟨rfl,k1⟩,k2⟩,k3⟩,k4⟩:=h4;rw[e]at hx;obtain⟨e1,e2,e3,e4,-⟩:=hx;unfold execOp;rw[e];simp only[Option.map_some,h.srcK k1 e1,h.srcK k2 e2,h.srcK k3 e3,h.srcK k4 e4];simp[o_k h1 h2 h3 w]
 ·cases h4
end
theorem p_d {q:Bool}{r c n d k:Nat}{A:Option Addr}{F:Nat->Nat->Int}{w:World}(ha:Mt q w r c A n d k F)(hk:k<=1099511627776):Calls Try.prog 84 #[.agg #[.int .i64 (r:Int),.int .i64 (c:Int),.slice A n d]] w (RetK (kT (kMB w.heap.size r c k F) (.k (.int .i64 0))) w):=by
 have h1:=ha.fmd;have h3:=ha.hr;have h4:=ha.hc;obtain⟨w1,hw1,b1,b2,z1,s1⟩:=boxes2 w 24 24 [.int .i64 (r:Int),.int .i64 (c:Int),.slice A n d] [.int .i64 0,.int .i64 0,.slice none 0 0];have HW:=Lib.hid hw1;have HZ:=Lib.hid z1;have h1_:=Lib.hid h1;clear hw1 z1 h1 s1;go_enter Try.func84,Try.ntmps84
 go_upto_region 1 with fail
 rw[HW.out];refine Run.start 3 ?_;refine .ld .o (ldM b1 0) ?_;refine .c1 (.i 0) (x:=.k (.bool true)) (by rintro u w2 hB rfl;exact b_c h1_.out w2) ?_;refine .nt (.i 1) ?_;refine .donep [some 4,some 5,some 6] ?_;intro w2 B2;refine sh [] ?_;simp only[Act.put,lS,lZ,lC];replace b1:=b1.below B2;replace b2:=b2.below B2;have HZ2:=Lib.hid (zup HZ.out B2);clear B2 HZ;go_upto_region 3 with fail
 refine Run.start 7 ?_;refine .fa .o (fM0 0) ?_;refine .ld (.i 0) (ldInt b1 0) ?_;refine .fa .o (fM1 1) ?_;refine .ld (.i 2) (ldInt b1 1) ?_;refine .ld .o (ldM b1 0) ?_;refine .fn [(.i 4)] [] [_] [] (⟨rfl,trivial⟩) (trivial) ?_;refine .c3 (.i 1) (.i 3) (.i 5) (x:=kMB w.heap.size r c k F) (by rintro u v x w3 hB rfl rfl rfl;exact r_n (zup HZ2.out hB).size h3 h4 (by kernel_rfl) (fun i j W hi hj hW=>i_a (ha.below (zup (zup HZ2.out hB) hW)) hi hj hk)) ?_;refine .donep [some 8,some 9,some 10,some 11,some 12,some 13,some 14] ?_;intro w3 B3;rintro v ⟨g_,N_,rfl,eN,hb,hge,hr,hc⟩;refine sh [_,_] ?_;simp only[Act.put,lS,lZ,lC];have b2n:=(b2.below B3).now (by simp);have bne:g_≠w.heap.size+1:=fun e=>by
  obtain⟨cs,x1,-⟩:=hb;have x2:=b2.below B3;unfold Bx at x2;rw[<-e,x1]at x2;injection x2 with x3
  injection x3 with _ x4
  exact absurd x4 (by decide)
 have P:Hid (RetK (kT (kMB w.heap.size r c k F) (.k (.int .i64 0))) w (.returned (.tuple #[.agg #[.int .i64 (r:Int),.int .i64 (c:Int),.slice (some ⟨g_,0,none⟩) N_ N_],.int .i64 0])) (mput w3 (w.heap.size+1) (r:Int) (c:Int) (some ⟨g_,0,none⟩) N_ N_)):=
  Lib.hid ⟨_,rfl,⟨_,_,rfl,⟨g_,N_,rfl,eN,hb.gro bne b2n (c_s _ _ _ _ _ _ _),hge,hr,hc⟩,rfl⟩,a_q (zup HZ2.out B3) (by omega)⟩
 clear b2n bne eN;unfold mput at P;obtain⟨i0,i1,i2,i3,i4,i5,i6⟩:=(b2.below B3).m3;clear hb
 go_wp2_with fail
 exact bodyPost_ret (v:=.tuple #[.agg #[.int .i64 (r:Int),.int .i64 (c:Int),.slice (some ⟨g_,0,none⟩) N_ N_],.int .i64 0]) (by simp[results,Try.results84,go_sem,i0,i1,i2]) rfl P.out
def IsHdr (b r:Nat):FVal:=fun v w=>∃H,v= .slice (some ⟨H,0,none⟩) r r/\Bx w H 22 (List.replicate r (.slice none 0 0))/\b<=H
def kHdr (b r:Nat):FK:=.f (IsHdr b r) (fun v w w' ⟨H,e,h1,h2⟩ hb=>⟨H,e,h1.below hb,h2⟩)
theorem info_zs:(Try.prog.info? 22).map (fun i=>(i.zero,i.size,i.bytes))=some (some (.slice none 0 0),1,24):=by kernel_rfl
theorem o_m {T:TypeId}(hu:Try.prog.underlying T=some (.slice 22))(w:World)(r:Nat)(hr:r<=1048576):(Instr.makeSlice T (.int .i64 (r:Int)) (.int .i64 (r:Int))).run Try.prog w= .ok (.slice (some ⟨w.heap.size,0,none⟩) r r) (w.alloc (.cells (List.replicate r (.slice none 0 0)).toArray 22)):=by
 obtain⟨i,hi,hz0,hz1,hz2⟩:=info_parts info_zs;rw[run_make w _ _ i (.slice none 0 0) hu hi hz0 .i64 .i64 (r:Int) (r:Int) (by omega) (Int.le_refl _) (by rw[hz2];omega) (by omega)];rw[hz1];simp[madeCells];congr 2
 apply Array.ext
 ·simp
 ·intro j h1 h2;simp[Value.cells,Nat.mod_one]
section
variable {ops:Array Oper}{Q:Exit->Act->World->Prop}{m i:Nat}{a0:Act}{w0:World}{l:List FK}{b:Bool}{id:Nat}
def mkX (o:Op):Operand:=match o with| .makeSlice _ x _=>x| .box _ x=>x|_=>.func 0
def mkY (o:Op):Operand:=match o with| .makeSlice _ _ y=>y|_=>.func 0
def okMkT (ops:Array Oper)(m i:Nat)(s:Src)(U:TypeId):Bool:=okH ops m i&&(match(opAt ops i).op with| .makeSlice T x y=>T==U&&s.ok ops m i x&&s.ok ops m i y|_=>false)
theorem Run.mkST (s:Src){T:TypeId}{r b0:Nat}(hu:Try.prog.underlying T=some (.slice 22))(hr:r<=1048576)(hb0:b0<=w0.heap.size)(rest:R ops Q m a0 w0 b id (kHdr b0 r::l) (i+1))(hx:s.K l i a0 (mkX (opAt ops i).op)= .k (.int .i64 (r:Int)):=by rfl)(hy:s.K l i a0 (mkY (opAt ops i).op)= .k (.int .i64 (r:Int)):=by rfl)(hc:okMkT ops m i s T=true:=by kernel_rfl)(hg:Gd l i (opAt ops i):=by first|exact trivial|exact rfl):R ops Q m a0 w0 b id l i:=by
 unfold okMkT at hc;rw[Bool.and_eq_true]at hc;obtain⟨hh,h4⟩:=hc;refine Run.mem (x:=kHdr b0 r) (fun a w h=>?_) rest (FK.fne _) hh hg;split at h4
 ·rename_i T x y e;simp only[Bool.and_eq_true,beq_iff_eq]at h4;obtain⟨⟨rfl,h2⟩,h3⟩:=h4;rw[e]at hx hy;refine⟨_,_, ?_,⟨w.heap.size,rfl,Bx.new w _ _,Nat.le_trans hb0 h.below.size⟩,zba w _⟩;unfold execOp;rw[e];simp only[h.srcK h2 hx,h.srcK h3 hy];simp[o_m hu w r hr]
 ·cases h4
theorem Run.mkS (s:Src){r b0:Nat}(hr:r<=1048576)(hb0:b0<=w0.heap.size)(rest:R ops Q m a0 w0 b id (kHdr b0 r::l) (i+1))(hx:s.K l i a0 (mkX (opAt ops i).op)= .k (.int .i64 (r:Int)):=by rfl)(hy:s.K l i a0 (mkY (opAt ops i).op)= .k (.int .i64 (r:Int)):=by rfl)(hc:okMkT ops m i s 59=true:=by kernel_rfl)(hg:Gd l i (opAt ops i):=by first|exact trivial|exact rfl):R ops Q m a0 w0 b id l i:=
 Run.mkST s Try.underlying59 hr hb0 rest hx hy hc hg
end
end
section
open Go.RowKit
def Bd (W k:Nat)(f:Nat->Int):Prop:=∀j,j<W->(f j).natAbs<18446744073709551616^k
theorem r_7 {a b:Nat}(h:a<=b):18446744073709551616^a<=18446744073709551616^b:=Nat.pow_le_pow_right (by omega) h
theorem Zc.le {w:World}{s:Bool}{A:Option Addr}{n c k:Nat}{z:Int}(h:Zc w s A n c z)(hb:z.natAbs<18446744073709551616^k):n<=k:=by
 rw[<-h.1.2.1];exact a_f _ _ _ (by omega) hb
theorem Zc.lt {w:World}{s:Bool}{A:Option Addr}{n c k:Nat}{z:Int}(h:Zc w s A n c z)(hn:n<=k):z.natAbs<18446744073709551616^k:=Nat.lt_of_lt_of_le h.1.lt (r_7 hn)
section
variable {W k k' a b c:Nat}{f g:Nat->Int}{q x y:Int}
end
structure Rw (b:Nat) (w:World) (g o W:Nat) (f:Nat->Int):Prop where
 ex:∃cs:Array Value,w.heap[g]? =some (.cells cs 30 (0,0))/\o+W*2<=cs.size/\∀j,j<W->∃s A n c,cs[o+j*2]? =some (.bool s)/\cs[o+j*2+1]? =some (.slice A n c)/\Zc w s A n c (f j)
 now:Wless w g
 lo:b<=g
section
variable {b b':Nat}{w w':World}{g g' o o' W k:Nat}{f f':Nat->Int}
theorem Rw.lt (h:Rw b w g o W f):g<w.heap.size:=by
 obtain⟨cs,h1,-⟩:=h.ex;exact(Array.getElem?_eq_some_iff.1 h1).1
theorem Wless.below (h:Wless w g)(hg:g<w.heap.size)(hb:Below w.heap.size w w'):Wless w' g:=fun p m hp e=>by
 refine h p m hp ?_;exact(World.cell?_of_block (a:=p) (by rw[hp];exact hb.block g hg)).symm.trans e
theorem Rw.below (h:Rw b w g o W f)(hb:Below w.heap.size w w'):Rw b w' g o W f:=by
 have hl:=h.lt;obtain⟨cs,h1,h2,h3⟩:=h.ex;exact⟨⟨cs,(hb.block g hl).trans h1,h2,fun j hj=>by
  obtain⟨s,A,n,c,e1,e2,e3⟩:=h3 j hj;exact⟨s,A,n,c,e1,e2,e3.below hb⟩⟩,h.now.below hl hb,h.lo⟩
theorem Rw.cells (h:Rw b w g o W f){j:Nat}(hj:j<W):∃s A n c,w.cell? ⟨g,o+j*2,none⟩=some (.bool s)/\w.cell? ⟨g,o+j*2+1,none⟩=some (.slice A n c)/\Zc w s A n c (f j):=by
 obtain⟨cs,h1,h2,h3⟩:=h.ex;obtain⟨s,A,n,c,e1,e2,e3⟩:=h3 j hj;exact⟨s,A,n,c,by rw[cell_of_row w g _ _ _ _ h1,e1],by rw[cell_of_row w g _ _ _ _ h1,e2],e3⟩
theorem Rw.zl (h:Rw b w g o W f)(hB:Bd W k f)(q:Bool){c:Nat}(hc:W<=c)(hm:c<=9223372036854775807):ZL q w (some ⟨g,o,none⟩) W c k (rw' W f):=by
 refine⟨b_p _ _,hc,hm,fun h0=>⟨_,rfl,h.lt,fun j hj=>?_⟩⟩;obtain⟨s,A,n,d,e1,e2,e3⟩:=h.cells hj;rw[c_m,f_k hj];exact⟨s,A,n,d,e1,e2,.of e3,e3.le (hB j hj)⟩
end
structure Rws (b:Nat) (w:World) (n W:Nat) (g o:Nat->Nat) (F:Nat->Nat->Int):Prop where
 row:∀a,a<n->Rw b w (g a) (o a) W (F a)
 dj:∀a c,a<n->c<n->a≠c->g a≠g c\/o a+W*2<=o c\/o c+W*2<=o a
section
variable {b b':Nat}{w w':World}{n n' W:Nat}{g o:Nat->Nat}{F F':Nat->Nat->Int}
theorem Rws.ne (h:Rws b w n W g o F){x:Nat}{T:TypeId}{cs:List Value}(bx:Bx w x T cs)(hT:T≠30){a:Nat}(ha:a<n):g a≠x:=fun e=>by
 obtain⟨cs',h1,-⟩:=(h.row a ha).ex;unfold Bx at bx;rw[<-e,h1]at bx;injection bx with bx
 injection bx with _ e2
 exact hT e2.symm
end
abbrev rwV (g o W c:Nat):Value:=.slice (some ⟨g,o,none⟩) W c
def rcs (R W:Nat)(g o cp:Nat->Nat):List Value:=(List.range R).map fun a=>rwV (g a) (o a) W (cp a)
theorem n_m {R W a:Nat}{g o cp:Nat->Nat}(h:a<R):(rcs R W g o cp)[a]? =some (rwV (g a) (o a) W (cp a)):=by simp[rcs,h]
end
end Go.Proofs.Ytlgjjnmmepgafaa
