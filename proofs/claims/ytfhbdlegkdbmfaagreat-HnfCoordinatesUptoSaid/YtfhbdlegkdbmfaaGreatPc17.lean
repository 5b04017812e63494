/- Pc17 -/
import Derived.Test.YtfhbdlegkdbmfaaGreatPc16
set_option linter.unusedVariables false
set_option linter.unusedSimpArgs false
set_option linter.unusedSectionVars false
set_option maxRecDepth 100000
set_option maxHeartbeats 8000000
namespace Go.Proofs.YtfhbdlegkdbmfaaGreat
section
open Go.RowKit
def kT3 (x y z:FK):FK:=.f (fun v w=>∃a b c,v= .tuple #[a,b,c]/\x.F a w/\y.F b w/\z.F c w) (fun v w w' ⟨a,b,c,e,h1,h2,h3⟩ hb=>⟨a,b,c,e,x.stays _ _ _ h1 hb,y.stays _ _ _ h2 hb,z.stays _ _ _ h3 hb⟩)
theorem j_d {x y z:FK}:∀v w,(kT3 x y z).F v w->∃vs:Array Value,∃u,v= .tuple vs/\vs[0]? =some u/\x.F u w:=fun v w ⟨a,b,c,e,h1,h2,h3⟩=>⟨_,a,e,rfl,h1⟩
theorem f_t {x y z:FK}:∀v w,(kT3 x y z).F v w->∃vs:Array Value,∃u,v= .tuple vs/\vs[1]? =some u/\y.F u w:=fun v w ⟨a,b,c,e,h1,h2,h3⟩=>⟨_,b,e,rfl,h2⟩
theorem f_s {x y z:FK}:∀v w,(kT3 x y z).F v w->∃vs:Array Value,∃u,v= .tuple vs/\vs[2]? =some u/\z.F u w:=fun v w ⟨a,b,c,e,h1,h2,h3⟩=>⟨_,c,e,rfl,h3⟩
theorem o_5 {A:Option Addr}{n cap l h m:Nat}(h1:l<=h)(h2:h<=m)(h3:m<=cap)(w:World):(Instr.sliceAt 25 (.slice A n cap) (some (.int .i64 (l:Int))) (some (.int .i64 (h:Int))) (some (.int .i64 (m:Int)))).run Tryz.prog w= .ok (.slice (if m=l then A else A.map (·.add (l*2))) (h - l) (m - l)) w:=by
 have a1:(0:Int)<=(l:Int):=by omega
 have a2:(l:Int)<=(h:Int):=by omega
 have a3:(h:Int)<=(m:Int):=by omega
 have a4:(m:Int)<=(cap:Int):=by omega
 simp[go_sem,Tryz.underlying25,zp_cells,h1,h2,h3]
theorem o_6 {A:Option Addr}{n cap l h:Nat}(h1:l<=h)(h2:h<=cap)(w:World):(Instr.sliceAt 25 (.slice A n cap) (some (.int .i64 (l:Int))) (some (.int .i64 (h:Int))) none).run Tryz.prog w= .ok (.slice (if cap=l then A else A.map (·.add (l*2))) (h - l) (cap - l)) w:=by
 have a1:(0:Int)<=(l:Int):=by omega
 have a2:(l:Int)<=(h:Int):=by omega
 have a4:(h:Int)<=(cap:Int):=by omega
 simp[go_sem,Tryz.underlying25,zp_cells,h1,h2]
section
variable {ops:Array Oper}{Q:Exit->Act->World->Prop}{m i:Nat}{a0:Act}{w0:World}{l:List FK}{b:Bool}{id:Nat}
def slO (o:Op):List Operand:=match o with| .slice _ x (some l) (some h) (some m)=>[x,l,h,m] | .slice _ x (some l) (some h) none=>[x,l,h] |_=>[]
def okSl3 (ops:Array Oper)(m i:Nat)(s t u v:Src):Bool:=okH ops m i&&(match(opAt ops i).op with| .slice T x (some l) (some h) (some mx)=>T==25&&s.ok ops m i x&&t.ok ops m i l&&u.ok ops m i h&&v.ok ops m i mx|_=>false)
theorem Run.sl3 (s t u v:Src){A:Option Addr}{n cap x y z:Nat}(h1:x<=y)(h2:y<=z)(h3:z<=cap)(rest:R ops Q m a0 w0 b id (.k (.slice (if z=x then A else A.map (·.add (x*2))) (y - x) (z - x))::l) (i+1))(hx:srcsK l i a0 (slO (opAt ops i).op) [s,t,u,v] [.slice A n cap,.int .i64 (x:Int),.int .i64 (y:Int),.int .i64 (z:Int)]:=by exact⟨rfl,rfl,rfl,rfl,trivial⟩)(hc:okSl3 ops m i s t u v=true:=by kernel_rfl)(hg:Gd l i (opAt ops i):=by first|exact trivial|exact rfl):R ops Q m a0 w0 b id l i:=by
 unfold okSl3 at hc;rw[Bool.and_eq_true]at hc;obtain⟨hh,h4⟩:=hc;refine Run.run (fun a w h=>?_) rest hh hg;split at h4
 ·rename_i T X L H M e;simp only[Bool.and_eq_true,beq_iff_eq]at h4;obtain⟨⟨⟨⟨rfl,k1⟩,k2⟩,k3⟩,k4⟩:=h4;rw[e]at hx;obtain⟨e1,e2,e3,e4,-⟩:=hx;unfold execOp;rw[e];simp only[Option.map_some,h.srcK k1 e1,h.srcK k2 e2,h.srcK k3 e3,h.srcK k4 e4];simp[o_5 h1 h2 h3 w]
 ·cases h4
def okSl2 (ops:Array Oper)(m i:Nat)(s t u:Src):Bool:=okH ops m i&&(match(opAt ops i).op with| .slice T x (some l) (some h) none=>T==25&&s.ok ops m i x&&t.ok ops m i l&&u.ok ops m i h|_=>false)
theorem Run.sl2 (s t u:Src){A:Option Addr}{n cap x y:Nat}(h1:x<=y)(h2:y<=cap)(rest:R ops Q m a0 w0 b id (.k (.slice (if cap=x then A else A.map (·.add (x*2))) (y - x) (cap - x))::l) (i+1))(hx:srcsK l i a0 (slO (opAt ops i).op) [s,t,u] [.slice A n cap,.int .i64 (x:Int),.int .i64 (y:Int)]:=by exact⟨rfl,rfl,rfl,trivial⟩)(hc:okSl2 ops m i s t u=true:=by kernel_rfl)(hg:Gd l i (opAt ops i):=by first|exact trivial|exact rfl):R ops Q m a0 w0 b id l i:=by
 unfold okSl2 at hc;rw[Bool.and_eq_true]at hc;obtain⟨hh,h4⟩:=hc;refine Run.run (fun a w h=>?_) rest hh hg;split at h4
 ·rename_i T X L H e;simp only[Bool.and_eq_true,beq_iff_eq]at h4;obtain⟨⟨⟨rfl,k1⟩,k2⟩,k3⟩:=h4;rw[e]at hx;obtain⟨e1,e2,e3,-⟩:=hx;unfold execOp;rw[e];simp only[Option.map_some,Option.map_none,h.srcK k1 e1,h.srcK k2 e2,h.srcK k3 e3];simp[o_6 h1 h2 w]
 ·cases h4
end
theorem r_j {r c i:Nat}{F:Nat->Nat->Int}(hi:i<r):((mk r c F).drop (i*c)).take c=rw' c (F i):=by
 have hb:i*c+c<=r*c:=by rw[<-Nat.succ_mul];exact Nat.mul_le_mul_right c hi
 apply List.ext_getElem
 ·rw[List.length_take,List.length_drop,a_1,c_q];omega
 ·intro j h1 h2;rw[c_q]at h2;have e:=g_m (F:=F) hi h2;have hlt:i*c+j<(mk r c F).length:=by rw[a_1];exact g_x hi h2
  simp[ith,List.getD,hlt]at e;simp[rw',e]
theorem p_p {q:Bool}{r c n d k:Nat}{A:Option Addr}{F:Nat->Nat->Int}{w:World}(ha:Mt q w r c A n d k F)(hk:k<=1099511627776):Calls Tryz.prog 129 #[.agg #[.int .i64 (r:Int),.int .i64 (c:Int),.slice A n d]] w (RetK (kT (kMB w.heap.size r c k F) (.k (.int .i64 0))) w):=by
 have h1:=ha.fmd;have h3:=ha.hr;have h4:=ha.hc;obtain⟨w1,hw1,b1,b2,z1,s1⟩:=boxes2 w 27 27 [.int .i64 (r:Int),.int .i64 (c:Int),.slice A n d] [.int .i64 0,.int .i64 0,.slice none 0 0];have HW:=Lib.hid hw1;have HZ:=Lib.hid z1;have h1_:=Lib.hid h1;clear hw1 z1 h1 s1;go_enter Tryz.func129,Tryz.ntmps129
 go_upto_region 1 with fail
 rw[HW.out];refine Run.start 3 ?_;refine .ld .o (ldM b1 0) ?_;refine .c1 (.i 0) (x:=.k (.bool true)) (by rintro u w2 hB rfl;exact b_f h1_.out w2) ?_;refine .nt (.i 1) ?_;refine .donep [some 4,some 5,some 6] ?_;intro w2 B2;refine sh [] ?_;simp only[Act.put,lS,lZ,lC];replace b1:=b1.below B2;replace b2:=b2.below B2;have HZ2:=Lib.hid (zup HZ.out B2);clear B2 HZ;go_upto_region 3 with fail
 refine Run.start 7 ?_;refine .fa .o (fM0 0) ?_;refine .ld (.i 0) (ldInt b1 0) ?_;refine .fa .o (fM1 1) ?_;refine .ld (.i 2) (ldInt b1 1) ?_;refine .ld .o (ldM b1 0) ?_;refine .fn [(.i 4)] [] [_] [] (⟨rfl,trivial⟩) (trivial) ?_;refine .c3 (.i 1) (.i 3) (.i 5) (x:=kMB w.heap.size r c k F) (by rintro u v x w3 hB rfl rfl rfl;exact r_x (zup HZ2.out hB).size h3 h4 (by kernel_rfl) (fun i j W hi hj hW=>i_g (ha.below (zup (zup HZ2.out hB) hW)) hi hj hk)) ?_;refine .donep [some 8,some 9,some 10,some 11,some 12,some 13,some 14] ?_;intro w3 B3;rintro v ⟨g_,N_,rfl,eN,hb,hge,hr,hc⟩;refine sh [_,_] ?_;simp only[Act.put,lS,lZ,lC];have b2n:=(b2.below B3).now (by simp);have bne:g_≠w.heap.size+1:=fun e=>by
  obtain⟨cs,x1,-⟩:=hb;have x2:=b2.below B3;unfold Bx at x2;rw[<-e,x1]at x2;injection x2 with x3
  injection x3 with _ x4
  exact absurd x4 (by decide)
 have P:Hid (RetK (kT (kMB w.heap.size r c k F) (.k (.int .i64 0))) w (.returned (.tuple #[.agg #[.int .i64 (r:Int),.int .i64 (c:Int),.slice (some ⟨g_,0,none⟩) N_ N_],.int .i64 0])) (mput w3 (w.heap.size+1) (r:Int) (c:Int) (some ⟨g_,0,none⟩) N_ N_)):=
  Lib.hid ⟨_,rfl,⟨_,_,rfl,⟨g_,N_,rfl,eN,hb.gro bne b2n (d_1 _ _ _ _ _ _ _),hge,hr,hc⟩,rfl⟩,a_j (zup HZ2.out B3) (by omega)⟩
 clear b2n bne eN;unfold mput at P;obtain⟨i0,i1,i2,i3,i4,i5,i6⟩:=(b2.below B3).m3;clear hb
 go_wp2_with fail
 exact bodyPost_ret (v:=.tuple #[.agg #[.int .i64 (r:Int),.int .i64 (c:Int),.slice (some ⟨g_,0,none⟩) N_ N_],.int .i64 0]) (by simp[results,Tryz.results129,go_sem,i0,i1,i2]) rfl P.out
def IsHdr (b r:Nat):FVal:=fun v w=>∃H,v= .slice (some ⟨H,0,none⟩) r r/\Bx w H 25 (List.replicate r (.slice none 0 0))/\b<=H
def kHdr (b r:Nat):FK:=.f (IsHdr b r) (fun v w w' ⟨H,e,h1,h2⟩ hb=>⟨H,e,h1.below hb,h2⟩)
theorem info_zs:(Tryz.prog.info? 25).map (fun i=>(i.zero,i.size,i.bytes))=some (some (.slice none 0 0),1,24):=by kernel_rfl
theorem o_7 {T:TypeId}(hu:Tryz.prog.underlying T=some (.slice 25))(w:World)(r:Nat)(hr:r<=1048576):(Instr.makeSlice T (.int .i64 (r:Int)) (.int .i64 (r:Int))).run Tryz.prog w= .ok (.slice (some ⟨w.heap.size,0,none⟩) r r) (w.alloc (.cells (List.replicate r (.slice none 0 0)).toArray 25)):=by
 obtain⟨i,hi,hz0,hz1,hz2⟩:=info_parts info_zs;rw[run_make w _ _ i (.slice none 0 0) hu hi hz0 .i64 .i64 (r:Int) (r:Int) (by omega) (Int.le_refl _) (by rw[hz2];omega) (by omega)];rw[hz1];simp[madeCells];congr 2
 apply Array.ext
 ·simp
 ·intro j h1 h2;simp[Value.cells,Nat.mod_one]
section
variable {ops:Array Oper}{Q:Exit->Act->World->Prop}{m i:Nat}{a0:Act}{w0:World}{l:List FK}{b:Bool}{id:Nat}
def mkX (o:Op):Operand:=match o with| .makeSlice _ x _=>x| .box _ x=>x|_=>.func 0
def mkY (o:Op):Operand:=match o with| .makeSlice _ _ y=>y|_=>.func 0
def okMkT (ops:Array Oper)(m i:Nat)(s:Src)(U:TypeId):Bool:=okH ops m i&&(match(opAt ops i).op with| .makeSlice T x y=>T==U&&s.ok ops m i x&&s.ok ops m i y|_=>false)
theorem Run.mkST (s:Src){T:TypeId}{r b0:Nat}(hu:Tryz.prog.underlying T=some (.slice 25))(hr:r<=1048576)(hb0:b0<=w0.heap.size)(rest:R ops Q m a0 w0 b id (kHdr b0 r::l) (i+1))(hx:s.K l i a0 (mkX (opAt ops i).op)= .k (.int .i64 (r:Int)):=by rfl)(hy:s.K l i a0 (mkY (opAt ops i).op)= .k (.int .i64 (r:Int)):=by rfl)(hc:okMkT ops m i s T=true:=by kernel_rfl)(hg:Gd l i (opAt ops i):=by first|exact trivial|exact rfl):R ops Q m a0 w0 b id l i:=by
 unfold okMkT at hc;rw[Bool.and_eq_true]at hc;obtain⟨hh,h4⟩:=hc;refine Run.mem (x:=kHdr b0 r) (fun a w h=>?_) rest (FK.fne _) hh hg;split at h4
 ·rename_i T x y e;simp only[Bool.and_eq_true,beq_iff_eq]at h4;obtain⟨⟨rfl,h2⟩,h3⟩:=h4;rw[e]at hx hy;refine⟨_,_, ?_,⟨w.heap.size,rfl,Bx.new w _ _,Nat.le_trans hb0 h.below.size⟩,zba w _⟩;unfold execOp;rw[e];simp only[h.srcK h2 hx,h.srcK h3 hy];simp[o_7 hu w r hr]
 ·cases h4
theorem Run.mkS (s:Src){r b0:Nat}(hr:r<=1048576)(hb0:b0<=w0.heap.size)(rest:R ops Q m a0 w0 b id (kHdr b0 r::l) (i+1))(hx:s.K l i a0 (mkX (opAt ops i).op)= .k (.int .i64 (r:Int)):=by rfl)(hy:s.K l i a0 (mkY (opAt ops i).op)= .k (.int .i64 (r:Int)):=by rfl)(hc:okMkT ops m i s 98=true:=by kernel_rfl)(hg:Gd l i (opAt ops i):=by first|exact trivial|exact rfl):R ops Q m a0 w0 b id l i:=
 Run.mkST s Tryz.underlying98 hr hb0 rest hx hy hc hg
end
end
section
open Go.RowKit
def Bd (W k:Nat)(f:Nat->Int):Prop:=∀j,j<W->(f j).natAbs<18446744073709551616^k
theorem g_h {a b:Nat}(h:a<=b):18446744073709551616^a<=18446744073709551616^b:=Nat.pow_le_pow_right (by omega) h
theorem i_e {x y a b k:Nat}(hx:x<18446744073709551616^a)(hy:y<18446744073709551616^b)(ha:a+1<=k)(hb:b+1<=k):x+y<18446744073709551616^k:=by
 obtain⟨m,rfl⟩:∃m,k=m+1:=⟨k - 1,by omega⟩;have h1:=Nat.lt_of_lt_of_le hx (g_h (show a<=m by omega));have h2:=Nat.lt_of_lt_of_le hy (g_h (show b<=m by omega));rw[Nat.pow_succ];omega
theorem e_4 {x y a b k:Nat}(hx:x<18446744073709551616^a)(hy:y<18446744073709551616^b)(h:a+b<=k):x*y<18446744073709551616^k:=by
 refine Nat.lt_of_lt_of_le (Nat.mul_lt_mul'' hx hy) ?_;rw[<-Nat.pow_add];exact g_h h
theorem Zc.le {w:World}{s:Bool}{A:Option Addr}{n c k:Nat}{z:Int}(h:Zc w s A n c z)(hb:z.natAbs<18446744073709551616^k):n<=k:=by
 rw[<-h.1.2.1];exact a_h _ _ _ (by omega) hb
theorem Zc.lt {w:World}{s:Bool}{A:Option Addr}{n c k:Nat}{z:Int}(h:Zc w s A n c z)(hn:n<=k):z.natAbs<18446744073709551616^k:=Nat.lt_of_lt_of_le h.1.lt (g_h hn)
section
variable {W k k' a b c:Nat}{f g:Nat->Int}{q x y:Int}
theorem Bd.mono (h:Bd W k f)(hk:k<=k'):Bd W k' f:=fun j hj=>Nat.lt_of_lt_of_le (h j hj) (g_h hk)
theorem Bd.subm (hf:Bd W a f)(hg:Bd W b g)(hq:q.natAbs<18446744073709551616^c)(h1:a+1<=k)(h2:c+b+1<=k):Bd W k fun j=>f j - q*g j:=fun j hj=>by
 refine Nat.lt_of_le_of_lt (Int.natAbs_sub_le _ _) ?_;rw[Int.natAbs_mul];exact i_e (hf j hj) (e_4 hq (hg j hj) (Nat.le_refl _)) h1 h2
theorem Bd.comb {d:Nat}(hf:Bd W a f)(hg:Bd W b g)(hx:x.natAbs<18446744073709551616^c)(hy:y.natAbs<18446744073709551616^d)(h1:c+a+1<=k)(h2:d+b+1<=k):Bd W k fun j=>x*f j+y*g j:=fun j hj=>by
 refine Nat.lt_of_le_of_lt (Int.natAbs_add_le _ _) ?_;rw[Int.natAbs_mul,Int.natAbs_mul];exact i_e (e_4 hx (hf j hj) (Nat.le_refl _)) (e_4 hy (hg j hj) (Nat.le_refl _)) h1 h2
theorem Bd.comb' {d:Nat}(hf:Bd W a f)(hg:Bd W b g)(hx:x.natAbs<18446744073709551616^c)(hy:y.natAbs<18446744073709551616^d)(h1:c+a+1<=k)(h2:d+b+1<=k):Bd W k fun j=>x*f j - y*g j:=fun j hj=>by
 refine Nat.lt_of_le_of_lt (Int.natAbs_sub_le _ _) ?_;rw[Int.natAbs_mul,Int.natAbs_mul];exact i_e (e_4 hx (hf j hj) (Nat.le_refl _)) (e_4 hy (hg j hj) (Nat.le_refl _)) h1 h2
theorem Bd.neg (hf:Bd W k f):Bd W k fun j=>- f j:=fun j hj=>by rw[Int.natAbs_neg];exact hf j hj
theorem h_r (u v:Int)(h:0<v):(u / v).natAbs<=u.natAbs:=Int.natAbs_ediv_le_natAbs u v
end
structure Rw (b:Nat) (w:World) (g o W:Nat) (f:Nat->Int):Prop where
 ex:∃cs:Array Value,w.heap[g]? =some (.cells cs 31 (0,0))/\o+W*2<=cs.size/\∀j,j<W->∃s A n c,cs[o+j*2]? =some (.bool s)/\cs[o+j*2+1]? =some (.slice A n c)/\Zc w s A n c (f j)
 now:Wless w g
 lo:b<=g
section
variable {b b':Nat}{w w':World}{g g' o o' W k:Nat}{f f':Nat->Int}
theorem Rw.lt (h:Rw b w g o W f):g<w.heap.size:=by
 obtain⟨cs,h1,-⟩:=h.ex;exact(Array.getElem?_eq_some_iff.1 h1).1
theorem Wless.below (h:Wless w g)(hg:g<w.heap.size)(hb:Below w.heap.size w w'):Wless w' g:=fun p m hp e=>by
 refine h p m hp ?_;exact(World.cell?_of_block (a:=p) (by rw[hp];exact hb.block g hg)).symm.trans e
theorem Rw.below (h:Rw b w g o W f)(hb:Below w.heap.size w w'):Rw b w' g o W f:=by
 have hl:=h.lt;obtain⟨cs,h1,h2,h3⟩:=h.ex;exact⟨⟨cs,(hb.block g hl).trans h1,h2,fun j hj=>by
  obtain⟨s,A,n,c,e1,e2,e3⟩:=h3 j hj;exact⟨s,A,n,c,e1,e2,e3.below hb⟩⟩,h.now.below hl hb,h.lo⟩
theorem Rw.congr (h:Rw b w g o W f)(e:∀j,j<W->f' j=f j):Rw b w g o W f':=by
 obtain⟨cs,h1,h2,h3⟩:=h.ex;exact⟨⟨cs,h1,h2,fun j hj=>by
  obtain⟨s,A,n,c,e1,e2,e3⟩:=h3 j hj;exact⟨s,A,n,c,e1,e2,by rw[e j hj];exact e3⟩⟩,h.now,h.lo⟩
theorem Rw.low (h:Rw b w g o W f)(hb:b'<=b):Rw b' w g o W f:=⟨h.ex,h.now,Nat.le_trans hb h.lo⟩
theorem Rw.gro {x:Nat}(h:Rw b w g o W f)(hne:g≠x)(hn:Wless w x)(hg:w.grownBy w' (some x)):Rw b w' g o W f:=by
 have hl:=h.lt;obtain⟨cs,h1,h2,h3⟩:=h.ex;have e:=hg.block g hl (fun e=>hne (Option.some.inj e));exact⟨⟨cs,e.trans h1,h2,fun j hj=>by
  obtain⟨s,A,n,c,e1,e2,e3⟩:=h3 j hj;exact⟨s,A,n,c,e1,e2,e3.gro hn hg⟩⟩,fun p m hp ec=>by
   refine h.now p m hp ?_;exact(World.cell?_of_block (a:=p) (by rw[hp];exact e)).symm.trans ec,h.lo⟩
theorem Rw.cells (h:Rw b w g o W f){j:Nat}(hj:j<W):∃s A n c,w.cell? ⟨g,o+j*2,none⟩=some (.bool s)/\w.cell? ⟨g,o+j*2+1,none⟩=some (.slice A n c)/\Zc w s A n c (f j):=by
 obtain⟨cs,h1,h2,h3⟩:=h.ex;obtain⟨s,A,n,c,e1,e2,e3⟩:=h3 j hj;exact⟨s,A,n,c,by rw[cell_of_row w g _ _ _ _ h1,e1],by rw[cell_of_row w g _ _ _ _ h1,e2],e3⟩
theorem Rw.free (h:Rw b w g o W f)(x:Nat):w.frozen? ⟨g,x,none⟩=false:=by
 obtain⟨cs,h1,-⟩:=h.ex;exact frozen_of_row w g x _ _ h1
theorem Rw.zl (h:Rw b w g o W f)(hB:Bd W k f)(q:Bool){c:Nat}(hc:W<=c)(hm:c<=9223372036854775807):ZL q w (some ⟨g,o,none⟩) W c k (rw' W f):=by
 refine⟨c_q _ _,hc,hm,fun h0=>⟨_,rfl,h.lt,fun j hj=>?_⟩⟩;obtain⟨s,A,n,d,e1,e2,e3⟩:=h.cells hj;rw[b_l,k_e hj];exact⟨s,A,n,d,e1,e2,.of e3,e3.le (hB j hj)⟩
theorem f_m {s:Bool}{A:Option Addr}{n c p:Nat}{cs:Array Value}(h1:w.heap[g]? =some (.cells cs 31 (0,0))):(zputo w g p s A n c).heap[g]? =some (.cells ((cs.setIfInBounds p (.bool s)).setIfInBounds (p+1) (.slice A n c)) 31 (0,0)):=by
 unfold zputo;rw[heap_setCell_same _ g _ _ _ _ (heap_setCell_same w g _ _ _ _ h1)]
theorem h_e {s:Bool}{A:Option Addr}{n c p:Nat}(h:Rw b w g o W f):Wless (zputo w g p s A n c) g:=fun q m hq e=>by
 obtain⟨cs,h1,-⟩:=h.ex;have h2:=f_m (s:=s) (A:=A) (n:=n) (c:=c) (p:=p) h1;have e2:((cs.setIfInBounds p (.bool s)).setIfInBounds (p+1) (.slice A n c))[q.off]? =some (.int .u64 m)/\q.spot=none:=by
  have:=e;unfold World.cell? at this;rw[hq,h2]at this;exact⟨(by simpa using this:q.spot=none/\_).2,(by simpa using this:q.spot=none/\_).1⟩
 have e3:cs[q.off]? =some (.int .u64 m):=by
  have h4:=e2.1;rw[Array.getElem?_setIfInBounds]at h4;split at h4
  ·split at h4<;>cases h4
  ·rw[Array.getElem?_setIfInBounds]at h4;split at h4
   ·split at h4<;>cases h4
   ·exact h4
 refine h.now q m hq ?_;obtain⟨qb,qo,qs⟩:=q;have e4:=e2.2;subst hq e4;rw[cell_of_row w _ _ _ _ _ h1];exact e3
theorem Rw.put (h:Rw b w g o W f){j n c:Nat}(hj:j<W){s:Bool}{A:Option Addr}{z:Int}(hz:Zc w s A n c z):Rw b (zputo w g (o+j*2) s A n c) g o W (fun i=>if i=j then z else f i):=by
 have hgr:=a_w w g (o+j*2) s A n c;have hno:=h.now;obtain⟨cs,h1,h2,h3⟩:=h.ex;refine⟨⟨_,f_m h1,by simpa using h2,fun i hi=>?_⟩,h_e h,h.lo⟩;by_cases e:i=j
 ·subst e;refine⟨s,A,n,c, ?_, ?_, ?_⟩
  ·rw[Array.getElem?_setIfInBounds_ne (by omega),Array.getElem?_setIfInBounds_self_of_lt (by omega)]
  ·rw[Array.getElem?_setIfInBounds_self_of_lt (by simp;omega)]
  ·rw[if_pos rfl];exact hz.gro hno hgr
 ·obtain⟨s',A',n',c',c1,c2,c3⟩:=h3 i hi;refine⟨s',A',n',c', ?_, ?_, ?_⟩
  ·rw[Array.getElem?_setIfInBounds_ne (by omega),Array.getElem?_setIfInBounds_ne (by omega)];exact c1
  ·rw[Array.getElem?_setIfInBounds_ne (by omega),Array.getElem?_setIfInBounds_ne (by omega)];exact c2
  ·rw[if_neg e];exact c3.gro hno hgr
theorem Rw.off (h:Rw b w g o W f){W':Nat}(h':Rw b' w g' o' W' f'){p n c:Nat}{s:Bool}{A:Option Addr}(hp:g=g'->p+2<=o\/o+W*2<=p):Rw b (zputo w g' p s A n c) g o W f:=by
 have hgr:=a_w w g' p s A n c;by_cases e:g=g'
 ·subst e;have hno:=h.now;have hp:=hp rfl;obtain⟨cs,h1,h2,h3⟩:=h.ex;refine⟨⟨_,f_m h1,by simpa using h2,fun i hi=>?_⟩,h_e h,h.lo⟩;obtain⟨s',A',n',c',c1,c2,c3⟩:=h3 i hi;refine⟨s',A',n',c', ?_, ?_,c3.gro hno hgr⟩
  ·rw[Array.getElem?_setIfInBounds_ne (by omega),Array.getElem?_setIfInBounds_ne (by omega)];exact c1
  ·rw[Array.getElem?_setIfInBounds_ne (by omega),Array.getElem?_setIfInBounds_ne (by omega)];exact c2
 ·exact h.gro e h'.now hgr
end
structure Rws (b:Nat) (w:World) (n W:Nat) (g o:Nat->Nat) (F:Nat->Nat->Int):Prop where
 row:∀a,a<n->Rw b w (g a) (o a) W (F a)
 dj:∀a c,a<n->c<n->a≠c->g a≠g c\/o a+W*2<=o c\/o c+W*2<=o a
section
variable {b b':Nat}{w w':World}{n n' W:Nat}{g o:Nat->Nat}{F F':Nat->Nat->Int}
theorem Rws.below (h:Rws b w n W g o F)(hb:Below w.heap.size w w'):Rws b w' n W g o F:=⟨fun a ha=>(h.row a ha).below hb,h.dj⟩
theorem Rws.congr (h:Rws b w n W g o F)(e:∀a j,a<n->j<W->F' a j=F a j):Rws b w n W g o F':=⟨fun a ha=>(h.row a ha).congr fun j hj=>e a j ha hj,h.dj⟩
theorem Rws.gro {x:Nat}(h:Rws b w n W g o F)(hne:∀a,a<n->g a≠x)(hn:Wless w x)(hg:w.grownBy w' (some x)):Rws b w' n W g o F:=⟨fun a ha=>(h.row a ha).gro (hne a ha) hn hg,h.dj⟩
theorem Rws.ne (h:Rws b w n W g o F){x:Nat}{T:TypeId}{cs:List Value}(bx:Bx w x T cs)(hT:T≠31){a:Nat}(ha:a<n):g a≠x:=fun e=>by
 obtain⟨cs',h1,-⟩:=(h.row a ha).ex;unfold Bx at bx;rw[<-e,h1]at bx;injection bx with bx
 injection bx with _ e2
 exact hT e2.symm
end
theorem opIxR {g o n c j p:Nat}{X Y:Operand}(h:j<n)(hp:o+j*2=p)(w:World):RunTwo Tryz.prog (.indexAddr 25 X Y) w (.slice (some ⟨g,o,none⟩) n c) (.int .i64 (j:Int)) (.pointer (some ⟨g,p,none⟩)):=by
 have:=k_g (w:=w) (ad:=⟨g,o,none⟩) (n:=n) (c:=c) h;rw[b_l,hp]at this;exact this
abbrev rwV (g o W c:Nat):Value:=.slice (some ⟨g,o,none⟩) W c
def rcs (R W:Nat)(g o cp:Nat->Nat):List Value:=(List.range R).map fun a=>rwV (g a) (o a) W (cp a)
theorem e_j {R W a:Nat}{g o cp:Nat->Nat}(h:a<R):(rcs R W g o cp)[a]? =some (rwV (g a) (o a) W (cp a)):=by simp[rcs,h]
end
section
open Go.RowKit
section
variable {P:Program}{ops:Array Oper}{Q:Exit->Act->World->Prop}{m i:Nat}{a0 a:Act}{w0 w:World}{l:List FK}{b:Bool}{id:Nat}
theorem n_a {fl:List Nat}(hm:m<=ops.size)(hl:l.length=m)(h:AllK Tryz.prog ops Q m a0 w0 l)(hfl:∀i,fl.contains i=true->i<m->FloatAt Tryz.prog ops m a0 w0 (fsOf l.reverse) i (opAt ops i)):∀(n i:Nat),n+i=m->HopAll Tryz.prog ops Q fl m a0 w0 (fsOf l.reverse) i ((ops.toList.take m).drop i)/\okL ((ops.toList.take m).drop i) (l.reverse.drop i):=by
 intro n;induction n with
 |zero=>
  intro i hi;rw[List.drop_of_length_le (by rw[List.length_take,Array.length_toList];omega),List.drop_of_length_le (by rw[List.length_reverse];omega)];exact⟨trivial,trivial⟩
 |succ n ih=>
  intro i hi;have hin:i<(ops.toList.take m).length:=by rw[List.length_take,Array.length_toList];omega
  have hil:i<l.reverse.length:=by rw[List.length_reverse];omega
  obtain⟨h1,h2⟩:=ih (i+1) (by omega);have hsz:i<ops.size:=by omega
  have ho:(ops.toList.take m)[i]=opAt ops i:=by rw[d_0 hsz];simp
  have hx:nthK l.reverse i=l.reverse[i]:=by
   have:∀(l:List FK) (i:Nat) (h:i<l.length),nthK l i=l[i]:=by
    intro l;induction l with
    |nil=>intro i h;simp at h
    |cons x l ih=>intro i h;cases i with
     |zero=>rfl
     |succ i=>simp only[nthK,List.getElem_cons_succ];exact ih i (by simpa using h)
   exact this l.reverse i hil
  obtain⟨l',hlk,hi2⟩:=allK_at l h i (by omega);rw[List.drop_eq_getElem_cons hin,List.drop_eq_getElem_cons hil,ho];rw[hx]at hi2;have hop:∀x:FK,nthK l.reverse i=x->HopK Tryz.prog ops Q m a0 w0 l' i x->HopAt Tryz.prog ops Q m a0 w0 (fsOf l.reverse) i (opAt ops i):=fun x ex hk a w hB ho' hp K hK=>
   hk a w ⟨hB,ho',fun k d hkk hd=>by
    have hkk0:=hkk;unfold inPre at hkk;simp only[Bool.and_eq_true,decide_eq_true_iff]at hkk;rw[hlk k hkk.1.1.1,<-nthF_of];exact hp k d (by simp only[Bool.and_eq_true,decide_eq_true_iff];exact⟨⟨⟨hkk.1.1.2,by rw[hd];simp⟩,hkk.1.2⟩,hkk.2⟩)⟩ K (fun v w' hv hb=>hK v w' (by rw[nthF_of,ex];exact hv) hb)
  cases ex:l.reverse[i]with
  |a T=>rw[ex]at hi2;exact⟨HopAll.al (by rw[hi2];rfl) h1,hi2,h2⟩
  |k v=>rw[ex]at hi2;exact⟨by
    cases ec:fl.contains i
    ·exact HopAll.cons ec (hop _ (hx.trans ex) hi2.2) h1
    ·exact HopAll.fl ec (hfl i ec (by omega)) h1,hi2.1,h2⟩
  |f F hF=>rw[ex]at hi2;exact⟨by
    cases ec:fl.contains i
    ·exact HopAll.cons ec (hop _ (hx.trans ex) hi2.2) h1
    ·exact HopAll.fl ec (hfl i ec (by omega)) h1,hi2.1,h2⟩
noncomputable def okQf (ops:Array Oper)(fl:List Nat)(m size:Nat):Bool:=regionOk ops fl m size&&((allocTs ops m).all okZ&&allocGuards ops m)
def okFl (ops:Array Oper)(m i k j:Nat):Bool:=(match(opAt ops i).op with| .extract (.tmp t) j'=>j'==j&&(predsOf ops i).contains k&&slotOf ops k==some t&&((ops[k]?).bind isAlloc).isNone&&decide (k<m)|_=>false)&&(opAt ops i).guard.isNone
theorem n_4 {Fs:List FVal}{j:Nat}(h:FloatAt Tryz.prog ops m a0 w0 Fs j (opAt ops j)):∀i,[j].contains i=true->i<m->FloatAt Tryz.prog ops m a0 w0 Fs i (opAt ops i):=fun i hi _=>by
 have e:i=j:=by simpa using hi
 subst e;exact h
theorem Run.donef (fl:List Nat)(ds:List (Option Nat))(hfl:∀i,fl.contains i=true->i<m->FloatAt Tryz.prog ops m a0 w0 (fsOf l.reverse) i (opAt ops i))(hend:∀w,Below w0.heap.size w0 w->EndQ ops Q m w0 w [] l.reverse ds a0)(hok:okQf ops fl m a0.tmps.size=true:=by kernel_rfl)(hds:(ops.toList.take m).map (·.dst)=ds:=by rfl)(hi:i=m:=by rfl)(hQ:∀c a d v w,Q (.panic c) (a.put d v) w->Q (.panic c) a w:=by(intro _ _ d _ _ h;cases d<;>exact h)):R ops Q m a0 w0 true id l i:=fun hl hall=>by
 unfold okQf at hok;simp only[Bool.and_eq_true]at hok;subst hi;have h:=n_a (fl:=fl) (b_m hok.1).1 hl hall hfl i 0 rfl;exact region8 fl i (fsOf l.reverse) hQ hok.1 hok.2.1 hok.2.2 (fsOf_stay l.reverse) h.1 (fun w hw=>c_y _ l.reverse l.reverse [] 0 a0 h.2 (fun j _=>by rw[Nat.zero_add]) (by rw[hds];exact hend w hw))
end
theorem r_g {w:World}{g g':Nat}{T T':TypeId}{cs cs':Array Value}{x x':Nat × Nat}(h:w.heap[g]? =some (.cells cs T x))(h':w.heap[g']? =some (.cells cs' T' x'))(hT:T≠T'):g≠g':=fun e=>by
 subst e;rw[h]at h';injection h' with h1
 injection h1 with _ h2
 exact hT h2
section
variable {a:Act}{w:World}{o:Oper}
theorem m_i {T:TypeId}{x:Operand}{p v:Value}(ho:o.op= .load T x)(hx:a.eval x=p)(hr:(Instr.loadAt T p).run Tryz.prog w= .ok v w):(execOp a.eval o).run Tryz.prog w= .ok (.value v) w:=by
 unfold execOp;rw[ho];simp only[hx];simp[hr]
theorem i_c {x:Operand}{v:Value}(ho:o.op= .move x)(hx:a.eval x=v):(execOp a.eval o).run Tryz.prog w= .ok (.value v) w:=by
 unfold execOp;rw[ho];simp[hx]
theorem m_j {T:TypeId}{x y:Operand}{u v r:Value}(ho:o.op= .indexAddr T x y)(hx:a.eval x=u)(hy:a.eval y=v)(hr:(Instr.indexAt T u v).run Tryz.prog w= .ok r w):(execOp a.eval o).run Tryz.prog w= .ok (.value r) w:=by
 unfold execOp;rw[ho];simp only[hx,hy];simp[hr]
end
def noP (Q:Exit->Act->World->Prop):Exit->Act->World->Prop
 | .panic _,_,_=>False
 | .outgrown,_,_=>False
 |e,a,w=>Q e a w
theorem p_e {P:Program}{c:Code}{Q:Exit->Act->World->Prop}{a:Act}{w:World}(h:c.wp P (noP Q) a w):c.wp P Q a w:=wp_mono h fun e a w h=>by
 cases e<;>first|exact h|exact h.elim
theorem s_i {Q:Exit->Act->World->Prop}{a:Act}{w:World}(h:Q .normal a w):noP Q .normal a w:=h
end
end Go.Proofs.YtfhbdlegkdbmfaaGreat
