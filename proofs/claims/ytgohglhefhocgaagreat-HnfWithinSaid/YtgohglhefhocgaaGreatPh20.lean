/- Ph20 -/
import Derived.Test.YtgohglhefhocgaaGreatPh19
import Derived.Deep.QuietTactic
import Derived.BigQuiet
import Derived.Test.YtgohglhefhocgaaGreatPh12
import Derived.Test.YtgohglhefhocgaaGreatPh14
set_option linter.unusedVariables false
set_option linter.unusedSimpArgs false
set_option linter.unusedSectionVars false
set_option maxRecDepth 100000
set_option maxHeartbeats 8000000
section
namespace Go.Proofs.YtgohglhefhocgaaGreat
open Go.RowKit
theorem m_i {s t:Bool}{X Y:Nat}{x y q:Int}(ex:x=sg s X)(ey:y=sg t Y)(h0:0<Y)(hq:q*y=x):X%Y=0∧sg (!(s==t)) (X / Y)=q:=by
 have e1:q.natAbs*Y=X:=by
  have:=congrArg Int.natAbs hq;rwa [Int.natAbs_mul,ex,ey,f_g,f_g]at this
 have e2:X / Y=q.natAbs:=by rw[←e1];exact Nat.mul_div_cancel _ h0
 refine⟨by rw[←e1];exact Nat.mul_mod_left _ _, ?_⟩;have e3:sg (!(s==t)) (X / Y)*y=q*y:=by
  have h1:=o_8 (!(s==t)) t (X / Y) Y;have h2:X / Y*Y=X:=by rw[e2,e1]
  rw[h2]at h1;rw[hq,ey,←h1,ex];cases s<;>cases t<;>rfl
 have hy:y≠0:=by rw[ey];cases t<;>simp[sg]<;>omega
 exact Int.eq_of_mul_eq_mul_right hy e3
theorem c_n {A B:Option Addr}{n m c d:Nat}{s t:Bool}{x y q:Int}{w:World}(hx:Zv w s A n c x)(hy:Zv w t B m d y)(hn:n≤549755813888)(hm:m≤549755813888)(h0:y≠0)(hq:q*y=x):
  Calls Tryz.prog 114 #[.agg #[.bool s,.slice A n c],.agg #[.bool t,.slice B m d]] w (ZPowPost q n w):=by
 obtain⟨w3,hw3,IA,IB,IR,z0⟩:=open3 w s t A B n c m d;obtain⟨hx1,ex⟩:=hx.up z0;obtain⟨hy1,ey⟩:=hy.up z0;have hY:0<y.natAbs:=by omega
 obtain⟨hmod,hs⟩:=m_i ex.out ey.out hY hq;generalize x.natAbs=X at *;generalize y.natAbs=Y at *;obtain⟨b,hb⟩:∃b,(!(s==t))=b:=⟨_,rfl⟩;rw[hb]at hs;have HZ:=Lib.hid z0;have HS:=Lib.hid hs;have HW:=Lib.hid hw3.symm;have HM:=Lib.hid hmod;have HA:=Lib.hid IA;have HB:=Lib.hid IB;have HR:=Lib.hid IR;clear hx hy ex ey hs z0 hw3 IR h0 hq hmod;obtain⟨a1,a2,a3,a4,a5⟩:=IA;obtain⟨b1,b2,b3,b4,b5⟩:=IB;go_enter Tryz.func114,Tryz.ntmps114
 go_wp2_with fail
 rw[HW.out];refine(r_t hx1 hy1 hn hm hY HM.out).mono ?_;rintro e w4 ⟨A4,n4,c4,rfl,p4,k4,B4⟩;obtain⟨u1,u2,_⟩:=HA.out.below B4;obtain⟨u3,u4,_⟩:=HB.out.below B4;clear a1 a2 a3 a4 a5 b1 b2 b3 b4 b5 hx1 hy1
 go_wp2_with fail
 refine(a_0 p4).mono ?_;rintro e w5 ⟨s5,A5,n5,c5,rfl,p5,k5,B5⟩;have Q5:=zup B4 B5;rw[HS.out]at p5;obtain⟨r1,r2,r3,r4,r5⟩:=HR.out.below Q5;have P:=Lib.hid (zfin2 p5 ⟨r1,r2,r3,r4,r5⟩ (k:=n) (by omega) (by omega) (zup HZ.out Q5));clear p4 p5 B4 B5 Q5 k4 k5 u1 u2 u3 u4
 go_wp2_with fail
 exact bodyPost_ret (v:=.tuple #[.agg #[.bool s5,.slice A5 n5 c5],.bool true]) (by simp[results,Tryz.results114,go_sem,r1,r2]) rfl P.out
end Go.Proofs.YtgohglhefhocgaaGreat
namespace Go.Proofs.YtgohglhefhocgaaGreat
open Go.RowKit
def VarCut (w0:World)(z:Int)(k:Nat)(v:Value)(wx:World):Prop:=
 ∃g s A n c,v= .pointer (some ⟨g,0,none⟩)∧w0.heap.size≤g∧Ib wx g s A n c∧Zc wx s A n c z∧n≤k∧Below w0.heap.size w0 wx
theorem VarCut.put {w0 w:World}{z:Int}{k g n c m d:Nat}{s t:Bool}{A B:Option Addr}(j:Ib w g t B m d)(p:Zc w s A n c z)(q:Below w0.heap.size w0 w)(hg:w0.heap.size≤g)(hk:n≤k):
  VarCut w0 z k (.pointer (some ⟨g,0,none⟩)) ((w.setCell ⟨g,0,none⟩ (.bool s)).setCell ⟨g,1,none⟩ (.slice A n c)):=
 ⟨g,s,A,n,c,rfl,hg,j.own,p.put j,hk,a_j q hg⟩
theorem VarCut.new {w0 w:World}{z:Int}{k n c:Nat}{s:Bool}{A:Option Addr}{t:TypeId}(p:Zc w s A n c z)(q:Below w0.heap.size w0 w)(hk:n≤k):
  VarCut w0 z k (.pointer (some ⟨w.heap.size,0,none⟩)) (w.alloc (.cells #[.bool s,.slice A n c] t)):=
 ⟨_,s,A,n,c,rfl,q.size,Ib.new _ _ _ _ _ _,p.below (zba _ _),hk,zup q (zba _ _)⟩
theorem zbd (w:World)(o:Obj):Below w.heap.size w (w.alloc o).drew:=zup (zba w o) (a_a _)
theorem zbd2 (w:World)(o p:Obj):Below w.heap.size w ((w.alloc o).alloc p).drew:=zup (zba2 w o p) (a_a _)
theorem Ib.newd (w:World)(s:Bool)(A:Option Addr)(n c:Nat)(t:TypeId):Ib (w.alloc (.cells #[.bool s,.slice A n c] t)).drew w.heap.size s A n c:=(Ib.new w s A n c t).below (a_a _)
end Go.Proofs.YtgohglhefhocgaaGreat
end
namespace Go.Proofs.YtgohglhefhocgaaGreat
section
open Go.RowKit
section
variable {g o:Nat}
variable {w:World}{T:TypeId}{cs:List Value}
theorem q_l {w:World}{H i n c:Nat}(h:i<n):(Instr.indexAt 61 (.slice (some ⟨H,0,none⟩) n c) (.int .i64 (i:Int))).run Tryz.prog w= .ok (.pointer (some ⟨H,i,none⟩)) w:=by
 simp[go_sem,Tryz.underlying61,show Tryz.prog.cellsOf 22=1 by kernel_rfl];omega
theorem opIxS {H i n c:Nat}{X Y:Operand}(h:i<n)(w:World):RunTwo Tryz.prog (.indexAddr 61 X Y) w (.slice (some ⟨H,0,none⟩) n c) (.int .i64 (i:Int)) (.pointer (some ⟨H,i,none⟩)):=q_l h
end
def rw' (C:Nat)(f:Nat→Int):List Int:=(List.range C).map f
theorem f_h (C:Nat)(f:Nat→Int):(rw' C f).length=C:=by simp[rw']
theorem s_t {C j:Nat}{f:Nat→Int}(h:j<C):ith (rw' C f) j=f j:=by simp[ith,rw',List.getD,h]
def RowOk (w:World)(S:List Nat)(v:Value)(C K:Nat)(f:Nat→Int):Prop:=∃A c,v= .slice A C c∧ZL true w A C c K (rw' C f)∧(0<C→∀ad,A=some ad→ad.block ∉ S)
section
variable {w w':World}{S S':List Nat}{v:Value}{C K K':Nat}{f f':Nat→Int}
end
def blkOf (v:Value):List Nat:=match v.ownBlock with|some x=>[x] |none=>[]
def ints (ps:List Nat):List Value:=ps.map fun p:Nat=>Value.int .i64 (p:Int)
structure Xt where
 T:TypeId
 ex:List Value
 nw:∀v,v∈ex→∀m:Int,v≠ .int .u64 m
 P:World→List Nat→Prop
 pb:∀w w' S,P w S→Below w.heap.size w w'→P w' S
 pg:∀w w' S x,P w S→x∈S→Wless w x→w.grownBy w' (some x)→P w' S
 pm:∀w S S',P w S→(∀x,x∈S'→x∈S∨w.heap.size≤x)→P w S'
structure RAt (xt:Xt) (b:Nat) (w:World) (g H R C Ka:Nat) (K:Nat→Nat) (M:Nat→Nat→Int) (ps:List Nat) (h:Int) (s:Bool) (vp:Value) (sa:Bool) (A:Option Addr) (n c:Nat) (rows:List Value):Prop where
 bx:Bx w g xt.T (.slice (some ⟨H,0,none⟩) R R::vp:: .bool sa:: .slice A n c:: .bool s::xt.ex)
 hd:Bx w H 22 rows
 len:rows.length=R
 ne:g≠H
 bg:b≤g
 bh:b≤H
 own:OwnI w b 3 vp ps.length (ints ps)
 pg:vp.ownBlock≠some g
 ph:vp.ownBlock≠some H
 az:Zc w sa A n c h
 an:n≤Ka
 row:∀i,i<R→∃v,rows[i]? =some v∧RowOk w (g::H::blkOf vp) v C (K i) (M i)
 ct:xt.P w (g::H::blkOf vp)
section
variable {xt:Xt}{b:Nat}{w w':World}{g H R C Ka Ka':Nat}{K K':Nat→Nat}{M M':Nat→Nat→Int}{ps:List Nat}{h:Int}{s:Bool}{vp:Value}{sa:Bool}{A:Option Addr}{n c:Nat}{rows:List Value}
end
def Rdc (xt:Xt)(b:Nat)(w:World)(g R C K:Nat)(M:Nat→Nat→Int)(ps:List Nat)(h:Int)(s:Bool):Prop:=∃H vp sa A n c rows,RAt xt b w g H R C K (fun _=>K) M ps h s vp sa A n c rows
end
section
open Go.RowKit
def kT3 (x y z:FK):FK:=.f (fun v w=>∃a b c,v= .tuple #[a,b,c]∧x.F a w∧y.F b w∧z.F c w) (fun v w w' ⟨a,b,c,e,h1,h2,h3⟩ hb=>⟨a,b,c,e,x.stays _ _ _ h1 hb,y.stays _ _ _ h2 hb,z.stays _ _ _ h3 hb⟩)
theorem h_b {x y z:FK}:∀v w,(kT3 x y z).F v w→∃vs:Array Value,∃u,v= .tuple vs∧vs[0]? =some u∧x.F u w:=fun v w ⟨a,b,c,e,h1,h2,h3⟩=>⟨_,a,e,rfl,h1⟩
theorem f_c {x y z:FK}:∀v w,(kT3 x y z).F v w→∃vs:Array Value,∃u,v= .tuple vs∧vs[1]? =some u∧y.F u w:=fun v w ⟨a,b,c,e,h1,h2,h3⟩=>⟨_,b,e,rfl,h2⟩
theorem f_b {x y z:FK}:∀v w,(kT3 x y z).F v w→∃vs:Array Value,∃u,v= .tuple vs∧vs[2]? =some u∧z.F u w:=fun v w ⟨a,b,c,e,h1,h2,h3⟩=>⟨_,c,e,rfl,h3⟩
theorem q_h {A:Option Addr}{n cap l h m:Nat}(h1:l≤h)(h2:h≤m)(h3:m≤cap)(w:World):(Instr.sliceAt 22 (.slice A n cap) (some (.int .i64 (l:Int))) (some (.int .i64 (h:Int))) (some (.int .i64 (m:Int)))).run Tryz.prog w= .ok (.slice (if m=l then A else A.map (·.add (l*2))) (h - l) (m - l)) w:=by
 have a1:(0:Int)≤(l:Int):=by omega
 have a2:(l:Int)≤(h:Int):=by omega
 have a3:(h:Int)≤(m:Int):=by omega
 have a4:(m:Int)≤(cap:Int):=by omega
 simp[go_sem,Tryz.underlying22,zp_cells,h1,h2,h3]
theorem q_i {A:Option Addr}{n cap l h:Nat}(h1:l≤h)(h2:h≤cap)(w:World):(Instr.sliceAt 22 (.slice A n cap) (some (.int .i64 (l:Int))) (some (.int .i64 (h:Int))) none).run Tryz.prog w= .ok (.slice (if cap=l then A else A.map (·.add (l*2))) (h - l) (cap - l)) w:=by
 have a1:(0:Int)≤(l:Int):=by omega
 have a2:(l:Int)≤(h:Int):=by omega
 have a4:(h:Int)≤(cap:Int):=by omega
 simp[go_sem,Tryz.underlying22,zp_cells,h1,h2]
section
variable {ops:Array Oper}{Q:Exit→Act→World→Prop}{m i:Nat}{a0:Act}{w0:World}{l:List FK}{b:Bool}{id:Nat}
def slO (o:Op):List Operand:=match o with| .slice _ x (some l) (some h) (some m)=>[x,l,h,m] | .slice _ x (some l) (some h) none=>[x,l,h] |_=>[]
def okSl3 (ops:Array Oper)(m i:Nat)(s t u v:Src):Bool:=okH ops m i&&(match(opAt ops i).op with| .slice T x (some l) (some h) (some mx)=>T==22&&s.ok ops m i x&&t.ok ops m i l&&u.ok ops m i h&&v.ok ops m i mx|_=>false)
theorem Run.sl3 (s t u v:Src){A:Option Addr}{n cap x y z:Nat}(h1:x≤y)(h2:y≤z)(h3:z≤cap)(rest:R ops Q m a0 w0 b id (.k (.slice (if z=x then A else A.map (·.add (x*2))) (y - x) (z - x))::l) (i+1))(hx:srcsK l i a0 (slO (opAt ops i).op) [s,t,u,v] [.slice A n cap,.int .i64 (x:Int),.int .i64 (y:Int),.int .i64 (z:Int)]:=by exact⟨rfl,rfl,rfl,rfl,trivial⟩)(hc:okSl3 ops m i s t u v=true:=by kernel_rfl)(hg:Gd l i (opAt ops i):=by first|exact trivial|exact rfl):R ops Q m a0 w0 b id l i:=by
 unfold okSl3 at hc;rw[Bool.and_eq_true]at hc;obtain⟨hh,h4⟩:=hc;refine Run.run (fun a w h=>?_) rest hh hg;split at h4
 ·rename_i T X L H M e;simp only[Bool.and_eq_true,beq_iff_eq]at h4;obtain⟨⟨⟨⟨rfl,k1⟩,k2⟩,k3⟩,k4⟩:=h4;rw[e]at hx;obtain⟨e1,e2,e3,e4,-⟩:=hx;unfold execOp;rw[e];simp only[Option.map_some,h.srcK k1 e1,h.srcK k2 e2,h.srcK k3 e3,h.srcK k4 e4];simp[q_h h1 h2 h3 w]
 ·cases h4
def okSl2 (ops:Array Oper)(m i:Nat)(s t u:Src):Bool:=okH ops m i&&(match(opAt ops i).op with| .slice T x (some l) (some h) none=>T==22&&s.ok ops m i x&&t.ok ops m i l&&u.ok ops m i h|_=>false)
theorem Run.sl2 (s t u:Src){A:Option Addr}{n cap x y:Nat}(h1:x≤y)(h2:y≤cap)(rest:R ops Q m a0 w0 b id (.k (.slice (if cap=x then A else A.map (·.add (x*2))) (y - x) (cap - x))::l) (i+1))(hx:srcsK l i a0 (slO (opAt ops i).op) [s,t,u] [.slice A n cap,.int .i64 (x:Int),.int .i64 (y:Int)]:=by exact⟨rfl,rfl,rfl,trivial⟩)(hc:okSl2 ops m i s t u=true:=by kernel_rfl)(hg:Gd l i (opAt ops i):=by first|exact trivial|exact rfl):R ops Q m a0 w0 b id l i:=by
 unfold okSl2 at hc;rw[Bool.and_eq_true]at hc;obtain⟨hh,h4⟩:=hc;refine Run.run (fun a w h=>?_) rest hh hg;split at h4
 ·rename_i T X L H e;simp only[Bool.and_eq_true,beq_iff_eq]at h4;obtain⟨⟨⟨rfl,k1⟩,k2⟩,k3⟩:=h4;rw[e]at hx;obtain⟨e1,e2,e3,-⟩:=hx;unfold execOp;rw[e];simp only[Option.map_some,Option.map_none,h.srcK k1 e1,h.srcK k2 e2,h.srcK k3 e3];simp[q_i h1 h2 w]
 ·cases h4
end
theorem s_5 {r c i:Nat}{F:Nat→Nat→Int}(hi:i<r):((mk r c F).drop (i*c)).take c=rw' c (F i):=by
 have hb:i*c+c≤r*c:=by rw[←Nat.succ_mul];exact Nat.mul_le_mul_right c hi
 apply List.ext_getElem
 ·rw[List.length_take,List.length_drop,a_4,f_h];omega
 ·intro j h1 h2;rw[f_h]at h2;have e:=g_b (F:=F) hi h2;have hlt:i*c+j<(mk r c F).length:=by rw[a_4];exact g_i hi h2
  simp[ith,List.getD,hlt]at e;simp[rw',e]
theorem q_2 {q:Bool}{r c n d k:Nat}{A:Option Addr}{F:Nat→Nat→Int}{w:World}(ha:Mt q w r c A n d k F)(hk:k≤1099511627776):Calls Tryz.prog 87 #[.agg #[.int .i64 (r:Int),.int .i64 (c:Int),.slice A n d]] w (RetK (kT (kMB w.heap.size r c k F) (.k (.int .i64 0))) w):=by
 have h1:=ha.fmd;have h3:=ha.hr;have h4:=ha.hc;obtain⟨w1,hw1,b1,b2,z1,s1⟩:=boxes2 w 24 24 [.int .i64 (r:Int),.int .i64 (c:Int),.slice A n d] [.int .i64 0,.int .i64 0,.slice none 0 0];have HW:=Lib.hid hw1;have HZ:=Lib.hid z1;have h1_:=Lib.hid h1;clear hw1 z1 h1 s1;go_enter Tryz.func87,Tryz.ntmps87
 go_upto_region 1 with fail
 rw[HW.out];refine Run.start 3 ?_;refine .ld .o (ldM b1 0) ?_;refine .c1 (.i 0) (x:=.k (.bool true)) (by rintro u w2 hB rfl;exact a_n h1_.out w2) ?_;refine .nt (.i 1) ?_;refine .donep [some 4,some 5,some 6] ?_;intro w2 B2;change Shut (wpList _ _ _ [] _ _);refine⟨?_⟩;simp only[Act.put,lS,lZ,lC];replace b1:=b1.below B2;replace b2:=b2.below B2;have HZ2:=Lib.hid (zup HZ.out B2);clear B2 HZ;go_upto_region 3 with fail
 refine Run.start 7 ?_;refine .fa .o (fM0 0) ?_;refine .ld (.i 0) (ldInt b1 0) ?_;refine .fa .o (fM1 1) ?_;refine .ld (.i 2) (ldInt b1 1) ?_;refine .ld .o (ldM b1 0) ?_;refine .fn [(.i 4)] [] [_] [] (⟨rfl,trivial⟩) (trivial) ?_;refine .c3 (.i 1) (.i 3) (.i 5) (x:=kMB w.heap.size r c k F) (by rintro u v x w3 hB rfl rfl rfl;exact t_l (zup HZ2.out hB).size h3 h4 (by kernel_rfl) (fun i j W hi hj hW=>b_o (ha.below (zup (zup HZ2.out hB) hW)) hi hj hk)) ?_;refine .donep [some 8,some 9,some 10,some 11,some 12,some 13,some 14] ?_;intro w3 B3;rintro v ⟨g_,N_,rfl,eN,hb,hge,hr,hc⟩;change Shut (wpList _ _ _ [_,_] _ _);refine⟨?_⟩;simp only[Act.put,lS,lZ,lC];have b2n:=(b2.below B3).now (by simp);have bne:g_≠w.heap.size+1:=fun e=>by
  obtain⟨cs,x1,-⟩:=hb;have x2:=b2.below B3;unfold Bx at x2;rw[←e,x1]at x2;injection x2 with x3
  injection x3 with _ x4
  exact absurd x4 (by decide)
 have P:Hid (RetK (kT (kMB w.heap.size r c k F) (.k (.int .i64 0))) w (.returned (.tuple #[.agg #[.int .i64 (r:Int),.int .i64 (c:Int),.slice (some ⟨g_,0,none⟩) N_ N_],.int .i64 0])) (mput w3 (w.heap.size+1) (r:Int) (c:Int) (some ⟨g_,0,none⟩) N_ N_)):=
  Lib.hid ⟨_,rfl,⟨_,_,rfl,⟨g_,N_,rfl,eN,hb.gro bne b2n (e_b _ _ _ _ _ _ _),hge,hr,hc⟩,rfl⟩,a_c (zup HZ2.out B3) (by omega)⟩
 clear b2n bne eN;unfold mput at P;obtain⟨i0,i1,i2,i3,i4,i5,i6⟩:=(b2.below B3).m3;clear hb
 go_wp2_with fail
 exact bodyPost_ret (v:=.tuple #[.agg #[.int .i64 (r:Int),.int .i64 (c:Int),.slice (some ⟨g_,0,none⟩) N_ N_],.int .i64 0]) (by simp[results,Tryz.results87,go_sem,i0,i1,i2]) rfl P.out
def IsHdr (b r:Nat):FVal:=fun v w=>∃H,v= .slice (some ⟨H,0,none⟩) r r∧Bx w H 22 (List.replicate r (.slice none 0 0))∧b≤H
def kHdr (b r:Nat):FK:=.f (IsHdr b r) (fun v w w' ⟨H,e,h1,h2⟩ hb=>⟨H,e,h1.below hb,h2⟩)
theorem info_zs:(Tryz.prog.info? 22).map (fun i=>(i.zero,i.size,i.bytes))=some (some (.slice none 0 0),1,24):=by kernel_rfl
theorem q_j {T:TypeId}(hu:Tryz.prog.underlying T=some (.slice 22))(w:World)(r:Nat)(hr:r≤1048576):(Instr.makeSlice T (.int .i64 (r:Int)) (.int .i64 (r:Int))).run Tryz.prog w= .ok (.slice (some ⟨w.heap.size,0,none⟩) r r) (w.alloc (.cells (List.replicate r (.slice none 0 0)).toArray 22)):=by
 obtain⟨i,hi,hz0,hz1,hz2⟩:=info_parts info_zs;rw[run_make w _ _ i (.slice none 0 0) hu hi hz0 .i64 .i64 (r:Int) (r:Int) (by omega) (Int.le_refl _) (by rw[hz2];omega) (by omega)];rw[hz1];simp[madeCells];congr 2
 apply Array.ext
 ·simp
 ·intro j h1 h2;simp[Value.cells,Nat.mod_one]
section
variable {ops:Array Oper}{Q:Exit→Act→World→Prop}{m i:Nat}{a0:Act}{w0:World}{l:List FK}{b:Bool}{id:Nat}
def mkX (o:Op):Operand:=match o with| .makeSlice _ x _=>x| .box _ x=>x|_=>.func 0
def mkY (o:Op):Operand:=match o with| .makeSlice _ _ y=>y|_=>.func 0
def okMkT (ops:Array Oper)(m i:Nat)(s:Src)(U:TypeId):Bool:=okH ops m i&&(match(opAt ops i).op with| .makeSlice T x y=>T==U&&s.ok ops m i x&&s.ok ops m i y|_=>false)
theorem Run.mkST (s:Src){T:TypeId}{r b0:Nat}(hu:Tryz.prog.underlying T=some (.slice 22))(hr:r≤1048576)(hb0:b0≤w0.heap.size)(rest:R ops Q m a0 w0 b id (kHdr b0 r::l) (i+1))(hx:s.K l i a0 (mkX (opAt ops i).op)= .k (.int .i64 (r:Int)):=by rfl)(hy:s.K l i a0 (mkY (opAt ops i).op)= .k (.int .i64 (r:Int)):=by rfl)(hc:okMkT ops m i s T=true:=by kernel_rfl)(hg:Gd l i (opAt ops i):=by first|exact trivial|exact rfl):R ops Q m a0 w0 b id l i:=by
 unfold okMkT at hc;rw[Bool.and_eq_true]at hc;obtain⟨hh,h4⟩:=hc;refine Run.mem (x:=kHdr b0 r) (fun a w h=>?_) rest (FK.fne _) hh hg;split at h4
 ·rename_i T x y e;simp only[Bool.and_eq_true,beq_iff_eq]at h4;obtain⟨⟨rfl,h2⟩,h3⟩:=h4;rw[e]at hx hy;refine⟨_,_, ?_,⟨w.heap.size,rfl,Bx.new w _ _,Nat.le_trans hb0 h.below.size⟩,zba w _⟩;unfold execOp;rw[e];simp only[h.srcK h2 hx,h.srcK h3 hy];simp[q_j hu w r hr]
 ·cases h4
theorem Run.mkS (s:Src){r b0:Nat}(hr:r≤1048576)(hb0:b0≤w0.heap.size)(rest:R ops Q m a0 w0 b id (kHdr b0 r::l) (i+1))(hx:s.K l i a0 (mkX (opAt ops i).op)= .k (.int .i64 (r:Int)):=by rfl)(hy:s.K l i a0 (mkY (opAt ops i).op)= .k (.int .i64 (r:Int)):=by rfl)(hc:okMkT ops m i s 61=true:=by kernel_rfl)(hg:Gd l i (opAt ops i):=by first|exact trivial|exact rfl):R ops Q m a0 w0 b id l i:=
 Run.mkST s Tryz.underlying61 hr hb0 rest hx hy hc hg
end
end
section
open Go.RowKit
def Bd (W k:Nat)(f:Nat→Int):Prop:=∀j,j<W→(f j).natAbs<18446744073709551616^k
theorem h_6 {a b:Nat}(h:a≤b):18446744073709551616^a≤18446744073709551616^b:=Nat.pow_le_pow_right (by omega) h
theorem l_o {x y a b k:Nat}(hx:x<18446744073709551616^a)(hy:y<18446744073709551616^b)(ha:a+1≤k)(hb:b+1≤k):x+y<18446744073709551616^k:=by
 obtain⟨m,rfl⟩:∃m,k=m+1:=⟨k - 1,by omega⟩;have h1:=Nat.lt_of_lt_of_le hx (h_6 (show a≤m by omega));have h2:=Nat.lt_of_lt_of_le hy (h_6 (show b≤m by omega));rw[Nat.pow_succ];omega
theorem g_4 {x y a b k:Nat}(hx:x<18446744073709551616^a)(hy:y<18446744073709551616^b)(h:a+b≤k):x*y<18446744073709551616^k:=by
 refine Nat.lt_of_lt_of_le (Nat.mul_lt_mul'' hx hy) ?_;rw[←Nat.pow_add];exact h_6 h
theorem Zc.le {w:World}{s:Bool}{A:Option Addr}{n c k:Nat}{z:Int}(h:Zc w s A n c z)(hb:z.natAbs<18446744073709551616^k):n≤k:=by
 rw[←h.1.2.1];exact a_l _ _ _ (by omega) hb
theorem Zc.lt {w:World}{s:Bool}{A:Option Addr}{n c k:Nat}{z:Int}(h:Zc w s A n c z)(hn:n≤k):z.natAbs<18446744073709551616^k:=Nat.lt_of_lt_of_le h.1.lt (h_6 hn)
section
variable {W k k' a b c:Nat}{f g:Nat→Int}{q x y:Int}
theorem Bd.mono (h:Bd W k f)(hk:k≤k'):Bd W k' f:=fun j hj=>Nat.lt_of_lt_of_le (h j hj) (h_6 hk)
theorem Bd.subm (hf:Bd W a f)(hg:Bd W b g)(hq:q.natAbs<18446744073709551616^c)(h1:a+1≤k)(h2:c+b+1≤k):Bd W k fun j=>f j - q*g j:=fun j hj=>by
 refine Nat.lt_of_le_of_lt (Int.natAbs_sub_le _ _) ?_;rw[Int.natAbs_mul];exact l_o (hf j hj) (g_4 hq (hg j hj) (Nat.le_refl _)) h1 h2
theorem Bd.comb {d:Nat}(hf:Bd W a f)(hg:Bd W b g)(hx:x.natAbs<18446744073709551616^c)(hy:y.natAbs<18446744073709551616^d)(h1:c+a+1≤k)(h2:d+b+1≤k):Bd W k fun j=>x*f j+y*g j:=fun j hj=>by
 refine Nat.lt_of_le_of_lt (Int.natAbs_add_le _ _) ?_;rw[Int.natAbs_mul,Int.natAbs_mul];exact l_o (g_4 hx (hf j hj) (Nat.le_refl _)) (g_4 hy (hg j hj) (Nat.le_refl _)) h1 h2
theorem Bd.comb' {d:Nat}(hf:Bd W a f)(hg:Bd W b g)(hx:x.natAbs<18446744073709551616^c)(hy:y.natAbs<18446744073709551616^d)(h1:c+a+1≤k)(h2:d+b+1≤k):Bd W k fun j=>x*f j - y*g j:=fun j hj=>by
 refine Nat.lt_of_le_of_lt (Int.natAbs_sub_le _ _) ?_;rw[Int.natAbs_mul,Int.natAbs_mul];exact l_o (g_4 hx (hf j hj) (Nat.le_refl _)) (g_4 hy (hg j hj) (Nat.le_refl _)) h1 h2
theorem Bd.neg (hf:Bd W k f):Bd W k fun j=>- f j:=fun j hj=>by rw[Int.natAbs_neg];exact hf j hj
theorem m_n (u v:Int)(h:0<v):(u / v).natAbs≤u.natAbs:=Int.natAbs_ediv_le_natAbs u v
end
structure Rw (b:Nat) (w:World) (g o W:Nat) (f:Nat→Int):Prop where
 ex:∃cs:Array Value,w.heap[g]? =some (.cells cs 37 (0,0))∧o+W*2≤cs.size∧∀j,j<W→∃s A n c,cs[o+j*2]? =some (.bool s)∧cs[o+j*2+1]? =some (.slice A n c)∧Zc w s A n c (f j)
 now:Wless w g
 lo:b≤g
section
variable {b b':Nat}{w w':World}{g g' o o' W k:Nat}{f f':Nat→Int}
theorem Rw.lt (h:Rw b w g o W f):g<w.heap.size:=by
 obtain⟨cs,h1,-⟩:=h.ex;exact(Array.getElem?_eq_some_iff.1 h1).1
theorem Wless.below (h:Wless w g)(hg:g<w.heap.size)(hb:Below w.heap.size w w'):Wless w' g:=fun p m hp e=>by
 refine h p m hp ?_;exact(World.cell?_of_block (a:=p) (by rw[hp];exact hb.block g hg)).symm.trans e
theorem Rw.below (h:Rw b w g o W f)(hb:Below w.heap.size w w'):Rw b w' g o W f:=by
 have hl:=h.lt;obtain⟨cs,h1,h2,h3⟩:=h.ex;exact⟨⟨cs,(hb.block g hl).trans h1,h2,fun j hj=>by
  obtain⟨s,A,n,c,e1,e2,e3⟩:=h3 j hj;exact⟨s,A,n,c,e1,e2,e3.below hb⟩⟩,h.now.below hl hb,h.lo⟩
theorem Rw.congr (h:Rw b w g o W f)(e:∀j,j<W→f' j=f j):Rw b w g o W f':=by
 obtain⟨cs,h1,h2,h3⟩:=h.ex;exact⟨⟨cs,h1,h2,fun j hj=>by
  obtain⟨s,A,n,c,e1,e2,e3⟩:=h3 j hj;exact⟨s,A,n,c,e1,e2,by rw[e j hj];exact e3⟩⟩,h.now,h.lo⟩
theorem Rw.low (h:Rw b w g o W f)(hb:b'≤b):Rw b' w g o W f:=⟨h.ex,h.now,Nat.le_trans hb h.lo⟩
theorem Rw.gro {x:Nat}(h:Rw b w g o W f)(hne:g≠x)(hn:Wless w x)(hg:w.grownBy w' (some x)):Rw b w' g o W f:=by
 have hl:=h.lt;obtain⟨cs,h1,h2,h3⟩:=h.ex;have e:=hg.block g hl (fun e=>hne (Option.some.inj e));exact⟨⟨cs,e.trans h1,h2,fun j hj=>by
  obtain⟨s,A,n,c,e1,e2,e3⟩:=h3 j hj;exact⟨s,A,n,c,e1,e2,e3.gro hn hg⟩⟩,fun p m hp ec=>by
   refine h.now p m hp ?_;exact(World.cell?_of_block (a:=p) (by rw[hp];exact e)).symm.trans ec,h.lo⟩
theorem Rw.cells (h:Rw b w g o W f){j:Nat}(hj:j<W):∃s A n c,w.cell? ⟨g,o+j*2,none⟩=some (.bool s)∧w.cell? ⟨g,o+j*2+1,none⟩=some (.slice A n c)∧Zc w s A n c (f j):=by
 obtain⟨cs,h1,h2,h3⟩:=h.ex;obtain⟨s,A,n,c,e1,e2,e3⟩:=h3 j hj;exact⟨s,A,n,c,by rw[cell_of_row w g _ _ _ _ h1,e1],by rw[cell_of_row w g _ _ _ _ h1,e2],e3⟩
theorem Rw.free (h:Rw b w g o W f)(x:Nat):w.frozen? ⟨g,x,none⟩=false:=by
 obtain⟨cs,h1,-⟩:=h.ex;exact frozen_of_row w g x _ _ h1
theorem Rw.zl (h:Rw b w g o W f)(hB:Bd W k f)(q:Bool){c:Nat}(hc:W≤c)(hm:c≤9223372036854775807):ZL q w (some ⟨g,o,none⟩) W c k (rw' W f):=by
 refine⟨f_h _ _,hc,hm,fun h0=>⟨_,rfl,h.lt,fun j hj=>?_⟩⟩;obtain⟨s,A,n,d,e1,e2,e3⟩:=h.cells hj;rw[b_z,s_t hj];exact⟨s,A,n,d,e1,e2,.of e3,e3.le (hB j hj)⟩
theorem h_7 {s:Bool}{A:Option Addr}{n c p:Nat}{cs:Array Value}(h1:w.heap[g]? =some (.cells cs 37 (0,0))):(zputo w g p s A n c).heap[g]? =some (.cells ((cs.setIfInBounds p (.bool s)).setIfInBounds (p+1) (.slice A n c)) 37 (0,0)):=by
 unfold zputo;rw[heap_setCell_same _ g _ _ _ _ (heap_setCell_same w g _ _ _ _ h1)]
theorem l_p {s:Bool}{A:Option Addr}{n c p:Nat}(h:Rw b w g o W f):Wless (zputo w g p s A n c) g:=fun q m hq e=>by
 obtain⟨cs,h1,-⟩:=h.ex;have h2:=h_7 (s:=s) (A:=A) (n:=n) (c:=c) (p:=p) h1;have e2:((cs.setIfInBounds p (.bool s)).setIfInBounds (p+1) (.slice A n c))[q.off]? =some (.int .u64 m)∧q.spot=none:=by
  have:=e;unfold World.cell? at this;rw[hq,h2]at this;exact⟨(by simpa using this:q.spot=none∧_).2,(by simpa using this:q.spot=none∧_).1⟩
 have e3:cs[q.off]? =some (.int .u64 m):=by
  have h4:=e2.1;rw[Array.getElem?_setIfInBounds]at h4;split at h4
  ·split at h4<;>cases h4
  ·rw[Array.getElem?_setIfInBounds]at h4;split at h4
   ·split at h4<;>cases h4
   ·exact h4
 refine h.now q m hq ?_;obtain⟨qb,qo,qs⟩:=q;have e4:=e2.2;subst hq e4;rw[cell_of_row w _ _ _ _ _ h1];exact e3
theorem Rw.put (h:Rw b w g o W f){j n c:Nat}(hj:j<W){s:Bool}{A:Option Addr}{z:Int}(hz:Zc w s A n c z):Rw b (zputo w g (o+j*2) s A n c) g o W (fun i=>if i=j then z else f i):=by
 have hgr:=b_l w g (o+j*2) s A n c;have hno:=h.now;obtain⟨cs,h1,h2,h3⟩:=h.ex;refine⟨⟨_,h_7 h1,by simpa using h2,fun i hi=>?_⟩,l_p h,h.lo⟩;by_cases e:i=j
 ·subst e;refine⟨s,A,n,c, ?_, ?_, ?_⟩
  ·rw[Array.getElem?_setIfInBounds_ne (by omega),Array.getElem?_setIfInBounds_self_of_lt (by omega)]
  ·rw[Array.getElem?_setIfInBounds_self_of_lt (by simp;omega)]
  ·rw[if_pos rfl];exact hz.gro hno hgr
 ·obtain⟨s',A',n',c',c1,c2,c3⟩:=h3 i hi;refine⟨s',A',n',c', ?_, ?_, ?_⟩
  ·rw[Array.getElem?_setIfInBounds_ne (by omega),Array.getElem?_setIfInBounds_ne (by omega)];exact c1
  ·rw[Array.getElem?_setIfInBounds_ne (by omega),Array.getElem?_setIfInBounds_ne (by omega)];exact c2
  ·rw[if_neg e];exact c3.gro hno hgr
theorem Rw.off (h:Rw b w g o W f){W':Nat}(h':Rw b' w g' o' W' f'){p n c:Nat}{s:Bool}{A:Option Addr}(hp:g=g'→p+2≤o∨o+W*2≤p):Rw b (zputo w g' p s A n c) g o W f:=by
 have hgr:=b_l w g' p s A n c;by_cases e:g=g'
 ·subst e;have hno:=h.now;have hp:=hp rfl;obtain⟨cs,h1,h2,h3⟩:=h.ex;refine⟨⟨_,h_7 h1,by simpa using h2,fun i hi=>?_⟩,l_p h,h.lo⟩;obtain⟨s',A',n',c',c1,c2,c3⟩:=h3 i hi;refine⟨s',A',n',c', ?_, ?_,c3.gro hno hgr⟩
  ·rw[Array.getElem?_setIfInBounds_ne (by omega),Array.getElem?_setIfInBounds_ne (by omega)];exact c1
  ·rw[Array.getElem?_setIfInBounds_ne (by omega),Array.getElem?_setIfInBounds_ne (by omega)];exact c2
 ·exact h.gro e h'.now hgr
end
structure Rws (b:Nat) (w:World) (n W:Nat) (g o:Nat→Nat) (F:Nat→Nat→Int):Prop where
 row:∀a,a<n→Rw b w (g a) (o a) W (F a)
 dj:∀a c,a<n→c<n→a≠c→g a≠g c∨o a+W*2≤o c∨o c+W*2≤o a
section
variable {b b':Nat}{w w':World}{n n' W:Nat}{g o:Nat→Nat}{F F':Nat→Nat→Int}
theorem Rws.below (h:Rws b w n W g o F)(hb:Below w.heap.size w w'):Rws b w' n W g o F:=⟨fun a ha=>(h.row a ha).below hb,h.dj⟩
theorem Rws.congr (h:Rws b w n W g o F)(e:∀a j,a<n→j<W→F' a j=F a j):Rws b w n W g o F':=⟨fun a ha=>(h.row a ha).congr fun j hj=>e a j ha hj,h.dj⟩
theorem Rws.gro {x:Nat}(h:Rws b w n W g o F)(hne:∀a,a<n→g a≠x)(hn:Wless w x)(hg:w.grownBy w' (some x)):Rws b w' n W g o F:=⟨fun a ha=>(h.row a ha).gro (hne a ha) hn hg,h.dj⟩
theorem Rws.ne (h:Rws b w n W g o F){x:Nat}{T:TypeId}{cs:List Value}(bx:Bx w x T cs)(hT:T≠37){a:Nat}(ha:a<n):g a≠x:=fun e=>by
 obtain⟨cs',h1,-⟩:=(h.row a ha).ex;unfold Bx at bx;rw[←e,h1]at bx;injection bx with bx
 injection bx with _ e2
 exact hT e2.symm
end
theorem opIxR {g o n c j p:Nat}{X Y:Operand}(h:j<n)(hp:o+j*2=p)(w:World):RunTwo Tryz.prog (.indexAddr 22 X Y) w (.slice (some ⟨g,o,none⟩) n c) (.int .i64 (j:Int)) (.pointer (some ⟨g,p,none⟩)):=by
 have:=l_g (w:=w) (ad:=⟨g,o,none⟩) (n:=n) (c:=c) h;rw[b_z,hp]at this;exact this
abbrev rwV (g o W c:Nat):Value:=.slice (some ⟨g,o,none⟩) W c
def rcs (R W:Nat)(g o cp:Nat→Nat):List Value:=(List.range R).map fun a=>rwV (g a) (o a) W (cp a)
theorem d_6 {R W a:Nat}{g o cp:Nat→Nat}(h:a<R):(rcs R W g o cp)[a]? =some (rwV (g a) (o a) W (cp a)):=by simp[rcs,h]
end
end Go.Proofs.YtgohglhefhocgaaGreat
