/-
  Package qmat: products of matrices.
-/
import Derived.Test.YtfhbdlegkdbmfaaGreatPqQmX
import Derived.RegionTactic
import Derived.BigRegion
set_option linter.unusedVariables false
set_option linter.unusedSimpArgs false
set_option linter.unusedSectionVars false
set_option maxRecDepth 100000
set_option maxHeartbeats 8000000
namespace Go.Proofs.YtfhbdlegkdbmfaaGreat
open Go.RowKit Go.Shelf
def PB (b:Nat)(w:World)(g N m c k kc:Nat)(F:Nat->Nat->Rat):Prop:=∃cs:Array Value,w.heap[g]? =some (.cells cs 80 (0,0))/\cs.size=N*5/\(∀u,u∈cs.toList->NWd u)/\∀j,j<m->∃gj sa Aa na ca sb Ab nb cb,cs[j*5]? =some (.slice (some ⟨gj,0,none⟩) c c)/\cs[j*5+1]? =some (.bool sa)/\cs[j*5+2]? =some (.slice Aa na ca)/\cs[j*5+3]? =some (.bool sb)/\cs[j*5+4]? =some (.slice Ab nb cb)/\Pt b w gj sa Aa na ca sb Ab nb cb c k kc (rw' c (ptn (F j) c)) (F j)
section
variable {b:Nat}{w w':World}{g N m c k kc x:Nat}{F:Nat->Nat->Rat}
theorem PB.lt (h:PB b w g N m c k kc F):g<w.heap.size:=by
 obtain⟨cs,h1,-⟩:=h;exact(Array.getElem?_eq_some_iff.1 h1).1
theorem PB.now (h:PB b w g N m c k kc F):Wless w g:=fun p m hp e=>by
 obtain⟨cs,h1,h2,h3,-⟩:=h;have e2:cs[p.off]? =some (.int .u64 m):=by
  unfold World.cell? at e;rw[hp,h1]at e;exact(by simpa using e:p.spot=none/\cs[p.off]? =some (.int .u64 m)).2
 exact h3 _ (Array.mem_toList_iff.2 (Array.mem_of_getElem? e2)) m rfl
theorem PB.below (h:PB b w g N m c k kc F)(hb:Below w.heap.size w w'):PB b w' g N m c k kc F:=by
 have hl:=h.lt;obtain⟨cs,h1,h2,h3,h4⟩:=h;refine⟨cs,(hb.block g hl).trans h1,h2,h3,fun j hj=>?_⟩;obtain⟨gj,sa,Aa,na,ca,sb,Ab,nb,cb,c1,c2,c3,c4,c5,hp⟩:=h4 j hj;exact⟨gj,sa,Aa,na,ca,sb,Ab,nb,cb,c1,c2,c3,c4,c5,hp.below hb⟩
theorem PB.gro (h:PB b w g N m c k kc F)(hne:g≠x)(hx:x<b)(hn:Wless w x)(hg:w.grownBy w' (some x)):PB b w' g N m c k kc F:=by
 have hl:=h.lt;obtain⟨cs,h1,h2,h3,h4⟩:=h;refine⟨cs,(hg.block g hl (fun e=>hne (Option.some.inj e))).trans h1,h2,h3,fun j hj=>?_⟩;obtain⟨gj,sa,Aa,na,ca,sb,Ab,nb,cb,c1,c2,c3,c4,c5,hp⟩:=h4 j hj;exact⟨gj,sa,Aa,na,ca,sb,Ab,nb,cb,c1,c2,c3,c4,c5,hp.gro (by have:=hp.2.1;omega) hn hg⟩
theorem PB.free (h:PB b w g N m c k kc F)(j:Nat):w.frozen? ⟨g,j,none⟩=false:=by
 obtain⟨cs,h1,-⟩:=h;exact frozen_of_row w g j _ _ h1
theorem PB.any (h:PB b w g N m c k kc F){t:Nat}(ht:t<N*5):∃u,w.cell? ⟨g,t,none⟩=some u:=by
 obtain⟨cs,h1,h2,-⟩:=h;exact⟨cs[t],by rw[cell_of_row w g _ _ _ _ h1,Array.getElem?_eq_getElem (by omega)]⟩
theorem PB.cells (h:PB b w g N m c k kc F){j:Nat}(hj:j<m):∃gj sa Aa na ca sb Ab nb cb,w.cell? ⟨g,j*5,none⟩=some (.slice (some ⟨gj,0,none⟩) c c)/\w.cell? ⟨g,j*5+1,none⟩=some (.bool sa)/\w.cell? ⟨g,j*5+2,none⟩=some (.slice Aa na ca)/\w.cell? ⟨g,j*5+3,none⟩=some (.bool sb)/\w.cell? ⟨g,j*5+4,none⟩=some (.slice Ab nb cb)/\Pt b w gj sa Aa na ca sb Ab nb cb c k kc (rw' c (ptn (F j) c)) (F j):=by
 obtain⟨cs,h1,h2,h3,h4⟩:=h;obtain⟨gj,sa,Aa,na,ca,sb,Ab,nb,cb,c1,c2,c3,c4,c5,hp⟩:=h4 j hj;exact⟨gj,sa,Aa,na,ca,sb,Ab,nb,cb,by rw[cell_of_row w g _ _ _ _ h1,c1],by rw[cell_of_row w g _ _ _ _ h1,c2],by rw[cell_of_row w g _ _ _ _ h1,c3],by rw[cell_of_row w g _ _ _ _ h1,c4],by rw[cell_of_row w g _ _ _ _ h1,c5],hp⟩
theorem PB.low {b':Nat}(h:PB b w g N m c k kc F)(hb:b'<=b):PB b' w g N m c k kc F:=by
 obtain⟨cs,h1,h2,h3,h4⟩:=h;refine⟨cs,h1,h2,h3,fun j hj=>?_⟩;obtain⟨gj,sa,Aa,na,ca,sb,Ab,nb,cb,c1,c2,c3,c4,c5,hp⟩:=h4 j hj;exact⟨gj,sa,Aa,na,ca,sb,Ab,nb,cb,c1,c2,c3,c4,c5,hp.1,Nat.le_trans hb hp.2.1,hp.2.2⟩
theorem PB.made (w:World)(b N c k kc:Nat)(F:Nat->Nat->Rat):PB b (w.alloc (.cells (madeCells #[.slice none 0 0,.bool false,.slice none 0 0,.bool false,.slice none 0 0] (N*5)) 80)) w.heap.size N 0 c k kc F:=by
 refine⟨_,heap_alloc_new w _,by simp[size_madeCells],fun u hu=>?_,fun j hj=>by omega⟩;intro m e;subst e;obtain⟨t,ht,e⟩:=(by simpa [madeCells] using hu:∃a,a<N*5/\([Value.slice none 0 0,.bool false,.slice none 0 0,.bool false,.slice none 0 0]:List Value)[a%5]?.getD default=Value.int .u64 m);have hm:t%5<5:=Nat.mod_lt _ (by omega);rcases(by omega:t%5=0\/t%5=1\/t%5=2\/t%5=3\/t%5=4)with h|h|h|h|h<;>simp[h]at e
def pputo (w:World)(g o:Nat)(v0 v1 v2 v3 v4:Value):World:=((((w.setCell ⟨g,o,none⟩ v0).setCell ⟨g,o+1,none⟩ v1).setCell ⟨g,o+2,none⟩ v2).setCell ⟨g,o+3,none⟩ v3).setCell ⟨g,o+4,none⟩ v4
theorem g_n (w:World)(g o:Nat)(v0 v1 v2 v3 v4:Value):w.grownBy (pputo w g o v0 v1 v2 v3 v4) (some g):=a_d (q:=⟨g,o+4,none⟩) (a_d (q:=⟨g,o+3,none⟩) (a_d (q:=⟨g,o+2,none⟩) (a_d (q:=⟨g,o+1,none⟩) (a_d (q:=⟨g,o,none⟩) (a_m w (some g)) rfl _) rfl _) rfl _) rfl _) rfl _
theorem PB.put (h:PB b w g N m c k kc F)(hm:m<N)(hgb:g<b){gj na ca nb cb:Nat}{sa sb:Bool}{Aa Ab:Option Addr}(hp:Pt b w gj sa Aa na ca sb Ab nb cb c k kc (rw' c (ptn (F m) c)) (F m)):PB b (pputo w g (m*5) (.slice (some ⟨gj,0,none⟩) c c) (.bool sa) (.slice Aa na ca) (.bool sb) (.slice Ab nb cb)) g N (m+1) c k kc F:=by
 have hno:=h.now;have hgr:=g_n w g (m*5) (.slice (some ⟨gj,0,none⟩) c c) (.bool sa) (.slice Aa na ca) (.bool sb) (.slice Ab nb cb);obtain⟨cs,h1,h2,h3,h4⟩:=h;refine⟨((((cs.setIfInBounds (m*5) (.slice (some ⟨gj,0,none⟩) c c)).setIfInBounds (m*5+1) (.bool sa)).setIfInBounds (m*5+2) (.slice Aa na ca)).setIfInBounds (m*5+3) (.bool sb)).setIfInBounds (m*5+4) (.slice Ab nb cb), ?_,by simp[h2],fun u hu=>?_,fun j hj=>?_⟩
 ·unfold pputo;rw[heap_setCell_same _ g _ _ _ _ (heap_setCell_same _ g _ _ _ _ (heap_setCell_same _ g _ _ _ _ (heap_setCell_same _ g _ _ _ _ (heap_setCell_same w g _ _ _ _ h1))))]
 ·have mem:∀(xs:Array Value) (i:Nat) (y:Value),NWd y->(∀u,u∈xs.toList->NWd u)->∀u,u∈(xs.setIfInBounds i y).toList->NWd u:=fun xs i y hy hx u hu=>by
   rw[Array.toList_setIfInBounds]at hu;rcases List.mem_or_eq_of_mem_set hu with h|h
   ·exact hx u h
   ·rw[h];exact hy
  exact mem _ _ (.slice Ab nb cb) (fun m e=>nomatch e) (mem _ _ (.bool sb) (fun m e=>nomatch e) (mem _ _ (.slice Aa na ca) (fun m e=>nomatch e) (mem _ _ (.bool sa) (fun m e=>nomatch e) (mem _ _ (.slice (some ⟨gj,0,none⟩) c c) (fun m e=>nomatch e) h3)))) u hu
 ·by_cases e:j=m
  ·subst e;refine⟨gj,sa,Aa,na,ca,sb,Ab,nb,cb, ?_, ?_, ?_, ?_, ?_,hp.gro (by have:=hp.2.1;omega) hno hgr⟩
   ·rw[Array.getElem?_setIfInBounds_ne (by omega),Array.getElem?_setIfInBounds_ne (by omega),Array.getElem?_setIfInBounds_ne (by omega),Array.getElem?_setIfInBounds_ne (by omega),Array.getElem?_setIfInBounds_self_of_lt (by omega)]
   ·rw[Array.getElem?_setIfInBounds_ne (by omega),Array.getElem?_setIfInBounds_ne (by omega),Array.getElem?_setIfInBounds_ne (by omega),Array.getElem?_setIfInBounds_self_of_lt (by simp;omega)]
   ·rw[Array.getElem?_setIfInBounds_ne (by omega),Array.getElem?_setIfInBounds_ne (by omega),Array.getElem?_setIfInBounds_self_of_lt (by simp;omega)]
   ·rw[Array.getElem?_setIfInBounds_ne (by omega),Array.getElem?_setIfInBounds_self_of_lt (by simp;omega)]
   ·rw[Array.getElem?_setIfInBounds_self_of_lt (by simp;omega)]
  ·obtain⟨gj',sa',Aa',na',ca',sb',Ab',nb',cb',c1,c2,c3,c4,c5,hp'⟩:=h4 j (by omega);refine⟨gj',sa',Aa',na',ca',sb',Ab',nb',cb', ?_, ?_, ?_, ?_, ?_,hp'.gro (by have:=hp'.2.1;omega) hno hgr⟩
   ·rw[Array.getElem?_setIfInBounds_ne (by omega),Array.getElem?_setIfInBounds_ne (by omega),Array.getElem?_setIfInBounds_ne (by omega),Array.getElem?_setIfInBounds_ne (by omega),Array.getElem?_setIfInBounds_ne (by omega)];exact c1
   ·rw[Array.getElem?_setIfInBounds_ne (by omega),Array.getElem?_setIfInBounds_ne (by omega),Array.getElem?_setIfInBounds_ne (by omega),Array.getElem?_setIfInBounds_ne (by omega),Array.getElem?_setIfInBounds_ne (by omega)];exact c2
   ·rw[Array.getElem?_setIfInBounds_ne (by omega),Array.getElem?_setIfInBounds_ne (by omega),Array.getElem?_setIfInBounds_ne (by omega),Array.getElem?_setIfInBounds_ne (by omega),Array.getElem?_setIfInBounds_ne (by omega)];exact c3
   ·rw[Array.getElem?_setIfInBounds_ne (by omega),Array.getElem?_setIfInBounds_ne (by omega),Array.getElem?_setIfInBounds_ne (by omega),Array.getElem?_setIfInBounds_ne (by omega),Array.getElem?_setIfInBounds_ne (by omega)];exact c4
   ·rw[Array.getElem?_setIfInBounds_ne (by omega),Array.getElem?_setIfInBounds_ne (by omega),Array.getElem?_setIfInBounds_ne (by omega),Array.getElem?_setIfInBounds_ne (by omega),Array.getElem?_setIfInBounds_ne (by omega)];exact c5
end
theorem info_part:(Tryz.prog.info? 80).map (fun i=>(i.zero,i.size,i.bytes))=some (some (.agg #[.slice none 0 0,.bool false,.slice none 0 0,.bool false,.slice none 0 0]),5,88):=by kernel_rfl
theorem part_cells:Tryz.prog.cellsOf 80=5:=by kernel_rfl
theorem i_c (w:World)(n:Nat)(hn:n<=1048576):(Instr.makeSlice 92 (.int .i64 (n:Int)) (.int .i64 (n:Int))).run Tryz.prog w= .ok (.slice (some ⟨w.heap.size,0,none⟩) n n) (w.alloc (.cells (madeCells #[.slice none 0 0,.bool false,.slice none 0 0,.bool false,.slice none 0 0] (n*5)) 80)):=by
 obtain⟨i,hi,hz0,hz1,hz2⟩:=info_parts info_part;rw[run_make w _ _ i (.agg #[.slice none 0 0,.bool false,.slice none 0 0,.bool false,.slice none 0 0]) Tryz.underlying92 hi hz0 .i64 .i64 (n:Int) (n:Int) (by omega) (Int.le_refl _) (by rw[hz2];omega) (by omega)];rw[hz1];rfl
def IsP0 (b N:Nat):FVal:=fun v w=>∃g,v= .slice (some ⟨g,0,none⟩) N N/\b<=g/\∀b' c k kc F,PB b' w g N 0 c k kc F
def kP0 (b N:Nat):FK:=.f (IsP0 b N) (fun v w w' ⟨g,e,h1,h2⟩ hb=>⟨g,e,h1,fun b' c k kc F=>(h2 b' c k kc F).below hb⟩)
section
variable {ops:Array Oper}{Q:Exit->Act->World->Prop}{m i:Nat}{a0:Act}{w0:World}{l:List FK}{b:Bool}{id:Nat}
def okMp (ops:Array Oper)(m i:Nat)(s:Src):Bool:=okH ops m i&&(match(opAt ops i).op with| .makeSlice T x y=>T==92&&s.ok ops m i x&&s.ok ops m i y|_=>false)
theorem Run.mkP (s:Src){n b0:Nat}(hn:n<=1048576)(hb0:b0<=w0.heap.size)(rest:R ops Q m a0 w0 b id (kP0 b0 n::l) (i+1))(hx:s.K l i a0 (mzX (opAt ops i).op)= .k (.int .i64 (n:Int)):=by rfl)(hy:s.K l i a0 (mzY (opAt ops i).op)= .k (.int .i64 (n:Int)):=by rfl)(hc:okMp ops m i s=true:=by kernel_rfl)(hg:Gd l i (opAt ops i):=by first|exact trivial|exact rfl):R ops Q m a0 w0 b id l i:=by
 unfold okMp at hc;rw[Bool.and_eq_true]at hc;obtain⟨hh,h4⟩:=hc;refine Run.mem (x:=kP0 b0 n) (fun a w h=>?_) rest (FK.fne _) hh hg;split at h4
 ·rename_i T x y e;simp only[Bool.and_eq_true,beq_iff_eq]at h4;obtain⟨⟨rfl,h2⟩,h3⟩:=h4;rw[e]at hx hy;refine⟨_,_, ?_,⟨w.heap.size,rfl,Nat.le_trans hb0 h.below.size,fun b' c k kc F=>PB.made w b' n c k kc F⟩,zba w _⟩;unfold execOp;rw[e];simp only[h.srcK h2 hx,h.srcK h3 hy];simp[i_c w n hn]
 ·cases h4
end
theorem ldPl {w:World}{g:Nat}{T:TypeId}{cs:List Value}(b:Bx w g T cs)(o:Nat){A:Option Addr}{n c:Nat}(hc:cs[o]? =some (.slice A n c):=by rfl):∀w',Below w.heap.size w w'->(Instr.loadAt 92 (.pointer (some ⟨g,o,none⟩))).run Tryz.prog w'= .ok (.slice A n c) w':=fun w' hb=>by
 have h:=(b.below hb).cell o;rw[hc]at h;simp[go_sem,a_j,h]
theorem u_w {w:World}{ad:Addr}{n c k:Nat}(h:k<n):(Instr.indexAt 92 (.slice (some ad) n c) (.int .i64 (k:Int))).run Tryz.prog w= .ok (.pointer (some (ad.add (k*5)))) w:=by
 simp[go_sem,Tryz.underlying92,part_cells];omega
theorem opIxP {G n c k:Nat}{X Y:Operand}(h:k<n)(w:World):RunTwo Tryz.prog (.indexAddr 92 X Y) w (.slice (some ⟨G,0,none⟩) n c) (.int .i64 (k:Int)) (.pointer (some ⟨G,k*5,none⟩)):=by
 have h2:RunTwo Tryz.prog (.indexAddr 92 X Y) w (.slice (some ⟨G,0,none⟩) n c) (.int .i64 (k:Int)) (.pointer (some ((⟨G,0,none⟩:Addr).add (k*5)))):=u_w h;rwa [a_5]at h2
theorem ldPe {w:World}{g o:Nat}{A B C:Option Addr}{n c m d m' d':Nat}{s t:Bool}(hg:g<w.heap.size)(c0:w.cell? ⟨g,o,none⟩=some (.slice A n c))(c1:w.cell? ⟨g,o+1,none⟩=some (.bool s))(c2:w.cell? ⟨g,o+2,none⟩=some (.slice B m d))(c3:w.cell? ⟨g,o+3,none⟩=some (.bool t))(c4:w.cell? ⟨g,o+4,none⟩=some (.slice C m' d')):∀w',Below w.heap.size w w'->(Instr.loadAt 80 (.pointer (some ⟨g,o,none⟩))).run Tryz.prog w'= .ok (.agg #[.slice A n c,.bool s,.slice B m d,.bool t,.slice C m' d']) w':=fun w' hb=>by
 have e0:=(hb.cell (p:=⟨g,o,none⟩) hg).trans c0;have e1:=(hb.cell (p:=⟨g,o+1,none⟩) hg).trans c1;have e2:=(hb.cell (p:=⟨g,o+2,none⟩) hg).trans c2;have e3:=(hb.cell (p:=⟨g,o+3,none⟩) hg).trans c3;have e4:=(hb.cell (p:=⟨g,o+4,none⟩) hg).trans c4;simp[go_sem,Addr.add,e0,e1,e2,e3,e4]
theorem q_8 {a:Act}{w:World}{g n c:Nat}{A:Option Addr}{o:Oper}{x y:Operand}{u:Value}(ho:o.op= .store 92 x y)(hx:a.eval x= .pointer (some ⟨g,0,none⟩))(hy:a.eval y= .slice A n c)(b:Bx w g 92 [u]):(execOp a.eval o).run Tryz.prog w= .ok .skip (w.setCell ⟨g,0,none⟩ (.slice A n c)):=by
 have h0:=b.cell 0;have f0:=b.free 0;simp only[List.getElem?_cons_zero]at h0;unfold execOp;rw[ho];simp only[hx,hy];simp[go_sem,h0,f0,a_j]
theorem v_g {b R S C k kc K i j g g' Gr Gc:Nat}{F G:Nat->Nat->Rat}{w:World}(b2:Bx w g 92 [.slice (some ⟨Gr,0,none⟩) R R])(b3:Bx w g' 92 [.slice (some ⟨Gc,0,none⟩) S S])(hr:PB b w Gr R R C k kc F)(hc:PB b w Gc S S C k kc (fun j l=>G l j))(hi:i<R)(hj:j<S)(hC:C<=64)(hK:k+k+C+kc+kc+1<=K)(hKb:K<=1073741824):Calls Tryz.prog 68 #[.int .i64 (i:Int),.int .i64 (j:Int),.pointer (some ⟨g,0,none⟩),.pointer (some ⟨g',0,none⟩)] w (RetK (kQ (RT.mul C F G i j) K) w):=by
 have l2:=hr.lt;have l3:=hc.lt;obtain⟨gi,sa,Aa,na,ca,sb,Ab,nb,cb,x0,x1,x2,x3,x4,hp⟩:=hr.cells hi;obtain⟨gj,sa',Aa',na',ca',sb',Ab',nb',cb',y0,y1,y2,y3,y4,hq⟩:=hc.cells hj;obtain⟨w1,hw1,b6,z1,s1⟩:=boxes1 w 42 [.bool false,.slice none 0 0,.bool false,.slice none 0 0];have HW:=Lib.hid hw1;have HZ:=Lib.hid z1;have L1:=fun w' hb=>ldPe l2 x0 x1 x2 x3 x4 w' hb;have L2:=fun w' hb=>ldPe l3 y0 y1 y2 y3 y4 w' hb;replace b2:=b2.below z1;replace b3:=b3.below z1;have hz1:=z1;clear x0 x1 x2 x3 x4 y0 y1 y2 y3 y4 hr hc;clear hw1 z1 s1;go_enter Tryz.func68,Tryz.ntmps68
 go_upto_region 1 with fail
 rw[HW.out];refine Run.start 9 ?_;refine .ld .o (ldPl b2 0) ?_;refine .mv .o ?_;refine .two (.i 0) (.i 1) (opIxP hi) ?_;refine .ld (.i 2) (fun w' hb=>L1 w' (zup hz1 hb)) ?_;refine .ld .o (ldPl b3 0) ?_;refine .mv .o ?_;refine .two (.i 4) (.i 5) (opIxP hj) ?_;refine .ld (.i 6) (fun w' hb=>L2 w' (zup hz1 hb)) ?_;refine .c2 (.i 3) (.i 7) (x:=kQ (RT.mul C F G i j) K) (by rintro u v w3 hB rfl rfl;exact r_1 (hp.below (zup hz1 hB)) (hq.below (zup hz1 hB)) (by omega) (by omega) hKb) ?_;refine .done [some 7,some 8,some 9,some 10,some 11,some 12,some 13,some 14,some 15] ?_;intro w2 B2;rintro v ⟨s_,A_,n_,c_,t_,B_,m_,d_,rfl,hz,hk1,hk2⟩;refine sh [_] ?_;simp only[Act.put,lS,lZ,lC];clear L1 L2 hp hq hz1;have I:=(b6.below B2).rb;have P:=Lib.hid (retQ hz I (k:=K) hk1 hk2 (by omega) (zup HZ.out B2));unfold rput at P;obtain⟨i1,i2,i3,i4,i5,i6,i7,i8,i9⟩:=I;clear hz
 go_wp2_with fail
 exact bodyPost_ret (v:=.agg #[.bool s_,.slice A_ n_ c_,.bool t_,.slice B_ m_ d_]) (by simp[results,Tryz.results68,go_sem,i1,i2,i3,i4]) rfl P.out
theorem r_v {q q':Bool}{R C S n d n' d' k K:Nat}{A A':Option Addr}{F G:Nat->Nat->Rat}{w:World}(ha:Mq q w R C A n d k F)(hb:Mq q' w C S A' n' d' k G)(hk0:1<=k)(hK:pk C k+pk C k+C+pc C k+pc C k+1<=K)(hKb:K<=1073741824):Calls Tryz.prog 25 #[.agg #[.int .i64 (R:Int),.int .i64 (C:Int),.slice A n d],.agg #[.int .i64 (C:Int),.int .i64 (S:Int),.slice A' n' d']] w (RetK (kT (kMw w.heap.size R S K fun i j=>RT.mul C F G i j) (.k (.int .i64 0))) w):=by
 have h1:(fmd (R:Int) (C:Int) n&&fmd (C:Int) (S:Int) n')=true:=by rw[ha.fmd,hb.fmd];rfl
 have hR:=ha.hr;have hC:=ha.hc;have hS:=hb.hc;obtain⟨kp,hkp⟩:∃kp,pk C k=kp:=⟨_,rfl⟩;obtain⟨kc,hkc⟩:∃kc,pc C k=kc:=⟨_,rfl⟩;rw[hkp,hkc]at hK;have HKP:=Lib.hid hkp;have HKC:=Lib.hid hkc;have HA:=Lib.hid ha;have HB_:=Lib.hid hb;clear hkp hkc ha hb;obtain⟨w1,hw1,b2,b3,b4,z1,s1⟩:=boxes3 w 24 24 24 [.int .i64 (R:Int),.int .i64 (C:Int),.slice A n d] [.int .i64 (C:Int),.int .i64 (S:Int),.slice A' n' d'] [.int .i64 0,.int .i64 0,.slice none 0 0];have HW:=Lib.hid hw1;have HZ:=Lib.hid z1;have h1_:=Lib.hid h1;clear hw1 z1 h1 s1;go_enter Tryz.func25,Tryz.ntmps25
 go_upto_region 1 with fail
 rw[HW.out];refine Run.start 11 ?_;refine .ld .o (ldQm b2 0) ?_;refine .ld .o (ldQm b3 0) ?_;refine .c2 (.i 0) (.i 1) (x:=.k (.bool true)) (by rintro u v w2 hB rfl rfl;exact e_b h1_.out w2) ?_;refine .nt (.i 2) ?_;refine .mv (.i 3) ?_;refine .fa .o (fQ1 1) ?_;refine .ld (.i 5) (ldInt b2 1) ?_;refine .fa .o (fQ0 0) ?_;refine .ld (.i 7) (ldInt b3 0) ?_;refine .two (.i 6) (.i 8) (opNe (by simp:decide ((C:Int)≠(C:Int))=false)) ?_;refine .pk (.i 4) (.i 9) false ?_;refine .donep [some 10,some 11,some 12,some 13,some 14,some 15,some 16,some 17,some 18,some 19,some 20] ?_;intro w2 B2;refine sh [] ?_;simp only[Act.put,lS,lZ,lC];have B0:=zup HZ.out B2;replace b2:=b2.below B2;replace b3:=b3.below B2;replace b4:=b4.below B2;clear B2 HZ;go_upto_region 3 with fail
 refine reg_noP ?_;refine Run.start 8 ?_;refine .fa .o (fQ0 0) ?_;refine .ld (.i 0) (ldInt b2 0) ?_;refine .mkP (.i 1) (n:=R) (b0:=w2.heap.size) (by omega) (Nat.le_refl _) ?_;refine .fa .o (fQ1 1) ?_;refine .ld (.i 3) (ldInt b3 1) ?_;refine .mkP (.i 4) (n:=S) (b0:=w2.heap.size) (by omega) (Nat.le_refl _) ?_;refine .al ?_;refine .al ?_;refine Run.donet [3,4,5] 6 2 6 24 92 2 5 24 27 [some 22,some 23,some 24,some 25,some 26,some 27,some 6,some 7] ?late ?st ?bx ?by_ ?mk (fun⟨_,_,h⟩=>h) ?_;case late=>
  intro i hi;have hc:i=3\/i=4\/i=5:=by simpa using hi
  rcases hc with rfl|rfl|rfl
  ·exact⟨rfl,(f_r rfl fun a w' hB ho hp=>i_f rfl (ho 3 (by kernel_rfl)) (fQ1 1 rfl w')).b (by decide) (by decide)⟩
  ·exact⟨rfl,(f_r rfl fun a w' hB ho hp=>i_e rfl (hp 3 25 _ (by kernel_rfl) rfl) (ldInt b3 1 rfl w' hB)).b (by decide) (by decide)⟩
  ·refine⟨rfl,fun a w' hB ho hp=>⟨.slice (some ⟨w'.heap.size,0,none⟩) S S,_,⟨w'.heap.size,rfl,hB.size,fun b' c k kc F=>PB.made w' b' S c k kc F⟩,zba w' _,fun g v h1 h2=>?_,fun _=>rfl⟩⟩;have e:a.eval (.tmp 26)= .int .i64 (S:Int):=hp 4 26 (by kernel_rfl);have h3:=i_c (w'.setCell ⟨g,0,none⟩ v) S (by omega);rw[<-World.setCell_alloc_past _ _ _ _ h2,World.size_setCell]at h3;exact f_z rfl e e h3
 case st=>
  intro a w' g hd hz he;obtain⟨gO,e,-⟩:=he;rw[e];exact q_8 rfl hd e (u:=.slice none 0 0) (hz.trans (congrArg some (by kernel_rfl)))
 case bx=>
  rintro v w' ⟨G,rfl,-,h⟩;exact⟨G,rfl,(h 0 0 0 0 fun _ _=>0).lt⟩
 case by_=>
  rintro v w' ⟨G,rfl,-,h⟩;exact⟨G,rfl,(h 0 0 0 0 fun _ _=>0).lt⟩
 case mk=>
  intro i hi;rcases hi with rfl|rfl
  ·refine⟨rfl,fun a w' hB ho hp=>⟨.slice (some ⟨w'.heap.size,0,none⟩) R R,_, ?_,⟨w'.heap.size,rfl,hB.size,fun b' c k kc F=>PB.made w' b' R c k kc F⟩,zba w' _,rfl⟩⟩;have e:a.eval (.tmp 23)= .int .i64 (R:Int):=hp 1 23 (by kernel_rfl);exact f_z rfl e e (i_c w' R (by omega))
  ·refine⟨rfl,fun a w' hB ho hp=>⟨.slice (some ⟨w'.heap.size,0,none⟩) S S,_, ?_,⟨w'.heap.size,rfl,hB.size,fun b' c k kc F=>PB.made w' b' S c k kc F⟩,zba w' _,rfl⟩⟩;have e:a.eval (.tmp 26)= .int .i64 (S:Int):=hp 4 26 (by kernel_rfl);exact f_z rfl e e (i_c w' S (by omega))
 intro w3 Gr Gc B3 hneRC;rintro v ⟨⟨Gr',rfl,hGr,hr0⟩,eR⟩;have eR':Gr=Gr':=(Option.some.inj eR).symm;subst eR';clear eR;rintro v ⟨⟨Gc',rfl,hGc,hc0⟩,eC⟩;have eC':Gc=Gc':=(Option.some.inj eC).symm;subst eC';clear eC;rintro g6 hg6 hl6 hc6 -;rintro g7 hg7 hl7 hc7 ⟨ne67,-⟩;refine sh [_,_] ?_;simp only[Act.put,lS,lZ,lC];have b6:Bx w3 g6 92 [.slice none 0 0]:=hc6.trans (congrArg some (by kernel_rfl));have b7:Bx w3 g7 92 [.slice none 0 0]:=hc7.trans (congrArg some (by kernel_rfl));have lr:=(hr0 0 0 0 0 fun _ _=>0).lt;have lc:=(hc0 0 0 0 0 fun _ _=>0).lt;have ptyp:∀ {g N:Nat} {T:TypeId} {cs:List Value} {g'},PB 0 w3 g N 0 0 0 0 (fun _ _=>0)->Bx w3 g' T cs->80≠T->g≠g':=fun {g N T cs g'} h b hT e=>by
  obtain⟨c,h1,-⟩:=h;subst e;unfold Bx at b;rw[b]at h1;injection h1 with h3
  injection h3 with _ h4
  exact hT h4.symm
 have nr6:=ptyp (hr0 0 0 0 0 fun _ _=>0) b6 (by decide);have nr7:=ptyp (hr0 0 0 0 0 fun _ _=>0) b7 (by decide);have nc6:=ptyp (hc0 0 0 0 0 fun _ _=>0) b6 (by decide);have nc7:=ptyp (hc0 0 0 0 0 fun _ _=>0) b7 (by decide);clear ptyp;have i6:=b6.cell 0;have i6':=b6.free 0;have i7:=b7.cell 0;have i7':=b7.free 0;simp only[List.getElem?_cons_zero]at i6 i7;have l2:=b2.lt;have l3:=b3.lt;have l4:=b4.lt;replace B0:=zup B0 B3;replace b2:=b2.below B3;replace b3:=b3.below B3;replace b4:=b4.below B3;have gr6:w3.grownBy (w3.setCell ⟨g6,0,none⟩ (.slice (some ⟨Gr,0,none⟩) R R)) (some g6):=a_d (q:=⟨g6,0,none⟩) (a_m w3 (some g6)) rfl _;have no6:Wless w3 g6:=b6.now (by simp);obtain⟨bs,hbs⟩:∃bs,w3.heap.size=bs:=⟨_,rfl⟩;have hr:=(hr0 bs C kp kc F).gro nr6 (by omega) no6 gr6;have hc:=(hc0 bs C kp kc fun j l=>G l j).gro nc6 (by omega) no6 gr6;replace b2:=a_a b2 gr6 (by omega);replace b3:=a_a b3 gr6 (by omega);replace b4:=a_a b4 gr6 (by omega);replace b7:=a_a b7 gr6 (Ne.symm ne67);replace b6:=b6.set 0 (.slice (some ⟨Gr,0,none⟩) R R);replace B0:=a_c B0 gr6 (by have:=B0.size;omega);obtain⟨w4,hw4⟩:∃x,w3.setCell ⟨g6,0,none⟩ (.slice (some ⟨Gr,0,none⟩) R R)=x:=⟨_,rfl⟩;have hs4:=gr6.size;rw[hw4]at hr hc b2 b3 b4 b7 b6 B0 hs4;have gr7:w4.grownBy (w4.setCell ⟨g7,0,none⟩ (.slice (some ⟨Gc,0,none⟩) S S)) (some g7):=a_d (q:=⟨g7,0,none⟩) (a_m w4 (some g7)) rfl _;have no7:Wless w4 g7:=b7.now (by simp);replace hr:=hr.gro nr7 (by omega) no7 gr7;replace hc:=hc.gro nc7 (by omega) no7 gr7;replace b2:=a_a b2 gr7 (by omega);replace b3:=a_a b3 gr7 (by omega);replace b4:=a_a b4 gr7 (by omega);replace b6:=a_a b6 gr7 ne67;replace b7:=b7.set 0 (.slice (some ⟨Gc,0,none⟩) S S);have hw0:w.heap.size<=w2.heap.size:=by omega
 replace B0:=a_c B0 gr7 (by omega);obtain⟨w5,hw5⟩:∃x,w4.setCell ⟨g7,0,none⟩ (.slice (some ⟨Gc,0,none⟩) S S)=x:=⟨_,rfl⟩;have hs5:=gr7.size;rw[hw5]at hr hc b2 b3 b4 b6 b7 B0 hs5;have HW5:Hid ((w3.setCell ⟨g6,0,none⟩ (.slice (some ⟨Gr,0,none⟩) R R)).setCell ⟨g7,0,none⟩ (.slice (some ⟨Gc,0,none⟩) S S)=w5):=Lib.hid (by rw[hw4];exact hw5);have n67:¬g6=g7:=ne67;have n76:¬g7=g6:=Ne.symm ne67;have hrb:Gr<bs:=by omega
 have hcb:Gc<bs:=by omega
 have h6b:g6<bs:=by omega
 have h7b:g7<bs:=by omega
 have hbsw:bs<=w5.heap.size:=by omega
 have HR0:=Lib.hid hr;clear gr6 gr7 no6 no7 hw4 hw5 hc6 hc7 hr0 hc0 B3
 go_wp2_with fail
 refine i_q ?_;go_upto_region 4 with fail
 rw[HW5.out];clear i6 i6' i7 i7' HW5;have hRC:Gr≠Gc:=hneRC;obtain⟨w5',hw5'⟩:∃x,x=w5:=⟨_,rfl⟩;have H0:Hid (w5.grownBy w5 (some Gr)/\PB bs w5 Gr R 0 C kp kc F):=Lib.hid ⟨a_m _ _,hr⟩;have c6:=b6.cell 0;have HC0:=Lib.hid hc;clear hr hc hw5' w5'
 go_wp2_with fail
 clear c6;go_loopw [30] (fun s30 wr=>∃i:Nat,s30= .int .i64 (i:Int)/\i<=R/\Hid (w5.grownBy wr (some Gr)/\PB bs wr Gr R i C kp kc F)) (fun s30 _=>R - (intOf s30).toNat)
 case atStart=>exact⟨0,rfl,Nat.zero_le _,H0⟩
 case round=>
  clear H0;obtain⟨i,rfl,hi,HB⟩:=hrel;obtain⟨hG,hr⟩:=HB.out;clear HB;have hGs:=hG.size;have lrr:=hr.lt;by_cases hlt:i<R
  ·have u1:(i:Int)<(R:Int):=by omega
   have b2r:=a_a b2 hG (by omega);have b6r:=a_a b6 hG (by omega);have BW:=a_c B0 hG (by omega);obtain⟨Ar,dr,hrow⟩:=u_3 HA.out hlt;go_upto_region 7 with fail
   refine Run.start 7 ?_;refine .ld .o (ldPl b6r 0) ?_;refine .mv .o ?_;refine .ld .o (ldQm b2r 0) ?_;refine .mv .o ?_;refine .c2 (.i 2) (.i 3) (x:=.k (.slice Ar C dr)) (by rintro u v w4 hB rfl rfl;exact(hrow w4 (zup BW hB)).2) ?_;refine .c1 (.i 4) (x:=kPt wr.heap.size C kp kc (F i)) (by rintro u w4 hB rfl;exact j_v (hrow w4 (zup BW hB)).1 (by omega) hk0 HKP.out HKC.out (by omega) hB.size) ?_;refine .two (.i 0) (.i 1) (opIxP hlt) ?_;refine .done [some 33,some 34,some 35,some 36,some 37,some 38,some 39] ?_;intro w7 B7;rintro v ⟨gn,sa,Aa,na,ca,sb,Ab,nb,cb,rfl,hp⟩;refine sh [_] ?_;simp only[Act.put,lS,lZ,lC];clear b2r b6r hrow;replace hr:=hr.below B7;have hm5:i*5+4<R*5:=by omega
   obtain⟨u0,x0⟩:=hr.any (t:=i*5) (by omega);obtain⟨u1_,x1⟩:=hr.any (t:=i*5+1) (by omega);obtain⟨u2_,x2⟩:=hr.any (t:=i*5+2) (by omega);obtain⟨u3_,x3⟩:=hr.any (t:=i*5+3) (by omega);obtain⟨u4_,x4⟩:=hr.any (t:=i*5+4) (by omega);have y0:=hr.free (i*5);have y1:=hr.free (i*5+1);have y2:=hr.free (i*5+2);have y3:=hr.free (i*5+3);have y4:=hr.free (i*5+4);have hs:=hr.put hlt (by omega) ⟨hp.1,by have:=hp.2.1;omega,hp.2.2⟩;have hgr:=g_n w7 Gr (i*5) (.slice (some ⟨gn,0,none⟩) C C) (.bool sa) (.slice Aa na ca) (.bool sb) (.slice Ab nb cb);have HN:Hid (w5.grownBy (pputo w7 Gr (i*5) (.slice (some ⟨gn,0,none⟩) C C) (.bool sa) (.slice Aa na ca) (.bool sb) (.slice Ab nb cb)) (some Gr)/\PB bs (pputo w7 Gr (i*5) (.slice (some ⟨gn,0,none⟩) C C) (.bool sa) (.slice Aa na ca) (.bool sb) (.slice Ab nb cb)) Gr R (i+1) C kp kc F):=Lib.hid ⟨c_d (c_d hG (h_n B7 _)) hgr,hs⟩;unfold pputo at HN;clear hr hs hgr hp B7 hG BW
   go_wp2_with fail
   clear x0 x1 x2 x3 x4 y0 y1 y2 y3 y4;go_roundw
   case rel=>exact⟨i+1,by go_num,by omega,HN⟩
   case measure=>first|(simp[intOf];done)|(simp[intOf];omega)
  ·obtain rfl:i=R:=by omega
   have u1:¬(i:Int)<(i:Int):=by omega
   have b2r:=a_a b2 hG (by omega);have b3r:=a_a b3 hG (by omega);have b4r:=a_a b4 hG (by omega);have b6r:=a_a b6 hG (by omega);have b7r:=a_a b7 hG (by omega);have BW0:=a_c B0 hG (by omega);have hc:=HC0.out.gro (Ne.symm hRC) hrb (HR0.out.now) hG;have HRr:=Lib.hid hr;obtain⟨wm,hwm⟩:∃x,x=wr:=⟨_,rfl⟩;subst hwm;have H0:Hid (wm.grownBy wm (some Gc)/\PB bs wm Gc S 0 C kp kc (fun j l=>G l j)):=Lib.hid ⟨a_m _ _,hc⟩;have c7:=b7r.cell 0;have HCm:=Lib.hid hc;clear hr hc hG HC0 HR0 b2 b3 b4 b6 b7 B0
   go_wp2_with fail
   clear c7;go_loopw [43] (fun s43 wr=>∃j:Nat,s43= .int .i64 (j:Int)/\j<=S/\Hid (wm.grownBy wr (some Gc)/\PB bs wr Gc S j C kp kc (fun j l=>G l j))) (fun s43 _=>S - (intOf s43).toNat)
   case atStart=>exact⟨0,rfl,Nat.zero_le _,H0⟩
   case round=>
    clear H0;obtain⟨j,rfl,hj,HB⟩:=hrel;obtain⟨hG,hc⟩:=HB.out;clear HB;have hGs2:=hG.size;have lcc:=hc.lt;by_cases hlt:j<S
    ·have u2:(j:Int)<(S:Int):=by omega
     have b3s:=a_a b3r hG (by omega);have b7s:=a_a b7r hG (by omega);have BW:=a_c BW0 hG (by omega);go_upto_region 12 with fail
     refine Run.start 7 ?_;refine .ld .o (ldPl b7s 0) ?_;refine .mv .o ?_;refine .ld .o (ldQm b3s 0) ?_;refine .mv .o ?_;refine .c2 (.i 2) (.i 3) (x:=kQl false C k (qrw C fun l=>G l j)) (by rintro u v w4 hB rfl rfl;exact m_1 (HB_.out.below (zup BW hB)) hlt) ?_;refine .c1 (.i 4) (x:=kPt wr.heap.size C kp kc (fun l=>G l j)) (by rintro u w4 hB ⟨A',d',rfl,hq⟩;exact j_v hq (by omega) hk0 HKP.out HKC.out (by omega) hB.size) ?_;refine .two (.i 0) (.i 1) (opIxP hlt) ?_;refine .done [some 46,some 47,some 48,some 49,some 50,some 51,some 52] ?_;intro w7 B7;rintro v50 -;rintro v ⟨gn,sa,Aa,na,ca,sb,Ab,nb,cb,rfl,hp⟩;refine sh [_] ?_;simp only[Act.put,lS,lZ,lC];clear b3s b7s;replace hc:=hc.below B7;have hm5:j*5+4<S*5:=by omega
     obtain⟨u0,x0⟩:=hc.any (t:=j*5) (by omega);obtain⟨u1_,x1⟩:=hc.any (t:=j*5+1) (by omega);obtain⟨u2_,x2⟩:=hc.any (t:=j*5+2) (by omega);obtain⟨u3_,x3⟩:=hc.any (t:=j*5+3) (by omega);obtain⟨u4_,x4⟩:=hc.any (t:=j*5+4) (by omega);have y0:=hc.free (j*5);have y1:=hc.free (j*5+1);have y2:=hc.free (j*5+2);have y3:=hc.free (j*5+3);have y4:=hc.free (j*5+4);have hs:=hc.put hlt (by omega) ⟨hp.1,by have:=hp.2.1;omega,hp.2.2⟩;have hgr:=g_n w7 Gc (j*5) (.slice (some ⟨gn,0,none⟩) C C) (.bool sa) (.slice Aa na ca) (.bool sb) (.slice Ab nb cb);have HN:Hid (wm.grownBy (pputo w7 Gc (j*5) (.slice (some ⟨gn,0,none⟩) C C) (.bool sa) (.slice Aa na ca) (.bool sb) (.slice Ab nb cb)) (some Gc)/\PB bs (pputo w7 Gc (j*5) (.slice (some ⟨gn,0,none⟩) C C) (.bool sa) (.slice Aa na ca) (.bool sb) (.slice Ab nb cb)) Gc S (j+1) C kp kc (fun j l=>G l j)):=Lib.hid ⟨c_d (c_d hG (h_n B7 _)) hgr,hs⟩;unfold pputo at HN;clear hc hs hgr hp B7 hG BW
     go_wp2_with fail
     clear x0 x1 x2 x3 x4 y0 y1 y2 y3 y4;go_roundw
     case rel=>exact⟨j+1,by go_num,by omega,HN⟩
     case measure=>first|(simp[intOf];done)|(simp[intOf];omega)
    ·obtain rfl:j=S:=by omega
     have u2:¬(j:Int)<(j:Int):=by omega
     have b2s:=a_a b2r hG (by omega);have b3s:=a_a b3r hG (by omega);have b4s:=a_a b4r hG (by omega);have b6s:=a_a b6r hG (by omega);have b7s:=a_a b7r hG (by omega);have BW:=a_c BW0 hG (by omega);have hr:=HRr.out.gro hRC hcb (HCm.out.now) hG;clear hG b2r b3r b4r b6r b7r BW0 HRr;go_upto_region 14 with fail
     refine Run.start 6 ?_;refine .fa .o (fQ0 0) ?_;refine .ld (.i 0) (ldInt b2s 0) ?_;refine .fa .o (fQ1 1) ?_;refine .ld (.i 2) (ldInt b3s 1) ?_;refine .fn [] [.o,.o] [] [_,_] (trivial) (⟨rfl,rfl,trivial⟩) ?_;refine .c3 (.i 1) (.i 3) (.i 4) (x:=kMw w.heap.size i j K fun a b=>RT.mul C F G a b) (by rintro u v x w4 hB rfl rfl rfl;exact(e_3 hR hS (by kernel_rfl) (fun a b W ha hb hW=>by rw[argsO];exact v_g ((b6s.below hB).below hW) ((b7s.below hB).below hW) ((hr.below hB).below hW) ((hc.below hB).below hW) ha hb hC (by omega) hKb)).mono fun e w' h=>h.mono fun v w2 ⟨A,n,d,e,h1⟩=>⟨A,n,d,e,h1.low (zup BW hB).size⟩) ?_;refine .donep [some 54,some 55,some 56,some 57,some 58,some 59] ?_;intro w8 B8;rintro v ⟨A_,n_,d_,rfl,hM⟩;refine sh [_,_] ?_;simp only[Act.put,lS,lZ,lC];clear hr hc b6s b7s b2s b3s;have P:=Lib.hid (retMwE hM (b4s.below B8) (by omega) (zup BW B8));unfold mput at P;obtain⟨i0,i1,i2,i3,i4,i5,i6⟩:=(b4s.below B8).m3;clear hM
     go_wp2_with fail
     exact bodyPost_ret (v:=.tuple #[.agg #[.int .i64 (i:Int),.int .i64 (j:Int),.slice A_ n_ d_],.int .i64 0]) (by simp[results,Tryz.results25,go_sem,i0,i1,i2]) rfl P.out
end Go.Proofs.YtfhbdlegkdbmfaaGreat
