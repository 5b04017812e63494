/- Ph07 -/
import Derived.Test.YtgohglhefhocgaaGreatPh06
import Derived.Test.YtgohglhefhocgaaGreatRows
import Derived.Lib.SmallJoins
import Derived.ChangeSlices
import Derived.Deep.Slices
import Derived.Deep.Fields
import Derived.Deep.Matrix
import Derived.Laws.AppendOwn
import Derived.Lib.Hide
set_option linter.unusedVariables false
set_option linter.unusedSimpArgs false
set_option linter.unusedSectionVars false
set_option maxRecDepth 100000
set_option maxHeartbeats 8000000
namespace Go.Proofs.YtgohglhefhocgaaGreat
section
open Go.RowKit
theorem a_p (a:Addr):a.add 0=a:=by
 obtain⟨b,o,i⟩:=a;cases i<;>rfl
theorem b_m {w w':World}(h:Below w.heap.size w w')(r:Option Nat):w.grownBy w' r:=⟨h.os,h.tape,h.output,h.size,fun k hk _=>h.block k hk⟩
theorem a_8 (w:World)(r:Option Nat):w.grownBy w r:=b_m (Below.refl _ _) r
theorem a_t {a b c:World}{r:Option Nat}(h:a.grownBy b r)(k:b.grownBy c r):a.grownBy c r:=
 ⟨k.os.trans h.os,k.tape.trans h.tape,k.output.trans h.output,Nat.le_trans h.size k.size,fun i hi hn=>(k.block i (Nat.lt_of_lt_of_le hi h.size) hn).trans (h.block i hi hn)⟩
theorem b_e {w w':World}{g:Nat}{q:Addr}(h:w.grownBy w' (some g))(hq:q.block=g)(u:Value):w.grownBy (w'.setCell q u) (some g):=by
 obtain⟨b,o,n⟩:=q;exact⟨h.os,h.tape,h.output,by simpa using h.size,fun k hk hne=>(Below.heap_setCell _ _ _ _ (fun e=>hne (by rw[e];simp only at hq ⊢;rw[hq]))).trans (h.block k hk hne)⟩
theorem h_d {w0 w w':World}{g:Nat}(hb:Below w0.heap.size w0 w)(h:w.grownBy w' (some g))(hg:w0.heap.size≤g):Below w0.heap.size w0 w':=
 hb.trans ⟨h.os,h.tape,h.output,h.size,fun k hk=>h.block k (by have:=hb.size;omega) (fun e=>by have:=Option.some.inj e;omega)⟩
def Wless (w:World)(g:Nat):Prop:=∀(p:Addr) (m:Int),p.block=g→w.cell? p≠some (.int .u64 m)
theorem Rd.gro {w w':World}{A:Option Addr}{xs:List Nat}{g:Nat}(h:Rd w .u64 A xs)(hn:Wless w g)(hg:w.grownBy w' (some g)):Rd w' .u64 A xs:=fun h0=>by
 have h1:=h;obtain⟨ad,rfl,hlt,hc⟩:=h h0;refine(h1.grown hg fun ad' e e2=>?_) h0;cases e;obtain rfl:ad.block=g:=Option.some.inj e2;exact hn _ _ (by rw[a_b]) (hc 0 h0)
theorem Cv.gro {w w':World}{A:Option Addr}{n c x g:Nat}(h:Cv w A n c x)(hn:Wless w g)(hg:w.grownBy w' (some g)):Cv w' A n c x:=⟨h.1.gro hn hg,h.2⟩
theorem Nv.gro {w w':World}{A:Option Addr}{n c x g:Nat}(h:Nv w A n c x)(hn:Wless w g)(hg:w.grownBy w' (some g)):Nv w' A n c x:=by
 obtain⟨xs,h1,h2⟩:=h;exact⟨xs,h1.gro hn hg,h2⟩
theorem Zv.gro {w w':World}{s:Bool}{A:Option Addr}{n c g:Nat}{z:Int}(h:Zv w s A n c z)(hn:Wless w g)(hg:w.grownBy w' (some g)):Zv w' s A n c z:=by
 obtain⟨v,h1,h2⟩:=h;exact⟨v,h1.gro hn hg,h2⟩
theorem Zc.gro {w w':World}{s:Bool}{A:Option Addr}{n c g:Nat}{z:Int}(h:Zc w s A n c z)(hn:Wless w g)(hg:w.grownBy w' (some g)):Zc w' s A n c z:=⟨h.1.gro hn hg,h.2⟩
def Ze (q:Bool)(w:World)(s:Bool)(A:Option Addr)(n c:Nat)(z:Int):Prop:=Zv w s A n c z∧(q=true→Zc w s A n c z)
section
variable {q:Bool}{w w':World}{s:Bool}{A:Option Addr}{n c g:Nat}{z:Int}
theorem Ze.below (h:Ze q w s A n c z)(hb:Below w.heap.size w w'):Ze q w' s A n c z:=⟨h.1.below hb,fun e=>(h.2 e).below hb⟩
theorem Ze.gro (h:Ze q w s A n c z)(hn:Wless w g)(hg:w.grownBy w' (some g)):Ze q w' s A n c z:=⟨h.1.gro hn hg,fun e=>(h.2 e).gro hn hg⟩
theorem Ze.of (h:Zc w s A n c z):Ze q w s A n c z:=⟨h.zv,fun _=>h⟩
end
def ZAt (q:Bool)(w:World)(p:Addr)(k:Nat)(z:Int):Prop:=
 ∃s A n c,w.cell? p=some (.bool s)∧w.cell? ⟨p.block,p.off+1,none⟩=some (.slice A n c)∧Ze q w s A n c z∧n≤k
theorem n_k {w:World}{p:Addr}{s:Bool}{A:Option Addr}{n c:Nat}(h0:w.cell? p=some (.bool s))(h1:w.cell? ⟨p.block,p.off+1,none⟩=some (.slice A n c)):
  (Instr.loadAt 37 (.pointer (some p))).run Tryz.prog w= .ok (.agg #[.bool s,.slice A n c]) w:=by
 simp[go_sem,Addr.add,h0,h1]
structure ZL (q:Bool) (w:World) (A:Option Addr) (n c k:Nat) (zs:List Int):Prop where
 len:zs.length=n
 le:n≤c
 cap:c≤9223372036854775807
 at':0<n→∃ad,A=some ad∧ad.block<w.heap.size∧∀j,j<n→ZAt q w (ad.add (j*2)) k (ith zs j)
section
variable {q:Bool}{w w':World}{A:Option Addr}{n c k g:Nat}{zs:List Int}
theorem ZAt.below {p:Addr}{z:Int}(h:ZAt q w p k z)(hp:p.block<w.heap.size)(hb:Below w.heap.size w w'):ZAt q w' p k z:=by
 obtain⟨s,A,n,c,h1,h2,h3,h4⟩:=h;exact⟨s,A,n,c,(hb.cell hp).trans h1,(hb.cell (p:=⟨p.block,p.off+1,none⟩) hp).trans h2,h3.below hb,h4⟩
theorem ZAt.gro {p:Addr}{z:Int}(h:ZAt q w p k z)(hp:p.block<w.heap.size)(hne:p.block≠g)(hn:Wless w g)(hg:w.grownBy w' (some g)):ZAt q w' p k z:=by
 obtain⟨s,A,n,c,h1,h2,h3,h4⟩:=h;have e:=hg.block p.block hp (fun e=>hne (Option.some.inj e));exact⟨s,A,n,c,(World.cell?_of_block e).trans h1,(World.cell?_of_block (a:=⟨p.block,p.off+1,none⟩) e).trans h2,h3.gro hn hg,h4⟩
theorem ZL.nil (q:Bool)(w:World)(k:Nat):ZL q w none 0 0 k []:=⟨rfl,Nat.le_refl _,by omega,fun h=>by omega⟩
theorem ZL.below (h:ZL q w A n c k zs)(hb:Below w.heap.size w w'):ZL q w' A n c k zs:=⟨h.len,h.le,h.cap,fun h0=>by
 obtain⟨ad,rfl,h1,h2⟩:=h.at' h0;exact⟨ad,rfl,Nat.lt_of_lt_of_le h1 hb.size,fun j hj=>(h2 j hj).below (by rw[a_b];exact h1) hb⟩⟩
theorem ZL.gro (h:ZL q w A n c k zs)(hne:∀ad,A=some ad→ad.block≠g)(hn:Wless w g)(hg:w.grownBy w' (some g)):ZL q w' A n c k zs:=⟨h.len,h.le,h.cap,fun h0=>by
 obtain⟨ad,rfl,h1,h2⟩:=h.at' h0;exact⟨ad,rfl,Nat.lt_of_lt_of_le h1 hg.size,fun j hj=>(h2 j hj).gro (by rw[a_b];exact h1) (by rw[a_b];exact hne ad rfl) hn hg⟩⟩
theorem ZL.at (h:ZL q w A n c k zs){j:Nat}(hj:j<n):∃ad,A=some ad∧ad.block<w.heap.size∧ZAt q w (ad.add (j*2)) k (ith zs j):=by
 obtain⟨ad,e,h1,h2⟩:=h.at' (by omega);exact⟨ad,e,h1,h2 j hj⟩
theorem ZL.elem {ad:Addr}(h:ZL q w (some ad) n c k zs){j:Nat}(hj:j<n):ZAt q w (ad.add (j*2)) k (ith zs j):=by
 obtain⟨ad',e,h1,h2⟩:=h.at' (by omega);cases e;exact h2 j hj
theorem g_e {l:List Int}{m j:Nat}(h:j<m):ith (l.take m) j=ith l j:=by simp[ith,List.getD,h]
theorem g_f (l:List Int)(m j:Nat):ith (l.drop m) j=ith l (m+j):=by simp[ith,List.getD,List.getElem?_drop]
theorem ZL.take {m d:Nat}(h:ZL q w A n c k zs)(hm:m≤n)(hd:m≤d)(hc:d≤9223372036854775807):ZL q w A m d k (zs.take m):=⟨by rw[List.length_take,h.len];omega,hd,hc,fun h0=>by
 obtain⟨ad,rfl,h1,h2⟩:=h.at' (by omega);exact⟨ad,rfl,h1,fun j hj=>by rw[g_e hj];exact h2 j (by omega)⟩⟩
theorem ZL.drop {m d:Nat}{ad:Addr}(h:ZL q w (some ad) n c k zs)(hm:m≤n)(hd:n - m≤d)(hc:d≤9223372036854775807):ZL q w (some (ad.add (m*2))) (n - m) d k (zs.drop m):=⟨by rw[List.length_drop,h.len],hd,hc,fun h0=>by
 obtain⟨ad',e,h1,h2⟩:=h.at' (by omega);cases e;exact⟨_,rfl,by rw[a_b];exact h1,fun j hj=>by rw[g_f,i_s,←Nat.add_mul];exact h2 (m+j) (by omega)⟩⟩
end
def ZB (w:World)(g k:Nat)(zs:List Int):Prop:=
 ∃cs:Array Value,w.heap[g]? =some (.cells cs 37 (0,0))∧cs.size=zs.length*2∧∀j,j<zs.length→∃s A n c,cs[j*2]? =some (.bool s)∧cs[j*2+1]? =some (.slice A n c)∧Zc w s A n c (ith zs j)∧n≤k
def zputo (w:World)(g o:Nat)(s:Bool)(A:Option Addr)(n c:Nat):World:=(w.setCell ⟨g,o,none⟩ (.bool s)).setCell ⟨g,o+1,none⟩ (.slice A n c)
section
variable {w w':World}{g k b:Nat}{zs:List Int}
theorem ZB.lt (h:ZB w g k zs):g<w.heap.size:=by
 obtain⟨cs,h1,_⟩:=h;exact(Array.getElem?_eq_some_iff.1 h1).1
theorem ZB.now (h:ZB w g k zs):Wless w g:=fun p m hp e=>by
 obtain⟨cs,h1,h2,h3⟩:=h;have e2:cs[p.off]? =some (.int .u64 m):=by
  have:=e;unfold World.cell? at this;rw[hp,h1]at this;exact(by simpa using this:p.spot=none∧cs[p.off]? =some (.int .u64 m)).2
 have hlt:p.off<cs.size:=(Array.getElem?_eq_some_iff.1 e2).1;rw[h2]at hlt;obtain⟨s,A,n,c,c1,c2,_⟩:=h3 (p.off / 2) (by omega);rcases(by omega:p.off=p.off / 2*2∨p.off=p.off / 2*2+1)with ho|ho
 ·rw[ho,c1]at e2;cases e2
 ·rw[ho,c2]at e2;cases e2
theorem ZB.below (h:ZB w g k zs)(hb:Below w.heap.size w w'):ZB w' g k zs:=by
 have hl:=h.lt;obtain⟨cs,h1,h2,h3⟩:=h;refine⟨cs,(hb.block g hl).trans h1,h2,fun j hj=>?_⟩;obtain⟨s,A,n,c,c1,c2,c3,c4⟩:=h3 j hj;exact⟨s,A,n,c,c1,c2,c3.below hb,c4⟩
theorem ZB.gro (h:ZB w g k zs)(hne:g≠b)(hn:Wless w b)(hg:w.grownBy w' (some b)):ZB w' g k zs:=by
 have hl:=h.lt;obtain⟨cs,h1,h2,h3⟩:=h;refine⟨cs,(hg.block g hl (fun e=>hne (Option.some.inj e))).trans h1,h2,fun j hj=>?_⟩;obtain⟨s,A,n,c,c1,c2,c3,c4⟩:=h3 j hj;exact⟨s,A,n,c,c1,c2,c3.gro hn hg,c4⟩
theorem ZB.mono {k':Nat}(h:ZB w g k zs)(hk:k≤k'):ZB w g k' zs:=by
 obtain⟨cs,h1,h2,h3⟩:=h;refine⟨cs,h1,h2,fun j hj=>?_⟩;obtain⟨s,A,n,c,c1,c2,c3,c4⟩:=h3 j hj;exact⟨s,A,n,c,c1,c2,c3,Nat.le_trans c4 hk⟩
theorem ZB.cells (h:ZB w g k zs){j:Nat}(hj:j<zs.length):∃s A n c,w.cell? ⟨g,j*2,none⟩=some (.bool s)∧w.cell? ⟨g,j*2+1,none⟩=some (.slice A n c)∧Zc w s A n c (ith zs j)∧n≤k:=by
 obtain⟨cs,h1,h2,h3⟩:=h;obtain⟨s,A,n,c,c1,c2,c3,c4⟩:=h3 j hj;exact⟨s,A,n,c,by rw[cell_of_row w g _ _ _ _ h1,c1],by rw[cell_of_row w g _ _ _ _ h1,c2],c3,c4⟩
theorem b_l (w:World)(g o:Nat)(s:Bool)(A:Option Addr)(n c:Nat):w.grownBy (zputo w g o s A n c) (some g):=by
 unfold zputo;exact b_e (q:=⟨g,o+1,none⟩) (b_e (q:=⟨g,o,none⟩) (a_8 w (some g)) rfl _) rfl _
theorem l_9 (l:List Int)(j i:Nat)(z:Int)(hj:j<l.length):ith (l.set j z) i=if i=j then z else ith l i:=by
 by_cases e:i=j
 ·subst e;rw[if_pos rfl];simp[ith,List.getD,hj]
 ·rw[if_neg e];simp[ith,List.getD,List.getElem?_set_ne (Ne.symm e)]
theorem ZB.put (h:ZB w g k zs){j n c:Nat}(hj:j<zs.length){s:Bool}{A:Option Addr}{z:Int}(hz:Zc w s A n c z)(hn:n≤k):ZB (zputo w g (j*2) s A n c) g k (zs.set j z):=by
 have hno:=h.now;have hgr:=b_l w g (j*2) s A n c;obtain⟨cs,h1,h2,h3⟩:=h;refine⟨(cs.setIfInBounds (j*2) (.bool s)).setIfInBounds (j*2+1) (.slice A n c), ?_,by simp[h2],fun i hi=>?_⟩
 ·unfold zputo;rw[heap_setCell_same _ g _ _ _ _ (heap_setCell_same w g _ _ _ _ h1)]
 ·rw[List.length_set]at hi;by_cases e:i=j
  ·subst e;refine⟨s,A,n,c, ?_, ?_, ?_,hn⟩
   ·rw[Array.getElem?_setIfInBounds_ne (by omega),Array.getElem?_setIfInBounds_self_of_lt (by omega)]
   ·rw[Array.getElem?_setIfInBounds_self_of_lt (by simp;omega)]
   ·rw[l_9 _ _ _ _ hj,if_pos rfl];exact hz.gro hno hgr
  ·obtain⟨s',A',n',c',c1,c2,c3,c4⟩:=h3 i hi;refine⟨s',A',n',c', ?_, ?_, ?_,c4⟩
   ·rw[Array.getElem?_setIfInBounds_ne (by omega),Array.getElem?_setIfInBounds_ne (by omega)];exact c1
   ·rw[Array.getElem?_setIfInBounds_ne (by omega),Array.getElem?_setIfInBounds_ne (by omega)];exact c2
   ·rw[l_9 _ _ _ _ hj,if_neg e];exact c3.gro hno hgr
theorem ZB.zl (h:ZB w g k zs)(q:Bool){o n c:Nat}(hn:o+n≤zs.length)(hc:n≤c)(hm:c≤9223372036854775807):ZL q w (some ⟨g,o*2,none⟩) n c k ((zs.drop o).take n):=by
 refine⟨by rw[List.length_take,List.length_drop];omega,hc,hm,fun h0=>⟨_,rfl,h.lt,fun j hj=>?_⟩⟩;rw[b_z,←Nat.add_mul];obtain⟨s,A,n',c',c1,c2,c3,c4⟩:=h.cells (j:=o+j) (by omega);refine⟨s,A,n',c',c1,c2,.of ?_,c4⟩;rw[g_e hj,g_f];exact c3
theorem ZB.zl0 (h:ZB w g k zs)(q:Bool){n c:Nat}(hn:n≤zs.length)(hc:n≤c)(hm:c≤9223372036854775807):ZL q w (some ⟨g,0,none⟩) n c k (zs.take n):=by
 have:=h.zl q (o:=0) (by omega) hc hm;rwa [List.drop_zero,Nat.zero_mul]at this
end
theorem info_zint:(Tryz.prog.info? 37).map (fun i=>(i.zero,i.size,i.bytes))=some (some (.agg #[.bool false,.slice none 0 0]),2,32):=by kernel_rfl
theorem Zc.nought (w:World):Zc w false none 0 0 0:=by
 have e:cn 18446744073709551616 (Int.natAbs 0)=[]:=c_4 _;refine⟨?_,Lib.hid (by decide)⟩;unfold Cv;rw[e];exact⟨Rd.nil _ _ _,rfl,by omega,by omega⟩
theorem ZB.made (w:World)(n:Nat):ZB (w.alloc (.cells (madeCells #[.bool false,.slice none 0 0] (n*2)) 37)) w.heap.size 0 (List.replicate n 0):=by
 refine⟨_,heap_alloc_new w _,by simp[size_madeCells],fun j hj=>?_⟩;rw[List.length_replicate]at hj;refine⟨false,none,0,0, ?_, ?_, ?_,Nat.le_refl _⟩
 ·rw[Array.getElem?_eq_some_iff];refine⟨by rw[size_madeCells];omega, ?_⟩;simp[madeCells]
 ·rw[Array.getElem?_eq_some_iff];refine⟨by rw[size_madeCells];omega, ?_⟩;have:(j*2+1)%2=1:=by omega
  simp[madeCells,this]
 ·rw[show ith (List.replicate n 0) j=0 by simp[ith,List.getD,hj]];exact Zc.nought _
end
section
open Go.RowKit
structure Zr where
 s:Bool
 A:Option Addr
 n:Nat
 c:Nat
 z:Int
def nzr:Zr:=⟨false,none,0,0,0⟩
structure RL (w:World) (A:Option Addr) (n c:Nat) (R:List Zr):Prop where
 len:R.length=n
 le:n≤c
 cap:c≤9223372036854775807
 at':0<n→∃ad,A=some ad∧ad.block<w.heap.size∧∀j,j<n→w.cell? (ad.add (j*2))=some (.bool (R.getD j nzr).s)∧w.cell? ⟨(ad.add (j*2)).block,(ad.add (j*2)).off+1,none⟩=some (.slice (R.getD j nzr).A (R.getD j nzr).n (R.getD j nzr).c)
 num:∀x,x∈R→Zv w x.s x.A x.n x.c x.z
theorem RL.below {w w':World}{A:Option Addr}{n c:Nat}{R:List Zr}(h:RL w A n c R)(hb:Below w.heap.size w w'):RL w' A n c R:=⟨h.len,h.le,h.cap,fun h0=>by
 obtain⟨ad,rfl,h1,h2⟩:=h.at' h0;exact⟨ad,rfl,Nat.lt_of_lt_of_le h1 hb.size,fun j hj=>⟨(hb.cell (by rw[a_b];exact h1)).trans (h2 j hj).1,(hb.cell (p:=⟨(ad.add (j*2)).block,(ad.add (j*2)).off+1,none⟩) (by show(ad.add (j*2)).block<_;rw[a_b];exact h1)).trans (h2 j hj).2⟩⟩,fun x hx=>(h.num x hx).below hb⟩
def nums (R:List Zr):List Int:=R.map (·.z)
theorem RL.zl {w:World}{A:Option Addr}{n c k:Nat}{R:List Zr}(h:RL w A n c R)(hk:∀j,j<n→(R.getD j nzr).n≤k):ZL false w A n c k (nums R):=⟨by unfold nums;rw[List.length_map];exact h.len,h.le,h.cap,fun h0=>by
 obtain⟨ad,rfl,h1,h2⟩:=h.at' h0;refine⟨ad,rfl,h1,fun j hj=>?_⟩;have hl:j<R.length:=by rw[h.len];exact hj
 have e:R.getD j nzr=R[j]:=by simp[List.getD,hl]
 have e2:ith (nums R) j=R[j].z:=by simp[ith,nums,List.getD,hl]
 obtain⟨c1,c2⟩:=h2 j hj;refine⟨_,_,_,_,c1,c2,⟨?_,fun e=>nomatch e⟩,hk j hj⟩;rw[e,e2];exact h.num _ (List.getElem_mem hl)⟩
def Fw (R:List Zr)(N W:Nat):Prop:=R.length≤N∧∀j,j<R.length→j<100→(R.getD j nzr).n≤W
theorem t_k {R:List Zr}{N W:Nat}(h:Fw R N W)(hN:N≤100)(j:Nat)(hj:j<R.length):(R.getD j nzr).n≤W:=h.2 j hj (by have:=h.1;omega)
instance (R:List Zr)(N W:Nat):Decidable (Fw R N W):=by unfold Fw;infer_instance
def fwb (R:List Zr)(N W:Nat):Bool:=decide (Fw R N W)
theorem j_h {R:List Zr}{N W:Nat}(h:Fw R N W):fwb R N W=true:=by unfold fwb;exact decide_eq_true h
theorem e_y {R:List Zr}{N W:Nat}(h:¬Fw R N W):fwb R N W=false:=by unfold fwb;exact decide_eq_false h
theorem s_0 {R:List Zr}{N W:Nat}(h:fwb R N W=true):Fw R N W:=by unfold fwb at h;exact of_decide_eq_true h
theorem n_r {A:Option Addr}{n c N W:Nat}{R:List Zr}{b:Bool}{w:World}(hx:RL w A n c R)(hN:N≤1000)(hW':W≤1000)(hb:fwb R N W=b):
  Calls Tryz.prog 34 #[.slice A n c,.int .i64 (N:Int),.int .i64 (W:Int)] w (fun e w'=>e= .returned (.bool b)∧Below w.heap.size w w'):=by
 have HX0:=Lib.hid hx;have HN:=Lib.hid hx.len;have Hb:=Lib.hid hb;have hnc:=hx.le;have hcm:=hx.cap;clear hx hb;go_enter Tryz.func34,Tryz.ntmps34
 go_wp2_with fail
 go_loopw [7] (fun s7 wr=>∃j:Nat,s7= .int .i64 (j:Int)∧j≤n∧Hid (∀i,i<j→(R.getD i nzr).n≤W)∧wr=w) (fun s7 _=>n - (intOf s7).toNat)
 case atStart=>exact⟨0,rfl,Nat.zero_le _,Lib.hid fun i hi=>by omega,rfl⟩
 case round=>
  obtain⟨j,rfl,hj,HE,rfl⟩:=hrel;by_cases hlt:j<n
  ·have u2:(j:Int)<(n:Int):=by omega
   by_cases h100:j<100
   ·have u3:(j:Int)<100:=by omega
    have u1:(0:Int)≤(j:Int):=by omega
    obtain⟨ad,rfl,hab,hc⟩:=HX0.out.at' (by omega);obtain⟨c1,c2⟩:=hc j hlt;obtain⟨x,hx⟩:∃x,R.getD j nzr=x:=⟨_,rfl⟩;rw[hx]at c1 c2;have HX:=Lib.hid hx;clear hc hab hx;by_cases hw:x.n≤W
    ·have u4:¬(W:Int)<(x.n:Int):=by omega
     have HE2:Hid (∀i,i<j+1→(R.getD i nzr).n≤W):=Lib.hid fun i hi=>by
      rcases Nat.lt_or_ge i j with h|h
      ·exact HE.out i h
      ·rw[show i=j by omega,HX.out];exact hw
     clear hw
     go_wp2_with fail
     go_roundw
     case rel=>exact⟨j+1,by go_num,by omega,HE2,trivial⟩
     case measure=>first|(simp[intOf];done)|(simp[intOf];omega)
    ·have u4:(W:Int)<(x.n:Int):=by omega
     have hbf:b=false:=by
      rw[←Hb.out];exact e_y fun h=>hw (by rw[←HX.out];exact h.2 j (by rw[HN.out];exact hlt) h100)
     have HBF:=Lib.hid hbf;clear hbf hw
     go_wp2_with fail
     exact bodyPost_ret (v:=.bool false) (by simp[results,Tryz.results34,go_sem]) rfl ⟨by rw[HBF.out],Below.refl _ _⟩
   ·have u3:¬(j:Int)<100:=by omega
    obtain⟨t,ht⟩:∃t,decide ((n:Int)≤(N:Int))=t:=⟨_,rfl⟩;have hbt:b=t:=by
     rw[←Hb.out,←ht];by_cases hnN:n≤N
     ·rw[decide_eq_true (by omega)];exact j_h ⟨by rw[HN.out];exact hnN,fun i hi h1=>HE.out i (by omega)⟩
     ·rw[decide_eq_false (by omega)];exact e_y fun h=>hnN (by have:=h.1;rw[HN.out]at this;exact this)
    have HBT:=Lib.hid hbt;have HTT:=Lib.hid ht;clear hbt ht
    go_wp2_with fail
    exact bodyPost_ret (v:=.bool (decide ((n:Int)≤(N:Int)))) (by simp[results,Tryz.results34,go_sem]) rfl ⟨by rw[HBT.out,HTT.out],Below.refl _ _⟩
  ·obtain rfl:j=n:=by omega
   have u3:¬(j:Int)<(j:Int):=by omega
   obtain⟨t,ht⟩:∃t,decide ((j:Int)≤(N:Int))=t:=⟨_,rfl⟩;have hbt:b=t:=by
    rw[←Hb.out,←ht];by_cases hnN:j≤N
    ·rw[decide_eq_true (by omega)];exact j_h ⟨by rw[HN.out];exact hnN,fun i hi h1=>HE.out i (by rw[HN.out]at hi;exact hi)⟩
    ·rw[decide_eq_false (by omega)];exact e_y fun h=>hnN (by have:=h.1;rw[HN.out]at this;exact this)
   have HBT:=Lib.hid hbt;have HTT:=Lib.hid ht;clear hbt ht
   go_wp2_with fail
   exact bodyPost_ret (v:=.bool (decide ((j:Int)≤(N:Int)))) (by simp[results,Tryz.results34,go_sem]) rfl ⟨by rw[HBT.out,HTT.out],Below.refl _ _⟩
end
section
open Go.Joins Go.ChangeShapes Go.WideShapes Go.RowKit Go.Deep
section
variable {H:Type}{enc:TypeId × Value→H}{P:Program}{W:World}{base:Nat}{held:Bool}
theorem q_v {t e:TypeId}{f0 f1:Field}{q:TypeId}{A:Option Addr}{n c:Nat}{d:DataW H}{ps:List MemPlace}(ht:P.underlying t=some (.slice e))(he:P.underlying e=some (.struct #[f0,f1]))(hone:oneCellFields P #[f0,f1]=true)(hC:P.cellsOf e=2)
  (hb:P.underlying f0.type=some .bool) (hs:P.underlying f1.type=some (.slice q)) (hq:P.underlying q=some (.int .u64)) (hc:P.cellsOf q=1)
  (h:DataW.Trod enc P W base (fun _=>true) held t (.slice A n c) d ps) (hlt:∀x∈ps,x.block<W.heap.size):
  ∃R:List Zr,RL W A n c R:=by
 obtain⟨fuel,hf⟩:=h;rcases open_slice ht hf with⟨hcs,hx⟩|⟨a,len,cap,m,n',D,Pl,hcs,hb0,hl,hm,hmm,hx,hi⟩
 ·simp[Value.cells]at hcs;obtain⟨rfl,rfl,rfl⟩:=hcs;exact⟨[],rfl,Nat.le_refl _,by omega,fun h=>by omega,fun x hx=>(by cases hx)⟩
 ·simp[Value.cells]at hcs;obtain⟨rfl,rfl,rfl⟩:=hcs;simp only[if_true]at hmm;subst hmm;rw[hC]at hi hx;have each:∀i,i<m→∃y:Zr,W.cell? (a.add (i*2))=some (.bool y.s)∧W.cell? ⟨(a.add (i*2)).block,(a.add (i*2)).off+1,none⟩=some (.slice y.A y.n y.c)∧Zv W y.s y.A y.n y.c y.z:=by
   intro i him;obtain⟨cs',h1,h2⟩:=hi i him;obtain⟨_,h3,h4⟩:=World.cells?_some h1;obtain⟨xs,n'',_,hy,_,hlen,hg⟩:=DataW.trod_struct he h2;obtain⟨o0,k0⟩:=hone_of hone 0 f0 rfl;obtain⟨o1,k1⟩:=hone_of hone 1 f1 rfl;match cs',h3 with
   | [v0,v1],_=>
    match xs,hlen with
    | [y0,y1],_=>
     have g0:=hg 0 f0 rfl;have g1:=hg 1 f1 rfl;rw[o0,k0]at g0;rw[o1,k1]at g1;simp at g0 g1;have c0:W.cell? (a.add (i*2))=some v0:=by have:=h4 0 (by omega);simpa [Addr.add] using this
     have c1:W.cell? ⟨(a.add (i*2)).block,(a.add (i*2)).off+1,none⟩=some v1:=by have:=h4 1 (by omega);simpa [Addr.add] using this
     simp only[Prod.mk.injEq]at hy;obtain⟨s,hs0,_⟩:=DataW.trod_bool hb g0;have hs0:v0= .bool s:=by simpa using hs0
     subst hs0;rcases open_ints hs hq hc g1 with⟨hcs,hz⟩|⟨x,l,c,zs,hcs,_,hl',hm',hz,hdat,hcell,hwz⟩
     ·have hcs:v1= .slice none 0 0:=by simpa using hcs
      subst hcs;obtain⟨v,hv⟩:=(show IsRow .u64 W none 0 0 []from .inl ⟨rfl,rfl,rfl,rfl⟩).nv;exact⟨⟨s,none,0,0,sg s v⟩,c0,c1,⟨v,hv,Lib.hid rfl⟩⟩
     ·have hcs:v1= .slice (some x) l c:=by simpa using hcs
      subst hcs;obtain⟨v,hv⟩:=(show IsRow .u64 W (some x) l c zs from .inr ⟨_,rfl,hl',hm',by simpa using hz,hcell,hwz⟩).nv;exact⟨⟨s,some x,l,c,sg s v⟩,c0,c1,⟨v,hv,Lib.hid rfl⟩⟩
  haveI:Inhabited Zr:=⟨nzr⟩
  obtain⟨y,hy⟩:=choose_lt each;have hg:∀j,j<n→((List.range n).map y).getD j nzr=y j:=fun j hj=>by simp[List.getD,hj]
  refine⟨(List.range n).map y,by simp,(by first|omega|(simp only[maxLen]at*;omega)),(by first|omega|(simp only[maxLen]at*;omega)),fun h0=>⟨a,rfl, ?_,fun j hj=>?_⟩,fun x hx=>?_⟩
  ·have h1:=(hy 0 (by omega)).1
   have:=World.block_lt_of_cell? W _ h1;rwa [a_b]at this
  ·rw[hg j hj]
   have:=hy j (by omega);exact⟨this.1,this.2.1⟩
  ·obtain⟨j,hj,rfl⟩:=List.mem_map.1 hx;exact(hy j (by have:=List.mem_range.1 hj;omega)).2.2
end
end
section
open Go.Joins Go.ChangeShapes Go.WideShapes Go.RowKit Go.Deep
section
variable {H:Type}{enc:TypeId × Value→H}{P:Program}{W:World}{base:Nat}{held:Bool}
theorem c_q {r:Reach}{b0:Nat}{t e:TypeId}{f0 f1 f2 g0 g1:Field}{q:TypeId}{v:Value}{d:DataW H}{ps:List MemPlace}(ht:P.underlying t=some (.struct #[f0,f1,f2]))(hone:oneCellFields P #[f0,f1,f2]=true)(hC:P.cellsOf t=3)
  (h0:P.underlying f0.type=some (.int .i64)) (h1:P.underlying f1.type=some (.int .i64)) (h2:P.underlying f2.type=some (.slice e)) (he:P.underlying e=some (.struct #[g0,g1])) (hone2:oneCellFields P #[g0,g1]=true) (hC2:P.cellsOf e=2)
  (hb:P.underlying g0.type=some .bool) (hs:P.underlying g1.type=some (.slice q)) (hq:P.underlying q=some (.int .u64)) (hc:P.cellsOf q=1)
  (hv:Value.okWide P W r b0 t v) (h:DataW.Trod enc P W base (fun _=>true) held t v d ps) (hlt:∀x∈ps,x.block<W.heap.size):
  ∃(x y:Int) (A:Option Addr) (n c:Nat) (R:List Zr),v= .agg #[.int .i64 x,.int .i64 y,.slice A n c]∧RL W A n c R:=by
 obtain⟨v0,v1,v2,y0,y1,y2,m,rfl,_,hp,k0,k1,k2⟩:=open_agg3 ht hone hC hv h;obtain⟨x,hx,_,_⟩:=DataW.trod_int h0 k0;obtain⟨y,hy,_,_⟩:=DataW.trod_int h1 k1;have hl2:∀x∈y2.2,x.block<W.heap.size:=fun x hx=>hlt x (by rw[hp];simp[hx]);have hsl:∃A n c,v2= .slice A n c:=by
  rcases open_slice h2 k2 with⟨hcs,_⟩|⟨a,len,cap,m,n',D,Pl,hcs,_⟩
  ·exact⟨none,0,0,by simpa using hcs⟩
  ·exact⟨some a,len,cap,by simpa using hcs⟩
 obtain⟨A,n,c,rfl⟩:=hsl;obtain⟨R,hR⟩:=q_v (d:=y2.1) (ps:=y2.2) h2 he hone2 hC2 hb hs hq hc ⟨m,by simpa [Value.cells] using k2⟩ hl2;simp at hx hy;subst hx hy;exact⟨x,y,A,n,c,R,rfl,hR⟩
end
end
section
open Go.RowKit
def NWd (u:Value):Prop:=∀m:Int,u≠ .int .u64 m
section
variable {P:Program}(w:World)
end
structure Grew (w w':World) (v v':Value):Prop where
 by':w.grownBy w' v.ownBlock
 now:∀g,v.ownBlock=some g→Wless w g
 to':v'.ownBlock=v.ownBlock∨v'.ownBlock=some w.heap.size
end
section
open Go.RowKit
structure Shut (p:Prop):Prop where
 out:p
end
end Go.Proofs.YtgohglhefhocgaaGreat
