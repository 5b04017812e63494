/- Pq13 -/
import Derived.Test.YtfhbdlegkdbmfaaGreatPq12
import Derived.IntWalk
import Derived.Laws.AppendOwn
set_option linter.unusedVariables false
set_option linter.unusedSimpArgs false
set_option linter.unusedSectionVars false
set_option maxRecDepth 100000
set_option maxHeartbeats 8000000
namespace Go.Proofs.YtfhbdlegkdbmfaaGreat
section
open Go.RowKit
theorem a_j (a:Addr):a.add 0=a:=by
 obtain⟨b,o,i⟩:=a;cases i<;>rfl
theorem h_n {w w':World}(h:Below w.heap.size w w')(r:Option Nat):w.grownBy w' r:=⟨h.os,h.tape,h.output,h.size,fun k hk _=>h.block k hk⟩
theorem a_m (w:World)(r:Option Nat):w.grownBy w r:=h_n (Below.refl _ _) r
theorem c_d {a b c:World}{r:Option Nat}(h:a.grownBy b r)(k:b.grownBy c r):a.grownBy c r:=
 ⟨k.os.trans h.os,k.tape.trans h.tape,k.output.trans h.output,Nat.le_trans h.size k.size,fun i hi hn=>(k.block i (Nat.lt_of_lt_of_le hi h.size) hn).trans (h.block i hi hn)⟩
theorem a_d {w w':World}{g:Nat}{q:Addr}(h:w.grownBy w' (some g))(hq:q.block=g)(u:Value):w.grownBy (w'.setCell q u) (some g):=by
 obtain⟨b,o,n⟩:=q;exact⟨h.os,h.tape,h.output,by simpa using h.size,fun k hk hne=>(Below.heap_setCell _ _ _ _ (fun e=>hne (by rw[e];simp only at hq ⊢;rw[hq]))).trans (h.block k hk hne)⟩
theorem a_c {w0 w w':World}{g:Nat}(hb:Below w0.heap.size w0 w)(h:w.grownBy w' (some g))(hg:w0.heap.size<=g):Below w0.heap.size w0 w':=
 hb.trans ⟨h.os,h.tape,h.output,h.size,fun k hk=>h.block k (by have:=hb.size;omega) (fun e=>by have:=Option.some.inj e;omega)⟩
def Wless (w:World)(g:Nat):Prop:=∀(p:Addr) (m:Int),p.block=g->w.cell? p≠some (.int .u64 m)
theorem Rd.gro {w w':World}{A:Option Addr}{xs:List Nat}{g:Nat}(h:Rd w .u64 A xs)(hn:Wless w g)(hg:w.grownBy w' (some g)):Rd w' .u64 A xs:=fun h0=>by
 have h1:=h;obtain⟨ad,rfl,hlt,hc⟩:=h h0;refine(h1.grown hg fun ad' e e2=>?_) h0;cases e;obtain rfl:ad.block=g:=Option.some.inj e2;exact hn _ _ (by rw[a_b]) (hc 0 h0)
theorem Cv.gro {w w':World}{A:Option Addr}{n c x g:Nat}(h:Cv w A n c x)(hn:Wless w g)(hg:w.grownBy w' (some g)):Cv w' A n c x:=⟨h.1.gro hn hg,h.2⟩
theorem Nv.gro {w w':World}{A:Option Addr}{n c x g:Nat}(h:Nv w A n c x)(hn:Wless w g)(hg:w.grownBy w' (some g)):Nv w' A n c x:=by
 obtain⟨xs,h1,h2⟩:=h;exact⟨xs,h1.gro hn hg,h2⟩
theorem Zv.gro {w w':World}{s:Bool}{A:Option Addr}{n c g:Nat}{z:Int}(h:Zv w s A n c z)(hn:Wless w g)(hg:w.grownBy w' (some g)):Zv w' s A n c z:=by
 obtain⟨v,h1,h2⟩:=h;exact⟨v,h1.gro hn hg,h2⟩
theorem Zc.gro {w w':World}{s:Bool}{A:Option Addr}{n c g:Nat}{z:Int}(h:Zc w s A n c z)(hn:Wless w g)(hg:w.grownBy w' (some g)):Zc w' s A n c z:=⟨h.1.gro hn hg,h.2⟩
def Ze (q:Bool)(w:World)(s:Bool)(A:Option Addr)(n c:Nat)(z:Int):Prop:=Zv w s A n c z/\(q=true->Zc w s A n c z)
section
variable {q:Bool}{w w':World}{s:Bool}{A:Option Addr}{n c g:Nat}{z:Int}
theorem Ze.below (h:Ze q w s A n c z)(hb:Below w.heap.size w w'):Ze q w' s A n c z:=⟨h.1.below hb,fun e=>(h.2 e).below hb⟩
theorem Ze.gro (h:Ze q w s A n c z)(hn:Wless w g)(hg:w.grownBy w' (some g)):Ze q w' s A n c z:=⟨h.1.gro hn hg,fun e=>(h.2 e).gro hn hg⟩
theorem Ze.of (h:Zc w s A n c z):Ze q w s A n c z:=⟨h.zv,fun _=>h⟩
end
def ZAt (q:Bool)(w:World)(p:Addr)(k:Nat)(z:Int):Prop:=
 ∃s A n c,w.cell? p=some (.bool s)/\w.cell? ⟨p.block,p.off+1,none⟩=some (.slice A n c)/\Ze q w s A n c z/\n<=k
theorem r_e {w:World}{p:Addr}{s:Bool}{A:Option Addr}{n c:Nat}(h0:w.cell? p=some (.bool s))(h1:w.cell? ⟨p.block,p.off+1,none⟩=some (.slice A n c)):
  (Instr.loadAt 31 (.pointer (some p))).run Tryz.prog w= .ok (.agg #[.bool s,.slice A n c]) w:=by
 simp[go_sem,Addr.add,h0,h1]
structure ZL (q:Bool) (w:World) (A:Option Addr) (n c k:Nat) (zs:List Int):Prop where
 len:zs.length=n
 le:n<=c
 cap:c<=9223372036854775807
 at':0<n->∃ad,A=some ad/\ad.block<w.heap.size/\∀j,j<n->ZAt q w (ad.add (j*2)) k (ith zs j)
section
variable {q:Bool}{w w':World}{A:Option Addr}{n c k g:Nat}{zs:List Int}
theorem ZAt.below {p:Addr}{z:Int}(h:ZAt q w p k z)(hp:p.block<w.heap.size)(hb:Below w.heap.size w w'):ZAt q w' p k z:=by
 obtain⟨s,A,n,c,h1,h2,h3,h4⟩:=h;exact⟨s,A,n,c,(hb.cell hp).trans h1,(hb.cell (p:=⟨p.block,p.off+1,none⟩) hp).trans h2,h3.below hb,h4⟩
theorem ZAt.gro {p:Addr}{z:Int}(h:ZAt q w p k z)(hp:p.block<w.heap.size)(hne:p.block≠g)(hn:Wless w g)(hg:w.grownBy w' (some g)):ZAt q w' p k z:=by
 obtain⟨s,A,n,c,h1,h2,h3,h4⟩:=h;have e:=hg.block p.block hp (fun e=>hne (Option.some.inj e));exact⟨s,A,n,c,(World.cell?_of_block e).trans h1,(World.cell?_of_block (a:=⟨p.block,p.off+1,none⟩) e).trans h2,h3.gro hn hg,h4⟩
theorem ZAt.mono {p:Addr}{z:Int}{k':Nat}(h:ZAt q w p k z)(hk:k<=k'):ZAt q w p k' z:=by
 obtain⟨s,A,n,c,h1,h2,h3,h4⟩:=h;exact⟨s,A,n,c,h1,h2,h3,Nat.le_trans h4 hk⟩
theorem ZL.nil (q:Bool)(w:World)(k:Nat):ZL q w none 0 0 k []:=⟨rfl,Nat.le_refl _,by omega,fun h=>by omega⟩
theorem ZL.below (h:ZL q w A n c k zs)(hb:Below w.heap.size w w'):ZL q w' A n c k zs:=⟨h.len,h.le,h.cap,fun h0=>by
 obtain⟨ad,rfl,h1,h2⟩:=h.at' h0;exact⟨ad,rfl,Nat.lt_of_lt_of_le h1 hb.size,fun j hj=>(h2 j hj).below (by rw[a_b];exact h1) hb⟩⟩
theorem ZL.gro (h:ZL q w A n c k zs)(hne:∀ad,A=some ad->ad.block≠g)(hn:Wless w g)(hg:w.grownBy w' (some g)):ZL q w' A n c k zs:=⟨h.len,h.le,h.cap,fun h0=>by
 obtain⟨ad,rfl,h1,h2⟩:=h.at' h0;exact⟨ad,rfl,Nat.lt_of_lt_of_le h1 hg.size,fun j hj=>(h2 j hj).gro (by rw[a_b];exact h1) (by rw[a_b];exact hne ad rfl) hn hg⟩⟩
theorem ZL.mono {k':Nat}(h:ZL q w A n c k zs)(hk:k<=k'):ZL q w A n c k' zs:=⟨h.len,h.le,h.cap,fun h0=>by
 obtain⟨ad,rfl,h1,h2⟩:=h.at' h0;exact⟨ad,rfl,h1,fun j hj=>(h2 j hj).mono hk⟩⟩
theorem ZL.weak (h:ZL q w A n c k zs):ZL false w A n c k zs:=⟨h.len,h.le,h.cap,fun h0=>by
 obtain⟨ad,rfl,h1,h2⟩:=h.at' h0;refine⟨ad,rfl,h1,fun j hj=>?_⟩;obtain⟨s,A,n,c,h1,h2,h3,h4⟩:=h2 j hj;exact⟨s,A,n,c,h1,h2,⟨h3.1,fun e=>by cases e⟩,h4⟩⟩
theorem ZL.at (h:ZL q w A n c k zs){j:Nat}(hj:j<n):∃ad,A=some ad/\ad.block<w.heap.size/\ZAt q w (ad.add (j*2)) k (ith zs j):=by
 obtain⟨ad,e,h1,h2⟩:=h.at' (by omega);exact⟨ad,e,h1,h2 j hj⟩
theorem ZL.elem {ad:Addr}(h:ZL q w (some ad) n c k zs){j:Nat}(hj:j<n):ZAt q w (ad.add (j*2)) k (ith zs j):=by
 obtain⟨ad',e,h1,h2⟩:=h.at' (by omega);cases e;exact h2 j hj
theorem s_q {l:List Int}{m j:Nat}(h:j<m):ith (l.take m) j=ith l j:=by simp[ith,List.getD,h]
theorem s_r (l:List Int)(m j:Nat):ith (l.drop m) j=ith l (m+j):=by simp[ith,List.getD,List.getElem?_drop]
end
def ZB (w:World)(g k:Nat)(zs:List Int):Prop:=
 ∃cs:Array Value,w.heap[g]? =some (.cells cs 31 (0,0))/\cs.size=zs.length*2/\∀j,j<zs.length->∃s A n c,cs[j*2]? =some (.bool s)/\cs[j*2+1]? =some (.slice A n c)/\Zc w s A n c (ith zs j)/\n<=k
def zputo (w:World)(g o:Nat)(s:Bool)(A:Option Addr)(n c:Nat):World:=(w.setCell ⟨g,o,none⟩ (.bool s)).setCell ⟨g,o+1,none⟩ (.slice A n c)
section
variable {w w':World}{g k b:Nat}{zs:List Int}
theorem ZB.lt (h:ZB w g k zs):g<w.heap.size:=by
 obtain⟨cs,h1,_⟩:=h;exact(Array.getElem?_eq_some_iff.1 h1).1
theorem ZB.now (h:ZB w g k zs):Wless w g:=fun p m hp e=>by
 obtain⟨cs,h1,h2,h3⟩:=h;have e2:cs[p.off]? =some (.int .u64 m):=by
  have:=e;unfold World.cell? at this;rw[hp,h1]at this;exact(by simpa using this:p.spot=none/\cs[p.off]? =some (.int .u64 m)).2
 have hlt:p.off<cs.size:=(Array.getElem?_eq_some_iff.1 e2).1;rw[h2]at hlt;obtain⟨s,A,n,c,c1,c2,_⟩:=h3 (p.off / 2) (by omega);rcases(by omega:p.off=p.off / 2*2\/p.off=p.off / 2*2+1)with ho|ho
 ·rw[ho,c1]at e2;cases e2
 ·rw[ho,c2]at e2;cases e2
theorem ZB.below (h:ZB w g k zs)(hb:Below w.heap.size w w'):ZB w' g k zs:=by
 have hl:=h.lt;obtain⟨cs,h1,h2,h3⟩:=h;refine⟨cs,(hb.block g hl).trans h1,h2,fun j hj=>?_⟩;obtain⟨s,A,n,c,c1,c2,c3,c4⟩:=h3 j hj;exact⟨s,A,n,c,c1,c2,c3.below hb,c4⟩
theorem ZB.gro (h:ZB w g k zs)(hne:g≠b)(hn:Wless w b)(hg:w.grownBy w' (some b)):ZB w' g k zs:=by
 have hl:=h.lt;obtain⟨cs,h1,h2,h3⟩:=h;refine⟨cs,(hg.block g hl (fun e=>hne (Option.some.inj e))).trans h1,h2,fun j hj=>?_⟩;obtain⟨s,A,n,c,c1,c2,c3,c4⟩:=h3 j hj;exact⟨s,A,n,c,c1,c2,c3.gro hn hg,c4⟩
theorem ZB.mono {k':Nat}(h:ZB w g k zs)(hk:k<=k'):ZB w g k' zs:=by
 obtain⟨cs,h1,h2,h3⟩:=h;refine⟨cs,h1,h2,fun j hj=>?_⟩;obtain⟨s,A,n,c,c1,c2,c3,c4⟩:=h3 j hj;exact⟨s,A,n,c,c1,c2,c3,Nat.le_trans c4 hk⟩
theorem ZB.cells (h:ZB w g k zs){j:Nat}(hj:j<zs.length):∃s A n c,w.cell? ⟨g,j*2,none⟩=some (.bool s)/\w.cell? ⟨g,j*2+1,none⟩=some (.slice A n c)/\Zc w s A n c (ith zs j)/\n<=k:=by
 obtain⟨cs,h1,h2,h3⟩:=h;obtain⟨s,A,n,c,c1,c2,c3,c4⟩:=h3 j hj;exact⟨s,A,n,c,by rw[cell_of_row w g _ _ _ _ h1,c1],by rw[cell_of_row w g _ _ _ _ h1,c2],c3,c4⟩
theorem ZB.free (h:ZB w g k zs)(j:Nat):w.frozen? ⟨g,j,none⟩=false:=by
 obtain⟨cs,h1,h2,h3⟩:=h;exact frozen_of_row w g j _ _ h1
theorem c_2 (w:World)(g o:Nat)(s:Bool)(A:Option Addr)(n c:Nat):w.grownBy (zputo w g o s A n c) (some g):=by
 unfold zputo;exact a_d (q:=⟨g,o+1,none⟩) (a_d (q:=⟨g,o,none⟩) (a_m w (some g)) rfl _) rfl _
theorem p_q (l:List Int)(j i:Nat)(z:Int)(hj:j<l.length):ith (l.set j z) i=if i=j then z else ith l i:=by
 by_cases e:i=j
 ·subst e;rw[if_pos rfl];simp[ith,List.getD,hj]
 ·rw[if_neg e];simp[ith,List.getD,List.getElem?_set_ne (Ne.symm e)]
theorem ZB.put (h:ZB w g k zs){j n c:Nat}(hj:j<zs.length){s:Bool}{A:Option Addr}{z:Int}(hz:Zc w s A n c z)(hn:n<=k):ZB (zputo w g (j*2) s A n c) g k (zs.set j z):=by
 have hno:=h.now;have hgr:=c_2 w g (j*2) s A n c;obtain⟨cs,h1,h2,h3⟩:=h;refine⟨(cs.setIfInBounds (j*2) (.bool s)).setIfInBounds (j*2+1) (.slice A n c), ?_,by simp[h2],fun i hi=>?_⟩
 ·unfold zputo;rw[heap_setCell_same _ g _ _ _ _ (heap_setCell_same w g _ _ _ _ h1)]
 ·rw[List.length_set]at hi;by_cases e:i=j
  ·subst e;refine⟨s,A,n,c, ?_, ?_, ?_,hn⟩
   ·rw[Array.getElem?_setIfInBounds_ne (by omega),Array.getElem?_setIfInBounds_self_of_lt (by omega)]
   ·rw[Array.getElem?_setIfInBounds_self_of_lt (by simp;omega)]
   ·rw[p_q _ _ _ _ hj,if_pos rfl];exact hz.gro hno hgr
  ·obtain⟨s',A',n',c',c1,c2,c3,c4⟩:=h3 i hi;refine⟨s',A',n',c', ?_, ?_, ?_,c4⟩
   ·rw[Array.getElem?_setIfInBounds_ne (by omega),Array.getElem?_setIfInBounds_ne (by omega)];exact c1
   ·rw[Array.getElem?_setIfInBounds_ne (by omega),Array.getElem?_setIfInBounds_ne (by omega)];exact c2
   ·rw[p_q _ _ _ _ hj,if_neg e];exact c3.gro hno hgr
theorem ZB.zl (h:ZB w g k zs)(q:Bool){o n c:Nat}(hn:o+n<=zs.length)(hc:n<=c)(hm:c<=9223372036854775807):ZL q w (some ⟨g,o*2,none⟩) n c k ((zs.drop o).take n):=by
 refine⟨by rw[List.length_take,List.length_drop];omega,hc,hm,fun h0=>⟨_,rfl,h.lt,fun j hj=>?_⟩⟩;rw[f_g,<-Nat.add_mul];obtain⟨s,A,n',c',c1,c2,c3,c4⟩:=h.cells (j:=o+j) (by omega);refine⟨s,A,n',c',c1,c2,.of ?_,c4⟩;rw[s_q hj,s_r];exact c3
theorem ZB.zl0 (h:ZB w g k zs)(q:Bool){n c:Nat}(hn:n<=zs.length)(hc:n<=c)(hm:c<=9223372036854775807):ZL q w (some ⟨g,0,none⟩) n c k (zs.take n):=by
 have:=h.zl q (o:=0) (by omega) hc hm;rwa [List.drop_zero,Nat.zero_mul]at this
end
theorem info_zint:(Tryz.prog.info? 31).map (fun i=>(i.zero,i.size,i.bytes))=some (some (.agg #[.bool false,.slice none 0 0]),2,32):=by kernel_rfl
theorem Zc.nought (w:World):Zc w false none 0 0 0:=by
 have e:cn 18446744073709551616 (Int.natAbs 0)=[]:=d_f _;refine⟨?_,Lib.hid (by decide)⟩;unfold Cv;rw[e];exact⟨Rd.nil _ _ _,rfl,by omega,by omega⟩
theorem ZB.made (w:World)(n:Nat):ZB (w.alloc (.cells (madeCells #[.bool false,.slice none 0 0] (n*2)) 31)) w.heap.size 0 (List.replicate n 0):=by
 refine⟨_,heap_alloc_new w _,by simp[size_madeCells],fun j hj=>?_⟩;rw[List.length_replicate]at hj;refine⟨false,none,0,0, ?_, ?_, ?_,Nat.le_refl _⟩
 ·rw[Array.getElem?_eq_some_iff];refine⟨by rw[size_madeCells];omega, ?_⟩;simp[madeCells]
 ·rw[Array.getElem?_eq_some_iff];refine⟨by rw[size_madeCells];omega, ?_⟩;have:(j*2+1)%2=1:=by omega
  simp[madeCells,this]
 ·rw[show ith (List.replicate n 0) j=0 by simp[ith,List.getD,hj]];exact Zc.nought _
theorem h_y {P:Program}(w:World){ops:Array Oper}{rest:List Oper}{o:Oper}{a:Act}{Q:Exit->Act->World->Prop}
  (hg:o.guard=none) (l c:Operand) (t:TypeId) (hop:o.op=Op.makeSlice t l c)
  (ht:P.underlying t=some (.slice 31)) (hinfo:(P.info? 31).map (fun i=>(i.zero,i.size,i.bytes))=some (some (.agg #[.bool false,.slice none 0 0]),2,32))
  (kl kc:IntKind) (L C:Int) (n:Nat) (hl:a.eval l= .int kl L) (hc:a.eval c= .int kc C) (hL:L=(n:Int)) (hC:C=(n:Int)) (hbytes:n<=8796093022208)
  (hK:∀w',ZB w' w.heap.size 0 (List.replicate n 0)->Below w.heap.size w w'->w'.heap.size=w.heap.size+1->wpList P ops Q rest (a.put o.dst (.slice (some ⟨w.heap.size,0,none⟩) n n)) w'):
  wpList P ops Q (o::rest) a w:=by
 subst hL hC;obtain⟨i,hi,hz0,hz1,hz2⟩:=info_parts hinfo;have hrun:=run_make (P:=P) w t 31 i (.agg #[.bool false,.slice none 0 0]) ht hi hz0 kl kc (n:Int) (n:Int) (by omega) (Int.le_refl _) (by rw[hz2];omega) (by omega);refine wpList_plain hg fun K hK'=>?_;unfold Oper.wp;simp[execOp,hop,hl,hc,hrun,Result.andThen];refine hK' _ _ (hK _ ?_ ((Below.refl _ _).alloc (Nat.le_refl _) _) (by simp));rw[hz1];exact ZB.made w n
end
section
open Go.RowKit
def Bx (w:World)(g:Nat)(T:TypeId)(cs:List Value):Prop:=w.heap[g]? =some (.cells cs.toArray T (0,0))
section
variable {w w':World}{g h:Nat}{T U:TypeId}{cs ds:List Value}
theorem Bx.lt (b:Bx w g T cs):g<w.heap.size:=(Array.getElem?_eq_some_iff.1 b).1
theorem Bx.below (b:Bx w g T cs)(hb:Below w.heap.size w w'):Bx w' g T cs:=(hb.block g b.lt).trans b
theorem Bx.cell (b:Bx w g T cs)(o:Nat):w.cell? ⟨g,o,none⟩=cs[o]? :=by
 rw[cell_of_row w g o _ _ _ b];simp
theorem Bx.free (b:Bx w g T cs)(o:Nat):w.frozen? ⟨g,o,none⟩=false:=frozen_of_row w g o _ _ b
theorem Bx.new (w:World)(T:TypeId)(cs:List Value):Bx (w.alloc (.cells cs.toArray T)) w.heap.size T cs:=heap_alloc_new w _
theorem Bx.set (b:Bx w g T cs)(o:Nat)(v:Value):Bx (w.setCell ⟨g,o,none⟩ v) g T (cs.set o v):=by
 unfold Bx;rw[heap_setCell_same w g _ _ _ _ b];simp
theorem Bx.off (b:Bx w g T cs)(hn:g≠h)(o:Nat)(v:Value):Bx (w.setCell ⟨h,o,none⟩ v) g T cs:=(Below.heap_setCell _ _ _ _ (fun e=>hn (by rw[e]))).trans b
theorem a_a (b:Bx w g T cs)(hg:w.grownBy w' (some h))(hn:g≠h):Bx w' g T cs:=(hg.block g b.lt (fun e=>hn (Option.some.inj e))).trans b
theorem boxes1 (w:World)(T:TypeId)(cs:List Value):∃w1,w.alloc (.cells cs.toArray T)=w1/\Bx w1 w.heap.size T cs/\Below w.heap.size w w1/\w1.heap.size=w.heap.size+1:=⟨_,rfl,Bx.new _ _ _,zba _ _,by simp⟩
theorem boxes2 (w:World)(T U:TypeId)(cs ds:List Value):∃w1,(w.alloc (.cells cs.toArray T)).alloc (.cells ds.toArray U)=w1/\Bx w1 w.heap.size T cs/\Bx w1 (w.heap.size+1) U ds/\Below w.heap.size w w1/\w1.heap.size=w.heap.size+1+1:=
 ⟨_,rfl,(Bx.new _ _ _).below (zba _ _),by have:=Bx.new (w.alloc (.cells cs.toArray T)) U ds;simpa using this,zba2 _ _ _,by simp⟩
theorem boxes3 (w:World)(T U V:TypeId)(cs ds es:List Value):∃w1,((w.alloc (.cells cs.toArray T)).alloc (.cells ds.toArray U)).alloc (.cells es.toArray V)=w1/\Bx w1 w.heap.size T cs/\Bx w1 (w.heap.size+1) U ds/\Bx w1 (w.heap.size+1+1) V es/\Below w.heap.size w w1/\w1.heap.size=w.heap.size+1+1+1:=by
 obtain⟨w1,h1,a,b,hb,hs⟩:=boxes2 w T U cs ds;rw[h1];obtain⟨w2,h2,c,hb2,hs2⟩:=boxes1 w1 V es;rw[hs]at c;exact⟨w2,h2,a.below hb2,b.below hb2,c,zup hb hb2,by omega⟩
theorem ldInt (b:Bx w g T cs)(o:Nat){x:Int}(hc:cs[o]? =some (.int .i64 x):=by rfl):∀w',Below w.heap.size w w'->(Instr.loadAt 3 (.pointer (some ⟨g,o,none⟩))).run Tryz.prog w'= .ok (.int .i64 x) w':=fun w' hb=>by
 have h:=(b.below hb).cell o;rw[hc]at h;simp[go_sem,a_j,h]
theorem ldSl (b:Bx w g T cs)(o:Nat){A:Option Addr}{n c:Nat}(hc:cs[o]? =some (.slice A n c):=by rfl):∀w',Below w.heap.size w w'->(Instr.loadAt 25 (.pointer (some ⟨g,o,none⟩))).run Tryz.prog w'= .ok (.slice A n c) w':=fun w' hb=>by
 have h:=(b.below hb).cell o;rw[hc]at h;simp[go_sem,a_j,h]
theorem ldNat (b:Bx w g T cs)(o:Nat){A:Option Addr}{n c:Nat}(hc:cs[o]? =some (.slice A n c):=by rfl):∀w',Below w.heap.size w w'->(Instr.loadAt 29 (.pointer (some ⟨g,o,none⟩))).run Tryz.prog w'= .ok (.slice A n c) w':=fun w' hb=>by
 have h:=(b.below hb).cell o;rw[hc]at h;simp[go_sem,a_j,h]
theorem ldBool (b:Bx w g T cs)(o:Nat){s:Bool}(hc:cs[o]? =some (.bool s):=by rfl):∀w',Below w.heap.size w w'->(Instr.loadAt 4 (.pointer (some ⟨g,o,none⟩))).run Tryz.prog w'= .ok (.bool s) w':=fun w' hb=>by
 have h:=(b.below hb).cell o;rw[hc]at h;simp[go_sem,a_j,h]
theorem ldZ (b:Bx w g T cs)(o:Nat){s:Bool}{A:Option Addr}{n c:Nat}(h0:cs[o]? =some (.bool s):=by rfl)(h1:cs[o+1]? =some (.slice A n c):=by rfl):∀w',Below w.heap.size w w'->(Instr.loadAt 31 (.pointer (some ⟨g,o,none⟩))).run Tryz.prog w'= .ok (.agg #[.bool s,.slice A n c]) w':=fun w' hb=>by
 have e0:=(b.below hb).cell o;have e1:=(b.below hb).cell (o+1);rw[h0]at e0;rw[h1]at e1;exact i_d e0 e1
theorem ldM (b:Bx w g T cs)(o:Nat){r c:Int}{A:Option Addr}{n d:Nat}(h0:cs[o]? =some (.int .i64 r):=by rfl)(h1:cs[o+1]? =some (.int .i64 c):=by rfl)(h2:cs[o+2]? =some (.slice A n d):=by rfl):∀w',Below w.heap.size w w'->(Instr.loadAt 27 (.pointer (some ⟨g,o,none⟩))).run Tryz.prog w'= .ok (.agg #[.int .i64 r,.int .i64 c,.slice A n d]) w':=fun w' hb=>by
 have e0:=(b.below hb).cell o;have e1:=(b.below hb).cell (o+1);have e2:=(b.below hb).cell (o+2);rw[h0]at e0;rw[h1]at e1;rw[h2]at e2;simp[go_sem,e0,e1,e2]
end
section
variable {g o:Nat}
theorem fM0 (o':Nat)(h:o+0=o':=by rfl)(w:World):(Instr.fieldAt 27 (.pointer (some ⟨g,o,none⟩)) 0).run Tryz.prog w= .ok (.pointer (some ⟨g,o',none⟩)) w:=by subst h;simp[go_sem]
theorem fM1 (o':Nat)(h:o+1=o':=by rfl)(w:World):(Instr.fieldAt 27 (.pointer (some ⟨g,o,none⟩)) 1).run Tryz.prog w= .ok (.pointer (some ⟨g,o',none⟩)) w:=by subst h;simp[go_sem]
theorem fM2 (o':Nat)(h:o+2=o':=by rfl)(w:World):(Instr.fieldAt 27 (.pointer (some ⟨g,o,none⟩)) 2).run Tryz.prog w= .ok (.pointer (some ⟨g,o',none⟩)) w:=by subst h;simp[go_sem]
theorem fZ1 (o':Nat)(h:o+1=o':=by rfl)(w:World):(Instr.fieldAt 31 (.pointer (some ⟨g,o,none⟩)) 1).run Tryz.prog w= .ok (.pointer (some ⟨g,o',none⟩)) w:=by subst h;simp[go_sem]
end
section
variable {x y r:Int}{T:TypeId}{b:Bool}{X Y:Operand}{U:TypeId}
theorem opLt (h:decide (x<y)=b)(w:World):RunTwo Tryz.prog (.binOp .lss T X Y U) w (.int .i64 x) (.int .i64 y) (.bool b):=by unfold RunTwo;simp[go_sem,<-h];try rfl
theorem opLe (h:decide (x<=y)=b)(w:World):RunTwo Tryz.prog (.binOp .leq T X Y U) w (.int .i64 x) (.int .i64 y) (.bool b):=by unfold RunTwo;simp[go_sem,<-h];try rfl
theorem opGt (h:decide (y<x)=b)(w:World):RunTwo Tryz.prog (.binOp .gtr T X Y U) w (.int .i64 x) (.int .i64 y) (.bool b):=by unfold RunTwo;simp[go_sem,<-h];try rfl
theorem opGe (h:decide (y<=x)=b)(w:World):RunTwo Tryz.prog (.binOp .geq T X Y U) w (.int .i64 x) (.int .i64 y) (.bool b):=by unfold RunTwo;simp[go_sem,<-h];try rfl
theorem opEq (h:decide (x=y)=b)(w:World):RunTwo Tryz.prog (.binOp .eql T X Y U) w (.int .i64 x) (.int .i64 y) (.bool b):=by unfold RunTwo;simp[go_sem,<-h];try rfl
theorem opNe (h:decide (x≠y)=b)(w:World):RunTwo Tryz.prog (.binOp .neq T X Y U) w (.int .i64 x) (.int .i64 y) (.bool b):=by unfold RunTwo;simp[go_sem,<-h];try rfl
theorem opAdd (h:x+y=r)(h1:-9223372036854775808<=r)(h2:r<=9223372036854775807)(w:World):RunTwo Tryz.prog (.binOp .add T X Y U) w (.int .i64 x) (.int .i64 y) (.int .i64 r):=by unfold RunTwo;subst h;simp[go_sem,IntWalk.i64_in _ ⟨h1,h2⟩]
theorem opMul (h:x*y=r)(h1:-9223372036854775808<=r)(h2:r<=9223372036854775807)(w:World):RunTwo Tryz.prog (.binOp .mul T X Y U) w (.int .i64 x) (.int .i64 y) (.int .i64 r):=by unfold RunTwo;subst h;simp[go_sem,IntWalk.i64_in _ ⟨h1,h2⟩]
theorem opAddN (a b:Nat)(h:a+b<=4611686018427387904)(w:World):RunTwo Tryz.prog (.binOp .add T X Y U) w (.int .i64 (a:Int)) (.int .i64 (b:Int)) (.int .i64 ((a+b:Nat):Int)):=opAdd (by omega) (by omega) (by omega) w
theorem opMulN (a b:Nat)(h:a*b<=4611686018427387904)(w:World):RunTwo Tryz.prog (.binOp .mul T X Y U) w (.int .i64 (a:Int)) (.int .i64 (b:Int)) (.int .i64 ((a*b:Nat):Int)):=opMul (by simp) (by omega) (by omega) w
end
end
section
open Go.RowKit
def sd (x:Int):Bool:=decide (0<=x/\x<=64)
def fmd (r c:Int)(n:Nat):Bool:=sd r&&sd c&&decide ((n:Int)=r*c)
theorem a_x {v:Value}{w w':World}{e:Ending}(h:e= .returned v)(hb:Below w.heap.size w w'):RetK (.k v) w e w':=⟨v,h,rfl,hb⟩
theorem f_m (x:Int){b:Bool}(hb:sd x=b)(w:World):Calls Tryz.prog 95 #[.int .i64 x] w (RetK (.k (.bool b)) w):=by
 have HB:=Lib.hid hb;by_cases h0:0<=x
 ·obtain⟨t,ht⟩:∃t,decide (x<=64)=t:=⟨_,rfl⟩;have hbt:b=t:=by rw[<-hb,<-ht];unfold sd;simp[h0]
  have HT:=Lib.hid hbt;clear hb hbt HB;go_enter Tryz.func95,Tryz.ntmps95
  go_wp2_with fail
  exact bodyPost_ret (v:=.bool t) (by simp[results,Tryz.results95,go_sem,ht]) rfl (a_x (by rw[HT.out]) (Below.refl _ _))
 ·have hbt:b=false:=by rw[<-hb];unfold sd;simp[h0]
  subst hbt;clear hb HB;go_enter Tryz.func95,Tryz.ntmps95
  go_wp2_with fail
  exact bodyPost_ret (v:=.bool false) (by simp[results,Tryz.results95,go_sem]) rfl (a_x rfl (Below.refl _ _))
theorem q_6 {x:Int}(h:sd x=true):0<=x/\x<=64:=by unfold sd at h;exact of_decide_eq_true h
theorem j_d {r c:Int}(hr:sd r=true)(hc:sd c=true):-9223372036854775808<=r*c/\r*c<=9223372036854775807:=by
 obtain⟨a,b⟩:=q_6 hr;obtain⟨e,f⟩:=q_6 hc;have h1:0<=r*c:=Int.mul_nonneg a e;have h2:r*c<=64*c:=Int.mul_le_mul_of_nonneg_right b e;omega
theorem j_5 {r c:Int}{n:Nat}{b:Bool}(hb:fmd r c n=b)(w:World):Calls Tryz.prog 103 #[.int .i64 r,.int .i64 c,.int .i64 (n:Int)] w (RetK (.k (.bool b)) w):=by
 obtain⟨t1,h1⟩:∃t,sd r=t:=⟨_,rfl⟩;obtain⟨t2,h2⟩:∃t,sd c=t:=⟨_,rfl⟩;obtain⟨t3,h3⟩:∃t,decide ((n:Int)=r*c)=t:=⟨_,rfl⟩;have hb':b=(t1&&t2&&t3):=by rw[<-hb,fmd,h1,h2,h3]
 have hbb:=Lib.hid hb';have h4:t1=true->t2=true-> -9223372036854775808<=r*c/\r*c<=9223372036854775807:=fun e1 e2=>by
  rw[e1]at h1;rw[e2]at h2;exact j_d h1 h2
 have h1_:=Lib.hid h1;have h2_:=Lib.hid h2;have h3_:=Lib.hid h3;have h4_:=Lib.hid h4;clear h1 h2 h3 h4 hb hb';go_enter Tryz.func103,Tryz.ntmps103
 go_upto_region 1 with fail
 cases t1
 ·refine Run.start 14 ?_;refine .mv .o ?_;refine .c1 (.i 0) (x:=.k (.bool false)) (by rintro u w2 hB rfl;exact f_m _ h1_.out w2) ?_;refine .mv (.i 1) ?_;refine .no ?_;refine .no ?_;refine .pk (.i 2) .o false ?_;refine .mv (.i 5) ?_;refine .no ?_;refine .no ?_;refine .no ?_;refine .no ?_;refine .no ?_;refine .pk (.i 6) .o false ?_;refine .mv (.i 12) ?_;refine .donep [some 7,some 8,some 9,some 10,some 11,some 12,some 13,some 14,some 15,some 16,some 17,some 18,some 19,some 6] ?_;intro w2 B2;refine sh [] ?_;simp only[Act.put,lS,lZ,lC];cases hbb.out
  go_wp2_with fail
  exact bodyPost_ret (v:=.bool false) (by simp[results,Tryz.results103,go_sem]) rfl (a_x rfl B2)
 cases t2
 ·refine Run.start 14 ?_;refine .mv .o ?_;refine .c1 (.i 0) (x:=.k (.bool true)) (by rintro u w2 hB rfl;exact f_m _ h1_.out w2) ?_;refine .mv (.i 1) ?_;refine .mv .o ?_;refine .c1 (.i 3) (x:=.k (.bool false)) (by rintro u w2 hB rfl;exact f_m _ h2_.out w2) ?_;refine .pk (.i 2) (.i 4) true ?_;refine .mv (.i 5) ?_;refine .no ?_;refine .no ?_;refine .no ?_;refine .no ?_;refine .no ?_;refine .pk (.i 6) .o false ?_;refine .mv (.i 12) ?_;refine .donep [some 7,some 8,some 9,some 10,some 11,some 12,some 13,some 14,some 15,some 16,some 17,some 18,some 19,some 6] ?_;intro w2 B2;refine sh [] ?_;simp only[Act.put,lS,lZ,lC];cases hbb.out
  go_wp2_with fail
  exact bodyPost_ret (v:=.bool false) (by simp[results,Tryz.results103,go_sem]) rfl (a_x rfl B2)
 ·refine Run.start 14 ?_;refine .mv .o ?_;refine .c1 (.i 0) (x:=.k (.bool true)) (by rintro u w2 hB rfl;exact f_m _ h1_.out w2) ?_;refine .mv (.i 1) ?_;refine .mv .o ?_;refine .c1 (.i 3) (x:=.k (.bool true)) (by rintro u w2 hB rfl;exact f_m _ h2_.out w2) ?_;refine .pk (.i 2) (.i 4) true ?_;refine .mv (.i 5) ?_;refine .mv .o ?_;refine .mv .o ?_;refine .mv .o ?_;refine .two (.i 8) (.i 9) (opMul rfl (h4_.out rfl rfl).1 (h4_.out rfl rfl).2) ?_;refine .two (.i 7) (.i 10) (opEq h3_.out) ?_;refine .pk (.i 6) (.i 11) true ?_;refine .mv (.i 12) ?_;refine .donep [some 7,some 8,some 9,some 10,some 11,some 12,some 13,some 14,some 15,some 16,some 17,some 18,some 19,some 6] ?_;intro w2 B2;refine sh [] ?_;simp only[Act.put,lS,lZ,lC];cases hbb.out
  go_wp2_with fail
  exact bodyPost_ret (v:=.bool t3) (by simp[results,Tryz.results103,go_sem]) rfl (a_x rfl B2)
theorem c_z {r c:Int}{A:Option Addr}{n d:Nat}{b:Bool}(hb:fmd r c n=b)(w:World):Calls Tryz.prog 43 #[.agg #[.int .i64 r,.int .i64 c,.slice A n d]] w (RetK (.k (.bool b)) w):=by
 obtain⟨w1,hw1,b1,z1,s1⟩:=boxes1 w 27 [.int .i64 r,.int .i64 c,.slice A n d];have HW:=Lib.hid hw1;have HZ:=Lib.hid z1;have hb_:=Lib.hid hb;clear hw1 z1 hb s1;go_enter Tryz.func43,Tryz.ntmps43
 go_upto_region 1 with fail
 rw[HW.out];refine Run.start 9 ?_;refine .fa .o (fM0 0) ?_;refine .ld (.i 0) (ldInt b1 0) ?_;refine .fa .o (fM1 1) ?_;refine .ld (.i 2) (ldInt b1 1) ?_;refine .fa .o (fM2 2) ?_;refine .ld (.i 4) (ldSl b1 2) ?_;refine .len (.i 5) Tryz.underlying25 ?_;refine .c3 (.i 1) (.i 3) (.i 6) (x:=.k (.bool b)) (by rintro u v x w2 hB rfl rfl rfl;exact j_5 hb_.out w2) ?_;refine .mv (.i 7) ?_;refine .donep [some 3,some 4,some 5,some 6,some 7,some 8,some 9,some 10,some 2] ?_;intro w2 B2;refine sh [] ?_;simp only[Act.put,lS,lZ,lC]
 go_wp2_with fail
 exact bodyPost_ret (v:=.bool b) (by simp[results,Tryz.results43,go_sem]) rfl (a_x rfl (zup HZ.out B2))
theorem has_q {r c i k:Int}{b:Bool}(hb:(decide (0<=i)&&decide (i<r)&&decide (0<=k)&&decide (k<c))=b)(w:World):Calls Tryz.prog 101 #[.int .i64 r,.int .i64 c,.int .i64 i,.int .i64 k] w (RetK (.k (.bool b)) w):=by
 obtain⟨t1,h1⟩:∃t,decide (0<=i)=t:=⟨_,rfl⟩;obtain⟨t2,h2⟩:∃t,decide (i<r)=t:=⟨_,rfl⟩;obtain⟨t3,h3⟩:∃t,decide (0<=k)=t:=⟨_,rfl⟩;obtain⟨t4,h4⟩:∃t,decide (k<c)=t:=⟨_,rfl⟩;have hb':b=(t1&&t2&&t3&&t4):=by rw[<-hb,h1,h2,h3,h4]
 have hbb:=Lib.hid hb';have h1_:=Lib.hid h1;have h2_:=Lib.hid h2;have h3_:=Lib.hid h3;have h4_:=Lib.hid h4;clear h1 h2 h3 h4 hb hb';go_enter Tryz.func101,Tryz.ntmps101
 go_upto_region 1 with fail
 cases t1
 ·refine Run.start 17 ?_;refine .mv .o ?_;refine .two .o (.i 0) (opLe h1_.out) ?_;refine .mv (.i 1) ?_;refine .no ?_;refine .no ?_;refine .no ?_;refine .pk (.i 2) .o false ?_;refine .mv (.i 6) ?_;refine .no ?_;refine .no ?_;refine .pk (.i 7) .o false ?_;refine .mv (.i 10) ?_;refine .no ?_;refine .no ?_;refine .no ?_;refine .pk (.i 11) .o false ?_;refine .mv (.i 15) ?_;refine .donep [some 9,some 10,some 11,some 12,some 13,some 14,some 15,some 16,some 17,some 18,some 19,some 20,some 21,some 22,some 23,some 24,some 8] ?_;intro w2 B2;refine sh [] ?_;simp only[Act.put,lS,lZ,lC];cases hbb.out
  go_wp2_with fail
  exact bodyPost_ret (v:=.bool false) (by simp[results,Tryz.results101,go_sem]) rfl (a_x rfl B2)
 cases t2
 ·refine Run.start 17 ?_;refine .mv .o ?_;refine .two .o (.i 0) (opLe h1_.out) ?_;refine .mv (.i 1) ?_;refine .mv .o ?_;refine .mv .o ?_;refine .two (.i 3) (.i 4) (opLt h2_.out) ?_;refine .pk (.i 2) (.i 5) true ?_;refine .mv (.i 6) ?_;refine .no ?_;refine .no ?_;refine .pk (.i 7) .o false ?_;refine .mv (.i 10) ?_;refine .no ?_;refine .no ?_;refine .no ?_;refine .pk (.i 11) .o false ?_;refine .mv (.i 15) ?_;refine .donep [some 9,some 10,some 11,some 12,some 13,some 14,some 15,some 16,some 17,some 18,some 19,some 20,some 21,some 22,some 23,some 24,some 8] ?_;intro w2 B2;refine sh [] ?_;simp only[Act.put,lS,lZ,lC];cases hbb.out
  go_wp2_with fail
  exact bodyPost_ret (v:=.bool false) (by simp[results,Tryz.results101,go_sem]) rfl (a_x rfl B2)
 cases t3
 ·refine Run.start 17 ?_;refine .mv .o ?_;refine .two .o (.i 0) (opLe h1_.out) ?_;refine .mv (.i 1) ?_;refine .mv .o ?_;refine .mv .o ?_;refine .two (.i 3) (.i 4) (opLt h2_.out) ?_;refine .pk (.i 2) (.i 5) true ?_;refine .mv (.i 6) ?_;refine .mv .o ?_;refine .two .o (.i 8) (opLe h3_.out) ?_;refine .pk (.i 7) (.i 9) true ?_;refine .mv (.i 10) ?_;refine .no ?_;refine .no ?_;refine .no ?_;refine .pk (.i 11) .o false ?_;refine .mv (.i 15) ?_;refine .donep [some 9,some 10,some 11,some 12,some 13,some 14,some 15,some 16,some 17,some 18,some 19,some 20,some 21,some 22,some 23,some 24,some 8] ?_;intro w2 B2;refine sh [] ?_;simp only[Act.put,lS,lZ,lC];cases hbb.out
  go_wp2_with fail
  exact bodyPost_ret (v:=.bool false) (by simp[results,Tryz.results101,go_sem]) rfl (a_x rfl B2)
 ·refine Run.start 17 ?_;refine .mv .o ?_;refine .two .o (.i 0) (opLe h1_.out) ?_;refine .mv (.i 1) ?_;refine .mv .o ?_;refine .mv .o ?_;refine .two (.i 3) (.i 4) (opLt h2_.out) ?_;refine .pk (.i 2) (.i 5) true ?_;refine .mv (.i 6) ?_;refine .mv .o ?_;refine .two .o (.i 8) (opLe h3_.out) ?_;refine .pk (.i 7) (.i 9) true ?_;refine .mv (.i 10) ?_;refine .mv .o ?_;refine .mv .o ?_;refine .two (.i 12) (.i 13) (opLt h4_.out) ?_;refine .pk (.i 11) (.i 14) true ?_;refine .mv (.i 15) ?_;refine .donep [some 9,some 10,some 11,some 12,some 13,some 14,some 15,some 16,some 17,some 18,some 19,some 20,some 21,some 22,some 23,some 24,some 8] ?_;intro w2 B2;refine sh [] ?_;simp only[Act.put,lS,lZ,lC];cases hbb.out
  go_wp2_with fail
  exact bodyPost_ret (v:=.bool t4) (by simp[results,Tryz.results101,go_sem]) rfl (a_x rfl B2)
end
section
open Go.RowKit
def mk (r c:Nat)(F:Nat->Nat->Int):List Int:=(List.range (r*c)).map fun m=>F (m / c) (m%c)
theorem d_q (r c:Nat)(F:Nat->Nat->Int):(mk r c F).length=r*c:=by simp[mk]
theorem q_p {r c i j:Nat}(hi:i<r)(hj:j<c):i*c+j<r*c:=by
 have:i*c+c<=r*c:=by rw[<-Nat.succ_mul];exact Nat.mul_le_mul_right c hi
 omega
theorem v_6 {r c i j:Nat}{F:Nat->Nat->Int}(hi:i<r)(hj:j<c):ith (mk r c F) (i*c+j)=F i j:=by
 have h:=q_p hi hj;have h1:(i*c+j) / c=i:=by rw[Nat.mul_comm,Nat.mul_add_div (by omega),Nat.div_eq_of_lt hj];omega
 have h2:(i*c+j)%c=j:=by rw[Nat.mul_comm,Nat.mul_add_mod,Nat.mod_eq_of_lt hj]
 simp[ith,mk,List.getD,h,h1,h2]
theorem at_of {r c m:Nat}(h:m<r*c):m / c<r/\m%c<c/\m / c*c+m%c=m:=by
 have hc:0<c:=Nat.pos_of_ne_zero fun e=>by subst e;simp at h
 exact⟨Nat.div_lt_of_lt_mul (by rw[Nat.mul_comm];exact h),Nat.mod_lt _ hc,by rw[Nat.mul_comm];exact Nat.div_add_mod m c⟩
theorem y_i {r c:Nat}{zs:List Int}(h:zs.length=r*c):mk r c (fun i j=>ith zs (i*c+j))=zs:=by
 apply List.ext_getElem
 ·rw[d_q,h]
 ·intro m h1 h2;obtain⟨e1,e2,e3⟩:=at_of (r:=r) (c:=c) (m:=m) (by rw[<-h];exact h2);simp[mk,e3,ith,List.getD,h2]
def fil (l:List Int)(m:Nat):List Int:=l.take m++List.replicate (l.length - m) 0
theorem m_v (l:List Int):fil l 0=List.replicate l.length 0:=by simp[fil]
theorem l_i (l:List Int):fil l l.length=l:=by simp[fil]
theorem e_h {l:List Int}{m:Nat}(h:m<=l.length):(fil l m).length=l.length:=by simp[fil];omega
theorem l_h {l:List Int}{m:Nat}(h:m<l.length):(fil l m).set m (ith l m)=fil l (m+1):=by
 apply List.ext_getElem
 ·rw[List.length_set,e_h (by omega),e_h (by omega)]
 ·intro j h1 h2;rw[e_h (by omega)]at h2;rw[List.getElem_set];by_cases e:m=j
  ·subst e;rw[if_pos rfl];simp only[fil];rw[List.getElem_append_left (by simp;omega)];simp[ith,List.getD,h2]
  ·rw[if_neg e];simp only[fil];rcases Nat.lt_or_ge j m with h3|h3
   ·rw[List.getElem_append_left (by simp;omega),List.getElem_append_left (by simp;omega)];simp
   ·rw[List.getElem_append_right (by simp;omega),List.getElem_append_right (by simp;omega)];simp
def kC (z:Int)(k:Nat):FK:=.f (IsC z k) (t_o z k)
theorem IsC.v {z:Int}{k:Nat}{v:Value}{w:World}(h:IsC z k v w):IsV z k v w:=by
 obtain⟨s,A,n,c,e,h1,h2⟩:=h;exact⟨s,A,n,c,e,h1.zv,h2⟩
structure Mt (q:Bool) (w:World) (r c:Nat) (A:Option Addr) (n d k:Nat) (F:Nat->Nat->Int):Prop where
 zl:ZL q w A n d k (mk r c F)
 hr:r<=64
 hc:c<=64
section
variable {q:Bool}{w w':World}{r c n d k k':Nat}{A:Option Addr}{F G:Nat->Nat->Int}
theorem Mt.below (h:Mt q w r c A n d k F)(hb:Below w.heap.size w w'):Mt q w' r c A n d k F:=⟨h.zl.below hb,h.hr,h.hc⟩
theorem Mt.len (h:Mt q w r c A n d k F):n=r*c:=by have:=h.zl.len;rw[d_q]at this;exact this.symm
theorem Mt.mono (h:Mt q w r c A n d k F)(hk:k<=k'):Mt q w r c A n d k' F:=⟨h.zl.mono hk,h.hr,h.hc⟩
theorem Mt.weak (h:Mt q w r c A n d k F):Mt false w r c A n d k F:=⟨h.zl.weak,h.hr,h.hc⟩
theorem Mt.fmd (h:Mt q w r c A n d k F):fmd (r:Int) (c:Int) n=true:=by
 have h1:=h.hr;have h2:=h.hc;have h3:=h.len;unfold Proofs.YtfhbdlegkdbmfaaGreat.fmd sd;simp only[Bool.and_eq_true,decide_eq_true_eq];refine⟨⟨⟨by omega,by omega⟩,by omega,by omega⟩,by rw[h3];simp⟩
end
def IsM (q:Bool)(r c k:Nat)(F:Nat->Nat->Int):FVal:=fun v w=>∃A n d,v= .agg #[.int .i64 (r:Int),.int .i64 (c:Int),.slice A n d]/\Mt q w r c A n d k F
def kM (q:Bool)(r c k:Nat)(F:Nat->Nat->Int):FK:=.f (IsM q r c k F) (fun v w w' ⟨A,n,d,e,h⟩ hb=>⟨A,n,d,e,h.below hb⟩)
theorem RetK.mono {x y:FK}{w w':World}{e:Ending}(h:RetK x w e w')(hxy:∀v w,x.F v w->y.F v w):RetK y w e w':=by
 obtain⟨u,e,h1,h2⟩:=h;exact⟨u,e,hxy _ _ h1,h2⟩
theorem ZPost.q {z:Int}{k k':Nat}{w w':World}{e:Ending}(h:ZPost z k w e w')(hk:k<=k'):RetK (kC z k') w e w':=by
 obtain⟨s,A,n,c,e,h1,h2,h3⟩:=h;exact⟨_,e,⟨s,A,n,c,rfl,h1,by omega⟩,h3⟩
section
variable {u v:Value}{x y:Int}{n m k:Nat}{w:World}
theorem l_z (hx:IsV x n u w)(hy:IsV y m v w)(hn:n<=1099511627776)(hm:m<=1099511627776)(hk:max n m+1<=k):Calls Tryz.prog 121 #[u,v] w (RetK (kC (x+y) k) w):=by
 obtain⟨s,A,a,c,rfl,h1,h2⟩:=hx;obtain⟨s',A',a',c',rfl,h1',h2'⟩:=hy;exact(t_l h1 h1' (by omega) (by omega)).mono fun e w' h=>h.q (by omega)
theorem t_h (hx:IsV x n u w)(hy:IsV y m v w)(hn:n<=1099511627776)(hm:m<=1099511627776)(hk:max n m+1<=k):Calls Tryz.prog 133 #[u,v] w (RetK (kC (x - y) k) w):=by
 obtain⟨s,A,a,c,rfl,h1,h2⟩:=hx;obtain⟨s',A',a',c',rfl,h1',h2'⟩:=hy;exact(w_3 h1 h1' (by omega) (by omega)).mono fun e w' h=>h.q (by omega)
theorem b_u (hx:IsV x n u w)(hy:IsV y m v w)(hn:n<=1099511627776)(hm:m<=1099511627776)(hk:n+m<=k):Calls Tryz.prog 50 #[u,v] w (RetK (kC (x*y) k) w):=by
 obtain⟨s,A,a,c,rfl,h1,h2⟩:=hx;obtain⟨s',A',a',c',rfl,h1',h2'⟩:=hy;exact(w_6 h1 h1' (by omega) (by omega)).mono fun e w' h=>h.q (by omega)
theorem w_5 (hx:IsV x n u w)(hn:n<=1099511627776):Calls Tryz.prog 124 #[u] w (RetK (kC (-x) n) w):=by
 obtain⟨s,A,a,c,rfl,h1,h2⟩:=hx;exact(w_4 h1 (by omega)).mono fun e w' h=>h.q (by omega)
theorem h_x (h1:-9223372036854775808<=x)(h2:x<=9223372036854775807)(w:World):Calls Tryz.prog 18 #[.int .i64 x] w (RetK (kC x 1) w):=(u_a x h1 h2 w).mono fun e w' h=>h.q (Nat.le_refl _)
theorem IPost.q {r:Int}{w w':World}{e:Ending}(h:IPost r w e w'):RetK (.k (.int .i64 r)) w e w':=⟨_,h.1,rfl,h.2⟩
theorem a_z {r:Int}(hx:IsV x n u w)(hn:n<=1099511627776)(hr:x.sign=r):Calls Tryz.prog 11 #[u] w (RetK (.k (.int .i64 r)) w):=by
 obtain⟨s,A,a,c,rfl,h1,h2⟩:=hx;exact(f_8 h1 (by omega) hr).mono fun e w' h=>h.q
end
theorem n_8 {s:Bool}{A:Option Addr}{n c k:Nat}{z:Int}{w:World}(h:Zv w s A n c z)(hn:n<=k)(hk:k<=1099511627776):Calls Tryz.prog 112 #[.slice A n c,.bool s] w (RetK (kC z k) w):=by
 obtain⟨v,h1,h2⟩:=h;rw[h2.out];exact(n_7 h1 (by omega)).mono fun e w' h=>h.q (by omega)
theorem zp_cells:Tryz.prog.cellsOf 31=2:=by kernel_rfl
theorem u_x {w:World}{ad:Addr}{n c k:Nat}(h:k<n):(Instr.indexAt 25 (.slice (some ad) n c) (.int .i64 (k:Int))).run Tryz.prog w= .ok (.pointer (some (ad.add (k*2)))) w:=by
 simp[go_sem,Tryz.underlying25,zp_cells];omega
theorem opIx {ad:Addr}{n c k:Nat}{X Y:Operand}(h:k<n)(w:World):RunTwo Tryz.prog (.indexAddr 25 X Y) w (.slice (some ad) n c) (.int .i64 (k:Int)) (.pointer (some (ad.add (k*2)))):=u_x h
theorem ldE {w:World}{p:Addr}{s:Bool}{A:Option Addr}{n c:Nat}(hp:p.block<w.heap.size)(h0:w.cell? p=some (.bool s))(h1:w.cell? ⟨p.block,p.off+1,none⟩=some (.slice A n c)):∀w',Below w.heap.size w w'->(Instr.loadAt 31 (.pointer (some p))).run Tryz.prog w'= .ok (.agg #[.bool s,.slice A n c]) w':=fun w' hb=>
 r_e ((hb.cell hp).trans h0) ((hb.cell (p:=⟨p.block,p.off+1,none⟩) hp).trans h1)
theorem retC {w w2:World}{A B:Option Addr}{n c g k m d:Nat}{s t:Bool}{z:Int}(h:Zc w2 s A n c z)(hi:Ib w2 g t B m d)(hk:n<=k)(hg:w.heap.size<=g)(hB:Below w.heap.size w w2):
  RetK (kC z k) w (.returned (.agg #[.bool s,.slice A n c])) ((w2.setCell ⟨g,0,none⟩ (.bool s)).setCell ⟨g,1,none⟩ (.slice A n c)):=(zfin h hi hk hg hB).q (Nat.le_refl _)
theorem g_5 {P:Program}{w:World}{ops:Array Oper}{rest:List Oper}{o:Oper}{a:Act}{Q:Exit->Act->World->Prop}(hgd:o.guard=none)(s x:Operand)(t:TypeId)
  (ho:o.op= .call { callee:=.builtin .append,args:=#[s,x],argTypes:=#[t,t] })
  (ht:P.underlying t=some (.slice 31)) (hinfo:(P.info? 31).map (fun i=>(i.zero,i.size,i.bytes))=some (some (.agg #[.bool false,.slice none 0 0]),2,32))
  {g k m cap h n c:Nat} {sb:Bool} {A:Option Addr} {z:Int} {zs:List Int} (hs:a.eval s= .slice (some ⟨g,0,none⟩) m cap) (hx:a.eval x= .slice (some ⟨h,0,none⟩) 1 1)
  (hone:Bx w h 31 [.bool sb,.slice A n c]) (hz:Zc w sb A n c z) (hn:n<=k) (hb:ZB w g k zs) (hm:m<zs.length) (hcap:cap=zs.length)
  (K:∀w',ZB w' g k (zs.set m z)->w.grownBy w' (some g)->wpList P ops Q rest (a.put o.dst (.slice (some ⟨g,0,none⟩) (m+1) cap)) w'):
  wpList P ops Q (o::rest) a w:=by
 obtain⟨i,hi,hz0,hz1,hz2⟩:=info_parts hinfo;have hno:=hb.now;have hput:=hb.put (j:=m) hm hz hn;obtain⟨cs,h1,h2,h3⟩:=hb;have c0:=hone.cell 0;have c1:=hone.cell 1;simp at c0 c1;have hrun:=run_append_room (P:=P) w t o.type 31 i ht hi g m cap cs h1 ⟨h,0,none⟩ 1 1 [.bool sb,.slice A n c] (by rw[hz1];rfl) (fun j u hu=>by
   rw[a_5];match j,hu with
   |0,hu=>simp at hu;subst hu;exact c0
   |1,hu=>simp at hu;subst hu;exact c1) (fun u hu=>by
   simp at hu;rcases hu with rfl|rfl<;>rfl) (by omega) (by rw[hz1,h2];simp;omega)
 rw[hz1]at hrun;have eC:(cs.toList.take (m*2)++[Value.bool sb,.slice A n c]++cs.toList.drop (m*2+2)).toArray=(cs.setIfInBounds (m*2) (.bool sb)).setIfInBounds (m*2+1) (.slice A n c):=by
  apply Array.ext';simp only[Array.toList_setIfInBounds];apply List.ext_getElem?;intro j;have hl:m*2+1<cs.toList.length:=by rw[Array.length_toList,h2];omega
  rw[List.getElem?_set,List.getElem?_set];rcases Nat.lt_trichotomy j (m*2)with e|e|e
  ·rw[if_neg (by omega),if_neg (by omega),List.append_assoc,List.getElem?_append_left (by simp;omega),List.getElem?_take_of_lt e]
  ·subst e;rw[if_neg (by omega),if_pos rfl,if_pos (by omega),List.append_assoc,List.getElem?_append_right (by simp;omega)];rw[List.length_take,Nat.min_eq_left (by omega),Nat.sub_self];rfl
  ·by_cases e1:j=m*2+1
   ·subst e1;rw[if_pos rfl,if_pos (by simp;omega),List.append_assoc,List.getElem?_append_right (by simp;omega)];rw[List.length_take,Nat.min_eq_left (by omega),show m*2+1 - m*2=1 by omega];rfl
   ·rw[if_neg (by omega),if_neg (by omega),List.getElem?_append_right (by simp;omega),List.getElem?_drop];congr 1
    simp;omega
 rw[show([Value.bool sb,Value.slice A n c]:List Value).length=2 from rfl,eC]at hrun;obtain⟨w',hw'⟩:∃w',w'=w.setRow g ((cs.setIfInBounds (m*2) (.bool sb)).setIfInBounds (m*2+1) (.slice A n c)):=⟨_,rfl⟩;have hg:w'.heap[g]? =(zputo w g (m*2) sb A n c).heap[g]? :=by
  rw[hw',setRow_heap w g cs _ _ _ h1];unfold zputo;rw[heap_setCell_same _ g _ _ _ _ (heap_setCell_same w g _ _ _ _ h1)]
 have hgr:w.grownBy w' (some g):=by
  subst hw';exact⟨rfl,rfl,rfl,by simp[World.setRow],fun j _ hj=>setRow_other w g j _ (fun e=>hj (by rw[e]))⟩
 have hgz:=c_2 w g (m*2) sb A n c;have hsz:(zputo w g (m*2) sb A n c).heap.size=w.heap.size:=by unfold zputo;simp
 have hbb:Below (zputo w g (m*2) sb A n c).heap.size (zputo w g (m*2) sb A n c) w':=by
  refine⟨hgr.os.trans hgz.os.symm,hgr.tape.trans hgz.tape.symm,hgr.output.trans hgz.output.symm,by rw[hsz];exact hgr.size,fun j hj=>?_⟩;rw[hsz]at hj;by_cases e:j=g
  ·subst e;exact hg
  ·exact(hgr.block j hj (fun h=>e (Option.some.inj h))).trans (hgz.block j hj (fun h=>e (Option.some.inj h))).symm
 rw[<-hw']at hrun;refine wpList_plain hgd fun K' hK'=>?_;unfold Oper.wp execOp;simp only[ho,resolve,invoke,builtin,Sem.run_bind,Sem.run_pure,Result.andThen_ok,List.map_toArray,List.map_cons,List.map_nil,hs,hx,hrun];exact hK' _ _ (K _ (hput.below hbb) hgr)
end
section
open Go.RowKit
theorem w_8 {i j:Nat}(w:World):Calls Tryz.prog 162 #[.int .i64 (i:Int),.int .i64 (j:Int)] w (RetK (kC (if i=j then 1 else 0) 1) w):=by
 obtain⟨z,hz0⟩:∃z:Int,(if i=j then 1 else 0)=z:=⟨_,rfl⟩;have Hz:=Lib.hid hz0;rw[hz0];obtain⟨w1,hw1,b4,z1,s1⟩:=boxes1 w 31 [.bool false,.slice none 0 0];have HW:=Lib.hid hw1;have HZ:=Lib.hid z1;clear hw1 z1 s1 hz0;go_enter Tryz.func162,Tryz.ntmps162
 go_upto_region 1 with fail
 rw[HW.out];by_cases hij:i=j
 ·have u1:(i:Int)=(j:Int):=by omega
  have e1:z=1:=by rw[<-Hz.out,if_pos hij]
  subst e1;clear hij Hz;go_upto_region 2 with fail
  refine Run.start 1 ?_;refine .c1 .o (x:=kC 1 1) (by rintro u w2 hB rfl;exact h_x (by decide) (by decide) w2) ?_;refine .donep [some 8] ?_;intro w2 B2;rintro v ⟨s_,A_,n_,c_,rfl,hz,hk⟩;refine sh [_] ?_;simp only[Act.put,lS,lZ,lC];have I:=Ib.entry (b4.below B2);have P:=Lib.hid (retC hz I (k:=1) (by omega) (by omega) (zup HZ.out B2));obtain⟨i1,i2,i3,i4,i5⟩:=I;clear hz
  go_wp2_with fail
  exact bodyPost_ret (v:=.agg #[.bool s_,.slice A_ n_ c_]) (by simp[results,Tryz.results162,go_sem,i1,i2]) rfl P.out
 ·have u1:¬(i:Int)=(j:Int):=by omega
  have e1:z=0:=by rw[<-Hz.out,if_neg hij]
  subst e1;clear hij Hz;have I:=Ib.entry b4;have P:=Lib.hid (retC (Zc.nought w1) I (k:=1) (by omega) (by omega) HZ.out);obtain⟨i1,i2,i3,i4,i5⟩:=I
  go_wp2_with fail
  exact bodyPost_ret (v:=.agg #[.bool false,.slice none 0 0]) (by simp[results,Tryz.results162,go_sem,i1,i2]) rfl P.out
end
end Go.Proofs.YtfhbdlegkdbmfaaGreat
