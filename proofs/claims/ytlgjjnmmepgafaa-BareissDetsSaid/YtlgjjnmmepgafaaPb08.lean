/- Pb08 -/
import Derived.Test.YtlgjjnmmepgafaaPb07
import Init
set_option linter.unusedVariables false
set_option linter.unusedSimpArgs false
set_option linter.unusedSectionVars false
set_option maxRecDepth 100000
set_option maxHeartbeats 8000000
namespace Go.Proofs.Ytlgjjnmmepgafaa
section
open Go.RowKit
theorem o_o {w:World}{g k:Nat}{s:Bool}{A:Option Addr}{n c:Nat}(h0:w.cell? ⟨g,k,none⟩=some (.bool s))(h1:w.cell? ⟨g,k+1,none⟩=some (.slice A n c)):
  (Instr.loadAt 30 (.pointer (some ⟨g,k,none⟩))).run Try.prog w= .ok (.agg #[.bool s,.slice A n c]) w:=by
 simp[go_sem,h0,h1]
def IsC (z:Int)(k:Nat):FVal:=fun v w=>∃s A n c,v= .agg #[.bool s,.slice A n c]/\Zc w s A n c z/\n<=k
def IsV (z:Int)(k:Nat):FVal:=fun v w=>∃s A n c,v= .agg #[.bool s,.slice A n c]/\Zv w s A n c z/\n<=k
theorem q_v (z:Int)(k:Nat):Stays (IsV z k):=fun v w w' ⟨s,A,n,c,e,h,hk⟩ hb=>⟨s,A,n,c,e,h.below hb,hk⟩
theorem q_x (z:Int)(k:Nat):Stays (IsC z k):=fun v w w' ⟨s,A,n,c,e,h,hk⟩ hb=>⟨s,A,n,c,e,h.below hb,hk⟩
end
section
def ith (l:List Int)(i:Nat):Int:=l.getD i 0
end
section
open Go.RowKit
theorem a_u (a:Addr):a.add 0=a:=by
 obtain⟨b,o,i⟩:=a;cases i<;>rfl
theorem n_t {w w':World}(h:Below w.heap.size w w')(r:Option Nat):w.grownBy w' r:=⟨h.os,h.tape,h.output,h.size,fun k hk _=>h.block k hk⟩
theorem a_2 (w:World)(r:Option Nat):w.grownBy w r:=n_t (Below.refl _ _) r
theorem k_v {a b c:World}{r:Option Nat}(h:a.grownBy b r)(k:b.grownBy c r):a.grownBy c r:=
 ⟨k.os.trans h.os,k.tape.trans h.tape,k.output.trans h.output,Nat.le_trans h.size k.size,fun i hi hn=>(k.block i (Nat.lt_of_lt_of_le hi h.size) hn).trans (h.block i hi hn)⟩
theorem a_o {w w':World}{g:Nat}{q:Addr}(h:w.grownBy w' (some g))(hq:q.block=g)(u:Value):w.grownBy (w'.setCell q u) (some g):=by
 obtain⟨b,o,n⟩:=q;exact⟨h.os,h.tape,h.output,by simpa using h.size,fun k hk hne=>(Below.heap_setCell _ _ _ _ (fun e=>hne (by rw[e];simp only at hq ⊢;rw[hq]))).trans (h.block k hk hne)⟩
theorem e_5 {w0 w w':World}{g:Nat}(hb:Below w0.heap.size w0 w)(h:w.grownBy w' (some g))(hg:w0.heap.size<=g):Below w0.heap.size w0 w':=
 hb.trans ⟨h.os,h.tape,h.output,h.size,fun k hk=>h.block k (by have:=hb.size;omega) (fun e=>by have:=Option.some.inj e;omega)⟩
def Wless (w:World)(g:Nat):Prop:=∀(p:Addr) (m:Int),p.block=g->w.cell? p≠some (.int .u64 m)
theorem Rd.gro {w w':World}{A:Option Addr}{xs:List Nat}{g:Nat}(h:Rd w .u64 A xs)(hn:Wless w g)(hg:w.grownBy w' (some g)):Rd w' .u64 A xs:=fun h0=>by
 have h1:=h;obtain⟨ad,rfl,hlt,hc⟩:=h h0;refine(h1.grown hg fun ad' e e2=>?_) h0;cases e;obtain rfl:ad.block=g:=Option.some.inj e2;exact hn _ _ (by rw[a_a]) (hc 0 h0)
theorem Cv.gro {w w':World}{A:Option Addr}{n c x g:Nat}(h:Cv w A n c x)(hn:Wless w g)(hg:w.grownBy w' (some g)):Cv w' A n c x:=⟨h.1.gro hn hg,h.2⟩
theorem Nv.gro {w w':World}{A:Option Addr}{n c x g:Nat}(h:Nv w A n c x)(hn:Wless w g)(hg:w.grownBy w' (some g)):Nv w' A n c x:=by
 obtain⟨xs,h1,h2⟩:=h;exact⟨xs,h1.gro hn hg,h2⟩
theorem Zv.gro {w w':World}{s:Bool}{A:Option Addr}{n c g:Nat}{z:Int}(h:Zv w s A n c z)(hn:Wless w g)(hg:w.grownBy w' (some g)):Zv w' s A n c z:=by
 obtain⟨v,h1,h2⟩:=h;exact⟨v,h1.gro hn hg,h2⟩
theorem Zc.gro {w w':World}{s:Bool}{A:Option Addr}{n c g:Nat}{z:Int}(h:Zc w s A n c z)(hn:Wless w g)(hg:w.grownBy w' (some g)):Zc w' s A n c z:=⟨h.1.gro hn hg,h.2⟩
def Ze (q:Bool)(w:World)(s:Bool)(A:Option Addr)(n c:Nat)(z:Int):Prop:=Zv w s A n c z/\(q=true->Zc w s A n c z)
section
variable {q:Bool}{w w':World}{s:Bool}{A:Option Addr}{n c g:Nat}{z:Int}
theorem Ze.below (h:Ze q w s A n c z)(hb:Below w.heap.size w w'):Ze q w' s A n c z:=⟨h.1.below hb,fun e=>(h.2 e).below hb⟩
theorem Ze.gro (h:Ze q w s A n c z)(hn:Wless w g)(hg:w.grownBy w' (some g)):Ze q w' s A n c z:=⟨h.1.gro hn hg,fun e=>(h.2 e).gro hn hg⟩
theorem Ze.of (h:Zc w s A n c z):Ze q w s A n c z:=⟨h.zv,fun _=>h⟩
end
def ZAt (q:Bool)(w:World)(p:Addr)(k:Nat)(z:Int):Prop:=
 ∃s A n c,w.cell? p=some (.bool s)/\w.cell? ⟨p.block,p.off+1,none⟩=some (.slice A n c)/\Ze q w s A n c z/\n<=k
theorem l_y {w:World}{p:Addr}{s:Bool}{A:Option Addr}{n c:Nat}(h0:w.cell? p=some (.bool s))(h1:w.cell? ⟨p.block,p.off+1,none⟩=some (.slice A n c)):
  (Instr.loadAt 30 (.pointer (some p))).run Try.prog w= .ok (.agg #[.bool s,.slice A n c]) w:=by
 simp[go_sem,Addr.add,h0,h1]
structure ZL (q:Bool) (w:World) (A:Option Addr) (n c k:Nat) (zs:List Int):Prop where
 len:zs.length=n
 le:n<=c
 cap:c<=9223372036854775807
 at':0<n->∃ad,A=some ad/\ad.block<w.heap.size/\∀j,j<n->ZAt q w (ad.add (j*2)) k (ith zs j)
section
variable {q:Bool}{w w':World}{A:Option Addr}{n c k g:Nat}{zs:List Int}
theorem ZAt.below {p:Addr}{z:Int}(h:ZAt q w p k z)(hp:p.block<w.heap.size)(hb:Below w.heap.size w w'):ZAt q w' p k z:=by
 obtain⟨s,A,n,c,h1,h2,h3,h4⟩:=h;exact⟨s,A,n,c,(hb.cell hp).trans h1,(hb.cell (p:=⟨p.block,p.off+1,none⟩) hp).trans h2,h3.below hb,h4⟩
theorem ZAt.gro {p:Addr}{z:Int}(h:ZAt q w p k z)(hp:p.block<w.heap.size)(hne:p.block≠g)(hn:Wless w g)(hg:w.grownBy w' (some g)):ZAt q w' p k z:=by
 obtain⟨s,A,n,c,h1,h2,h3,h4⟩:=h;have e:=hg.block p.block hp (fun e=>hne (Option.some.inj e));exact⟨s,A,n,c,(World.cell?_of_block e).trans h1,(World.cell?_of_block (a:=⟨p.block,p.off+1,none⟩) e).trans h2,h3.gro hn hg,h4⟩
theorem ZAt.mono {p:Addr}{z:Int}{k':Nat}(h:ZAt q w p k z)(hk:k<=k'):ZAt q w p k' z:=by
 obtain⟨s,A,n,c,h1,h2,h3,h4⟩:=h;exact⟨s,A,n,c,h1,h2,h3,Nat.le_trans h4 hk⟩
theorem ZL.nil (q:Bool)(w:World)(k:Nat):ZL q w none 0 0 k []:=⟨rfl,Nat.le_refl _,by omega,fun h=>by omega⟩
theorem ZL.below (h:ZL q w A n c k zs)(hb:Below w.heap.size w w'):ZL q w' A n c k zs:=⟨h.len,h.le,h.cap,fun h0=>by
 obtain⟨ad,rfl,h1,h2⟩:=h.at' h0;exact⟨ad,rfl,Nat.lt_of_lt_of_le h1 hb.size,fun j hj=>(h2 j hj).below (by rw[a_a];exact h1) hb⟩⟩
theorem ZL.gro (h:ZL q w A n c k zs)(hne:∀ad,A=some ad->ad.block≠g)(hn:Wless w g)(hg:w.grownBy w' (some g)):ZL q w' A n c k zs:=⟨h.len,h.le,h.cap,fun h0=>by
 obtain⟨ad,rfl,h1,h2⟩:=h.at' h0;exact⟨ad,rfl,Nat.lt_of_lt_of_le h1 hg.size,fun j hj=>(h2 j hj).gro (by rw[a_a];exact h1) (by rw[a_a];exact hne ad rfl) hn hg⟩⟩
theorem ZL.mono {k':Nat}(h:ZL q w A n c k zs)(hk:k<=k'):ZL q w A n c k' zs:=⟨h.len,h.le,h.cap,fun h0=>by
 obtain⟨ad,rfl,h1,h2⟩:=h.at' h0;exact⟨ad,rfl,h1,fun j hj=>(h2 j hj).mono hk⟩⟩
theorem ZL.at (h:ZL q w A n c k zs){j:Nat}(hj:j<n):∃ad,A=some ad/\ad.block<w.heap.size/\ZAt q w (ad.add (j*2)) k (ith zs j):=by
 obtain⟨ad,e,h1,h2⟩:=h.at' (by omega);exact⟨ad,e,h1,h2 j hj⟩
theorem ZL.elem {ad:Addr}(h:ZL q w (some ad) n c k zs){j:Nat}(hj:j<n):ZAt q w (ad.add (j*2)) k (ith zs j):=by
 obtain⟨ad',e,h1,h2⟩:=h.at' (by omega);cases e;exact h2 j hj
theorem f_p {l:List Int}{m j:Nat}(h:j<m):ith (l.take m) j=ith l j:=by simp[ith,List.getD,h]
theorem f_q (l:List Int)(m j:Nat):ith (l.drop m) j=ith l (m+j):=by simp[ith,List.getD,List.getElem?_drop]
end
def ZB (w:World)(g k:Nat)(zs:List Int):Prop:=
 ∃cs:Array Value,w.heap[g]? =some (.cells cs 30 (0,0))/\cs.size=zs.length*2/\∀j,j<zs.length->∃s A n c,cs[j*2]? =some (.bool s)/\cs[j*2+1]? =some (.slice A n c)/\Zc w s A n c (ith zs j)/\n<=k
def zputo (w:World)(g o:Nat)(s:Bool)(A:Option Addr)(n c:Nat):World:=(w.setCell ⟨g,o,none⟩ (.bool s)).setCell ⟨g,o+1,none⟩ (.slice A n c)
section
variable {w w':World}{g k b:Nat}{zs:List Int}
theorem ZB.lt (h:ZB w g k zs):g<w.heap.size:=by
 obtain⟨cs,h1,_⟩:=h;exact(Array.getElem?_eq_some_iff.1 h1).1
theorem ZB.now (h:ZB w g k zs):Wless w g:=fun p m hp e=>by
 obtain⟨cs,h1,h2,h3⟩:=h;have e2:cs[p.off]? =some (.int .u64 m):=by
  have:=e;unfold World.cell? at this;rw[hp,h1]at this;exact(by simpa using this:p.spot=none/\cs[p.off]? =some (.int .u64 m)).2
 have hlt:p.off<cs.size:=(Array.getElem?_eq_some_iff.1 e2).1;rw[h2]at hlt;obtain⟨s,A,n,c,c1,c2,_⟩:=h3 (p.off / 2) (by omega);rcases(by omega:p.off=p.off / 2*2\/p.off=p.off / 2*2+1)with ho|ho
 ·rw[ho,c1]at e2;cases e2
 ·rw[ho,c2]at e2;cases e2
theorem ZB.below (h:ZB w g k zs)(hb:Below w.heap.size w w'):ZB w' g k zs:=by
 have hl:=h.lt;obtain⟨cs,h1,h2,h3⟩:=h;refine⟨cs,(hb.block g hl).trans h1,h2,fun j hj=>?_⟩;obtain⟨s,A,n,c,c1,c2,c3,c4⟩:=h3 j hj;exact⟨s,A,n,c,c1,c2,c3.below hb,c4⟩
theorem ZB.gro (h:ZB w g k zs)(hne:g≠b)(hn:Wless w b)(hg:w.grownBy w' (some b)):ZB w' g k zs:=by
 have hl:=h.lt;obtain⟨cs,h1,h2,h3⟩:=h;refine⟨cs,(hg.block g hl (fun e=>hne (Option.some.inj e))).trans h1,h2,fun j hj=>?_⟩;obtain⟨s,A,n,c,c1,c2,c3,c4⟩:=h3 j hj;exact⟨s,A,n,c,c1,c2,c3.gro hn hg,c4⟩
theorem ZB.mono {k':Nat}(h:ZB w g k zs)(hk:k<=k'):ZB w g k' zs:=by
 obtain⟨cs,h1,h2,h3⟩:=h;refine⟨cs,h1,h2,fun j hj=>?_⟩;obtain⟨s,A,n,c,c1,c2,c3,c4⟩:=h3 j hj;exact⟨s,A,n,c,c1,c2,c3,Nat.le_trans c4 hk⟩
theorem ZB.cells (h:ZB w g k zs){j:Nat}(hj:j<zs.length):∃s A n c,w.cell? ⟨g,j*2,none⟩=some (.bool s)/\w.cell? ⟨g,j*2+1,none⟩=some (.slice A n c)/\Zc w s A n c (ith zs j)/\n<=k:=by
 obtain⟨cs,h1,h2,h3⟩:=h;obtain⟨s,A,n,c,c1,c2,c3,c4⟩:=h3 j hj;exact⟨s,A,n,c,by rw[cell_of_row w g _ _ _ _ h1,c1],by rw[cell_of_row w g _ _ _ _ h1,c2],c3,c4⟩
theorem ZB.free (h:ZB w g k zs)(j:Nat):w.frozen? ⟨g,j,none⟩=false:=by
 obtain⟨cs,h1,h2,h3⟩:=h;exact frozen_of_row w g j _ _ h1
theorem d_9 (w:World)(g o:Nat)(s:Bool)(A:Option Addr)(n c:Nat):w.grownBy (zputo w g o s A n c) (some g):=by
 unfold zputo;exact a_o (q:=⟨g,o+1,none⟩) (a_o (q:=⟨g,o,none⟩) (a_2 w (some g)) rfl _) rfl _
theorem k_p (l:List Int)(j i:Nat)(z:Int)(hj:j<l.length):ith (l.set j z) i=if i=j then z else ith l i:=by
 by_cases e:i=j
 ·subst e;rw[if_pos rfl];simp[ith,List.getD,hj]
 ·rw[if_neg e];simp[ith,List.getD,List.getElem?_set_ne (Ne.symm e)]
theorem ZB.put (h:ZB w g k zs){j n c:Nat}(hj:j<zs.length){s:Bool}{A:Option Addr}{z:Int}(hz:Zc w s A n c z)(hn:n<=k):ZB (zputo w g (j*2) s A n c) g k (zs.set j z):=by
 have hno:=h.now;have hgr:=d_9 w g (j*2) s A n c;obtain⟨cs,h1,h2,h3⟩:=h;refine⟨(cs.setIfInBounds (j*2) (.bool s)).setIfInBounds (j*2+1) (.slice A n c), ?_,by simp[h2],fun i hi=>?_⟩
 ·unfold zputo;rw[heap_setCell_same _ g _ _ _ _ (heap_setCell_same w g _ _ _ _ h1)]
 ·rw[List.length_set]at hi;by_cases e:i=j
  ·subst e;refine⟨s,A,n,c, ?_, ?_, ?_,hn⟩
   ·rw[Array.getElem?_setIfInBounds_ne (by omega),Array.getElem?_setIfInBounds_self_of_lt (by omega)]
   ·rw[Array.getElem?_setIfInBounds_self_of_lt (by simp;omega)]
   ·rw[k_p _ _ _ _ hj,if_pos rfl];exact hz.gro hno hgr
  ·obtain⟨s',A',n',c',c1,c2,c3,c4⟩:=h3 i hi;refine⟨s',A',n',c', ?_, ?_, ?_,c4⟩
   ·rw[Array.getElem?_setIfInBounds_ne (by omega),Array.getElem?_setIfInBounds_ne (by omega)];exact c1
   ·rw[Array.getElem?_setIfInBounds_ne (by omega),Array.getElem?_setIfInBounds_ne (by omega)];exact c2
   ·rw[k_p _ _ _ _ hj,if_neg e];exact c3.gro hno hgr
theorem ZB.zl (h:ZB w g k zs)(q:Bool){o n c:Nat}(hn:o+n<=zs.length)(hc:n<=c)(hm:c<=9223372036854775807):ZL q w (some ⟨g,o*2,none⟩) n c k ((zs.drop o).take n):=by
 refine⟨by rw[List.length_take,List.length_drop];omega,hc,hm,fun h0=>⟨_,rfl,h.lt,fun j hj=>?_⟩⟩;rw[c_m,<-Nat.add_mul];obtain⟨s,A,n',c',c1,c2,c3,c4⟩:=h.cells (j:=o+j) (by omega);refine⟨s,A,n',c',c1,c2,.of ?_,c4⟩;rw[f_p hj,f_q];exact c3
theorem ZB.zl0 (h:ZB w g k zs)(q:Bool){n c:Nat}(hn:n<=zs.length)(hc:n<=c)(hm:c<=9223372036854775807):ZL q w (some ⟨g,0,none⟩) n c k (zs.take n):=by
 have:=h.zl q (o:=0) (by omega) hc hm;rwa [List.drop_zero,Nat.zero_mul]at this
end
theorem info_zint:(Try.prog.info? 30).map (fun i=>(i.zero,i.size,i.bytes))=some (some (.agg #[.bool false,.slice none 0 0]),2,32):=by kernel_rfl
theorem Zc.nought (w:World):Zc w false none 0 0 0:=by
 have e:cn 18446744073709551616 (Int.natAbs 0)=[]:=c_4 _;refine⟨?_,Lib.hid (by decide)⟩;unfold Cv;rw[e];exact⟨Rd.nil _ _ _,rfl,by omega,by omega⟩
theorem ZB.made (w:World)(n:Nat):ZB (w.alloc (.cells (madeCells #[.bool false,.slice none 0 0] (n*2)) 30)) w.heap.size 0 (List.replicate n 0):=by
 refine⟨_,heap_alloc_new w _,by simp[size_madeCells],fun j hj=>?_⟩;rw[List.length_replicate]at hj;refine⟨false,none,0,0, ?_, ?_, ?_,Nat.le_refl _⟩
 ·rw[Array.getElem?_eq_some_iff];refine⟨by rw[size_madeCells];omega, ?_⟩;simp[madeCells]
 ·rw[Array.getElem?_eq_some_iff];refine⟨by rw[size_madeCells];omega, ?_⟩;have:(j*2+1)%2=1:=by omega
  simp[madeCells,this]
 ·rw[show ith (List.replicate n 0) j=0 by simp[ith,List.getD,hj]];exact Zc.nought _
theorem f_d {P:Program}(w:World){ops:Array Oper}{rest:List Oper}{o:Oper}{a:Act}{Q:Exit->Act->World->Prop}
  (hg:o.guard=none) (l c:Operand) (t:TypeId) (hop:o.op=Op.makeSlice t l c)
  (ht:P.underlying t=some (.slice 30)) (hinfo:(P.info? 30).map (fun i=>(i.zero,i.size,i.bytes))=some (some (.agg #[.bool false,.slice none 0 0]),2,32))
  (kl kc:IntKind) (L C:Int) (n:Nat) (hl:a.eval l= .int kl L) (hc:a.eval c= .int kc C) (hL:L=(n:Int)) (hC:C=(n:Int)) (hbytes:n<=8796093022208)
  (hK:∀w',ZB w' w.heap.size 0 (List.replicate n 0)->Below w.heap.size w w'->w'.heap.size=w.heap.size+1->wpList P ops Q rest (a.put o.dst (.slice (some ⟨w.heap.size,0,none⟩) n n)) w'):
  wpList P ops Q (o::rest) a w:=by
 subst hL hC;obtain⟨i,hi,hz0,hz1,hz2⟩:=info_parts hinfo;have hrun:=run_make (P:=P) w t 30 i (.agg #[.bool false,.slice none 0 0]) ht hi hz0 kl kc (n:Int) (n:Int) (by omega) (Int.le_refl _) (by rw[hz2];omega) (by omega);refine wpList_plain hg fun K hK'=>?_;unfold Oper.wp;simp[execOp,hop,hl,hc,hrun,Result.andThen];refine hK' _ _ (hK _ ?_ ((Below.refl _ _).alloc (Nat.le_refl _) _) (by simp));rw[hz1];exact ZB.made w n
end
end Go.Proofs.Ytlgjjnmmepgafaa
