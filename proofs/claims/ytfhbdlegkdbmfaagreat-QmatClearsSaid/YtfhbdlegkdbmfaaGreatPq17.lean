/- Pq17 -/
import Derived.Test.YtfhbdlegkdbmfaaGreatPq16
import Derived.Lib.SmallJoins
import Derived.ChangeSlices
import Derived.Test.YtfhbdlegkdbmfaaGreatRows
import Derived.Deep.Slices
import Derived.Deep.Fields
import Derived.Deep.Matrix
import Derived.Laws.AppendOwn
set_option linter.unusedVariables false
set_option linter.unusedSimpArgs false
set_option linter.unusedSectionVars false
set_option maxRecDepth 100000
set_option maxHeartbeats 8000000
namespace Go.Proofs.YtfhbdlegkdbmfaaGreat
section
open Go.RowKit
def Qv (w:World)(s:Bool)(A:Option Addr)(n c:Nat)(t:Bool)(B:Option Addr)(m d:Nat)(q:Rat):Prop:=∃N D,Zv w s A n c N/\Zv w t B m d D/\Hid (Rat.divInt N D=q)
section
variable {w w':World}{g:Nat}{s t s' t' s0 t0 u v:Bool}{A B A' B' A0 B0 C D':Option Addr}{n c m d n' c' m' d' n0 c0 m0 d0 l e' f' h' k:Nat}{p q:Rat}
theorem Qc.qv (h:Qc w s A n c t B m d q):Qv w s A n c t B m d q:=⟨_,_,h.nv,h.dv,Lib.hid (o_z q)⟩
theorem Qv.below (h:Qv w s A n c t B m d q)(hb:Below w.heap.size w w'):Qv w' s A n c t B m d q:=by
 obtain⟨N,D,h1,h2,h3⟩:=h;exact⟨N,D,h1.below hb,h2.below hb,h3⟩
theorem Qv.rput (h:Qv w s A n c t B m d q)(hi:Rb w g s0 A0 n0 c0 t0 B0 m0 d0):Qv (rput w g s' A' n' c' t' B' m' d') s A n c t B m d q:=by
 obtain⟨N,D,h1,h2,h3⟩:=h;exact⟨N,D,h1.rput hi,h2.rput hi,h3⟩
theorem add_q (ha:Qv w s A n c t B m d p)(hb:Qv w u C l e' v D' f' h' q)(k:Nat)(hnk:n<=k)(hmk:m<=k)(hlk:l<=k)(hfk:f'<=k)(h1:1<=k)(hk:k<=1073741824):
  Calls Tryz.prog 61 #[.agg #[.bool s,.slice A n c,.bool t,.slice B m d],.agg #[.bool u,.slice C l e',.bool v,.slice D' f' h']] w (QPost (p+q) (2*k+1) w):=by
 obtain⟨N,D,a1,a2,a3⟩:=ha;obtain⟨M,E,b1,b2,b3⟩:=hb;rw[<-a3.out,<-b3.out];exact x_4 a1 a2 b1 b2 hnk hmk hlk hfk h1 hk
theorem quo_q (ha:Qv w s A n c t B m d p)(hb:Qv w u C l e' v D' f' h' q)(k:Nat)(hnk:n<=k)(hmk:m<=k)(hlk:l<=k)(hfk:f'<=k)(h1:1<=k)(hk:k<=1073741824){b:Bool}(hb0:decide (q≠0)=b):
  Calls Tryz.prog 166 #[.agg #[.bool s,.slice A n c,.bool t,.slice B m d],.agg #[.bool u,.slice C l e',.bool v,.slice D' f' h']] w (QbPost (p / q) b (2*k) w):=by
 obtain⟨N,D,a1,a2,a3⟩:=ha;obtain⟨M,E,b1,b2,b3⟩:=hb;rw[<-a3.out,<-b3.out];exact x_v a1 a2 b1 b2 hnk hmk hlk hfk h1 hk (by rw[b3.out];exact hb0)
theorem cmp_q (ha:Qv w s A n c t B m d p)(hb:Qv w u C l e' v D' f' h' q)(k:Nat)(hnk:n<=k)(hmk:m<=k)(hlk:l<=k)(hfk:f'<=k)(h1:1<=k)(hk:k<=1073741824){r:Int}(hr:rsg (p - q)=r):
  Calls Tryz.prog 12 #[.agg #[.bool s,.slice A n c,.bool t,.slice B m d],.agg #[.bool u,.slice C l e',.bool v,.slice D' f' h']] w (IPost r w):=by
 obtain⟨N,D,a1,a2,a3⟩:=ha;obtain⟨M,E,b1,b2,b3⟩:=hb;exact x_3 a1 a2 b1 b2 hnk hmk hlk hfk h1 hk (by rw[a3.out,b3.out];exact hr)
end
end
section
open Go.RowKit
def rth (l:List Rat)(j:Nat):Rat:=l.getD j 0
theorem m_d {l:List Rat}{m j:Nat}(h:j<m):rth (l.take m) j=rth l j:=by simp[rth,List.getD,h]
theorem m_e (l:List Rat)(m j:Nat):rth (l.drop m) j=rth l (m+j):=by simp[rth,List.getD,List.getElem?_drop]
theorem k_q (l:List Rat)(j i:Nat)(z:Rat)(hj:j<l.length):rth (l.set j z) i=if i=j then z else rth l i:=by
 by_cases e:i=j
 ·subst e;rw[if_pos rfl];simp[rth,List.getD,hj]
 ·rw[if_neg e];simp[rth,List.getD,List.getElem?_set_ne (Ne.symm e)]
section
variable {q:Bool}{w w':World}{s t:Bool}{A B:Option Addr}{n c m d g:Nat}{x:Rat}
theorem Qc.gro (h:Qc w s A n c t B m d x)(hn:Wless w g)(hg:w.grownBy w' (some g)):Qc w' s A n c t B m d x:=⟨h.1.gro hn hg,h.2.gro hn hg⟩
theorem Qv.gro (h:Qv w s A n c t B m d x)(hn:Wless w g)(hg:w.grownBy w' (some g)):Qv w' s A n c t B m d x:=by
 obtain⟨N,D,h1,h2,h3⟩:=h;exact⟨N,D,h1.gro hn hg,h2.gro hn hg,h3⟩
def Qe (q:Bool)(w:World)(s:Bool)(A:Option Addr)(n c:Nat)(t:Bool)(B:Option Addr)(m d:Nat)(x:Rat):Prop:=Qv w s A n c t B m d x/\(q=true->Qc w s A n c t B m d x)
theorem Qe.below (h:Qe q w s A n c t B m d x)(hb:Below w.heap.size w w'):Qe q w' s A n c t B m d x:=⟨h.1.below hb,fun e=>(h.2 e).below hb⟩
theorem Qe.gro (h:Qe q w s A n c t B m d x)(hn:Wless w g)(hg:w.grownBy w' (some g)):Qe q w' s A n c t B m d x:=⟨h.1.gro hn hg,fun e=>(h.2 e).gro hn hg⟩
theorem Qe.of (h:Qc w s A n c t B m d x):Qe q w s A n c t B m d x:=⟨h.qv,fun _=>h⟩
end
def QAt (q:Bool)(w:World)(p:Addr)(k:Nat)(x:Rat):Prop:=
 ∃s A n c t B m d,w.cell? p=some (.bool s)/\w.cell? ⟨p.block,p.off+1,none⟩=some (.slice A n c)/\w.cell? ⟨p.block,p.off+2,none⟩=some (.bool t)/\w.cell? ⟨p.block,p.off+3,none⟩=some (.slice B m d)/\Qe q w s A n c t B m d x/\n<=k/\m<=k
theorem m_c {w:World}{p:Addr}{s t:Bool}{A B:Option Addr}{n c m d:Nat}(h0:w.cell? p=some (.bool s))(h1:w.cell? ⟨p.block,p.off+1,none⟩=some (.slice A n c))(h2:w.cell? ⟨p.block,p.off+2,none⟩=some (.bool t))(h3:w.cell? ⟨p.block,p.off+3,none⟩=some (.slice B m d)):
  (Instr.loadAt 42 (.pointer (some p))).run Tryz.prog w= .ok (.agg #[.bool s,.slice A n c,.bool t,.slice B m d]) w:=by
 simp[go_sem,Addr.add,h0,h1,h2,h3]
structure QL (q:Bool) (w:World) (A:Option Addr) (n c k:Nat) (xs:List Rat):Prop where
 len:xs.length=n
 le:n<=c
 cap:c<=9223372036854775807
 at':0<n->∃ad,A=some ad/\ad.block<w.heap.size/\∀j,j<n->QAt q w (ad.add (j*4)) k (rth xs j)
section
variable {q:Bool}{w w':World}{A:Option Addr}{n c k g:Nat}{xs:List Rat}
theorem QAt.below {p:Addr}{z:Rat}(h:QAt q w p k z)(hp:p.block<w.heap.size)(hb:Below w.heap.size w w'):QAt q w' p k z:=by
 obtain⟨s,A,n,c,t,B,m,d,h1,h2,h3,h4,h5,h6⟩:=h;exact⟨s,A,n,c,t,B,m,d,(hb.cell hp).trans h1,(hb.cell (p:=⟨p.block,p.off+1,none⟩) hp).trans h2,(hb.cell (p:=⟨p.block,p.off+2,none⟩) hp).trans h3,(hb.cell (p:=⟨p.block,p.off+3,none⟩) hp).trans h4,h5.below hb,h6⟩
theorem QAt.gro {p:Addr}{z:Rat}(h:QAt q w p k z)(hp:p.block<w.heap.size)(hne:p.block≠g)(hn:Wless w g)(hg:w.grownBy w' (some g)):QAt q w' p k z:=by
 obtain⟨s,A,n,c,t,B,m,d,h1,h2,h3,h4,h5,h6⟩:=h;have e:=hg.block p.block hp (fun e=>hne (Option.some.inj e));exact⟨s,A,n,c,t,B,m,d,(World.cell?_of_block e).trans h1,(World.cell?_of_block (a:=⟨p.block,p.off+1,none⟩) e).trans h2,(World.cell?_of_block (a:=⟨p.block,p.off+2,none⟩) e).trans h3,(World.cell?_of_block (a:=⟨p.block,p.off+3,none⟩) e).trans h4,h5.gro hn hg,h6⟩
theorem QAt.mono {p:Addr}{z:Rat}{k':Nat}(h:QAt q w p k z)(hk:k<=k'):QAt q w p k' z:=by
 obtain⟨s,A,n,c,t,B,m,d,h1,h2,h3,h4,h5,h6,h7⟩:=h;exact⟨s,A,n,c,t,B,m,d,h1,h2,h3,h4,h5,Nat.le_trans h6 hk,Nat.le_trans h7 hk⟩
theorem QL.nil (q:Bool)(w:World)(k:Nat):QL q w none 0 0 k []:=⟨rfl,Nat.le_refl _,by omega,fun h=>by omega⟩
theorem QL.below (h:QL q w A n c k xs)(hb:Below w.heap.size w w'):QL q w' A n c k xs:=⟨h.len,h.le,h.cap,fun h0=>by
 obtain⟨ad,rfl,h1,h2⟩:=h.at' h0;exact⟨ad,rfl,Nat.lt_of_lt_of_le h1 hb.size,fun j hj=>(h2 j hj).below (by rw[a_b];exact h1) hb⟩⟩
theorem QL.gro (h:QL q w A n c k xs)(hne:∀ad,A=some ad->ad.block≠g)(hn:Wless w g)(hg:w.grownBy w' (some g)):QL q w' A n c k xs:=⟨h.len,h.le,h.cap,fun h0=>by
 obtain⟨ad,rfl,h1,h2⟩:=h.at' h0;exact⟨ad,rfl,Nat.lt_of_lt_of_le h1 hg.size,fun j hj=>(h2 j hj).gro (by rw[a_b];exact h1) (by rw[a_b];exact hne ad rfl) hn hg⟩⟩
theorem QL.mono {k':Nat}(h:QL q w A n c k xs)(hk:k<=k'):QL q w A n c k' xs:=⟨h.len,h.le,h.cap,fun h0=>by
 obtain⟨ad,rfl,h1,h2⟩:=h.at' h0;exact⟨ad,rfl,h1,fun j hj=>(h2 j hj).mono hk⟩⟩
theorem QL.at (h:QL q w A n c k xs){j:Nat}(hj:j<n):∃ad,A=some ad/\ad.block<w.heap.size/\QAt q w (ad.add (j*4)) k (rth xs j):=by
 obtain⟨ad,e,h1,h2⟩:=h.at' (by omega);exact⟨ad,e,h1,h2 j hj⟩
theorem QL.take {m d:Nat}(h:QL q w A n c k xs)(hm:m<=n)(hd:m<=d)(hc:d<=9223372036854775807):QL q w A m d k (xs.take m):=⟨by rw[List.length_take,h.len];omega,hd,hc,fun h0=>by
 obtain⟨ad,rfl,h1,h2⟩:=h.at' (by omega);exact⟨ad,rfl,h1,fun j hj=>by rw[m_d hj];exact h2 j (by omega)⟩⟩
theorem QL.drop {m d:Nat}{ad:Addr}(h:QL q w (some ad) n c k xs)(hm:m<=n)(hd:n - m<=d)(hc:d<=9223372036854775807):QL q w (some (ad.add (m*4))) (n - m) d k (xs.drop m):=⟨by rw[List.length_drop,h.len],hd,hc,fun h0=>by
 obtain⟨ad',e,h1,h2⟩:=h.at' (by omega);cases e;exact⟨_,rfl,by rw[a_b];exact h1,fun j hj=>by rw[m_e,l_w,<-Nat.add_mul];exact h2 (m+j) (by omega)⟩⟩
end
def QB (w:World)(g k:Nat)(f:Nat->Bool)(xs:List Rat):Prop:=
 ∃cs:Array Value,w.heap[g]? =some (.cells cs 42 (0,0))/\cs.size=xs.length*4/\∀j,j<xs.length->∃s A n c t B m d,cs[j*4]? =some (.bool s)/\cs[j*4+1]? =some (.slice A n c)/\cs[j*4+2]? =some (.bool t)/\cs[j*4+3]? =some (.slice B m d)/\Qe (f j) w s A n c t B m d (rth xs j)/\n<=k/\m<=k
def qputo (w:World)(g o:Nat)(s:Bool)(A:Option Addr)(n c:Nat)(t:Bool)(B:Option Addr)(m d:Nat):World:=(((w.setCell ⟨g,o,none⟩ (.bool s)).setCell ⟨g,o+1,none⟩ (.slice A n c)).setCell ⟨g,o+2,none⟩ (.bool t)).setCell ⟨g,o+3,none⟩ (.slice B m d)
section
variable {w w':World}{g k b:Nat}{f:Nat->Bool}{xs:List Rat}
theorem QB.lt (h:QB w g k f xs):g<w.heap.size:=by
 obtain⟨cs,h1,_⟩:=h;exact(Array.getElem?_eq_some_iff.1 h1).1
theorem QB.now (h:QB w g k f xs):Wless w g:=fun p m hp e=>by
 obtain⟨cs,h1,h2,h3⟩:=h;have e2:cs[p.off]? =some (.int .u64 m):=by
  have:=e;unfold World.cell? at this;rw[hp,h1]at this;exact(by simpa using this:p.spot=none/\cs[p.off]? =some (.int .u64 m)).2
 have hlt:p.off<cs.size:=(Array.getElem?_eq_some_iff.1 e2).1;rw[h2]at hlt;obtain⟨s,A,n,c,t,B,m',d,c1,c2,c3,c4,_⟩:=h3 (p.off / 4) (by omega);rcases(by omega:p.off=p.off / 4*4\/p.off=p.off / 4*4+1\/p.off=p.off / 4*4+2\/p.off=p.off / 4*4+3)with ho|ho|ho|ho
 ·rw[ho,c1]at e2;cases e2
 ·rw[ho,c2]at e2;cases e2
 ·rw[ho,c3]at e2;cases e2
 ·rw[ho,c4]at e2;cases e2
theorem QB.below (h:QB w g k f xs)(hb:Below w.heap.size w w'):QB w' g k f xs:=by
 have hl:=h.lt;obtain⟨cs,h1,h2,h3⟩:=h;refine⟨cs,(hb.block g hl).trans h1,h2,fun j hj=>?_⟩;obtain⟨s,A,n,c,t,B,m,d,c1,c2,c3,c4,c5,c6⟩:=h3 j hj;exact⟨s,A,n,c,t,B,m,d,c1,c2,c3,c4,c5.below hb,c6⟩
theorem QB.gro (h:QB w g k f xs)(hne:g≠b)(hn:Wless w b)(hg:w.grownBy w' (some b)):QB w' g k f xs:=by
 have hl:=h.lt;obtain⟨cs,h1,h2,h3⟩:=h;refine⟨cs,(hg.block g hl (fun e=>hne (Option.some.inj e))).trans h1,h2,fun j hj=>?_⟩;obtain⟨s,A,n,c,t,B,m,d,c1,c2,c3,c4,c5,c6⟩:=h3 j hj;exact⟨s,A,n,c,t,B,m,d,c1,c2,c3,c4,c5.gro hn hg,c6⟩
theorem QB.mono {k':Nat}(h:QB w g k f xs)(hk:k<=k'):QB w g k' f xs:=by
 obtain⟨cs,h1,h2,h3⟩:=h;refine⟨cs,h1,h2,fun j hj=>?_⟩;obtain⟨s,A,n,c,t,B,m,d,c1,c2,c3,c4,c5,c6,c7⟩:=h3 j hj;exact⟨s,A,n,c,t,B,m,d,c1,c2,c3,c4,c5,Nat.le_trans c6 hk,Nat.le_trans c7 hk⟩
theorem QB.cells (h:QB w g k f xs){j:Nat}(hj:j<xs.length):∃s A n c t B m d,w.cell? ⟨g,j*4,none⟩=some (.bool s)/\w.cell? ⟨g,j*4+1,none⟩=some (.slice A n c)/\w.cell? ⟨g,j*4+2,none⟩=some (.bool t)/\w.cell? ⟨g,j*4+3,none⟩=some (.slice B m d)/\Qe (f j) w s A n c t B m d (rth xs j)/\n<=k/\m<=k:=by
 obtain⟨cs,h1,h2,h3⟩:=h;obtain⟨s,A,n,c,t,B,m,d,c1,c2,c3,c4,c5⟩:=h3 j hj;exact⟨s,A,n,c,t,B,m,d,by rw[cell_of_row w g _ _ _ _ h1,c1],by rw[cell_of_row w g _ _ _ _ h1,c2],by rw[cell_of_row w g _ _ _ _ h1,c3],by rw[cell_of_row w g _ _ _ _ h1,c4],c5⟩
theorem QB.free (h:QB w g k f xs)(j:Nat):w.frozen? ⟨g,j,none⟩=false:=by
 obtain⟨cs,h1,h2,h3⟩:=h;exact frozen_of_row w g j _ _ h1
theorem d_o (w:World)(g o:Nat)(s:Bool)(A:Option Addr)(n c:Nat)(t:Bool)(B:Option Addr)(m d:Nat):w.grownBy (qputo w g o s A n c t B m d) (some g):=by
 unfold qputo;exact a_d (q:=⟨g,o+3,none⟩) (a_d (q:=⟨g,o+2,none⟩) (a_d (q:=⟨g,o+1,none⟩) (a_d (q:=⟨g,o,none⟩) (a_m w (some g)) rfl _) rfl _) rfl _) rfl _
theorem QB.put (h:QB w g k f xs){q:Bool}{j n c m d:Nat}(hj:j<xs.length){s t:Bool}{A B:Option Addr}{x:Rat}(hz:Qe q w s A n c t B m d x)(hn:n<=k)(hm:m<=k):QB (qputo w g (j*4) s A n c t B m d) g k (fun i=>if i=j then q else f i) (xs.set j x):=by
 have hno:=h.now;have hgr:=d_o w g (j*4) s A n c t B m d;obtain⟨cs,h1,h2,h3⟩:=h;refine⟨(((cs.setIfInBounds (j*4) (.bool s)).setIfInBounds (j*4+1) (.slice A n c)).setIfInBounds (j*4+2) (.bool t)).setIfInBounds (j*4+3) (.slice B m d), ?_,by simp[h2],fun i hi=>?_⟩
 ·unfold qputo;rw[heap_setCell_same _ g _ _ _ _ (heap_setCell_same _ g _ _ _ _ (heap_setCell_same _ g _ _ _ _ (heap_setCell_same w g _ _ _ _ h1)))]
 ·rw[List.length_set]at hi;by_cases e:i=j
  ·subst e;refine⟨s,A,n,c,t,B,m,d, ?_, ?_, ?_, ?_, ?_,hn,hm⟩
   ·rw[Array.getElem?_setIfInBounds_ne (by omega),Array.getElem?_setIfInBounds_ne (by omega),Array.getElem?_setIfInBounds_ne (by omega),Array.getElem?_setIfInBounds_self_of_lt (by omega)]
   ·rw[Array.getElem?_setIfInBounds_ne (by omega),Array.getElem?_setIfInBounds_ne (by omega),Array.getElem?_setIfInBounds_self_of_lt (by simp;omega)]
   ·rw[Array.getElem?_setIfInBounds_ne (by omega),Array.getElem?_setIfInBounds_self_of_lt (by simp;omega)]
   ·rw[Array.getElem?_setIfInBounds_self_of_lt (by simp;omega)]
   ·rw[k_q _ _ _ _ hj,if_pos rfl];dsimp only;rw[if_pos rfl];exact hz.gro hno hgr
  ·obtain⟨s',A',n',c',t',B',m',d',c1,c2,c3,c4,c5,c6⟩:=h3 i hi;refine⟨s',A',n',c',t',B',m',d', ?_, ?_, ?_, ?_, ?_,c6⟩
   ·rw[Array.getElem?_setIfInBounds_ne (by omega),Array.getElem?_setIfInBounds_ne (by omega),Array.getElem?_setIfInBounds_ne (by omega),Array.getElem?_setIfInBounds_ne (by omega)];exact c1
   ·rw[Array.getElem?_setIfInBounds_ne (by omega),Array.getElem?_setIfInBounds_ne (by omega),Array.getElem?_setIfInBounds_ne (by omega),Array.getElem?_setIfInBounds_ne (by omega)];exact c2
   ·rw[Array.getElem?_setIfInBounds_ne (by omega),Array.getElem?_setIfInBounds_ne (by omega),Array.getElem?_setIfInBounds_ne (by omega),Array.getElem?_setIfInBounds_ne (by omega)];exact c3
   ·rw[Array.getElem?_setIfInBounds_ne (by omega),Array.getElem?_setIfInBounds_ne (by omega),Array.getElem?_setIfInBounds_ne (by omega),Array.getElem?_setIfInBounds_ne (by omega)];exact c4
   ·rw[k_q _ _ _ _ hj,if_neg e];dsimp only;rw[if_neg e];exact c5.gro hno hgr
theorem QB.ql (h:QB w g k f xs)(q:Bool){o n c:Nat}(hq:q=true->∀j,j<n->f (o+j)=true)(hn:o+n<=xs.length)(hc:n<=c)(hm:c<=9223372036854775807):QL q w (some ⟨g,o*4,none⟩) n c k ((xs.drop o).take n):=by
 refine⟨by rw[List.length_take,List.length_drop];omega,hc,hm,fun h0=>⟨_,rfl,h.lt,fun j hj=>?_⟩⟩;rw[f_g,<-Nat.add_mul];obtain⟨s,A,n',c',t,B,m',d',c1,c2,c3,c4,c5,c6⟩:=h.cells (j:=o+j) (by omega);refine⟨s,A,n',c',t,B,m',d',c1,c2,c3,c4, ?_,c6⟩;rw[m_d hj,m_e];exact⟨c5.1,fun e=>c5.2 (hq e j hj)⟩
theorem QB.ql0 (h:QB w g k f xs)(q:Bool){n c:Nat}(hq:q=true->∀j,j<n->f j=true)(hn:n<=xs.length)(hc:n<=c)(hm:c<=9223372036854775807):QL q w (some ⟨g,0,none⟩) n c k (xs.take n):=by
 have:=h.ql q (o:=0) (fun e j hj=>by rw[Nat.zero_add];exact hq e j hj) (by omega) hc hm;rwa [List.drop_zero,Nat.zero_mul]at this
end
theorem info_rat:(Tryz.prog.info? 42).map (fun i=>(i.zero,i.size,i.bytes))=some (some (.agg #[.bool false,.slice none 0 0,.bool false,.slice none 0 0]),4,64):=by kernel_rfl
theorem Qv.nought (w:World):Qv w false none 0 0 false none 0 0 0:=⟨0,0,(Zc.nought w).zv,(Zc.nought w).zv,Lib.hid (by decide)⟩
theorem QB.made (w:World)(n:Nat):QB (w.alloc (.cells (madeCells #[.bool false,.slice none 0 0,.bool false,.slice none 0 0] (n*4)) 42)) w.heap.size 0 (fun _=>false) (List.replicate n 0):=by
 refine⟨_,heap_alloc_new w _,by simp[size_madeCells],fun j hj=>?_⟩;rw[List.length_replicate]at hj;refine⟨false,none,0,0,false,none,0,0, ?_, ?_, ?_, ?_, ?_,Nat.le_refl _,Nat.le_refl _⟩
 ·rw[Array.getElem?_eq_some_iff];refine⟨by rw[size_madeCells];omega, ?_⟩;simp[madeCells]
 ·rw[Array.getElem?_eq_some_iff];refine⟨by rw[size_madeCells];omega, ?_⟩;have:(j*4+1)%4=1:=by omega
  simp[madeCells,this]
 ·rw[Array.getElem?_eq_some_iff];refine⟨by rw[size_madeCells];omega, ?_⟩;have:(j*4+2)%4=2:=by omega
  simp[madeCells,this]
 ·rw[Array.getElem?_eq_some_iff];refine⟨by rw[size_madeCells];omega, ?_⟩;have:(j*4+3)%4=3:=by omega
  simp[madeCells,this]
 ·rw[show rth (List.replicate n 0) j=0 by simp[rth,List.getD,hj]];exact⟨Qv.nought _,fun e=>nomatch e⟩
theorem h_0 {P:Program}(w:World){ops:Array Oper}{rest:List Oper}{o:Oper}{a:Act}{Q:Exit->Act->World->Prop}
  (hg:o.guard=none) (l c:Operand) (t:TypeId) (hop:o.op=Op.makeSlice t l c)
  (ht:P.underlying t=some (.slice 42)) (hinfo:(P.info? 42).map (fun i=>(i.zero,i.size,i.bytes))=some (some (.agg #[.bool false,.slice none 0 0,.bool false,.slice none 0 0]),4,64))
  (kl kc:IntKind) (L C:Int) (n:Nat) (hl:a.eval l= .int kl L) (hc:a.eval c= .int kc C) (hL:L=(n:Int)) (hC:C=(n:Int)) (hbytes:n<=2199023255552)
  (hK:∀w',QB w' w.heap.size 0 (fun _=>false) (List.replicate n 0)->Below w.heap.size w w'->w'.heap.size=w.heap.size+1->wpList P ops Q rest (a.put o.dst (.slice (some ⟨w.heap.size,0,none⟩) n n)) w'):
  wpList P ops Q (o::rest) a w:=by
 subst hL hC;obtain⟨i,hi,hz0,hz1,hz2⟩:=info_parts hinfo;have hrun:=run_make (P:=P) w t 42 i (.agg #[.bool false,.slice none 0 0,.bool false,.slice none 0 0]) ht hi hz0 kl kc (n:Int) (n:Int) (by omega) (Int.le_refl _) (by rw[hz2];omega) (by omega);refine wpList_plain hg fun K hK'=>?_;unfold Oper.wp;simp[execOp,hop,hl,hc,hrun,Result.andThen];refine hK' _ _ (hK _ ?_ ((Below.refl _ _).alloc (Nat.le_refl _) _) (by simp));rw[hz1];exact QB.made w n
end
section
open Go.Joins Go.ChangeShapes Go.WideShapes Go.RowKit Go.Deep
section
variable {H:Type}{enc:TypeId × Value->H}{P:Program}{W:World}{base:Nat}{held:Bool}
theorem j_w {r:Reach}{b0:Nat}{t:TypeId}{f0 f1:Field}{e:TypeId}{v:Value}{d:DataW H}{ps:List MemPlace}(ht:P.underlying t=some (.struct #[f0,f1]))(hone:oneCellFields P #[f0,f1]=true)(hC:P.cellsOf t=2)
  (hb:P.underlying f0.type=some .bool) (hs:P.underlying f1.type=some (.slice e)) (he:P.underlying e=some (.int .u64)) (hc:P.cellsOf e=1)
  (hv:Value.okWide P W r b0 t v) (h:DataW.Trod enc P W base (fun _=>true) held t v d ps):
  ∃(s:Bool) (A:Option Addr) (n c:Nat) (zs:List Int),v= .agg #[.bool s,.slice A n c]/\IsRow .u64 W A n c zs:=by
 obtain⟨v0,v1,y0,y1,m,rfl,_,_,h0,h1⟩:=open_agg2 ht hone hC hv h;obtain⟨s,hs0,_⟩:=DataW.trod_bool hb h0;rcases open_ints hs he hc h1 with⟨hcs,_⟩|⟨x,l,c,zs,hcs,_,hl,hm,hz,_,hcell,hwz⟩
 ·simp at hs0 hcs;subst hs0 hcs;exact⟨s,none,0,0,[],rfl,.inl ⟨rfl,rfl,rfl,rfl⟩⟩
 ·simp at hs0 hcs;subst hs0 hcs;exact⟨s,some x,l,c,zs,rfl,.inr ⟨_,rfl,hl,hm,by simpa using hz,hcell,hwz⟩⟩
end
end
section
open Go.RowKit
structure Zr where
 s:Bool
 A:Option Addr
 n:Nat
 c:Nat
 z:Int
def nzr:Zr:=⟨false,none,0,0,0⟩
structure RL (w:World) (A:Option Addr) (n c:Nat) (R:List Zr):Prop where
 len:R.length=n
 le:n<=c
 cap:c<=9223372036854775807
 at':0<n->∃ad,A=some ad/\ad.block<w.heap.size/\∀j,j<n->w.cell? (ad.add (j*2))=some (.bool (R.getD j nzr).s)/\w.cell? ⟨(ad.add (j*2)).block,(ad.add (j*2)).off+1,none⟩=some (.slice (R.getD j nzr).A (R.getD j nzr).n (R.getD j nzr).c)
 num:∀x,x∈R->Zv w x.s x.A x.n x.c x.z
theorem RL.below {w w':World}{A:Option Addr}{n c:Nat}{R:List Zr}(h:RL w A n c R)(hb:Below w.heap.size w w'):RL w' A n c R:=⟨h.len,h.le,h.cap,fun h0=>by
 obtain⟨ad,rfl,h1,h2⟩:=h.at' h0;exact⟨ad,rfl,Nat.lt_of_lt_of_le h1 hb.size,fun j hj=>⟨(hb.cell (by rw[a_b];exact h1)).trans (h2 j hj).1,(hb.cell (p:=⟨(ad.add (j*2)).block,(ad.add (j*2)).off+1,none⟩) (by show(ad.add (j*2)).block<_;rw[a_b];exact h1)).trans (h2 j hj).2⟩⟩,fun x hx=>(h.num x hx).below hb⟩
def nums (R:List Zr):List Int:=R.map (·.z)
theorem RL.zl {w:World}{A:Option Addr}{n c k:Nat}{R:List Zr}(h:RL w A n c R)(hk:∀j,j<n->(R.getD j nzr).n<=k):ZL false w A n c k (nums R):=⟨by unfold nums;rw[List.length_map];exact h.len,h.le,h.cap,fun h0=>by
 obtain⟨ad,rfl,h1,h2⟩:=h.at' h0;refine⟨ad,rfl,h1,fun j hj=>?_⟩;have hl:j<R.length:=by rw[h.len];exact hj
 have e:R.getD j nzr=R[j]:=by simp[List.getD,hl]
 have e2:ith (nums R) j=R[j].z:=by simp[ith,nums,List.getD,hl]
 obtain⟨c1,c2⟩:=h2 j hj;refine⟨_,_,_,_,c1,c2,⟨?_,fun e=>nomatch e⟩,hk j hj⟩;rw[e,e2];exact h.num _ (List.getElem_mem hl)⟩
def Fw (R:List Zr)(N W:Nat):Prop:=R.length<=N/\∀j,j<R.length->j<100->(R.getD j nzr).n<=W
theorem y_u {R:List Zr}{N W:Nat}(h:Fw R N W)(hN:N<=100)(j:Nat)(hj:j<R.length):(R.getD j nzr).n<=W:=h.2 j hj (by have:=h.1;omega)
instance (R:List Zr)(N W:Nat):Decidable (Fw R N W):=by unfold Fw;infer_instance
def fwb (R:List Zr)(N W:Nat):Bool:=decide (Fw R N W)
theorem m_q {R:List Zr}{N W:Nat}(h:Fw R N W):fwb R N W=true:=by unfold fwb;exact decide_eq_true h
theorem g_s {R:List Zr}{N W:Nat}(h:¬Fw R N W):fwb R N W=false:=by unfold fwb;exact decide_eq_false h
theorem y_a {R:List Zr}{N W:Nat}(h:fwb R N W=true):Fw R N W:=by unfold fwb at h;exact of_decide_eq_true h
theorem r_l {A:Option Addr}{n c N W:Nat}{R:List Zr}{b:Bool}{w:World}(hx:RL w A n c R)(hN:N<=1000)(hW':W<=1000)(hb:fwb R N W=b):
  Calls Tryz.prog 42 #[.slice A n c,.int .i64 (N:Int),.int .i64 (W:Int)] w (fun e w'=>e= .returned (.bool b)/\Below w.heap.size w w'):=by
 have HX0:=Lib.hid hx;have HN:=Lib.hid hx.len;have Hb:=Lib.hid hb;have hnc:=hx.le;have hcm:=hx.cap;clear hx hb;go_enter Tryz.func42,Tryz.ntmps42
 go_wp2_with fail
 go_loopw [7] (fun s7 wr=>∃j:Nat,s7= .int .i64 (j:Int)/\j<=n/\Hid (∀i,i<j->(R.getD i nzr).n<=W)/\wr=w) (fun s7 _=>n - (intOf s7).toNat)
 case atStart=>exact⟨0,rfl,Nat.zero_le _,Lib.hid fun i hi=>by omega,rfl⟩
 case round=>
  obtain⟨j,rfl,hj,HE,rfl⟩:=hrel;by_cases hlt:j<n
  ·have u2:(j:Int)<(n:Int):=by omega
   by_cases h100:j<100
   ·have u3:(j:Int)<100:=by omega
    have u1:(0:Int)<=(j:Int):=by omega
    obtain⟨ad,rfl,hab,hc⟩:=HX0.out.at' (by omega);obtain⟨c1,c2⟩:=hc j hlt;obtain⟨x,hx⟩:∃x,R.getD j nzr=x:=⟨_,rfl⟩;rw[hx]at c1 c2;have HX:=Lib.hid hx;clear hc hab hx;by_cases hw:x.n<=W
    ·have u4:¬(W:Int)<(x.n:Int):=by omega
     have HE2:Hid (∀i,i<j+1->(R.getD i nzr).n<=W):=Lib.hid fun i hi=>by
      rcases Nat.lt_or_ge i j with h|h
      ·exact HE.out i h
      ·rw[show i=j by omega,HX.out];exact hw
     clear hw
     go_wp2_with fail
     go_roundw
     case rel=>exact⟨j+1,by go_num,by omega,HE2,trivial⟩
     case measure=>first|(simp[intOf];done)|(simp[intOf];omega)
    ·have u4:(W:Int)<(x.n:Int):=by omega
     have hbf:b=false:=by
      rw[<-Hb.out];exact g_s fun h=>hw (by rw[<-HX.out];exact h.2 j (by rw[HN.out];exact hlt) h100)
     have HBF:=Lib.hid hbf;clear hbf hw
     go_wp2_with fail
     exact bodyPost_ret (v:=.bool false) (by simp[results,Tryz.results42,go_sem]) rfl ⟨by rw[HBF.out],Below.refl _ _⟩
   ·have u3:¬(j:Int)<100:=by omega
    obtain⟨t,ht⟩:∃t,decide ((n:Int)<=(N:Int))=t:=⟨_,rfl⟩;have hbt:b=t:=by
     rw[<-Hb.out,<-ht];by_cases hnN:n<=N
     ·rw[decide_eq_true (by omega)];exact m_q ⟨by rw[HN.out];exact hnN,fun i hi h1=>HE.out i (by omega)⟩
     ·rw[decide_eq_false (by omega)];exact g_s fun h=>hnN (by have:=h.1;rw[HN.out]at this;exact this)
    have HBT:=Lib.hid hbt;have HTT:=Lib.hid ht;clear hbt ht
    go_wp2_with fail
    exact bodyPost_ret (v:=.bool (decide ((n:Int)<=(N:Int)))) (by simp[results,Tryz.results42,go_sem]) rfl ⟨by rw[HBT.out,HTT.out],Below.refl _ _⟩
  ·obtain rfl:j=n:=by omega
   have u3:¬(j:Int)<(j:Int):=by omega
   obtain⟨t,ht⟩:∃t,decide ((j:Int)<=(N:Int))=t:=⟨_,rfl⟩;have hbt:b=t:=by
    rw[<-Hb.out,<-ht];by_cases hnN:j<=N
    ·rw[decide_eq_true (by omega)];exact m_q ⟨by rw[HN.out];exact hnN,fun i hi h1=>HE.out i (by rw[HN.out]at hi;exact hi)⟩
    ·rw[decide_eq_false (by omega)];exact g_s fun h=>hnN (by have:=h.1;rw[HN.out]at this;exact this)
   have HBT:=Lib.hid hbt;have HTT:=Lib.hid ht;clear hbt ht
   go_wp2_with fail
   exact bodyPost_ret (v:=.bool (decide ((j:Int)<=(N:Int)))) (by simp[results,Tryz.results42,go_sem]) rfl ⟨by rw[HBT.out,HTT.out],Below.refl _ _⟩
end
section
open Go.Joins Go.ChangeShapes Go.WideShapes Go.RowKit Go.Deep
section
variable {H:Type}{enc:TypeId × Value->H}{P:Program}{W:World}{base:Nat}{held:Bool}
theorem v_v {t e:TypeId}{f0 f1:Field}{q:TypeId}{A:Option Addr}{n c:Nat}{d:DataW H}{ps:List MemPlace}(ht:P.underlying t=some (.slice e))(he:P.underlying e=some (.struct #[f0,f1]))(hone:oneCellFields P #[f0,f1]=true)(hC:P.cellsOf e=2)
  (hb:P.underlying f0.type=some .bool) (hs:P.underlying f1.type=some (.slice q)) (hq:P.underlying q=some (.int .u64)) (hc:P.cellsOf q=1)
  (h:DataW.Trod enc P W base (fun _=>true) held t (.slice A n c) d ps) (hlt:∀x∈ps,x.block<W.heap.size):
  ∃R:List Zr,RL W A n c R:=by
 obtain⟨fuel,hf⟩:=h;rcases open_slice ht hf with⟨hcs,hx⟩|⟨a,len,cap,m,n',D,Pl,hcs,hb0,hl,hm,hmm,hx,hi⟩
 ·simp[Value.cells]at hcs;obtain⟨rfl,rfl,rfl⟩:=hcs;exact⟨[],rfl,Nat.le_refl _,by omega,fun h=>by omega,fun x hx=>(by cases hx)⟩
 ·simp[Value.cells]at hcs;obtain⟨rfl,rfl,rfl⟩:=hcs;simp only[if_true]at hmm;subst hmm;rw[hC]at hi hx;have each:∀i,i<m->∃y:Zr,W.cell? (a.add (i*2))=some (.bool y.s)/\W.cell? ⟨(a.add (i*2)).block,(a.add (i*2)).off+1,none⟩=some (.slice y.A y.n y.c)/\Zv W y.s y.A y.n y.c y.z:=by
   intro i him;obtain⟨cs',h1,h2⟩:=hi i him;obtain⟨_,h3,h4⟩:=World.cells?_some h1;obtain⟨xs,n'',_,hy,_,hlen,hg⟩:=DataW.trod_struct he h2;obtain⟨o0,k0⟩:=hone_of hone 0 f0 rfl;obtain⟨o1,k1⟩:=hone_of hone 1 f1 rfl;match cs',h3 with
   | [v0,v1],_=>
    match xs,hlen with
    | [y0,y1],_=>
     have g0:=hg 0 f0 rfl;have g1:=hg 1 f1 rfl;rw[o0,k0]at g0;rw[o1,k1]at g1;simp at g0 g1;have c0:W.cell? (a.add (i*2))=some v0:=by have:=h4 0 (by omega);simpa [Addr.add] using this
     have c1:W.cell? ⟨(a.add (i*2)).block,(a.add (i*2)).off+1,none⟩=some v1:=by have:=h4 1 (by omega);simpa [Addr.add] using this
     simp only[Prod.mk.injEq]at hy;obtain⟨s,hs0,_⟩:=DataW.trod_bool hb g0;have hs0:v0= .bool s:=by simpa using hs0
     subst hs0;rcases open_ints hs hq hc g1 with⟨hcs,hz⟩|⟨x,l,c,zs,hcs,_,hl',hm',hz,hdat,hcell,hwz⟩
     ·have hcs:v1= .slice none 0 0:=by simpa using hcs
      subst hcs;obtain⟨v,hv⟩:=(show IsRow .u64 W none 0 0 []from .inl ⟨rfl,rfl,rfl,rfl⟩).nv;exact⟨⟨s,none,0,0,sg s v⟩,c0,c1,⟨v,hv,Lib.hid rfl⟩⟩
     ·have hcs:v1= .slice (some x) l c:=by simpa using hcs
      subst hcs;obtain⟨v,hv⟩:=(show IsRow .u64 W (some x) l c zs from .inr ⟨_,rfl,hl',hm',by simpa using hz,hcell,hwz⟩).nv;exact⟨⟨s,some x,l,c,sg s v⟩,c0,c1,⟨v,hv,Lib.hid rfl⟩⟩
  haveI:Inhabited Zr:=⟨nzr⟩
  obtain⟨y,hy⟩:=choose_lt each;have hg:∀j,j<n->((List.range n).map y).getD j nzr=y j:=fun j hj=>by simp[List.getD,hj]
  refine⟨(List.range n).map y,by simp,(by first|omega|(simp only[maxLen]at*;omega)),(by first|omega|(simp only[maxLen]at*;omega)),fun h0=>⟨a,rfl, ?_,fun j hj=>?_⟩,fun x hx=>?_⟩
  ·have h1:=(hy 0 (by omega)).1
   have:=World.block_lt_of_cell? W _ h1;rwa [a_b]at this
  ·rw[hg j hj]
   have:=hy j (by omega);exact⟨this.1,this.2.1⟩
  ·obtain⟨j,hj,rfl⟩:=List.mem_map.1 hx;exact(hy j (by have:=List.mem_range.1 hj;omega)).2.2
end
end
section
open Go.Joins Go.ChangeShapes Go.WideShapes Go.RowKit Go.Deep
section
variable {H:Type}{enc:TypeId × Value->H}{P:Program}{W:World}{base:Nat}{held:Bool}
theorem i_m {r:Reach}{b0:Nat}{t e:TypeId}{f0 f1 f2 g0 g1:Field}{q:TypeId}{v:Value}{d:DataW H}{ps:List MemPlace}(ht:P.underlying t=some (.struct #[f0,f1,f2]))(hone:oneCellFields P #[f0,f1,f2]=true)(hC:P.cellsOf t=3)
  (h0:P.underlying f0.type=some (.int .i64)) (h1:P.underlying f1.type=some (.int .i64)) (h2:P.underlying f2.type=some (.slice e)) (he:P.underlying e=some (.struct #[g0,g1])) (hone2:oneCellFields P #[g0,g1]=true) (hC2:P.cellsOf e=2)
  (hb:P.underlying g0.type=some .bool) (hs:P.underlying g1.type=some (.slice q)) (hq:P.underlying q=some (.int .u64)) (hc:P.cellsOf q=1)
  (hv:Value.okWide P W r b0 t v) (h:DataW.Trod enc P W base (fun _=>true) held t v d ps) (hlt:∀x∈ps,x.block<W.heap.size):
  ∃(x y:Int) (A:Option Addr) (n c:Nat) (R:List Zr),v= .agg #[.int .i64 x,.int .i64 y,.slice A n c]/\RL W A n c R:=by
 obtain⟨v0,v1,v2,y0,y1,y2,m,rfl,_,hp,k0,k1,k2⟩:=open_agg3 ht hone hC hv h;obtain⟨x,hx,_,_⟩:=DataW.trod_int h0 k0;obtain⟨y,hy,_,_⟩:=DataW.trod_int h1 k1;have hl2:∀x∈y2.2,x.block<W.heap.size:=fun x hx=>hlt x (by rw[hp];simp[hx]);have hsl:∃A n c,v2= .slice A n c:=by
  rcases open_slice h2 k2 with⟨hcs,_⟩|⟨a,len,cap,m,n',D,Pl,hcs,_⟩
  ·exact⟨none,0,0,by simpa using hcs⟩
  ·exact⟨some a,len,cap,by simpa using hcs⟩
 obtain⟨A,n,c,rfl⟩:=hsl;obtain⟨R,hR⟩:=v_v (d:=y2.1) (ps:=y2.2) h2 he hone2 hC2 hb hs hq hc ⟨m,by simpa [Value.cells] using k2⟩ hl2;simp at hx hy;subst hx hy;exact⟨x,y,A,n,c,R,rfl,hR⟩
end
end
section
open Go.RowKit
def NWd (u:Value):Prop:=∀m:Int,u≠ .int .u64 m
def OwnN (w:World)(base:Nat)(e:TypeId)(v:Value)(n:Nat)(xs:List Value):Prop:=
 w.ownsRow base e 2 v n xs/\∀g cs,v.ownBlock=some g->w.heap[g]? =some (.cells cs e (0,0))->∀u,u∈cs.toList->NWd u
theorem OwnN.wless {w:World}{base g:Nat}{e:TypeId}{v:Value}{n:Nat}{xs:List Value}(h:OwnN w base e v n xs)(hg:v.ownBlock=some g):Wless w g:=fun p m hp hc=>by
 rcases h.1.2 with⟨rfl,_⟩|⟨g',cap,cur,rfl,hb,hh,_⟩
 ·cases hg
 ·have e':g'=g:=by simpa [Value.ownBlock] using hg
  subst e';have e2:cur[p.off]? =some (.int .u64 m):=by
   unfold World.cell? at hc;rw[hp,hh]at hc;exact(by simpa using hc:p.spot=none/\cur[p.off]? =some (.int .u64 m)).2
  exact h.2 g' cur hg hh (.int .u64 m) (by rw[<-Array.getElem?_toList]at e2;exact List.mem_of_getElem? e2) m rfl
theorem q_x {z:Array Value}(hs:z.size=2)(hz:∀u,u∈z.toList->NWd u)(k:Nat)(u:Value)(hu:u∈(Builtin.zeroCells z k).toList):NWd u:=by
 unfold Builtin.zeroCells at hu;rw[Array.toList_map,List.mem_map]at hu;obtain⟨i,hi,rfl⟩:=hu;have hlt:i%z.size<z.size:=Nat.mod_lt _ (by omega);rw[getElem!_pos z _ hlt];exact hz _ (Array.getElem_mem_toList hlt)
section
variable {P:Program}(w:World)
theorem j_e (base:Nat)(t ty e:TypeId)(i:TypeInfo)(z:Value)(bytes:Nat)(ht:P.underlying t=some (.slice e))(hi:P.info? e=some i)(hz:i.zero=some z)
  (hsize:i.size=2) (hby:i.bytes=bytes) (hzs:z.cells.size=2) (hzn:∀u,u∈z.cells.toList->NWd u)
  (v:Value) (n:Nat) (xs:List Value) (hown:OwnN w base e v n xs)
  (a:Addr) (c:Nat) (news:List Value) (hl:news.length=2) (hnews:∀j u,news[j]? =some u->w.cell? (a.add j)=some u) (h1:∀u∈news,u.oneCell'=true) (hn:∀u,u∈news->NWd u)
  (h63:n+1<=maxLen) (hbytes:(n+1)*bytes<=140737488355328) (hbase:base<=w.heap.size):
  ∃v' w',(Builtin.append_ #[t,t] ty #[v,.slice (some a) 1 c]).run P w= .ok v' w'/\OwnN w' base e v' (n+1) (xs++news)/\w.grownBy w' v.ownBlock/\(v'.ownBlock=v.ownBlock\/v'.ownBlock=some w.heap.size):=by
 obtain⟨v',w',hr,ho,hg,-⟩:=run_append_own (P:=P) w base t ty e i z 2 bytes ht hi hz hsize hby hzs (by omega) v n xs hown.1 a 1 c news (by omega) hnews h1 h63 hbytes hbase;suffices H:(∀g cs,v'.ownBlock=some g->w'.heap[g]? =some (.cells cs e (0,0))->∀u,u∈cs.toList->NWd u)/\(v'.ownBlock=v.ownBlock\/v'.ownBlock=some w.heap.size)from⟨v',w',hr,⟨ho,H.1⟩,hg,H.2⟩
 have hsmall:n+1<=9223372036854775807:=by simp only[maxLen]at h63;omega
 have zz:=q_x hzs hzn;have fresh:∀(ys:List Value) (k:Nat) (cap:Nat),(∀u,u∈ys->NWd u)->v'= .slice (some ⟨w.heap.size,0,none⟩) (n+1) cap->w'=w.drew.alloc (.cells (ys.toArray++news.toArray++Builtin.zeroCells z.cells k) e)->
   ∀g cs,v'.ownBlock=some g->w'.heap[g]? =some (.cells cs e (0,0))->∀u,u∈cs.toList->NWd u:=fun ys k cap hys e1 e2 g cs h2 h3 u hu=>by
  subst e1 e2;have e3:w.heap.size=g:=by simpa [Value.ownBlock] using h2
  subst e3;have h9:(w.drew.alloc (.cells (ys.toArray++news.toArray++Builtin.zeroCells z.cells k) e)).heap[w.heap.size]? =some (.cells (ys.toArray++news.toArray++Builtin.zeroCells z.cells k) e (0,0)):=heap_alloc_new w.drew _;rw[h9]at h3;injection h3 with e4
  injection e4 with e5
  subst e5;simp only[Array.toList_append,List.mem_append]at hu;rcases hu with(hu|hu)|hu
  ·exact hys u hu
  ·exact hn u hu
  ·exact zz k u hu
 rcases hown.1.2 with⟨rfl,rfl⟩|⟨g,cap,cur,rfl,hbg,hh,hnc,hcm,hcs,htake⟩
 ·have hr2:=Go.run_append_nil (P:=P) w t ty e i z ht hi hz a 1 c news (by omega) hnews (by omega) (by omega) (by simp only[Nat.zero_add]at hbytes;omega);rw[hr]at hr2;injection hr2 with e1 e2
  exact⟨fresh [] (grownCap w 1 0 e - 1) (grownCap w 1 0 e) (fun u hu=>nomatch hu) e1 (by rw[e2];simp),.inr (by rw[e1];rfl)⟩
 ·have hcur:∀u,u∈cur.toList->NWd u:=hown.2 g cur rfl hh;have hxs:∀u,u∈xs->NWd u:=fun u hu=>hcur u (by rw[<-htake]at hu;exact List.mem_of_mem_take hu);by_cases hroom:n+1<=cap
  ·have hfit:n*i.size+news.length<=cur.size:=by rw[hl,hcs,hsize];omega
   have hr2:=run_append_room (P:=P) w t ty e i ht hi g n cap cur hh a 1 c news (by omega) hnews h1 hroom hfit;rw[hr]at hr2;injection hr2 with e1 e2
   refine⟨?_,.inl (by rw[e1];rfl)⟩;intro g' cs h2 h3 u hu;subst e1 e2;have e3:g=g':=by simpa [Value.ownBlock] using h2
   subst e3;rw[setRow_heap w g cur _ e _ hh]at h3;injection h3 with e4
   injection e4 with e5
   subst e5;simp only[List.mem_append]at hu;rcases hu with(hu|hu)|hu
   ·exact hcur u (List.mem_of_mem_take hu)
   ·exact hn u hu
   ·exact hcur u (List.mem_of_mem_drop hu)
  ·have holds:∀j u,xs[j]? =some u->w.cell? ((⟨g,0,none⟩:Addr).add j)=some u:=hown.1.cells (g:=g) rfl;have hr2:=run_append_grow (P:=P) w t ty e i z ht hi hz ⟨g,0,none⟩ n cap xs (by rw[hown.1.1,hsize]) holds a 1 c news (by omega) hnews (by omega) (by omega) (growslice_fits (by omega) (by rw[hby];exact hbytes));rw[hr]at hr2;injection hr2 with e1 e2
   exact⟨fresh xs _ _ hxs e1 e2,.inr (by rw[e1];rfl)⟩
end
structure OwnZ (w0 w:World) (k:Nat) (v:Value) (zs:List Int):Prop where
 row:∃vs:List Value,OwnN w w0.heap.size 31 v zs.length vs/\∀j,j<zs.length->∃s A n c,vs[j*2]? =some (.bool s)/\vs[j*2+1]? =some (.slice A n c)/\Zc w s A n c (ith zs j)/\n<=k
 old:Below w0.heap.size w0 w
theorem OwnZ.form {w0 w:World}{k:Nat}{v:Value}{zs:List Int}(h:OwnZ w0 w k v zs):∃A c,v= .slice A zs.length c/\∀q,ZL q w A zs.length c k zs:=by
 obtain⟨⟨vs,⟨h1,h2⟩,h3⟩,h4⟩:=h;rcases h1.2 with⟨rfl,e⟩|⟨g,cap,cur,rfl,hb,hh,hn,hm,hcs,ht⟩
 ·rw[List.length_eq_zero_iff.1 e];exact⟨none,0,rfl,fun q=>ZL.nil _ _ _⟩
 ·refine⟨_,cap,rfl,fun q=>⟨rfl,hn,by unfold maxLen at hm;omega,fun h0=>⟨_,rfl,(Array.getElem?_eq_some_iff.1 hh).1,fun j hj=>?_⟩⟩⟩;obtain⟨s,A,n,c,c1,c2,c3,c4⟩:=h3 j hj;have hc:=h1.cells (g:=g) rfl;refine⟨s,A,n,c,hc _ _ c1, ?_,.of c3,c4⟩
  have:=hc _ _ c2;rw[a_5]at this;rw[a_5];exact this
structure Grew (w w':World) (v v':Value):Prop where
 by':w.grownBy w' v.ownBlock
 now:∀g,v.ownBlock=some g->Wless w g
 to':v'.ownBlock=v.ownBlock\/v'.ownBlock=some w.heap.size
theorem Grew.zc {w w':World}{v v':Value}(h:Grew w w' v v'){s:Bool}{A:Option Addr}{n c:Nat}{y:Int}(hy:Zc w s A n c y):Zc w' s A n c y:=by
 have h6:=h.by';cases hvb:v.ownBlock with
 |none=>rw[hvb]at h6;exact hy.below ⟨h6.os,h6.tape,h6.output,h6.size,fun k hk=>h6.block k hk (by simp)⟩
 |some g=>rw[hvb]at h6;exact hy.gro (h.now g hvb) h6
def Dj (u v:Value):Prop:=u.ownBlock=none\/u.ownBlock≠v.ownBlock
theorem Dj.symm {u v:Value}(h:Dj u v):Dj v u:=by
 unfold Dj at *;cases hv:v.ownBlock with
 |none=>exact .inl rfl
 |some g=>
  right;rw[hv]at h;rcases h with h|h
  ·rw[h];simp
  ·exact Ne.symm h
theorem k_f {P:Program}(w0 w1:World){ops:Array Oper}{rest:List Oper}{o:Oper}{a:Act}{Q:Exit->Act->World->Prop}(hgd:o.guard=none)(s x:Operand)(t:TypeId)
  (ho:o.op= .call { callee:=.builtin .append,args:=#[s,x],argTypes:=#[t,t] })
  (ht:P.underlying t=some (.slice 31)) (hinfo:(P.info? 31).map (fun i=>(i.zero,i.size,i.bytes))=some (some (.agg #[.bool false,.slice none 0 0]),2,32))
  (k:Nat) (v:Value) (zs:List Int) (hs:a.eval s=v) (hown:OwnZ w0 w1 k v zs) {sb:Bool} {A:Option Addr} {n c g:Nat} {z:Int} (hc0:w1.cell? ⟨g,0,none⟩=some (.bool sb)) (hc1:w1.cell? ⟨g,1,none⟩=some (.slice A n c)) (hz:Zc w1 sb A n c z) (hn:n<=k)
  (hx:a.eval x= .slice (some ⟨g,0,none⟩) 1 1) (hlen:zs.length<=1099511627776)
  (h:∀v' w',OwnZ w0 w' k v' (zs++[z])->Grew w1 w' v v'->wpList P ops Q rest (a.put o.dst v') w'):
  wpList P ops Q (o::rest) a w1:=by
 obtain⟨i,hi,hz0,hz1,hz2⟩:=info_parts hinfo;have hsz:=hown.old.size;have hzz:=hz;obtain⟨⟨vs,h1,h3⟩,h4⟩:=hown;obtain⟨v',w',hr,h5,h6,h8⟩:=j_e (P:=P) w1 w0.heap.size t o.type 31 i (.agg #[.bool false,.slice none 0 0]) 32 ht hi hz0 hz1 hz2 rfl (fun u hu=>by
   simp[Value.cells]at hu;rcases hu with rfl|rfl<;>exact fun m e=>nomatch e) v zs.length vs h1 ⟨g,0,none⟩ 1 [.bool sb,.slice A n c] rfl (fun j u hu=>by
   rw[a_5];match j,hu with
   |0,hu=>simp at hu;subst hu;exact hc0
   |1,hu=>simp at hu;subst hu;exact hc1) (fun u hu=>by
   simp at hu;rcases hu with rfl|rfl<;>rfl) (fun u hu=>by
   simp at hu;rcases hu with rfl|rfl<;>exact fun m e=>nomatch e) (by unfold maxLen;omega) (by omega) (by omega)
 refine wpList_plain hgd fun K hK'=>?_;unfold Oper.wp execOp;simp only[ho,resolve,invoke,builtin,Sem.run_bind,Sem.run_pure,Result.andThen_ok,List.map_toArray,List.map_cons,List.map_nil,hs,hx,hr];have keep:∀ {s':Bool} {A':Option Addr} {n' c':Nat} {y:Int},Zc w1 s' A' n' c' y->Zc w' s' A' n' c' y:=fun {s' A' n' c' y} hy=>by
  cases hvb:v.ownBlock with
  |none=>rw[hvb]at h6;exact hy.below ⟨h6.os,h6.tape,h6.output,h6.size,fun k hk=>h6.block k hk (by simp)⟩
  |some g=>rw[hvb]at h6;exact hy.gro (h1.wless hvb) h6
 have hvl:vs.length=zs.length*2:=h1.1.1;have hG:Grew w1 w' v v':=⟨h6,fun g hg=>h1.wless hg,h8⟩;refine hK' _ _ (h v' w' ⟨⟨_,by rw[List.length_append];exact h5,fun j hj=>?_⟩, ?_⟩ hG)
 ·rw[List.length_append,List.length_singleton]at hj;rcases Nat.lt_or_ge j zs.length with hlt|hge
  ·obtain⟨s',A',n',c',c1,c2,c3,c4⟩:=h3 j hlt;refine⟨s',A',n',c',by rw[List.getElem?_append_left (by omega)];exact c1,by rw[List.getElem?_append_left (by omega)];exact c2, ?_,c4⟩;rw[show ith (zs++[z]) j=ith zs j by simp[ith,List.getD,List.getElem?_append_left hlt]];exact keep c3
  ·obtain rfl:j=zs.length:=by omega
   refine⟨sb,A,n,c,by rw[List.getElem?_append_right (by omega),hvl,Nat.sub_self];rfl,by rw[List.getElem?_append_right (by omega),hvl,show zs.length*2+1 - zs.length*2=1 by omega];rfl, ?_,hn⟩;rw[show ith (zs++[z]) zs.length=z by simp[ith,List.getD]];exact keep hzz
 ·exact h4.grown h6 h4.size (fun k hk=>(h1.1.lt k hk).1)
end
end Go.Proofs.YtfhbdlegkdbmfaaGreat
