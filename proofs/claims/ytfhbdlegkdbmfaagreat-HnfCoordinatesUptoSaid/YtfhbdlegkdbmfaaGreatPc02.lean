/- Pc02 -/
import Derived.Test.YtfhbdlegkdbmfaaGreatPc01
import Derived.Deep.RegionLaw
import Derived.IntWalk
set_option linter.unusedVariables false
set_option linter.unusedSimpArgs false
set_option linter.unusedSectionVars false
set_option maxRecDepth 100000
set_option maxHeartbeats 8000000
namespace Go.Proofs.YtfhbdlegkdbmfaaGreat
open Go.RowKit
def OwnV (w0 w:World)(t:TypeId)(K:IntKind)(v:Value)(zs:List Nat):Prop:=
 w.ownsRow w0.heap.size t 1 v zs.length (vs K zs)/\Below w0.heap.size w0 w
theorem OwnV.form {w0 w:World}{t:TypeId}{K:IntKind}{v:Value}{zs:List Nat}(h:OwnV w0 w t K v zs):∃A c,v= .slice A zs.length c/\Got w0 w t K A c zs:=by
 obtain⟨h1,h2⟩:=h;rcases h1.2 with⟨rfl,h0⟩|⟨g,cap,cur,rfl,_⟩
 ·refine⟨none,0,by rw[h0], ?_,h2⟩;rw[h0];rw[h0]at h1;exact h1
 ·exact⟨_,_,rfl,h1,h2⟩
theorem OwnV.below {w0 w w':World}{t:TypeId}{K:IntKind}{v:Value}{zs:List Nat}(h:OwnV w0 w t K v zs)(hb:Below w.heap.size w w'):OwnV w0 w' t K v zs:=by
 obtain⟨h1,h2⟩:=h;refine⟨?_,h2.trans (hb.mono h2.size)⟩;exact h1.kept (row:=none) ⟨hb.os,hb.tape,hb.output,hb.size,fun k hk _=>hb.block k hk⟩ (by cases hv:v.ownBlock<;>simp)
end Go.Proofs.YtfhbdlegkdbmfaaGreat
namespace Go.Proofs.YtfhbdlegkdbmfaaGreat
open Go.RowKit
end Go.Proofs.YtfhbdlegkdbmfaaGreat
namespace Go.Proofs.YtfhbdlegkdbmfaaGreat
open Go.RowKit
end Go.Proofs.YtfhbdlegkdbmfaaGreat
namespace Go.Proofs.YtfhbdlegkdbmfaaGreat
open Go.RowKit
end Go.Proofs.YtfhbdlegkdbmfaaGreat
namespace Go.Proofs.YtfhbdlegkdbmfaaGreat
open Go.RowKit
def hor (ds:List Nat)(i s:Nat):Nat:=pre 65536 (ds.drop (i+s)) (4 - s)
end Go.Proofs.YtfhbdlegkdbmfaaGreat
namespace Go.Proofs.YtfhbdlegkdbmfaaGreat
open Go.RowKit
def Cv (w:World)(A:Option Addr)(n c v:Nat):Prop:=
 Rd w .u64 A (cn 18446744073709551616 v)/\(cn 18446744073709551616 v).length=n/\n<=c/\c<=9223372036854775807
theorem Cv.below {w w':World}{A:Option Addr}{n c v:Nat}(h:Cv w A n c v)(hb:Below w.heap.size w w'):Cv w' A n c v:=⟨h.1.below hb,h.2⟩
theorem Cv.nv {w:World}{A:Option Addr}{n c v:Nat}(h:Cv w A n c v):Nv w A n c v:=⟨_,h.1,h.2.1,h.2.2.1,h.2.2.2,c_s _ _ (by omega),e_o _ _ (by omega)⟩
def CvPost (v k:Nat)(w:World)(e:Ending)(w':World):Prop:=
 ∃A n c,e= .returned (.slice A n c)/\Cv w' A n c v/\n<=k/\Below w.heap.size w w'
theorem NatPost.cv {v k:Nat}{w w':World}{e:Ending}(h:NatPost v w e w')(hk:v<18446744073709551616^k):CvPost v k w e w':=by
 obtain⟨A,c,rfl,hg⟩:=h;have hc:=hg.cap;exact⟨A,_,c,rfl,⟨hg.rd,rfl,hc.1,by have:=hc.2;unfold maxLen at this;omega⟩,a_h _ _ _ (by omega) hk,hg.2⟩
theorem Cv.lt {w:World}{A:Option Addr}{n c v:Nat}(h:Cv w A n c v):v<18446744073709551616^n:=h.nv.lt
theorem l_w {A B:Option Addr}{n m c d x y:Nat}{w:World}(hx:Nv w A n c x)(hy:Nv w B m d y)(hn:n<=1099511627776)(hm:m<=1099511627776):
  Calls Tryz.prog 155 #[.slice A n c,.slice B m d] w (CvPost (x+y) (max n m+1) w):=by
 have l1:=hx.lt;have l2:=hy.lt;obtain⟨xs,h1,h2,h3,h4,h5,rfl⟩:=hx;obtain⟨ys,g1,g2,g3,g4,g5,rfl⟩:=hy;refine(l_y A B n m c d xs ys w h1 g1 h2 g2 h3 h4 g3 g4 h5 g5 hn hm).mono fun _ _ h=>h.cv ?_;have p1:=f_n (Nat.le_max_left n m);have p2:=f_n (Nat.le_max_right n m);rw[Nat.pow_succ];omega
theorem p_l {A:Option Addr}{n c x:Nat}{w:World}(hx:Nv w A n c x)(hn:n<=1099511627776):
  Calls Tryz.prog 117 #[.slice A n c] w (CvPost x n w):=by
 have l1:=hx.lt;obtain⟨xs,h1,h2,h3,h4,h5,rfl⟩:=hx;exact(e_5 A n c xs w h1 h2 h3 h4 h5 hn).mono fun _ _ h=>h.cv l1
def SubCv (x y:Nat)(k:Nat)(w:World)(e:Ending)(w':World):Prop:=
 ∃A n c,e= .returned (.tuple #[.slice A n c,.bool true])/\Cv w' A n c (x - y)/\n<=k/\Below w.heap.size w w'
theorem f_k {A B:Option Addr}{n m c d x y:Nat}{w:World}(hx:Nv w A n c x)(hy:Nv w B m d y)(hn:n<=1099511627776)(h:y<=x):
  Calls Tryz.prog 156 #[.slice A n c,.slice B m d] w (SubCv x y n w):=by
 have l1:=hx.lt;obtain⟨xs,h1,h2,h3,h4,h5,rfl⟩:=hx;obtain⟨ys,g1,g2,g3,g4,g5,rfl⟩:=hy;refine(g_a A B n m c d xs ys w h1 g1 h2 g2 h3 h4 g3 g4 h5 g5 hn).mono ?_;rintro e w' ⟨A',c',zs,rfl,hg,hz⟩;rw[if_pos h]at hz;subst hz;have hc:=hg.cap;rw[decide_eq_true h];exact⟨A',_,c',rfl,⟨hg.rd,rfl,hc.1,by have:=hc.2;unfold maxLen at this;omega⟩,a_h _ _ _ (by omega) (by omega),hg.2⟩
theorem q_0 {A B:Option Addr}{n m c d x y:Nat}{w:World}(hx:Nv w A n c x)(hy:Nv w B m d y)(hn:n<=1099511627776)(h:x<y):
  Calls Tryz.prog 156 #[.slice A n c,.slice B m d] w fun e w'=>(∃A c,e= .returned (.tuple #[.slice A 0 c,.bool false]))/\Below w.heap.size w w':=by
 obtain⟨xs,h1,h2,h3,h4,h5,rfl⟩:=hx;obtain⟨ys,g1,g2,g3,g4,g5,rfl⟩:=hy;refine(g_a A B n m c d xs ys w h1 g1 h2 g2 h3 h4 g3 g4 h5 g5 hn).mono ?_;rintro e w' ⟨A',c',zs,rfl,hg,hz⟩;rw[if_neg (by omega)]at hz;subst hz;rw[decide_eq_false (by omega)];exact⟨⟨A',c',rfl⟩,hg.2⟩
end Go.Proofs.YtfhbdlegkdbmfaaGreat
namespace Go.Proofs.YtfhbdlegkdbmfaaGreat
open Go.RowKit
end Go.Proofs.YtfhbdlegkdbmfaaGreat
namespace Go.Proofs.YtfhbdlegkdbmfaaGreat
open Go.RowKit
end Go.Proofs.YtfhbdlegkdbmfaaGreat
