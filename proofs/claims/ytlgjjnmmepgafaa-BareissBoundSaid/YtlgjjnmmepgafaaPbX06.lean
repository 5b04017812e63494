/- PbX06 -/
import Derived.Test.YtlgjjnmmepgafaaPbX03
import Derived.Test.YtlgjjnmmepgafaaPbX04
import Derived.WalkKit
import Derived.Lib.Hide
import Derived.Below
import Derived.Laws.OwnMore
import Derived.Deep.Draws
import Derived.Laws.Rows
import Derived.Deep.OwnRows
import Derived.Test.YtlgjjnmmepgafaaRows
import Derived.BigQuiet
import Derived.Deep.QuietTactic
import Derived.Deep.DeepCutAuto
import Derived.Laws.Externs
import Derived.Shelf.Bits.Mul64
import Derived.Shelf.Spec.BitsCarry
import Derived.Laws.CopyOwn
import Derived.OpenShut
import Derived.ProofKit
import Derived.Shelf.Strconv.Itoa0
import Derived.Shelf.Spec.TrailingZeros
import Derived.Lib.SliceRun
import Derived.Laws.Bits64
import Derived.StillTailTactics
import Derived.IntWalk
import Derived.Deep.RegionHeld3
import Derived.Lib.RabinKarpLaws
import Derived.RegionTactic
import Derived.BigRegion
import Derived.Deep.AppendLies
import Derived.Deep.RegionLaw
import Derived.Deep.LoopGhost
set_option linter.unusedVariables false
set_option linter.unusedSimpArgs false
set_option linter.unusedSectionVars false
set_option maxRecDepth 100000
set_option maxHeartbeats 8000000
section
namespace Go.Proofs.Ytlgjjnmmepgafaa
end Go.Proofs.Ytlgjjnmmepgafaa
namespace Go.Proofs.Ytlgjjnmmepgafaa
open Go.RowKit
theorem j_p (K:IntKind)(xs ys:List Nat):vs K (xs++ys)=vs K xs++vs K ys:=by simp[vs]
section
variable {w w':World}{K:IntKind}{A:Option Addr}{xs zs:List Nat}
end
section
variable {w w':World}{g:Nat}{t:TypeId}{K:IntKind}{xs:List Nat}
end
section
variable {w w':World}{t:TypeId}{K:IntKind}{A:Option Addr}{c:Nat}{zs:List Nat}
end
end Go.Proofs.Ytlgjjnmmepgafaa
namespace Go.Proofs.Ytlgjjnmmepgafaa
open Go.RowKit
end Go.Proofs.Ytlgjjnmmepgafaa
namespace Go.Proofs.Ytlgjjnmmepgafaa
open Go.RowKit
end Go.Proofs.Ytlgjjnmmepgafaa
namespace Go.Proofs.Ytlgjjnmmepgafaa
open Go.RowKit
end Go.Proofs.Ytlgjjnmmepgafaa
namespace Go.Proofs
open Go.Shelf
end Go.Proofs
namespace Go.Proofs.Ytlgjjnmmepgafaa
open Go.RowKit
end Go.Proofs.Ytlgjjnmmepgafaa
namespace Go.Proofs.Ytlgjjnmmepgafaa
open Go.RowKit
end Go.Proofs.Ytlgjjnmmepgafaa
namespace Go.Proofs.Ytlgjjnmmepgafaa
open Go.RowKit
end Go.Proofs.Ytlgjjnmmepgafaa
namespace Go.Proofs.Ytlgjjnmmepgafaa
open Go.RowKit
end Go.Proofs.Ytlgjjnmmepgafaa
namespace Go.Proofs.Ytlgjjnmmepgafaa
open Go.RowKit
end Go.Proofs.Ytlgjjnmmepgafaa
namespace Go.Proofs.Ytlgjjnmmepgafaa
open Go.RowKit
end Go.Proofs.Ytlgjjnmmepgafaa
namespace Go.Proofs.Ytlgjjnmmepgafaa
open Go.RowKit Go.ChangeShapes Go.WideShapes
section
variable {H:Type}{enc:TypeId × Value->H}{P:Program}{W:World}{base:Nat}{sp:Nat->Bool}{held:Bool}
end
end Go.Proofs.Ytlgjjnmmepgafaa
namespace Go.Proofs.Ytlgjjnmmepgafaa
open Go.RowKit
end Go.Proofs.Ytlgjjnmmepgafaa
end
section
namespace Go.Proofs.Ytlgjjnmmepgafaa
open Go.RowKit
end Go.Proofs.Ytlgjjnmmepgafaa
namespace Go.Proofs.Ytlgjjnmmepgafaa
open Go.RowKit
end Go.Proofs.Ytlgjjnmmepgafaa
namespace Go.Proofs.Ytlgjjnmmepgafaa
open Go.RowKit
end Go.Proofs.Ytlgjjnmmepgafaa
namespace Go.Proofs
open Go.Shelf
end Go.Proofs
namespace Go.Proofs.Ytlgjjnmmepgafaa
open Go.RowKit
end Go.Proofs.Ytlgjjnmmepgafaa
namespace Go.Proofs.Ytlgjjnmmepgafaa
open Go.RowKit
theorem q_2 {xs:List Nat}(lx:Low 18446744073709551616 xs):sl xs<=1↔ev 18446744073709551616 xs<18446744073709551616:=by
 rw[c_i _ (by omega) lx];constructor
 ·intro h;have h1:=e_t 18446744073709551616 (ev 18446744073709551616 xs) (by omega);have h2:=d_l h;rw[Nat.pow_one]at h2;omega
 ·intro h;exact a_f _ _ _ (by omega) (by simpa using h)
def WordPost (v:Nat)(w:World)(e:Ending)(w':World):Prop:=
 (v<18446744073709551616/\e= .returned (.tuple #[.int .u64 (v:Int),.bool true])\/18446744073709551616<=v/\e= .returned (.tuple #[.int .u64 0,.bool false]))/\w=w'
theorem i_x (A:Option Addr)(n c:Nat)(xs:List Nat)(w:World)(hx:Rd w .u64 A xs)(hxn:xs.length=n)(hc:n<=c)(hc':c<=9223372036854775807)(lx:Low 18446744073709551616 xs):
  Calls Try.prog 90 #[.slice A n c] w (WordPost (ev 18446744073709551616 xs) w):=by
 have HX:=Lib.hid hxn;have sx:sl xs<=n:=hxn ▸ a_3 xs;have h1:=q_2 lx;rcases Nat.lt_trichotomy (sl xs) 1 with h|h|h
 ·have h0:sl xs=0:=by omega
  have e0:=c_p (b:=18446744073709551616) h0;have P:Hid (WordPost (ev 18446744073709551616 xs) w (.returned (.tuple #[.int .u64 0,.bool true])) w):=⟨.inl ⟨by rw[e0];omega,by rw[e0];rfl⟩,rfl⟩;have H0:=Lib.hid h0;clear hxn h1 h e0 h0;go_enter Try.func90,Try.ntmps90
  go_wp2_with fail
  refine(a_b _ _ _ xs _ hx HX.out (by omega) (by omega)).mono ?_;rintro e w' ⟨rfl,rfl⟩;rw[H0.out]
  go_wp2
  go_ret2
  exact P.out
 ·have hs:=f_i (l:=0) h;rw[a_1,Nat.pow_zero,Nat.one_mul,Nat.zero_add]at hs;have P:Hid (WordPost (ev 18446744073709551616 xs) w (.returned (.tuple #[.int .u64 (nth xs 0:Nat),.bool true])) w):=⟨.inl ⟨h1.1 (by omega),by rw[hs]⟩,rfl⟩;obtain⟨ad,rfl,_,hcell⟩:=hx.at (k:=0) (by omega);have c0:w.cell? ad=some (.int .u64 (nth xs 0)):=by simpa [Addr.add] using hcell
  have H0:=Lib.hid h;clear hxn h1 h hs hcell;go_enter Try.func90,Try.ntmps90
  go_wp2_with fail
  refine(a_b _ _ _ xs _ hx HX.out (by omega) (by omega)).mono ?_;rintro e w' ⟨rfl,rfl⟩;rw[H0.out]
  go_wp2
  go_ret2
  exact P.out
 ·have P:Hid (WordPost (ev 18446744073709551616 xs) w (.returned (.tuple #[.int .u64 0,.bool false])) w):=⟨.inr ⟨by omega,rfl⟩,rfl⟩;have b0:(((sl xs:Nat):Int)==0)=false:=by rw[beq_eq_false_iff_ne];omega
  have b1:(((sl xs:Nat):Int)==1)=false:=by rw[beq_eq_false_iff_ne];omega
  clear hxn h1;go_enter Try.func90,Try.ntmps90
  go_wp2_with fail
  refine(a_b _ _ _ xs _ hx HX.out (by omega) (by omega)).mono ?_;rintro e w' ⟨rfl,rfl⟩
  go_wp2
  go_ret2
  exact P.out
end Go.Proofs.Ytlgjjnmmepgafaa
namespace Go.Proofs.Ytlgjjnmmepgafaa
open Go.RowKit
end Go.Proofs.Ytlgjjnmmepgafaa
end
section
namespace Go.Proofs.Ytlgjjnmmepgafaa
open Go.RowKit
section
variable {S S':Addr->Prop}{w w' w'':World}
end
section
variable {S:Addr->Prop}{w w':World}{g p:Nat}{t:TypeId}{zs:List Nat}
end
end Go.Proofs.Ytlgjjnmmepgafaa
namespace Go.Proofs.Ytlgjjnmmepgafaa
open Go.RowKit
end Go.Proofs.Ytlgjjnmmepgafaa
namespace Go.Proofs.Ytlgjjnmmepgafaa
open Go.RowKit
end Go.Proofs.Ytlgjjnmmepgafaa
namespace Go.Proofs.Ytlgjjnmmepgafaa
open Go.RowKit
section
variable {w w':World}{n half D N g p h r kr:Nat}{A B:Addr}{zs rs xs ys us vs:List Nat}
end
end Go.Proofs.Ytlgjjnmmepgafaa
namespace Go.Proofs.Ytlgjjnmmepgafaa
open Go.RowKit
end Go.Proofs.Ytlgjjnmmepgafaa
namespace Go.Proofs.Ytlgjjnmmepgafaa
open Go.RowKit
end Go.Proofs.Ytlgjjnmmepgafaa
namespace Go.Proofs.Ytlgjjnmmepgafaa
open Go.RowKit
theorem f_8 {A:Option Addr}{n c x:Nat}{w:World}(hx:Nv w A n c x)(hn:n<=1099511627776):
  Calls Try.prog 74 #[.slice A n c] w (NatPost (x*x) w):=by
 go_enter Try.func74,Try.ntmps74
 go_wp2_with fail
 refine(k_g hx hx hn hn).mono ?_;rintro e w1 ⟨A1,c1,rfl,hg⟩
 go_wp2
 go_ret
 exact⟨A1,c1,rfl,hg⟩
end Go.Proofs.Ytlgjjnmmepgafaa
namespace Go.Proofs.Ytlgjjnmmepgafaa
open Go.RowKit
end Go.Proofs.Ytlgjjnmmepgafaa
namespace Go.Proofs.Ytlgjjnmmepgafaa
open Go.RowKit
theorem f_7 {A:Option Addr}{n c x:Nat}{w:World}(hx:Nv w A n c x)(hn:n<=1099511627776):
  Calls Try.prog 74 #[.slice A n c] w (CvPost (x*x) (n+n) w):=
 (f_8 hx hn).mono fun _ _ h=>h.cv (by
  have l1:=hx.lt;rw[Nat.pow_add];exact Nat.mul_lt_mul'' l1 l1)
end Go.Proofs.Ytlgjjnmmepgafaa
namespace Go.Proofs.Ytlgjjnmmepgafaa
open Go.RowKit
end Go.Proofs.Ytlgjjnmmepgafaa
end
namespace Go.Proofs.Ytlgjjnmmepgafaa
section
open Go.RowKit
theorem l_s (v:Nat):sg false v=(v:Int):=by simp[sg]
theorem q_q {A:Option Addr}{n c:Nat}{s:Bool}{z:Int}{w:World}(h:Zv w s A n c z)(hn:n<=1099511627776):
  Calls Try.prog 25 #[.agg #[.bool s,.slice A n c]] w (ZPost (z.natAbs:Int) n w):=by
 obtain⟨h1,h2⟩:=h.abs;have z0:=zba2 w (.cells #[.bool s,.slice A n c] 30) (.cells #[.bool false,.slice none 0 0] 30);have h3:=h1.below z0;have HZ:=Lib.hid z0;have HI:=Lib.hid (Ib.new (w.alloc (.cells #[.bool s,.slice A n c] 30)) false none 0 0 30);clear h1 h2 h z0;go_enter Try.func25,Try.ntmps25
 go_wp2_with fail
 refine(f_b h3 hn).mono ?_;rw[l_s];rintro e w2 ⟨t,A2,n2,c2,rfl,p2,k2,B2⟩;have I:=HI.out.below B2;have P:=Lib.hid (zfin p2 I (k:=n) (by omega) (by simp) (zup HZ.out B2));obtain⟨i1,i2,i3,i4,i5⟩:=I;simp only[World.size_alloc]at i1 i2 i3 i4 i5 P;clear p2 B2 h3
 go_wp2_with fail
 exact bodyPost_ret (v:=.agg #[.bool t,.slice A2 n2 c2]) (by simp[results,Try.results25,go_sem,i1,i2]) rfl P.out
end
section
open Go.RowKit
section
variable {w w':World}{g h:Nat}{T U:TypeId}{cs ds:List Value}
end
section
variable {g o:Nat}
end
section
variable {x y r:Int}{T:TypeId}{b:Bool}{X Y:Operand}{U:TypeId}
theorem opGt (h:decide (y<x)=b)(w:World):RunTwo Try.prog (.binOp .gtr T X Y U) w (.int .i64 x) (.int .i64 y) (.bool b):=by unfold RunTwo;simp[go_sem,<-h];try rfl
end
end
section
namespace DT
theorem n_2 (k:Nat)(G:Mx)(i:Nat){j:Nat}(hj:j<k):bd k G i j=0:=by
 unfold bd;rw[<-det_T];exact(a_p (k+1)).same' _ (i:=j) (k:=k) (by omega) (by omega) (by omega) fun a ha=>by
  unfold bord;simp[hj]
theorem h_u (k:Nat)(G:Mx):bd k G k k=det (k+1) G:=det_ext fun a b ha hb=>by
 unfold bord;rw[show(if a<k then a else k)=a by split<;>omega,show(if b<k then b else k)=b by split<;>omega]
end DT
end
section
namespace DT
theorem c_h (a:Int):0<=a*a:=by
 rcases Int.le_total 0 a with h|h
 ·exact Int.mul_nonneg h h
 ·have:=Int.mul_nonneg_of_nonpos_of_nonpos h h;exact this
theorem g_4 {n:Nat}{f:Nat->Int}(h:sumN n (fun k=>f k*f k)=0):∀k,k<n->f k=0:=by
 induction n with
 |zero=>intro k hk;omega
 |succ n ih=>
  simp only[sumN]at h;have h1:0<=sumN n fun k=>f k*f k:=b_y fun k _=>c_h _;have h2:=c_h (f n);intro k hk;by_cases e:k=n
  ·subst e;have:f k*f k=0:=by omega
   exact(Int.mul_eq_zero.mp this).elim id id
  ·exact ih (by omega) k (by omega)
theorem p_1 {n i:Nat}(hi:i<n)(M:Mx){d:Int}(hd:d≠0)(x:Nat->Int)(k:Nat)(hk:k<=i)(h:∀j,j<n->d*M i j=sumN k fun a=>x a*M a j):det n M=0:=by
 have e:d*det n M=det n (setr M i fun j=>sumN k fun a=>x a*M a j):=by
  rw[show det n M=det n (setr M i (M i)) by rw[b_z],<-(a_p n).smul _ d _ hi];exact det_ext fun a b ha hb=>by
   unfold setr;split
   ·exact h b hb
   ·rfl
 have e2:∀k,k<=i->det n (setr M i fun j=>sumN k fun a=>x a*M a j)=0:=by
  intro k;induction k with
  |zero=>intro _;exact(a_p n).zero M hi
  |succ k ih=>
   intro hk;have e3:=(a_p n).add M (i:=i) (fun j=>sumN k fun a=>x a*M a j) (fun j=>x k*M k j) hi;simp only[sumN];rw[e3,ih (by omega),(a_p n).smul _ _ _ hi,(a_p n).same' _ (i:=i) (k:=k) hi (by omega) (by omega) fun j hj=>by unfold setr;rw[if_pos rfl,if_neg (by omega)]];simp
 rw[e2 k hk]at e;exact(Int.mul_eq_zero.mp e).resolve_left hd
def gm (m:Nat)(B:Mx):Mx:=fun i j=>sumN m fun c=>B i c*B j c
theorem p_r (m:Nat)(B:Mx)(i j:Nat):gm m B i j=gm m B j i:=a_i fun c _=>Int.mul_comm _ _
theorem h_l (m k:Nat)(B:Mx)(i:Nat)(hd:det k (gm m B)≠0):∃x w:Nat->Int,(∀c,w c=det k (gm m B)*B i c - sumN k fun a=>x a*B a c)/\
  (∀j,sumN m (fun c=>w c*B j c)=bd k (gm m B) i j)/\(∀j,bd k (gm m B) i j=det k (gm m B)*gm m B i j - sumN k fun a=>x a*gm m B a j)/\
  sumN m (fun c=>w c*w c)=det k (gm m B)*bd k (gm m B) i i:=by
 obtain⟨x,hx⟩:=n_0 k (gm m B) i hd;have h1:∀(u:Nat->Int),sumN m (fun c=>(det k (gm m B)*B i c - sumN k fun a=>x a*B a c)*u c)=det k (gm m B)*sumN m (fun c=>B i c*u c) - sumN k fun a=>x a*sumN m fun c=>B a c*u c:=fun u=>by
  rw[a_i (g:=fun c=>det k (gm m B)*(B i c*u c) - sumN k fun a=>x a*(B a c*u c)) fun c _=>by
   rw[Int.sub_mul,<-sum_mul'];congr 1
   ·grind
   ·exact a_i fun a _=>by grind]
  rw[j_s,b_o,d_3];congr 1
  exact a_i fun a _=>b_o _ _ _
 have h2:∀j,sumN m (fun c=>(det k (gm m B)*B i c - sumN k fun a=>x a*B a c)*B j c)=bd k (gm m B) i j:=fun j=>by rw[h1,hx];rfl
 refine⟨x,fun c=>det k (gm m B)*B i c - sumN k fun a=>x a*B a c,fun c=>rfl,h2,hx, ?_⟩;rw[h1];have h3:∀j,sumN m (fun c=>B j c*(det k (gm m B)*B i c - sumN k fun a=>x a*B a c))=bd k (gm m B) i j:=fun j=>by
  rw[<-h2];exact a_i fun c _=>Int.mul_comm _ _
 rw[h3,b_u (n:=k) fun a ha=>by rw[h3,n_2 _ _ _ ha];simp];omega
theorem e_m (m:Nat)(B:Mx):∀k,det k (gm m B)=0->∀n,k<=n->det n (gm m B)=0
 |0,h,_,_=>by exact absurd h (by simp[det])
 |k+1,h,n,hn=>by
  by_cases hd:det k (gm m B)=0
  ·exact e_m m B k hd n (by omega)
  ·obtain⟨x,w,hw,h1,h2,h3⟩:=h_l m k B k hd;rw[h_u,h,Int.mul_zero]at h3;have h4:=g_4 h3;refine p_1 (i:=k) (by omega) (gm m B) hd x k (Nat.le_refl _) fun j hj=>?_;have h5:=h2 j;rw[<-h1,b_u (n:=m) fun c hc=>by rw[h4 c hc];simp]at h5;omega
theorem e_n (m:Nat)(B:Mx):∀k,0<=det k (gm m B)
 |0=>by simp[det]
 |k+1=>by
  have ih:=e_n m B k;by_cases hd:det k (gm m B)=0
  ·rw[e_m m B k hd (k+1) (by omega)];exact Int.le_refl _
  ·obtain⟨x,w,hw,h1,h2,h3⟩:=h_l m k B k hd;rw[h_u]at h3;have h4:0<=det k (gm m B)*det (k+1) (gm m B):=by rw[<-h3];exact b_y fun c _=>c_h _
   exact Int.le_of_mul_le_mul_left (a:=det k (gm m B)) (by rw[Int.mul_zero];exact h4) (by omega)
theorem g_o (m:Nat)(B:Mx)(i:Nat):0<=gm m B i i:=b_y fun c _=>c_h _
theorem p_p (m:Nat)(B:Mx)(k:Nat):det (k+1) (gm m B)<=det k (gm m B)*gm m B k k:=by
 by_cases hd:det k (gm m B)=0
 ·rw[e_m m B k hd (k+1) (by omega),hd,Int.zero_mul];exact Int.le_refl _
 ·have hp:0<det k (gm m B):=by have:=e_n m B k;omega
  obtain⟨x,w,hw,h1,h2,h3⟩:=h_l m k B k hd;have h4:∀j,sumN m (fun c=>(sumN k fun a=>x a*B a c)*B j c)=sumN k fun a=>x a*gm m B a j:=fun j=>by
   rw[a_i (g:=fun c=>sumN k fun a=>x a*(B a c*B j c)) fun c _=>by rw[<-sum_mul'];exact a_i fun a _=>by grind];rw[d_3];exact a_i fun a _=>b_o _ _ _
  have h5:∀j,j<k->sumN k (fun a=>x a*gm m B a j)=det k (gm m B)*gm m B k j:=fun j hj=>by
   have:=h2 j;rw[n_2 _ _ _ hj]at this;omega
  have h6:sumN m (fun c=>(sumN k fun a=>x a*B a c)*(sumN k fun a=>x a*B a c))=det k (gm m B)*sumN k fun a=>x a*gm m B a k:=by
   rw[a_i (g:=fun c=>sumN k fun b=>x b*((sumN k fun a=>x a*B a c)*B b c)) fun c _=>by rw[<-b_o];exact a_i fun a _=>by grind];rw[d_3,<-b_o];refine a_i fun b hb=>?_;rw[b_o,h4,h5 b hb,p_r m B k b];grind
  have h7:0<=det k (gm m B)*(det k (gm m B)*gm m B k k - det (k+1) (gm m B)):=by
   have h8:=h2 k;rw[h_u]at h8;rw[show det k (gm m B)*gm m B k k - det (k+1) (gm m B)=sumN k fun a=>x a*gm m B a k by omega,<-h6];exact b_y fun c _=>c_h _
  have:=Int.le_of_mul_le_mul_left (a:=det k (gm m B)) (b:=0) (c:=det k (gm m B)*gm m B k k - det (k+1) (gm m B)) (by rw[Int.mul_zero];exact h7) hp;omega
def prodN:Nat->(Nat->Int)->Int
 |0,_=>1
 |n+1,f=>prodN n f*f n
theorem e_h {n:Nat}{f:Nat->Int}(h:∀k,k<n->0<=f k):0<=prodN n f:=by
 induction n with
 |zero=>exact Int.zero_le_ofNat 1
 |succ n ih=>exact Int.mul_nonneg (ih fun k hk=>h k (by omega)) (h n (by omega))
theorem o_2 {n:Nat}{f g:Nat->Int}(h0:∀k,k<n->0<=f k)(h:∀k,k<n->f k<=g k):prodN n f<=prodN n g:=by
 induction n with
 |zero=>exact Int.le_refl _
 |succ n ih=>
  have h1:=h0 n (by omega);have h2:=h n (by omega);exact Int.mul_le_mul (ih (fun k hk=>h0 k (by omega)) fun k hk=>h k (by omega)) h2 h1 (e_h fun k hk=>Int.le_trans (h0 k (by omega)) (h k (by omega)))
theorem m_a (n:Nat)(f g:Nat->Int):prodN n (fun k=>f k*g k)=prodN n f*prodN n g:=by
 induction n with
 |zero=>rfl
 |succ n ih=>simp only[prodN,ih];grind
theorem g_n (m:Nat)(B:Mx):∀n,det n (gm m B)<=prodN n fun k=>gm m B k k
 |0=>by simp[det,prodN]
 |n+1=>Int.le_trans (p_p m B n) (Int.mul_le_mul_of_nonneg_right (g_n m B n) (g_o m B n))
theorem m_r (n:Nat)(B:Mx):det n (gm n B)=det n B*det n B:=by
 rw[show gm n B=mul n B fun i j=>B j i from rfl,det_mul,det_T]
theorem hadamard (n:Nat)(B:Mx):det n B*det n B<=prodN n fun i=>gm n B i i:=by
 rw[<-m_r];exact g_n n B n
theorem g_x {a b:Int}(hb:0<=b)(h:a*a<=b*b):(a.natAbs:Int)<=b:=by
 rcases Int.lt_or_le b a.natAbs with h1|h1
 ·have h2:b*b<(a.natAbs:Int)*a.natAbs:=Int.lt_of_le_of_lt (Int.mul_le_mul_of_nonneg_left (Int.le_of_lt h1) hb) (Int.mul_lt_mul_of_pos_right h1 (by omega));rw[Int.natAbs_mul_self']at h2;omega
 ·exact h1
theorem hadamard_roots (n:Nat)(B:Mx)(r:Nat->Int)(h0:∀i,i<n->0<=r i)(h:∀i,i<n->gm n B i i<=r i*r i):((det n B).natAbs:Int)<=prodN n r:=by
 refine g_x (e_h h0) ?_;rw[<-m_a];exact Int.le_trans (hadamard n B) (o_2 (fun k _=>g_o n B k) h)
end DT
end
section
open Go.RowKit
def NoPost (w:World)(e:Ending)(w':World):Prop:=e= .returned (.tuple #[.slice none 0 0,.bool false])/\Below w.heap.size w w'
theorem exact_no {A B:Option Addr}{n m c d x y:Nat}{w:World}(hx:Nv w A n c x)(hy:Nv w B m d y)(hn:n<=549755813888)(hm:m<=549755813888)(h:0<y)(h0:x%y≠0):
  Calls Try.prog 108 #[.slice A n c,.slice B m d] w (NoPost w):=by
 have hl:0<(cn 18446744073709551616 (x%y)).length:=by
  rcases Nat.eq_zero_or_pos (cn 18446744073709551616 (x%y)).length with h1|h1
  ·exact absurd ((c_w _ _ (by omega)).1 h1) h0
  ·exact h1
 clear h0;go_enter Try.func108,Try.ntmps108
 go_wp2_with fail
 refine(f_r hx hy hn hm h).mono ?_;rintro e w2 ⟨A2,c2,A3,c3,rfl,G2,G3⟩;have B2:=G2.2;clear G2 G3;generalize(cn 18446744073709551616 (x%y)).length=k at *
 go_wp2_with fail
 go_ret2
 exact⟨rfl,B2⟩
def DmCv (q r kq kr:Nat)(w:World)(e:Ending)(w':World):Prop:=
 ∃A n c A' n' c',e= .returned (.tuple #[.slice A n c,.slice A' n' c',.bool true])/\Cv w' A n c q/\Cv w' A' n' c' r/\n<=kq/\n'<=kr/\Below w.heap.size w w'
theorem dm_v {A B:Option Addr}{n m c d x y:Nat}{w:World}(hx:Nv w A n c x)(hy:Nv w B m d y)(hn:n<=549755813888)(hm:m<=549755813888)(h:0<y):
  Calls Try.prog 104 #[.slice A n c,.slice B m d] w (DmCv (x / y) (x%y) n m w):=by
 have l1:=hx.lt;have l2:=hy.lt;refine(f_r hx hy hn hm h).mono ?_;rintro e w' ⟨A2,c2,A3,c3,rfl,G2,G3⟩;exact⟨_,_,_,_,_,_,rfl,G2.cv,G3.cv,a_f _ _ _ (by omega) (d_t l1),a_f _ _ _ (by omega) (Nat.lt_trans (Nat.mod_lt _ h) l2),G2.2⟩
theorem m_e (x:Nat)(hx:x<18446744073709551616)(w:World):Calls Try.prog 53 #[.int .u64 x] w (CvPost x 1 w):=
 (d_6 x hx w).mono fun _ _ ⟨A,c,he,hg⟩=>⟨A,_,c,he,hg.cv,a_f _ _ _ (by omega) (by omega),hg.2⟩
end
section
open Go.RowKit
section
variable {ops:Array Oper}{Q:Exit->Act->World->Prop}{m i:Nat}{a0:Act}{w0:World}{l:List FK}{b:Bool}{id:Nat}
end
theorem Mt.row {q:Bool}{w:World}{r c n d k:Nat}{A:Option Addr}{F:Nat->Nat->Int}(h:Mt q w r c A n d k F){i:Nat}(hi:i<r)(e:Nat)(he:i*c+c<=e)(hd:e<=d):ZL q w (if e=i*c then A else A.map (·.add (i*c*2))) c (e - i*c) k (rw' c (F i)):=by
 have hb:i*c+c<=r*c:=by rw[<-Nat.succ_mul];exact Nat.mul_le_mul_right c hi
 have hn:=h.len;have hcp:=h.zl.cap;rcases Nat.eq_zero_or_pos c with h0|h0
 ·subst h0;exact⟨by simp[rw'],by omega,by omega,fun h=>by omega⟩
 ·have hle:=h.zl.le;obtain⟨ad,rfl,-⟩:=h.zl.at' (by omega);rw[if_neg (by omega),Option.map_some,<-n_q hi];have hd2:=h.zl.drop (m:=i*c) (d:=d) (by omega) (by omega) hcp;exact hd2.take (by omega) (by omega) (by omega)
section
variable {ops:Array Oper}{Q:Exit->Act->World->Prop}{m i:Nat}{a0:Act}{w0:World}{l:List FK}{b:Bool}{id:Nat}
end
end
end Go.Proofs.Ytlgjjnmmepgafaa
section
namespace Go.Proofs.Ytlgjjnmmepgafaa
open Go.RowKit
structure Ent where
 A:Option Addr
 n:Nat
 c:Nat
 v:Nat
def Ent.val (r:Ent):Value:=.slice r.A r.n r.c
def vals (R:List Ent):List Value:=R.map Ent.val
theorem a_x (R:List Ent):(vals R).length=R.length:=by simp[vals]
theorem h_y {R:List Ent}{i:Nat}(h:i<R.length):(vals R)[i]? =some R[i].val:=by simp[vals,h]
def PileAt (b:Nat)(w:World)(p:Nat)(R:List Ent)(g cap:Nat)(spare:List Value):Prop:=
 w.heap[p]? =some (.cells #[.slice (some ⟨g,0,none⟩) R.length cap] 119 (0,0))/\b<=p/\b<=g/\
  w.heap[g]? =some (.cells (vals R++spare).toArray 28 (0,0))/\R.length+spare.length=cap/\cap<=9223372036854775807
def Pile (b:Nat)(w:World)(p:Nat)(R:List Ent):Prop:=∃g cap spare,PileAt b w p R g cap spare
def Hup (b:Nat)(w w':World):Prop:=Below b w w'/\∀(k:Nat) (cs:Array Value) (fr:Nat × Nat),w.heap[k]? =some (.cells cs 81 fr)->w'.heap[k]? =w.heap[k]?
theorem Hup.refl (b:Nat)(w:World):Hup b w w:=⟨Below.refl _ _,fun _ _ _ _=>rfl⟩
theorem Hup.trans {b:Nat}{w w' w'':World}(h:Hup b w w')(k:Hup b w' w''):Hup b w w'':=⟨h.1.trans k.1,fun a cs fr ha=>by have e:=h.2 a cs fr ha;exact(k.2 a cs fr (e.trans ha)).trans e⟩
theorem Hup.of_below {b:Nat}{w w':World}(h:Below w.heap.size w w')(hb:b<=w.heap.size):Hup b w w':=
 ⟨h.mono hb,fun a cs fr ha=>h.block a (Array.getElem?_eq_some_iff.1 ha).1⟩
theorem Hup.drewN (b:Nat)(w:World)(q:Nat):Hup b w (w.drewN q):=⟨⟨rfl,rfl,rfl,Nat.le_refl _,fun _ _=>rfl⟩,fun _ _ _ _=>rfl⟩
def Safe (b:Nat)(w:World)(A:Option Addr)(n:Nat):Prop:=∀ad,A=some ad->0<n->ad.block<b\/∃cs fr,w.heap[ad.block]? =some (.cells cs 81 fr)
theorem Hup.block {b:Nat}{w w':World}{A:Option Addr}{n:Nat}(k:Hup b w w')(h:Safe b w A n){ad:Addr}(ha:A=some ad)(hn:0<n):w'.heap[ad.block]? =w.heap[ad.block]? :=by
 rcases h ad ha hn with h|⟨cs,fr,h⟩
 ·exact k.1.block _ h
 ·exact k.2 _ cs fr h
theorem Safe.hup {b:Nat}{w w':World}{A:Option Addr}{n:Nat}(h:Safe b w A n)(k:Hup b w w'):Safe b w' A n:=fun ad ha hn=>by
 rcases h ad ha hn with h1|⟨cs,fr,h1⟩
 ·exact .inl h1
 ·exact .inr ⟨cs,fr,(k.2 _ cs fr h1).trans h1⟩
theorem Nv.hup {b:Nat}{w w':World}{A:Option Addr}{n c v:Nat}(h:Nv w A n c v)(hs:Safe b w A n)(k:Hup b w w'):Nv w' A n c v:=by
 obtain⟨xs,h1,h2,h3⟩:=h;subst h2;refine⟨xs,fun hn=>?_,rfl,h3⟩;obtain⟨ad,rfl,hb,hc⟩:=h1 hn;exact⟨ad,rfl,Nat.lt_of_lt_of_le hb k.1.size,fun j hj=>by rw[World.cell?_of_block (w:=w) (by rw[a_a];exact k.block hs rfl hn)];exact hc j hj⟩
theorem Hup.setCell {b:Nat}{w:World}{a:Addr}{u:Value}{cs:Array Value}{t:TypeId}{fr:Nat × Nat}(hb:b<=a.block)(h:w.heap[a.block]? =some (.cells cs t fr))(ht:t≠81):Hup b w (w.setCell a u):=
 ⟨(Below.refl _ _).setCell hb _,fun k cs' fr' hk=>Below.heap_setCell _ _ _ _ fun e=>by
  subst e;rw[h]at hk;injection hk with hk
  injection hk with _ e2
  exact ht e2⟩
def Ent.ok (b:Nat)(w:World)(r:Ent):Prop:=Nv w r.A r.n r.c r.v/\Safe b w r.A r.n
theorem Ent.ok.hup {b:Nat}{w w':World}{r:Ent}(h:r.ok b w)(k:Hup b w w'):r.ok b w':=⟨h.1.hup h.2 k,h.2.hup k⟩
def EntsOk (b:Nat)(w:World)(R:List Ent):Prop:=∀r,r∈R->r.ok b w
theorem EntsOk.hup {b:Nat}{w w':World}{R:List Ent}(h:EntsOk b w R)(k:Hup b w w'):EntsOk b w' R:=fun r hr=>(h r hr).hup k
section
variable {b:Nat}{w w':World}{p g cap:Nat}{R:List Ent}{spare:List Value}
theorem PileAt.cell (h:PileAt b w p R g cap spare){i:Nat}(hi:i<R.length):w.cell? ⟨g,i,none⟩=some R[i].val:=by
 rw[cell_of_row w g i _ _ (0,0) h.2.2.2.1,List.getElem?_toArray,List.getElem?_append_left (by rw[a_x];exact hi),h_y hi]
theorem PileAt.head (h:PileAt b w p R g cap spare):w.cell? ⟨p,0,none⟩=some (.slice (some ⟨g,0,none⟩) R.length cap):=by
 rw[cell_of_row w p 0 _ _ (0,0) h.1];rfl
theorem PileAt.free (h:PileAt b w p R g cap spare)(i:Nat):w.frozen? ⟨g,i,none⟩=false:=frozen_of_row w g i _ _ h.2.2.2.1
theorem PileAt.free' (h:PileAt b w p R g cap spare)(i:Nat):w.frozen? ⟨p,i,none⟩=false:=frozen_of_row w p i _ _ h.1
theorem PileAt.ne (h:PileAt b w p R g cap spare):g≠p:=fun e=>by
 subst e
 have:=h.1.symm.trans h.2.2.2.1;injection this with this
 injection this with _ h2
 exact absurd h2 (by decide)
theorem PileAt.below (h:PileAt b w p R g cap spare)(hb:Below w.heap.size w w'):PileAt b w' p R g cap spare:=
 ⟨(hb.block p (Array.getElem?_eq_some_iff.1 h.1).1).trans h.1,h.2.1,h.2.2.1,(hb.block g (Array.getElem?_eq_some_iff.1 h.2.2.2.1).1).trans h.2.2.2.1,h.2.2.2.2⟩
theorem Pile.below (h:Pile b w p R)(hb:Below w.heap.size w w'):Pile b w' p R:=by
 obtain⟨g,cap,spare,h⟩:=h;exact⟨g,cap,spare,h.below hb⟩
theorem PileAt.set (h:PileAt b w p R g cap spare){i:Nat}(hi:i<R.length)(r:Ent):PileAt b (w.setCell ⟨g,i,none⟩ r.val) p (R.set i r) g cap spare:=by
 have hl:(R.set i r).length=R.length:=by simp
 refine⟨?_,h.2.1,h.2.2.1, ?_,by rw[hl];exact h.2.2.2.2.1,h.2.2.2.2.2⟩
 ·rw[hl];exact(Below.heap_setCell w _ _ p (fun e=>h.ne e.symm)).trans h.1
 ·rw[heap_setCell_same w g i _ _ _ h.2.2.2.1,List.setIfInBounds_toArray,List.set_append_left _ _ (by rw[a_x];exact hi)];simp[vals,List.map_set]
end
theorem b_f {b p:Nat}{R:List Ent}{w:World}(h:Pile b w p R):
  Calls Try.prog 79 #[.pointer (some ⟨p,0,none⟩)] w fun e w'=>e= .returned (.int .i64 R.length)/\w=w':=by
 obtain⟨g,cap,spare,h⟩:=h;have hc:=h.head;go_enter Try.func79,Try.ntmps79
 go_wp2
 go_ret
 exact⟨rfl,rfl⟩
def SomeBool (w:World)(e:Ending)(w':World):Prop:=∃t:Bool,e= .returned (.bool t)/\Sees w w'
theorem b_r {b p i k:Nat}{R:List Ent}{w:World}(h:Pile b w p R)(ho:EntsOk b w R)(hi:i<R.length)(hk:k<R.length)(hR:R.length<=1099511627776):
  Calls Try.prog 134 #[.pointer (some ⟨p,0,none⟩),.int .i64 i,.int .i64 k] w (SomeBool w):=by
 obtain⟨g,cap,spare,h⟩:=h;have hc:=h.head;have c1:w.cell? ⟨g,i,none⟩=some (.slice R[i].A R[i].n R[i].c):=h.cell hi;have c2:w.cell? ⟨g,k,none⟩=some (.slice R[k].A R[k].n R[k].c):=h.cell hk;have o1:Nv w R[i].A R[i].n R[i].c R[i].v:=(ho _ (List.getElem_mem hi)).1;have o2:Nv w R[k].A R[k].n R[k].c R[k].v:=(ho _ (List.getElem_mem hk)).1;generalize R[i]=r1 at *;generalize R[k]=r2 at *;have u1:(0:Int)<=(i:Int):=by omega
 have u2:(i:Int)<(R.length:Int):=by omega
 have u3:(0:Int)<=(k:Int):=by omega
 have u4:(k:Int)<(R.length:Int):=by omega
 go_enter Try.func134,Try.ntmps134
 go_wp2
 go_quiet ((go_at_call 52;exact e_0 (p_3 (o1.below (c_a _ _)) (o2.below (c_a _ _)))))
 go_wp2
 go_ret
 exact⟨_,rfl,_,rfl⟩
end Go.Proofs.Ytlgjjnmmepgafaa
namespace Go.Proofs.Ytlgjjnmmepgafaa
open Go.RowKit
def swp (R:List Ent)(i k:Nat)(hi:i<R.length)(hk:k<R.length):List Ent:=(R.set i R[k]).set k R[i]
def SwPost (b:Nat)(w:World)(p:Nat)(R:List Ent)(e:Ending)(w':World):Prop:=
 e= .returned (.tuple #[])/\Pile b w' p R/\Hup b w w'
theorem q_s {b p g cap i k:Nat}{R:List Ent}{spare:List Value}{w:World}(h:PileAt b w p R g cap spare)(hi:i<R.length)(hk:k<R.length):
  Pile b ((w.setCell ⟨g,i,none⟩ R[k].val).setCell ⟨g,k,none⟩ R[i].val) p (swp R i k hi hk)/\Hup b w ((w.setCell ⟨g,i,none⟩ R[k].val).setCell ⟨g,k,none⟩ R[i].val):=by
 have h1:=h.set hi R[k];have h2:=h1.set (i:=k) (by simpa using hk) R[i];exact⟨⟨g,cap,spare,h2⟩,(Hup.setCell h.2.2.1 h.2.2.2.1 (by decide)).trans (Hup.setCell h.2.2.1 h1.2.2.2.1 (by decide))⟩
theorem b_q {b p i k:Nat}{R:List Ent}{w:World}(h:Pile b w p R)(hi:i<R.length)(hk:k<R.length)(hR:R.length<=1099511627776):
  Calls Try.prog 137 #[.pointer (some ⟨p,0,none⟩),.int .i64 i,.int .i64 k] w (SwPost b w p (swp R i k hi hk)):=by
 obtain⟨g,cap,spare,h⟩:=h;have hc:=h.head;have c1:w.cell? ⟨g,i,none⟩=some (.slice R[i].A R[i].n R[i].c):=h.cell hi;have c2:w.cell? ⟨g,k,none⟩=some (.slice R[k].A R[k].n R[k].c):=h.cell hk;have f1:=h.free i;have f2:=h.free k;have u1:(0:Int)<=(i:Int):=by omega
 have u2:(i:Int)<(R.length:Int):=by omega
 have u3:(0:Int)<=(k:Int):=by omega
 have u4:(k:Int)<(R.length:Int):=by omega
 go_enter Try.func137,Try.ntmps137
 go_wp2
 have hne1:¬p=g:=fun e=>h.ne e.symm;have hne2:=h.ne;obtain⟨v3,c3⟩:∃v3,(w.setCell ⟨g,i,none⟩ (.slice R[k].A R[k].n R[k].c)).cell? ⟨g,k,none⟩=some v3:=⟨_,(h.set hi R[k]).cell (i:=k) (by simpa using hk)⟩;have E:=Lib.hid (q_s h hi hk);clear h;go_region
 go_end0
 exact⟨rfl,E.out.1,E.out.2.trans (Hup.drewN _ _ 1)⟩
def PoPost (b:Nat)(w:World)(p:Nat)(R:List Ent)(r:Ent)(e:Ending)(w':World):Prop:=
 e= .returned (.iface 28 r.val)/\Pile b w' p R/\Hup b w w'
theorem i_3 {b p:Nat}{R:List Ent}{r:Ent}{w:World}(h:Pile b w p (R++[r]))(hR:R.length<=1099511627776):
  Calls Try.prog 135 #[.pointer (some ⟨p,0,none⟩)] w (PoPost b w p R r):=by
 obtain⟨g,cap,spare,h⟩:=h;have hc:=h.head;have c1:=h.cell (i:=R.length) (by simp);have f1:=h.free' 0;have hl:(R++[r]).length=R.length+1:=by simp
 have hlast:((R++[r])[R.length]'(by simp))=r:=by simp
 rw[hlast]at c1;rw[hl]at hc;have c2:w.cell? ⟨g,R.length,none⟩=some (.slice r.A r.n r.c):=c1;have hcap:R.length+1<=cap:=by have:=h.2.2.2.2.1;omega
 have P:Hid (Pile b (w.setCell ⟨p,0,none⟩ (.slice (some ⟨g,0,none⟩) R.length cap)) p R/\Hup b w (w.setCell ⟨p,0,none⟩ (.slice (some ⟨g,0,none⟩) R.length cap))):=by
  refine⟨⟨g,cap,r.val::spare, ?_,h.2.1,h.2.2.1, ?_,by have:=h.2.2.2.2.1;simp at this ⊢;omega,h.2.2.2.2.2⟩,Hup.setCell h.2.1 h.1 (by decide)⟩
  ·rw[heap_setCell_same w p 0 _ _ _ h.1];rfl
  ·rw[Below.heap_setCell w _ _ g h.ne,h.2.2.2.1];simp[vals]
 clear h hl hlast c1;go_enter Try.func135,Try.ntmps135
 go_wp2
 go_ret
 exact⟨rfl,P.out⟩
end Go.Proofs.Ytlgjjnmmepgafaa
namespace Go.Proofs.Ytlgjjnmmepgafaa
open Go.RowKit
theorem info_nat':(Try.prog.info? 28).map (fun i=>(i.zero,i.size,i.bytes))=some (some (.slice none 0 0),1,24):=by kernel_rfl
theorem PileAt.owns {b:Nat}{w:World}{p g cap:Nat}{R:List Ent}{spare:List Value}(h:PileAt b w p R g cap spare)(hc:cap<=maxLen):w.ownsRow b 28 1 (.slice (some ⟨g,0,none⟩) R.length cap) R.length (vals R):=
 ⟨by simp[a_x],.inr ⟨g,cap,_,rfl,h.2.2.1,h.2.2.2.1,by have:=h.2.2.2.2.1;omega,hc,by simp[a_x];exact h.2.2.2.2.1,by simp[a_x]⟩⟩
theorem h_c {b p g cap:Nat}{w:World}{R:List Ent}{hd:Value}(hb:b<=p)(ho:w.ownsRow b 28 1 (.slice (some ⟨g,0,none⟩) R.length cap) R.length (vals R))(hR:0<R.length)
  (hp:w.heap[p]? =some (.cells #[hd] 119 (0,0))):Pile b (w.setCell ⟨p,0,none⟩ (.slice (some ⟨g,0,none⟩) R.length cap)) p R:=by
 rcases ho.2 with⟨_,h0⟩|⟨g',cap',cur,hv,hg,hh,hn,hm,hs,ht⟩
 ·omega
 ·injection hv with e1 e2 e3
  injection e1 with e1
  injection e1 with e1
  subst e1 e3;have hne:g≠p:=fun e=>by
   subst e;rw[hp]at hh;injection hh with hh
   injection hh with _ h2
   exact absurd h2 (by decide)
  rw[Nat.mul_one]at ht hs;refine⟨g,cap,cur.toList.drop R.length, ?_,hb,hg, ?_,by simp;omega,by unfold maxLen at hm;omega⟩
  ·rw[heap_setCell_same w p 0 _ _ _ hp];rfl
  ·rw[Below.heap_setCell w _ _ g hne,hh,<-ht,List.take_append_drop]
theorem e_8 (A:Option Addr)(n c:Nat)(w:World):(Instr.typeAssert (.iface 28 (.slice A n c)) 20 28 false).run Try.prog w= .ok (.slice A n c) w:=by kernel_rfl
theorem e_g {b p g cap:Nat}{w X w1:World}{R:List Ent}{spare:List Value}{o:Obj}(h:PileAt b w p R g cap spare)(hg:X.grownBy w1 (some g))(hX:X.heap=(w.alloc o).heap):
  w1.heap[p]? =some (.cells #[.slice (some ⟨g,0,none⟩) R.length cap] 119 (0,0)):=by
 have hl:=(Array.getElem?_eq_some_iff.1 h.1).1;rw[hg.block p (by rw[hX];simp;omega) (fun e=>h.ne (Option.some.inj e).symm),hX,Below.heap_alloc w o p hl];exact h.1
theorem j_7 {b p g cap:Nat}{w X w1:World}{R:List Ent}{spare:List Value}{o:Obj}(h:PileAt b w p R g cap spare)(hg:X.grownBy w1 (some g))(hX:X.heap=(w.alloc o).heap):
  w1.cell? ⟨p,0,none⟩=some (.slice (some ⟨g,0,none⟩) R.length cap):=by
 rw[cell_of_row w1 p 0 _ _ (0,0) (e_g h hg hX)];rfl
theorem j_6 {b p g cap:Nat}{w X w1:World}{R:List Ent}{spare:List Value}{o:Obj}(h:PileAt b w p R g cap spare)(hg:X.grownBy w1 (some g))(hX:X.heap=(w.alloc o).heap):
  w1.frozen? ⟨p,0,none⟩=false:=frozen_of_row w1 p 0 _ _ (e_g h hg hX)
theorem i_1 {b p g cap:Nat}{w:World}{R:List Ent}{spare:List Value}(o:Obj)(h:PileAt b w p R g cap spare):
  (w.alloc o).cell? ⟨p,0,none⟩=some (.slice (some ⟨g,0,none⟩) R.length cap)/\(w.alloc o).frozen? ⟨p,0,none⟩=false:=by
 have h1:=h.below ((Below.refl _ _).alloc (Nat.le_refl _) o);exact⟨h1.head,h1.free' 0⟩
theorem l_8 {b p g cap:Nat}{w X w1:World}{R:List Ent}{spare:List Value}{o:Obj}(h:PileAt b w p R g cap spare)(hb:b<=w.heap.size)(hg:X.grownBy w1 (some g))(hX:X.heap=(w.alloc o).heap)
  (h1:X.os=w.os) (h2:X.tape=w.tape) (h3:X.output=w.output):Hup b w w1:=by
 have hB:Below b w X:=⟨h1,h2,h3,by rw[hX];simp,fun k hk=>by rw[hX];exact Below.heap_alloc w o k (by omega)⟩;refine⟨hB.grown hg (by rw[hX];simp;omega) (fun k hk=>by have:=Option.some.inj hk;have:=h.2.2.1;omega),fun k cs fr hk=>?_⟩;have hl:=(Array.getElem?_eq_some_iff.1 hk).1;rw[hg.block k (by rw[hX];simp;omega) (fun e=>?_),hX,Below.heap_alloc w o k hl]
 have:=Option.some.inj e;subst this;rw[h.2.2.2.1]at hk;injection hk with hk
 injection hk with _ e2
 exact absurd e2 (by decide)
def PuPost (b:Nat)(w:World)(p:Nat)(R:List Ent)(r:Ent)(e:Ending)(w':World):Prop:=
 e= .returned (.tuple #[])/\Pile b w' p (R++[r])/\Hup b w w'
theorem l_9 {b p g g' cap cap':Nat}{w X w1:World}{R:List Ent}{r:Ent}{spare:List Value}{o:Obj}(h:PileAt b w p R g cap spare)(hb:b<=w.heap.size)(hg:X.grownBy w1 (some g))(hX:X.heap=(w.alloc o).heap)
  (h1:X.os=w.os) (h2:X.tape=w.tape) (h3:X.output=w.output) (ho:w1.ownsRow b 28 1 (.slice (some ⟨g',0,none⟩) (R.length+1) cap') (R.length+1) (vals R++[.slice r.A r.n r.c])):
  PuPost b w p R r (.returned (.tuple #[])) (w1.setCell ⟨p,0,none⟩ (.slice (some ⟨g',0,none⟩) (R.length+1) cap')):=by
 have hl:(R++[r]).length=R.length+1:=by simp
 have hv:vals (R++[r])=vals R++[.slice r.A r.n r.c]:=by simp[vals,Ent.val]
 have hk:=e_g h hg hX;have hp:=h_c (R:=R++[r]) h.2.1 (by rw[hl,hv];exact ho) (by omega) hk;rw[hl]at hp;exact⟨rfl,hp,(l_8 h hb hg hX h1 h2 h3).trans (Hup.setCell h.2.1 hk (by decide))⟩
theorem h_a {b p:Nat}{R:List Ent}{r:Ent}{w:World}(h:Pile b w p R)(hR:R.length<=1099511627776)(hbw:b<=w.heap.size):
  Calls Try.prog 136 #[.pointer (some ⟨p,0,none⟩),.iface 28 (.slice r.A r.n r.c)] w (PuPost b w p R r):=by
 obtain⟨g,cap,spare,h⟩:=h;have hc:=h.head;have f1:=h.free' 0;have hne:=h.ne;have ho:=h.owns (by have:=h.2.2.2.2.2;unfold maxLen;omega);obtain⟨i0,hi,hz0,hz1,hz2⟩:=info_parts info_nat';have hnew:=World.new_ne w _ hc;have hta:=e_8 r.A r.n r.c;have ca:=(i_1 (.cells #[.slice r.A r.n r.c] 28) h).1;go_enter Try.func136,Try.ntmps136
 go_wp2
 go_region_law ((refine step_append_lies _ (by rfl) _ _ _ (by rfl) b 28 i0 (.slice none 0 0) 1 24 Try.underlying75 hi hz0 hz1 hz2 rfl (by decide) _ R.length (vals R) (by rfl) (ho.alloc _) ⟨w.heap.size,0,none⟩ 1 1 [.slice r.A r.n r.c] (by rfl) rfl (World.news_of_block (heap_alloc_new w _)) (by intro u hu;simp at hu;subst hu;rfl) (by omega) (by unfold maxLen;omega) (by omega) (by simp;omega) (w.heap.size+1) (by simp) ?_;intro g' cap' w1 hown hgrow hat hlt;have c9:=j_7 h hgrow rfl;have f9:=j_6 h hgrow rfl))
 all_goals
  go_end0
  exact l_9 h hbw hgrow rfl rfl rfl rfl hown
end Go.Proofs.Ytlgjjnmmepgafaa
namespace Go.Proofs.Ytlgjjnmmepgafaa
open Go.RowKit
theorem f_o (p:Nat)(w:World):(method 264 100 (.pointer (some ⟨p,0,none⟩)) "Len").run Try.prog w= .ok (79,.pointer (some ⟨p,0,none⟩)) w:=by kernel_rfl
theorem g_l (p:Nat)(w:World):(method 264 100 (.pointer (some ⟨p,0,none⟩)) "Less").run Try.prog w= .ok (134,.pointer (some ⟨p,0,none⟩)) w:=by kernel_rfl
theorem e_j (p:Nat)(w:World):(method 264 100 (.pointer (some ⟨p,0,none⟩)) "Swap").run Try.prog w= .ok (137,.pointer (some ⟨p,0,none⟩)) w:=by kernel_rfl
theorem m_j (p:Nat)(w:World):(method 264 100 (.pointer (some ⟨p,0,none⟩)) "Pop").run Try.prog w= .ok (135,.pointer (some ⟨p,0,none⟩)) w:=by kernel_rfl
theorem k_j (p:Nat)(w:World):(method 264 100 (.pointer (some ⟨p,0,none⟩)) "Push").run Try.prog w= .ok (136,.pointer (some ⟨p,0,none⟩)) w:=by kernel_rfl
def PermRel (b:Nat)(w:World)(p:Nat)(R:List Ent)(w':World):Prop:=
 ∃R':List Ent,R'.Perm R/\Pile b w' p R'/\Hup b w w'
def PermPost (b:Nat)(w:World)(p:Nat)(R:List Ent)(e:Ending)(w':World):Prop:=(∃t:Bool,e= .returned (.bool t))/\PermRel b w p R w'
theorem c_8 (R:List Ent)(i k:Nat)(hi:i<R.length)(hk:k<R.length):(swp R i k hi hk).Perm R:=by
 unfold swp;exact List.set_set_perm hi hk
theorem PermRel.refl {b p:Nat}{R:List Ent}{w:World}(h:Pile b w p R):PermRel b w p R w:=⟨R,List.Perm.refl _,h,Hup.refl _ _⟩
theorem PermRel.trans {b p:Nat}{R R1:List Ent}{w w1 w2:World}(h1:R1.Perm R)(k1:Hup b w w1)(h2:PermRel b w1 p R1 w2):PermRel b w p R w2:=by
 obtain⟨R2,a,c,d⟩:=h2;exact⟨R2,a.trans h1,c,k1.trans d⟩
theorem EntsOk.perm {b:Nat}{w:World}{R R':List Ent}(h:EntsOk b w R)(k:R'.Perm R):EntsOk b w R':=fun r hr=>h r (k.subset hr)
theorem Sees.hup {b:Nat}{w w':World}(h:Sees w w'):Hup b w w':=by
 obtain⟨q,rfl⟩:=h;exact Hup.drewN _ _ _
theorem Sees.pile {b p:Nat}{R:List Ent}{w w':World}(h:Sees w w')(k:Pile b w p R):Pile b w' p R:=by
 obtain⟨q,rfl⟩:=h;exact k
theorem e_l {b p i n:Nat}{R:List Ent}{w:World}(h:Pile b w p R)(ho:EntsOk b w R)(hi:i<=R.length)(hn:n<=R.length)(hR:R.length<=1099511627776):
  Calls Try.prog 106 #[.iface 100 (.pointer (some ⟨p,0,none⟩)),.int .i64 i,.int .i64 n] w (PermPost b w p R):=by
 have ml:=g_l p;have ms:=e_j p;go_enter Try.func106,Try.ntmps106
 go_wp2
 go_loopw [7] (fun v wr=>∃j:Nat,j<=R.length/\v= .int .i64 j/\PermRel b w p R wr) (fun v _=>R.length - (intOf v).toNat)
 case atStart=>exact⟨i,hi,rfl,PermRel.refl h⟩
 case round=>
  obtain⟨j,hj,rfl,R1,hp1,h1,k1⟩:=hrel;have hl1:R1.length=R.length:=hp1.length_eq;have ho1:=(ho.perm hp1).hup k1;have HL:=Lib.hid hl1;clear hl1;obtain⟨J1,hJ1⟩:∃J:Nat,(2:Int)*(j:Int)+1=(J:Int):=⟨2*j+1,by omega⟩;obtain⟨J2,hJ2⟩:∃J:Nat,(J1:Int)+1=(J:Int):=⟨J1+1,by omega⟩;have n1:j<J1:=by omega
  have n2:J1<J2:=by omega
  have n3:J2<=4398046511104:=by omega
  by_cases hge:J1<n
  ·by_cases h2:J2<n
   ·go_wp2_with fail
    refine(b_r h1 ho1 (i:=J2) (k:=J1) (by rw[HL.out];omega) (by rw[HL.out];omega) (by rw[HL.out];omega)).mono ?_;rintro e w2 ⟨t,rfl,s2⟩;cases t
    ·have h2':=(s2).pile h1;have ho2:=ho1.hup (s2).hup;have k2:=k1.trans ((s2).hup (b:=b));have g1:J1<n:=by omega
     have g2:j<J1:=by omega
     clear h1 ho1 k1
     go_wp2_with fail
     refine(b_r h2' ho2 (i:=J1) (k:=j) (by rw[HL.out];omega) (by rw[HL.out];omega) (by rw[HL.out];omega)).mono ?_;rintro e w3 ⟨t,rfl,s3⟩;have h3:=s3.pile h2';have ho3:=ho2.hup s3.hup;have k3:=k2.trans (s3.hup (b:=b));clear h2' ho2 k2 s3;cases t
     ·go_wp2
      go_ret
      exact⟨⟨_,rfl⟩,R1,hp1,h3,k3⟩
     ·go_wp2_with fail
      refine(b_q h3 (i:=j) (k:=J1) (by rw[HL.out];omega) (by rw[HL.out];omega) (by rw[HL.out];omega)).mono ?_;rintro e w4 ⟨rfl,h4,k4⟩;have hr:Hid (PermRel b w p R w4):=⟨_,(c_8 _ _ _ _ _).trans hp1,h4,k3.trans k4⟩;clear h4 k4
      go_wp2
      go_roundw
      case rel=>exact⟨J1,by omega,rfl,hr.out⟩
      case measure=>simp[intOf];omega
    ·have h2':=(s2).pile h1;have ho2:=ho1.hup (s2).hup;have k2:=k1.trans ((s2).hup (b:=b));have g1:J2<n:=by omega
     have g2:j<J2:=by omega
     clear h1 ho1 k1
     go_wp2_with fail
     refine(b_r h2' ho2 (i:=J2) (k:=j) (by rw[HL.out];omega) (by rw[HL.out];omega) (by rw[HL.out];omega)).mono ?_;rintro e w3 ⟨t,rfl,s3⟩;have h3:=s3.pile h2';have ho3:=ho2.hup s3.hup;have k3:=k2.trans (s3.hup (b:=b));clear h2' ho2 k2 s3;cases t
     ·go_wp2
      go_ret
      exact⟨⟨_,rfl⟩,R1,hp1,h3,k3⟩
     ·go_wp2_with fail
      refine(b_q h3 (i:=j) (k:=J2) (by rw[HL.out];omega) (by rw[HL.out];omega) (by rw[HL.out];omega)).mono ?_;rintro e w4 ⟨rfl,h4,k4⟩;have hr:Hid (PermRel b w p R w4):=⟨_,(c_8 _ _ _ _ _).trans hp1,h4,k3.trans k4⟩;clear h4 k4
      go_wp2
      go_roundw
      case rel=>exact⟨J2,by omega,rfl,hr.out⟩
      case measure=>simp[intOf];omega
   ·have h2':=(Sees.refl wr).pile h1;have ho2:=ho1.hup (Sees.refl wr).hup;have k2:=k1.trans ((Sees.refl wr).hup (b:=b));have g1:J1<n:=by omega
    have g2:j<J1:=by omega
    clear h1 ho1 k1
    go_wp2_with fail
    refine(b_r h2' ho2 (i:=J1) (k:=j) (by rw[HL.out];omega) (by rw[HL.out];omega) (by rw[HL.out];omega)).mono ?_;rintro e w3 ⟨t,rfl,s3⟩;have h3:=s3.pile h2';have ho3:=ho2.hup s3.hup;have k3:=k2.trans (s3.hup (b:=b));clear h2' ho2 k2 s3;cases t
    ·go_wp2
     go_ret
     exact⟨⟨_,rfl⟩,R1,hp1,h3,k3⟩
    ·go_wp2_with fail
     refine(b_q h3 (i:=j) (k:=J1) (by rw[HL.out];omega) (by rw[HL.out];omega) (by rw[HL.out];omega)).mono ?_;rintro e w4 ⟨rfl,h4,k4⟩;have hr:Hid (PermRel b w p R w4):=⟨_,(c_8 _ _ _ _ _).trans hp1,h4,k3.trans k4⟩;clear h4 k4
     go_wp2
     go_roundw
     case rel=>exact⟨J1,by omega,rfl,hr.out⟩
     case measure=>simp[intOf];omega
  ·go_wp2
   go_ret
   exact⟨⟨_,rfl⟩,R1,hp1,h1,k1⟩
end Go.Proofs.Ytlgjjnmmepgafaa
namespace Go.Proofs.Ytlgjjnmmepgafaa
open Go.RowKit
def PermPost0 (b:Nat)(w:World)(p:Nat)(R:List Ent)(e:Ending)(w':World):Prop:=e= .returned (.tuple #[])/\PermRel b w p R w'
theorem k_r {b p i:Nat}{R:List Ent}{w:World}(h:Pile b w p R)(ho:EntsOk b w R)(hi:i<R.length)(hR:R.length<=1099511627776):
  Calls Try.prog 107 #[.iface 100 (.pointer (some ⟨p,0,none⟩)),.int .i64 i] w (PermPost0 b w p R):=by
 have ml:=g_l p;have ms:=e_j p;go_enter Try.func107,Try.ntmps107
 go_wp2
 go_loopw [1] (fun v wr=>∃j:Nat,j<R.length/\v= .int .i64 j/\PermRel b w p R wr) (fun v _=>(intOf v).toNat)
 case atStart=>exact⟨i,hi,rfl,PermRel.refl h⟩
 case round=>
  obtain⟨j,hj,rfl,R1,hp1,h1,k1⟩:=hrel;have hl1:R1.length=R.length:=hp1.length_eq;have ho1:=(ho.perm hp1).hup k1;have HL:=Lib.hid hl1;clear hl1;rcases Nat.eq_zero_or_pos j with rfl|hpos
  ·go_wp2
   go_end0
   exact⟨rfl,R1,hp1,h1,k1⟩
  ·obtain⟨I,hI⟩:∃I:Nat,((j:Int) - 1) / 2=(I:Int):=⟨(j - 1) / 2,by omega⟩;have n1:I<j:=by omega
   have hne:(((I:Nat):Int)==(j:Int))=false:=by rw[beq_eq_false_iff_ne];omega
   go_wp2_with fail
   refine(b_r h1 ho1 (i:=j) (k:=I) (by rw[HL.out];omega) (by rw[HL.out];omega) (by rw[HL.out];omega)).mono ?_;rintro e w3 ⟨t,rfl,s3⟩;have h3:=s3.pile h1;have k3:=k1.trans (s3.hup (b:=b));clear h1 ho1 k1 s3;cases t
   ·go_wp2
    go_end0
    exact⟨rfl,R1,hp1,h3,k3⟩
   ·go_wp2_with fail
    refine(b_q h3 (i:=I) (k:=j) (by rw[HL.out];omega) (by rw[HL.out];omega) (by rw[HL.out];omega)).mono ?_;rintro e w4 ⟨rfl,h4,k4⟩;have hr:Hid (PermRel b w p R w4):=⟨_,(c_8 _ _ _ _ _).trans hp1,h4,k3.trans k4⟩;clear h4 k4
    go_wp2
    go_roundw
    case rel=>exact⟨I,by omega,rfl,hr.out⟩
    case measure=>simp[intOf];omega
theorem h_j {b p:Nat}{R:List Ent}{w:World}(h:Pile b w p R)(ho:EntsOk b w R)(hR:R.length<=1099511627776):
  Calls Try.prog 95 #[.iface 100 (.pointer (some ⟨p,0,none⟩))] w (PermPost0 b w p R):=by
 have ml:=f_o p;obtain⟨m,hm⟩:∃m:Nat,(R.length:Int) / 2=(m:Int):=⟨R.length / 2,by omega⟩;have hm2:m<=R.length:=by omega
 go_enter Try.func95,Try.ntmps95
 go_wp2_with fail
 refine(b_f h).mono ?_;rintro e w1 ⟨rfl,rfl⟩
 go_wp2
 go_loopw [3] (fun v wr=>∃j:Nat,j<=m/\v= .int .i64 ((j:Int) - 1)/\PermRel b w p R wr) (fun v _=>(intOf v+1).toNat)
 case atStart=>exact⟨m,Nat.le_refl _,rfl,PermRel.refl h⟩
 case round=>
  obtain⟨j,hj,rfl,R1,hp1,h1,k1⟩:=hrel;have hl1:R1.length=R.length:=hp1.length_eq;have ho1:=(ho.perm hp1).hup k1;have HL:=Lib.hid hl1;clear hl1;rcases Nat.eq_zero_or_pos j with rfl|hpos
  ·go_wp2
   go_end0
   exact⟨rfl,R1,hp1,h1,k1⟩
  ·obtain⟨j,rfl⟩:∃i,j=i+1:=⟨j - 1,by omega⟩;have hj1:(((j+1:Nat):Int) - 1)=(j:Int):=by omega
   go_wp2_with fail
   refine(e_l h1 ho1 (i:=j) (n:=R.length) (by rw[HL.out];omega) (by rw[HL.out];omega) (by rw[HL.out];omega)).mono ?_;rintro e w3 ⟨⟨t,rfl⟩,hr⟩;have hr2:=Lib.hid (PermRel.trans hp1 k1 hr);clear hr h1 k1 ho1
   go_wp2
   go_roundw
   case rel=>exact⟨j,by omega,rfl,hr2.out⟩
   case measure=>simp[intOf]<;>omega
def TakePost (b:Nat)(w:World)(p:Nat)(R:List Ent)(f:Value->Value)(e:Ending)(w':World):Prop:=
 ∃(r:Ent) (R':List Ent),e= .returned (f (.slice r.A r.n r.c))/\(r::R').Perm R/\Pile b w' p R'/\Hup b w w'
theorem i_9 {b p:Nat}{R:List Ent}{w:World}(h:Pile b w p R)(ho:EntsOk b w R)(hR:R.length<=1099511627776)(hpos:0<R.length):
  Calls Try.prog 96 #[.iface 100 (.pointer (some ⟨p,0,none⟩))] w (TakePost b w p R (.iface 28)):=by
 have ml:=f_o p;have ms:=e_j p;have mp:=m_j p;obtain⟨m,hm⟩:∃m:Nat,(R.length:Int) - 1=(m:Int):=⟨R.length - 1,by omega⟩;have hm2:m<R.length:=by omega
 go_enter Try.func96,Try.ntmps96
 go_wp2_with fail
 refine(b_f h).mono ?_;rintro e w1 ⟨rfl,rfl⟩
 go_wp2_with fail
 refine(b_q h (i:=0) (k:=m) (by omega) (by omega) (by omega)).mono ?_;rintro e w2 ⟨rfl,h2,k2⟩;have hp2:=c_8 R 0 m hpos hm2;have hl2:(swp R 0 m hpos hm2).length=R.length:=hp2.length_eq;generalize swp R 0 m hpos hm2=R2 at *;have ho2:=(ho.perm hp2).hup k2;have HL:=Lib.hid hl2;clear hl2
 go_wp2_with fail
 refine(e_l h2 ho2 (i:=0) (n:=m) (by omega) (by rw[HL.out];omega) (by rw[HL.out];omega)).mono ?_;rintro e w3 ⟨⟨t,rfl⟩,R3,hp3,h3,k3⟩;have hl3:R3.length=R.length:=hp3.length_eq.trans HL.out;have hne:R3≠[]:=fun e=>by rw[e]at hl3;simp at hl3;omega
 have hsp:=(List.dropLast_concat_getLast hne).symm;have hd:R3.dropLast.length=m:=by simp;omega
 generalize R3.getLast hne=r at hsp;generalize R3.dropLast=R4 at hsp hd;subst hsp;have HD:=Lib.hid hd;clear hd hl3 hne
 go_wp2_with fail
 refine(i_3 h3 (by rw[HD.out];omega)).mono ?_;rintro e w4 ⟨rfl,h4,k4⟩;have P:Hid (TakePost b w p R (.iface 28) (.returned (.iface 28 r.val)) w4):=
  ⟨r,R4,rfl,(List.perm_append_singleton r R4).symm.trans (hp3.trans hp2),h4,k2.trans (k3.trans k4)⟩
 clear h4 k4
 go_wp2
 go_ret
 exact P.out
theorem h_i {b p:Nat}{R:List Ent}{r:Ent}{w:World}(h:Pile b w p R)(ho:EntsOk b w (R++[r]))(hR:R.length<1099511627776)(hbw:b<=w.heap.size):
  Calls Try.prog 97 #[.iface 100 (.pointer (some ⟨p,0,none⟩)),.iface 28 (.slice r.A r.n r.c)] w (PermPost0 b w p (R++[r])):=by
 have ml:=f_o p;have mp:=k_j p;have hl:((R++[r]).length:Int) - 1=(R.length:Int):=by simp
 have hl2:(R++[r]).length=R.length+1:=by simp
 have HL:=Lib.hid hl2;clear hl2;go_enter Try.func97,Try.ntmps97
 go_wp2_with fail
 refine(h_a h (by omega) hbw).mono ?_;rintro e w2 ⟨rfl,h2,k2⟩
 go_wp2_with fail
 refine(b_f h2).mono ?_;rintro e w3 ⟨rfl,rfl⟩;rw[HL.out];have ho2:=ho.hup k2
 go_wp2_with fail
 refine(k_r h2 ho2 (i:=R.length) (by rw[HL.out];omega) (by rw[HL.out];omega)).mono ?_;rintro e w4 ⟨rfl,hr⟩;have hr2:=Lib.hid (PermRel.trans (List.Perm.refl _) k2 hr);clear hr
 go_wp2
 go_end0
 exact⟨rfl,hr2.out⟩
theorem d_i {b p:Nat}{R:List Ent}{w:World}(h:Pile b w p R)(ho:EntsOk b w R)(hR:R.length<=1099511627776)(hpos:0<R.length):
  Calls Try.prog 80 #[.pointer (some ⟨p,0,none⟩)] w (TakePost b w p R id):=by
 have hta:=e_8;go_enter Try.func80,Try.ntmps80
 go_wp2_with fail
 refine(i_9 h ho hR hpos).mono ?_;rintro e w1 ⟨r,R',rfl,h1,h2,h3⟩
 go_wp2
 go_ret
 exact⟨r,R',rfl,h1,h2,h3⟩
theorem j_5 {b p:Nat}{R:List Ent}{r:Ent}{w:World}(h:Pile b w p R)(ho:EntsOk b w (R++[r]))(hR:R.length<1099511627776)(hbw:b<=w.heap.size):
  Calls Try.prog 81 #[.pointer (some ⟨p,0,none⟩),.slice r.A r.n r.c] w (PermPost0 b w p (R++[r])):=by
 go_enter Try.func81,Try.ntmps81
 go_wp2_with fail
 refine(h_i h ho hR hbw).mono ?_;rintro e w1 ⟨rfl,h1⟩
 go_wp2
 go_end0
 exact⟨rfl,h1⟩
end Go.Proofs.Ytlgjjnmmepgafaa
namespace Go.Proofs.Ytlgjjnmmepgafaa
open Go.RowKit
def prodV:List Ent->Nat
 | []=>1
 |r::R=>r.v*prodV R
def wtV:List Ent->Nat
 | []=>0
 |r::R=>r.n+wtV R
theorem b_1 {R R':List Ent}(h:R.Perm R'):prodV R=prodV R':=by
 induction h with
 |nil=>rfl
 |cons r _ ih=>simp only[prodV,ih]
 |swap r s R=>simp only[prodV];rw[<-Nat.mul_assoc,<-Nat.mul_assoc,Nat.mul_comm s.v]
 |trans _ _ ih1 ih2=>exact ih1.trans ih2
theorem c_5 {R R':List Ent}(h:R.Perm R'):wtV R=wtV R':=by
 induction h with
 |nil=>rfl
 |cons r _ ih=>simp only[wtV,ih]
 |swap r s R=>simp only[wtV];omega
 |trans _ _ ih1 ih2=>exact ih1.trans ih2
def JnRel (b:Nat)(w:World)(p v N k:Nat)(wr:World):Prop:=
 ∃R:List Ent,R.length=k/\0<k/\k<=1048576/\Pile b wr p R/\EntsOk b wr R/\prodV R=v/\wtV R<=N/\Hup b w wr
def JoinPost (b:Nat)(w:World)(v:Nat)(e:Ending)(w':World):Prop:=∃w2,Hup b w w2/\NatPost v w2 e w'
theorem NatPost.ent {b v N:Nat}{w w':World}{e:Ending}(h:NatPost v w e w')(hb:b<=w.heap.size)(hN:v<18446744073709551616^N):∃r:Ent,e= .returned (.slice r.A r.n r.c)/\r.ok b w'/\r.v=v/\r.n<=N/\Below w.heap.size w w':=by
 obtain⟨A,c,rfl,hg⟩:=h;have hc:=hg.cap;refine⟨⟨A,(cn 18446744073709551616 v).length,c,v⟩,rfl,⟨⟨_,hg.rd,rfl,hc.1,by have:=hc.2;unfold maxLen at this;omega,d_f _ _ (by omega),e_x _ _ (by omega)⟩,fun ad ha hn=>?_⟩,rfl,a_f _ _ _ (by omega) hN,hg.2⟩;rcases hg.1.2 with⟨h1,h2⟩|⟨g,cap,cur,hv,hg',hh,_⟩
 ·simp only at hn;omega
 ·injection hv with h1
  simp only at ha;rw[h1]at ha;obtain rfl:=Option.some.inj ha;exact .inr ⟨_,_,hh⟩
theorem i_8 {b p N:Nat}{R:List Ent}{w:World}(h:Pile b w p R)(ho:EntsOk b w R)(hR:R.length<=1048576)(hN:wtV R<=N)(hN2:N<=1099511627776)(hbw:b<=w.heap.size):
  Calls Try.prog 78 #[.func (.func 79) #[.pointer (some ⟨p,0,none⟩)] #[],.func (.func 80) #[.pointer (some ⟨p,0,none⟩)] #[],.func (.func 81) #[.pointer (some ⟨p,0,none⟩)] #[]] w (JoinPost b w (prodV R)):=by
 rcases Nat.eq_zero_or_pos R.length with h0|hpos
 ·have hv:prodV R=1:=by rw[List.eq_nil_of_length_eq_zero h0];rfl
  have HV:=Lib.hid hv;have H0:=Lib.hid h0;clear h0 hv;go_enter Try.func78,Try.ntmps78
  go_wp2_with fail
  refine(b_f h).mono ?_;rintro e w1 ⟨rfl,rfl⟩;rw[H0.out]
  go_wp2_with fail
  refine(d_6 1 (by omega) _).mono ?_;rintro e w2 ⟨A,c,rfl,hg⟩;have P:Hid (JoinPost b w (prodV R) (.returned (.slice A (cn 18446744073709551616 1).length c)) w2):=⟨w,Hup.refl _ _,by rw[HV.out];exact⟨A,c,rfl,hg⟩⟩;clear hg
  go_wp2
  go_ret
  exact P.out
 ·have hne:(((R.length:Nat):Int)==0)=false:=by rw[beq_eq_false_iff_ne];omega
  go_enter Try.func78,Try.ntmps78
  go_wp2_with fail
  refine(b_f h).mono ?_;rintro e w1 ⟨rfl,rfl⟩
  go_wp2
  go_loopg [] R.length (fun k wr=>JnRel b w p (prodV R) N k wr)
  case atStart=>exact⟨R,rfl,hpos,hR,h,ho,rfl,hN,Hup.refl _ _⟩
  case round=>
   obtain⟨R1,hk,hp1,hk2,h1,o1,v1,n1,k1⟩:=hrel;have hb1:b<=wr.heap.size:=Nat.le_trans hbw k1.1.size;have hl1:R1.length<=1048576:=by omega
   have HK:=Lib.hid hk;have V1:=Lib.hid v1;clear hk v1;by_cases hgt:1<R1.length
   ·go_wp2_with fail
    refine(b_f h1).mono ?_;rintro e w1 ⟨rfl,rfl⟩
    go_wp2_with fail
    refine(d_i h1 o1 (by omega) (by omega)).mono ?_;rintro e w2 ⟨r,R2,he,p1,h2,k2⟩;obtain rfl:e= .returned (.slice r.A r.n r.c):=he;have hl2:R2.length+1=R1.length:=p1.length_eq;have o2:=(o1.perm p1).hup k2;have o2':EntsOk b w2 R2:=fun x hx=>o2 x (List.mem_cons_of_mem _ hx)
    go_wp2_with fail
    refine(d_i h2 o2' (by omega) (by omega)).mono ?_;rintro e w3 ⟨s,R3,he,p2,h3,k3⟩;obtain rfl:e= .returned (.slice s.A s.n s.c):=he;have hl3:R3.length+1=R2.length:=p2.length_eq;have o3:=(o2'.perm p2).hup k3;have or:r.ok b w3:=(o2 r List.mem_cons_self).hup k3;have os:s.ok b w3:=o3 s List.mem_cons_self;have e1:=c_5 p1;have e2:=c_5 p2;have e3:=b_1 p1;have e4:=b_1 p2;simp only[wtV]at e1 e2;simp only[prodV]at e3 e4;have hb3:b<=w3.heap.size:=Nat.le_trans hb1 (Nat.le_trans k2.1.size k3.1.size);have hlt:r.v*s.v<18446744073709551616^(r.n+s.n):=by
     rw[Nat.pow_add];exact Nat.mul_lt_mul'' or.1.lt os.1.lt
    have HLT:=Lib.hid hlt;have hrn:r.n+s.n+wtV R3=wtV R1:=by omega
    have hrv:r.v*s.v*prodV R3=prodV R1:=by rw[<-e3,<-e4,Nat.mul_assoc]
    have HRN:=Lib.hid hrn;have HRV:=Lib.hid hrv;have hr1:r.n<=1099511627776:=by omega
    have hr2:s.n<=1099511627776:=by omega
    have L2:=Lib.hid hl2;have L3:=Lib.hid hl3;clear hl2 hl3 e1 e2 e3 e4 hlt hrn hrv o2 o2' h1 o1 h2
    go_wp2_with fail
    refine(k_g or.1 os.1 hr1 hr2).mono ?_;rintro e w4 hm;obtain⟨t,rfl,ot,tv,tn,tb⟩:=hm.ent hb3 HLT.out;have TV:=Lib.hid tv;have h4:=h3.below tb;have k4:Hup b w3 w4:=Hup.of_below tb hb3;have o4:EntsOk b w4 (R3++[t]):=fun x hx=>by
     rcases List.mem_append.1 hx with hx|hx
     ·exact(o3 x (List.mem_cons_of_mem _ hx)).hup k4
     ·simp only[List.mem_singleton]at hx;subst hx;exact ot
    clear hm tv h3 or os o3 ot
    go_wp2_with fail
    refine(j_5 h4 o4 (by have:=L2.out;have:=L3.out;omega) (Nat.le_trans hb3 tb.size)).mono ?_;rintro e w5 ⟨rfl,R5,p5,h5,k5⟩;have p6:=p5.trans (List.perm_append_singleton t R3);have J:Hid (JnRel b w p (prodV R) N (R1.length - 1) w5):=by
     refine⟨R5, ?_,by omega,by omega,h5,(o4.perm p5).hup k5, ?_, ?_,k1.trans (k2.trans (k3.trans (k4.trans k5)))⟩
     ·have e1:=p6.length_eq;have e2:=L2.out;have e3:=L3.out;rw[List.length_cons]at e1;omega
     ·rw[b_1 p6];simp only[prodV];rw[TV.out,HRV.out,V1.out]
     ·rw[c_5 p6];simp only[wtV]
      have:=HRN.out;omega
    clear h5 k5 p5 p6 o4 h4
    go_wp2
    go_roundg (R1.length - 1)
    case measure=>have:=HK.out;omega
    case rel=>exact J.out
   ·have h11:R1.length=1:=by have:=HK.out;omega
    have H11:=Lib.hid h11
    go_wp2_with fail
    refine(b_f h1).mono ?_;rintro e w1 ⟨rfl,rfl⟩;rw[H11.out]
    go_wp2_with fail
    refine(d_i h1 o1 (by have:=H11.out;omega) (by have:=H11.out;omega)).mono ?_;rintro e w2 ⟨r,R2,he,p1,h2,k2⟩;obtain rfl:e= .returned (.slice r.A r.n r.c):=he;have hl2:R2.length+1=R1.length:=p1.length_eq;have h20:R2=[]:=List.eq_nil_of_length_eq_zero (by omega);subst h20;have or:=((o1.perm p1).hup k2) r List.mem_cons_self;have e1:=c_5 p1;have e3:=b_1 p1;simp only[wtV]at e1;simp only[prodV,Nat.mul_one]at e3;have hrv:r.v=prodV R:=by rw[e3,V1.out]
    have HRV:=Lib.hid hrv;have hr1:r.n<=1099511627776:=by omega
    obtain⟨xs,x1,x2,x3,x4,x5,x6⟩:=or.1;have X2:=Lib.hid x2;have X6:=Lib.hid x6;clear h11 hl2 e1 e3 hrv x2 x6
    go_wp2_with fail
    refine(d_o r.A r.n r.c xs _ x1 X2.out x3 x4 x5 hr1).mono ?_;rintro e w3 hn;rw[X6.out,HRV.out]at hn;obtain⟨A,c,rfl,hg⟩:=hn;have P:Hid (JoinPost b w (prodV R) (.returned (.slice A (cn 18446744073709551616 (prodV R)).length c)) w3):=⟨w2,k1.trans k2,A,c,rfl,hg⟩;clear hg
    go_wp2
    go_ret
    exact P.out
end Go.Proofs.Ytlgjjnmmepgafaa
namespace Go.Proofs.Ytlgjjnmmepgafaa
open Go.RowKit
def LRow (w:World)(A:Option Addr)(R:List Ent):Prop:=0<R.length->∃ad,A=some ad/\ad.block<w.heap.size/\∀j (hj:j<R.length),w.cell? (ad.add j)=some R[j].val
theorem LRow.below {w w':World}{A:Option Addr}{R:List Ent}(h:LRow w A R)(hb:Below w.heap.size w w'):LRow w' A R:=fun hn=>by
 obtain⟨ad,rfl,h1,h2⟩:=h hn;exact⟨ad,rfl,Nat.lt_of_lt_of_le h1 hb.size,fun j hj=>(hb.cell (by rw[a_a];exact h1)).trans (h2 j hj)⟩
def nilEnt:Ent:=⟨none,0,0,0⟩
theorem d_2 {P:Program}(w:World){ops:Array Oper}{rest:List Oper}{o:Oper}{a:Act}{Q:Exit->Act->World->Prop}
  (hg:o.guard=none) (l c:Operand) (t:TypeId) (hop:o.op=Op.makeSlice t l c)
  (e:TypeId) (bytes:Nat) (ht:P.underlying t=some (.slice e)) (hinfo:(P.info? e).map (fun i=>(i.zero,i.size,i.bytes))=some (some (.slice none 0 0),1,bytes))
  (kl kc:IntKind) (L C:Int) (n:Nat) (hl:a.eval l= .int kl L) (hc:a.eval c= .int kc C) (hL:L=(n:Int)) (hC:C=(n:Int)) (hbytes:bytes*n<=281474976710656) (h63:n<=9223372036854775807)
  (hK:∀w',w'.heap[w.heap.size]? =some (.cells (vals (List.replicate n nilEnt)).toArray e (0,0))->Below w.heap.size w w'->w'.heap.size=w.heap.size+1->wpList P ops Q rest (a.put o.dst (.slice (some ⟨w.heap.size,0,none⟩) n n)) w'):
  wpList P ops Q (o::rest) a w:=by
 subst hL hC;obtain⟨i,hi,hz0,hz1,hz2⟩:=info_parts hinfo;refine wpList_make_row w hg l c t hop e i (.slice none 0 0) ht hi hz0 hz1 rfl kl kc n hl hc (by rw[hz2];exact hbytes) h63 ?_;refine hK _ ?_ ((Below.refl _ _).alloc (Nat.le_refl _) _) (by simp);rw[heap_alloc_new w];congr 2
 apply Array.ext
 ·simp[size_madeCells,vals]
 ·intro i h1 h2;simp[madeCells,vals,Nat.mod_one,nilEnt,Ent.val]
def Trimmed (b:Nat)(w:World)(r t:Ent):Prop:=t.ok b w/\t.v=r.v/\t.n<=r.n
theorem k_f {b:Nat}{w:World}{r:Ent}(h:r.ok b w):Calls Try.prog 70 #[.slice r.A r.n r.c] w fun e w'=>∃t:Ent,e= .returned (.slice t.A t.n t.c)/\Trimmed b w r t/\w=w':=by
 obtain⟨⟨xs,h1,h2,h3,h4,h5,h6⟩,hs⟩:=h;refine(b_8 r.A r.n r.c xs w h1 h2 h3 h4).mono ?_;rintro e w' ⟨rfl,rfl⟩;have hle:=a_3 xs;have hl:(xs.take (sl xs)).length=sl xs:=by simp[Nat.min_eq_left hle]
 exact⟨⟨r.A,sl xs,r.c,r.v⟩,rfl,⟨⟨⟨xs.take (sl xs),h1.take _,hl,by show sl xs<=r.c;omega,h4,h5.take _,by rw[a_m];exact h6⟩,fun ad ha hn=>hs ad ha (by have:0<sl xs:=hn;omega)⟩,rfl,by show sl xs<=r.n;omega⟩,rfl⟩
def PoRel (b:Nat)(w:World)(p k:Nat)(R:List Ent)(wr:World):Prop:=
 ∃T:List Ent,T.length=k/\(∀i (h1:i<T.length) (h2:i<R.length),Trimmed b wr R[i] T[i])/\Pile b wr p (T++List.replicate (R.length - k) nilEnt)/\Hup b w wr
theorem g_f {b:Nat}{w:World}:∀ {R T:List Ent},T.length=R.length->(∀i (h1:i<T.length) (h2:i<R.length),Trimmed b w R[i] T[i])->prodV T=prodV R/\wtV T<=wtV R/\EntsOk b w T
 | [],[],_,_=>⟨rfl,Nat.le_refl _,fun r hr=>by cases hr⟩
 |r::R,t::T,hl,h=>by
  have h0:=h 0 (by simp) (by simp);obtain⟨i1,i2,i3⟩:=g_f (R:=R) (T:=T) (by simpa using hl) fun i h1 h2=>by have:=h (i+1) (by simp;omega) (by simp;omega);simpa using this
  simp only[List.getElem_cons_zero]at h0;refine⟨by simp only[prodV];rw[i1,h0.2.1],by simp only[wtV];have:=h0.2.2;omega,fun x hx=>?_⟩;rcases List.mem_cons.1 hx with rfl|hx
  ·exact h0.1
  ·exact i3 x hx
def PofPost (b:Nat)(w:World)(R:List Ent)(e:Ending)(w':World):Prop:=
 ∃(p:Nat) (R':List Ent),e= .returned (.pointer (some ⟨p,0,none⟩))/\Pile b w' p R'/\EntsOk b w' R'/\prodV R'=prodV R/\wtV R'<=wtV R/\R'.length=R.length/\Hup b w w'
theorem i_4 {w w1:World}{n:Nat}(hb:w1.heap[w.heap.size]? =some (.cells (vals (List.replicate n nilEnt)).toArray 28 (0,0)))(hw:Below w.heap.size w w1)(hz:w1.heap.size=w.heap.size+1)(hn:n<=1048576):
  Pile w.heap.size (w1.alloc (.cells #[.slice (some ⟨w.heap.size,0,none⟩) n n] 119)) w1.heap.size (List.replicate n nilEnt):=by
 refine⟨w.heap.size,n,[], ?_,by omega,Nat.le_refl _, ?_,by simp,by omega⟩
 ·rw[List.length_replicate];exact heap_alloc_new w1 _
 ·rw[Below.heap_alloc w1 _ _ (by omega),List.append_nil];exact hb
theorem p_t (T:List Ent)(m:Nat)(t:Ent):(T++List.replicate (m+1) nilEnt).set T.length t=(T++[t])++List.replicate m nilEnt:=by
 rw[List.set_append_right _ _ (Nat.le_refl _)];simp[List.replicate_succ]
theorem m_v {w:World}{g p k i:Nat}{v:Value}{u:Option Value}(hne:g≠p)(hc:w.cell? ⟨p,i,none⟩=u):(w.setCell ⟨g,k,none⟩ v).cell? ⟨p,i,none⟩=u:=by
 rw[World.cell?_setCell_other w ⟨g,k,none⟩ ⟨p,i,none⟩ v (fun e=>hne (by injection e)),hc]
theorem PoRel.next {b p k g cap:Nat}{w wr:World}{R T:List Ent}{spare:List Value}{t:Ent}(hT:T.length=k)(hk:k<R.length)(hall:∀i (h1:i<T.length) (h2:i<R.length),Trimmed b wr R[i] T[i])
  (ht:Trimmed b wr R[k] t) (hp:PileAt b wr p (T++List.replicate (R.length - k) nilEnt) g cap spare) (hu:Hup b w wr):PoRel b w p (k+1) R (wr.setCell ⟨g,k,none⟩ (.slice t.A t.n t.c)):=by
 obtain⟨m,hm⟩:∃m,R.length - k=m+1:=⟨R.length - k - 1,by omega⟩;rw[hm]at hp;have h1:=hp.set (i:=k) (by simp;omega) t;rw[<-hT,p_t,hT]at h1;have hu2:Hup b wr (wr.setCell ⟨g,k,none⟩ (.slice t.A t.n t.c)):=Hup.setCell hp.2.2.1 hp.2.2.2.1 (by decide);have hm2:R.length - (k+1)=m:=by omega
 refine⟨T++[t],by simp[hT],fun i h2 h3=>?_,⟨g,cap,spare,by rw[hm2];exact h1⟩,hu.trans hu2⟩;by_cases hi:i<T.length
 ·rw[List.getElem_append_left hi];obtain⟨a1,a2⟩:=hall i hi h3;exact⟨a1.hup hu2,a2⟩
 ·have:i=T.length:=by simp at h2;omega
  subst this;rw[List.getElem_append_right (Nat.le_refl _)];subst hT;simp only[Nat.sub_self,List.getElem_cons_zero];exact⟨ht.1.hup hu2,ht.2⟩
theorem PoRel.drew {b p k:Nat}{w wr:World}{R:List Ent}(h:PoRel b w p k R wr):PoRel b w p k R wr.drew:=by
 obtain⟨T,h1,h2,h3,h4⟩:=h;exact⟨T,h1,fun i a c=>⟨(h2 i a c).1.hup (Hup.drewN b wr 1),(h2 i a c).2⟩,h3,h4.trans (Hup.drewN b wr 1)⟩
theorem g_h {A:Option Addr}{n c:Nat}{R:List Ent}{w:World}(h:LRow w A R)(hn:R.length=n)(ho:EntsOk w.heap.size w R)(hR:n<=1048576):
  Calls Try.prog 77 #[.slice A n c] w (PofPost w.heap.size w R):=by
 have HN:=Lib.hid hn;clear hn;go_enter Try.func77,Try.ntmps77
 go_wp2_with (at_make;refine d_2 _ rfl _ _ 75 rfl 28 24 Try.underlying75 info_nat' _ _ _ _ n rfl rfl (by omega) (by omega) (by omega) (by omega) ?_)
 intro w1 hb1 hw1 hz1;have HZ:=Lib.hid hz1;have H1:=Lib.hid hb1;clear hz1 hb1
 go_wp2
 have hs:Hid (Pile w.heap.size (w1.alloc (.cells #[.slice (some ⟨w.heap.size,0,none⟩) n n] 119)) w1.heap.size (List.replicate n nilEnt)):=i_4 H1.out hw1 HZ.out hR;have hu0:Hup w.heap.size w (w1.alloc (.cells #[.slice (some ⟨w.heap.size,0,none⟩) n n] 119)):=
  Hup.of_below (hw1.trans ((Below.refl _ _).alloc (by have:=HZ.out;omega) _)) (Nat.le_refl _)
 go_loopw [13] (fun i wr=>∃k:Nat,k<=n/\i= .int .i64 k/\PoRel w.heap.size w w1.heap.size k R wr) (fun i _=>n - (intOf i).toNat)
 case atStart=>exact⟨0,Nat.zero_le _,rfl,[],rfl,fun i h1=>by simp at h1,by rw[HN.out,Nat.sub_zero];exact hs.out,hu0⟩
 case round=>
  clear hs hu0;obtain⟨k,hk,rfl,T,hT,hall,⟨g,cap,spare,hp⟩,hu⟩:=hrel;have hTn:(T++List.replicate (R.length - k) nilEnt).length=n:=by simp;have:=HN.out;omega
  have hc:=hp.head;rw[hTn]at hc;have HT:=Lib.hid hT;have HTN:=Lib.hid hTn;clear hT hTn;by_cases hlt:k<n
  ·have hkR:k<R.length:=by have:=HN.out;omega
   obtain⟨ad,rfl,hab,hcell⟩:=(h.below hu.1) (by omega);have c1:wr.cell? (ad.add k)=some (.slice R[k].A R[k].n R[k].c):=hcell k hkR;have c2:=hp.cell (i:=k) (by rw[HTN.out];exact hlt);obtain⟨v2,hv2⟩:∃v2,wr.cell? ⟨g,k,none⟩=some v2:=⟨_,c2⟩;have f2:=hp.free k;have hne:=hp.ne;have hok:Ent.ok w.heap.size wr R[k]:=(ho _ (List.getElem_mem hkR)).hup hu;have u1:(0:Int)<=(k:Int):=by omega
   have u2:(k:Int)<(n:Int):=by omega
   clear c2 hcell
   go_wp2_with fail
   go_region_held3 (fun w'=>w'.cell? ⟨w1.heap.size,0,none⟩=some (.slice (some ⟨g,0,none⟩) n cap)) (first|exact hc|exact m_v hne hc) (first|(go_at_call 70;refine(k_f (b:=w.heap.size) (w:=wr.drew) hok).mono ?_;rintro e w2 ⟨t,rfl,ht,rfl⟩))
   have R1:Hid (PoRel w.heap.size w w1.heap.size (k+1) R (wr.setCell ⟨g,k,none⟩ (.slice t.A t.n t.c))):=PoRel.next HT.out hkR hall ht hp hu;clear ht hp hc hall
   go_wp2
   go_roundw
   case rel=>exact⟨k+1,by omega,by go_num,R1.out.drew⟩
   case measure=>simp[intOf];omega
  ·obtain rfl:k=n:=by omega
   have hl:R.length - k=0:=by have:=HN.out;omega
   rw[hl,List.replicate_zero,List.append_nil]at hp;obtain⟨q1,q2,q3⟩:=g_f (HT.out.trans HN.out.symm) hall;have Q1:=Lib.hid q1;have Q2:=Lib.hid q2;have hpile:Pile w.heap.size wr w1.heap.size T:=⟨g,cap,spare,hp⟩;clear hl q1 q2 hall hc
   go_wp2_with fail
   refine(h_j hpile q3 (by rw[HT.out];omega)).mono ?_;rintro e w2 ⟨rfl,R2,p2,h2,k2⟩;have P:Hid (PofPost w.heap.size w R (.returned (.pointer (some ⟨w1.heap.size,0,none⟩))) w2):=
    ⟨w1.heap.size,R2,rfl,h2,(q3.perm p2).hup k2,by rw[b_1 p2,Q1.out],by rw[c_5 p2];exact Q2.out,by rw[p2.length_eq,HT.out,HN.out],hu.trans k2⟩
   clear h2 k2
   go_wp2
   go_ret
   exact P.out
theorem f_m {A:Option Addr}{n c N:Nat}{R:List Ent}{w:World}(h:LRow w A R)(hn:R.length=n)(ho:EntsOk w.heap.size w R)(hR:n<=1048576)(hN:wtV R<=N)(hN2:N<=1099511627776):
  Calls Try.prog 50 #[.slice A n c] w (NatPost (prodV R) w):=by
 have HN:=Lib.hid hn;clear hn;go_enter Try.func50,Try.ntmps50
 go_wp2_with fail
 refine(g_h h HN.out ho hR).mono ?_;rintro e w1 ⟨p,R',rfl,h1,o1,v1,n1,l1,k1⟩;have V1:=Lib.hid v1;have L1:=Lib.hid l1;clear v1 l1
 go_wp2_with fail
 refine(i_8 (N:=N) h1 o1 (by rw[L1.out,HN.out];exact hR) (by omega) hN2 k1.1.size).mono ?_;rintro e w2 ⟨w3,k3,A',c',rfl,hg⟩;rw[V1.out]at hg ⊢;have hb3:=k1.trans k3;have P:Hid (NatPost (prodV R) w (.returned (.slice A' (cn 18446744073709551616 (prodV R)).length c')) w2):=⟨A',c',rfl,Got.of_own hg.1 hb3.1.size (hb3.1.trans (hg.2.mono hb3.1.size))⟩;clear hg
 go_wp2
 go_ret
 exact P.out
end Go.Proofs.Ytlgjjnmmepgafaa
end
section
namespace Go.Proofs.Ytlgjjnmmepgafaa
open Go.RowKit
end Go.Proofs.Ytlgjjnmmepgafaa
namespace Go.Proofs.Ytlgjjnmmepgafaa
open Go.RowKit
theorem g_0 {P:Program}(w0 wr:World){ops:Array Oper}{rest:List Oper}{o:Oper}{a:Act}{Q:Exit->Act->World->Prop}(hgd:o.guard=none)(s x:Operand)(t:TypeId)
  (ho:o.op= .call { callee:=.builtin .append,args:=#[s,x],argTypes:=#[t,t] })
  (e:TypeId) (K:IntKind) (ht:P.underlying t=some (.slice e)) (hinfo:(P.info? e).map (fun i=>(i.zero,i.size,i.bytes))=some (some (.int K 0),1,8))
  (v:Value) (zs:List Nat) (hs:a.eval s=v) (hown:OwnV w0 wr e K v zs) (A:Option Addr) (m c:Nat) (ds:List Nat) (hr:Rd wr K A ds) (hm:ds.length=m)
  (hx:a.eval x= .slice A m c) (hlen:zs.length+m<=4398046511104)
  (h:∀v' w',OwnV w0 w' e K v' (zs++ds)->wpList P ops Q rest (a.put o.dst v') w'):
  wpList P ops Q (o::rest) a wr:=by
 subst hm;obtain⟨i,hi,hz0,hz1,hz2⟩:=info_parts hinfo;obtain⟨h1,h2⟩:=hown;rcases A with _|ad
 ·have hd:ds=[]:=by
   rcases Nat.eq_zero_or_pos ds.length with h0|h0
   ·exact List.length_eq_zero_iff.1 h0
   ·obtain⟨ad,h,_⟩:=hr h0;cases h
  subst hd;refine wpList_plain hgd fun _ hK=>?_;have hrun:=run_append_nil (P:=P) (ty:=o.type) wr ht hi h1 c;unfold Oper.wp;simp only[execOp,ho,resolve,invoke,builtin,Sem.run_bind,Sem.run_pure,Result.andThen_ok,List.map_toArray,List.map_cons,List.map_nil,hs,hx,List.length_nil,hrun];exact hK _ _ (h v wr ⟨by simpa using h1,h2⟩)
 ·refine wpList_append_own (P:=P) _ hgd s x t ho w0.heap.size e i (.int K 0) 1 8 ht hi hz0 hz1 hz2 rfl (by omega) v zs.length (vs K zs) hs h1 ad ds.length c (vs K ds) hx (by rw[a_h,Nat.mul_one]) ?_ (j_o _ _) (by unfold maxLen;omega) (by omega) h2.size ?_
  ·intro j u hu;rcases Nat.lt_or_ge j ds.length with hj|hj
   ·rw[c_g hj]at hu;rw[hr.cell rfl hj,hu]
   ·rw[List.getElem?_eq_none (by rw[a_h];exact hj)]at hu;cases hu
  ·intro v' w' o1 o2 _;refine h v' w' ⟨?_,h2.grown o2 h2.size (fun k hk=>(h1.lt k hk).1)⟩;rw[j_p,List.length_append];exact o1
end Go.Proofs.Ytlgjjnmmepgafaa
namespace Go.Proofs.Ytlgjjnmmepgafaa
open Go.RowKit
end Go.Proofs.Ytlgjjnmmepgafaa
namespace Go.Proofs.Ytlgjjnmmepgafaa
open Go.RowKit
end Go.Proofs.Ytlgjjnmmepgafaa
end
namespace Go.Proofs.Ytlgjjnmmepgafaa
section
open Go.RowKit
theorem e_4 {x r:Nat}(hr:0<r):x<((r+x / r) / 2+1)*((r+x / r) / 2+1):=by
 have h1:=Nat.div_add_mod x r;have h2:=Nat.mod_lt x hr;generalize x / r=q at *;generalize x%r=s at *;have h3:r+q+1<=2*((r+q) / 2+1):=by omega
 generalize(r+q) / 2+1=m at *;have h4:(r+q+1)*(r+q+1)<=(2*m)*(2*m):=Nat.mul_le_mul h3 h3;have h5:4*(r*(q+1))<=(r+q+1)*(r+q+1):=by
  rcases Nat.le_total r (q+1)with h|h
  ·obtain⟨d,hd⟩:=Nat.exists_eq_add_of_le h;have e:r+q+1=r+(r+d):=by omega
   rw[e,hd];have:(r+(r+d))*(r+(r+d))=4*(r*(r+d))+d*d:=by grind
   omega
  ·obtain⟨d,hd⟩:=Nat.exists_eq_add_of_le h;have e:r+q+1=(q+1+d)+(q+1):=by omega
   rw[e,hd];have:(q+1+d+(q+1))*(q+1+d+(q+1))=4*((q+1+d)*(q+1))+d*d:=by grind
   omega
 have h6:x<r*(q+1):=by rw[Nat.mul_add,Nat.mul_one];omega
 have h7:(2*m)*(2*m)=4*(m*m):=by grind
 omega
def RwPost (x:Nat)(w:World)(e:Ending)(w':World):Prop:=∃r:Nat,e= .returned (.int .u64 (r:Int))/\r<=4294967296/\Hid (r*r<=x/\x<(r+1)*(r+1))/\w=w'
theorem o_i (w:World):Calls Try.prog 91 #[.int .u64 0] w (RwPost 0 w):=by
 go_enter Try.func91,Try.ntmps91
 go_wp2_with fail
 go_ret
 exact⟨0,rfl,by omega,Lib.hid ⟨by omega,by omega⟩,rfl⟩
theorem l_v {x:Nat}(hx:x<18446744073709551616):∃j,j=(bl x+1) / 2/\j<=32/\x<(2^j+1)*(2^j+1)/\2^j<=4294967296/\0<2^j:=by
 have hb:bl x<=64:=bl_le.2 (by omega);have h1:=bl_le.1 (Nat.le_refl (bl x));refine⟨(bl x+1) / 2,rfl,by omega, ?_,Nat.pow_le_pow_right (by omega) (show(bl x+1) / 2<=32 by omega),Nat.pow_pos (by omega)⟩;have h2:2^bl x<=2^((bl x+1) / 2)*2^((bl x+1) / 2):=by rw[<-Nat.pow_add];exact Nat.pow_le_pow_right (by omega) (by omega)
 have h3:2^((bl x+1) / 2)*2^((bl x+1) / 2)<=(2^((bl x+1) / 2)+1)*(2^((bl x+1) / 2)+1):=Nat.mul_le_mul (by omega) (by omega);omega
theorem l_x (x:Nat)(hx:x<18446744073709551616)(w:World):Calls Try.prog 91 #[.int .u64 x] w (RwPost x w):=by
 rcases Nat.eq_zero_or_pos x with rfl|h0
 ·exact o_i w
 ·obtain⟨j,hj,hj32,hst,h32,hp⟩:=l_v hx;obtain⟨R,hR⟩:∃R,R=2^j:=⟨_,rfl⟩;have hb:bl x<=64:=bl_le.2 (by omega);have b1:((x:Int)==0)=false:=by rw[beq_eq_false_iff_ne];omega
  have v1:((bl x:Int)+1) / 2=(j:Int):=by omega
  have v3:IntKind.u64.wrap (2^j)=(R:Int):=by
   have:((2:Int)^j)=((2^j:Nat):Int):=by rw[Int.natCast_pow];rfl
   rw[this,<-hR,IntKind.wrap_u64];omega
  have v2:IntKind.u64.wrap (1*2^j)=(R:Int):=by rw[Int.one_mul];exact v3
  rw[<-hR]at hst h32 hp;have HST:=Lib.hid hst;clear hj hst hR;go_enter Try.func91,Try.ntmps91
  go_wp2_with fail
  refine(c_1 _ hx _).mono ?_;rintro e w' ⟨rfl,rfl⟩
  go_wp2_with fail
  clear v1 v2 v3;go_loopg [3] R (fun g s3 wr=>w=wr/\s3= .int .u64 (g:Int)/\0<g/\g<=4294967296/\Hid (x<(g+1)*(g+1)))
  case atStart=>exact⟨rfl,rfl,hp,h32,HST⟩
  case round=>
   obtain⟨rfl,rfl,hg,hg32,hin⟩:=hrel;obtain⟨q,hq⟩:∃q,q=x / gk:=⟨_,rfl⟩;have e1:(x:Int) / (gk:Int)=(q:Int):=by rw[hq];rfl
   have hqx:q<=x:=by rw[hq];exact Nat.div_le_self _ _
   have b2:((gk:Int)==0)=false:=by rw[beq_eq_false_iff_ne];omega
   have b3:¬(gk=0):=by omega
   by_cases hlt:q<gk
   ·obtain⟨r2,hr2⟩:∃r2,r2=(gk+q) / 2:=⟨_,rfl⟩;have E2:=Lib.hid (show((gk:Int)+(q:Int)) / 2=(r2:Int) by omega);have hn:Hid (x<(r2+1)*(r2+1)):=Lib.hid (by rw[hr2,hq];exact e_4 hg);have hr0:0<r2:=by
     rcases Nat.eq_zero_or_pos r2 with h|h
     ·have:=hn.out;rw[h]at this;omega
     ·exact h
    have hlt2:r2<gk:=by omega
    have HL:=Lib.hid hlt2;have h32':r2<=4294967296:=by omega
    clear hq hr2 hin
    go_wp2_with fail
    go_roundg r2
    case rel=>exact⟨rfl,by rw[E2.out],hr0,h32',hn⟩
    case measure=>exact HL.out
   ·have hle:Hid (gk*gk<=x):=Lib.hid (by
     have h1:=Nat.div_mul_le_self x gk;have h2:gk*gk<=q*gk:=Nat.mul_le_mul_right _ (by omega);rw[<-hq]at h1;omega)
    clear hq
    go_wp2_with fail
    go_ret
    exact⟨gk,rfl,hg32,Lib.hid ⟨hle.out,hin.out⟩,rfl⟩
def NumPost (v k:Nat)(w:World)(e:Ending)(w':World):Prop:=∃A n c,e= .returned (.slice A n c)/\Nv w' A n c v/\n<=k/\Below w.heap.size w w'
theorem OwnV.nv {w0 w:World}{v:Value}{zs:List Nat}(h:OwnV w0 w 81 .u64 v zs)(hl:Low 18446744073709551616 zs):∃A c,v= .slice A zs.length c/\Nv w A zs.length c (ev 18446744073709551616 zs):=by
 obtain⟨A,c,rfl,g⟩:=h.form;have hc:=g.cap;exact⟨A,c,rfl,_,g.rd,rfl,hc.1,by have:=hc.2;unfold maxLen at this;omega,hl,rfl⟩
theorem f_j {A:Option Addr}{n c x k:Nat}{w:World}(hx:Nv w A n c x)(hn:n<=1099511627776)(hk:k<=70368744177664):
  Calls Try.prog 94 #[.slice A n c,.int .i64 k] w (NumPost (x*2^k) (n+1+k / 64) w):=by
 have lx:=hx.lt;obtain⟨xs,h1,h2,h3,h4,h5,rfl⟩:=hx;obtain⟨s,hs⟩:∃s,s=k / 64:=⟨_,rfl⟩;obtain⟨t,ht⟩:∃t,t=k%64:=⟨_,rfl⟩;have v1:(k:Int) / 64=(s:Int):=by omega
 have v2:(k:Int)%64=(t:Int):=by omega
 have hkst:k=64*s+t:=by omega
 have ht64:t<64:=by omega
 have hs2:s<=1099511627776:=by omega
 have HX:=Lib.hid h2;have hlen:(cn 18446744073709551616 (ev 18446744073709551616 xs*2^t)).length<=n+1:=a_f _ _ _ (by omega) (by
  rw[Nat.pow_succ];refine Nat.lt_of_lt_of_le (Nat.mul_lt_mul_of_pos_right lx (Nat.pow_pos (by omega))) (Nat.mul_le_mul_left _ ?_);exact Nat.le_of_lt (Nat.lt_of_le_of_lt (Nat.pow_le_pow_right (by omega) (show t<=63 by omega)) (by decide)))
 have hval:Hid (∀zs:List Nat,ev 18446744073709551616 zs=ev 18446744073709551616 xs*2^t->ev 18446744073709551616 (List.replicate s 0++zs)=ev 18446744073709551616 xs*2^k):=Lib.hid (fun zs hz=>by
  rw[a_n,a_z,hz,List.length_replicate,hkst,c_7,Nat.zero_add,<-Nat.mul_assoc,Nat.mul_comm (18446744073709551616^s),Nat.mul_assoc])
 rw[<-hs];clear hs ht hkst h2;have vt:(t:Int) / 64=((0:Nat):Int):=by omega
 have vt2:(t:Int)%64=(t:Int):=by omega
 have VT:=Lib.hid vt;have VT2:=Lib.hid vt2;clear vt vt2;go_enter Try.func94,Try.ntmps94
 go_wp2_with fail
 refine(e_f _ n c xs t 0 t _ h1 HX.out h3 h4 h5 hn (by omega) VT.out VT2.out).mono ?_;rintro e w2 ⟨A2,c2,rfl,G2⟩;have r2:=G2.rd;have hw2:=G2.2;have low2:=d_f 18446744073709551616 (ev 18446744073709551616 xs*2^t) (by omega);have hv2:=Lib.hid (hval.out _ (e_x 18446744073709551616 (ev 18446744073709551616 xs*2^t) (by omega)));clear G2 hval;generalize cn 18446744073709551616 (ev 18446744073709551616 xs*2^t)=ds at *
 go_wp2_with (at_make;refine a_c _ rfl _ _ 28 rfl 81 .u64 8 Try.underlying28 info_u64 _ _ _ _ s rfl rfl (by omega) (by omega) (by omega) (by omega) ?_)
 intro w3 hb3 hw3 hz3;have HZ3:=Lib.hid hz3;clear hz3;have o3:OwnV w w3 81 .u64 (.slice (some ⟨w2.heap.size,0,none⟩) s s) (List.replicate s 0):=by
  have ho:=hb3.owns (base:=w.heap.size) (n:=s) hw2.size (by simp) (by simp;unfold maxLen;omega);rw[List.length_replicate,List.take_of_length_le (by simp)]at ho;exact⟨by rw[List.length_replicate];exact ho,hw2.trans (hw3.mono hw2.size)⟩
 have r3:=r2.below hw3;clear r2 hb3 hw3
 go_wp2_with (refine g_0 w w3 rfl (.tmp 16) (.tmp 17) _ rfl 81 .u64 Try.underlying28 info_u64 _ _ rfl o3 A2 ds.length c2 ds r3 rfl rfl (by simp;omega) ?_)
 intro v4 w4 o4;obtain⟨A4,c4,rfl,nv4⟩:=o4.nv ((Low.replicate _ _ (by omega)).append low2);rw[hv2.out]at nv4;have hw4:=o4.2;have hl4:(List.replicate s 0++ds).length<=n+1+s:=by simp;omega
 generalize(List.replicate s 0++ds).length=l4 at *;clear o3 o4 r3
 go_wp2_with fail
 go_ret
 exact⟨_,_,_,rfl,nv4,hl4,hw4⟩
theorem q_4 {A:Option Addr}{n c x k:Nat}{w:World}(hx:Nv w A n c x)(hn:n<=1099511627776)(hk:k<=9223372036854775807):
  Calls Try.prog 92 #[.slice A n c,.int .i64 k] w (TwoCv (x / 2^k) n w):=by
 have l1:=hx.lt;obtain⟨xs,h1,h2,h3,h4,h5,rfl⟩:=hx;exact(g_c A n c xs k (k / 64) (k%64) w h1 h2 h3 h4 h5 hn hk (by omega) (by omega)).mono fun _ _ k=>k.cv (d_t l1)
theorem m_h {A B:Option Addr}{n m c d x y:Nat}{w:World}(hx:Nv w A n c x)(hy:Nv w B m d y)(hn:n<=549755813887)(hm:m<=549755813887)(h:0<y):
  Calls Try.prog 93 #[.slice A n c,.slice B m d] w (CvPost ((y+x / y) / 2) (max m n+1) w):=by
 have hW:=Below.refl w.heap.size w;go_enter Try.func93,Try.ntmps93
 go_wp2_with fail
 refine(dm_v hx hy (by omega) (by omega) h).mono ?_;rintro e w1 ⟨A1,n1,c1,A2,n2,c2,rfl,pq,pr,k1,k2,B1⟩;replace hy:=hy.below B1;replace hW:=hW.trans (B1.mono hW.size);clear pr
 go_wp2_with fail
 refine(i_u hy pq.nv (by omega) (by omega)).mono ?_;rintro e w2 ⟨A3,n3,c3,rfl,ps,k3,B2⟩;replace hW:=hW.trans (B2.mono hW.size);clear pq
 go_wp2_with fail
 refine(q_4 (k:=1) ps.nv (by omega) (by omega)).mono ?_;rintro e w3 ⟨A4,n4,c4,rfl,pt,k4,B3⟩;replace hW:=hW.trans (B3.mono hW.size);rw[Nat.pow_one]at pt;have hk:n4<=max m n+1:=by omega
 clear ps
 go_wp2_with fail
 go_ret
 exact⟨_,_,_,rfl,pt,hk,hW⟩
theorem n_h {A:Option Addr}{n c x:Nat}{w:World}(hx:Nv w A n c x):
  Calls Try.prog 90 #[.slice A n c] w (WordPost x w):=by
 obtain⟨xs,h1,h2,h3,h4,h5,rfl⟩:=hx;exact i_x A n c xs w h1 h2 h3 h4 h5
def RtPost (v k:Nat)(w:World)(e:Ending)(w':World):Prop:=
 ∃(A:Option Addr) (n c:Nat) (A':Option Addr) (n' c' r:Nat),e= .returned (.tuple #[.slice A n c,.slice A' n' c'])/\Hid (r*r<=v/\v<(r+1)*(r+1))/\Cv w' A n c r/\Cv w' A' n' c' (v - r*r)/\n<=k/\n'<=k/\Below w.heap.size w w'
def RootOk (v:Nat):Prop:=∀(A:Option Addr) (n c:Nat) (w:World),Nv w A n c v->n<=1000->Calls Try.prog 75 #[.slice A n c] w (RtPost v n w)
theorem Cv.len {w:World}{A:Option Addr}{n c v K:Nat}(h:Cv w A n c v)(hv:v<18446744073709551616^K):n<=K:=by rw[<-h.2.1];exact a_f _ _ _ (by omega) hv
theorem k_d {A:Option Addr}{n c x:Nat}{w:World}(hx:Nv w A n c x)(hn:n<=1099511627776):
  Calls Try.prog 34 #[.slice A n c] w fun e w'=>e= .returned (.int .i64 (bl x))/\w=w':=by
 obtain⟨xs,h1,h2,h3,h4,h5,rfl⟩:=hx;exact d_u A n c xs w h1 h2 h3 h4 h5 hn
theorem q_y {r v:Nat}(h:r*r<=v):r<=v:=by
 rcases Nat.eq_zero_or_pos r with h0|h0
 ·omega
 ·exact Nat.le_trans (Nat.le_mul_of_pos_right r h0) h
theorem j_0 {v:Nat}(hv:v<18446744073709551616):RootOk v:=by
 intro A n c w hx hn;have hW:=Below.refl w.heap.size w;have LV:=Lib.hid hx.lt;go_enter Try.func75,Try.ntmps75
 go_wp2_with fail
 refine(n_h hx).mono ?_;rintro e w' ⟨⟨_,rfl⟩|⟨h,rfl⟩,rfl⟩
 ·go_wp2_with fail
  refine(l_x v hv _).mono ?_;rintro e w' ⟨r,rfl,hr,hR,rfl⟩
  go_wp2_with fail
  refine(m_e r (by omega) _).mono ?_;rintro e w1 ⟨A1,n1,c1,rfl,p1,k1,B1⟩;replace hW:=hW.trans (B1.mono hW.size);have hrr:r*r<=v:=hR.out.1;have e1:IntKind.u64.wrap ((r:Int)*(r:Int))=((r*r:Nat):Int):=by rw[<-Int.natCast_mul,IntKind.wrap_u64];omega
  obtain⟨q,hq⟩:∃q,q=r*r:=⟨_,rfl⟩;rw[<-hq]at e1 hrr;obtain⟨d,hd⟩:∃d,d=v - q:=⟨_,rfl⟩;have e2:(v:Int) - (q:Int)=(d:Int):=by omega
  have e3:IntKind.u64.wrap ((v:Int) - (q:Int))=(d:Int):=by rw[IntKind.wrap_u64];omega
  have hdB:d<18446744073709551616:=by omega
  have HD:=Lib.hid (show d=v - r*r by rw[<-hq];exact hd);clear hq hd hx
  go_wp2_with fail
  refine(m_e d hdB _).mono ?_;rintro e w2 ⟨A2,n2,c2,rfl,p2,k2,B2⟩;replace hW:=hW.trans (B2.mono hW.size);replace p1:=p1.below B2;rw[HD.out]at p2;have P:Hid (RtPost v n w (.returned (.tuple #[.slice A1 n1 c1,.slice A2 n2 c2])) w2):=Lib.hid ⟨_,_,_,_,_,_,r,rfl,hR,p1,p2,p1.len (Nat.lt_of_le_of_lt (q_y hR.out.1) LV.out),p2.len (Nat.lt_of_le_of_lt (Nat.sub_le _ _) LV.out),hW⟩;clear p1 p2 hW e1 e2 e3
  go_wp2_with fail
  go_ret2
  exact P.out
 ·exfalso;omega
theorem j_1 {v:Nat}(hv:18446744073709551616<=v):v / 2^(2*(bl v / 4))<v:=by
 have hb:65<=bl v:=by
  rcases Nat.lt_or_ge (bl v) 65 with h|h
  ·have:=bl_le.1 (show bl v<=64 by omega);omega
  ·exact h
 refine Nat.div_lt_self (by omega) ?_;exact Nat.one_lt_two_pow (by omega)
theorem l_2 {v:Nat}(hv:18446744073709551616<=v)(ih:∀u,u<v->RootOk u):RootOk v:=by
 intro A n c w hx hn;have hW:=Below.refl w.heap.size w;have lv:=hx.lt;have LV:=Lib.hid lv;have hbn:bl v<=64*n:=bl_le.2 (by rw[Nat.pow_mul];exact lv);have hlt:=j_1 hv;have HLT:=Lib.hid hlt;have HV:=Lib.hid hv;obtain⟨b,hb⟩:∃b,b=bl v:=⟨_,rfl⟩;obtain⟨low,hlow⟩:∃low,low=b / 4:=⟨_,rfl⟩;rw[<-hb]at hbn;have v1:(b:Int) / 4=(low:Int):=by omega
 have v2:low<=16*n:=by omega
 have v3:2*(low:Int)=((2*low:Nat):Int):=by omega
 have HB:=Lib.hid hb;have HLO:=Lib.hid hlow;obtain⟨low2,hlow2⟩:∃q,q=2*low:=⟨_,rfl⟩;have v4:2*(low:Int)=(low2:Int):=by omega
 have v5:low2<=32*n:=by omega
 have HL2:=Lib.hid hlow2;clear lv hlt hv hb hlow v3 hlow2;go_enter Try.func75,Try.ntmps75
 go_wp2_with fail
 refine(n_h hx).mono ?_;rintro e w' ⟨⟨h,rfl⟩|⟨h,rfl⟩,rfl⟩
 ·exfalso;have:=HV.out;omega
 clear h
 go_wp2_with fail
 refine(k_d hx (by omega)).mono ?_;rintro e w' ⟨rfl,rfl⟩;rw[<-HB.out]
 go_wp2_with fail
 refine(q_4 hx (by omega) (by omega)).mono ?_;rintro e w1 ⟨A1,n1,c1,rfl,p1,k1,B1⟩;replace hx:=hx.below B1;replace hW:=hW.trans (B1.mono hW.size);have hlt:v / 2^low2<v:=by rw[HL2.out,HLO.out,HB.out];exact HLT.out
 have HLT2:=Lib.hid hlt;clear hlt
 go_wp2_with fail
 refine(ih _ HLT2.out A1 n1 c1 _ p1.nv (by omega)).mono ?_;rintro e w2 ⟨A2,n2,c2,A3,n3,c3,h,rfl,_,ph,_,k2,_,B2⟩;replace hx:=hx.below B2;replace hW:=hW.trans (B2.mono hW.size);clear p1
 go_wp2_with fail
 refine(m_e 1 (by omega) _).mono ?_;rintro e w3 ⟨A4,n4,c4,rfl,p4,k4,B3⟩;replace hx:=hx.below B3;replace ph:=ph.below B3;replace hW:=hW.trans (B3.mono hW.size)
 go_wp2_with fail
 refine(i_u ph.nv p4.nv (by omega) (by omega)).mono ?_;rintro e w4 ⟨A5,n5,c5,rfl,p5,k5,B4⟩;replace hx:=hx.below B4;replace hW:=hW.trans (B4.mono hW.size);clear ph p4;have k5':n5<=n+2:=by omega
 go_wp2_with fail
 refine(f_j (k:=low) p5.nv (by omega) (by omega)).mono ?_;rintro e w5 ⟨A6,n6,c6,rfl,p6,k6,B5⟩;replace hx:=hx.below B5;replace hW:=hW.trans (B5.mono hW.size);clear p5;have k6':n6<=2*n+4:=by omega
 have hy:0<(h+1)*2^low:=Nat.mul_pos (by omega) (Nat.pow_pos (by omega))
 go_wp2_with fail
 refine(m_h hx p6 (by omega) (by omega) hy).mono ?_;rintro e w6 ⟨A7,n7,c7,rfl,p7,k7,B6⟩;replace hx:=hx.below B6;replace hW:=hW.trans (B6.mono hW.size);have hin:=e_4 (x:=v) hy;obtain⟨m,hm⟩:∃m,m=((h+1)*2^low+v / ((h+1)*2^low)) / 2:=⟨_,rfl⟩;rw[<-hm]at p7 hin;have HIN:=Lib.hid hin;have k7':n7<=2*n+5:=by omega
 have hmB:=p7.lt;have hmB2:m<18446744073709551616^(2*n+5):=Nat.lt_of_lt_of_le hmB (d_l k7');have HMB:=Lib.hid hmB2;clear p6 hy hin hm hmB hmB2 k5 k6 k7 v1 v4
 go_wp2_with fail
 go_loopg [12] m (fun g s12 wr=>g<=m/\Hid (v<(g+1)*(g+1))/\Below w.heap.size w wr/\Nv wr A n c v/\∃A n c,s12= .slice A n c/\Cv wr A n c g)
 case atStart=>exact⟨Nat.le_refl _,HIN,hW,hx,_,_,_,rfl,p7⟩
 case round=>
  clear hW hx p7;obtain⟨hgm,hin,hW,hx,A8,n8,c8,rfl,p8⟩:=hrel;have k8:n8<=2*n+5:=p8.len (Nat.lt_of_le_of_lt hgm HMB.out)
  go_wp2_with fail
  refine(f_7 p8.nv (by omega)).mono ?_;rintro e w9 ⟨A9,n9,c9,rfl,p9,k9,B9⟩;replace hx:=hx.below B9;replace p8:=p8.below B9;replace hW:=hW.trans (B9.mono hW.size);by_cases hsq:gk*gk<=v
  ·have HSQ:=Lib.hid hsq;clear hsq
   go_wp2_with fail
   refine(d_4 hx p9.nv (by omega) HSQ.out).mono ?_;rintro e w10 ⟨A10,n10,c10,rfl,p10,k10,B10⟩;replace p8:=p8.below B10;replace hW:=hW.trans (B10.mono hW.size);have P:Hid (RtPost v n w (.returned (.tuple #[.slice A8 n8 c8,.slice A10 n10 c10])) w10):=
    Lib.hid ⟨_,_,_,_,_,_,gk,rfl,Lib.hid ⟨HSQ.out,hin.out⟩,p8,p10,p8.len (Nat.lt_of_le_of_lt (q_y HSQ.out) LV.out),k10,hW⟩
   clear p8 p9 p10 hW
   go_wp2_with fail
   go_ret2
   exact P.out
  ·have HSQ:=Lib.hid (show v<gk*gk by omega);have hg0:0<gk:=by
    rcases Nat.eq_zero_or_pos gk with h0|h0
    ·rw[h0]at hsq;omega
    ·exact h0
   clear hsq
   go_wp2_with fail
   refine(n_j hx p9.nv (by omega) HSQ.out).mono ?_;rintro e w10 ⟨⟨A10,c10,rfl⟩,B10⟩;replace hx:=hx.below B10;replace p8:=p8.below B10;replace hW:=hW.trans (B10.mono hW.size);clear p9
   go_wp2_with fail
   refine(m_e 1 (by omega) _).mono ?_;rintro e w11 ⟨A11,n11,c11,rfl,p11,k11,B11⟩;replace hx:=hx.below B11;replace p8:=p8.below B11;replace hW:=hW.trans (B11.mono hW.size)
   go_wp2_with fail
   refine(d_4 p8.nv p11.nv (by omega) hg0).mono ?_;rintro e w12 ⟨A12,n12,c12,rfl,p12,k12,B12⟩;replace hx:=hx.below B12;replace hW:=hW.trans (B12.mono hW.size);have hn:Hid (v<(gk - 1+1)*(gk - 1+1)):=Lib.hid (by rw[Nat.sub_add_cancel hg0];exact HSQ.out);clear p8 p11 hin
   go_wp2_with fail
   go_roundg (gk - 1)
   case rel=>exact⟨by omega,hn,hW,hx,_,_,_,rfl,p12⟩
   case measure=>omega
theorem o_u (v:Nat):RootOk v:=by
 induction v using Nat.strongRecOn with
 |_ v ih=>
  rcases Nat.lt_or_ge v 18446744073709551616 with h|h
  ·exact j_0 h
  ·exact l_2 h ih
end
section
open Go.RowKit
def sqs (f:Nat->Int):Nat->Nat
 |0=>0
 |j+1=>sqs f j+(f j).natAbs*(f j).natAbs
theorem l_q {a b:Nat}(h:a*a<b*b):a<b:=Nat.lt_of_not_le fun e=>by have:=Nat.mul_le_mul e e;omega
theorem e_r (S:Nat):∃r,r*r<=S/\S<(r+1)*(r+1):=by
 induction S with
 |zero=>exact⟨0,by omega,by omega⟩
 |succ S ih=>
  obtain⟨r,h1,h2⟩:=ih;by_cases e:S+1<(r+1)*(r+1)
  ·exact⟨r,by omega,e⟩
  ·exact⟨r+1,by omega,by have:(r+1)*(r+1)<(r+1+1)*(r+1+1):=Nat.mul_lt_mul'' (by omega) (by omega);omega⟩
theorem d_p (S:Nat):∃L,S<=L*L/\∀m,S<=m*m->L<=m:=by
 obtain⟨r,h1,h2⟩:=e_r S;by_cases e:S - r*r=0
 ·refine⟨r,by omega,fun m hm=>?_⟩;have:r*r<=m*m:=by omega
  exact Nat.le_of_not_lt fun h=>by have:=Nat.mul_lt_mul'' h h;omega
 ·refine⟨r+1,by omega,fun m hm=>?_⟩;have:r*r<m*m:=by omega
  exact l_q this
noncomputable def lsq (S:Nat):Nat:=Classical.choose (d_p S)
theorem n_s (S:Nat):S<=lsq S*lsq S:=(Classical.choose_spec (d_p S)).1
theorem r_i {S m:Nat}(h:S<=m*m):lsq S<=m:=(Classical.choose_spec (d_p S)).2 m h
theorem n_r {S L:Nat}(h1:S<=L*L)(h2:∀m,S<=m*m->L<=m):L=lsq S:=Nat.le_antisymm (h2 _ (n_s S)) (r_i h1)
theorem i_c {S r:Nat}(h1:r*r<=S)(h2:S<(r+1)*(r+1)):lsq S=if S - r*r=0 then r else r+1:=by
 symm
 by_cases e:S - r*r=0
 ·rw[if_pos e];refine n_r (by omega) fun m hm=>?_;have:r*r<=m*m:=by omega
  exact Nat.le_of_not_lt fun h=>by have:=Nat.mul_lt_mul'' h h;omega
 ·rw[if_neg e];refine n_r (by omega) fun m hm=>?_;have:r*r<m*m:=by omega
  exact l_q this
theorem r_h (a:Nat):lsq (a*a)=a:=by rw[i_c (r:=a) (Nat.le_refl _) (Nat.mul_lt_mul'' (Nat.lt_succ_self a) (Nat.lt_succ_self a)),Nat.sub_self,if_pos rfl]
noncomputable def bdn (c:Nat)(F:Nat->Nat->Int):Nat->Nat
 |0=>1
 |i+1=>bdn c F i*lsq (sqs (F i) c)
theorem j_u (f:Nat->Int):∀j,((sqs f j:Nat):Int)=DT.sumN j fun k=>f k*f k
 |0=>rfl
 |j+1=>by
  show((sqs f j+(f j).natAbs*(f j).natAbs:Nat):Int)=DT.sumN j (fun k=>f k*f k)+f j*f j
  rw[Int.natCast_add,j_u f j,Int.natAbs_mul_self]
theorem i_r (c:Nat)(F:Nat->Nat->Int):∀i,((bdn c F i:Nat):Int)=DT.prodN i fun k=>(lsq (sqs (F k) c):Int)
 |0=>rfl
 |i+1=>by
  show((bdn c F i*lsq (sqs (F i) c):Nat):Int)=DT.prodN i (fun k=>(lsq (sqs (F k) c):Int))*(lsq (sqs (F i) c):Int)
  rw[Int.natCast_mul,i_r c F i]
theorem k_7 (r:Nat)(F:Nat->Nat->Int):((DT.det r F).natAbs:Int)<=(bdn r F r:Int):=by
 rw[i_r];refine DT.hadamard_roots r F (fun k=>(lsq (sqs (F k) r):Int)) (fun i _=>by omega) fun i _=>?_;have h:=n_s (sqs (F i) r);have e:=j_u (F i) r;unfold DT.gm;rw[<-e,<-Int.natCast_mul];omega
def IsN (x k:Nat):FVal:=fun v w=>∃A n c,v= .slice A n c/\Cv w A n c x/\n<=k
def kN (x k:Nat):FK:=.f (IsN x k) (fun v w w' ⟨A,n,c,e,h1,h2⟩ hb=>⟨A,n,c,e,h1.below hb,h2⟩)
theorem CvPost.q {x k k':Nat}{w w':World}{e:Ending}(h:CvPost x k w e w')(hk:k<=k'):RetK (kN x k') w e w':=by
 obtain⟨A,n,c,e,h1,h2,h3⟩:=h;exact⟨_,e,⟨A,n,c,rfl,h1,by omega⟩,h3⟩
theorem n_p {u v:Value}{x y a b k:Nat}{w:World}(hx:IsN x a u w)(hy:IsN y b v w)(ha:a<=1099511627776)(hb:b<=1099511627776)(hk:max a b+1<=k):Calls Try.prog 63 #[u,v] w (RetK (kN (x+y) k) w):=by
 obtain⟨A,n,c,rfl,h1,h2⟩:=hx;obtain⟨A',n',c',rfl,h1',h2'⟩:=hy;exact(i_u h1.nv h1'.nv (by omega) (by omega)).mono fun e w' h=>h.q (by omega)
theorem k_e {u:Value}{x a:Nat}{w:World}(hx:IsN x a u w)(ha:a<=1099511627776):Calls Try.prog 34 #[u] w (RetK (.k (.int .i64 (bl x:Int))) w):=by
 obtain⟨A,n,c,rfl,h1,h2⟩:=hx;exact(k_d h1.nv (by omega)).mono fun e w' ⟨h,e2⟩=>by subst e2;exact⟨_,h,rfl,Below.refl _ _⟩
theorem o_9 {u:Value}{x r a:Nat}{w:World}(hx:IsN x a u w)(ha:a<=1000)(h1:r*r<=x)(h2:x<(r+1)*(r+1)):Calls Try.prog 75 #[u] w (RetK (kT (kN r a) (kN (x - r*r) a)) w):=by
 obtain⟨A,n,c,rfl,h3,h4⟩:=hx;refine(o_u x A n c w h3.nv (by omega)).mono ?_;rintro e w' ⟨A1,n1,c1,A2,n2,c2,r',rfl,hr,p1,p2,q1,q2,hB⟩;obtain⟨g1,g2⟩:=hr.out;have e1:r'=r:=by
  have a1:r'<r+1:=l_q (by omega);have a2:r<r'+1:=l_q (by omega);omega
 subst e1;exact⟨_,rfl,⟨_,_,rfl,⟨A1,n1,c1,rfl,p1,by omega⟩,⟨A2,n2,c2,rfl,p2,by omega⟩⟩,hB⟩
theorem Cv.zero (w:World):Cv w none 0 0 0:=by
 have h:=(Zc.nought w).1;exact h
theorem m_l {q:Bool}{w:World}{A:Option Addr}{n d k:Nat}{f:Nat->Int}(ha:ZL q w A n d k (rw' n f))(hn:n<=64)(hk:k<=400):Calls Try.prog 48 #[.slice A n d] w (RetK (kN (lsq (sqs f n)) (2*k+n+2)) w):=by
 have HL:=Lib.hid ha;clear ha;go_enter Try.func48,Try.ntmps48
 go_wp2_with fail
 go_loopw [10,3] (fun s10 s3 wr=>∃j:Nat,s10= .int .i64 (j:Int)/\j<=n/\Hid (Below w.heap.size w wr/\∃A' n' c',s3= .slice A' n' c'/\Cv wr A' n' c' (sqs f j)/\n'<=2*k+j)) (fun s10 _ _=>n - (intOf s10).toNat)
 case atStart=>exact⟨0,rfl,Nat.zero_le _,Lib.hid ⟨Below.refl _ _,none,0,0,rfl,Cv.zero w,Nat.zero_le _⟩⟩
 case round=>
  obtain⟨j,rfl,hj,HB⟩:=hrel;by_cases hlt:j<n
  ·have u2:(j:Int)<(n:Int):=by omega
   obtain⟨B0,A',n',c',rfl,hc,hkn⟩:=HB.out;clear HB;obtain⟨ad,rfl,hab,hA⟩:=(HL.out.below B0).at hlt;obtain⟨s1,A1,n1,c1,e1,e2,ze,hk1⟩:=hA;have hz1:=ze.1;rw[f_k hlt]at hz1;clear ze;go_upto_region 4 with fail
   refine Run.start 3 ?_;refine .two .o .o (opIx hlt) ?_;refine .ld (.i 0) (ldE (by rw[a_a];exact hab) e1 e2) ?_;refine .al ?_;refine .donep [some 12,some 13,some 5] ?_;intro w2 B2;rintro g5 hg5 hl5 hc5 -;refine sh [_] ?_;simp only[Act.put,lS,lZ,lC];have b5:=zeroZ (T:=0) hc5;have hs1:=B0.size;replace B0:=zup B0 B2;replace hz1:=hz1.below B2;replace hc:=hc.below B2;have hno_:=b5.now (by simp);have hgr_:=f_a w2 g5 s1 A1 n1 c1;have hc':=hc.gro hno_ hgr_;clear e1 e2 hab hc5 B2 hc hno_ hgr_;obtain⟨w3,hw3⟩:∃x,zput w2 g5 s1 A1 n1 c1=x:=⟨_,rfl⟩;obtain⟨f1_,f2_,f3_,f4_,f5_⟩:=Ib.entry b5;replace hz1:=hz1.zp (s':=s1) (A':=A1) (n':=n1) (c':=c1) b5;rw[hw3]at hz1;replace B0:=a_e (g:=g5) (s:=s1) (A:=A1) (n:=n1) (c:=c1) B0 (by omega);rw[hw3]at B0;replace b5:=b5.zp (s:=s1) (A:=A1) (n:=n1) (c:=c1);rw[hw3]at b5;have Hw3:=Lib.hid hw3;unfold zput at Hw3;clear hw3;have e_:=Hw3.out;change zput _ _ _ _ _ _=_ at e_;rw[e_]at hc';clear e_;go_upto_region 5 with fail
   rw[Hw3.out];clear f1_ f2_ f3_ f4_ f5_ Hw3;obtain⟨hnv,-⟩:=hz1.abs;refine Run.start 5 ?_;refine .mv .o ?_;refine .fa .o (fZ1 1) ?_;refine .ld (.i 1) (ldNat b5 1) ?_;refine .c1 (.i 2) (x:=kN ((f j).natAbs*(f j).natAbs) (2*k)) (by rintro u w4 hB rfl;exact(f_7 (hnv.below hB) (by omega)).mono fun e w' h=>h.q (by omega)) ?_;refine .c2 (.i 0) (.i 3) (x:=kN (sqs f (j+1)) (2*k+(j+1))) (by rintro u v w4 hB rfl hv;exact n_p (a:=2*k+j) (b:=2*k) ⟨_,_,_,rfl,hc'.below hB,hkn⟩ hv (by omega) (by omega) (by omega)) ?_;refine .donep [some 14,some 15,some 16,some 17,some 18] ?_;intro w4 B4;rintro v17 -;rintro v ⟨A5,n5,c5,rfl,hc5,hk5⟩;refine sh [_] ?_;simp only[Act.put,lS,lZ,lC];have HS:Hid (Below w.heap.size w w4/\∃A' n' c',Value.slice A5 n5 c5= .slice A' n' c'/\Cv w4 A' n' c' (sqs f (j+1))/\n'<=2*k+(j+1)):=Lib.hid ⟨zup B0 B4,A5,n5,c5,rfl,hc5,hk5⟩;clear b5 hz1 hc' hnv hc5 hk5 B4 B0
   go_wp2_with fail
   go_roundw
   case rel=>exact⟨j+1,by go_num,by omega,HS⟩
   case measure=>first|(simp[intOf];done)|(simp[intOf];omega)
  ·obtain rfl:j=n:=by omega
   have u2:¬(j:Int)<(j:Int):=by omega
   obtain⟨B0,A',n',c',rfl,hc,hkn⟩:=HB.out;obtain⟨rt,hr1,hr2⟩:=e_r (sqs f j);have hl:=i_c hr1 hr2;have HL2:=Lib.hid hl;clear HB hl;go_upto_region 7 with fail
   refine Run.start 7 ?_;refine .mv .o ?_;refine .c1 (.i 0) (x:=kT (kN rt (2*k+j)) (kN (sqs f j - rt*rt) (2*k+j))) (by rintro u w4 hB rfl;exact o_9 ⟨_,_,_,rfl,hc.below hB,hkn⟩ (by omega) hr1 hr2) ?_;refine .mf (.i 1) ?_;refine .ex (.i 2) 0 kT_0 ?_;refine .ex (.i 2) 1 kT_1 ?_;refine .mf (.i 3) ?_;refine .mf (.i 4) ?_;refine .donep [some 21,some 22,some 20,some 23,some 24,some 6,some 7] ?_;intro w4 B4;rintro v22 -;rintro v20 -;rintro v23 -;rintro v24 -;rintro v ⟨A6,n6,c6,rfl,h6,k6⟩;rintro v ⟨A7,n7,c7,rfl,h7,k7⟩;refine sh [] ?_;simp only[Act.put,lS,lZ,lC];replace B0:=zup B0 B4;clear B4 hc;obtain⟨t,ht⟩:∃t,decide ((0:Int)<(bl (sqs f j - rt*rt):Int))=t:=⟨_,rfl⟩;have HT:=Lib.hid ht;clear ht;go_upto_region 8 with fail
   cases t
   ·refine Run.start 3 ?_;refine .mv .o ?_;refine .c1 (.i 0) (x:=.k (.int .i64 (bl (sqs f j - rt*rt):Int))) (by rintro u w5 hB rfl;exact k_e ⟨_,_,_,rfl,h7.below hB,k7⟩ (by omega)) ?_;refine .two (.i 1) .o (opGt HT.out) ?_;refine .donep [some 25,some 26,some 27] ?_;intro w5 B5;refine sh [] ?_;simp only[Act.put,lS,lZ,lC];have e0:sqs f j - rt*rt=0:=by
     have h:=of_decide_eq_false HT.out;exact bl_eq_zero.1 (by omega)
    have P:Hid (RetK (kN (lsq (sqs f j)) (2*k+j+2)) w (.returned (.slice A6 n6 c6)) w5):=Lib.hid ⟨_,rfl,⟨A6,n6,c6,rfl,by rw[HL2.out,if_pos e0];exact h6.below B5,by omega⟩,zup B0 B5⟩;clear h6 h7 B5 B0
    go_wp2_with fail
    exact bodyPost_ret (v:=.slice A6 n6 c6) (by simp[results,Try.results48,go_sem]) rfl P.out
   ·refine Run.start 3 ?_;refine .mv .o ?_;refine .c1 (.i 0) (x:=.k (.int .i64 (bl (sqs f j - rt*rt):Int))) (by rintro u w5 hB rfl;exact k_e ⟨_,_,_,rfl,h7.below hB,k7⟩ (by omega)) ?_;refine .two (.i 1) .o (opGt HT.out) ?_;refine .donep [some 25,some 26,some 27] ?_;intro w5 B5;refine sh [] ?_;simp only[Act.put,lS,lZ,lC];have e0:¬sqs f j - rt*rt=0:=fun h2=>by
     have h:=of_decide_eq_true HT.out;rw[h2]at h;simp[bl_zero]at h
    replace h6:=h6.below B5;replace B0:=zup B0 B5;clear h7 B5;go_upto_region 9 with fail
    refine Run.start 4 ?_;refine .mv .o ?_;refine .c1 .o (x:=kN 1 1) (by rintro u w6 hB rfl;exact(j_g 1 (by omega) w6).mono fun e w' h=>h.q (Nat.le_refl _)) ?_;refine .c2 (.i 0) (.i 1) (x:=kN (rt+1) (2*k+j+2)) (by rintro u v w6 hB rfl hv;exact n_p (a:=2*k+j) (b:=1) ⟨_,_,_,rfl,h6.below hB,k6⟩ hv (by omega) (by omega) (by omega)) ?_;refine .mf (.i 2) ?_;refine .donep [some 28,some 29,some 30,some 2] ?_;intro w6 B6;rintro v29 -;rintro v30 -;rintro v ⟨A9,n9,c9,rfl,h9,k9⟩;refine sh [] ?_;simp only[Act.put,lS,lZ,lC];have P:Hid (RetK (kN (lsq (sqs f j)) (2*k+j+2)) w (.returned (.slice A9 n9 c9)) w6):=Lib.hid ⟨_,rfl,⟨A9,n9,c9,rfl,by rw[HL2.out,if_neg e0];exact h9,k9⟩,zup B0 B6⟩;clear h6 h9 B6 B0
    go_wp2_with fail
    exact bodyPost_ret (v:=.slice A9 n9 c9) (by simp[results,Try.results48,go_sem]) rfl P.out
end
section
open Go.RowKit
def IsHdn (b r:Nat):FVal:=fun v w=>∃H,v= .slice (some ⟨H,0,none⟩) r r/\Bx w H 28 (List.replicate r (.slice none 0 0))/\b<=H
def kHdn (b r:Nat):FK:=.f (IsHdn b r) (fun v w w' ⟨H,e,h1,h2⟩ hb=>⟨H,e,h1.below hb,h2⟩)
theorem info_nn:(Try.prog.info? 28).map (fun i=>(i.zero,i.size,i.bytes))=some (some (.slice none 0 0),1,24):=by kernel_rfl
theorem o_n (w:World)(r:Nat)(hr:r<=1048576):(Instr.makeSlice 75 (.int .i64 (r:Int)) (.int .i64 (r:Int))).run Try.prog w= .ok (.slice (some ⟨w.heap.size,0,none⟩) r r) (w.alloc (.cells (List.replicate r (.slice none 0 0)).toArray 28)):=by
 obtain⟨i,hi,hz0,hz1,hz2⟩:=info_parts info_nn;rw[run_make w _ _ i (.slice none 0 0) Try.underlying75 hi hz0 .i64 .i64 (r:Int) (r:Int) (by omega) (Int.le_refl _) (by rw[hz2];omega) (by omega)];rw[hz1];simp[madeCells];congr 2
 apply Array.ext
 ·simp
 ·intro j h1 h2;simp[Value.cells,Nat.mod_one]
section
variable {ops:Array Oper}{Q:Exit->Act->World->Prop}{m i:Nat}{a0:Act}{w0:World}{l:List FK}{b:Bool}{id:Nat}
def okMn (ops:Array Oper)(m i:Nat)(s:Src):Bool:=okH ops m i&&(match(opAt ops i).op with| .makeSlice T x y=>T==75&&s.ok ops m i x&&s.ok ops m i y|_=>false)
theorem Run.mkN (s:Src){r b0:Nat}(hr:r<=1048576)(hb0:b0<=w0.heap.size)(rest:R ops Q m a0 w0 b id (kHdn b0 r::l) (i+1))(hx:s.K l i a0 (mkX (opAt ops i).op)= .k (.int .i64 (r:Int)):=by rfl)(hy:s.K l i a0 (mkY (opAt ops i).op)= .k (.int .i64 (r:Int)):=by rfl)(hc:okMn ops m i s=true:=by kernel_rfl)(hg:Gd l i (opAt ops i):=by first|exact trivial|exact rfl):R ops Q m a0 w0 b id l i:=by
 unfold okMn at hc;rw[Bool.and_eq_true]at hc;obtain⟨hh,h4⟩:=hc;refine Run.mem (x:=kHdn b0 r) (fun a w h=>?_) rest (FK.fne _) hh hg;split at h4
 ·rename_i T x y e;simp only[Bool.and_eq_true,beq_iff_eq]at h4;obtain⟨⟨rfl,h2⟩,h3⟩:=h4;rw[e]at hx hy;refine⟨_,_, ?_,⟨w.heap.size,rfl,Bx.new w _ _,Nat.le_trans hb0 h.below.size⟩,zba w _⟩;unfold execOp;rw[e];simp only[h.srcK h2 hx,h.srcK h3 hy];simp[o_n w r hr]
 ·cases h4
end
theorem o_q {w:World}{H i n c:Nat}(h:i<n):(Instr.indexAt 75 (.slice (some ⟨H,0,none⟩) n c) (.int .i64 (i:Int))).run Try.prog w= .ok (.pointer (some ⟨H,i,none⟩)) w:=by
 simp[go_sem,Try.underlying75,show Try.prog.cellsOf 28=1 by kernel_rfl];omega
theorem opIxQ {H i n c:Nat}{X Y:Operand}(h:i<n)(w:World):RunTwo Try.prog (.indexAddr 75 X Y) w (.slice (some ⟨H,0,none⟩) n c) (.int .i64 (i:Int)) (.pointer (some ⟨H,i,none⟩)):=o_q h
theorem prodV_app:∀(L:List Ent) (e:Ent),prodV (L++[e])=prodV L*e.v
 | [],e=>by simp[prodV]
 |r::L,e=>by simp only[List.cons_append,prodV];rw[prodV_app L e,Nat.mul_assoc]
theorem wtV_app:∀(L:List Ent) (e:Ent),wtV (L++[e])=wtV L+e.n
 | [],e=>by simp[wtV]
 |r::L,e=>by simp only[List.cons_append,wtV];rw[wtV_app L e,Nat.add_assoc]
theorem h_7 {w:World}:∀(L:List Ent),(∀e,e∈L->Nv w e.A e.n e.c e.v)->prodV L<=18446744073709551616^wtV L
 | [],_=>by simp[prodV,wtV]
 |r::L,h=>by
  have h1:=(h r (by simp)).lt;have h2:=h_7 L fun e he=>h e (by simp[he]);simp only[prodV,wtV,Nat.pow_add];exact Nat.mul_le_mul (Nat.le_of_lt h1) h2
theorem m_b {w:World}(L:List Ent)(h:∀e,e∈L->Nv w e.A e.n e.c e.v):prodV L<18446744073709551616^(wtV L+1):=by
 have h1:=h_7 L h;have h2:0<18446744073709551616^wtV L:=Nat.pow_pos (by omega);rw[Nat.pow_succ];omega
structure Lens (w:World) (c k:Nat) (F:Nat->Nat->Int) (i:Nat) (L:List Ent):Prop where
 len:L.length=i
 prod:prodV L=bdn c F i
 wt:wtV L<=i*k
 ok:∀e,e∈L->Nv w e.A e.n e.c e.v
theorem Lens.below {w w':World}{c k:Nat}{F:Nat->Nat->Int}{i:Nat}{L:List Ent}(h:Lens w c k F i L)(hb:Below w.heap.size w w'):Lens w' c k F i L:=⟨h.len,h.prod,h.wt,fun e he=>(h.ok e he).below hb⟩
theorem Lens.gro {w w':World}{c k g:Nat}{F:Nat->Nat->Int}{i:Nat}{L:List Ent}(h:Lens w c k F i L)(hn:Wless w g)(hg:w.grownBy w' (some g)):Lens w' c k F i L:=⟨h.len,h.prod,h.wt,fun e he=>(h.ok e he).gro hn hg⟩
theorem Lens.more {w:World}{c k:Nat}{F:Nat->Nat->Int}{i:Nat}{L:List Ent}(h:Lens w c k F i L){A:Option Addr}{n d:Nat}(hz:Cv w A n d (lsq (sqs (F i) c)))(hk:n<=k):Lens w c k F (i+1) (L++[⟨A,n,d,lsq (sqs (F i) c)⟩]):=⟨by simp[h.len],by rw[prodV_app,h.prod];rfl,by rw[wtV_app,Nat.succ_mul];have:=h.wt;dsimp only;omega,fun e he=>by
 rw[List.mem_append]at he;rcases he with he|he
 ·exact h.ok e he
 ·simp at he;subst he;exact hz.nv⟩
def hdn (L:List Ent)(r i:Nat):List Value:=vals L++List.replicate (r - i) (.slice none 0 0)
theorem p_l {L:List Ent}{r i:Nat}(hl:L.length=i)(hi:i<r)(e:Ent):(hdn L r i).set i e.val=hdn (L++[e]) r (i+1):=by
 unfold hdn;have hv:(vals L).length=i:=by rw[a_x,hl]
 rw[List.set_append_right _ _ (by omega),hv,Nat.sub_self,show r - i=(r - (i+1))+1 by omega,List.replicate_succ,List.set_cons_zero];simp[vals]
theorem p_n {L:List Ent}{r i:Nat}(hl:L.length=i)(hi:i<=r):(hdn L r i).length=r:=by unfold hdn;rw[List.length_append,a_x,List.length_replicate];omega
theorem p_m {w:World}{H r i:Nat}{L:List Ent}(b:Bx w H 28 (hdn L r i)):Wless w H:=b.now fun v hv m e=>by
 unfold hdn at hv;rw[List.mem_append]at hv;rcases hv with hv|hv
 ·simp only[vals,List.mem_map]at hv;obtain⟨x,_,rfl⟩:=hv;cases e
 ·rw[(List.mem_replicate.1 hv).2]at e;cases e
theorem l_f {q:Bool}{r n d k K:Nat}{A:Option Addr}{F:Nat->Nat->Int}{w:World}(ha:Mt q w r r A n d k F)(hk:k<=400)(hK:r*(2*k+r+2)+1=K):Calls Try.prog 23 #[.agg #[.int .i64 (r:Int),.int .i64 (r:Int),.slice A n d]] w (RetK (kT (kC (bdn r F r:Int) K) (.k (.int .i64 0))) w):=by
 have h1:=ha.fmd;have h3:=ha.hr;have hs1:(fmd (r:Int) (r:Int) n&&decide ((r:Int)=(r:Int)))=true:=by rw[h1];simp
 have hK2:K<=64*866+1:=by rw[<-hK];exact Nat.succ_le_succ (Nat.mul_le_mul h3 (by omega))
 obtain⟨w1,hw1,b1,b2,z1,s1⟩:=boxes2 w 24 30 [.int .i64 (r:Int),.int .i64 (r:Int),.slice A n d] [.bool false,.slice none 0 0];have HW:=Lib.hid hw1;have HZ:=Lib.hid z1;have hs1_:=Lib.hid hs1;have hK_:=Lib.hid hK;clear hw1 z1 hs1 hK h1;go_enter Try.func23,Try.ntmps23
 go_upto_region 1 with fail
 rw[HW.out];refine Run.start 3 ?_;refine .ld .o (ldM b1 0) ?_;refine .c1 (.i 0) (x:=.k (.bool true)) (by rintro u w2 hB rfl;exact sq_q hs1_.out w2) ?_;refine .nt (.i 1) ?_;refine .donep [some 6,some 7,some 8] ?_;intro w2 B2;refine sh [] ?_;simp only[Act.put,lS,lZ,lC];have B0:=zup HZ.out B2;replace b1:=b1.below B2;replace b2:=b2.below B2;have hl1:=b1.lt;have hl2:=b2.lt;have hs2:=B0.size;clear B2 HZ;go_upto_region 3 with fail
 refine Run.start 4 ?_;refine .fa .o (fM0 0) ?_;refine .ld (.i 0) (ldInt b1 0) ?_;refine .mkN (.i 1) (r:=r) (b0:=w2.heap.size) (by omega) (Nat.le_refl _) ?_;refine .mf (.i 2) ?_;refine .donep [some 10,some 11,some 12,some 4] ?_;intro w3 B3;rintro v12 -;rintro v ⟨H,rfl,bh,hH⟩;refine sh [] ?_;simp only[Act.put,lS,lZ,lC];have H0:Hid (Below w.heap.size w w3/\Bx w3 w.heap.size 24 [.int .i64 (r:Int),.int .i64 (r:Int),.slice A n d]/\Bx w3 (w.heap.size+1) 30 [.bool false,.slice none 0 0]/\∃L,Bx w3 H 28 (hdn L r (0))/\Lens w3 r (2*k+r+2) F (0) L):=Lib.hid ⟨zup B0 B3,b1.below B3,b2.below B3,[],by unfold hdn;simpa [vals] using bh,⟨rfl,rfl,by simp[wtV],fun e he=>by simp at he⟩⟩;have HM:=Lib.hid ha;have hH2:w.heap.size+1<H:=by omega
 have hH3:w.heap.size<=H:=by omega
 clear b1 b2 bh B0 B3 ha hl1 hl2 hs2 hH
 go_wp2_with fail
 go_loopw [15] (fun s15 wr=>∃i:Nat,s15= .int .i64 (i:Int)/\i<=r/\Hid (Below w.heap.size w wr/\Bx wr w.heap.size 24 [.int .i64 (r:Int),.int .i64 (r:Int),.slice A n d]/\Bx wr (w.heap.size+1) 30 [.bool false,.slice none 0 0]/\∃L,Bx wr H 28 (hdn L r (i))/\Lens wr r (2*k+r+2) F (i) L)) (fun s15 _=>r - (intOf s15).toNat)
 case atStart=>exact⟨0,rfl,Nat.zero_le _,H0⟩
 case round=>
  obtain⟨i,rfl,hir,HB⟩:=hrel;clear H0;by_cases hlt:i<r
  ·have u2:(i:Int)<(r:Int):=by omega
   obtain⟨B0,b1,b2,L,bh,hl⟩:=HB.out;have hr5:(i+1)*r<=r*r:=Nat.mul_le_mul_right r hlt;have hr6:r*r<=64*64:=Nat.mul_le_mul h3 h3;have hr7:i*r<=(i+1)*r:=Nat.mul_le_mul_right r (Nat.le_succ i);have hr8:(i+1)*r=i*r+r:=Nat.succ_mul i r;have hM:=HM.out.below B0;have hln:=hM.len;have hcap:=hM.zl.le;have hrow:=hM.row hlt d (by omega) (Nat.le_refl _);have hrr:(i+1)*r - i*r=r:=by omega
   obtain⟨Ar,hAr⟩:∃v,(if d=i*r then A else A.map (·.add (i*r*2)))=v:=⟨_,rfl⟩;rw[hAr]at hrow;have HAr:=Lib.hid hAr;have HRR:=Lib.hid hrr;clear HB hM hAr hrr;go_upto_region 7 with fail
   refine Run.start 16 ?_;refine .mv .o ?_;refine .mv .o ?_;refine .fa .o (fM2 2) ?_;refine .ld (.i 2) (ldSl b1 2) ?_;refine .mv .o ?_;refine .fa .o (fM1 1) ?_;refine .ld (.i 5) (ldInt b1 1) ?_;refine .two (.i 4) (.i 6) (opMulN i r (by omega)) ?_;refine .mv .o ?_;refine .two (.i 8) .o (opAddN i 1 (by omega)) ?_;refine .fa .o (fM1 1) ?_;refine .ld (.i 10) (ldInt b1 1) ?_;refine .two (.i 9) (.i 11) (opMulN (i+1) r (by omega)) ?_;refine .sl2 (.i 3) (.i 7) (.i 12) (A:=A) (n:=n) (cap:=d) hr7 (by omega) ?_;refine .c1 (.i 13) (x:=kN (lsq (sqs (F i) r)) (2*k+r+2)) (by rintro u w4 hB rfl;rw[HAr.out,HRR.out];exact m_l (hrow.below hB) h3 hk) ?_;refine .two (.i 0) (.i 1) (opIxQ hlt) ?_;refine .donep [some 18,some 19,some 20,some 21,some 22,some 23,some 24,some 25,some 26,some 27,some 28,some 29,some 30,some 31,some 32,some 33] ?_;intro w4 B4;rintro v ⟨A4,n4,c4,rfl,hc4,hk4⟩;refine sh [_] ?_;simp only[Act.put,lS,lZ,lC];replace B0:=zup B0 B4;replace b1:=b1.below B4;replace b2:=b2.below B4;replace bh:=bh.below B4;replace hl:=(hl.below B4).more hc4 hk4;have hLl:L.length=i:=by have:=hl.len;simp at this;exact this
   have x1:=(bh.cell i).trans (List.getElem?_eq_getElem (by rw[p_n hLl (by omega)];exact hlt));have y1:=bh.free i;have hgr:w4.grownBy (w4.setCell ⟨H,i,none⟩ (.slice A4 n4 c4)) (some H):=a_o (q:=⟨H,i,none⟩) (a_2 w4 (some H)) rfl _;have hno:=p_m bh;have HS:Hid (Below w.heap.size w (w4.setCell ⟨H,i,none⟩ (.slice A4 n4 c4))/\Bx (w4.setCell ⟨H,i,none⟩ (.slice A4 n4 c4)) w.heap.size 24 [.int .i64 (r:Int),.int .i64 (r:Int),.slice A n d]/\Bx (w4.setCell ⟨H,i,none⟩ (.slice A4 n4 c4)) (w.heap.size+1) 30 [.bool false,.slice none 0 0]/\∃L,Bx (w4.setCell ⟨H,i,none⟩ (.slice A4 n4 c4)) H 28 (hdn L r (i+1))/\Lens (w4.setCell ⟨H,i,none⟩ (.slice A4 n4 c4)) r (2*k+r+2) F (i+1) L):=Lib.hid ⟨e_5 B0 hgr hH3,c_x b1 hgr (by omega),c_x b2 hgr (by omega),_,by rw[<-p_l hLl hlt];exact bh.set i _,hl.gro hno hgr⟩;clear b1 b2 bh hl hgr hno hc4 B4 B0 hrow
   go_wp2_with fail
   go_roundw
   case rel=>exact⟨i+1,by go_num,by omega,HS⟩
   case measure=>first|(simp[intOf];done)|(simp[intOf];omega)
  ·obtain rfl:i=r:=by omega
   have u2:¬(i:Int)<(i:Int):=by omega
   obtain⟨B0,b1,b2,L,bh,hl⟩:=HB.out;clear HB;go_upto_region 9 with fail
   refine Run.start 3 ?_;refine .mv .o ?_;refine .c1 (.i 0) (x:=kN (bdn i F i) K) (by rintro u w4 hB rfl;exact(f_m (R:=L) (N:=wtV L) (by intro h0;refine⟨⟨H,0,none⟩,rfl,(bh.below hB).lt,fun j hj=>?_⟩;rw[b_d,(bh.below hB).cell j];unfold hdn;rw[List.getElem?_append_left (by rw[a_x];exact hj),h_y hj]) hl.len (fun e he=>⟨(hl.below hB).ok e he,fun ad ea h0=>.inl (by obtain⟨xs,hr,hx2,-⟩:=(hl.below hB).ok e he;obtain⟨ad',e2,hlt2,-⟩:=hr (by omega);rw[ea]at e2;cases e2;exact hlt2)⟩) (by omega) (Nat.le_refl _) (by have:=hl.wt;have:=hK_.out;omega)).mono fun e w' h=>by rw[hl.prod]at h;exact(h.cv (by rw[<-hl.prod];exact m_b L hl.ok)).q (by have:=hl.wt;have:=hK_.out;omega)) ?_;refine .c2 (.i 1) .o (x:=kC (bdn i F i:Int) K) (by rintro u v w4 hB ⟨A1,n1,c1,rfl,h1,h2⟩ rfl;exact(f_b (b:=false) h1.nv (by omega)).mono fun e w' h=>h.q h2) ?_;refine .donep [some 35,some 36,some 37] ?_;intro w4 B4;rintro v36 -;rintro v ⟨s_,A_,n_,c_,rfl,hz,hk_⟩;refine sh [_,_] ?_;simp only[Act.put,lS,lZ,lC];have I:=Ib.entry (b2.below B4);have P:Hid (RetK (kT (kC (bdn i F i:Int) K) (.k (.int .i64 0))) w (.returned (.tuple #[.agg #[.bool s_,.slice A_ n_ c_],.int .i64 0])) ((w4.setCell ⟨w.heap.size+1,0,none⟩ (.bool s_)).setCell ⟨w.heap.size+1,1,none⟩ (.slice A_ n_ c_))):=Lib.hid (by
    obtain⟨u,e,h1,h2⟩:=retC hz I (k:=K) hk_ (by omega) (zup B0 B4);cases e;exact⟨_,rfl,⟨_,_,rfl,h1,rfl⟩,h2⟩)
   obtain⟨i1,i2,i3,i4,i5⟩:=I;clear hz b1 b2 bh hl
   go_wp2_with fail
   exact bodyPost_ret (v:=.tuple #[.agg #[.bool s_,.slice A_ n_ c_],.int .i64 0]) (by simp[results,Try.results23,go_sem,i1,i2]) rfl P.out
theorem n_a {r c:Int}{n d K:Nat}{A:Option Addr}{w:World}(h:(fmd r c n&&decide (r=c))=false):Calls Try.prog 23 #[.agg #[.int .i64 r,.int .i64 c,.slice A n d]] w (RetK (kT (kC 0 K) (.k (.int .i64 2))) w):=by
 obtain⟨w1,hw1,b1,b2,z1,s1⟩:=boxes2 w 24 30 [.int .i64 r,.int .i64 c,.slice A n d] [.bool false,.slice none 0 0];have HW:=Lib.hid hw1;have HZ:=Lib.hid z1;have h_:=Lib.hid h;clear hw1 z1 h s1;go_enter Try.func23,Try.ntmps23
 go_upto_region 1 with fail
 rw[HW.out];refine Run.start 3 ?_;refine .ld .o (ldM b1 0) ?_;refine .c1 (.i 0) (x:=.k (.bool false)) (by rintro u w2 hB rfl;exact sq_q h_.out w2) ?_;refine .nf (.i 1) ?_;refine .donep [some 6,some 7,some 8] ?_;intro w2 B2;refine sh [] ?_;simp only[Act.put,lS,lZ,lC];have I:=Ib.entry (b2.below B2);have P:Hid (RetK (kT (kC 0 K) (.k (.int .i64 2))) w (.returned (.tuple #[.agg #[.bool false,.slice none 0 0],.int .i64 2])) ((w2.setCell ⟨w.heap.size+1,0,none⟩ (.bool false)).setCell ⟨w.heap.size+1,1,none⟩ (.slice none 0 0))):=Lib.hid ⟨_,rfl,⟨_,_,rfl,⟨_,_,_,_,rfl,Zc.nought _,Nat.zero_le _⟩,rfl⟩,a_e (zup HZ.out B2) (by omega)⟩;obtain⟨i1,i2,i3,i4,i5⟩:=I
 go_wp2_with fail
 exact bodyPost_ret (v:=.tuple #[.agg #[.bool false,.slice none 0 0],.int .i64 2]) (by simp[results,Try.results23,go_sem,i1,i2]) rfl P.out
end
end Go.Proofs.Ytlgjjnmmepgafaa
