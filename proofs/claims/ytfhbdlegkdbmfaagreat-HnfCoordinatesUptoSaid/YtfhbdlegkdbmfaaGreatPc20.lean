/- Pc20 -/
import Derived.Test.YtfhbdlegkdbmfaaGreatPc05
import Derived.BigRegion
import Derived.Deep.QuietTactic
import Derived.BigQuiet
import Derived.Deep.CutBlock
import Derived.Deep.LoopGhost
set_option linter.unusedVariables false
set_option linter.unusedSimpArgs false
set_option linter.unusedSectionVars false
set_option maxRecDepth 100000
set_option maxHeartbeats 8000000
namespace Go.Proofs.YtfhbdlegkdbmfaaGreat
section
open Go.RowKit
structure Jw (u v x y p q r s:Nat):Prop where
 ex:p*u=q*v+x
 ey:s*v=r*u+y
 det:p*s=q*r+1
 eu:s*x+q*y=u
 ev:r*x+p*y=v
 lp:1<=p
 ls:1<=s
 lyx:y<=x
 px:0<x
 ord:(q=0/\r=0)\/(p<=r/\q<=s)
structure Jump (u v x y p q r s:Nat):Prop where
 jw:Jw u v x y p q r s
 lx:q<=x
 ly:r<=y
theorem Jw.start {u v:Nat}(h:v<=u)(h0:0<u):Jw u v u v 1 0 0 1:=⟨by omega,by omega,by omega,by omega,by omega,by omega,by omega,h,h0,.inl ⟨rfl,rfl⟩⟩
theorem Jump.start {u v:Nat}(h:v<=u)(h0:0<u):Jump u v u v 1 0 0 1:=⟨Jw.start h h0,by omega,by omega⟩
theorem Jw.step {u v x y p q r s:Nat}(j:Jw u v x y p q r s)(hy:0<y):Jw v u y (x%y) s r (q+x / y*s) (p+x / y*r):=by
 obtain⟨ex,ey,det,eu,ev,lp,ls,lyx,px,ord⟩:=j;have h1:=Nat.div_add_mod x y;have h2:=Nat.mod_lt x hy;have h3:0<x / y:=Nat.div_pos lyx hy;generalize x / y=t at *;generalize x%y=m at *;subst h1;have g1:s<=t*s:=Nat.le_mul_of_pos_left _ h3;have g2:r<=t*r:=Nat.le_mul_of_pos_left _ h3;refine⟨by omega, ?_, ?_, ?_, ?_,ls,by omega,by omega,hy,.inr ⟨by omega,by omega⟩⟩
 ·have:=congrArg (· *t) ey;grind
 ·grind
 ·grind
 ·grind
theorem Jump.step {u v x y p q r s:Nat}(j:Jump u v x y p q r s)(hy:0<y)(hs:q+x / y*s<=x%y):Jump v u y (x%y) s r (q+x / y*s) (p+x / y*r):=⟨j.jw.step hy,j.ly,hs⟩
theorem Jw.fits {u v x y p q r s:Nat}(j:Jw u v x y p q r s)(hu:u<18446744073709551616)(hv:v<18446744073709551616)(hy:0<y):q+x / y*s<18446744073709551616/\p+x / y*r<18446744073709551616:=by
 obtain⟨ex,ey,det,eu,ev,lp,ls,lyx,px,ord⟩:=j;have h1:=Nat.div_add_mod x y;generalize x / y=t at *;generalize x%y=m at *;have e1:(q+t*s)*y+s*m=u:=by rw[<-eu,<-h1];grind
 have e2:(p+t*r)*y+r*m=v:=by rw[<-ev,<-h1];grind
 have l1:q+t*s<=(q+t*s)*y:=Nat.le_mul_of_pos_right _ hy;have l2:p+t*r<=(p+t*r)*y:=Nat.le_mul_of_pos_right _ hy;omega
def Jok (a b p q r s:Nat):Prop:=∃X Y,a*p=b*q+X/\b*s=a*r+Y/\s*X+q*Y=a/\r*X+p*Y=b/\(q=0\/(0<X/\p<=r/\q<=s)\/(0<Y/\r<=p/\s<=q))
theorem Jw.ok {u v x y p q r s:Nat}(j:Jw u v x y p q r s):Jok u v p q r s:=by
 obtain⟨ex,ey,det,eu,ev,lp,ls,lyx,px,ord⟩:=j;refine⟨x,y,by rw[Nat.mul_comm u,ex,Nat.mul_comm q],by rw[Nat.mul_comm v,ey,Nat.mul_comm r],eu,ev, ?_⟩;rcases ord with h|h
 ·exact .inl h.1
 ·exact .inr (.inl ⟨px,h⟩)
theorem Jw.ok_flip {u v x y p q r s:Nat}(j:Jw v u x y p q r s):Jok u v s r q p:=by
 obtain⟨ex,ey,det,eu,ev,lp,ls,lyx,px,ord⟩:=j;refine⟨y,x,by rw[Nat.mul_comm u,ey,Nat.mul_comm r],by rw[Nat.mul_comm v,ex,Nat.mul_comm q],by omega,by omega, ?_⟩;rcases ord with h|h
 ·exact .inl h.2
 ·exact .inr (.inr ⟨px,h.2,h.1⟩)
theorem Jump.lift {u v x y p q r s K a b:Nat}(j:Jump u v x y p q r s)(ha:u*K<=a/\a<u*K+K)(hb:v*K<=b/\b<v*K+K):
  ∃X Y,a*p=b*q+X/\b*s=a*r+Y/\s*X+q*Y=a/\r*X+p*Y=b/\0<X:=by
 obtain⟨⟨ex,ey,det,eu,ev,lp,ls,lyx,px,ord⟩,lx,ly⟩:=j;obtain⟨a0,ha0⟩:=Nat.exists_eq_add_of_le ha.1;obtain⟨b0,hb0⟩:=Nat.exists_eq_add_of_le hb.1;have ha1:a0<K:=by omega
 have hb1:b0<K:=by omega
 have k0:q*b0+x<=x*K:=by
  have h1:q*b0<=x*(K - 1):=Nat.mul_le_mul lx (by omega);have h2:x*K=x*(K - 1)+x:=by
   obtain⟨K',rfl⟩:∃K',K=K'+1:=⟨K - 1,by omega⟩;rw[Nat.mul_add,Nat.mul_one];rfl
  omega
 have k1:q*b0<=x*K:=by omega
 have k2:r*a0<=y*K:=Nat.le_trans (Nat.mul_le_mul ly (by omega)) (Nat.le_refl _);have f1:a*p=b*q+(x*K+p*a0 - q*b0):=by
  have e:(u*K+a0)*p=(v*K+b0)*q+(x*K+p*a0 - q*b0):=by
   have h1:(u*K+a0)*p=p*u*K+p*a0:=by grind
   have h2:(v*K+b0)*q=q*v*K+q*b0:=by grind
   rw[h1,h2,ex,Nat.add_mul];omega
  rw[ha0,hb0];exact e
 have f2:b*s=a*r+(y*K+s*b0 - r*a0):=by
  have e:(v*K+b0)*s=(u*K+a0)*r+(y*K+s*b0 - r*a0):=by
   have h1:(u*K+a0)*r=r*u*K+r*a0:=by grind
   have h2:(v*K+b0)*s=s*v*K+s*b0:=by grind
   rw[h1,h2,ey,Nat.add_mul];omega
  rw[ha0,hb0];exact e
 have hX0:0<x*K+p*a0 - q*b0:=by omega
 generalize x*K+p*a0 - q*b0=X at *;generalize y*K+s*b0 - r*a0=Y at *;refine⟨X,Y,f1,f2, ?_, ?_,hX0⟩
 ·have g1:a*(p*s)=a*(q*r)+(s*X+q*Y):=by
   have h1:=congrArg (· *s) f1;have h2:=congrArg (· *q) f2;grind
  rw[det,Nat.mul_add,Nat.mul_one]at g1;omega
 ·have g1:b*(p*s)=b*(q*r)+(r*X+p*Y):=by
   have h1:=congrArg (· *r) f1;have h2:=congrArg (· *p) f2;grind
  rw[det,Nat.mul_add,Nat.mul_one]at g1;omega
def JumpOk (u v p q r s:Nat):Prop:=∀K a b:Nat,u*K<=a/\a<u*K+K->v*K<=b/\b<v*K+K->Jok a b p q r s
theorem Jump.ok {u v x y p q r s:Nat}(j:Jump u v x y p q r s):JumpOk u v p q r s:=fun K a b ha hb=>by
 obtain⟨X,Y,h1,h2,h3,h4,h5⟩:=j.lift ha hb;refine⟨X,Y,h1,h2,h3,h4, ?_⟩;rcases j.jw.ord with h|h
 ·exact .inl h.1
 ·exact .inr (.inl ⟨h5,h⟩)
theorem Jump.ok_flip {u v x y p q r s:Nat}(j:Jump v u x y p q r s):JumpOk u v s r q p:=fun K a b ha hb=>by
 obtain⟨X,Y,h1,h2,h3,h4,h5⟩:=j.lift hb ha;refine⟨Y,X,h2,h1,by omega,by omega, ?_⟩;rcases j.jw.ord with h|h
 ·exact .inl h.2
 ·exact .inr (.inr ⟨h5,h.2,h.1⟩)
theorem m_3 {a b X Y p q r s:Nat}(h1:a*p=b*q+X)(h2:b*s=a*r+Y)(h3:s*X+q*Y=a)(h4:r*X+p*Y=b):Nat.gcd X Y=Nat.gcd a b:=by
 apply Nat.dvd_antisymm
 ·refine Nat.dvd_gcd ?_ ?_
  ·rw[<-h3];exact Nat.dvd_add (Nat.dvd_trans (Nat.gcd_dvd_left _ _) (Nat.dvd_mul_left X s)) (Nat.dvd_trans (Nat.gcd_dvd_right _ _) (Nat.dvd_mul_left Y q))
  ·rw[<-h4];exact Nat.dvd_add (Nat.dvd_trans (Nat.gcd_dvd_left _ _) (Nat.dvd_mul_left X r)) (Nat.dvd_trans (Nat.gcd_dvd_right _ _) (Nat.dvd_mul_left Y p))
 ·have d1:=Nat.gcd_dvd_left a b;have d2:=Nat.gcd_dvd_right a b;refine Nat.dvd_gcd ?_ ?_
  ·have e:X=a*p - b*q:=by omega
   rw[e];exact Nat.dvd_sub (Nat.dvd_mul_right_of_dvd d1 _) (Nat.dvd_mul_right_of_dvd d2 _)
  ·have e:Y=b*s - a*r:=by omega
   rw[e];exact Nat.dvd_sub (Nat.dvd_mul_right_of_dvd d2 _) (Nat.dvd_mul_right_of_dvd d1 _)
theorem k_2 {a b X Y p q r s:Nat}(h3:s*X+q*Y=a)(h4:r*X+p*Y=b)(hq:1<=q)(hp:1<=p)(hs:1<=s)(hb:0<b):X+Y<a+b:=by
 have k1:X<=s*X:=Nat.le_mul_of_pos_left _ hs;have k2:Y<=q*Y:=Nat.le_mul_of_pos_left _ hq;have k3:Y<=p*Y:=Nat.le_mul_of_pos_left _ hp;rcases Nat.eq_zero_or_pos Y with h0|h0
 ·subst h0;rcases Nat.eq_zero_or_pos (r*X)with h5|h5
  ·omega
  ·omega
 ·omega
def JpPost (Ok:Nat->Nat->Nat->Nat->Prop)(w:World)(e:Ending)(w':World):Prop:=
 ∃p q r s:Nat,e= .returned (.agg #[.int .u64 (p:Int),.int .u64 (q:Int),.int .u64 (r:Int),.int .u64 (s:Int)])/\p<18446744073709551616/\q<18446744073709551616/\r<18446744073709551616/\s<18446744073709551616/\1<=p/\1<=s/\Hid (Ok p q r s)/\Below w.heap.size w w'
theorem wb4 {w:World}{h p q r s:Nat}(W:Wb w h 162 [p,q,r,s]):w.cell? ⟨h,0,none⟩=some (.int .u64 p)/\w.cell? ⟨h,1,none⟩=some (.int .u64 q)/\w.cell? ⟨h,2,none⟩=some (.int .u64 r)/\w.cell? ⟨h,3,none⟩=some (.int .u64 s)/\
  p<18446744073709551616/\q<18446744073709551616/\r<18446744073709551616/\s<18446744073709551616/\w.frozen? ⟨h,0,none⟩=false/\w.frozen? ⟨h,1,none⟩=false/\w.frozen? ⟨h,2,none⟩=false/\w.frozen? ⟨h,3,none⟩=false:=
 ⟨W.1.cell (j:=0) (by simp),W.1.cell (j:=1) (by simp),W.1.cell (j:=2) (by simp),W.1.cell (j:=3) (by simp),W.2 0 (by simp),W.2 1 (by simp),W.2 2 (by simp),W.2 3 (by simp),W.1.free 0,W.1.free 1,W.1.free 2,W.1.free 3⟩
theorem low4 {p q r s:Nat}(hp:p<18446744073709551616)(hq:q<18446744073709551616)(hr:r<18446744073709551616)(hs:s<18446744073709551616):Low 18446744073709551616 [p,q,r,s]:=
 ((((Low.nil _).cons hs).cons hr).cons hq).cons hp
theorem d_7 {w:World}{h a b c d p q r s:Nat}(W:Wb w h 162 [a,b,c,d])(hp:p<18446744073709551616)(hq:q<18446744073709551616)(hr:r<18446744073709551616)(hs:s<18446744073709551616):
  Wb ((((w.setCell ⟨h,0,none⟩ (.int .u64 (p:Int))).setCell ⟨h,1,none⟩ (.int .u64 (q:Int))).setCell ⟨h,2,none⟩ (.int .u64 (r:Int))).setCell ⟨h,3,none⟩ (.int .u64 (s:Int))) h 162 [p,q,r,s]/\
  Tch (fun a=>a.block=h) w ((((w.setCell ⟨h,0,none⟩ (.int .u64 (p:Int))).setCell ⟨h,1,none⟩ (.int .u64 (q:Int))).setCell ⟨h,2,none⟩ (.int .u64 (r:Int))).setCell ⟨h,3,none⟩ (.int .u64 (s:Int))):=by
 obtain⟨t1,v1⟩:=Tch.store (S:=fun a=>a.block=h) W 0 hp rfl;obtain⟨t2,v2⟩:=Tch.store (S:=fun a=>a.block=h) v1 1 hq rfl;obtain⟨t3,v3⟩:=Tch.store (S:=fun a=>a.block=h) v2 2 hr rfl;obtain⟨t4,v4⟩:=Tch.store (S:=fun a=>a.block=h) v3 3 hs rfl;simp only[List.set_cons_succ,List.set_cons_zero]at v4;exact⟨v4,((t1.trans t2).trans t3).trans t4⟩
theorem c_5 (w:World)(p q r s:Nat):Blk (w.alloc (.cells #[.int .u64 p,.int .u64 q,.int .u64 r,.int .u64 s] 162)) w.heap.size 162 .u64 [p,q,r,s]:=heap_alloc_new w _
structure St7 (w:World) (h x y p q r s:Nat) (b:Bool):Prop where
 c0:w.cell? ⟨h,0,none⟩=some (.int .u64 (x:Int))
 c1:w.cell? ⟨h,1,none⟩=some (.int .u64 (y:Int))
 c2:w.cell? ⟨h,2,none⟩=some (.int .u64 (p:Int))
 c3:w.cell? ⟨h,3,none⟩=some (.int .u64 (q:Int))
 c4:w.cell? ⟨h,4,none⟩=some (.int .u64 (r:Int))
 c5:w.cell? ⟨h,5,none⟩=some (.int .u64 (s:Int))
 c6:w.cell? ⟨h,6,none⟩=some (.bool b)
 fz:∀j,w.frozen? ⟨h,j,none⟩=false
 lt:h<w.heap.size
 bx:x<18446744073709551616
 bY:y<18446744073709551616
 bp:p<18446744073709551616
 bq:q<18446744073709551616
 br:r<18446744073709551616
 bs:s<18446744073709551616
theorem St7.below {w w':World}{h x y p q r s:Nat}{b:Bool}(k:St7 w h x y p q r s b)(hb:Below w.heap.size w w'):St7 w' h x y p q r s b:=
 ⟨(hb.cell (p:=⟨h,0,none⟩) k.lt).trans k.c0,(hb.cell (p:=⟨h,1,none⟩) k.lt).trans k.c1,(hb.cell (p:=⟨h,2,none⟩) k.lt).trans k.c2,(hb.cell (p:=⟨h,3,none⟩) k.lt).trans k.c3,(hb.cell (p:=⟨h,4,none⟩) k.lt).trans k.c4,(hb.cell (p:=⟨h,5,none⟩) k.lt).trans k.c5,(hb.cell (p:=⟨h,6,none⟩) k.lt).trans k.c6,
  fun j=>(hb.frozen (p:=⟨h,j,none⟩) k.lt).trans (k.fz j),Nat.lt_of_lt_of_le k.lt hb.size,k.bx,k.bY,k.bp,k.bq,k.br,k.bs⟩
theorem St7.new (w:World)(x y p q r s:Nat)(b:Bool)(t:TypeId)(h0:x<18446744073709551616)(h1:y<18446744073709551616)(h2:p<18446744073709551616)(h3:q<18446744073709551616)(h4:r<18446744073709551616)(h5:s<18446744073709551616):
  St7 (w.alloc (.cells #[.int .u64 x,.int .u64 y,.int .u64 p,.int .u64 q,.int .u64 r,.int .u64 s,.bool b] t)) w.heap.size x y p q r s b:=by
 refine⟨?_, ?_, ?_, ?_, ?_, ?_, ?_,fun j=>?_, ?_,h0,h1,h2,h3,h4,h5⟩<;>simp[go_sem]
theorem e_d (x y:Nat)(hx:x<18446744073709551616)(hy:y<18446744073709551616)(w:World):
  Calls Tryz.prog 206 #[.int .u64 x,.int .u64 y] w fun e w'=>e= .returned (.agg #[.int .u64 x,.int .u64 y,.int .u64 1,.int .u64 0,.int .u64 0,.int .u64 1,.bool false])/\Below w.heap.size w w':=by
 go_enter Tryz.func206,Tryz.ntmps206
 go_wp2_with fail
 exact bodyPost_ret (v:=.agg #[.int .u64 x,.int .u64 y,.int .u64 1,.int .u64 0,.int .u64 0,.int .u64 1,.bool false]) (by simp[results,Tryz.results206,go_sem]) rfl ⟨rfl,(Below.refl _ _).alloc (Nat.le_refl _) _⟩
theorem e_a (w:World)(h x y p q r s:Nat)(S:St7 w h x y p q r s false):
  Calls Tryz.prog 208 #[.pointer (some ⟨h,0,none⟩)] w fun e w'=>e= .returned (.agg #[.int .u64 p,.int .u64 q,.int .u64 r,.int .u64 s])/\Below w.heap.size w w':=by
 obtain⟨c0,c1,c2,c3,c4,c5,c6,fz,lt,bx,bY,bp,bq,br,bs⟩:=S;go_enter Tryz.func208,Tryz.ntmps208
 go_wp2_with fail
 exact bodyPost_ret (v:=.agg #[.int .u64 p,.int .u64 q,.int .u64 r,.int .u64 s]) (by simp[results,Tryz.results208,go_sem]) rfl ⟨rfl,((Below.refl _ _).alloc (Nat.le_refl _) _).alloc (by simp) _⟩
theorem d_s (w:World)(h x y p q r s:Nat)(S:St7 w h x y p q r s true):
  Calls Tryz.prog 208 #[.pointer (some ⟨h,0,none⟩)] w fun e w'=>e= .returned (.agg #[.int .u64 s,.int .u64 r,.int .u64 q,.int .u64 p])/\Below w.heap.size w w':=by
 obtain⟨c0,c1,c2,c3,c4,c5,c6,fz,lt,bx,bY,bp,bq,br,bs⟩:=S;go_enter Tryz.func208,Tryz.ntmps208
 go_wp2_with fail
 exact bodyPost_ret (v:=.agg #[.int .u64 s,.int .u64 r,.int .u64 q,.int .u64 p]) (by simp[results,Tryz.results208,go_sem]) rfl ⟨rfl,((Below.refl _ _).alloc (Nat.le_refl _) _).alloc (by simp) _⟩
theorem St7.put2 {w:World}{h x y p q r s x' y':Nat}{b:Bool}(k:St7 w h x y p q r s b)(hx:x'<18446744073709551616)(hy:y'<18446744073709551616):
  St7 ((w.setCell ⟨h,0,none⟩ (.int .u64 (x':Int))).setCell ⟨h,1,none⟩ (.int .u64 (y':Int))) h x' y' p q r s b:=by
 obtain⟨c0,c1,c2,c3,c4,c5,c6,fz,lt,bx,bY,bp,bq,br,bs⟩:=k;refine⟨?_, ?_, ?_, ?_, ?_, ?_, ?_,fun j=>?_, ?_,hx,hy,bp,bq,br,bs⟩<;>simp[go_sem,c0,c1,c2,c3,c4,c5,c6,fz,lt]
theorem St7.put5 {w:World}{h x y p q r s p' q' r' s':Nat}{b b':Bool}(k:St7 w h x y p q r s b)(hp:p'<18446744073709551616)(hq:q'<18446744073709551616)(hr:r'<18446744073709551616)(hs:s'<18446744073709551616):
  St7 (((((w.setCell ⟨h,2,none⟩ (.int .u64 (p':Int))).setCell ⟨h,3,none⟩ (.int .u64 (q':Int))).setCell ⟨h,4,none⟩ (.int .u64 (r':Int))).setCell ⟨h,5,none⟩ (.int .u64 (s':Int))).setCell ⟨h,6,none⟩ (.bool b')) h x y p' q' r' s' b':=by
 obtain⟨c0,c1,c2,c3,c4,c5,c6,fz,lt,bx,bY,bp,bq,br,bs⟩:=k;refine⟨?_, ?_, ?_, ?_, ?_, ?_, ?_,fun j=>?_, ?_,bx,bY,hp,hq,hr,hs⟩<;>simp[go_sem,c0,c1,c2,c3,c4,c5,c6,fz,lt]
theorem Wb.far {w:World}{g:Nat}{t:TypeId}{L:List Nat}(h:Wb w g t L){p:Addr}(hp:g≠p.block)(u:Value):Wb (w.setCell p u) g t L:=⟨h.1.far hp u,h.2⟩
theorem a_q {B:Nat}{w w':World}{h j:Nat}(k:Below B w w')(hB:B<=h)(u:Value):Below B w (w'.setCell ⟨h,j,none⟩ u):=k.setCell hB u
theorem zb0 (w:World)(o:Obj):Below w.heap.size w (w.alloc o):=(Below.refl _ _).alloc (Nat.le_refl _) o
def SnPost (w:World)(h x y p q r s:Nat)(b:Bool)(e:Ending)(w':World):Prop:=
 e= .returned (.tuple #[])/\St7 w' h y (x%y) s r (q+x / y*s) (p+x / y*r) (!b)/\w.heap.size<=w'.heap.size/\∀B,B<=h->Below B w w'
def SnCut (w:World)(h x y p q r s:Nat)(b:Bool)(v2 v3:Value)(wx:World):Prop:=
 ∃g,v2= .int .u64 ((x / y:Nat):Int)/\v3= .pointer (some ⟨g,0,none⟩)/\g≠h/\St7 wx h x y p q r s b/\Wb wx g 162 [p,q,r,s]/\w.heap.size<=wx.heap.size/\∀B,B<=h->Below B w wx
def SnCut2 (w:World)(g h x y p q r s:Nat)(b:Bool)(wx:World):Prop:=
 St7 wx h y (x%y) p q r s b/\Wb wx g 162 [p,q,r,s]/\w.heap.size<=wx.heap.size/\∀B,B<=h->Below B w wx
theorem e_e (w:World)(h x y p q r s:Nat)(b:Bool)(S:St7 w h x y p q r s b)(hy:0<y)(h1:q+x / y*s<18446744073709551616)(h2:p+x / y*r<18446744073709551616):
  Calls Tryz.prog 207 #[.pointer (some ⟨h,0,none⟩)] w (SnPost w h x y p q r s b):=by
 obtain⟨t,ht⟩:∃t,t=x / y:=⟨_,rfl⟩;obtain⟨m,hm⟩:∃m,m=x%y:=⟨_,rfl⟩;have e1:(x:Int) / (y:Int)=(t:Int):=by rw[ht];rfl
 have e2:(x:Int)%(y:Int)=(m:Int):=by rw[hm];rfl
 have e3:(x:Int).tdiv (y:Int)=(t:Int):=by rw[ht];rfl
 have e4:(x:Int).tmod (y:Int)=(m:Int):=by rw[hm];rfl
 have htx:t<=x:=by rw[ht];exact Nat.div_le_self _ _
 have hmy:m<y:=by rw[hm];exact Nat.mod_lt _ hy
 have HT:=Lib.hid ht;have HM:=Lib.hid hm;have HS:=Lib.hid S;obtain⟨c0,c1,c2,c3,c4,c5,c6,fz,lt,bx,bY,bp,bq,br,bs⟩:=S;have e5:IntKind.u64.wrap (t:Int)=(t:Int):=by rw[IntKind.wrap_u64];omega
 have e6:IntKind.u64.wrap (m:Int)=(m:Int):=by rw[IntKind.wrap_u64];omega
 have b2:((y:Int)==0)=false:=by rw[beq_eq_false_iff_ne];omega
 have b3:¬(y=0):=by omega
 clear ht hm;go_enter Tryz.func207,Tryz.ntmps207
 go_upto_region 0 with fail
 go_cut [2,3] (SnCut w h x y p q r s b)
 case first=>
  go_region
  all_goals
   go_wp2_with fail
   go_meet
   have B1:=(zb0 w (.cells #[.int .u64 p,.int .u64 q,.int .u64 r,.int .u64 s] 162)).drew;exact⟨_,by rw[HT.out],rfl,by omega,HS.out.below B1,⟨(c_5 w p q r s).drew,low4 bp bq br bs⟩,B1.size,fun B hB=>B1.mono (by omega)⟩
 case rest=>
  clear HS c0 c1 c2 c3 c4 c5 c6 fz;obtain⟨g,rfl,rfl,hg,S1,W1,hz,hB⟩:=hcut;rw[<-HT.out];have HS:=Lib.hid S1;have HW:=Lib.hid W1;have HB:=Lib.hid hB;have hg':h≠g:=fun e=>hg e.symm;obtain⟨c0,c1,c2,c3,c4,c5,c6,fz,lt1,_,_,_,_,_,_⟩:=S1;have f0:=fz 0;have f1:=fz 1;clear hB W1 fz;go_upto_region 1 with fail
  go_cut [] (SnCut2 w g h x y p q r s b)
  case first=>
   go_region
   all_goals
    go_wp2_with fail
    go_meet
    have K:=HS.out.put2 (x':=y) (y':=m) bY (by omega);rw[HM.out]at K;rw[HM.out];exact⟨K.below (a_a _),⟨((HW.out.far hg _).far hg _).1.drew,HW.out.2⟩,by simpa using hz,fun B hB=>(a_q (a_q (HB.out B hB) hB _) hB _).drew⟩
  case rest=>
   clear HS HW HB c0 c1 c2 c3 c4 c5 c6 f0 f1;obtain⟨S1,W1,hz,hB⟩:=hcut;obtain⟨a0,a1,a2,a3,_,_,_,_,g0,g1,g2,g3⟩:=wb4 W1;obtain⟨ts,hts⟩:∃y,y=t*s:=⟨_,rfl⟩;obtain⟨tr,htr⟩:∃y,y=t*r:=⟨_,rfl⟩;have i1:q+ts<18446744073709551616:=by rw[hts,HT.out];exact h1
   have i2:p+tr<18446744073709551616:=by rw[htr,HT.out];exact h2
   have e7:IntKind.u64.wrap ((t:Int)*(s:Int))=(ts:Int):=by rw[<-Int.natCast_mul,<-hts,IntKind.wrap_u64];omega
   have e8:IntKind.u64.wrap ((q:Int)+(ts:Int))=((q+ts:Nat):Int):=by rw[IntKind.wrap_u64];omega
   have e9:IntKind.u64.wrap ((t:Int)*(r:Int))=(tr:Int):=by rw[<-Int.natCast_mul,<-htr,IntKind.wrap_u64];omega
   have e10:IntKind.u64.wrap ((p:Int)+(tr:Int))=((p+tr:Nat):Int):=by rw[IntKind.wrap_u64];omega
   have P:Hid (SnPost w h x y p q r s b (.returned (.tuple #[])) (((((wc.setCell ⟨h,2,none⟩ (.int .u64 (s:Int))).setCell ⟨h,3,none⟩ (.int .u64 (r:Int))).setCell ⟨h,4,none⟩ (.int .u64 ((q+ts:Nat):Int))).setCell ⟨h,5,none⟩ (.int .u64 ((p+tr:Nat):Int))).setCell ⟨h,6,none⟩ (.bool (!b)))):=Lib.hid (by
    have K:=S1.put5 (b':= !b) bs br i1 i2;refine⟨rfl, ?_,by simpa using hz,fun B hB'=>a_q (a_q (a_q (a_q (a_q (hB B hB') hB' _) hB' _) hB' _) hB' _) hB' _⟩;rw[hts,htr,HT.out]at K ⊢;exact K)
   obtain⟨c0,c1,c2,c3,c4,c5,c6,fz,lt2,_,_,_,_,_,_⟩:=S1;rw[<-HM.out]at c1;have f2:=fz 2;have f3:=fz 3;have f4:=fz 4;have f5:=fz 5;have f6:=fz 6;clear hts htr hB fz W1 h1 h2
   go_wp2_with fail
   go_end0
   simpa only[e7,e8,e9,e10,Int.natCast_add] using P.out
def SlRel (J:Nat->Nat->Nat->Nat->Nat->Nat->Nat->Nat->Prop)(w:World)(h u v g:Nat)(wr:World):Prop:=
 ∃(x p q r s U V:Nat) (b:Bool),(b=false/\U=u/\V=v\/b=true/\U=v/\V=u)/\Hid (J U V x g p q r s)/\U<18446744073709551616/\V<18446744073709551616/\1<=p/\1<=s/\St7 wr h x g p q r s b/\Wb wr w.heap.size 162 [0,0,0,0]/\Below w.heap.size w wr
theorem SlRel.drewN {J:Nat->Nat->Nat->Nat->Nat->Nat->Nat->Nat->Prop}{w:World}{h u v g:Nat}{wr:World}(k:SlRel J w h u v g wr)(n:Nat):SlRel J w h u v g (wr.drewN n):=by
 obtain⟨x,p,q,r,s,U,V,b,h1,h2,h3,h4,h5,h6,h7,h8,h9⟩:=k;have B:=b_v wr n;exact⟨x,p,q,r,s,U,V,b,h1,h2,h3,h4,h5,h6,h7.below B,⟨h8.1.below B h8.1.lt,h8.2⟩,h9.trans (B.mono h9.size)⟩
theorem SlRel.begin {J:Nat->Nat->Nat->Nat->Nat->Nat->Nat->Nat->Prop}{w w2:World}{u v:Nat}{t:TypeId}(hJ:J u v u v 1 0 0 1)(hu:u<18446744073709551616)(hv:v<18446744073709551616)
  (B2:Below (w.alloc (.cells #[.int .u64 0,.int .u64 0,.int .u64 0,.int .u64 0] 162)).heap.size (w.alloc (.cells #[.int .u64 0,.int .u64 0,.int .u64 0,.int .u64 0] 162)) w2):
  SlRel J w w2.heap.size u v v (w2.alloc (.cells #[.int .u64 u,.int .u64 v,.int .u64 1,.int .u64 0,.int .u64 0,.int .u64 1,.bool false] t)):=by
 have b1:=c_5 w 0 0 0 0;have hz:w.heap.size+1<=w2.heap.size:=by have:=B2.size;simpa using this
 have b2:=b1.below B2 (by simp);refine⟨u,1,0,0,1,u,v,false,.inl ⟨rfl,rfl,rfl⟩,Lib.hid hJ,hu,hv,by omega,by omega, ?_,⟨b2.alloc _,low4 (by omega) (by omega) (by omega) (by omega)⟩, ?_⟩
 ·have:=St7.new w2 u v 1 0 0 1 false t hu hv (by omega) (by omega) (by omega) (by omega);simpa using this
 ·exact(((zb0 w _).trans (B2.mono (by simp))).alloc (by omega) _)
theorem SlRel.next {J:Nat->Nat->Nat->Nat->Nat->Nat->Nat->Nat->Prop}{w wr w':World}{h u v x g p q r s U V:Nat}{b:Bool}{e:Ending}(hh:w.heap.size<h)(hUV:b=false/\U=u/\V=v\/b=true/\U=v/\V=u)
  (hJ:J V U g (x%g) s r (q+x / g*s) (p+x / g*r)) (hU:U<18446744073709551616) (hV:V<18446744073709551616) (hp:1<=p) (hs:1<=s) (hW:Wb wr w.heap.size 162 [0,0,0,0]) (hB:Below w.heap.size w wr)
  (P:SnPost wr h x g p q r s b e w'):e= .returned (.tuple #[])/\SlRel J w h u v (x%g) w':=by
 obtain⟨he,S,hz,hb⟩:=P;refine⟨he,g,s,r,_,_,V,U, !b, ?_,Lib.hid hJ,hV,hU,hs,by omega,S,⟨hW.1.below (hb (w.heap.size+1) (by omega)) (by omega),hW.2⟩,hB.trans (hb w.heap.size (by omega))⟩;rcases hUV with⟨rfl,rfl,rfl⟩|⟨rfl,rfl,rfl⟩
 ·exact .inr ⟨rfl,rfl,rfl⟩
 ·exact .inl ⟨rfl,rfl,rfl⟩
end
section
open Go.RowKit
theorem g_2 (u v:Nat)(hvu:v<=u)(h0:0<u)(hu:u<18446744073709551616)(w:World):
  Calls Tryz.prog 182 #[.int .u64 u,.int .u64 v] w (JpPost (Jok u v) w):=by
 have hv:v<18446744073709551616:=by omega
 go_enter Tryz.func182,Tryz.ntmps182
 go_wp2_with fail
 refine(e_d u v hu hv _).mono ?_;rintro e w2 ⟨rfl,B2⟩;have R:=SlRel.begin (t:=208) (Jw.start hvu h0) hu hv B2;have hz:w.heap.size+1<=w2.heap.size:=by have:=B2.size;simpa using this
 obtain⟨h,hh⟩:∃h,h=w2.heap.size:=⟨_,rfl⟩;rw[<-hh]at R hz;have HH:=Lib.hid hh;have HR:=Lib.hid R;clear B2 hh R
 go_wp2_with fail
 rw[<-HH.out];clear HH;go_loopg [] v (fun g wr=>SlRel Jw w h u v g wr)
 case atStart=>exact HR.out
 case round=>
  clear HR;obtain⟨x,p,q,r,s,U,V,b,hUV,hj,hU,hV,hp,hs,S,W,hB⟩:=hrel;have HS:=Lib.hid S;have HW:=Lib.hid W;have HB:=Lib.hid hB;have HUV:=Lib.hid hUV;obtain⟨c0,c1,c2,c3,c4,c5,c6,fz,lt,bx,bY,bp,bq,br,bs⟩:=S;clear c0 c2 c3 c4 c5 c6 fz W hB hUV;rcases Nat.eq_zero_or_pos gk with rfl|hg
  ·have b1:(((0:Nat):Int) != 0)=false:=by rfl
   have hz0:w.heap.size<=wr.heap.size:=HB.out.size;rcases HUV.out with⟨rfl,rfl,rfl⟩|⟨rfl,rfl,rfl⟩
   ·have hok:=Lib.hid hj.out.ok;clear HUV
    go_wp2_with fail
    refine(e_a _ h x 0 p q r s HS.out).mono ?_;rintro e w4 ⟨rfl,B4⟩;have W4:Wb w4 w.heap.size 162 [0,0,0,0]:=⟨HW.out.1.below B4 HW.out.1.lt,HW.out.2⟩;obtain⟨z0,z1,z2,z3,_,_,_,_,k0,k1,k2,k3⟩:=wb4 W4;obtain⟨X,T⟩:=d_7 W4 bp bq br bs;obtain⟨y0,y1,y2,y3,_⟩:=wb4 X;have B:=Lib.hid ((HB.out.trans (B4.mono hz0)).trans (T.below (B:=w.heap.size) (by have:=B4.size;omega) fun a h=>by rw[h];exact Nat.le_refl _));clear X T W4 B4 c1
    go_wp2_with fail
    refine bodyPost_ret (v:=.agg #[.int .u64 (p:Int),.int .u64 (q:Int),.int .u64 (r:Int),.int .u64 (s:Int)]) (by simp[results,Tryz.results182,go_sem,y0,y1,y2,y3]) rfl ?_;exact⟨p,q,r,s,rfl,bp,bq,br,bs,hp,hs,hok,B.out⟩
   ·have hok:=Lib.hid hj.out.ok_flip;clear HUV
    go_wp2_with fail
    refine(d_s _ h x 0 p q r s HS.out).mono ?_;rintro e w4 ⟨rfl,B4⟩;have W4:Wb w4 w.heap.size 162 [0,0,0,0]:=⟨HW.out.1.below B4 HW.out.1.lt,HW.out.2⟩;obtain⟨z0,z1,z2,z3,_,_,_,_,k0,k1,k2,k3⟩:=wb4 W4;obtain⟨X,T⟩:=d_7 W4 bs br bq bp;obtain⟨y0,y1,y2,y3,_⟩:=wb4 X;have B:=Lib.hid ((HB.out.trans (B4.mono hz0)).trans (T.below (B:=w.heap.size) (by have:=B4.size;omega) fun a h=>by rw[h];exact Nat.le_refl _));clear X T W4 B4 c1
    go_wp2_with fail
    refine bodyPost_ret (v:=.agg #[.int .u64 (s:Int),.int .u64 (r:Int),.int .u64 (q:Int),.int .u64 (p:Int)]) (by simp[results,Tryz.results182,go_sem,y0,y1,y2,y3]) rfl ?_;exact⟨s,r,q,p,rfl,bs,br,bq,bp,hs,hp,hok,B.out⟩
  ·have b1:((gk:Int) != 0)=true:=by rw[bne_iff_ne];omega
   have b2:((gk:Int)==0)=false:=by rw[beq_eq_false_iff_ne];omega
   obtain⟨i1,i2⟩:=hj.out.fits hU hV hg;have J2:=hj.out.step hg;have hmg:=Nat.mod_lt x hg;have HJ:=Lib.hid J2;have HI1:=Lib.hid i1;have HI2:=Lib.hid i2;have HMG:=Lib.hid hmg;clear J2 hmg i1 i2
   go_wp2_with fail
   refine(e_e _ h x gk p q r s b HS.out hg HI1.out HI2.out).mono ?_;intro e w4 P;obtain⟨rfl,R⟩:=SlRel.next hz HUV.out HJ.out hU hV hp hs HW.out HB.out P;have HR:=Lib.hid R;clear R P c1
   go_wp2_with fail
   go_roundg (x%gk)
   case rel=>exact HR.out
   case measure=>exact HMG.out
theorem m_b (w wr:World)(h u v x y p q r s U V:Nat)(b:Bool)(hUV:b=false/\U=u/\V=v\/b=true/\U=v/\V=u)(hj:Jump U V x y p q r s)(S:St7 wr h x y p q r s b):
  Calls Tryz.prog 208 #[.pointer (some ⟨h,0,none⟩)] wr (JpPost (JumpOk u v) wr):=by
 rcases hUV with⟨rfl,rfl,rfl⟩|⟨rfl,rfl,rfl⟩
 ·refine(e_a _ h x y p q r s S).mono ?_;rintro e w4 ⟨rfl,B4⟩;exact⟨p,q,r,s,rfl,S.bp,S.bq,S.br,S.bs,hj.jw.lp,hj.jw.ls,Lib.hid hj.ok,B4⟩
 ·refine(d_s _ h x y p q r s S).mono ?_;rintro e w4 ⟨rfl,B4⟩;exact⟨s,r,q,p,rfl,S.bs,S.br,S.bq,S.bp,hj.jw.ls,hj.jw.lp,Lib.hid hj.ok_flip,B4⟩
def SuCut (w:World)(h u v:Nat)(wx:World):Prop:=∃g,SlRel Jump w h u v g wx
theorem i_0 (u v:Nat)(hvu:v<=u)(h0:0<u)(hu:u<18446744073709551616)(w:World):
  Calls Tryz.prog 183 #[.int .u64 u,.int .u64 v] w (JpPost (JumpOk u v) w):=by
 have hv:v<18446744073709551616:=by omega
 go_enter Tryz.func183,Tryz.ntmps183
 go_wp2_with fail
 refine(e_d u v hu hv _).mono ?_;rintro e w2 ⟨rfl,B2⟩;have R:=SlRel.begin (t:=208) (Jump.start hvu h0) hu hv B2;have hz:w.heap.size+1<=w2.heap.size:=by have:=B2.size;simpa using this
 obtain⟨h,hh⟩:∃h,h=w2.heap.size:=⟨_,rfl⟩;rw[<-hh]at R hz;have HH:=Lib.hid hh;have HR:=Lib.hid R;clear B2 hh R;go_upto_block 0 with fail
 rw[<-HH.out];clear HH;go_cut [] (SuCut w h u v)
 case first=>
  go_wp2_with fail
  go_loopg [] v (fun g wr=>SlRel Jump w h u v g wr)
  case atStart=>exact HR.out
  case round=>
   clear HR;obtain⟨x,p,q,r,s,U,V,b,hUV,hj,hU,hV,hp,hs,S,W,hB⟩:=hrel;have HS:=Lib.hid S;have HW:=Lib.hid W;have HB:=Lib.hid hB;have HUV:=Lib.hid hUV;obtain⟨c0,c1,c2,c3,c4,c5,c6,fz,lt,bx,bY,bp,bq,br,bs⟩:=S;clear c0 c2 c3 c4 c5 c6 fz W hB hUV;have HJ0:=Lib.hid (show ∀n,SuCut w h u v (wr.drewN n)from fun n=>⟨gk,SlRel.drewN ⟨x,p,q,r,s,U,V,b,HUV.out,hj,hU,hV,hp,hs,HS.out,HW.out,HB.out⟩ n⟩);obtain⟨c0,_,c2,c3,c4,c5,_,_,_,_,_,_,_,_,_⟩:=HS.out;rcases Nat.eq_zero_or_pos gk with rfl|hg
   ·have b1:(((0:Nat):Int) != 0)=false:=by rfl
    go_wp2_with fail
    go_quiet (fail)
    go_wp2_with fail
    go_meet
    exact HJ0.out _
   ·obtain⟨t,ht⟩:∃t,t=x / gk:=⟨_,rfl⟩;obtain⟨m,hm⟩:∃m,m=x%gk:=⟨_,rfl⟩;obtain⟨i1,i2⟩:=hj.out.jw.fits hU hV hg;have HI1:=Lib.hid i1;have HI2:=Lib.hid i2;rw[<-ht]at i1 i2;obtain⟨ts,hts⟩:∃y,y=t*s:=⟨_,rfl⟩;rw[<-hts]at i1;have hmg:m<gk:=by rw[hm];exact Nat.mod_lt _ hg
    have htx:t<=x:=by rw[ht];exact Nat.div_le_self _ _
    have e1:(x:Int) / (gk:Int)=(t:Int):=by rw[ht];rfl
    have e2:(x:Int)%(gk:Int)=(m:Int):=by rw[hm];rfl
    have e3:(x:Int).tdiv (gk:Int)=(t:Int):=by rw[ht];rfl
    have e4:(x:Int).tmod (gk:Int)=(m:Int):=by rw[hm];rfl
    have e5:IntKind.u64.wrap (t:Int)=(t:Int):=by rw[IntKind.wrap_u64];omega
    have e6:IntKind.u64.wrap (m:Int)=(m:Int):=by rw[IntKind.wrap_u64];omega
    have e7:IntKind.u64.wrap ((t:Int)*(s:Int))=(ts:Int):=by rw[<-Int.natCast_mul,<-hts,IntKind.wrap_u64];omega
    have e8:IntKind.u64.wrap ((q:Int)+(ts:Int))=((q:Int)+(ts:Int)):=by rw[IntKind.wrap_u64];omega
    have b1:((gk:Int) != 0)=true:=by rw[bne_iff_ne];omega
    have b2:((gk:Int)==0)=false:=by rw[beq_eq_false_iff_ne];omega
    have b3:¬(gk=0):=by omega
    have HT:=Lib.hid ht;have HM:=Lib.hid hm;have HTS:=Lib.hid hts;clear ht hm hts;by_cases hc:q+ts<=m
    ·have z1:(q:Int)+(ts:Int)<=(m:Int):=by omega
     have hc2:q+x / gk*s<=x%gk:=by rw[<-HT.out,<-HM.out,<-HTS.out];exact hc
     have J2:=hj.out.step hg hc2;have HJ:=Lib.hid J2;clear hc hc2 J2
     go_wp2_with fail
     go_quiet (fail)
     go_wp2_with fail
     refine(e_e _ h x gk p q r s b (HS.out.below (b_v _ _)) hg HI1.out HI2.out).mono ?_;intro e w4 P;obtain⟨rfl,R⟩:=SlRel.next hz HUV.out HJ.out hU hV hp hs (show Wb (wr.drewN _) w.heap.size 162 [0,0,0,0]from HW.out) (HB.out.trans ((b_v wr _).mono HB.out.size)) P;rw[<-HM.out]at R;have HR:=Lib.hid R;clear R P c0 c1 c2 c3 c4 c5
     go_wp2_with fail
     go_roundg m
     case rel=>exact HR.out
     case measure=>exact hmg
    ·have z1:¬((q:Int)+(ts:Int)<=(m:Int)):=by omega
     clear hc
     go_wp2_with fail
     go_quiet (fail)
     go_wp2_with fail
     go_meet
     exact HJ0.out _
 case rest=>
  clear HR;obtain⟨gk,x,p,q,r,s,U,V,b,hUV,hj,hU,hV,hp,hs,S,W,hB⟩:=hcut;have HS:=Lib.hid S;have HW:=Lib.hid W;have HB:=Lib.hid hB;have HUV:=Lib.hid hUV;have hz0:w.heap.size<=wc.heap.size:=hB.size;clear S W hB hUV
  go_wp2_with fail
  refine(m_b w _ h u v x gk p q r s U V b HUV.out hj.out HS.out).mono ?_;rintro e w4 ⟨p',q',r',s',rfl,bp,bq,br,bs,hp',hs',hok,B4⟩;have W4:Wb w4 w.heap.size 162 [0,0,0,0]:=⟨HW.out.1.below B4 HW.out.1.lt,HW.out.2⟩;obtain⟨z0,z1,z2,z3,_,_,_,_,k0,k1,k2,k3⟩:=wb4 W4;obtain⟨X,T⟩:=d_7 W4 bp bq br bs;obtain⟨y0,y1,y2,y3,_⟩:=wb4 X;have B:=Lib.hid ((HB.out.trans (B4.mono hz0)).trans (T.below (B:=w.heap.size) (by have:=B4.size;omega) fun a h=>by rw[h];exact Nat.le_refl _));clear X T W4 B4
  go_wp2_with fail
  refine bodyPost_ret (v:=.agg #[.int .u64 (p':Int),.int .u64 (q':Int),.int .u64 (r':Int),.int .u64 (s':Int)]) (by simp[results,Tryz.results183,go_sem,y0,y1,y2,y3]) rfl ?_;exact⟨p',q',r',s',rfl,bp,bq,br,bs,hp',hs',hok,B.out⟩
end
end Go.Proofs.YtfhbdlegkdbmfaaGreat
