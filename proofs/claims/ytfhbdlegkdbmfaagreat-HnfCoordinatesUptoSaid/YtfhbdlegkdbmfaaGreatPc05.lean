/- Pc05 -/
import Derived.Laws.CopyOwn
import Derived.Lib.SliceRun
import Derived.Laws.Bits64
import Derived.StillTailTactics
import Derived.BigQuiet
import Derived.IntWalk
import Derived.Deep.QuietTactic
import Derived.Deep.DeepCutAuto
import Derived.Deep.RegionHeld3
import Derived.Test.YtfhbdlegkdbmfaaGreatPc04
import Derived.Lib.RabinKarpLaws
set_option linter.unusedVariables false
set_option linter.unusedSimpArgs false
set_option linter.unusedSectionVars false
set_option maxRecDepth 100000
set_option maxHeartbeats 8000000
namespace Go.Proofs.YtfhbdlegkdbmfaaGreat
open Go.RowKit
def Seg (g off n:Nat)(a:Addr):Prop:=a.block=g/\off<=a.off/\a.off<off+n
def Wb (w:World)(g:Nat)(t:TypeId)(L:List Nat):Prop:=Blk w g t .u64 L/\Low 18446744073709551616 L
structure Tch (S:Addr->Prop) (w w':World):Prop where
 os:w'.os=w.os
 tape:w'.tape=w.tape
 output:w'.output=w.output
 size:w.heap.size<=w'.heap.size
 block:∀k,k<w.heap.size->(∀a:Addr,a.block=k->¬S a)->w'.heap[k]? =w.heap[k]?
 cell:∀a:Addr,a.block<w.heap.size->¬S a->w'.cell? a=w.cell? a
 blk:∀g t L,Wb w g t L->∃L',Wb w' g t L'/\L'.length=L.length/\∀j,¬S ⟨g,j,none⟩->nth L' j=nth L j
section
variable {S S':Addr->Prop}{w w' w'':World}
theorem Tch.of_below (S:Addr->Prop)(h:Below w.heap.size w w'):Tch S w w':=
 ⟨h.os,h.tape,h.output,h.size,fun k hk _=>h.block k hk,fun a ha _=>h.cell ha,fun g t L hL=>⟨L,⟨hL.1.below h hL.1.lt,hL.2⟩,rfl,fun _ _=>rfl⟩⟩
theorem Tch.refl (S:Addr->Prop)(w:World):Tch S w w:=Tch.of_below S (Below.refl _ _)
theorem Tch.trans (h:Tch S w w')(k:Tch S w' w''):Tch S w w'':=by
 refine⟨k.os.trans h.os,k.tape.trans h.tape,k.output.trans h.output,Nat.le_trans h.size k.size,fun i hi hS=>(k.block i (Nat.lt_of_lt_of_le hi h.size) hS).trans (h.block i hi hS),fun a ha hS=>(k.cell a (Nat.lt_of_lt_of_le ha h.size) hS).trans (h.cell a ha hS),fun g t L hL=>?_⟩;obtain⟨L1,h1,h2,h3⟩:=h.blk g t L hL;obtain⟨L2,k1,k2,k3⟩:=k.blk g t L1 h1;exact⟨L2,k1,k2.trans h2,fun j hj=>(k3 j hj).trans (h3 j hj)⟩
theorem Tch.mono (h:Tch S' w w')(hS:∀a:Addr,a.block<w.heap.size->S' a->S a):Tch S w w':=by
 refine⟨h.os,h.tape,h.output,h.size,fun k hk hn=>h.block k hk fun a ha hs=>hn a ha (hS a (by omega) hs),fun a ha hn=>h.cell a ha fun hs=>hn (hS a ha hs),fun g t L hL=>?_⟩;obtain⟨L1,h1,h2,h3⟩:=h.blk g t L hL;exact⟨L1,h1,h2,fun j hj=>h3 j fun hs=>hj (hS _ hL.1.lt hs)⟩
theorem Tch.below {B:Nat}(h:Tch S w w')(hB:B<=w.heap.size)(hS:∀a:Addr,S a->B<=a.block):Below B w w':=
 ⟨h.os,h.tape,h.output,h.size,fun k hk=>h.block k (by omega) fun a ha hs=>by have:=hS a hs;omega⟩
theorem Tch.row {g:Nat}{t:TypeId}{L L':List Nat}(h:Wb w g t L)(hl:L'.length=L.length)(hlow:Low 18446744073709551616 L')(hS:∀j,¬S ⟨g,j,none⟩->nth L' j=nth L j):
  Tch S w (w.setRow g (vs .u64 L').toArray)/\Wb (w.setRow g (vs .u64 L').toArray) g t L':=by
 have hb:Wb (w.setRow g (vs .u64 L').toArray) g t L':=⟨setRow_heap w g _ _ t _ h.1,hlow⟩;refine⟨⟨rfl,rfl,rfl,by simp,fun k hk hn=>?_,fun a ha hn=>?_,fun g' t' M hM=>?_⟩,hb⟩
 ·by_cases hkg:k=g
  ·subst hkg;have:L'=L:=d_j hl fun j _=>hS j (hn _ rfl);subst this;exact(setRow_heap w k _ _ t _ h.1).trans h.1.symm
  ·exact setRow_other w g k _ hkg
 ·by_cases hg:a.block=g
  ·subst hg;obtain⟨b,o,sp⟩:=a;cases sp with
   |some x=>simp[World.cell?,setRow_heap w b _ _ t _ h.1,show w.heap[b]? =_ from h.1]
   |none=>
    have e:=hS o hn;rw[cell_of_row _ b o _ t (0,0) hb.1,cell_of_row w b o _ t (0,0) h.1,List.getElem?_toArray,List.getElem?_toArray];by_cases ho:o<L.length
    ·rw[c_e (by omega),c_e ho,e]
    ·rw[List.getElem?_eq_none (by rw[a_f];omega),List.getElem?_eq_none (by rw[a_f];omega)]
  ·exact cell_setRow_other w g _ a hg
 ·by_cases hg:g'=g
  ·subst hg;have e:=h.1.symm.trans hM.1;injection e with e
   injection e with e1 e2
   subst e2;have e3:vs .u64 L=vs .u64 M:=by simpa using e1
   have e4:M.length=L.length:=by have:=congrArg List.length e3;rw[a_f,a_f]at this;omega
   have e5:M=L:=d_j e4 fun j hj=>by
    have h1:=c_e (K:=.u64) hj;rw[<-e3,c_e (by omega)]at h1;injection h1 with h1
    injection h1 with _ h1
    omega
   subst e5;exact⟨L',hb,hl,fun j hj=>hS j hj⟩
  ·exact⟨M,⟨(setRow_other w g g' _ hg).trans hM.1,hM.2⟩,rfl,fun _ _=>rfl⟩
theorem Wb.setCell_row {g:Nat}{t:TypeId}{L:List Nat}(h:Wb w g t L)(j n:Nat):w.setCell ⟨g,j,none⟩ (.int .u64 (n:Int))=w.setRow g (vs .u64 (L.set j n)).toArray:=by
 rw[setCell_eq_setRow w g j _ t _ _ h.1,List.setIfInBounds_toArray,n_r]
theorem Low.set {b:Nat}{L:List Nat}(h:Low b L)(j:Nat){n:Nat}(hn:n<b):Low b (L.set j n):=fun k hk=>by
 by_cases hkj:j=k
 ·subst hkj;rw[d_g (by simpa using hk)];exact hn
 ·rw[c_k hkj];exact h k (by simpa using hk)
theorem Tch.store {g:Nat}{t:TypeId}{L:List Nat}(h:Wb w g t L)(j:Nat){n:Nat}(hn:n<18446744073709551616)(hS:S ⟨g,j,none⟩):
  Tch S w (w.setCell ⟨g,j,none⟩ (.int .u64 (n:Int)))/\Wb (w.setCell ⟨g,j,none⟩ (.int .u64 (n:Int))) g t (L.set j n):=by
 rw[h.setCell_row];exact Tch.row h (by simp) (h.2.set j hn) fun k hk=>c_k fun e=>hk (e ▸ hS)
end
def Off (S:Addr->Prop)(A:Option Addr)(n:Nat):Prop:=∀ad,A=some ad->∀j,j<n->¬S (ad.add j)
theorem Off.take {S:Addr->Prop}{A:Option Addr}{n m:Nat}(h:Off S A n)(hm:m<=n):Off S A m:=fun ad ha j hj=>h ad ha j (by omega)
theorem Off.drop {S:Addr->Prop}{A:Option Addr}{n k m:Nat}(h:Off S A n)(hm:k+m<=n):Off S (A.map (·.add k)) m:=fun ad ha j hj=>by
 cases A with
 |none=>cases ha
 |some ad'=>
  simp only[Option.map_some,Option.some.injEq]at ha;subst ha;rw[h_z];exact h ad' rfl _ (by omega)
theorem Off.seg_lit {g off n b o m:Nat}(h:b≠g\/o+m<=off\/off+n<=o):Off (Seg g off n) (some ⟨b,o,none⟩) m:=fun ad ha j hj=>by
 obtain rfl:=Option.some.inj ha;rw[b_l];unfold Seg;simp only;omega
theorem Off.or {S S':Addr->Prop}{A:Option Addr}{n:Nat}(h:Off S A n)(k:Off S' A n):Off (fun a=>S a\/S' a) A n:=fun ad ha j hj hs=>hs.elim (h ad ha j hj) (k ad ha j hj)
theorem Off.mono {S S':Addr->Prop}{A:Option Addr}{n:Nat}(h:Off S A n)(k:∀a,S' a->S a):Off S' A n:=fun ad ha j hj hs=>h ad ha j hj (k _ hs)
theorem Rd.tch {S:Addr->Prop}{w w':World}{K:IntKind}{A:Option Addr}{xs:List Nat}(h:Rd w K A xs)(ht:Tch S w w')(ho:Off S A xs.length):Rd w' K A xs:=fun hn=>by
 obtain⟨ad,rfl,hb,hc⟩:=h hn;exact⟨ad,rfl,Nat.lt_of_lt_of_le hb ht.size,fun j hj=>(ht.cell _ (by rw[a_b];exact hb) (ho ad rfl j hj)).trans (hc j hj)⟩
def Ar (w:World)(g p:Nat)(t:TypeId)(zs:List Nat):Prop:=∃L,Wb w g t L/\p+zs.length<=L.length/\∀j,j<zs.length->nth L (p+j)=nth zs j
section
variable {S:Addr->Prop}{w w':World}{g p:Nat}{t:TypeId}{zs:List Nat}
theorem Ar.rd (h:Ar w g p t zs):Rd w .u64 (some ⟨g,p,none⟩) zs:=by
 obtain⟨L,h1,h2,h3⟩:=h;intro hn;exact⟨_,rfl,h1.1.lt,fun j hj=>by rw[b_l,h1.1.cell (by omega),h3 j hj]⟩
theorem Ar.cell (h:Ar w g p t zs){j:Nat}(hj:j<zs.length):w.cell? ⟨g,p+j,none⟩=some (.int .u64 (nth zs j)):=by
 obtain⟨L,h1,h2,h3⟩:=h;rw[h1.1.cell (by omega),h3 j hj]
theorem Ar.free (h:Ar w g p t zs)(j:Nat):w.frozen? ⟨g,j,none⟩=false:=by
 obtain⟨L,h1,h2,h3⟩:=h;exact h1.1.free j
theorem Ar.low (h:Ar w g p t zs):Low 18446744073709551616 zs:=by
 obtain⟨L,h1,h2,h3⟩:=h;intro j hj;rw[<-h3 j hj];exact h1.2 _ (by omega)
theorem Ar.of_wb {L:List Nat}(h:Wb w g t L):Ar w g 0 t L:=⟨L,h,by omega,fun j _=>by rw[Nat.zero_add]⟩
theorem Ar.sub (h:Ar w g p t zs)(k n:Nat)(hn:k+n<=zs.length):Ar w g (p+k) t ((zs.drop k).take n):=by
 obtain⟨L,h1,h2,h3⟩:=h;refine⟨L,h1,by simp;omega,fun j hj=>?_⟩;simp at hj;rw[b_n (by omega),a_5,Nat.add_assoc,h3 _ (by omega)]
theorem Ar.take (h:Ar w g p t zs)(n:Nat)(hn:n<=zs.length):Ar w g p t (zs.take n):=by simpa using h.sub 0 n (by omega)
theorem Ar.drop (h:Ar w g p t zs)(k:Nat)(hk:k<=zs.length):Ar w g (p+k) t (zs.drop k):=by
 have:=h.sub k (zs.length - k) (by omega);rwa [List.take_of_length_le (by simp)]at this
theorem Ar.store (h:Ar w g p t zs){j n:Nat}(hj:j<zs.length)(hn:n<18446744073709551616)(hS:S ⟨g,p+j,none⟩):
  Tch S w (w.setCell ⟨g,p+j,none⟩ (.int .u64 (n:Int)))/\Ar (w.setCell ⟨g,p+j,none⟩ (.int .u64 (n:Int))) g p t (zs.set j n):=by
 obtain⟨L,h1,h2,h3⟩:=h;obtain⟨k1,k2⟩:=Tch.store h1 (p+j) hn hS;refine⟨k1,_,k2,by simpa using h2,fun i hi=>?_⟩;simp at hi;by_cases hij:j=i
 ·subst hij;rw[d_g (by omega),d_g (by omega)]
 ·rw[c_k (by omega),c_k hij,h3 i hi]
theorem Ar.tch (h:Ar w g p t zs)(ht:Tch S w w')(ho:∀j,j<zs.length->¬S ⟨g,p+j,none⟩):Ar w' g p t zs:=by
 obtain⟨L,h1,h2,h3⟩:=h;obtain⟨L',k1,k2,k3⟩:=ht.blk g t L h1;exact⟨L',k1,by omega,fun j hj=>by rw[k3 _ (ho j hj),h3 j hj]⟩
theorem Ar.any (h:Ar w g p t zs)(ht:Tch S w w'):∃us,us.length=zs.length/\Ar w' g p t us:=by
 obtain⟨L,h1,h2,h3⟩:=h;obtain⟨L',k1,k2,k3⟩:=ht.blk g t L h1;refine⟨(L'.drop p).take zs.length,by simp;omega,L',k1,by simp;omega,fun j hj=>?_⟩;simp at hj;rw[b_n (by omega),a_5]
theorem Wb.one {L M:List Nat}{t':TypeId}(h:Wb w g t L)(k:Wb w g t' M):L=M:=by
 have e:=h.1.symm.trans k.1;injection e with e
 injection e with e1 e2
 have e3:vs .u64 L=vs .u64 M:=by simpa using e1
 have e4:L.length=M.length:=by have:=congrArg List.length e3;rw[a_f,a_f]at this;omega
 exact d_j e4 fun j hj=>by
  have h1:=c_e (K:=.u64) hj;rw[e3,c_e (by omega)]at h1;injection h1 with h1
  injection h1 with _ h1
  omega
theorem Ar.join {us:List Nat}(h:Ar w g p t zs){q:Nat}(k:Ar w g q t us)(hq:q=p+zs.length):Ar w g p t (zs++us):=by
 subst hq;obtain⟨L,h1,h2,h3⟩:=h;obtain⟨M,k1,k2,k3⟩:=k;obtain rfl:=h1.one k1;refine⟨L,h1,by simp;omega,fun j hj=>?_⟩;simp at hj;by_cases hlt:j<zs.length
 ·rw[a_p hlt,h3 j hlt]
 ·rw[a_k (by omega),<-k3 _ (by omega)];congr 1
  omega
theorem Ar.below (h:Ar w g p t zs)(hb:Below w.heap.size w w'):Ar w' g p t zs:=h.tch (Tch.of_below (fun _=>False) hb) fun _ _ h=>h
end
theorem a_9 {us zs:List Nat}{k n:Nat}(hk:us.length=k)(h:k<zs.length):(us++zs.drop k).set k n=(us++[n])++zs.drop (k+1):=by
 have e:=c_n h;rw[List.set_append_right _ _ (by omega),hk,Nat.sub_self,e,List.set_cons_zero];simp
theorem a_u {us zs:List Nat}{k:Nat}(hk:us.length=k):nth (us++zs.drop k) k=nth zs k:=by
 rw[a_k (by omega),hk,Nat.sub_self,a_5,Nat.add_zero]
theorem a_g {us zs:List Nat}{k:Nat}(hk:us.length=k)(h:k<=zs.length):(us++zs.drop k).length=zs.length:=by simp;omega
theorem a_r {P:Program}{w:World}{ops:Array Oper}{rest:List Oper}{o:Oper}{a:Act}{Q:Exit->Act->World->Prop}(hgd:o.guard=none)(d s:Operand)(dT sT:TypeId)
  (ho:o.op= .call { callee:=.builtin .copy,args:=#[d,s],argTypes:=#[dT,sT] }) (elem:TypeId) (hu:P.underlying dT=some (.slice elem)) (hsz:(P.info? elem).map (·.size)=some 1)
  (sp:Option Addr) (dLen dCap sLen sCap g p:Nat) (t:TypeId) (zs us:List Nat) (hd:a.eval d= .slice (some ⟨g,p,none⟩) dLen dCap) (hs:a.eval s= .slice sp sLen sCap)
  (hz:Hid (zs.length=dLen)) (hul:Hid (us.length=sLen)) (hle:sLen<=dLen) (har:Ar w g p t zs) (hr:Rd w .u64 sp us) (hlow:Low 18446744073709551616 us)
  (S:Addr->Prop) (hS:∀j,j<sLen->S ⟨g,p+j,none⟩)
  (h:∀w',Ar w' g p t (us++zs.drop sLen)->Tch S w w'->w'.heap.size=w.heap.size->wpList P ops Q rest (a.put o.dst (.int .i64 sLen)) w'):
  wpList P ops Q (o::rest) a w:=by
 obtain rfl:=hz.out.symm;obtain rfl:=hul.out.symm;by_cases h0:us.length=0
 ·refine wpList_copy_nothing hgd d s dT sT ho elem hu hsz _ sp zs.length dCap us.length sCap hd hs (by rw[h0];exact Nat.min_eq_left (by omega)) ?_;have e:us=[]:=List.eq_nil_of_length_eq_zero h0;subst e;exact h w (by simpa using har) (Tch.refl _ _) rfl
 ·obtain⟨ad,rfl,hb,hc⟩:=hr (by omega);obtain⟨L,h1,h2,h3⟩:=har;have hm:Nat.min us.length zs.length=us.length:=Nat.min_eq_left hle;refine wpList_copy_own hgd d s dT sT ho elem hu hsz g p zs.length dCap ad us.length sCap hd hs (vs .u64 L).toArray t h1.1 (vs .u64 us) (by rw[a_f,hm]) (fun j v hv=>?_) (by simp[a_f];omega) (j_z _ _) ?_
  ·rcases Nat.lt_or_ge j us.length with hj|hj
   ·rw[c_e hj]at hv;rw[hc j hj,hv]
   ·rw[List.getElem?_eq_none (by rw[a_f];exact hj)]at hv;cases hv
  ·have e:(vs .u64 L).toArray.toList.take p++(vs .u64 us++(vs .u64 L).toArray.toList.drop (p+(vs .u64 us).length))=vs .u64 (L.take p++us++L.drop (p+us.length)):=by
    simp[vs,List.map_take,List.map_drop]
   rw[e,a_f];have hl:(L.take p++us++L.drop (p+us.length)).length=L.length:=e_7 rfl (by omega);have hn:∀j,nth (L.take p++us++L.drop (p+us.length)) j=if p<=j/\j<p+us.length then nth us (j - p)else nth L j:=by
    intro j;have hp:(L.take p).length=p:=by simp;omega
    rw[List.append_assoc];by_cases h1:j<p
    ·rw[a_p (by omega),b_n h1,if_neg (by omega)]
    ·rw[a_k (by omega),hp];by_cases h2:j<p+us.length
     ·rw[a_p (by omega),if_pos (by omega)]
     ·rw[a_k (by omega),a_5,if_neg (by omega)];congr 1
      omega
   obtain⟨k1,k2⟩:=Tch.row (S:=S) (L':=L.take p++us++L.drop (p+us.length)) h1 hl (((h1.2.take p).append hlow).append (h1.2.drop _)) fun j hj=>by
    rw[hn,if_neg];rintro⟨h4,h5⟩
    have:=hS (j - p) (by omega);rw[show p+(j - p)=j by omega]at this;exact hj this
   refine h _ ⟨_,k2,by rw[hl];simp;omega,fun j hj=>?_⟩ k1 (by simp);simp at hj;rw[hn];by_cases hlt:j<us.length
   ·rw[if_pos (by omega),a_p hlt];congr 1
    omega
   ·rw[if_neg (by omega),a_k (by omega),a_5,h3 _ (by omega)];congr 1
    omega
theorem c_w {S:Addr->Prop}{g:Nat}{t:TypeId}:∀(n p:Nat) (w:World) (zs:List Nat),zs.length=n->Ar w g p t zs->(∀j,j<n->S ⟨g,p+j,none⟩)->
  Tch S w (w.setCells g p (List.replicate n (.int .u64 0)))/\Ar (w.setCells g p (List.replicate n (.int .u64 0))) g p t (List.replicate n 0)/\(w.setCells g p (List.replicate n (.int .u64 0))).heap.size=w.heap.size
 |0,p,w,zs,hl,h,hS=>⟨Tch.refl _ _,by rw[List.eq_nil_of_length_eq_zero hl]at h;exact h,rfl⟩
 |n+1,p,w,zs,hl,h,hS=>by
  obtain⟨k1,k2⟩:=h.store (S:=S) (j:=0) (n:=0) (by omega) (by omega) (hS 0 (by omega));rw[Nat.add_zero]at k1 k2;have k3:=k2.drop 1 (by simp;omega);obtain⟨m1,m2,m3⟩:=c_w n (p+1) _ _ (by simp;omega) k3 (fun j hj=>by rw[Nat.add_assoc,Nat.add_comm 1 j];exact hS (j+1) (by omega));have k4:Ar (w.setCell ⟨g,p,none⟩ (.int .u64 ((0:Nat):Int))) g p t [0]:=by
   have:=k2.take 1 (by simp;omega);cases zs with
   |nil=>simp at hl
   |cons z zs=>simpa using this
  obtain⟨m4,m5,m6⟩:=c_w (S:=Seg g (p+1) n) n (p+1) _ _ (by simp;omega) k3 (fun j hj=>⟨rfl,Nat.le_add_right _ _,Nat.add_lt_add_left hj _⟩);have k5:=k4.tch m4 (fun j hj hs=>by simp at hj;subst hj;have:=hs.2.1;simp at this;omega);rw[List.replicate_succ,World.setCells,List.replicate_succ];refine⟨k1.trans m1, ?_,by simpa using m3⟩;exact k5.join m2 (by simp)
end Go.Proofs.YtfhbdlegkdbmfaaGreat
namespace Go.Proofs.YtfhbdlegkdbmfaaGreat
open Go.RowKit
theorem c_x (A:Option Addr)(n c:Nat)(xs:List Nat)(w:World)(hr:Rd w .u64 A xs)(hn:xs.length=n)(hc:n<=c)(hm:c<=9223372036854775807):
  Calls Tryz.prog 143 #[.slice A n c] w fun e w'=>e= .returned (.slice A (sl xs) c)/\w=w':=by
 subst hn;go_enter Tryz.func143,Tryz.ntmps143
 go_wp2
 go_loop [3] (fun n=>∃k:Nat,k<=xs.length/\Zs xs k/\n= .int .i64 k) (fun n=>(intOf n).toNat)
 case atStart=>exact⟨xs.length,Nat.le_refl _,fun j hj=>c_c hj,rfl⟩
 case round=>
  obtain⟨k,hk,hz,rfl⟩:=hrel;by_cases h0:k=0
  ·subst h0;have e:sl xs=0:=j_7 hz (.inl rfl);have E:=Lib.hid e;clear e
   go_wp2
   go_ret
   exact⟨by rw[E.out];rfl,rfl⟩
  ·obtain⟨m,rfl⟩:∃m,k=m+1:=⟨k - 1,by omega⟩;obtain⟨ad,rfl,_,hcell⟩:=hr.at (k:=m) (by omega);by_cases hx:nth xs m=0
   ·rw[hx]at hcell;have hz':Zs xs m:=fun j hj=>by
     rcases Nat.eq_or_lt_of_le hj with rfl|h
     ·exact hx
     ·exact hz j h
    have H:=Lib.hid hx;clear hx h0
    go_wp2
    go_round
    case rel=>exact⟨m,by omega,hz',by go_num⟩
    case measure=>simp[intOf]
   ·have e:sl xs=m+1:=j_7 hz (.inr hx);have E:=Lib.hid e;have hb:(((nth xs m:Nat):Int)==0)=false:=by rw[beq_eq_false_iff_ne];omega
    clear e h0 hx
    go_wp2
    go_ret
    exact⟨by rw[E.out];rfl,rfl⟩
def AtRel (w:World)(g p:Nat)(zs xs:List Nat)(k:Nat)(s:Value)(wr:World):Prop:=
 ∃(c:Nat) (us:List Nat),Adding 18446744073709551616 zs xs us k c/\s= .int .u64 c/\Ar wr g p 85 (us++zs.drop k)/\Tch (Seg g p zs.length) w wr/\wr.heap.size=w.heap.size
theorem AtRel.next {w wr:World}{g p k c:Nat}{zs xs us:List Nat}{s:Value}(lz:Low 18446744073709551616 zs)(lx:Low 18446744073709551616 xs)(ha:Adding 18446744073709551616 zs xs us k c)(hk:k<zs.length)
  (har:Ar wr g p 85 (us++zs.drop k)) (ht:Tch (Seg g p zs.length) w wr) (hz:wr.heap.size=w.heap.size)
  (hs:s= .int .u64 (((nth zs k+nth xs k+c) / 18446744073709551616:Nat):Int)):
  AtRel w g p zs xs (k+1) s (wr.setCell ⟨g,p+k,none⟩ (.int .u64 (((nth zs k+nth xs k+c)%18446744073709551616:Nat):Int))):=by
 obtain⟨h1,h2⟩:=har.store (S:=Seg g p zs.length) (j:=k) (n:=(nth zs k+nth xs k+c)%18446744073709551616) (by rw[a_g ha.1 (by omega)];exact hk) (Nat.mod_lt _ (by omega)) ⟨rfl,Nat.le_add_right _ _,Nat.add_lt_add_left hk _⟩;rw[a_9 ha.1 hk]at h2;exact⟨_,_,ha.step (by omega) lz lx,hs,h2,ht.trans h1,by simpa using hz⟩
def AtPost (w:World)(g p:Nat)(zs xs:List Nat)(e:Ending)(w':World):Prop:=
 ∃us:List Nat,e= .returned (.tuple #[])/\us.length=zs.length/\ev 18446744073709551616 us=ev 18446744073709551616 zs+ev 18446744073709551616 xs/\Ar w' g p 85 us/\Tch (Seg g p zs.length) w w'/\w'.heap.size=w.heap.size
theorem j_m {b:Nat}{zs xs us:List Nat}{k:Nat}(ha:Adding b zs xs us k 0)(hx:xs.length<=k)(hk:k<=zs.length):ev b (us++zs.drop k)=ev b zs+ev b xs:=by
 obtain⟨h1,h2,h3,h4⟩:=ha;rw[a_o,h1,a_7 b zs k hk];rw[b_a b hx]at h4;omega
theorem h_y {b:Nat}{zs xs us:List Nat}{c:Nat}(ha:Adding b zs xs us zs.length c)(hx:xs.length<=zs.length)(hs:ev b zs+ev b xs<b^zs.length):c=0:=by
 obtain⟨h1,h2,h3,h4⟩:=ha;rw[b_a b hx,a_z]at h4;rcases Nat.eq_zero_or_pos c with h|h
 ·exact h
 ·obtain rfl:c=1:=by omega
  omega
theorem c_b (g p cap n d:Nat)(B:Option Addr)(zs xs:List Nat)(m:Nat)(w:World)(har:Ar w g p 85 zs)(hzl:zs.length=m)(hr:Rd w .u64 B xs)(hn:xs.length=n)
  (hoff:Off (Seg g p m) B n) (lx:Low 18446744073709551616 xs) (hnm:n<=m) (hm:m<=9223372036854775807) (hs:ev 18446744073709551616 zs+ev 18446744073709551616 xs<18446744073709551616^m):
  Calls Tryz.prog 145 #[.slice (some ⟨g,p,none⟩) m cap,.slice B n d] w (AtPost w g p zs xs):=by
 subst hzl hn;have lz:=har.low;have HS:=Lib.hid hs;clear hs;go_enter Tryz.func145,Tryz.ntmps145
 go_wp2
 go_loopw [4,10] (fun s i wr=>∃k:Nat,k<=xs.length/\i= .int .i64 k/\AtRel w g p zs xs k s wr) (fun _ i _=>xs.length - (intOf i).toNat)
 case atStart=>exact⟨0,Nat.zero_le _,rfl,0,[],Adding.start _ _ _,rfl,by simpa using har,Tch.refl _ _,rfl⟩
 case round=>
  obtain⟨k,hk,rfl,c,us,ha,rfl,ha2,ht,hz⟩:=hrel;by_cases hlt:k<xs.length
  ·obtain⟨ad,rfl,_,c1⟩:=(hr.tch ht hoff).at (k:=k) hlt;have cs:=ha2.cell (j:=k) (by rw[a_g ha.1 (by omega)];omega);rw[a_u ha.1]at cs;have cf:=ha2.free (p+k);have hadd:=c_h (nth zs k) (nth xs k) c ha.2.2.1;have HA:=Lib.hid ha;have HZ:=Lib.hid hz;clear ha hz
   go_wp2_with fail
   go_roundw
   case rel=>exact⟨k+1,by omega,by go_num,AtRel.next lz lx HA.out (by omega) ha2 ht HZ.out rfl⟩
   case measure=>simp[intOf];omega
  ·obtain rfl:k=xs.length:=by omega
   clear hlt
   go_wp2
   go_loopw [4,7] (fun s i wr=>∃k:Nat,xs.length<=k/\k<=zs.length/\i= .int .i64 k/\AtRel w g p zs xs k s wr) (fun _ i _=>zs.length - (intOf i).toNat)
   case atStart=>exact⟨xs.length,Nat.le_refl _,hnm,rfl,c,us,ha,rfl,ha2,ht,hz⟩
   case round=>
    clear ha ha2 ht hz;obtain⟨k,hk0,hk,rfl,c,us,ha,rfl,ha2,ht,hz⟩:=hrel;rcases Nat.eq_zero_or_pos c with hc|hc
    ·subst hc;have e:=j_m ha hk0 hk;have l:=a_g ha.1 hk;have E:=Lib.hid e;have L:=Lib.hid l;have HZ:=Lib.hid hz;clear e l ha hz
     go_wp2
     go_end0
     exact⟨_,rfl,L.out,E.out,ha2,ht,HZ.out⟩
    ·have hlt:k<zs.length:=by
      rcases Nat.lt_or_ge k zs.length with h|h
      ·exact h
      ·obtain rfl:k=zs.length:=by omega
       have:=h_y ha hk0 HS.out;omega
     have cs:=ha2.cell (j:=k) (by rw[a_g ha.1 (by omega)];omega);rw[a_u ha.1]at cs;have cf:=ha2.free (p+k);have hadd:=d_p (nth zs k) c ha.2.2.1;have h0:nth xs k=0:=c_c hk0;have hne:(((c:Nat):Int)==0)=false:=by rw[beq_eq_false_iff_ne];omega
     have hne':(((c:Nat):Int) != 0)=true:=by rw[bne_iff_ne];omega
     have HA:=Lib.hid ha;have H0:=Lib.hid h0;have HZ:=Lib.hid hz;clear ha h0 hz
     go_wp2_with fail
     go_roundw
     case rel=>
      have hn:=AtRel.next (s:=.int .u64 (((nth zs k+nth xs k+c) / 18446744073709551616:Nat):Int)) lz lx HA.out hlt ha2 ht HZ.out rfl;rw[H0.out,Nat.add_zero]at hn;exact⟨k+1,by omega,by omega,by go_num,hn⟩
     case measure=>simp[intOf];omega
def SfRel (w:World)(g p:Nat)(zs xs:List Nat)(k:Nat)(s:Value)(wr:World):Prop:=
 ∃(c:Nat) (us:List Nat),Subbing 18446744073709551616 zs xs us k c/\s= .int .u64 c/\Ar wr g p 85 (us++zs.drop k)/\Tch (Seg g p zs.length) w wr/\wr.heap.size=w.heap.size
theorem SfRel.next {w wr:World}{g p k c d c':Nat}{zs xs us:List Nat}{s:Value}(ha:Subbing 18446744073709551616 zs xs us k c)(hk:k<zs.length)
  (har:Ar wr g p 85 (us++zs.drop k)) (ht:Tch (Seg g p zs.length) w wr) (hz:wr.heap.size=w.heap.size)
  (hd:d<18446744073709551616) (hc:c'<=1) (he:d+nth xs k+c=nth zs k+18446744073709551616*c') (hs:s= .int .u64 (c':Int)):
  SfRel w g p zs xs (k+1) s (wr.setCell ⟨g,p+k,none⟩ (.int .u64 (d:Int))):=by
 obtain⟨h1,h2⟩:=har.store (S:=Seg g p zs.length) (j:=k) (n:=d) (by rw[a_g ha.1 (by omega)];exact hk) hd ⟨rfl,Nat.le_add_right _ _,Nat.add_lt_add_left hk _⟩;rw[a_9 ha.1 hk]at h2;exact⟨_,_,ha.step hd hc he,hs,h2,ht.trans h1,by simpa using hz⟩
def SfPost (w:World)(g p:Nat)(zs xs:List Nat)(e:Ending)(w':World):Prop:=
 ∃(c:Nat) (us:List Nat),e= .returned (.bool (decide (c=1)))/\c<=1/\us.length=zs.length/\Hid (ev 18446744073709551616 us+ev 18446744073709551616 xs=ev 18446744073709551616 zs+18446744073709551616^zs.length*c)/\
  Ar w' g p 85 us/\Tch (Seg g p zs.length) w w'/\w'.heap.size=w.heap.size
theorem h_a {b:Nat}{zs xs us:List Nat}{k:Nat}(ha:Subbing b zs xs us k 0)(hx:xs.length<=k)(hk:k<=zs.length):ev b (us++zs.drop k)+ev b xs=ev b zs:=by
 obtain⟨h1,h2,h3,h4⟩:=ha;rw[a_o,h1,a_7 b zs k hk];rw[b_a b hx]at h4;omega
theorem f_9 {b:Nat}{zs xs us:List Nat}{c:Nat}(ha:Subbing b zs xs us zs.length c)(hx:xs.length<=zs.length):ev b (us++zs.drop zs.length)+ev b xs=ev b zs+b^zs.length*c:=by
 obtain⟨h1,h2,h3,h4⟩:=ha;rw[b_a b hx,a_z]at h4;simpa using h4
theorem c_1 (g p cap n d:Nat)(B:Option Addr)(zs xs:List Nat)(m:Nat)(w:World)(har:Ar w g p 85 zs)(hzl:zs.length=m)(hr:Rd w .u64 B xs)(hn:xs.length=n)
  (hoff:Off (Seg g p m) B n) (lx:Low 18446744073709551616 xs) (hnm:n<=m) (hm:m<=9223372036854775807):
  Calls Tryz.prog 201 #[.slice (some ⟨g,p,none⟩) m cap,.slice B n d] w (SfPost w g p zs xs):=by
 subst hzl hn;have lz:=har.low;go_enter Tryz.func201,Tryz.ntmps201
 go_wp2
 go_loopw [5,11] (fun s i wr=>∃k:Nat,k<=xs.length/\i= .int .i64 k/\SfRel w g p zs xs k s wr) (fun _ i _=>xs.length - (intOf i).toNat)
 case atStart=>exact⟨0,Nat.zero_le _,rfl,0,[],Subbing.start _ _ _,rfl,by simpa using har,Tch.refl _ _,rfl⟩
 case round=>
  obtain⟨k,hk,rfl,c,us,ha,rfl,ha2,ht,hz⟩:=hrel;by_cases hlt:k<xs.length
  ·obtain⟨ad,rfl,_,c1⟩:=(hr.tch ht hoff).at (k:=k) hlt;have cs:=ha2.cell (j:=k) (by rw[a_g ha.1 (by omega)];omega);rw[a_u ha.1]at cs;have cf:=ha2.free (p+k);obtain⟨s1,o1,f1,f2,f3,f4⟩:=b_z (nth zs k) (nth xs k) c (lz.any (by omega) k) (lx.any (by omega) k) ha.2.2.1;have HA:=Lib.hid ha;have HZ:=Lib.hid hz;have F2:=Lib.hid f2;clear ha hz f2
   go_wp2_with fail
   go_roundw
   case rel=>exact⟨k+1,by omega,by go_num,SfRel.next HA.out (by omega) ha2 ht HZ.out f3 f4 F2.out rfl⟩
   case measure=>simp[intOf];omega
  ·obtain rfl:k=xs.length:=by omega
   clear hlt
   go_wp2
   go_loopw [5,8] (fun s i wr=>∃k:Nat,xs.length<=k/\k<=zs.length/\i= .int .i64 k/\SfRel w g p zs xs k s wr) (fun _ i _=>zs.length - (intOf i).toNat)
   case atStart=>exact⟨xs.length,Nat.le_refl _,hnm,rfl,c,us,ha,rfl,ha2,ht,hz⟩
   case round=>
    clear ha ha2 ht hz;obtain⟨k,hk0,hk,rfl,c,us,ha,rfl,ha2,ht,hz⟩:=hrel;rcases Nat.eq_zero_or_pos c with hc|hc
    ·subst hc;have e:=h_a ha hk0 hk;have l:=a_g ha.1 hk;have P:Hid (SfPost w g p zs xs (.returned (.bool false)) wr):=⟨0,_,rfl,by omega,l,by rw[e];rfl,ha2,ht,hz⟩;clear e l ha hz ha2 ht
     go_wp2
     go_ret
     exact P.out
    ·have hc1:c<=1:=ha.2.2.1;have hne:(((c:Nat):Int)==0)=false:=by rw[beq_eq_false_iff_ne];omega
     have hne':(((c:Nat):Int) != 0)=true:=by rw[bne_iff_ne];omega
     by_cases hlt:k<zs.length
     ·have cs:=ha2.cell (j:=k) (by rw[a_g ha.1 (by omega)];omega);rw[a_u ha.1]at cs;have cf:=ha2.free (p+k);obtain⟨s1,o1,f1,f2,f3,f4⟩:=e_b (nth zs k) c (lz.any (by omega) k) hc1;have h0:nth xs k=0:=c_c hk0;rw[<-h0]at f2;have HA:=Lib.hid ha;have HZ:=Lib.hid hz;have F2:=Lib.hid f2;clear ha h0 hz f2
      go_wp2_with fail
      go_roundw
      case rel=>exact⟨k+1,by omega,by omega,by go_num,SfRel.next HA.out hlt ha2 ht HZ.out f3 f4 F2.out rfl⟩
      case measure=>simp[intOf];omega
     ·obtain rfl:k=zs.length:=by omega
      have e:=f_9 ha hk0;have l:=a_g ha.1 hk;have hd:decide (c=1)=true:=by simp;omega
      have P:Hid (SfPost w g p zs xs (.returned (.bool true)) wr):=⟨c,_,by rw[hd],by omega,l,e,ha2,ht,hz⟩;clear e l ha hz ha2 ht hlt hd
      go_wp2
      go_ret
      exact P.out
end Go.Proofs.YtfhbdlegkdbmfaaGreat
namespace Go.Proofs.YtfhbdlegkdbmfaaGreat
open Go.RowKit
theorem b_e {P:Program}{w:World}{ops:Array Oper}{rest:List Oper}{o:Oper}{a:Act}{Q:Exit->Act->World->Prop}(hgd:o.guard=none)(d:Operand)(dT:TypeId)
  (ho:o.op= .call { callee:=.builtin .clear,args:=#[d],argTypes:=#[dT] }) (elem:TypeId) (hu:P.underlying dT=some (.slice elem)) (hv:∀w,(zeroValue elem).run P w= .ok (.int .u64 0) w)
  (A:Option Addr) (n c g q:Nat) (t:TypeId) (zs:List Nat) (hd:a.eval d= .slice A n c) (hA:0<n->A=some ⟨g,q,none⟩) (hz:Hid (zs.length=n)) (har:Ar w g q t zs)
  (S:Addr->Prop) (hS:∀j,j<n->S ⟨g,q+j,none⟩)
  (h:∀w',Ar w' g q t (List.replicate n 0)->Tch S w w'->w'.heap.size=w.heap.size->wpList P ops Q rest (a.put o.dst (.tuple #[])) w'):
  wpList P ops Q (o::rest) a w:=by
 refine wpList_plain hgd fun K hK=>?_;rcases Nat.eq_zero_or_pos n with rfl|hn
 ·have hrun:(Builtin.clear_ #[dT] o.type #[.slice A 0 c]).run P w= .ok (.tuple #[]) w:=by
   cases A<;>simp[Builtin.clear_,run_underlying hu]
  unfold Oper.wp;simp[execOp,ho,resolve,invoke,builtin,hd,hrun,Result.andThen];have e:zs=[]:=List.eq_nil_of_length_eq_zero hz.out;subst e;exact hK _ _ (h w har (Tch.refl _ _) rfl)
 ·obtain rfl:=hA hn;have hrun:=Lib.run_clear_slice (P:=P) w dT elem o.type (.int .u64 0) hu hv rfl rfl g q n c hn (fun j hj=>by rw[har.cell (j:=j) (by rw[hz.out];exact hj)];rfl) (fun j hj=>har.free _);unfold Oper.wp;simp[execOp,ho,resolve,invoke,builtin,hd,hrun,Result.andThen];obtain⟨h1,h2,h3⟩:=c_w (S:=S) n q w zs hz.out har hS;exact hK _ _ (h _ h2 h1 h3)
theorem zero_u64:∀w,(zeroValue 85).run Tryz.prog w= .ok (.int .u64 0) w:=fun w=>by kernel_rfl
def FiPost (w:World)(g p m:Nat)(xs:List Nat)(e:Ending)(w':World):Prop:=
 e= .returned (.tuple #[])/\Ar w' g p 85 (xs++List.replicate (m - xs.length) 0)/\Tch (Seg g p m) w w'/\w'.heap.size=w.heap.size
theorem i_o {w w1 w2:World}{g p m:Nat}{zs xs:List Nat}(hz:zs.length=m)(hx:xs.length<=m)(h1:Ar w1 g p 85 (xs++zs.drop xs.length))(t1:Tch (Seg g p m) w w1)(z1:w1.heap.size=w.heap.size)
  (h2:Ar w2 g (p+xs.length) 85 (List.replicate (m - xs.length) 0)) (t2:Tch (Seg g (p+xs.length) (m - xs.length)) w1 w2) (z2:w2.heap.size=w1.heap.size):
  FiPost w g p m xs (.returned (.tuple #[])) w2:=by
 have h3:=h1.take xs.length (by simp);rw[List.take_left' rfl]at h3;have h4:=h3.tch t2 (fun j hj hs=>by have:=hs.2.1;simp only at this;omega);refine⟨rfl,h4.join h2 rfl,t1.trans (t2.mono fun a _ ha=>?_),by omega⟩;unfold Seg at *;omega
theorem e_9 (g p cap n d:Nat)(B:Option Addr)(zs xs:List Nat)(m:Nat)(w:World)(har:Ar w g p 85 zs)(hzl:zs.length=m)(hr:Rd w .u64 B xs)(hn:xs.length=n)
  (lx:Low 18446744073709551616 xs) (hnm:n<=m) (hcap:m<=cap) (hm:cap<=9223372036854775807):
  Calls Tryz.prog 199 #[.slice (some ⟨g,p,none⟩) m cap,.slice B n d] w (FiPost w g p m xs):=by
 have HZ:=Lib.hid hzl;have HN:=Lib.hid hn;have hl:((xs++zs.drop n).drop n).length=m - n:=by simp;omega
 have HL:=Lib.hid hl;have he:∀w1 w2:World,Ar w1 g p 85 (xs++zs.drop n)->Tch (Seg g p m) w w1->w1.heap.size=w.heap.size->Ar w2 g (p+n) 85 (List.replicate (m - n) 0)->Tch (Seg g (p+n) (m - n)) w1 w2->w2.heap.size=w1.heap.size->
   FiPost w g p m xs (.returned (.tuple #[])) w2:=by
  subst hn;intro w1 w2 h1 t1 z1 h2 t2 z2;exact i_o hzl hnm h1 t1 z1 h2 t2 z2
 have HE:=Lib.hid he;clear hzl hn hl he;have hS:∀j,j<n->Seg g p m ⟨g,p+j,none⟩:=fun j hj=>⟨rfl,Nat.le_add_right _ _,Nat.add_lt_add_left (by omega) _⟩;have HS:=Lib.hid hS;have hS2:∀j,j<m - n->Seg g (p+n) (m - n) ⟨g,p+n+j,none⟩:=fun j hj=>⟨rfl,Nat.le_add_right _ _,Nat.add_lt_add_left hj _⟩;have HS2:=Lib.hid hS2;clear hS hS2;by_cases hc:n=cap
 ·obtain rfl:n=m:=by omega
  subst hc;have h0:n - n=0:=by omega
  have H0:=Lib.hid h0;clear h0;go_enter Tryz.func199,Tryz.ntmps199
  go_wp2_with (refine a_r rfl (.tmp 5) (.tmp 6) _ _ rfl 85 Tryz.underlying29 (by kernel_rfl) B n n n d g p 85 zs xs rfl rfl HZ.out HN.out (Nat.le_refl _) har hr lx (Seg g p n) HS.out ?_)
  intro w1 h1 t1 z1;have Z1:=Lib.hid z1;clear z1;have h2:=h1.drop n (by have:=HN.out;simp;omega)
  go_wp2_with (refine b_e rfl (.tmp 10) _ rfl 85 Tryz.underlying29 zero_u64 _ 0 _ g (p+n) 85 _ rfl (fun h=>by omega) (HL.out.trans H0.out) h2 (Seg g (p+n) (n - n)) (fun j hj=>by omega) ?_)
  intro w2 h3 t3 z3;have Z3:=Lib.hid z3;clear z3
  go_wp2
  go_end0
  exact HE.out _ _ h1 t1 Z1.out (by rw[H0.out];exact h3) (by rw[H0.out];exact t3) Z3.out
 ·have hlt:n<cap:=by omega
  clear hc;go_enter Tryz.func199,Tryz.ntmps199
  go_wp2_with (refine a_r rfl (.tmp 5) (.tmp 6) _ _ rfl 85 Tryz.underlying29 (by kernel_rfl) B m cap n d g p 85 zs xs rfl rfl HZ.out HN.out hnm har hr lx (Seg g p m) HS.out ?_)
  intro w1 h1 t1 z1;have Z1:=Lib.hid z1;clear z1;have h2:=h1.drop n (by have:=HN.out;have:=HZ.out;simp;omega)
  go_wp2_with (refine b_e rfl (.tmp 10) _ rfl 85 Tryz.underlying29 zero_u64 _ (m - n) _ g (p+n) 85 _ rfl (fun h=>rfl) HL.out h2 (Seg g (p+n) (m - n)) HS2.out ?_)
  intro w2 h3 t3 z3;have Z3:=Lib.hid z3;clear z3
  go_wp2
  go_end0
  exact HE.out _ _ h1 t1 Z1.out h3 t3 Z3.out
theorem o_g (b:Nat)(hb:b<18446744073709551616):18446744073709551615^^^b=18446744073709551615 - b:=by
 have h1:(BitVec.allOnes 64^^^BitVec.ofNat 64 b).toNat=18446744073709551615^^^b:=by
  rw[BitVec.toNat_xor,BitVec.toNat_allOnes,BitVec.toNat_ofNat,Nat.mod_eq_of_lt (by omega)]
 have h2:(BitVec.allOnes 64^^^BitVec.ofNat 64 b)= ~~~ BitVec.ofNat 64 b:=by
  rw[BitVec.allOnes_xor]
 rw[<-h1,h2,BitVec.toNat_not,BitVec.toNat_ofNat,Nat.mod_eq_of_lt (by omega)]
theorem max_u64:IntKind.u64.max=((18446744073709551615:Nat):Int):=by decide
theorem n_l (z:Nat)(hz:z<18446744073709551616):bits .xor .u64 IntKind.u64.max (z:Int)=((18446744073709551615 - z:Nat):Int):=by
 rw[max_u64,bits_xor_u64_nat _ _ (by omega) hz,o_g z hz]
theorem m_r (z c:Nat)(hz:z<18446744073709551616)(hc:c<=1):
  ∃s o:Nat,(∀w,(callFunc 179 #[.int .u64 (bits .xor .u64 IntKind.u64.max (z:Int)),.int .u64 0,.int .u64 c]).run Tryz.prog w= .ok (.value (.tuple #[.int .u64 (s:Int),.int .u64 (o:Int)])) w)/\
   s+18446744073709551616*o=(18446744073709551615 - z)+c/\s<18446744073709551616/\o<=1:=by
 rw[n_l z hz];exact⟨_,_,d_p (18446744073709551615 - z) c hc,by omega,by omega,by omega⟩
def Lacking (b:Nat)(zs us:List Nat)(k c:Nat):Prop:=
 us.length=k/\Low b us/\c<=1/\ev b us+b^k*c+pre b zs k=b^k
theorem Lacking.start (b:Nat)(zs:List Nat):Lacking b zs [] 0 1:=⟨rfl,Low.nil b,by omega,by simp[ev,a_0]⟩
theorem Lacking.step {b:Nat}{zs us:List Nat}{k c s c':Nat}(h:Lacking b zs us k c)(hs:s<b)(hc:c'<=1)(he:s+b*c'=(b - 1 - nth zs k)+c)(hz:nth zs k<b):Lacking b zs (us++[s]) (k+1) c':=by
 obtain⟨h1,h2,h3,h4⟩:=h;refine⟨by simp[h1],h2.snoc hs,hc, ?_⟩;rw[b_g,a_c,h1];have e:s+b*c'+nth zs k+1=b+c:=by omega
 have e2:b^k*(s+b*c'+nth zs k+1)=b^k*(b+c):=by rw[e]
 simp only[Nat.mul_add,Nat.mul_one]at e2;rw[Nat.pow_succ];have e3:b^k*(b*c')=b^k*b*c':=(Nat.mul_assoc _ _ _).symm;rw[e3]at e2;omega
def DsRel (w:World)(g p:Nat)(zs:List Nat)(k:Nat)(s:Value)(wr:World):Prop:=
 ∃(c:Nat) (us:List Nat),Lacking 18446744073709551616 zs us k c/\s= .int .u64 c/\Ar wr g p 85 (us++zs.drop k)/\Tch (Seg g p zs.length) w wr/\wr.heap.size=w.heap.size
theorem DsRel.next {w wr:World}{g p k c:Nat}{zs us:List Nat}{s:Value}(lz:Low 18446744073709551616 zs)(ha:Lacking 18446744073709551616 zs us k c)(hk:k<zs.length)
  (har:Ar wr g p 85 (us++zs.drop k)) (ht:Tch (Seg g p zs.length) w wr) (hz:wr.heap.size=w.heap.size) {d c':Nat} (hd:d<18446744073709551616) (hc:c'<=1) (he:d+18446744073709551616*c'=(18446744073709551615 - nth zs k)+c)
  (hs:s= .int .u64 (c':Int)):
  DsRel w g p zs (k+1) s (wr.setCell ⟨g,p+k,none⟩ (.int .u64 (d:Int))):=by
 obtain⟨h1,h2⟩:=har.store (S:=Seg g p zs.length) (j:=k) (n:=d) (by rw[a_g ha.1 (by omega)];exact hk) hd ⟨rfl,Nat.le_add_right _ _,Nat.add_lt_add_left hk _⟩;rw[a_9 ha.1 hk]at h2;exact⟨_,_,ha.step hd hc he (lz.any (by omega) k),hs,h2,ht.trans h1,by simpa using hz⟩
def DsPost (w:World)(g p m x y:Nat)(e:Ending)(w':World):Prop:=
 ∃us:List Nat,e= .returned (.bool (decide (x<y)))/\us.length=m/\Hid (ev 18446744073709551616 us=(x - y)+(y - x))/\Ar w' g p 85 us/\Tch (Seg g p m) w w'/\w'.heap.size=w.heap.size
theorem r_1 {b:Nat}{xs ys zs us:List Nat}{c m:Nat}(hx:xs.length=m)(hy:ys.length<=m)(lx:Low b xs)(ly:Low b ys)(hb:2<=b)(hz:zs.length=m)(lz:Low b zs)(h:ev b zs+ev b ys=ev b xs+b^m*1)
  (hl:Lacking b zs us m c):ev b xs<ev b ys/\ev b us=(ev b xs - ev b ys)+(ev b ys - ev b xs):=by
 obtain⟨h1,h2,h3,h4⟩:=hl;have k1:=b_y lz;have k2:=b_y ly;have k3:b^ys.length<=b^m:=Nat.pow_le_pow_right (by omega) hy;rw[b_a b (by omega)]at h4;rw[hz]at k1;rcases Nat.eq_zero_or_pos c with rfl|hc
 ·omega
 ·obtain rfl:c=1:=by omega
  omega
theorem s_o {b:Nat}{xs ys zs:List Nat}{m:Nat}(h:ev b zs+ev b ys=ev b xs+b^m*0):¬ev b xs<ev b ys/\ev b zs=(ev b xs - ev b ys)+(ev b ys - ev b xs):=by omega
theorem c_r (g p cap m c n d:Nat)(A B:Option Addr)(zs xs ys:List Nat)(w:World)(har:Ar w g p 85 zs)(hzl:zs.length=m)(hx:Rd w .u64 A xs)(hxn:xs.length=m)(hy:Rd w .u64 B ys)(hyn:ys.length=n)
  (lx:Low 18446744073709551616 xs) (ly:Low 18446744073709551616 ys) (hnm:n<=m) (hcap:m<=cap) (hm:cap<=9223372036854775807) (hoff:Off (Seg g p m) B n):
  Calls Tryz.prog 200 #[.slice (some ⟨g,p,none⟩) m cap,.slice A m c,.slice B n d] w (DsPost w g p m (ev 18446744073709551616 xs) (ev 18446744073709551616 ys)):=by
 have HZ:=Lib.hid hzl;have HX:=Lib.hid hxn;have HY:=Lib.hid hyn;have hS:∀j,j<m->Seg g p m ⟨g,p+j,none⟩:=fun j hj=>⟨rfl,Nat.le_add_right _ _,Nat.add_lt_add_left (by omega) _⟩;have HS:=Lib.hid hS;have he:xs++zs.drop m=xs:=by rw[List.drop_of_length_le (by omega),List.append_nil]
 have HE:=Lib.hid he;clear hzl hxn hyn hS he;go_enter Tryz.func200,Tryz.ntmps200
 go_wp2_with (refine a_r rfl (.tmp 10) (.tmp 11) _ _ rfl 85 Tryz.underlying29 (by kernel_rfl) A m cap m c g p 85 zs xs rfl rfl HZ.out HX.out (Nat.le_refl _) har hx lx (Seg g p m) HS.out ?_)
 intro w1 h1 t1 z1;rw[HE.out]at h1;have Z1:=Lib.hid z1;clear z1 HE
 go_wp2_with fail
 refine(c_1 g p cap n d B xs ys m w1 h1 HX.out (hy.tch t1 (by rw[HY.out];exact hoff)) HY.out hoff ly hnm (by omega)).mono ?_;rintro e w2 ⟨b,us,rfl,hb,hul,hv,h2,t2,z2⟩;have lu:=h2.low;rcases Nat.eq_zero_or_pos b with h0|h0
 ·subst h0;have hn:=s_o (xs:=xs) (m:=m) (by have:=hv.out;rw[HX.out]at this;exact this);have P:Hid (DsPost w g p m (ev 18446744073709551616 xs) (ev 18446744073709551616 ys) (.returned (.bool false)) w2):=
   ⟨us,by rw[decide_eq_false hn.1],by rw[hul,HX.out],hn.2,h2,t1.trans (by rw[HX.out]at t2;exact t2),by rw[z2,Z1.out]⟩
  clear hn hul z2 h1 t1 t2
  go_wp2
  go_ret
  exact P.out
 ·obtain rfl:b=1:=by omega
  have hum:us.length=m:=by rw[hul,HX.out]
  rw[HX.out]at t2;rw[HX.out]at hv;have HU:=Lib.hid hum;have Z2:=Lib.hid z2;clear hul hum z2
  go_wp2
  go_loopw [7,19] (fun s i wr=>∃k:Nat,k<=m/\i= .int .i64 k/\DsRel w2 g p us k s wr) (fun _ i _=>m - (intOf i).toNat)
  case atStart=>exact⟨0,Nat.zero_le _,rfl,1,[],Lacking.start _ _,rfl,by simpa using h2,Tch.refl _ _,rfl⟩
  case round=>
   obtain⟨k,hk,rfl,cr,vs,ha,rfl,ha2,ht,hz⟩:=hrel;by_cases hlt:k<m
   ·have cs:=ha2.cell (j:=k) (by rw[a_g ha.1 (by rw[HU.out];omega),HU.out];omega);rw[a_u ha.1]at cs;have cf:=ha2.free (p+k);have hx0:=lu.any (by omega) k;obtain⟨s1,o1,f1,f2,f3,f4⟩:=m_r (nth us k) cr hx0 ha.2.2.1;have HA:=Lib.hid ha;have HZ':=Lib.hid hz;have F2:=Lib.hid f2;clear ha hz f2
    go_wp2_with fail
    go_roundw
    case rel=>exact⟨k+1,by omega,by go_num,DsRel.next lu HA.out (by rw[HU.out];exact hlt) ha2 ht HZ'.out f3 f4 F2.out rfl⟩
    case measure=>simp[intOf];omega
   ·obtain rfl:k=m:=by omega
    obtain⟨e1,e2⟩:=r_1 (xs:=xs) (ys:=ys) HX.out (by rw[HY.out];exact hnm) lx ly (by omega) HU.out lu hv.out ha;have e3:vs++us.drop k=vs:=by rw[List.drop_of_length_le (by rw[HU.out];exact Nat.le_refl _),List.append_nil]
    rw[e3]at ha2;rw[HU.out]at ht;have P:Hid (DsPost w g p k (ev 18446744073709551616 xs) (ev 18446744073709551616 ys) (.returned (.bool true)) wr):=
     ⟨vs,by rw[decide_eq_true e1],ha.1,e2,ha2,(t1.trans t2).trans ht,by rw[hz,Z2.out,Z1.out]⟩
    clear e1 e2 e3 ha ha2 ht hz hlt
    go_wp2
    go_ret
    exact P.out
end Go.Proofs.YtfhbdlegkdbmfaaGreat
namespace Go.Proofs.YtfhbdlegkdbmfaaGreat
open Go.RowKit
def KarS (g p m h r kr:Nat)(a:Addr):Prop:=Seg g p m a\/Seg h r kr a
structure KarIn (w:World) (n g p h r kr:Nat) (A B:Option Addr) (zs rs xs ys:List Nat):Prop where
 pz:Ar w g p 85 zs
 pl:zs.length=2*n
 rz:Ar w h r 85 rs
 rl:rs.length=kr
 rk:3*n<=kr
 apart:g≠h\/p+2*n<=r\/r+kr<=p
 xa:Rd w .u64 A xs
 xl:xs.length=n
 yb:Rd w .u64 B ys
 yl:ys.length=n
 lx:Low 18446744073709551616 xs
 ly:Low 18446744073709551616 ys
 oxp:Off (Seg g p (2*n)) A n
 oxr:Off (Seg h r kr) A n
 oyp:Off (Seg g p (2*n)) B n
 oyr:Off (Seg h r kr) B n
def KarPost (w:World)(n g p h r kr v:Nat)(e:Ending)(w':World):Prop:=
 e= .returned (.tuple #[])/\∃us:List Nat,Hid (us.length=2*n)/\Hid (ev 18446744073709551616 us=v)/\Ar w' g p 85 us/\Tch (KarS g p (2*n) h r kr) w w'
def KarOk (n:Nat):Prop:=∀(g p h r kr cp cr ca cb N:Nat) (A B:Option Addr) (zs rs xs ys:List Nat) (w:World),KarIn w n g p h r kr A B zs rs xs ys->Hid (2*n=N)->
 N<=cp->cp<=9223372036854775807->kr<=cr->cr<=9223372036854775807->n<=ca->ca<=9223372036854775807->n<=cb->cb<=9223372036854775807->n<=1099511627776->
 Calls Tryz.prog 180 #[.slice (some ⟨g,p,none⟩) N cp,.slice A n ca,.slice B n cb,.slice (some ⟨h,r,none⟩) kr cr] w (KarPost w n g p h r kr (ev 18446744073709551616 xs*ev 18446744073709551616 ys))
theorem KarIn.lt {w:World}{n g p h r kr:Nat}{A B:Option Addr}{zs rs xs ys:List Nat}(k:KarIn w n g p h r kr A B zs rs xs ys):ev 18446744073709551616 xs*ev 18446744073709551616 ys<18446744073709551616^(2*n):=by
 have h1:=b_y k.lx;have h2:=b_y k.ly;rw[k.xl]at h1;rw[k.yl]at h2;rw[Nat.two_mul,Nat.pow_add];exact Nat.mul_lt_mul'' h1 h2
theorem k_0 {n:Nat}(hn:n<40):KarOk n:=by
 intro g p h r kr cp cr ca cb N A B zs rs xs ys w k hN h1 h2 h3 h4 h5 h6 h7 h8 h9;have hv:=k.lt;have HV:=Lib.hid hv;clear hv;have K:=Lib.hid k;clear k;have hle:∀v:Nat,v<18446744073709551616^(2*n)->(cn 18446744073709551616 v).length<=2*n:=fun v hv=>a_h _ _ _ (by omega) hv;have HLE:=Lib.hid hle;clear hle;have HD:=hN;go_enter Tryz.func180,Tryz.ntmps180
 go_wp2_with fail
 refine(g_k A B n n ca cb xs ys _ K.out.xa K.out.yb K.out.xl K.out.yl h5 h6 h7 h8 K.out.lx K.out.ly h9 h9).mono ?_;rintro e w1 ⟨A1,c1,rfl,hg⟩;have hr:=hg.rd;have hb:=hg.2
 go_wp2_with fail
 refine(e_9 g p cp _ c1 A1 zs (cn 18446744073709551616 (ev 18446744073709551616 xs*ev 18446744073709551616 ys)) N _ (K.out.pz.below hb) (by rw[K.out.pl,HD.out]) hr rfl (c_s _ _ (by omega)) (by rw[<-HD.out];exact HLE.out _ HV.out) h1 h2).mono ?_;rintro e w2 ⟨rfl,har,ht,hz⟩
 go_wp2
 go_end0
 have hl:(cn 18446744073709551616 (ev 18446744073709551616 xs*ev 18446744073709551616 ys)).length<=N:=by rw[<-HD.out];exact HLE.out _ HV.out
 refine⟨rfl,_,by show _=_;rw[HD.out];simp;omega, ?_,har,((Tch.of_below _ hb).trans ht).mono fun a _ ha=>?_⟩
 ·show ev _ _=_
  rw[a_o,a_3,e_o _ _ (by omega)];omega
 ·rw[HD.out];exact .inl ha
theorem KarIn.below {w w':World}{n g p h r kr:Nat}{A B:Option Addr}{zs rs xs ys:List Nat}(k:KarIn w n g p h r kr A B zs rs xs ys)(hb:Below w.heap.size w w'):KarIn w' n g p h r kr A B zs rs xs ys:=
 { k with pz:=k.pz.below hb,rz:=k.rz.below hb,xa:=k.xa.below hb,yb:=k.yb.below hb }
theorem b_v (w:World)(q:Nat):Below w.heap.size w (w.drewN q):=⟨rfl,rfl,rfl,Nat.le_refl _,fun _ _=>rfl⟩
theorem a_a (w:World):Below w.heap.size w w.drew:=⟨rfl,rfl,rfl,Nat.le_refl _,fun _ _=>rfl⟩
section
variable {w w':World}{n half D N g p h r kr:Nat}{A B:Addr}{zs rs xs ys us vs:List Nat}
theorem KarIn.rest (K:KarIn w n g p h r kr (some A) (some B) zs rs xs ys)(hN:2*n=N)(T:Tch (KarS g p N h r kr) w w'):
  ∃zs' rs',zs'.length=N/\rs'.length=kr/\Ar w' g p 85 zs'/\Ar w' h r 85 rs'/\Rd w' .u64 (some A) xs/\Rd w' .u64 (some B) ys:=by
 subst hN;obtain⟨zs',z1,z2⟩:=K.pz.any T;obtain⟨rs',r1,r2⟩:=K.rz.any T;exact⟨zs',rs',by rw[z1,K.pl],by rw[r1,K.rl],z2,r2,K.xa.tch T (by rw[K.xl];exact K.oxp.or K.oxr),K.yb.tch T (by rw[K.yl];exact K.oyp.or K.oyr)⟩
theorem KarIn.cross (K:KarIn w n g p h r kr (some A) (some B) zs rs xs ys)(hN:2*n=N)(hD:D=2*half)(hn:40<=n)(M:half+half<=n+1)(T:Tch (KarS g p N h r kr) w w')(ua:Ar w' g p 85 us)(ul:us.length=half)
  (va:Ar w' g (p+half) 85 vs) (vl:vs.length=half):∃zs' rs',KarIn w' half h r h (r+D) (kr - D) (some ⟨g,p,none⟩) (some ⟨g,p+half,none⟩) zs' rs' us vs:=by
 obtain⟨zs',rs',z1,r1,z2,r2,_,_⟩:=K.rest hN T;have a:=K.apart;have b:=K.rk;exact⟨rs'.take D,rs'.drop D,r2.take D (by omega),by simp;omega,r2.drop D (by omega),by simp;omega,by omega,by omega,ua.rd,ul,va.rd,vl,ua.low,va.low,
  Off.seg_lit (by omega),Off.seg_lit (by omega),Off.seg_lit (by omega),Off.seg_lit (by omega)⟩
theorem KarIn.low (K:KarIn w n g p h r kr (some A) (some B) zs rs xs ys)(hN:2*n=N)(hD:D=2*half)(hn:40<=n)(M:half+half<=n+1)(T:Tch (KarS g p N h r kr) w w'):
  ∃zs' rs',KarIn w' half g p h (r+D) (kr - D) (some A) (some B) zs' rs' (xs.take half) (ys.take half):=by
 obtain⟨zs',rs',z1,r1,z2,r2,x2,y2⟩:=K.rest hN T;have a:=K.apart;have b:=K.rk;have c:=K.xl;have d:=K.yl;exact⟨zs'.take D,rs'.drop D,z2.take D (by omega),by simp;omega,r2.drop D (by omega),by simp;omega,by omega,by omega,x2.take _,by simp;omega,y2.take _,by simp;omega,K.lx.take _,K.ly.take _,
  (K.oxp.take (by omega)).mono fun a ha=>by unfold Seg at*;omega,(K.oxr.take (by omega)).mono fun a ha=>by unfold Seg at*;omega,(K.oyp.take (by omega)).mono fun a ha=>by unfold Seg at*;omega,(K.oyr.take (by omega)).mono fun a ha=>by unfold Seg at*;omega⟩
theorem KarIn.high (K:KarIn w n g p h r kr (some A) (some B) zs rs xs ys)(hN:2*n=N)(hD:D=2*half)(hn:40<=n)(M:half+half<=n+1)(T:Tch (KarS g p N h r kr) w w'):
  ∃zs' rs',KarIn w' (n - half) g (p+D) h (r+D) (kr - D) (some (A.add half)) (some (B.add half)) zs' rs' (xs.drop half) (ys.drop half):=by
 obtain⟨zs',rs',z1,r1,z2,r2,x2,y2⟩:=K.rest hN T;have a:=K.apart;have b:=K.rk;have c:=K.xl;have d:=K.yl;exact⟨zs'.drop D,rs'.drop D,z2.drop D (by omega),by simp;omega,r2.drop D (by omega),by simp;omega,by omega,by omega,x2.drop _,by simp;omega,y2.drop _,by simp;omega,K.lx.drop _,K.ly.drop _,
  (K.oxp.drop (k:=half) (by omega)).mono fun a ha=>by unfold Seg at*;omega,(K.oxr.drop (k:=half) (by omega)).mono fun a ha=>by unfold Seg at*;omega,(K.oyp.drop (k:=half) (by omega)).mono fun a ha=>by unfold Seg at*;omega,(K.oyr.drop (k:=half) (by omega)).mono fun a ha=>by unfold Seg at*;omega⟩
end
theorem p_z (x0 x1 y0 y1:Nat){b1 b2:Bool}(h1:decide (x0<x1)=b1)(h2:decide (y0<y1)=b2):
  if(b1^^b2)=true then x0*y0+x1*y1+((x0 - x1)+(x1 - x0))*((y0 - y1)+(y1 - y0))=x0*y1+x1*y0
  else x0*y0+x1*y1=x0*y1+x1*y0+((x0 - x1)+(x1 - x0))*((y0 - y1)+(y1 - y0)):=by
 subst h1 h2;rcases Nat.lt_or_ge x0 x1 with hx|hx
 ·obtain⟨d,rfl⟩:∃d,x1=x0+d:=⟨x1 - x0,by omega⟩;have e1:(x0 - (x0+d))+(x0+d - x0)=d:=by omega
  rw[e1,decide_eq_true hx];rcases Nat.lt_or_ge y0 y1 with hy|hy
  ·obtain⟨f,rfl⟩:∃f,y1=y0+f:=⟨y1 - y0,by omega⟩;have e2:(y0 - (y0+f))+(y0+f - y0)=f:=by omega
   rw[e2,decide_eq_true hy];simp;grind
  ·obtain⟨f,rfl⟩:∃f,y0=y1+f:=⟨y0 - y1,by omega⟩;have e2:(y1+f - y1)+(y1 - (y1+f))=f:=by omega
   rw[e2,decide_eq_false (by omega)];simp;grind
 ·obtain⟨d,rfl⟩:∃d,x0=x1+d:=⟨x0 - x1,by omega⟩;have e1:(x1+d - x1)+(x1 - (x1+d))=d:=by omega
  rw[e1,decide_eq_false (by omega)];rcases Nat.lt_or_ge y0 y1 with hy|hy
  ·obtain⟨f,rfl⟩:∃f,y1=y0+f:=⟨y1 - y0,by omega⟩;have e2:(y0 - (y0+f))+(y0+f - y0)=f:=by omega
   rw[e2,decide_eq_true hy];simp;grind
  ·obtain⟨f,rfl⟩:∃f,y0=y1+f:=⟨y0 - y1,by omega⟩;have e2:(y1+f - y1)+(y1 - (y1+f))=f:=by omega
   rw[e2,decide_eq_false (by omega)];simp;grind
def KarMid (w1:World)(g p N h r kr D m:Nat)(ls hs:List Nat)(v:Value)(wx:World):Prop:=
 ∃ms:List Nat,Hid (ms.length=D+1)/\Hid (ev 18446744073709551616 ms=m)/\Ar wx h (r+D) 85 ms/\Ar wx g p 85 ls/\Ar wx g (p+D) 85 hs/\Tch (KarS g p N h r kr) w1 wx
theorem k_1 {b half n D:Nat}{xs ys:List Nat}(hb:2<=b)(hx:xs.length=n)(hy:ys.length=n)(lx:Low b xs)(ly:Low b ys)(h1:n<=half+half)(h2:half<=n)(hD:D=2*half):
  ev b (xs.take half)*ev b (ys.take half)+ev b (xs.drop half)*ev b (ys.drop half)<b^(D+1)/\
  ev b (xs.take half)*ev b (ys.drop half)+ev b (xs.drop half)*ev b (ys.take half)<b^(D+1)/\
  ev b xs*ev b ys=(ev b (xs.take half)*ev b (ys.take half)+b^D*(ev b (xs.drop half)*ev b (ys.drop half)))+b^half*(ev b (xs.take half)*ev b (ys.drop half)+ev b (xs.drop half)*ev b (ys.take half)):=by
 have p:∀ {zs:List Nat},zs.length=n->Low b zs->ev b (zs.take half)<b^half/\ev b (zs.drop half)<b^half/\ev b zs=ev b (zs.take half)+b^half*ev b (zs.drop half):=by
  intro zs hz lz;have a1:=b_y (lz.take half);have a2:=b_y (lz.drop half);have a3:b^(zs.take half).length<=b^half:=Nat.pow_le_pow_right (by omega) (by simp;omega);have a4:b^(zs.drop half).length<=b^half:=Nat.pow_le_pow_right (by omega) (by simp;omega);have a5:=a_7 b zs half (by omega);exact⟨by omega,by omega,a5⟩
 obtain⟨x1,x2,x3⟩:=p hx lx;obtain⟨y1,y2,y3⟩:=p hy ly;have e1:b^D=b^half*b^half:=by rw[hD,Nat.two_mul,Nat.pow_add]
 have e2:b^(D+1)=b^half*b^half*b:=by rw[Nat.pow_succ,e1]
 have q:∀ {u v:Nat},u<b^half->v<b^half->u*v<b^half*b^half:=fun hu hv=>Nat.mul_lt_mul'' hu hv;have q1:=q x1 y1;have q2:=q x2 y2;have q3:=q x1 y2;have q4:=q x2 y1;have e3:b^half*b^half*2<=b^half*b^half*b:=Nat.mul_le_mul_left _ hb;refine⟨by omega,by omega, ?_⟩;rw[x3,y3,e1];grind
theorem p_y {b half D N v:Nat}{ls hs ms:List Nat}(hl:ls.length=D)(hh:half<=D)(hN:half<=N)(h0:ev b ls+b^D*ev b hs+b^half*ev b ms=v)(hv:v<b^N)(hb:0<b):
  ev b (ls.drop half++hs)+ev b ms<b^(N - half)/\∀fs:List Nat,ev b fs=ev b (ls.drop half++hs)+ev b ms->ev b (ls.take half++fs)=v:=by
 have e1:=a_7 b ls half (by omega);have e2:ev b (ls.drop half++hs)=ev b (ls.drop half)+b^(D - half)*ev b hs:=by rw[a_o];simp[hl]
 have e3:b^D=b^half*b^(D - half):=by rw[<-Nat.pow_add];congr 1;omega
 have e4:b^N=b^half*b^(N - half):=by rw[<-Nat.pow_add];congr 1;omega
 have e5:v=ev b (ls.take half)+b^half*(ev b (ls.drop half++hs)+ev b ms):=by
  rw[<-h0,e1,e2,e3];show pre b ls half+_+_+_=pre b ls half+_
  grind
 constructor
 ·rw[e4]at hv;refine Nat.lt_of_mul_lt_mul_left (a:=b^half) ?_;omega
 ·intro fs hf;rw[a_o,hf,e5];have:(ls.take half).length=half:=by simp;omega
  rw[this]
theorem m_1 {n:Nat}(hn:40<=n)(ih:∀m,m<n->KarOk m)(b1 b2:Bool)(g p h r kr cp cr ca cb N:Nat)(A B:Addr)(zs rs xs ys:List Nat)(w:World)(K:KarIn w n g p h r kr (some A) (some B) zs rs xs ys)
  (HN:Hid (2*n=N)) (h1:N<=cp) (h2:cp<=9223372036854775807) (h3:kr<=cr) (h4:cr<=9223372036854775807) (h5:n<=ca) (h6:ca<=9223372036854775807) (h7:n<=cb) (h8:cb<=9223372036854775807) (h9:n<=1099511627776)
  (hb1:decide (ev 18446744073709551616 (xs.take ((n+1) / 2))<ev 18446744073709551616 (xs.drop ((n+1) / 2)))=b1) (hb2:decide (ev 18446744073709551616 (ys.take ((n+1) / 2))<ev 18446744073709551616 (ys.drop ((n+1) / 2)))=b2):
  Calls Tryz.prog 180 #[.slice (some ⟨g,p,none⟩) N cp,.slice (some A) n ca,.slice (some B) n cb,.slice (some ⟨h,r,none⟩) kr cr] w (KarPost w n g p h r kr (ev 18446744073709551616 xs*ev 18446744073709551616 ys)):=by
 generalize hE:(n+1) / 2=half at hb1 hb2;have hh:((n:Int)+1) / 2=(half:Int):=by omega
 have hh1:half+half<=n+1:=by omega
 have hh2:n<=half+half:=by omega
 obtain⟨D,hD⟩:∃D:Nat,D=2*half:=⟨_,rfl⟩;have hd:(2:Int)*(half:Int)=(D:Int):=by omega
 have hrk:=K.rk;have hN:=HN.out;have k1:half<=N:=by omega
 have k2:D<=N:=by omega
 have k3:D<kr:=by omega
 have k4:D<cr:=by omega
 have k5:half<=n:=by omega
 have k6:half<=ca:=by omega
 have k7:half<=cb:=by omega
 have k8:half<=D:=by omega
 have k9:D<=cp:=by omega
 have k10:half<=cp:=by omega
 have m1:¬ca=half:=by omega
 have m2:¬cb=half:=by omega
 have m3:¬cp=half:=by omega
 have m4:¬cp=D:=by omega
 have m5:¬cr=D:=by omega
 have hw:IntKind.i64.wrap (D:Int)=(D:Int):=IntWalk.i64_in _ (by omega);have HW:=Lib.hid hw;clear hw;have HD:=Lib.hid hD;have HM:=Lib.hid hh1;have HM2:=Lib.hid hh2;have MS:=Lib.hid (And.intro m1 (And.intro m2 (And.intro m3 (And.intro m4 m5))));obtain⟨bx,hbx⟩:∃bx,bx=(b1^^b2):=⟨_,rfl⟩;have HBX:=Lib.hid hbx;have HB1:=Lib.hid hb1;have HB2:=Lib.hid hb2;clear hN hD hE hb1 hb2 hbx;go_enter Tryz.func180,Tryz.ntmps180
 go_wp2_with fail
 rw[hh];have HH:=Lib.hid hh;clear hh;go_quiet (fail)
 go_wp2_with fail
 have B0:=b_v w nq;generalize w.drewN nq=w0 at B0 ⊢;go_still_tail 9,(by kernel_rfl)
 change wpList _ _ _ _ _ w0.drew;replace B0:=B0.trans ((a_a w0).mono B0.size);generalize w0.drew=w1 at B0 ⊢;have K1:=Lib.hid (K.below B0)
 go_wp2_with fail
 clear m1 m2 m3 m4 m5;refine(c_r g p cp half ca (n - half) (ca - half) (some A) (some (A.add half)) (zs.take half) (xs.take half) (xs.drop half) _ (K1.out.pz.take half (by have:=K1.out.pl;omega)) (by have:=K1.out.pl;simp;omega)
  (K1.out.xa.take half) (by have:=K1.out.xl;simp;omega) (K1.out.xa.drop half) (by have:=K1.out.xl;simp;omega) (K1.out.lx.take _) (K1.out.lx.drop _) (by omega) k10 (by omega)
  ((K1.out.oxp.drop (by omega)).mono fun a ha=>⟨ha.1,ha.2.1,by have:=ha.2.2;omega⟩)).mono ?_
 rintro e w2 ⟨us,rfl,ul,uv,ua,ut,uz⟩;rw[HB1.out];have UL:=Lib.hid ul;have UZ:=Lib.hid uz;clear ul uz
 go_wp2_with fail
 obtain⟨m1,m2,m3,m4,m5⟩:=MS.out;have hw:=HW.out;have hdh:D - half=half:=by have:=HD.out;omega
 go_still_tail 11,(by kernel_rfl)
 clear hw hdh m1 m2 m3 m4 m5;change wpList _ _ _ _ _ w2.drew;have B2:=a_a w2;generalize w2.drew=w3 at B2 ⊢;have T3:Tch (KarS g p N h r kr) w1 w3:=(ut.trans (Tch.of_below _ B2)).mono fun a _ ha=>.inl ⟨ha.1,ha.2.1,by have:=ha.2.2;omega⟩;have ua3:=ua.below B2;have pv:Ar w3 g (p+half) 85 ((zs.drop half).take half):=(K1.out.pz.sub half half (by have:=K1.out.pl;omega)).tch (ut.trans (Tch.of_below _ B2)) fun j hj hs=>by have:=hs.2.2;simp only at this;omega
 have ob:Off (KarS g p N h r kr) (some B) n:=by rw[<-HN.out];exact K1.out.oyp.or K1.out.oyr
 have ob1:Off (KarS g p N h r kr) (some B) (ys.take half).length:=ob.take (by have:=K1.out.yl;simp;omega);have ob2:Off (KarS g p N h r kr) (some (B.add half)) (ys.drop half).length:=ob.drop (k:=half) (by have:=K1.out.yl;simp;omega)
 go_wp2_with fail
 refine(c_r g (p+half) (cp - half) half cb (n - half) (cb - half) (some B) (some (B.add half)) ((zs.drop half).take half) (ys.take half) (ys.drop half) _ pv (by have:=K1.out.pl;simp;omega)
  ((K1.out.yb.take half).tch T3 ob1) (by have:=K1.out.yl;simp;omega) ((K1.out.yb.drop half).tch T3 ob2) (by have:=K1.out.yl;simp;omega) (K1.out.ly.take _) (K1.out.ly.drop _) (by omega) (by omega) (by omega)
  ((K1.out.oyp.drop (by omega)).mono fun a ha=>⟨ha.1,by have:=ha.2.1;omega,by have:=ha.2.2;omega⟩)).mono ?_
 rintro e w4 ⟨vs,rfl,vl,vv,va,vt,vz⟩;rw[HB2.out];have VL:=Lib.hid vl;have VZ:=Lib.hid vz;clear vl vz;go_upto_if 55 with fail
 go_cut [10] (fun v wx=>v= .bool bx/\wx=w4)
 case first=>
  cases b2
  ·have e:bx=b1:=by rw[HBX.out];simp
   subst e
   go_wp2
   go_meet
   exact⟨rfl,rfl⟩
  ·have e:bx= !b1:=by rw[HBX.out];simp
   have E:=Lib.hid e;clear e
   go_wp2
   go_meet
   exact⟨by rw[E.out],rfl⟩
 case rest=>
  obtain⟨rfl,rfl⟩:=hcut;have T4:Tch (KarS g p N h r kr) w1 wc:=T3.trans (vt.mono fun a _ ha=>by unfold KarS Seg at*;omega);have ua4:Ar wc g p 85 us:=ua3.tch vt fun j hj hs=>by have h1:=UL.out;have:=hs.2.1;simp only at this;omega
  clear ua3 pv ob ob1 ob2 T3 ua ut vt B2
  go_wp2_with fail
  obtain⟨m1,m2,m3,m4,m5⟩:=MS.out;have hw:=HW.out;have hdh:D - half=half:=by have:=HD.out;omega
  go_still_tail 10,(by kernel_rfl)
  clear hw hdh m1 m2 m3 m4 m5;change wpList _ _ _ _ _ wc.drew;have B5:=a_a wc;generalize wc.drew=w5 at B5 ⊢;have T5:=T4.trans (Tch.of_below (KarS g p N h r kr) B5);obtain⟨z1,r1,k1⟩:=K1.out.cross HN.out HD.out hn HM.out T5 (ua4.below B5) UL.out (va.below B5) VL.out;clear ua4 va B5 T4
  go_wp2_with fail
  refine(ih half (by omega) h r h (r+D) (kr - D) cr (cr - D) cp (cp - half) D _ _ z1 r1 us vs _ k1 HD.out.symm (by omega) (by omega) (by omega) (by omega) (by omega) (by omega) (by omega) (by omega) (by omega)).mono ?_;rintro e w6 ⟨rfl,cs,cl,cv,ca6,ct⟩;clear k1 z1 r1;have T6:=T5.trans (ct.mono fun a _ ha=>by unfold KarS Seg at*;omega);clear ct T5
  go_wp2_with fail
  obtain⟨m1,m2,m3,m4,m5⟩:=MS.out;have hw:=HW.out;go_quiet (fail)
  clear hw m1 m2 m3 m4 m5;have B6:=b_v w6 nq;generalize w6.drewN nq=w7 at B6 ⊢
  go_wp2_with fail
  obtain⟨m1,m2,m3,m4,m5⟩:=MS.out;go_still_tail 8,(by kernel_rfl)
  clear m1 m2 m3 m4 m5;change wpList _ _ _ _ _ w7.drew;replace B6:=B6.trans ((a_a w7).mono B6.size);generalize w7.drew=w8 at B6 ⊢;have ca8:=ca6.below B6;have T8:=T6.trans (Tch.of_below (KarS g p N h r kr) B6);clear ca6 T6 B6;obtain⟨z1,r1,k1⟩:=K1.out.low HN.out HD.out hn HM.out T8
  go_wp2_with fail
  refine(ih half (by omega) g p h (r+D) (kr - D) cp (cr - D) ca cb D _ _ z1 r1 (xs.take half) (ys.take half) _ k1 HD.out.symm (by omega) (by omega) (by omega) (by omega) (by omega) (by omega) (by omega) (by omega) (by omega)).mono ?_;rintro e w9 ⟨rfl,ls,ll,lv,la9,lt⟩;clear k1 z1 r1;have T9:=T8.trans (lt.mono fun a _ ha=>by have:=HD.out;have:=HN.out;unfold KarS Seg at*;omega);have ca9:Ar w9 h r 85 cs:=ca8.tch lt fun j hj hs=>by have e1:=cl.out;have e2:=HD.out;have e3:=HN.out;have e4:=K1.out.apart;unfold KarS Seg at hs;simp only at hs;omega
  clear lt T8 ca8
  go_wp2_with fail
  obtain⟨m1,m2,m3,m4,m5⟩:=MS.out;go_still_tail 8,(by kernel_rfl)
  clear m1 m2 m3 m4 m5;change wpList _ _ _ _ _ w9.drew;have B9:=a_a w9;generalize w9.drew=w10 at B9 ⊢;have ca10:=ca9.below B9;have la10:=la9.below B9;have T10:=T9.trans (Tch.of_below (KarS g p N h r kr) B9);clear ca9 la9 T9 B9;obtain⟨z1,r1,k1⟩:=K1.out.high HN.out HD.out hn HM.out T10
  go_wp2_with fail
  refine(ih (n - half) (by omega) g (p+D) h (r+D) (kr - D) (cp - D) (cr - D) (ca - half) (cb - half) (N - D) _ _ z1 r1 (xs.drop half) (ys.drop half) _ k1 (by show _=_;have:=HD.out;have:=HN.out;omega) (by omega) (by omega) (by omega) (by omega) (by omega) (by omega) (by omega) (by omega) (by omega)).mono ?_;rintro e w11 ⟨rfl,hs,hl,hv,ha11,ht⟩;clear k1 z1 r1;have T11:=T10.trans (ht.mono fun a _ ha=>by have:=HD.out;have:=HN.out;unfold KarS Seg at*;omega);have ca11:Ar w11 h r 85 cs:=ca10.tch ht fun j hj hs=>by have e1:=cl.out;have e2:=HD.out;have e3:=HN.out;have e4:=K1.out.apart;unfold KarS Seg at hs;simp only at hs;omega
  have la11:Ar w11 g p 85 ls:=la10.tch ht fun j hj hs=>by have e1:=ll.out;have e2:=HD.out;have e3:=HN.out;have e4:=K1.out.apart;unfold KarS Seg at hs;simp only at hs;omega
  clear ht T10 ca10 la10;have Q:=Lib.hid (k_1 (by omega) K1.out.xl K1.out.yl K1.out.lx K1.out.ly HM2.out k5 HD.out);obtain⟨z1,r1,-,rl1,-,ra1,-,-⟩:=K1.out.rest HN.out T11;have RL:=Lib.hid rl1;clear rl1
  go_wp2_with fail
  refine(e_9 h (r+D) (cr - D) D cp (some ⟨g,p,none⟩) ((r1.drop D).take (D+1)) ls (D+1) _ (ra1.sub D (D+1) (by have:=RL.out;omega)) (by have:=RL.out;simp;omega) la11.rd (by have:=ll.out;have:=HD.out;omega) la11.low (by omega) (by omega) (by omega)).mono ?_;rintro e w12 ⟨rfl,fa,ft,fz⟩;clear fz ra1;have T12:=T11.trans (ft.mono fun a _ ha=>by have:=RL.out;have:=K1.out.rk;have:=HD.out;have:=HN.out;unfold KarS Seg at*;omega);have ca12:Ar w12 h r 85 cs:=ca11.tch ft fun j hj hs=>by have e1:=cl.out;have e2:=HD.out;unfold Seg at hs;simp only at hs;omega
  have la12:Ar w12 g p 85 ls:=la11.tch ft fun j hj hs=>by have e1:=ll.out;have e2:=HD.out;have e3:=HN.out;have e4:=K1.out.apart;have e5:=K1.out.rk;unfold Seg at hs;simp only at hs;omega
  have ha12:Ar w12 g (p+D) 85 hs:=ha11.tch ft fun j hj hs=>by have e1:=hl.out;have e2:=HD.out;have e3:=HN.out;have e4:=K1.out.apart;have e5:=K1.out.rk;unfold Seg at hs;simp only at hs;omega
  clear ft T11 ca11 la11 ha11;have fl:Hid ((ls++List.replicate (D+1 - ls.length) 0).length=D+1):=by show _=_;have:=ll.out;have:=HD.out;simp;omega
  have fv:Hid (ev 18446744073709551616 (ls++List.replicate (D+1 - ls.length) 0)=ev 18446744073709551616 ls):=by show _=_;rw[a_o,a_3];omega
  generalize ls++List.replicate (D+1 - ls.length) 0=ms at fa fl fv
  go_wp2_with fail
  refine(c_b h (r+D) (cr - D) (N - D) (cp - D) (some ⟨g,p+D,none⟩) ms hs (D+1) _ fa fl.out ha12.rd (by have:=hl.out;have:=HD.out;have:=HN.out;omega) (Off.seg_lit (by have e2:=HD.out;have e3:=HN.out;have e4:=K1.out.apart;have e5:=K1.out.rk;omega)) ha12.low (by have:=HD.out;have:=HN.out;have:=HM2.out;omega) (by omega)
   (by rw[fv.out,lv.out,hv.out];exact Q.out.1)).mono ?_
  rintro e w13 ⟨ns,rfl,nl,nv,na,nt,nz⟩;rw[fl.out]at nl nt;rw[fv.out,lv.out,hv.out]at nv;have NL:=Lib.hid nl;have NV:=Lib.hid nv;clear nl nv nz fl fv fa ms;have T13:=T12.trans (nt.mono fun a _ ha=>by have:=RL.out;have:=K1.out.rk;have:=HD.out;have:=HN.out;unfold KarS Seg at*;omega);have ca13:Ar w13 h r 85 cs:=ca12.tch nt fun j hj hs=>by have e1:=cl.out;have e2:=HD.out;unfold Seg at hs;simp only at hs;omega
  have la13:Ar w13 g p 85 ls:=la12.tch nt fun j hj hs=>by have e1:=ll.out;have e2:=HD.out;have e3:=HN.out;have e4:=K1.out.apart;have e5:=K1.out.rk;unfold Seg at hs;simp only at hs;omega
  have ha13:Ar w13 g (p+D) 85 hs:=ha12.tch nt fun j hj hs=>by have e1:=hl.out;have e2:=HD.out;have e3:=HN.out;have e4:=K1.out.apart;have e5:=K1.out.rk;unfold Seg at hs;simp only at hs;omega
  clear nt T12 ca12 la12 ha12;have MM:=Lib.hid (p_z (ev 18446744073709551616 (xs.take half)) (ev 18446744073709551616 (xs.drop half)) (ev 18446744073709551616 (ys.take half)) (ev 18446744073709551616 (ys.drop half)) HB1.out HB2.out);obtain⟨m1,m2,m3,m4,m5⟩:=MS.out;go_upto_if 106 with fail
  clear m1 m2 m3 m4 m5;go_cut [10] (KarMid w1 g p N h r kr D (ev 18446744073709551616 (xs.take half)*ev 18446744073709551616 (ys.drop half)+ev 18446744073709551616 (xs.drop half)*ev 18446744073709551616 (ys.take half)) ls hs)
  case first=>
   have cv':Hid (ev 18446744073709551616 cs=((ev 18446744073709551616 (xs.take half) - ev 18446744073709551616 (xs.drop half))+(ev 18446744073709551616 (xs.drop half) - ev 18446744073709551616 (xs.take half)))*((ev 18446744073709551616 (ys.take half) - ev 18446744073709551616 (ys.drop half))+(ev 18446744073709551616 (ys.drop half) - ev 18446744073709551616 (ys.take half)))):=by show _=_;rw[cv.out,uv.out,vv.out]
   cases bx;case true=>
    have M1:=MM.out;rw[if_pos HBX.out.symm,<-cv'.out]at M1;have M2:=Lib.hid M1;clear M1
    go_wp2_with fail
    refine(c_b h (r+D) (cr - D) D cr (some ⟨h,r,none⟩) ns cs (D+1) _ na NL.out ca13.rd (by have:=cl.out;have:=HD.out;omega) (Off.seg_lit (by omega)) ca13.low (by omega) (by omega) (by rw[NV.out,M2.out];exact Q.out.2.1)).mono ?_;rintro e w14 ⟨ms,rfl,ml,mv,ma,mt,mz⟩;rw[NL.out]at ml mt;rw[NV.out,M2.out]at mv;have P:Hid (KarMid w1 g p N h r kr D (ev 18446744073709551616 (xs.take half)*ev 18446744073709551616 (ys.drop half)+ev 18446744073709551616 (xs.drop half)*ev 18446744073709551616 (ys.take half)) ls hs (.bool true) w14):=by
     refine⟨ms,ml,mv,ma,la13.tch mt fun j hj hs=>?_,ha13.tch mt fun j hj hs=>?_,T13.trans (mt.mono fun a _ ha=>?_)⟩
     ·have e1:=ll.out;have e2:=HD.out;have e3:=HN.out;have e4:=K1.out.apart;have e5:=K1.out.rk;unfold Seg at hs;simp only at hs;omega
     ·have e1:=hl.out;have e2:=HD.out;have e3:=HN.out;have e4:=K1.out.apart;have e5:=K1.out.rk;unfold Seg at hs;simp only at hs;omega
     ·have:=RL.out;have:=K1.out.rk;have:=HD.out;have:=HN.out;unfold KarS Seg at*;omega
    clear ml mv ma mt mz
    go_wp2
    go_meet
    exact P.out
   case false=>
    have M1:=MM.out;rw[if_neg (by rw[<-HBX.out];decide),<-cv'.out]at M1;have M2:=Lib.hid M1;clear M1
    go_wp2_with fail
    refine(c_1 h (r+D) (cr - D) D cr (some ⟨h,r,none⟩) ns cs (D+1) _ na NL.out ca13.rd (by have:=cl.out;have:=HD.out;omega) (Off.seg_lit (by omega)) ca13.low (by omega) (by omega)).mono ?_;rintro e w14 ⟨c,ms,rfl,mc,ml,mv,ma,mt,mz⟩;rw[NL.out]at ml mt mv;have P:Hid (KarMid w1 g p N h r kr D (ev 18446744073709551616 (xs.take half)*ev 18446744073709551616 (ys.drop half)+ev 18446744073709551616 (xs.drop half)*ev 18446744073709551616 (ys.take half)) ls hs (.bool false) w14):=by
     refine⟨ms,ml, ?_,ma,la13.tch mt fun j hj hs=>?_,ha13.tch mt fun j hj hs=>?_,T13.trans (mt.mono fun a _ ha=>?_)⟩
     ·have f1:=mv.out;rw[NV.out,M2.out]at f1;have f2:=b_y ma.low;rw[ml]at f2;rcases Nat.eq_zero_or_pos c with rfl|hc
      ·show _=_
       omega
      ·obtain rfl:c=1:=by omega
       exfalso
       omega
     ·have e1:=ll.out;have e2:=HD.out;have e3:=HN.out;have e4:=K1.out.apart;have e5:=K1.out.rk;unfold Seg at hs;simp only at hs;omega
     ·have e1:=hl.out;have e2:=HD.out;have e3:=HN.out;have e4:=K1.out.apart;have e5:=K1.out.rk;unfold Seg at hs;simp only at hs;omega
     ·have:=RL.out;have:=K1.out.rk;have:=HD.out;have:=HN.out;unfold KarS Seg at*;omega
    clear ml mv ma mt mz
    go_wp2
    go_meet
    exact P.out
  case rest=>
   clear T13 ca13 la13 ha13 na NV NL ns;obtain⟨ms,ml,mv,ma,la,ha,T⟩:=hcut;have fj:=la.join ha (by have:=ll.out;have:=HD.out;omega);have fl:Hid ((ls++hs).length=N):=by show _=_;have:=ll.out;have:=hl.out;have:=HD.out;have:=HN.out;simp;omega
   have V:Hid (ev 18446744073709551616 ls+18446744073709551616^D*ev 18446744073709551616 hs+18446744073709551616^half*ev 18446744073709551616 ms=ev 18446744073709551616 xs*ev 18446744073709551616 ys):=by show _=_;rw[lv.out,hv.out,mv.out,Q.out.2.2]
   have hlt:=K1.out.lt;rw[HN.out]at hlt;have U:=Lib.hid (p_y (N:=N) (by have:=ll.out;have:=HD.out;omega) k8 k1 V.out hlt (by omega));clear hlt;have fd:Hid ((ls++hs).drop half=ls.drop half++hs):=by show _=_;rw[List.drop_append_of_le_length (by have:=ll.out;have:=HD.out;omega)]
   have ft:Hid ((ls++hs).take half=ls.take half):=by show _=_;rw[List.take_append_of_le_length (by have:=ll.out;have:=HD.out;omega)]
   have oS:Hid ((ls.drop half++hs).length=N - half):=by show _=_;have e1:=fl.out;rw[List.length_append]at e1 ⊢;rw[List.length_drop];have e2:=ll.out;omega
   have f1:=fj.drop half (by rw[fl.out];exact k1);have f2:=fj.take half (by rw[fl.out];exact k1);rw[fd.out]at f1;rw[ft.out]at f2;clear fj;obtain⟨m1,m2,m3,m4,m5⟩:=MS.out
   go_wp2_with fail
   clear m1 m2 m3 m4 m5;refine(c_b g (p+half) (cp - half) (D+1) (cr - D) (some ⟨h,r+D,none⟩) (ls.drop half++hs) ms (N - half) _ f1 oS.out ma.rd ml.out (Off.seg_lit (by have e2:=HD.out;have e3:=HN.out;have e4:=K1.out.apart;have e5:=K1.out.rk;omega)) ma.low
    (by have e2:=HD.out;have e3:=HN.out;have:=HM.out;omega) (by omega) U.out.1).mono ?_
   rintro e w15 ⟨os,rfl,ol,ov,oa,ot,oz⟩;have P:Hid (KarPost w n g p h r kr (ev 18446744073709551616 xs*ev 18446744073709551616 ys) (.returned (.tuple #[])) w15):=by
    have e2:=HD.out;have e3:=HN.out;have e4:=ll.out;have f3:=f2.tch ot fun j hj hs=>by have:=hs.2.1;simp at hj;simp only at this;omega
    have f4:=f3.join oa (by simp;omega);refine⟨rfl,_, ?_,U.out.2 os ov,f4, ?_⟩
    ·show _=_
     rw[List.length_append,ol,oS.out];simp;omega
    ·rw[e3];rw[oS.out]at ot;refine((Tch.of_below (KarS g p N h r kr) B0).trans T).trans (ot.mono fun a _ ha=>?_);unfold KarS Seg at *;omega
   clear ol ov oa ot oz
   go_wp2
   go_end0
   exact P.out
end Go.Proofs.YtfhbdlegkdbmfaaGreat
namespace Go.Proofs.YtfhbdlegkdbmfaaGreat
open Go.RowKit
theorem p_0 (n:Nat):KarOk n:=by
 induction n using Nat.strongRecOn with
 |_ n ih=>
  rcases Nat.lt_or_ge n 40 with hn|hn
  ·exact k_0 hn
  ·intro g p h r kr cp cr ca cb N A B zs rs xs ys w K;obtain⟨ad,rfl,_,_⟩:=K.xa (by rw[K.xl];omega);obtain⟨bd,rfl,_,_⟩:=K.yb (by rw[K.yl];omega);intro HN h1 h2 h3 h4 h5 h6 h7 h8 h9;exact m_1 hn ih _ _ g p h r kr cp cr ca cb N ad bd zs rs xs ys w K HN h1 h2 h3 h4 h5 h6 h7 h8 h9 rfl rfl
def PiPost (v k:Nat)(w:World)(e:Ending)(w':World):Prop:=
 ∃A c us,e= .returned (.slice A (List.length us) c)/\Hid (ev 18446744073709551616 us=v)/\us.length<=k/\us.length<=c/\c<=9223372036854775807/\Low 18446744073709551616 us/\Rd w' .u64 A us/\(∀ad,A=some ad->w.heap.size<=ad.block)/\Below w.heap.size w w'
def MulOk (k:Nat):Prop:=∀(A B:Option Addr) (n m c d:Nat) (xs ys:List Nat) (w:World),Rd w .u64 A xs->Rd w .u64 B ys->xs.length=n->ys.length=m->
 n<=c->c<=9223372036854775807->m<=d->d<=9223372036854775807->Low 18446744073709551616 xs->Low 18446744073709551616 ys->n<=1099511627776->m<=1099511627776->min n m<=k->
 Calls Tryz.prog 110 #[.slice A n c,.slice B m d] w (NatPost (ev 18446744073709551616 xs*ev 18446744073709551616 ys) w)
theorem Got.block' {wi wj:World}{t:TypeId}{A:Option Addr}{c:Nat}{zs:List Nat}(h:Got wi wj t .u64 A c zs):∀ad,A=some ad->wi.heap.size<=ad.block/\ad.block<wj.heap.size:=by
 intro ad ha;subst ha;exact h.1.lt ad.block rfl
theorem c_t {w:World}{g:Nat}{t:TypeId}{n:Nat}(h:Blk w g t .u64 (List.replicate n 0)):Wb w g t (List.replicate n 0):=⟨h,Low.replicate _ _ (by omega)⟩
theorem h_g {m:Nat}(ih:∀k,k<m->MulOk k)(A B:Option Addr)(n c d:Nat)(xs ys:List Nat)(w:World)(hx:Rd w .u64 A xs)(hy:Rd w .u64 B ys)(hxn:xs.length=n)(hyn:ys.length=m)
  (hc:n<=c) (hc':c<=9223372036854775807) (hd:m<=d) (hd':d<=9223372036854775807) (lx:Low 18446744073709551616 xs) (ly:Low 18446744073709551616 ys) (bn:n<=m) (bm:m<=1099511627776):
  Calls Tryz.prog 146 #[.slice A n c,.slice B m d] w (PiPost (ev 18446744073709551616 xs*ev 18446744073709551616 ys) (n+m) w):=by
 have HX:=Lib.hid hxn;have HY:=Lib.hid hyn;clear hxn hyn;rcases Nat.lt_or_ge n m with hlt|hge
 ·have hb:ev 18446744073709551616 xs*ev 18446744073709551616 ys<18446744073709551616^(n+m):=by
   have h1:=b_y lx;have h2:=b_y ly;rw[HX.out]at h1;rw[HY.out]at h2;rw[Nat.pow_add];exact Nat.mul_lt_mul'' h1 h2
  have HB:=Lib.hid hb;clear hb;go_enter Tryz.func146,Tryz.ntmps146
  go_wp2_with fail
  refine(ih n hlt B A m n d c ys xs _ hy hx HY.out HX.out hd hd' hc hc' ly lx bm (by omega) (by omega)).mono ?_;rintro e w1 ⟨A1,c1,rfl,hg⟩;have hcp:=hg.cap;have P:Hid (PiPost (ev 18446744073709551616 xs*ev 18446744073709551616 ys) (n+m) w (.returned (.slice A1 (cn 18446744073709551616 (ev 18446744073709551616 ys*ev 18446744073709551616 xs)).length c1)) w1):=
   ⟨A1,c1,_,rfl,by show _=_;rw[e_o _ _ (by omega),Nat.mul_comm],by rw[Nat.mul_comm];exact a_h _ _ _ (by omega) HB.out,hcp.1,by have:=hcp.2;unfold maxLen at this;omega,c_s _ _ (by omega),hg.rd,fun ad ha=>(hg.block' ad ha).1,hg.2⟩
  clear hg hcp
  go_wp2
  go_ret
  exact P.out
 ·obtain rfl:n=m:=by omega
  clear bn hge;go_enter Tryz.func146,Tryz.ntmps146
  go_wp2_with (at_make;refine a_e _ rfl _ _ 29 rfl 85 .u64 8 Tryz.underlying29 info_u64 _ _ _ _ (2*n) rfl rfl (by omega) (by omega) (by omega) (by omega) ?_)
  intro w1 hb1 hw1 hz1;have H1:=Lib.hid hz1;clear hz1
  go_wp2_with (at_make;refine a_e _ rfl _ _ 29 rfl 85 .u64 8 Tryz.underlying29 info_u64 _ _ _ _ (3*n) rfl rfl (by omega) (by omega) (by omega) (by omega) ?_)
  intro w2 hb2 hw2 hz2;have H2:=Lib.hid hz2;clear hz2;have hb3:=hb1.below hw2 hb1.lt;have hwA:Below w.heap.size w w2:=hw1.trans (hw2.mono hw1.size);have kin:KarIn w2 n w.heap.size 0 w1.heap.size 0 (3*n) A B (List.replicate (2*n) 0) (List.replicate (3*n) 0) xs ys:=by
   have e1:=H1.out;have fr:∀(g q:Nat) (C:Option Addr) (zs:List Nat),w.heap.size<=g->Rd w .u64 C zs->Off (Seg g 0 q) C zs.length:=by
    intro g q C zs hg hr ad ha j hj hs;obtain⟨ad',e',hl,_⟩:=hr (by omega);rw[e']at ha;obtain rfl:=Option.some.inj ha
    have:=hs.1;rw[a_b]at this;omega
   refine⟨Ar.of_wb (c_t hb3),by simp,Ar.of_wb (c_t hb2),by simp,by omega,by omega,hx.below hwA,HX.out,hy.below hwA,HY.out,lx,ly, ?_, ?_, ?_, ?_⟩
   ·rw[<-HX.out];exact fr _ _ _ _ (by omega) hx
   ·rw[<-HX.out];exact fr _ _ _ _ (by omega) hx
   ·rw[<-HY.out];exact fr _ _ _ _ (by omega) hy
   ·rw[<-HY.out];exact fr _ _ _ _ (by omega) hy
  have KI:=Lib.hid kin;clear kin hb1 hb2 hb3
  go_wp2_with fail
  refine(p_0 n w.heap.size 0 w1.heap.size 0 (3*n) (2*n) (3*n) c d (2*n) A B _ _ xs ys _ KI.out rfl (by omega) (by omega) (by omega) (by omega) hc hc' hd hd' bm).mono ?_;rintro e w3 ⟨rfl,us,ul,uv,ua,ut⟩;have P:Hid (PiPost (ev 18446744073709551616 xs*ev 18446744073709551616 ys) (n+n) w (.returned (.slice (some ⟨w.heap.size,0,none⟩) (2*n) (2*n))) w3):=by
   have e1:=H1.out;refine⟨_,_,us,by rw[ul.out],uv,by rw[ul.out];omega,by rw[ul.out];omega,by omega,ua.low,ua.rd,fun ad ha=>by obtain rfl:=Option.some.inj ha;exact Nat.le_refl _,hwA.trans (ut.below (by have:=hwA.size;omega) fun a ha=>?_)⟩;unfold KarS Seg at ha;omega
  clear ul uv ua ut
  go_wp2
  go_ret
  exact P.out
end Go.Proofs.YtfhbdlegkdbmfaaGreat
namespace Go.Proofs.YtfhbdlegkdbmfaaGreat
open Go.RowKit
def MlCut (w:World)(F:Nat->Nat->Prop)(k:Nat)(va vb:Value)(wx:World):Prop:=
 ∃(A B:Option Addr) (c d:Nat) (xs ys:List Nat),va= .slice A xs.length c/\vb= .slice B ys.length d/\Rd w .u64 A xs/\Rd w .u64 B ys/\ys.length<=xs.length/\xs.length<=1099511627776/\ys.length<=k/\
  xs.length<=c/\c<=9223372036854775807/\ys.length<=d/\d<=9223372036854775807/\
  Low 18446744073709551616 xs/\Low 18446744073709551616 ys/\F (ev 18446744073709551616 xs) (ev 18446744073709551616 ys)/\wx=w
theorem MlCut.mk {w:World}{A B:Option Addr}{c d k:Nat}{xs ys:List Nat}(hx:Rd w .u64 A xs)(hy:Rd w .u64 B ys)(h:sl ys<=sl xs)(hm:sl xs<=1099511627776)(hk:sl ys<=k)(hc:sl xs<=c)(hc':c<=9223372036854775807)(hd:sl ys<=d)(hd':d<=9223372036854775807)
  (lx:Low 18446744073709551616 xs) (ly:Low 18446744073709551616 ys) {F:Nat->Nat->Prop} (hS:F (ev 18446744073709551616 xs) (ev 18446744073709551616 ys)):
  MlCut w F k (.slice A (sl xs) c) (.slice B (sl ys) d) w:=by
 have ex:(xs.take (sl xs)).length=sl xs:=by simp[Nat.min_eq_left (a_4 xs)]
 have ey:(ys.take (sl ys)).length=sl ys:=by simp[Nat.min_eq_left (a_4 ys)]
 exact⟨A,B,c,d,xs.take (sl xs),ys.take (sl ys),by rw[ex],by rw[ey],hx.take _,hy.take _,by rw[ex,ey];exact h,by rw[ex];exact hm,by rw[ey];exact hk,by rw[ex];exact hc,hc',by rw[ey];exact hd,hd',lx.take _,ly.take _,by rw[a_n,a_n];exact hS,rfl⟩
def MlRel (w:World)(xs ys:List Nat)(i:Nat)(wr:World):Prop:=
 ∃Z:List Nat,Hid (Z.length=xs.length+ys.length)/\Hid (ev 18446744073709551616 Z=pre 18446744073709551616 xs i*ev 18446744073709551616 ys)/\Wb wr w.heap.size 85 Z/\Below w.heap.size w wr
theorem m_m (b:Nat)(xs:List Nat)(i q:Nat):pre b xs (i+q)=pre b xs i+b^i*ev b ((xs.drop i).take q):=by
 unfold pre;rw[List.take_add,a_o,List.length_take];rcases Nat.lt_or_ge i xs.length with h|h
 ·rw[Nat.min_eq_left (by omega)]
 ·rw[List.drop_of_length_le h];simp[ev]
theorem k_v {b i q:Nat}{xs ys Z us fs:List Nat}(hb:2<=b)(lx:Low b xs)(ly:Low b ys)(hZ:Z.length=xs.length+ys.length)(hv:ev b Z=pre b xs i*ev b ys)(hi:i<=xs.length)(hu:ev b us=ev b ((xs.drop i).take q)*ev b ys):
  ev b (Z.drop i)+ev b us<b^(xs.length+ys.length - i)/\(ev b fs=ev b (Z.drop i)+ev b us->ev b (Z.take i++fs)=pre b xs (i+q)*ev b ys):=by
 have e1:=a_7 b Z i (by omega);have e2:=m_m b xs i q;have e3:pre b xs (i+q)*ev b ys=pre b Z i+b^i*(ev b (Z.drop i)+ev b us):=by
  rw[e2,Nat.add_mul,<-hv,e1,hu];grind
 have e4:pre b xs (i+q)*ev b ys<b^(xs.length+ys.length):=by
  rw[Nat.pow_add];refine Nat.mul_lt_mul'' ?_ (b_y ly);have h1:=b_y (lx.take (i+q));exact Nat.lt_of_lt_of_le h1 (Nat.pow_le_pow_right (by omega) (by simp;omega))
 have e5:b^(xs.length+ys.length)=b^i*b^(xs.length+ys.length - i):=by rw[<-Nat.pow_add];congr 1;omega
 constructor
 ·refine Nat.lt_of_mul_lt_mul_left (a:=b^i) ?_;omega
 ·intro hf;rw[a_o,hf,e3];have:(Z.take i).length=i:=by simp;omega
  rw[this];rfl
theorem k_r {G p m n:Nat}{A:Option Addr}{H:Nat}(h:∀ad,A=some ad->H<=ad.block)(hG:G<H):Off (Seg G p m) A n:=fun ad ha j hj hs=>by
 have h1:=h ad ha;have h2:=hs.1;rw[a_b]at h2;omega
theorem MlRel.next {w wr w2 w3:World}{xs ys Z us fs:List Nat}{i N:Nat}(hN:Hid (N=xs.length+ys.length))(lx:Low 18446744073709551616 xs)(ly:Low 18446744073709551616 ys)(hZ:Hid (Z.length=xs.length+ys.length))
  (hv:Hid (ev 18446744073709551616 Z=pre 18446744073709551616 xs i*ev 18446744073709551616 ys)) (hi:i<=xs.length)
  (hu:Hid (ev 18446744073709551616 us=ev 18446744073709551616 ((xs.drop i).take ys.length)*ev 18446744073709551616 ys))
  (ha:Wb wr w.heap.size 85 Z) (hw:Below w.heap.size w wr) (hb:Below wr.drew.heap.size wr.drew w2)
  (h1:fs.length=(Z.drop i).length) (h2:ev 18446744073709551616 fs=ev 18446744073709551616 (Z.drop i)+ev 18446744073709551616 us) (h3:Ar w3 w.heap.size i 85 fs) (h4:Tch (Seg w.heap.size i (Z.drop i).length) w2 w3):
  MlRel w xs ys (i+ys.length) w3:=by
 have hz:=hZ.out;have hs:=k_v (fs:=fs) (by omega) lx ly hZ.out hv.out hi hu.out;have hb2:Wb w2 w.heap.size 85 Z:=⟨Blk.below (w:=wr.drew) ha.1 hb ha.1.lt,ha.2⟩;have ha2:Ar w2 w.heap.size 0 85 Z:=Ar.of_wb hb2;have ha3:=(ha2.take i (by omega)).tch h4 fun j hj hs=>by have:=hs.2.1;simp at hj;simp only at this;omega
 have hl:(Z.take i++fs).length=xs.length+ys.length:=by simp at h1 ⊢;omega
 obtain⟨L',k1,k2,k3⟩:=h4.blk _ _ _ hb2;obtain⟨M,n1,n2,n3⟩:=ha3.join h3 (by simp;omega);obtain rfl:=k1.one n1;have he:Z.take i++fs=L':=d_j (by omega) fun j hj=>by have:=n3 j hj;rw[Nat.zero_add]at this;exact this.symm
 rw[<-he]at k1;refine⟨Z.take i++fs,hl,hs.2 h2,k1, ?_⟩;have hw2:Below w.heap.size w w2:=hw.trans ((a_a wr).trans hb |>.mono hw.size);exact hw2.trans (h4.below hw2.size fun a hs=>by have:=hs.1;omega)
theorem k_u {k:Nat}(ih:∀j,j<k->MulOk j):MulOk k:=by
 intro A B n m c d xs ys w hx hy hxn hyn hc hc' hd hd' lx ly bx bY hk;have sx:sl xs<=n:=hxn ▸ a_4 xs;have sy:sl ys<=m:=hyn ▸ a_4 ys;have HX:=Lib.hid hxn;have HY:=Lib.hid hyn;clear hxn hyn;go_enter Tryz.func110,Tryz.ntmps110
 go_wp2_with fail
 refine(c_x _ _ _ xs _ hx HX.out (by omega) (by omega)).mono ?_;rintro e w' ⟨rfl,rfl⟩
 go_wp2_with fail
 refine(c_x _ _ _ ys _ hy HY.out (by omega) (by omega)).mono ?_;rintro e w' ⟨rfl,rfl⟩;go_upto_if 16 with fail
 go_cut [0,1] (MlCut w (fun x y=>x*y=ev 18446744073709551616 xs*ev 18446744073709551616 ys) k)
 case first=>
  by_cases h:sl xs<sl ys
  ·go_wp2
   go_meet
   exact MlCut.mk hy hx (by omega) (by omega) (by omega) (by omega) hd' (by omega) hc' ly lx (Nat.mul_comm _ _)
  ·go_wp2
   go_meet
   exact MlCut.mk hx hy (by omega) (by omega) (by omega) (by omega) hc' (by omega) hd' lx ly rfl
 case rest=>
  clear hx hy lx ly sx sy HX HY hc hc' hd hd' bx bY hk;obtain⟨A,B,c,d,xs,ys,rfl,rfl,hx,hy,hle,hmx,hky,hc,hc',hd,hd',lx,ly,hS,rfl⟩:=hcut;have HS:=Lib.hid hS;clear hS;by_cases h0:ys.length<40
  ·go_wp2_with fail
   refine(g_k A B _ _ c d xs ys _ hx hy rfl rfl hc hc' hd hd' lx ly hmx (by omega)).mono ?_;rintro e w1 ⟨A1,c1,rfl,hg⟩;have P:Hid (NatPost (ev 18446744073709551616 xs*ev 18446744073709551616 ys) wc (.returned (.slice A1 (cn 18446744073709551616 (ev 18446744073709551616 xs*ev 18446744073709551616 ys)).length c1)) w1):=⟨A1,c1,rfl,hg⟩;clear hg;rw[HS.out]at P ⊢
   go_wp2
   go_ret
   exact P.out
  ·have h1:40<=ys.length:=by omega
   clear h0;obtain⟨N,hN⟩:∃N,N=xs.length+ys.length:=⟨_,rfl⟩;have nN:N<=4398046511104:=by omega
   have HN:=Lib.hid hN;clear hN
   go_wp2_with (at_make;refine a_e _ rfl _ _ 29 rfl 85 .u64 8 Tryz.underlying29 info_u64 _ _ _ _ N rfl rfl (by have:=HN.out;omega) (by have:=HN.out;omega) (by omega) (by omega) ?_)
   intro w1 hb1 hw1 hz1;have HZ:=Lib.hid hz1;clear hz1
   go_wp2
   go_loopw [6] (fun i wr=>∃i':Nat,i= .int .i64 i'/\i'<N/\MlRel wc xs ys i' wr) (fun i _=>xs.length - (intOf i).toNat)
   case atStart=>exact⟨0,rfl,by have:=HN.out;omega,List.replicate N 0,by show _=_;rw[List.length_replicate,HN.out],by show _=_;rw[a_3,a_0,Nat.zero_mul],c_t hb1,hw1⟩
   case round=>
    obtain⟨i,rfl,hi,Z,hZ,hv,ha,hw⟩:=hrel;by_cases hlt:i<xs.length
    ·have u1:(0:Int)<=(i:Int):=by omega
     have u2:(i:Int)<=(N:Int):=by omega
     have u3:¬(N=i):=by omega
     have u4:¬(c=i):=by omega
     obtain⟨q,hq⟩:∃q,q=((xs.drop i).take ys.length).length:=⟨_,rfl⟩;have hq1:i+ys.length<=xs.length->i+ys.length - i=q:=by rw[hq];simp;omega
     have hq2:¬i+ys.length<=xs.length->xs.length - i=q:=by rw[hq];simp;omega
     have hqy:q<=ys.length/\q<=xs.length - i:=by rw[hq];simp;omega
     have hq':=Lib.hid hq;have HQ1:=Lib.hid hq1;have HQ2:=Lib.hid hq2;have hmn1:i+ys.length<=xs.length->min ((i:Int)+(ys.length:Int)) (xs.length:Int)=(i:Int)+(ys.length:Int):=fun h=>Int.min_eq_left (by omega);have hmn2:¬i+ys.length<=xs.length->min ((i:Int)+(ys.length:Int)) (xs.length:Int)=(xs.length:Int):=fun h=>Int.min_eq_right (by omega);have HMN1:=Lib.hid hmn1;have HMN2:=Lib.hid hmn2;clear hmn1 hmn2;have hxp:=(hx.below hw).drop i;have hxq:=hxp.take ys.length;have hyw:=hy.below hw;have lxp:=(lx.drop i).take ys.length;have hcq:q<=c - i:=by omega
     have hat:Ar wr wc.heap.size i 85 (Z.drop i):=by have:=(Ar.of_wb ha).drop i (by have:=hZ.out;omega);rwa [Nat.zero_add]at this
     have hlt2:=ha.1.lt;have hzd:Hid ((Z.drop i).length=N - i):=by show _=_;rw[List.length_drop,hZ.out,HN.out]
     clear hq hq1 hq2 hxp;by_cases hf:i+ys.length<=xs.length
     all_goals
      have u5:i+ys.length<=c\/xs.length<=c:=by omega
      first|have hmn:=HMN1.out hf|have hmn:=HMN2.out hf
      go_wp2_with fail
      clear hmn;first|rw[HQ1.out hf] |rw[HQ2.out hf]
      go_region_held3 (fun _=>True) (exact trivial) (first
       |(go_at_call 146;refine(h_g (fun j hj=>ih j (by omega)) _ _ q (c - i) d _ ys _ hxq.drew hyw.drew hq'.out.symm rfl (by omega) (by omega) hd hd' lxp ly (by omega) (by omega)).mono ?_;rintro e w2 ⟨A2,c2,us,rfl,r1,r2,r3,r4,r5,r6,r7,r8⟩)
       |(go_at_call 145;refine(c_b wc.heap.size i (N - i) us.length c2 A2 (Z.drop i) us (N - i) _ (Ar.below (w:=wr.drew) hat r8) hzd.out r6 rfl (k_r r7 hlt2) r5 (by have:=HN.out;omega) (by omega) (by rw[HN.out];exact(k_v (fs:=[]) (by omega) lx ly hZ.out hv.out (by omega) r1.out).1)).mono ?_;rintro e w3 ⟨fs,rfl,f1,f2,f3,f4,f5⟩))
      have R:=Lib.hid (MlRel.next HN lx ly hZ hv (by omega) r1 ha hw r8 f1 f2 f3 f4);clear f1 f2 f3 f4 f5 r1 r2 r3 r4 r5 r6 r7 r8
      go_wp2
      go_roundw
      case rel=>exact⟨i+ys.length,by go_num,by have:=HN.out;omega,R.out⟩
      case measure=>simp[intOf];omega
    ·have e1:=b_a 18446744073709551616 (xs:=xs) (k:=i) (by omega);have hv2:Hid (ev 18446744073709551616 Z=ev 18446744073709551616 xs*ev 18446744073709551616 ys):=by show _=_;rw[hv.out,e1]
     have hzn:Hid (Z.length=N):=by show _=_;rw[hZ.out,HN.out]
     have hbl:=ha.1;have lz:=ha.2;clear e1 hv ha hi
     go_wp2_with fail
     refine(c_x _ N N Z _ hbl.rd0 hzn.out (Nat.le_refl _) (by omega)).mono ?_;rintro e w' ⟨rfl,rfl⟩
     go_wp2
     go_ret
     exact h_h hbl (Nat.le_refl _) hw hzn.out (by omega) lz (hv2.out.trans HS.out)
theorem p_q (k:Nat):MulOk k:=by
 induction k using Nat.strongRecOn with
 |_ k ih=>exact k_u ih
theorem j_b (A B:Option Addr)(n m c d:Nat)(xs ys:List Nat)(w:World)(hx:Rd w .u64 A xs)(hy:Rd w .u64 B ys)(hxn:xs.length=n)(hyn:ys.length=m)
  (hc:n<=c) (hc':c<=9223372036854775807) (hd:m<=d) (hd':d<=9223372036854775807) (lx:Low 18446744073709551616 xs) (ly:Low 18446744073709551616 ys)
  (bx:n<=1099511627776) (bY:m<=1099511627776):
  Calls Tryz.prog 110 #[.slice A n c,.slice B m d] w (NatPost (ev 18446744073709551616 xs*ev 18446744073709551616 ys) w):=
 p_q _ A B n m c d xs ys w hx hy hxn hyn hc hc' hd hd' lx ly bx bY (Nat.le_refl _)
theorem r_i {A B:Option Addr}{n m c d x y:Nat}{w:World}(hx:Nv w A n c x)(hy:Nv w B m d y)(hn:n<=1099511627776)(hm:m<=1099511627776):
  Calls Tryz.prog 110 #[.slice A n c,.slice B m d] w (NatPost (x*y) w):=by
 obtain⟨xs,h1,h2,h3,h4,h5,rfl⟩:=hx;obtain⟨ys,g1,g2,g3,g4,g5,rfl⟩:=hy;exact j_b A B n m c d xs ys w h1 g1 h2 g2 h3 h4 g3 g4 h5 g5 hn hm
end Go.Proofs.YtfhbdlegkdbmfaaGreat
namespace Go.Proofs.YtfhbdlegkdbmfaaGreat
open Go.RowKit
end Go.Proofs.YtfhbdlegkdbmfaaGreat
namespace Go.Proofs.YtfhbdlegkdbmfaaGreat
open Go.RowKit
end Go.Proofs.YtfhbdlegkdbmfaaGreat
namespace Go.Proofs.YtfhbdlegkdbmfaaGreat
open Go.RowKit
theorem k_t {A B:Option Addr}{n m c d x y:Nat}{w:World}(hx:Nv w A n c x)(hy:Nv w B m d y)(hn:n<=1099511627776)(hm:m<=1099511627776):
  Calls Tryz.prog 110 #[.slice A n c,.slice B m d] w (CvPost (x*y) (n+m) w):=
 (r_i hx hy hn hm).mono fun _ _ h=>h.cv (by
  have l1:=hx.lt;have l2:=hy.lt;rw[Nat.pow_add];exact Nat.mul_lt_mul'' l1 l2)
end Go.Proofs.YtfhbdlegkdbmfaaGreat
namespace Go.Proofs.YtfhbdlegkdbmfaaGreat
open Go.RowKit
end Go.Proofs.YtfhbdlegkdbmfaaGreat
