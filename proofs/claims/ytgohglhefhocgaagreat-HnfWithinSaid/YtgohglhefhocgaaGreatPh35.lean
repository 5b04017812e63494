/- Ph35 -/
import Derived.Test.YtgohglhefhocgaaGreatPh34
set_option linter.unusedVariables false
set_option linter.unusedSimpArgs false
set_option linter.unusedSectionVars false
set_option maxRecDepth 100000
set_option maxHeartbeats 8000000
namespace Go.Proofs.YtgohglhefhocgaaGreat
open Go.RowKit
def tm (k W:Nat):Nat:=(k+1)*W+1
def tE (k W:Nat):Nat:=k+(W+1)*((W+1)*(tm k W+1))
def t0 (k W:Nat):Nat:=2*tE k W+2*tm k W+5
def t1 (k W:Nat):Nat:=t0 k W+tm k W
theorem p_m {k W R:Nat}{A:Nat→Nat→Int}(hA:∀a,a<R→Bd W k (A a))(r:Nat)(f q:Nat→Nat)(hf:∀i,i<r→f i<R)(hq:∀i,i<r→q i<W):(DT.det r fun i j=>A (f i) (q j)).natAbs≤(r*18446744073709551616^k)^r:=
 DT.det_abs _ _ _ fun i j hi hj=>Nat.le_of_lt (hA _ (hf i hi) _ (hq j hj))
theorem s_w {k W r:Nat}(hr:r≤W)(hW:W≤1048576):r*(r*18446744073709551616^k)^r<18446744073709551616^tm k W:=by
 have h1:r*18446744073709551616^k≤18446744073709551616^(k+1):=by
  rw[Nat.pow_succ,Nat.mul_comm];exact Nat.mul_le_mul_left _ (by omega)
 have h2:(r*18446744073709551616^k)^r≤18446744073709551616^((k+1)*W):=by
  refine Nat.le_trans (Nat.pow_le_pow_left h1 r) ?_;rw[←Nat.pow_mul];exact h_6 (Nat.mul_le_mul_left _ hr)
 unfold tm;rw[Nat.pow_succ,Nat.mul_comm];exact Nat.lt_of_le_of_lt (Nat.mul_le_mul_right r h2) (Nat.mul_lt_mul_of_pos_left (by omega) (Nat.pow_pos (by omega)))
section
variable {k W R N M:Nat}{F F' F0 A:Nat→Nat→Int}{p:Nat→Option Nat}
theorem q_c (h:DT.SetO N W (18446744073709551616^M) F0 F p)(e:∀v,DT.Lat N W F0 v↔DT.Lat R W A v)(hA:∀a,a<R→Bd W k (A a))(hW:W≤1048576){j a:Nat}(hj:j<W)(ha:p j=some a):Bd W (M+tm k W) (F a):=fun i hi=>by
 refine Nat.lt_of_le_of_lt (h.le e (fun f q hf hq=>p_m hA _ f q hf hq) hj ha hi) ?_;rw[Nat.mul_left_comm,Nat.pow_add];exact Nat.mul_lt_mul_of_pos_left (s_w (DT.rl_len_le p W) hW) (Nat.pow_pos (by omega))
theorem q_b (h:DT.Sets N W 0 F0 F p)(e:∀v,DT.Lat N W F0 v↔DT.Lat R W A v)(hA:∀a,a<R→Bd W k (A a))(hW:W≤1048576){j a:Nat}(hj:j<W)(ha:p j=some a):Bd W (tm k W) (F a):=fun i hi=>
 Nat.lt_of_le_of_lt (h.herm_le e (fun f q hf hq=>p_m hA _ f q hf hq) hj ha hi) (s_w (DT.rl_len_le p W) hW)
theorem n_6 {i:Nat}(h:∀v,DT.Lat i W F v↔DT.Lat i W A v)(he:F i=A i)(v:Nat→Int):DT.Lat (i+1) W F v↔DT.Lat (i+1) W A v:=by
 have up:∀ {M:Nat→Nat→Int} {v:Nat→Int},DT.Lat i W M v→DT.Lat (i+1) W M v:=fun {M v} hv=>DT.Lat.within (fun a ha=>DT.Lat.row (i+1) W M (by omega)) hv;refine DT.lat_both (fun a ha=>?_) (fun a ha=>?_) v
 ·by_cases e:a=i
  ·subst e;rw[he];exact DT.Lat.row _ _ _ (by omega)
  ·exact up ((h _).mp (DT.Lat.row _ _ _ (by omega)))
 ·by_cases e:a=i
  ·subst e;rw[←he];exact DT.Lat.row _ _ _ (by omega)
  ·exact up ((h _).mpr (DT.Lat.row _ _ _ (by omega)))
end
structure TrOk (b:Nat) (w:World) (R W H k:Nat) (g o cp:Nat→Nat) (A F:Nat→Nat→Int) (p:Nat→Option Nat) (i:Nat):Prop where
 bx:Bx w H 22 (tcs W g o cp p)
 rws:Rws b w R W g o F
 tri:DT.Tri i W F p
 rst:DT.Rst i W F p
 rdc:DT.Rdc 0 W F p
 lat:∀v,DT.Lat i W F v↔DT.Lat i W A v
 low:∀a,i≤a→F a=A a
 bd:∀j a,j<W→p j=some a→Bd W (tm k W) (F a)
theorem TrOk.below {b R W H k i:Nat}{g o cp:Nat→Nat}{A F:Nat→Nat→Int}{p:Nat→Option Nat}{w w':World}(h:TrOk b w R W H k g o cp A F p i)(hb:Below w.heap.size w w'):TrOk b w' R W H k g o cp A F p i:={ h with bx:=h.bx.below hb,rws:=h.rws.below hb }
def TrPost (b:Nat)(w:World)(R W k:Nat)(g o cp:Nat→Nat)(A:Nat→Nat→Int)(e:Ending)(w':World):Prop:=
 ∃H F p,e= .returned (.slice (some ⟨H,0,none⟩) W W)∧w.heap.size≤H∧TrOk b w' R W H k g o cp A F p R∧Chg w w' R g
theorem p_6 {W:Nat}{g o cp:Nat→Nat}:List.replicate W (.slice none 0 0)=tcs W g o cp fun _=>none:=by
 apply List.ext_getElem
 ·rw[List.length_replicate,tcs_len]
 ·intro j h1 h2;simp[tcs,tvl]
theorem k_2 {b R W L k:Nat}{g o cp:Nat→Nat}{A:Nat→Nat→Int}{w:World}(bl:Bx w L 22 (rcs R W g o cp))(r:Rws b w R W g o A)(hb:b≤w.heap.size)(hcp:∀a,a<R→W≤cp a∧cp a≤9223372036854775807)(hA:∀a,a<R→Bd W k (A a))(hW:W≤1048576)(hR:R≤1048576)(hK:t1 k W*(W+3)≤68719476736):
  Calls Tryz.prog 36 #[.slice (some ⟨L,0,none⟩) R R,.int .i64 (W:Int)] w (TrPost b w R W k g o cp A):=by
 have HLl:=bl.lt;have HNL:=Lib.hid (fun a (ha:a<R)=>r.ne bl (by decide) ha);have HGL:=Lib.hid (fun a (ha:a<R)=>(r.row a ha).lt);have HBL:=Lib.hid bl;have HR0:=Lib.hid r;have HCP:=Lib.hid hcp;have HA:=Lib.hid hA;have HK:=Lib.hid hK;clear bl r hcp hA hK;go_enter Tryz.func36,Tryz.ntmps36
 go_upto_region 1 with fail
 refine Run.start 3 ?_;refine .mv .o ?_;refine .mkST (.i 0) (T:=62) (r:=W) (b0:=w.heap.size) Tryz.underlying62 (by omega) (Nat.le_refl _) ?_;refine .mf (.i 1) ?_;refine .donep [some 8,some 9,some 5] ?_;intro w2 B2;rintro v9 -;rintro v5 ⟨H,rfl,bh,hH⟩;change Shut (wpList _ _ _ [] _ _);refine⟨?_⟩;simp only[Act.put,lS,lZ,lC];rw[p_6 (g:=g) (o:=o) (cp:=cp)]at bh;have HI:Hid (Bx w2 L 22 (rcs R W g o cp)∧Chg w w2 R g∧∃F p,TrOk b w2 R W H k g o cp A F p 0):=Lib.hid ⟨HBL.out.below B2,.of B2,A,fun _=>none,{
  bx:=bh
  rws:=HR0.out.below B2
  tri:=⟨fun _ _ _ h=>(nomatch h),fun _ _ _ _ _ h=>(nomatch h),fun _ _ _ h=>(nomatch h),fun _ _ _ h=>(nomatch h)⟩
  rst:=fun a ha=>by omega
  rdc:=fun _ _ _ _ _ _ _ h=>(nomatch h)
  lat:=fun _=>Iff.rfl
  low:=fun _ _=>rfl
  bd:=fun _ _ _ h=>(nomatch h) }⟩
 clear bh B2
 go_wp2_with fail
 go_loopw [12] (fun s12 wr=>∃i:Nat,s12= .int .i64 (i:Int)∧i≤R∧Hid (Bx wr L 22 (rcs R W g o cp)∧Chg w wr R g∧∃F p,TrOk b wr R W H k g o cp A F p i)) (fun s12 _=>R - (intOf s12).toNat)
 case atStart=>exact⟨0,rfl,Nat.zero_le _,HI⟩
 case round=>
  obtain⟨i,rfl,hiR,HB⟩:=hrel;clear HI;by_cases hlt:i<R
  ·have u2:(i:Int)<(R:Int):=by omega
   obtain⟨bl,hC,F,p,T⟩:=HB.out;have c0:wr.cell? ⟨L,i,none⟩=some (rwV (g i) (o i) W (cp i)):=(bl.cell i).trans (d_6 hlt);have hI:=PutI.start (k0:=k) (m:=tm k W) (M:=t0 k W) T.tri T.rst (by rw[T.low i (Nat.le_refl _)];exact HA.out i hlt) T.bd (by unfold t0;omega);have hk1:t0 k W≤t1 k W:=by unfold t1;omega
   have hk2:t1 k W*3≤t1 k W*(W+3):=Nat.mul_le_mul_left _ (by omega);have hk3:5≤t0 k W:=by unfold t0;omega
   have hP:=t_7 (E:=tE k W) T.bx T.rws (by have:=hC.size;omega) hlt hI (HCP.out i hlt).1 (HCP.out i hlt).2 hW (Nat.le_refl _) (by unfold t0;omega) (by have:=HK.out;omega);have HP:=Lib.hid hP;have HC:=Lib.hid hC;have HT:=Lib.hid T;have HBl:=Lib.hid bl;clear hP hI hC T HB
   go_wp2_with fail
   refine HP.out.mono ?_;rintro e w3 ⟨rfl,p',F',hT,hRs,hLt,hlo,hbd,bx3,hR3,hC3⟩;have hHL:L≠H:=by omega
   have bl3:=hC3.bx HBl.out hHL (fun a ha=>HNL.out a ha);have hC3':Chg w w3 R g:=by
    have h1:=HC.out;exact⟨hC3.os.trans h1.os,hC3.tape.trans h1.tape,hC3.output.trans h1.output,Nat.le_trans h1.size hC3.size,fun x hx hn=>(hC3.block x (Nat.lt_of_lt_of_le hx h1.size) (by omega) hn).trans (h1.block x hx hn)⟩
   have hlat:∀v,DT.Lat (i+1) W F' v↔DT.Lat (i+1) W A v:=fun v=>(hLt v).trans (n_6 HT.out.lat (HT.out.low i (Nat.le_refl _)) v);have hSO:=DT.SetO.start (X:=18446744073709551616^t0 k W) hT hRs fun j a l hj hl ha=>Nat.le_of_lt (hbd j a hj ha l hl);have hS:=n_h (M:=t1 k W) (β:=t1 k W+W*(t1 k W+1)) bx3 hR3 (by have:=hC3'.size;omega) (show i+1≤R by omega) hSO (fun a ha=>HCP.out a (by omega)) hW (fun F'' h'' j a hj ha=>q_c h'' hlat (fun a ha=>HA.out a (by omega)) hW hj ha) (Nat.le_refl _) (by
    have h4:=HK.out;have h5:t1 k W*(W+3)=W*t1 k W+t1 k W*3:=by rw[Nat.mul_add,Nat.mul_comm (t1 k W) W]
    have h6:W*(t1 k W+1)=W*t1 k W+W:=by rw[Nat.mul_add,Nat.mul_one]
    omega)
   have HS:=Lib.hid hS;have HST:=Lib.hid (i_y (.start hT hRs) W (Nat.le_refl _));have HBX:=Lib.hid bx3;have HBL3:=Lib.hid bl3;have HC3:=Lib.hid hC3';have HLAT:=Lib.hid hlat;have HLO:=Lib.hid hlo;have HNH:=Lib.hid (fun a (ha:a<R)=>hR3.ne bx3 (by decide) ha);clear hS hT hRs hLt hlo hbd bx3 hR3 hC3 hC3' bl3 hSO hlat HP HC HBl c0
   go_wp2_with fail
   refine HS.out.mono ?_;rintro e w4 ⟨rfl,hR4,hC4⟩;have HI:Hid (Bx w4 L 22 (rcs R W g o cp)∧Chg w w4 R g∧∃F p,TrOk b w4 R W H k g o cp A F p (i+1)):=by
    have hst:=HST.out;rw[Nat.sub_self]at hst;exact Lib.hid ⟨hC4.bx HBL3.out (fun a ha=>HNL.out a ha),HC3.out.trans hC4,_,p',{
     bx:=hC4.bx HBX.out (fun a ha=>HNH.out a ha)
     rws:=hR4
     tri:=hst.tri
     rst:=hst.rst
     rdc:=hst.rdc
     lat:=fun v=>(hst.lat v).trans (HLAT.out v)
     low:=fun a ha=>by
      rw[hst.low a (fun j hj e=>by have:=hst.tri.lt j a hj e;omega),HLO.out a (by omega)];exact HT.out.low a (by omega)
     bd:=fun j a hj ha=>q_b hst HLAT.out (fun a ha=>HA.out a (by omega)) hW hj ha }⟩
   clear HS hR4 hC4 HST HBX HBL3 HC3 HLAT HLO HNH HT
   go_wp2_with fail
   go_roundw
   case rel=>exact⟨i+1,by go_num,by omega,HI⟩
   case measure=>first|(simp[intOf];done)|(simp[intOf];omega)
  ·obtain rfl:i=R:=by omega
   have u2:¬(i:Int)<(i:Int):=by omega
   have P:Hid (TrPost b w i W k g o cp A (.returned (.slice (some ⟨H,0,none⟩) W W)) wr):=by
    obtain⟨bl,hC,F,p,T⟩:=HB.out;exact Lib.hid ⟨H,F,p,rfl,hH,T,hC⟩
   clear HB
   go_wp2_with fail
   exact bodyPost_ret (v:=.slice (some ⟨H,0,none⟩) W W) (by simp[results,Tryz.results36,go_sem]) rfl P.out
end Go.Proofs.YtgohglhefhocgaaGreat
