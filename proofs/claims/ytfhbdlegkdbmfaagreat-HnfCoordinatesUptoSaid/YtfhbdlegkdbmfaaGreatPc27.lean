/- Pc27 -/
import Derived.Test.YtfhbdlegkdbmfaaGreatPc26
import Derived.Deep.LoopGhost
import Derived.RangeFuncNested
import Derived.RangeFuncBound
import Derived.RangeFuncCalls
import Derived.RangeFuncLeaves
import Derived.RangeFuncBox
import Derived.Shelf.Abstract
import Derived.Shelf.RegionOpen
import Derived.OwnWalkIn
import Derived.TacticsInMore
import Derived.LoopNIn
import Derived.LoopIn
set_option linter.unusedVariables false
set_option linter.unusedSimpArgs false
set_option linter.unusedSectionVars false
set_option maxRecDepth 100000
set_option maxHeartbeats 8000000
namespace Go.Proofs.YtfhbdlegkdbmfaaGreat
section
open Go.RowKit
theorem p_f {n W lo:Nat}{F:Nat->Nat->Int}{p:Nat->Option Nat}{f:Nat->Int}{β:Nat->Nat}(T:DT.Tri n W F p)(h0:Bd W (β 0) f)(hm:∀i,β i<=β (i+1))
  (hs:∀i c,lo+i<W->p (lo+i)=some c->DT.rd F p lo i f (lo+i)=0\/∃m,Bd W m (F c)/\β i+m+1<=β (i+1)):∀i,lo+i<=W->Bd W (β i) (DT.rd F p lo i f)
 |0,_=>h0
 |i+1,hi=>by
  have ih:=p_f T h0 hm hs i (by omega);show Bd W (β (i+1)) (DT.tk F p (lo+i) (DT.rd F p lo i f))
  cases e:p (lo+i)with
  |none=>rw[DT.tk_none e];exact ih.mono (hm i)
  |some c=>
   rcases hs i c (by omega) e with h1|⟨m,h1,h2⟩
   ·rw[DT.tk_zero h1];exact ih.mono (hm i)
   ·rw[DT.tk_some e];exact ih.subm h1 (c:=β i) (Nat.lt_of_le_of_lt (h_r _ _ (T.pos _ _ (by omega) e)) (ih _ (by omega))) (by omega) (by omega)
def tvl (W:Nat)(g o cp:Nat->Nat)(p:Nat->Option Nat)(k:Nat):Value:=match p k with|none=>.slice none 0 0|some a=>rwV (g a) (o a) W (cp a)
def tcs (W:Nat)(g o cp:Nat->Nat)(p:Nat->Option Nat):List Value:=(List.range W).map (tvl W g o cp p)
section
variable {W k a:Nat}{g o cp:Nat->Nat}{p:Nat->Option Nat}
theorem tcs_len:(tcs W g o cp p).length=W:=by simp[tcs]
theorem d_y (hk:k<W)(e:p k=none):(tcs W g o cp p)[k]? =some (.slice none 0 0):=by simp[tcs,hk,tvl,e]
theorem f_g (hk:k<W)(e:p k=some a):(tcs W g o cp p)[k]? =some (rwV (g a) (o a) W (cp a)):=by simp[tcs,hk,tvl,e]
theorem l_8 (v:Value)(hv:v∈tcs W g o cp p):∃A n c,v= .slice A n c:=by
 obtain⟨k,-,rfl⟩:=List.mem_map.1 hv;unfold tvl;split
 ·exact⟨_,_,_,rfl⟩
 ·exact⟨_,_,_,rfl⟩
theorem o_v {w:World}{H:Nat}(b:Bx w H 25 (tcs W g o cp p)):Wless w H:=b.now fun v hv m e=>by
 obtain⟨A,n,c,rfl⟩:=l_8 v hv;cases e
theorem o_u (hk:k<W):(tcs W g o cp p).set k (rwV (g a) (o a) W (cp a))=tcs W g o cp fun l=>if l=k then some a else p l:=by
 apply List.ext_getElem
 ·rw[List.length_set,tcs_len,tcs_len]
 ·intro j h1 h2;rw[tcs_len]at h2;rw[List.getElem_set];by_cases e:k=j
  ·subst e;rw[if_pos rfl];simp[tcs,tvl]
  ·rw[if_neg e];simp[tcs,tvl,Ne.symm e]
theorem opIxT {H i n c:Nat}{X Y:Operand}(h:i<n)(w:World):RunTwo Tryz.prog (.indexAddr 99 X Y) w (.slice (some ⟨H,0,none⟩) n c) (.int .i64 (i:Int)) (.pointer (some ⟨H,i,none⟩)):=by
 unfold RunTwo;simp[go_sem,Tryz.underlying99,show Tryz.prog.cellsOf 25=1 by kernel_rfl];omega
end
def NlPost (w:World)(e:Ending)(w':World):Prop:=e= .returned (.tuple #[])/\Below w.heap.size w w'
def HrPost (b:Nat)(w:World)(n W:Nat)(g o:Nat->Nat)(F:Nat->Nat->Int)(a:Nat)(f:Nat->Int)(v:Value)(e:Ending)(w':World):Prop:=
 e= .returned v/\Rws b w' n W g o (DT.upd F a f)/\w.grownBy w' (some (g a))
theorem i_d {b n N W H lo β κ ca:Nat}{g o cp:Nat->Nat}{F:Nat->Nat->Int}{p:Nat->Option Nat}{a:Nat}{w:World}(bx:Bx w H 25 (tcs W g o cp p))(r:Rws b w n W g o F)(hb:b<=w.heap.size)(T:DT.Tri N W F p)(hN:N<=n)(ha:a<n)(hne:∀k c,lo<=k->k<W->p k=some c->c≠a)(hlo:lo<=W)(hW:W<=1048576)(hβ:∀i,lo+i<=W->Bd W β (DT.rd F p lo i (F a)))(hκ:∀k c,lo<=k->k<W->p k=some c->Bd W κ (F c))(hK:β+κ+3<=549755813888):
  Calls Tryz.prog 161 #[.slice (some ⟨H,0,none⟩) W W,rwV (g a) (o a) W ca,.int .i64 (lo:Int)] w (HrPost b w n W g o F a (DT.rd F p lo (W - lo) (F a)) (.tuple #[])):=by
 have HBX:=Lib.hid bx;have HT:=Lib.hid T;have HNE:=Lib.hid hne;have HB_:=Lib.hid hβ;have HK_:=Lib.hid hκ;have HNH:=Lib.hid (r.ne bx (by decide) ha);have HI:Hid (w.grownBy w (some (g a))/\Rws b w n W g o (DT.upd F a (DT.rd F p lo 0 (F a)))):=Lib.hid ⟨a_6 _ _,by show Rws b w n W g o (DT.upd F a (F a));rw[DT.upd_id];exact r⟩;clear bx T hne hβ hκ r;go_enter Tryz.func161,Tryz.ntmps161
 go_wp2_with fail
 go_loopw [6] (fun s6 wr=>∃j:Nat,s6= .int .i64 ((lo+j:Nat):Int)/\lo+j<=W/\Hid (w.grownBy wr (some (g a))/\Rws b wr n W g o (DT.upd F a (DT.rd F p lo j (F a))))) (fun s6 _=>W - (intOf s6).toNat)
 case atStart=>exact⟨0,rfl,by omega,HI⟩
 case round=>
  obtain⟨j,rfl,hjW,HB⟩:=hrel;clear HI;obtain⟨kk,hkk⟩:∃k,lo+j=k:=⟨_,rfl⟩;rw[hkk]at hjW;have HKK:=Lib.hid hkk;rw[hkk];by_cases hlt:kk<W
  ·have u2:(kk:Int)<(W:Int):=by omega
   have hlk:lo<=kk:=by omega
   obtain⟨hG,hR⟩:=HB.out;have b0:=a_t HBX.out hG (Ne.symm HNH.out);clear HB hkk;go_upto_region 3 with fail
   cases hpk:p kk with
   |none=>
    have hv:=d_y (g:=g) (o:=o) (cp:=cp) hlt hpk;have HPK:=Lib.hid hpk;clear hpk;refine Run.start 5 ?_;refine .mv .o ?_;refine .mv .o ?_;refine .two (.i 0) (.i 1) (opIxT hlt) ?_;refine .ld (.i 2) (ldSl b0 kk hv) ?_;refine .two (.i 3) .o (opSn (T:=0) rfl) ?_;refine .donep [some 14,some 15,some 16,some 17,some 18] ?_;intro w3 B3;refine sh [] ?_;simp only[Act.put,lS,lZ,lC];have HI:Hid (w.grownBy w3 (some (g a))/\Rws b w3 n W g o (DT.upd F a (DT.rd F p lo (j+1) (F a)))):=Lib.hid ⟨a_i hG (a_2 B3 _),by
     show Rws b w3 n W g o (DT.upd F a (DT.tk F p (lo+j) (DT.rd F p lo j (F a))))
     rw[HKK.out,DT.tk_none HPK.out];exact hR.below B3⟩
    clear hG hR b0 B3 hv
    go_wp2_with fail
    go_roundw
    case rel=>exact⟨j+1,by rw[<-Nat.add_assoc,HKK.out];go_num,by have:=HKK.out;omega,HI⟩
    case measure=>first|(simp[intOf];done)|(simp[intOf];omega)
    |some c=>
    have hv:=f_g (g:=g) (o:=o) (cp:=cp) hlt hpk;have HPK:=Lib.hid hpk;clear hpk;refine Run.start 5 ?_;refine .mv .o ?_;refine .mv .o ?_;refine .two (.i 0) (.i 1) (opIxT hlt) ?_;refine .ld (.i 2) (ldSl b0 kk hv) ?_;refine .two (.i 3) .o (opSn (T:=0) rfl) ?_;refine .donep [some 14,some 15,some 16,some 17,some 18] ?_;intro w3 B3;refine sh [] ?_;simp only[Act.put,lS,lZ,lC];replace b0:=b0.below B3;have hR3:=hR.below B3;have hG3:=a_i hG (a_2 B3 (some (g a)));have hca:c≠a:=HNE.out kk c hlk hlt HPK.out;have hcn:c<n:=by have:=HT.out.lt kk c hlt HPK.out;omega
    clear hR hG B3;go_upto_region 4 with fail
    have HTK:=Lib.hid (q_y (ca:=ca) (cc:=cp c) (k:=kk) (ka:=β) (kc:=κ) hR3 (by have:=hG3.size;omega) ha hcn hca hlt hW (fun j hj=>by rw[DT.upd_ne hca];exact HT.out.zero kk c hlt HPK.out j hj) (by rw[DT.upd_ne hca];exact HT.out.pos kk c hlt HPK.out) (by rw[DT.upd_self];exact HB_.out j (by have:=HKK.out;omega)) (by rw[DT.upd_ne hca];exact HK_.out kk c hlk hlt HPK.out) hK);have c0:w3.cell? ⟨H,kk,none⟩=some (rwV (g c) (o c) W (cp c)):=(b0.cell kk).trans hv;clear hv hR3
    go_wp2_with fail
    refine HTK.out.mono ?_;rintro e w4 ⟨s_,A_,m_,d_,rfl,-,hR4,hG4⟩;have HI:Hid (w.grownBy w4 (some (g a))/\Rws b w4 n W g o (DT.upd F a (DT.rd F p lo (j+1) (F a)))):=Lib.hid ⟨a_i hG3 hG4,by
     show Rws b w4 n W g o (DT.upd F a (DT.tk F p (lo+j) (DT.rd F p lo j (F a))))
     rw[HKK.out,DT.tk_some HPK.out];rw[DT.upd_self,DT.upd_ne hca,DT.upd_upd]at hR4;exact hR4⟩
    clear HTK hR4 hG4 hG3 b0 c0
    go_wp2_with fail
    go_roundw
    case rel=>exact⟨j+1,by rw[<-Nat.add_assoc,HKK.out];go_num,by have:=HKK.out;omega,HI⟩
    case measure=>first|(simp[intOf];done)|(simp[intOf];omega)
  ·obtain rfl:kk=W:=by omega
   have u2:¬(kk:Int)<(kk:Int):=by omega
   have P:Hid (HrPost b w n kk g o F a (DT.rd F p lo (kk - lo) (F a)) (.tuple #[]) (.returned (.tuple #[])) wr):=Lib.hid ⟨rfl,by
    have h:=HB.out.2;rw[show j=kk - lo by omega]at h;exact h,HB.out.1⟩
   clear HB hkk
   go_wp2_with fail
   exact bodyPost_ret (v:=.tuple #[]) (by simp[results,Tryz.results161,go_sem]) rfl P.out
theorem i_7 {W H:Nat}{lo:Nat}{w:World}:Calls Tryz.prog 161 #[.slice (some ⟨H,0,none⟩) W W,.slice none 0 0,.int .i64 (lo:Int)] w (NlPost w):=by
 have u1:¬(lo:Int)<0:=by omega
 go_enter Tryz.func161,Tryz.ntmps161
 go_wp2_with fail
 go_loopw [6] (fun s6 wr=>s6= .int .i64 (lo:Int)/\Hid (Below w.heap.size w wr)) (fun _ _=>0)
 case atStart=>exact⟨rfl,Lib.hid (Below.refl _ _)⟩
 case round=>
  obtain⟨rfl,HB⟩:=hrel;have P:Hid (NlPost w (.returned (.tuple #[])) wr):=Lib.hid ⟨rfl,HB.out⟩;clear HB
  go_wp2_with fail
  exact bodyPost_ret (v:=.tuple #[]) (by simp[results,Tryz.results161,go_sem]) rfl P.out
theorem m_y {b n N W H β κ ca:Nat}{g o cp:Nat->Nat}{F:Nat->Nat->Int}{p:Nat->Option Nat}{a:Nat}{w:World}(bx:Bx w H 25 (tcs W g o cp p))(r:Rws b w n W g o F)(hb:b<=w.heap.size)(T:DT.Tri N W F p)(hN:N<=n)(ha:a<n)(hne:∀k c,k<W->p k=some c->c≠a)(hca:W<=ca)(hca2:ca<=9223372036854775807)(hW:W<=1048576)(hβ:∀i,i<=W->Bd W β (DT.rd F p 0 i (F a)))(hκ:∀k c,k<W->p k=some c->Bd W κ (F c))(hK:β+κ+3<=549755813888):
  Calls Tryz.prog 157 #[.slice (some ⟨H,0,none⟩) W W,rwV (g a) (o a) W ca] w (HrPost b w n W g o F a (DT.rd F p 0 W (F a)) (.bool (decide (DT.fst W (DT.rd F p 0 W (F a))<W)))):=by
 obtain⟨f,hf⟩:∃f,DT.rd F p 0 W (F a)=f:=⟨_,rfl⟩;have hbf:Bd W β f:=by rw[<-hf];exact hβ W (Nat.le_refl _)
 obtain⟨x,hx⟩:∃x,DT.fst W f=x:=⟨_,rfl⟩;have HC:=i_d (ca:=ca) bx r hb T hN ha (fun k c _=>hne k c) (Nat.zero_le _) hW (fun i hi=>hβ i (by omega)) (fun k c _=>hκ k c) hK;rw[Nat.sub_zero,hf]at HC;rw[hf];have HCC:=Lib.hid HC;have HBF:=Lib.hid hbf;have HX:=Lib.hid hx;clear bx r T hne hβ hκ hf hbf HC;rw[hx];obtain⟨d,hd⟩:∃d,decide (x<W)=d:=⟨_,rfl⟩;rw[hd];have HD:=Lib.hid hd;clear hx hd;go_enter Tryz.func157,Tryz.ntmps157
 go_wp2_with fail
 refine HCC.out.mono ?_;rintro e w2 ⟨rfl,hR,hG⟩;have hL:=i_j (c:=ca) (hR.row a ha) (by rw[DT.upd_self];exact HBF.out) hca hca2 hW (by omega);rw[DT.upd_self,HX.out]at hL;have HL:=Lib.hid hL;have HR:=Lib.hid hR;have HG:=Lib.hid hG;clear hL hR hG HCC HBF
 go_wp2_with fail
 refine HL.out.mono ?_;rintro e w3 ⟨v,rfl,rfl,B3⟩;have P:Hid (HrPost b w n W g o F a f (.bool d) (.returned (.bool d)) w3):=Lib.hid ⟨rfl,HR.out.below B3,a_i HG.out (a_2 B3 _)⟩;clear HL HR HG B3;cases d
 ·have u2:¬(x:Int)<(W:Int):=by have:=of_decide_eq_false HD.out;omega
  go_wp2_with fail
  exact bodyPost_ret (v:=.bool false) (by simp[results,Tryz.results157,go_sem];omega) rfl P.out
 ·have u2:(x:Int)<(W:Int):=by have:=of_decide_eq_true HD.out;omega
  go_wp2_with fail
  exact bodyPost_ret (v:=.bool true) (by simp[results,Tryz.results157,go_sem]) rfl P.out
end
section
open Go.RowKit
structure Chh (w w':World) (n:Nat) (g:Nat->Nat) (H:Nat):Prop where
 os:w'.os=w.os
 tape:w'.tape=w.tape
 output:w'.output=w.output
 size:w.heap.size<=w'.heap.size
 block:∀k,k<w.heap.size->k≠H->(∀a,a<n->g a≠k)->w'.heap[k]? =w.heap[k]?
section
variable {w w' w'':World}{n b H:Nat}{g:Nat->Nat}
theorem Chg.chh (h:Chg w w' n g):Chh w w' n g H:=⟨h.os,h.tape,h.output,h.size,fun k hk _ hn=>h.block k hk hn⟩
theorem Chh.of (h:Below w.heap.size w w'):Chh w w' n g H:=(Chg.of h).chh
theorem Chh.refl (w:World):Chh w w n g H:=.of (Below.refl _ _)
theorem Chh.one {a:Nat}(ha:a<n)(h:w.grownBy w' (some (g a))):Chh w w' n g H:=(Chg.one ha h).chh
theorem Chh.trans (h:Chh w w' n g H)(h2:Chh w' w'' n g H):Chh w w'' n g H:=⟨h2.os.trans h.os,h2.tape.trans h.tape,h2.output.trans h.output,Nat.le_trans h.size h2.size,fun k hk h1 hn=>(h2.block k (Nat.lt_of_lt_of_le hk h.size) h1 hn).trans (h.block k hk h1 hn)⟩
theorem Chh.bx (h:Chh w w' n g H){x:Nat}{T:TypeId}{cs:List Value}(bx:Bx w x T cs)(hH:x≠H)(hn:∀a,a<n->g a≠x):Bx w' x T cs:=(h.block x bx.lt hH hn).trans bx
theorem Chh.set (v:Value)(k:Nat):Chh w (w.setCell ⟨H,k,none⟩ v) n g H:=by
 have h:=a_8 (q:=⟨H,k,none⟩) (a_6 w (some H)) rfl v;exact⟨h.os,h.tape,h.output,h.size,fun x hx h1 _=>h.block x hx fun e=>h1 (Option.some.inj e)⟩
end
structure PutI (N W z:Nat) (F0 F:Nat->Nat->Int) (p:Nat->Option Nat) (k0 m M:Nat):Prop where
 ps:DT.Puts N W F0 F p
 zr:∀j,j<z->F N j=0
 zW:z<=W
 bn:Bd W (k0+z*((W+1)*(m+1))) (F N)
 bh:∀k c,z<=k->k<W->p k=some c->Bd W m (F c)
 bl:∀k c,k<W->p k=some c->Bd W M (F c)
section
variable {N W z k0 m M:Nat}{F0 F:Nat->Nat->Int}{p:Nat->Option Nat}
theorem n_y {W z m:Nat}(hz:z<=W):z*((W+1)*(m+1))+W*(m+1)+(m+1)<=(W+1)*((W+1)*(m+1)):=by
 have h1:z*((W+1)*(m+1))<=W*((W+1)*(m+1)):=Nat.mul_le_mul_right _ hz;have h2:(W+1)*((W+1)*(m+1))=W*((W+1)*(m+1))+(W+1)*(m+1):=by rw[Nat.succ_mul]
 have h3:(W+1)*(m+1)=W*(m+1)+(m+1):=by rw[Nat.succ_mul]
 omega
theorem PutI.steps (h:PutI N W z F0 F p k0 m M):∀i,i<=W->Bd W (k0+z*((W+1)*(m+1))+i*(m+1)) (DT.rd F p 0 i (F N)):=fun i hi=>by
 have:=p_f (lo:=0) (f:=F N) (β:=fun i=>k0+z*((W+1)*(m+1))+i*(m+1)) h.ps.tri (by simpa using h.bn) (fun i=>by have:=Nat.add_mul i 1 (m+1);show _+i*(m+1)<=_+(i+1)*(m+1);omega) (fun i c hi hc=>by
  by_cases e:i<z
  ·left;exact h.ps.tri.rd_zero h.zr i (by omega) _ (by omega)
  ·right;refine⟨m,h.bh i c (by omega) (by omega) (by rw[Nat.zero_add]at hc;exact hc), ?_⟩
   have:=Nat.add_mul i 1 (m+1);show _+i*(m+1)+m+1<=_+(i+1)*(m+1)
   omega) i (by omega)
 exact this
theorem PutI.bd (h:PutI N W z F0 F p k0 m M){E:Nat}(hE:k0+(W+1)*((W+1)*(m+1))<=E):∀i,i<=W->Bd W E (DT.rd F p 0 i (F N)):=fun i hi=>(h.steps i hi).mono (by
 have h1:=n_y (m:=m) h.zW;have h2:i*(m+1)<=W*(m+1):=Nat.mul_le_mul_right _ hi;omega)
theorem PutI.red (h:PutI N W z F0 F p k0 m M):DT.Puts N W F0 (DT.upd F N (DT.rd F p 0 W (F N))) p/\(∀j,j<z->DT.rd F p 0 W (F N) j=0):=
 ⟨h.ps.red,h.ps.tri.rd_zero h.zr W (by omega)⟩
theorem PutI.join (h:PutI N W z F0 F p k0 m M){k c K:Nat}{x y s t G:Int}{f:Nat->Int}(hf:DT.rd F p 0 W (F N)=f)(hk:DT.fst W f=k)(hkW:k<W)(hc:p k=some c)(hG:0<G)(h1:x*F c k+y*f k=G)(h2:s*G=F c k)(h3:t*G=f k)
  (hx:x.natAbs<18446744073709551616^K) (hy:y.natAbs<18446744073709551616^K) (hK:K+(k0+(W+1)*((W+1)*(m+1)))+m+1<=M):
  PutI N W (k+1) F0 (DT.upd (DT.upd (DT.upd F N f) c fun j=>x*F c j+y*f j) N fun j=>s*f j - t*F c j) p k0 m M/\z<=k:=by
 have hcN:=h.ps.tri.lt k c hkW hc;have hr:=h.red;rw[hf]at hr;have hz0:∀j,j<k->f j=0:=fun j hj=>DT.fst_zero (C:=W) (by omega);have hzk:z<=k:=by
  refine Nat.le_of_not_lt fun hlt=>?_;have h5:=DT.fst_ne (C:=W) (u:=f) (by omega);rw[hk]at h5;exact h5 (hr.2 k hlt)
 have e1:DT.upd F N f c=F c:=DT.upd_ne (by omega);have e2:DT.upd F N f N=f:=DT.upd_self _ _ _;have hj:=hr.1.join (k:=k) (b:=c) (x:=x) (y:=y) (s:=s) (t:=t) (g:=G) hkW (fun j hj=>by rw[e2];exact hz0 j hj) hc hG (by rw[e1,e2];exact h1) (by rw[e1];exact h2) (by rw[e2];exact h3);rw[e1,e2]at hj;have hs:=h.steps W (Nat.le_refl _);rw[hf]at hs;have hbc:=h.bh k c hzk hkW hc;have hle:=n_y (m:=m) (z:=k) (W:=W) (by omega);have hzz:z*((W+1)*(m+1))<=k*((W+1)*(m+1)):=Nat.mul_le_mul_right _ hzk;have hk1:(k+1)*((W+1)*(m+1))=k*((W+1)*(m+1))+(W+1)*(m+1):=Nat.succ_mul _ _;have hw1:(W+1)*(m+1)=W*(m+1)+(m+1):=Nat.succ_mul _ _;have hs1:s.natAbs<18446744073709551616^m:=by
  have h6:=hbc k hkW;rw[<-h2,Int.natAbs_mul]at h6;exact Nat.lt_of_le_of_lt (Nat.le_mul_of_pos_right _ (by omega)) h6
 have ht1:t.natAbs<18446744073709551616^(k0+z*((W+1)*(m+1))+W*(m+1)):=by
  have h6:=hs k hkW;rw[<-h3,Int.natAbs_mul]at h6;exact Nat.lt_of_le_of_lt (Nat.le_mul_of_pos_right _ (by omega)) h6
 refine⟨⟨hj.1,fun j hj'=>by rw[DT.upd_self];exact hj.2 j hj',by omega, ?_,fun l d hl hlW hd=>?_,fun l d hlW hd=>?_⟩,hzk⟩
 ·rw[DT.upd_self];exact hs.comb' hbc hs1 ht1 (by omega) (by omega)
 ·have hdN:=h.ps.tri.lt l d hlW hd;have hdc:d≠c:=fun e=>by subst e;have:=h.ps.tri.inj l k d hlW hkW hd hc;omega
  rw[DT.upd_ne (by omega),DT.upd_ne hdc,DT.upd_ne (by omega)];exact h.bh l d (by omega) hlW hd
 ·have hdN:=h.ps.tri.lt l d hlW hd;by_cases hdc:d=c
  ·subst hdc;rw[DT.upd_ne (by omega),DT.upd_self];exact hbc.comb hs hx hy (by omega) (by omega)
  ·rw[DT.upd_ne (by omega),DT.upd_ne hdc,DT.upd_ne (by omega)];exact h.bl l d hlW hd
theorem PutI.start (T:DT.Tri N W F p)(hr:DT.Rst N W F p)(hn:Bd W k0 (F N))(hm:∀k c,k<W->p k=some c->Bd W m (F c))(hM:m<=M):PutI N W 0 F F p k0 m M:=
 ⟨.start T hr,fun j hj=>by omega,Nat.zero_le _,by simpa using hn,fun k c _=>hm k c,fun k c hk hc=>(hm k c hk hc).mono hM⟩
end
def PuPost (b:Nat)(w:World)(n N W H:Nat)(g o cp:Nat->Nat)(F:Nat->Nat->Int)(M:Nat)(e:Ending)(w':World):Prop:=
 e= .returned (.tuple #[])/\∃p' F',DT.Tri (N+1) W F' p'/\DT.Rst (N+1) W F' p'/\(∀v,DT.Lat (N+1) W F' v↔DT.Lat (N+1) W F v)/\(∀a,N<a->F' a=F a)/\(∀k c,k<W->p' k=some c->Bd W M (F' c))/\Bx w' H 25 (tcs W g o cp p')/\Rws b w' n W g o F'/\Chh w w' n g H
theorem s_g {b n N W H k0 m M E:Nat}{g o cp:Nat->Nat}{F:Nat->Nat->Int}{p:Nat->Option Nat}{w:World}(bx:Bx w H 25 (tcs W g o cp p))(r:Rws b w n W g o F)(hb:b<=w.heap.size)(hN:N<n)(hI:PutI N W 0 F F p k0 m M)(hcp:W<=cp N)(hcp2:cp N<=9223372036854775807)(hW:W<=1048576)
  (hE:k0+(W+1)*((W+1)*(m+1))<=E) (hM:2*E+2*m+5<=M) (hM2:2*M+3<=68719476736):
  Calls Tryz.prog 125 #[.slice (some ⟨H,0,none⟩) W W,rwV (g N) (o N) W (cp N)] w (PuPost b w n N W H g o cp F M):=by
 have HI:Hid (PutI N W 0 F F p k0 m M/\Rws b w n W g o F/\Bx w H 25 (tcs W g o cp p)/\Chh w w n g H):=Lib.hid ⟨hI,r,bx,.refl w⟩;have HE:=Lib.hid hE;have HM:=Lib.hid hM;clear hI r bx hE hM;go_enter Tryz.func125,Tryz.ntmps125
 go_wp2_with fail
 go_loopg [] W (fun gk wr=>∃z F',gk=W - z/\Hid (PutI N W z F F' p k0 m M/\Rws b wr n W g o F'/\Bx wr H 25 (tcs W g o cp p)/\Chh w wr n g H))
 case atStart=>exact⟨0,F,rfl,HI⟩
 case round=>
  obtain⟨z,F',hgk,HB⟩:=hrel;have HGK:=Lib.hid hgk;clear HI hgk;have hI:=HB.out.1;have hne:∀k c,k<W->p k=some c->c≠N:=fun k c hk hc=>hI.ps.ne hk hc;obtain⟨f,hf⟩:∃f,DT.rd F' p 0 W (F' N)=f:=⟨_,rfl⟩;have hbE:=hI.bd HE.out;have HL:=m_y (ca:=cp N) HB.out.2.2.1 HB.out.2.1 (by have:=HB.out.2.2.2.size;omega) hI.ps.tri (Nat.le_of_lt hN) hN hne hcp hcp2 hW hbE hI.bl (by have:=HM.out;omega);have hfE:=hbE W (Nat.le_refl _);rw[hf]at HL hfE;have HFE:=Lib.hid hfE;have HLL:=Lib.hid HL;have HF:=Lib.hid hf;have hWN:=hI.zW;clear hI hne hbE HL hfE hf
  go_wp2_with fail
  refine HLL.out.mono ?_;rintro e w2 ⟨rfl,hR,hG⟩;have HR:=Lib.hid hR;have hNg:=Lib.hid ((HB.out.2.1).ne HB.out.2.2.1 (by decide) hN);have HBX:=Lib.hid (a_t HB.out.2.2.1 hG (Ne.symm hNg.out));have HCH:=Lib.hid (HB.out.2.2.2.trans (Chh.one hN hG));clear hR hG HLL;by_cases hlt:DT.fst W f<W
  ·obtain⟨k,hk⟩:∃k,DT.fst W f=k:=⟨_,rfl⟩;rw[hk]at hlt;have HKE:=Lib.hid hk;have hdt:decide (DT.fst W f<W)=true:=decide_eq_true (by rw[hk];exact hlt);rw[hdt];have hL:=i_j (c:=cp N) (HR.out.row N hN) (by rw[DT.upd_self];exact HFE.out) hcp hcp2 hW (by have:=HM.out;omega);rw[DT.upd_self,hk]at hL;have HLD:=Lib.hid hL;clear hL hk hdt
   go_wp2_with fail
   refine HLD.out.mono ?_;rintro e w3 ⟨v,rfl,rfl,B3⟩;have HR3:=Lib.hid (HR.out.below B3);have b0:=HBX.out.below B3;have HCH3:=Lib.hid (HCH.out.trans (.of B3));clear B3 HLD HR HBX HCH;go_upto_region 2 with fail
   cases hpk:p k with
   |none=>
    have hv:=d_y (g:=g) (o:=o) (cp:=cp) hlt hpk;have HPK:=Lib.hid hpk;clear hpk;refine Run.start 5 ?_;refine .mv .o ?_;refine .mv .o ?_;refine .two (.i 0) (.i 1) (opIxT hlt) ?_;refine .ld (.i 2) (ldSl b0 k hv) ?_;refine .two (.i 3) .o (opSe (T:=0) rfl) ?_;refine .donep [some 10,some 11,some 12,some 13,some 14] ?_;intro w4 B4;refine sh [] ?_;simp only[Act.put,lS,lZ,lC];have hA:=q_n (ca:=cp N) (HR3.out.below B4) hN hlt hW (by rw[DT.upd_self];exact HFE.out) (by have:=HM.out;omega);rw[DT.upd_self]at hA;have HA:=Lib.hid hA;replace b0:=b0.below B4;have HCH4:=Lib.hid (HCH3.out.trans (.of B4));clear hA hv B4 HR3 HCH3
    go_wp2_with fail
    refine HA.out.mono ?_;rintro e w5 ⟨rfl,hR5,hG5⟩;obtain⟨f2,hf2⟩:∃f2,(if f k<0 then fun j=>- f j else f)=f2:=⟨_,rfl⟩;rw[DT.upd_upd,hf2]at hR5;have b5:=a_t b0 hG5 (Ne.symm hNg.out);have hCH5:=HCH4.out.trans (Chh.one hN hG5);have c0:=(b5.cell k).trans (d_y hlt HPK.out);have c1:=b5.free k;have P:Hid (PuPost b w n N W H g o cp F M (.returned (.tuple #[])) (w5.setCell ⟨H,k,none⟩ (rwV (g N) (o N) W (cp N)))):=by
     have hI:=HB.out.1;have hr:=hI.red;rw[HF.out]at hr;have hne0:=DT.fst_ne (C:=W) (u:=f) (by rw[HKE.out];exact hlt);rw[HKE.out]at hne0;have hf2':f2=f\/f2=fun j=>- f j:=by rw[<-hf2];split;exact .inr rfl;exact .inl rfl
     have hpos:0<f2 k:=by
      rw[<-hf2];split
      ·show 0< - f k;omega
      ·omega
     have hrm:=hr.1.room (k:=k) (f:=f2) (p':=fun l=>if l=k then some N else p l) hlt (fun j hj=>by rw[DT.upd_self];exact DT.fst_zero (C:=W) (by rw[HKE.out];exact hj)) (by rw[DT.upd_self];exact hf2') hpos HPK.out rfl;rw[DT.upd_upd]at hrm;refine Lib.hid ⟨rfl,_,_,hrm.1,hrm.2.1,hrm.2.2,fun a ha=>by rw[DT.upd_ne (by omega)];exact hI.ps.low a ha,fun l c hl hc=>?_, ?_,hR5.gro (fun a ha=>hR5.ne b5 (by decide) ha) (o_v b5) (a_8 (q:=⟨H,k,none⟩) (a_6 w5 (some H)) rfl _),hCH5.trans (.set _ _)⟩
     ·by_cases e:l=k
      ·rw[if_pos e]at hc;obtain rfl:=Option.some.inj hc;rw[DT.upd_self];rcases hf2' with e2|e2<;>rw[e2]
       ·exact HFE.out.mono (by have:=HM.out;omega)
       ·exact HFE.out.neg.mono (by have:=HM.out;omega)
      ·rw[if_neg e]at hc
       have:=hI.ps.tri.lt l c hl hc;rw[DT.upd_ne (by omega)];exact hI.bl l c hl hc
     ·have h:=b5.set k (rwV (g N) (o N) W (cp N));rw[o_u hlt]at h;exact h
    clear HA hR5 hG5 b0 b5 hCH5 HCH4 HB hf2
    go_wp2_with fail
    exact bodyPost_ret (v:=.tuple #[]) (by simp[results,Tryz.results125,go_sem]) rfl P.out
    |some c=>
    have hv:=f_g (g:=g) (o:=o) (cp:=cp) hlt hpk;have HPK:=Lib.hid hpk;clear hpk;refine Run.start 5 ?_;refine .mv .o ?_;refine .mv .o ?_;refine .two (.i 0) (.i 1) (opIxT hlt) ?_;refine .ld (.i 2) (ldSl b0 k hv) ?_;refine .two (.i 3) .o (opSe (T:=0) rfl) ?_;refine .donep [some 10,some 11,some 12,some 13,some 14] ?_;intro w4 B4;refine sh [] ?_;simp only[Act.put,lS,lZ,lC];have hI:=HB.out.1;have hcN:=hI.ps.tri.lt k c hlt HPK.out;have hzk:z<=k:=by
     refine Nat.le_of_not_lt fun hz=>?_;have h5:=DT.fst_ne (C:=W) (u:=f) (by rw[HKE.out];exact hlt);rw[HKE.out]at h5;have h6:=hI.red.2 k hz;rw[HF.out]at h6;exact h5 h6
    have hJ:=r_p (ca:=cp N) (cc:=cp c) (k:=k) (a:=N) (c:=c) (ka:=E) (kc:=m) (K:=E+m+4) (HR3.out.below B4) hN (by omega) (by omega) hlt hW (fun j hj=>by rw[DT.upd_ne (by omega)];exact hI.ps.tri.zero k c hlt HPK.out j hj) (fun j hj=>by rw[DT.upd_self];exact DT.fst_zero (C:=W) (by rw[HKE.out];exact hj)) (by rw[DT.upd_ne (by omega)];exact hI.ps.tri.pos k c hlt HPK.out) (by rw[DT.upd_self];have h5:=DT.fst_ne (C:=W) (u:=f) (by rw[HKE.out];exact hlt);rw[HKE.out]at h5;exact h5) (by rw[DT.upd_self];exact HFE.out) (by rw[DT.upd_ne (by omega)];exact hI.bh k c hzk hlt HPK.out) (by omega) (by have:=HM.out;omega);have HJ:=Lib.hid hJ;replace b0:=b0.below B4;have HCH4:=Lib.hid (HCH3.out.trans (.of B4));have c0:=(b0.cell k).trans hv;clear hJ hv B4 HR3 HCH3 hI hcN hzk
    go_wp2_with fail
    refine HJ.out.mono ?_;rintro e w5 ⟨rfl,x,y,s,t,G,hG,h1,h2,h3,hx,hy,hR5,hC5⟩;have hI:=HB.out.1;have hcN:=hI.ps.tri.lt k c hlt HPK.out;rw[DT.upd_self,DT.upd_ne (show c≠N by omega)]at h1 hR5;rw[DT.upd_ne (show c≠N by omega)]at h2;rw[DT.upd_self]at h3;have hj:=hI.join HF.out HKE.out hlt HPK.out hG h1 h2 h3 hx hy (by have h7:=HM.out;have h8:=HE.out;omega);have HI:∃F'',Hid (PutI N W (k+1) F F'' p k0 m M/\Rws b w5 n W g o F''/\Bx w5 H 25 (tcs W g o cp p)/\Chh w w5 n g H):=⟨_,Lib.hid ⟨hj.1,hR5,hC5.bx b0 (fun a ha=>hR5.ne (hC5.bx b0 (fun a ha e=>hNg.out (by
      exact absurd e ((HB.out.2.1).ne HB.out.2.2.1 (by decide) ha)))) (by decide) ha),HCH4.out.trans hC5.chh⟩⟩
    have hms:W - (k+1)<gk:=by rw[HGK.out];have:=hj.2;omega
    clear HJ hR5 hC5 b0 HCH4 HB c0 hI hj h1 h2 h3 hx hy hG
    go_wp2_with fail
    go_roundg (W - (k+1))
    case measure=>exact hms
    case rel=>
     obtain⟨F'',HI⟩:=HI;exact⟨k+1,F'',rfl,HI⟩
  ·skip
   have hdt:decide (DT.fst W f<W)=false:=decide_eq_false hlt;rw[hdt];have P:Hid (PuPost b w n N W H g o cp F M (.returned (.tuple #[])) w2):=by
    have hI:=HB.out.1;have hr:=hI.red;rw[HF.out]at hr;have hgn:=hr.1.gone (fun j hj=>by rw[DT.upd_self];exact DT.row_zero hlt hj);refine Lib.hid ⟨rfl,p,_,hgn.1,hgn.2,hr.1.lat,hr.1.low,fun k c hk hc=>?_,HBX.out,HR.out,HCH.out⟩
    have:=hI.ps.tri.lt k c hk hc;rw[DT.upd_ne (by omega)];exact hI.bl k c hk hc
   clear HB HR HBX HCH hdt
   go_wp2_with fail
   exact bodyPost_ret (v:=.tuple #[]) (by simp[results,Tryz.results125,go_sem]) rfl P.out
end
section
namespace DT
variable {R C n W X D:Nat}{M N G A F F' F0:Mx}{u v:Nat->Int}{p p':Nat->Option Nat}
def stl (p:Nat->Option Nat)(W k:Nat)(F:Mx):Mx:=if k<W then(match p k with|none=>F|some a=>upd F a (rd F p (k+1) (W - (k+1)) (F a)))else F
theorem stl_none {k:Nat}(h:p k=none):stl p W k F=F:=by
 unfold stl;rw[h];split<;>rfl
theorem stl_some {k a:Nat}(hk:k<W)(h:p k=some a):stl p W k F=upd F a (rd F p (k+1) (W - (k+1)) (F a)):=by
 unfold stl;rw[if_pos hk,h]
theorem stl_off {k:Nat}(hk:¬k<W):stl p W k F=F:=by unfold stl;rw[if_neg hk]
structure SetO (n W X:Nat) (F0 F:Mx) (p:Nat->Option Nat):Prop where
 tri:Tri n W F p
 rst:Rst n W F p
 lat:∀v,Lat n W F v↔Lat n W F0 v
 low:∀a,(∀k,k<W->p k≠some a)->F a=F0 a
 piv:∀k a l c,k<W->l<W->p k=some a->p l=some c->(F a l).natAbs<=X
theorem SetO.start (h:Tri n W F p)(hr:Rst n W F p)(hX:∀k a l,k<W->l<W->p k=some a->(F a l).natAbs<=X):SetO n W X F F p:=⟨h,hr,fun _=>Iff.rfl,fun _ _=>rfl,fun k a l c hk hl ha _=>hX k a l hk hl ha⟩
theorem SetO.step (h:SetO n W X F0 F p)(m:Nat):SetO n W X F0 (stl p W m F) p:=by
 by_cases hm:m<W
 ·cases e:p m with
  |none=>rw[stl_none e];exact h
  |some a=>
   rw[stl_some hm e];have hne:∀ {l b:Nat},m<l->l<W->p l=some b->b≠a:=fun {l b} h1 h2 hb e2=>by
    subst e2
    have:=h.tri.inj l m b h2 hm hb e;omega
   have hlow:=h.tri.rd_low (lo:=m+1) (f:=F a) (W - (m+1)) (by omega);refine⟨⟨h.tri.lt,h.tri.inj,fun l b hl hb j hj=>?_,fun l b hl hb=>?_⟩,fun b hb hno j hj=>?_,fun v=>?_,fun b hno=>?_,fun k b l c hk hl hb hc=>?_⟩
   ·by_cases e2:b=a
    ·subst e2;obtain rfl:=h.tri.inj l m b hl hm hb e;rw[upd_self,hlow j (by omega)];exact h.tri.zero l b hl hb j hj
    ·rw[upd_ne e2];exact h.tri.zero l b hl hb j hj
   ·by_cases e2:b=a
    ·subst e2;obtain rfl:=h.tri.inj l m b hl hm hb e;rw[upd_self,hlow l (by omega)];exact h.tri.pos l b hl hb
    ·rw[upd_ne e2];exact h.tri.pos l b hl hb
   ·rw[upd_ne (fun e2=>by subst e2;exact hno m hm e)];exact h.rst b hb hno j hj
   ·have h1:=i_l (n:=n) (W:=W) (F:=F) (p:=p) (a:=a) (lo:=m+1) (h.tri.lt m a hm e) (F a) (W - (m+1)) (fun k b h1 h2 hb=>⟨h.tri.lt k b (by omega) hb,hne (by omega) (by omega) hb⟩) v;rw[h1,upd_id,h.lat]
   ·rw[upd_ne (fun e2=>by subst e2;exact hno m hm e)];exact h.low b hno
   ·by_cases e2:b=a
    ·subst e2;obtain rfl:=h.tri.inj k m b hk hm hb e;rw[upd_self];rcases Nat.lt_or_ge l (k+1)with h3|h3
     ·rw[hlow l h3];exact h.piv k b l c hk hl hb hc
     ·have h4:=h.tri.rd_red (lo:=k+1) (f:=F b) (W - (k+1)) (by omega) l c h3 (by omega) hc;have h5:=h.piv l c l c hl hl hc hc;omega
    ·rw[upd_ne e2];exact h.piv k b l c hk hl hb hc
 ·rw[stl_off hm];exact h
theorem SetO.le (h:SetO n W X F0 F p)(e:∀v,Lat n W F0 v↔Lat R W A v)(hD:∀f q:Nat->Nat,(∀i,i<(rl p W).length->f i<R)->(∀i,i<(rl p W).length->q i<W)->(det (rl p W).length fun i j=>A (f i) (q j)).natAbs<=D)
  {k a:Nat} (hk:k<W) (ha:p k=some a) {j:Nat} (hj:j<W):(F a j).natAbs<=(rl p W).length*(X*D):=by
 refine r_n h.tri.steps (fun l hl=>h.tri.full hl) (fun v=>(h.tri.lat h.rst v).trans ((h.lat v).trans (e v))) hD ((h.tri.lat h.rst _).mpr (Lat.row n W F (h.tri.lt k a hk ha))) (fun l hl=>?_) hj;obtain⟨k',a',h1,h2,-,h3,h4⟩:=h.tri.row hl;rw[h4];exact h.piv k a k' a' hk h1 ha h2
theorem Sets.step {m:Nat}(h:Sets n W (m+1) F F' p)(hm:m<W):Sets n W m F (stl p W m F') p:=by
 cases e:p m with
 |none=>rw[stl_none e];exact h.none e
 |some a=>rw[stl_some hm e];exact h.some hm e
theorem Sets.herm_le (h:Sets n W 0 F F' p)(e:∀v,Lat n W F v↔Lat R W A v)(hD:∀f q:Nat->Nat,(∀i,i<(rl p W).length->f i<R)->(∀i,i<(rl p W).length->q i<W)->(det (rl p W).length fun i j=>A (f i) (q j)).natAbs<=D)
  {k a:Nat} (hk:k<W) (ha:p k=Option.some a) {j:Nat} (hj:j<W):(F' a j).natAbs<=(rl p W).length*D:=by
 have hm:=rl_mem.mpr ⟨k,hk,ha⟩;obtain⟨i,hi,hi2⟩:=List.getElem_of_mem hm
 have:=DT.herm_le (h.tri.herm h.rdc) (fun l hl=>h.tri.full hl) (fun v=>(h.tri.lat h.rst v).trans ((h.lat v).trans (e v))) hD i j hi hj;rwa [show srt F' p W i=F' a by unfold srt;rw[show(rl p W).getD i 0=a by simp[List.getD,hi,hi2]]]at this
end DT
end
section
open Go.RowKit Go.Shelf
attribute [local go_sem] Oper.semAt_some
def upto {α:Type}(f:Nat->α)(k:Nat):List α:=(List.range k).map f
theorem d_8 {α:Type}(f:Nat->α)(k:Nat):upto f (k+1)=upto f k++[f k]:=by simp[upto,List.range_succ]
theorem g_5 {α:Type}(f:Nat->α)(k:Nat):(upto f k).length=k:=by simp[upto]
end
end Go.Proofs.YtfhbdlegkdbmfaaGreat
