/- Pq33 -/
import Derived.Test.YtfhbdlegkdbmfaaGreatPq32
import Derived.RegionTactic
import Derived.BigRegion
import Derived.Deep.AppendLies
set_option linter.unusedVariables false
set_option linter.unusedSimpArgs false
set_option linter.unusedSectionVars false
set_option maxRecDepth 100000
set_option maxHeartbeats 8000000
namespace Go.Proofs.YtfhbdlegkdbmfaaGreat
section
open Go.RowKit
def kIx (p:Bool):FK:=.f (fun v _=>∃z:Int,v= .int .i64 z/\decide (0<=z)=p) (fun v w w' h _=>h)
theorem nz_q {s:Bool}{A:Option Addr}{n c:Nat}{z:Int}{w:World}(hz:Zv w s A n c z)(hn:n<=1099511627776):Calls Tryz.prog 172 #[.agg #[.bool s,.slice A n c]] w (RetK (.k (.bool (decide (z≠0)))) w):=by
 obtain⟨p,hp⟩:∃p,decide (z≠0)=p:=⟨_,rfl⟩;obtain⟨x,hx⟩:∃x,z.sign=x:=⟨_,rfl⟩;have HX:=Lib.hid hx;have hxp:decide (x≠0)=p:=by rw[<-hp,<-hx];exact decide_eq_decide.2 (not_congr Int.sign_eq_zero_iff_zero)
 rw[hp];have HZV:=Lib.hid hz;clear hp hx hz;obtain⟨w1,hw1,b1,z1,s1⟩:=boxes1 w 31 [.bool s,.slice A n c];have HW:=Lib.hid hw1;have HZ:=Lib.hid z1;have hxp_:=Lib.hid hxp;clear hw1 z1 hxp s1;go_enter Tryz.func172,Tryz.ntmps172
 go_upto_region 1 with fail
 rw[HW.out];have hw1:Below w.heap.size w w1:=HZ.out;refine Run.start 4 ?_;refine .ld .o (ldZ b1 0) ?_;refine .c1 (.i 0) (x:=.k (.int .i64 x)) (by rintro u w4 hB rfl;exact a_z ⟨_,_,_,_,rfl,HZV.out.below (zup hw1 hB),Nat.le_refl _⟩ hn HX.out) ?_;refine .two (.i 1) .o (opNe hxp_.out) ?_;refine .mv (.i 2) ?_;refine .donep [some 3,some 4,some 5,some 2] ?_;intro w2 B2;refine sh [] ?_;simp only[Act.put,lS,lZ,lC];have P:Hid (RetK (.k (.bool p)) w (.returned (.bool p)) w2):=Lib.hid ⟨_,rfl,rfl,zup HZ.out B2⟩
 go_wp2_with fail
 exact bodyPost_ret (v:=.bool p) (by simp[results,Tryz.results172,go_sem]) rfl P.out
theorem y_m {q:Bool}{n c k:Nat}{A:Option Addr}{zs:List Int}{w:World}(hx:ZL q w A n c k zs)(hl:n<=4096)(hk:k<=1099511627776)(f:Nat->Bool)(hf:∀j,j<n->f j=decide (ith zs j≠0)):Calls Tryz.prog 130 #[.slice A n c,(.func (.func 172) #[] #[])] w (RetK (kIx ((List.range n).any f)) w):=by
 have HF:=Lib.hid hf;have HX:=Lib.hid hx;clear hf hx;go_enter Tryz.func130,Tryz.ntmps130
 go_wp2_with fail
 go_loopw [8] (fun s8 wr=>∃j:Nat,s8= .int .i64 (j:Int)/\j<=n/\Hid (Below w.heap.size w wr/\∀a,a<j->f a=false)) (fun s8 _=>n - (intOf s8).toNat)
 case atStart=>exact⟨0,rfl,Nat.zero_le _,Lib.hid ⟨Below.refl _ _,fun a ha=>by omega⟩⟩
 case round=>
  obtain⟨j,rfl,hj,HB⟩:=hrel;by_cases hlt:j<n
  ·have u2:(j:Int)<(n:Int):=by omega
   obtain⟨ad,rfl,hab,s',A',n',c',c1,c2,hz,hk'⟩:=(HX.out.below HB.out.1).at hlt
   go_wp2_with fail
   refine(nz_q hz.1 (by omega)).mono ?_;rintro e w2 ⟨v,rfl,rfl,B⟩;obtain⟨p,hp⟩:∃p,decide (ith zs j≠0)=p:=⟨_,rfl⟩;have hfp:f j=p:=(HF.out j hlt).trans hp;try rw[hp]
   have HFP:=Lib.hid hfp;have B0:=Lib.hid (zup HB.out.1 B);clear hp hfp B c1;cases p
   ·have HS:Hid (Below w.heap.size w w2/\∀a,a<j+1->f a=false):=Lib.hid ⟨B0.out,fun a ha=>by
     by_cases e:a=j
     ·subst e;exact HFP.out
     ·exact HB.out.2 a (by omega)⟩
    clear HB B0
    go_wp2_with fail
    go_roundw
    case rel=>exact⟨j+1,by go_num,by omega,HS⟩
    case measure=>first|(simp[intOf];done)|(simp[intOf];omega)
   ·have P:Hid (RetK (kIx ((List.range n).any f)) w (.returned (.int .i64 (j:Int))) w2):=Lib.hid ⟨_,rfl,⟨_,rfl,by
     rw[List.any_eq_true.2 ⟨j,List.mem_range.2 hlt,HFP.out⟩];simp⟩,B0.out⟩
    clear HB B0
    go_wp2_with fail
    exact bodyPost_ret (v:=.int .i64 (j:Int)) (by simp[results,Tryz.results130,go_sem]) rfl P.out
  ·obtain rfl:j=n:=by omega
   have u2:¬(j:Int)<(j:Int):=by omega
   have P:Hid (RetK (kIx ((List.range j).any f)) w (.returned (.int .i64 (-1))) wr):=Lib.hid ⟨_,rfl,⟨_,rfl,by
    rw[List.any_eq_false.2 fun a ha=>by rw[HB.out.2 a (List.mem_range.1 ha)];simp];rfl⟩,HB.out.1⟩
   clear HB
   go_wp2_with fail
   exact bodyPost_ret (v:=.int .i64 (-1)) (by simp[results,Tryz.results130,go_sem]) rfl P.out
theorem y_o {q:Bool}{n c k:Nat}{A:Option Addr}{zs:List Int}{w:World}(hx:ZL q w A n c k zs)(hl:n<=4096)(hk:k<=1099511627776):Calls Tryz.prog 171 #[.slice A n c,(.func (.func 172) #[] #[])] w (RetK (.k (.bool ((List.range n).any fun j=>decide (ith zs j≠0)))) w):=by
 obtain⟨p,hp⟩:∃p,((List.range n).any fun j=>decide (ith zs j≠0))=p:=⟨_,rfl⟩;have HP:=Lib.hid hp;rw[hp];clear hp;go_enter Tryz.func171,Tryz.ntmps171
 go_wp2_with fail
 refine(y_m hx hl hk _ fun j _=>rfl).mono ?_;rintro e w2 ⟨v,rfl,⟨z,rfl,hz⟩,B⟩;rw[HP.out]at hz;have P:Hid (RetK (.k (.bool p)) w (.returned (.bool p)) w2):=Lib.hid ⟨_,rfl,rfl,B⟩;cases p
 ·have u1:¬(0:Int)<=z:=of_decide_eq_false hz;clear hz B HP
  go_wp2_with fail
  exact bodyPost_ret (v:=.bool false) (by simp[results,Tryz.results171,go_sem];try exact u1) rfl P.out
 ·have u1:(0:Int)<=z:=of_decide_eq_true hz;clear hz B HP
  go_wp2_with fail
  exact bodyPost_ret (v:=.bool true) (by simp[results,Tryz.results171,go_sem]) rfl P.out
theorem u_2 {q:Bool}{n c k:Nat}{A:Option Addr}{zs:List Int}{w:World}(hx:ZL q w A n c k zs)(hl:n<=4096)(hk:k<=1099511627776):Calls Tryz.prog 170 #[.slice A n c] w (RetK (.k (.bool ((List.range n).any fun j=>decide (ith zs j≠0)))) w):=by
 obtain⟨p,hp⟩:∃p,((List.range n).any fun j=>decide (ith zs j≠0))=p:=⟨_,rfl⟩;have HP:=Lib.hid hp;rw[hp];clear hp;go_enter Tryz.func170,Tryz.ntmps170
 go_wp2_with fail
 refine(y_o hx hl hk).mono ?_;rintro e w2 ⟨v,rfl,rfl,B⟩;rw[HP.out];have P:Hid (RetK (.k (.bool p)) w (.returned (.bool p)) w2):=Lib.hid ⟨_,rfl,rfl,B⟩
 go_wp2_with fail
 exact bodyPost_ret (v:=.bool p) (by simp[results,Tryz.results170,go_sem]) rfl P.out
theorem y_n {K n o C c H:Nat}{A:Option Addr}{zs:Nat->List Int}{w:World}(hA:0<n->A=some ⟨H,o,none⟩/\H<w.heap.size)(hx:∀j,j<n->∃A' c',w.cell? ⟨H,o+j,none⟩=some (.slice A' C c')/\ZL true w A' C c' K (zs j))(hC:C<=4096)(hK:K<=1099511627776)(hl:n<=4096)(f:Nat->Bool)(hf:∀j,j<n->f j=((List.range C).any fun i=>decide (ith (zs j) i≠0))):Calls Tryz.prog 190 #[.slice A n c,(.func (.func 170) #[] #[])] w (RetK (kIx ((List.range n).any f)) w):=by
 have HF:=Lib.hid hf;have HX:=Lib.hid hx;have HA:=Lib.hid hA;clear hf hx hA;go_enter Tryz.func190,Tryz.ntmps190
 go_wp2_with fail
 go_loopw [8] (fun s8 wr=>∃j:Nat,s8= .int .i64 (j:Int)/\j<=n/\Hid (Below w.heap.size w wr/\∀a,a<j->f a=false)) (fun s8 _=>n - (intOf s8).toNat)
 case atStart=>exact⟨0,rfl,Nat.zero_le _,Lib.hid ⟨Below.refl _ _,fun a ha=>by omega⟩⟩
 case round=>
  obtain⟨j,rfl,hj,HB⟩:=hrel;by_cases hlt:j<n
  ·have u2:(j:Int)<(n:Int):=by omega
   obtain⟨rfl,hH⟩:=HA.out (by omega);obtain⟨A',c',c1,hz⟩:=HX.out j hlt;replace c1:=(HB.out.1.cell (p:=⟨H,o+j,none⟩) hH).trans c1
   go_wp2_with fail
   refine(u_2 (hz.below HB.out.1) hC hK).mono ?_;rintro e w2 ⟨v,rfl,rfl,B⟩;obtain⟨p,hp⟩:∃p,((List.range C).any fun i=>decide (ith (zs j) i≠0))=p:=⟨_,rfl⟩;have hfp:f j=p:=(HF.out j hlt).trans hp;try rw[hp]
   have HFP:=Lib.hid hfp;have B0:=Lib.hid (zup HB.out.1 B);clear hp hfp B c1;cases p
   ·have HS:Hid (Below w.heap.size w w2/\∀a,a<j+1->f a=false):=Lib.hid ⟨B0.out,fun a ha=>by
     by_cases e:a=j
     ·subst e;exact HFP.out
     ·exact HB.out.2 a (by omega)⟩
    clear HB B0
    go_wp2_with fail
    go_roundw
    case rel=>exact⟨j+1,by go_num,by omega,HS⟩
    case measure=>first|(simp[intOf];done)|(simp[intOf];omega)
   ·have P:Hid (RetK (kIx ((List.range n).any f)) w (.returned (.int .i64 (j:Int))) w2):=Lib.hid ⟨_,rfl,⟨_,rfl,by
     rw[List.any_eq_true.2 ⟨j,List.mem_range.2 hlt,HFP.out⟩];simp⟩,B0.out⟩
    clear HB B0
    go_wp2_with fail
    exact bodyPost_ret (v:=.int .i64 (j:Int)) (by simp[results,Tryz.results190,go_sem]) rfl P.out
  ·obtain rfl:j=n:=by omega
   have u2:¬(j:Int)<(j:Int):=by omega
   have P:Hid (RetK (kIx ((List.range j).any f)) w (.returned (.int .i64 (-1))) wr):=Lib.hid ⟨_,rfl,⟨_,rfl,by
    rw[List.any_eq_false.2 fun a ha=>by rw[HB.out.2 a (List.mem_range.1 ha)];simp];rfl⟩,HB.out.1⟩
   clear HB
   go_wp2_with fail
   exact bodyPost_ret (v:=.int .i64 (-1)) (by simp[results,Tryz.results190,go_sem]) rfl P.out
theorem y_p {K n o C c H:Nat}{A:Option Addr}{zs:Nat->List Int}{w:World}(hA:0<n->A=some ⟨H,o,none⟩/\H<w.heap.size)(hx:∀j,j<n->∃A' c',w.cell? ⟨H,o+j,none⟩=some (.slice A' C c')/\ZL true w A' C c' K (zs j))(hC:C<=4096)(hK:K<=1099511627776)(hl:n<=4096):Calls Tryz.prog 163 #[.slice A n c,(.func (.func 170) #[] #[])] w (RetK (.k (.bool ((List.range n).any fun j=>(List.range C).any fun i=>decide (ith (zs j) i≠0)))) w):=by
 obtain⟨p,hp⟩:∃p,((List.range n).any fun j=>(List.range C).any fun i=>decide (ith (zs j) i≠0))=p:=⟨_,rfl⟩;have HP:=Lib.hid hp;rw[hp];clear hp;go_enter Tryz.func163,Tryz.ntmps163
 go_wp2_with fail
 refine(y_n hA hx hC hK hl _ fun j _=>rfl).mono ?_;rintro e w2 ⟨v,rfl,⟨z,rfl,hz⟩,B⟩;rw[HP.out]at hz;have P:Hid (RetK (.k (.bool p)) w (.returned (.bool p)) w2):=Lib.hid ⟨_,rfl,rfl,B⟩;cases p
 ·have u1:¬(0:Int)<=z:=of_decide_eq_false hz;clear hz B HP
  go_wp2_with fail
  exact bodyPost_ret (v:=.bool false) (by simp[results,Tryz.results163,go_sem];try exact u1) rfl P.out
 ·have u1:(0:Int)<=z:=of_decide_eq_true hz;clear hz B HP
  go_wp2_with fail
  exact bodyPost_ret (v:=.bool true) (by simp[results,Tryz.results163,go_sem]) rfl P.out
theorem r_a {G n x:Nat}(h1:x<=n)(w:World):(Instr.sliceAt 98 (.slice (some ⟨G,0,none⟩) n n) (some (.int .i64 (x:Int))) none none).run Tryz.prog w= .ok (.slice (if n=x then some ⟨G,0,none⟩else some ⟨G,x,none⟩) (n - x) (n - x)) w:=by
 have a1:(0:Int)<=(x:Int):=by omega
 have a2:(x:Int)<=(n:Int):=by omega
 have hc:Tryz.prog.cellsOf 25=1:=by kernel_rfl
 by_cases a3:n=x
 ·subst a3;simp[go_sem,Tryz.underlying98,hc,a_j]
 ·have a4:¬n - x=0:=by omega
  simp[go_sem,Tryz.underlying98,hc,a1,a2,a3,a4,Addr.add];exact fun h=>h.symm
section
variable {ops:Array Oper}{Q:Exit->Act->World->Prop}{m i:Nat}{a0:Act}{w0:World}{l:List FK}{b:Bool}{id:Nat}
def okSlLS (ops:Array Oper)(m i:Nat)(s t:Src):Bool:=okH ops m i&&(match(opAt ops i).op with| .slice T x (some l) none none=>T==98&&s.ok ops m i x&&t.ok ops m i l|_=>false)
theorem Run.slLS (s t:Src){G n x:Nat}(h1:x<=n)(rest:R ops Q m a0 w0 b id (.k (.slice (if n=x then some ⟨G,0,none⟩else some ⟨G,x,none⟩) (n - x) (n - x))::l) (i+1))(hx:srcsK l i a0 (slLO (opAt ops i).op) [s,t] [.slice (some ⟨G,0,none⟩) n n,.int .i64 (x:Int)]:=by exact⟨rfl,rfl,trivial⟩)(hc:okSlLS ops m i s t=true:=by kernel_rfl)(hg:Gd l i (opAt ops i):=by first|exact trivial|exact rfl):R ops Q m a0 w0 b id l i:=by
 unfold okSlLS at hc;rw[Bool.and_eq_true]at hc;obtain⟨hh,h4⟩:=hc;refine Run.val hh (FK.kne _) hg (fun a w h=>⟨_, ?_,rfl⟩) rest;split at h4
 ·rename_i T X L e;simp only[Bool.and_eq_true,beq_iff_eq]at h4;obtain⟨⟨rfl,h2⟩,h3⟩:=h4;rw[e]at hx;obtain⟨e1,e2,-⟩:=hx;unfold execOp;rw[e];simp only[h.srcK h2 e1,h.srcK h3 e2,Option.map_some,Option.map_none];simp[r_a h1]
 ·cases h4
end
theorem t_z {A A1:Option Addr}{c K3 b g H R C Ka Kb n1 c1:Nat}{ys:List Rat}{M:Nat->Nat->Int}{ps:List Nat}{h:Int}{s sa:Bool}{vp:Value}{rows:List Value}{w:World}(r:RAt (qmX A c K3 ys) b w g H R C Ka (fun _=>Kb) M ps h s vp sa A1 n1 c1 rows)(hP:ps.length<=R)(hR:R<=64)(hC:C<=4096)(hK:Kb<=1099511627776):Calls Tryz.prog 136 #[.pointer (some ⟨g,0,none⟩)] w (RetK (.k (.bool ((List.range (R - ps.length)).any fun j=>(List.range C).any fun i=>decide (M (ps.length+j) i≠0)))) w):=by
 obtain⟨p,hp⟩:∃p,((List.range (R - ps.length)).any fun j=>(List.range C).any fun i=>decide (M (ps.length+j) i≠0))=p:=⟨_,rfl⟩;obtain⟨Ap,cp,rfl⟩:=r.vpf;have HR:=Lib.hid r;have bx:=r.bx;have hHl:=r.hd.lt;obtain⟨n,hn⟩:∃n,ps.length=n:=⟨_,rfl⟩;rw[hp];rw[hn]at hp hP bx;have hx:∀j,j<R - n->∃A' c',w.cell? ⟨H,n+j,none⟩=some (.slice A' C c')/\ZL true w A' C c' Kb (rw' C (M (n+j))):=fun j hj=>by
  obtain⟨v,h1,A',c',rfl,h2,-⟩:=HR.out.row (n+j) (by omega);exact⟨A',c',(HR.out.hd.cell _).trans h1,h2⟩
 have hpe:((List.range (R - n)).any fun j=>(List.range C).any fun i=>decide (ith (rw' C (M (n+j))) i≠0))=p:=by
  rw[<-hp,Bool.eq_iff_iff,List.any_eq_true,List.any_eq_true];have e:∀j,((List.range C).any fun i=>decide (ith (rw' C (M (n+j))) i≠0))=(List.range C).any fun i=>decide (M (n+j) i≠0):=fun j=>by
   rw[Bool.eq_iff_iff,List.any_eq_true,List.any_eq_true];constructor
   ·rintro⟨i,hi,h⟩;exact⟨i,hi,by rwa [c_6 (List.mem_range.1 hi)]at h⟩
   ·rintro⟨i,hi,h⟩;exact⟨i,hi,by rwa [c_6 (List.mem_range.1 hi)]⟩
  simp only[e]
 have HPE:=Lib.hid hpe;have HX:=Lib.hid hx;clear hp hn r hpe hx;go_enter Tryz.func136,Tryz.ntmps136
 go_upto_region 1 with fail
 refine Run.start 14 ?_;refine .mv .o ?_;refine .nc (.i 0) ?_;refine .fa (.i 1) (fW0 0) ?_;refine .fa (.i 2) (fE0 0) ?_;refine .ld (.i 3) (ldSS bx 0) ?_;refine .mv .o ?_;refine .nc (.i 5) ?_;refine .fa (.i 6) (fW0 0) ?_;refine .fa (.i 7) (fE1 1) ?_;refine .ld (.i 8) (ldIs bx 1) ?_;refine .len (.i 9) Tryz.underlying150 ?_;refine .slLS (.i 4) (.i 10) (G:=H) (n:=R) (x:=n) hP ?_;refine .c2 (.i 11) .o (x:=.k (.bool p)) (by rintro u v w4 hB rfl rfl;rw[<-HPE.out];exact y_p (H:=H) (o:=n) (K:=Kb) (zs:=fun j=>rw' C (M (n+j))) (fun h0=>⟨by rw[if_neg (by omega)],by have:=hB.size;omega⟩) (fun j hj=>by obtain⟨A',c',e1,e2⟩:=HX.out j hj;exact⟨A',c',(hB.cell (p:=⟨H,n+j,none⟩) hHl).trans e1,e2.below hB⟩) hC hK (by omega)) ?_;refine .mv (.i 12) ?_;refine .done [some 3,some 4,some 5,some 6,some 7,some 8,some 9,some 10,some 11,some 12,some 13,some 14,some 15,some 2] ?_;intro w2 B2;refine sh [] ?_;simp only[Act.put,lS,lZ,lC];have P:Hid (RetK (.k (.bool p)) w (.returned (.bool p)) w2):=Lib.hid ⟨_,rfl,rfl,B2⟩;obtain⟨AV,hAV⟩:∃AV:Option Addr,(if R=n then some (⟨H,0,none⟩:Addr)else some ⟨H,n,none⟩)=AV:=⟨_,rfl⟩;rw[hAV];clear hAV
 go_wp2_with fail
 exact bodyPost_ret (v:=.bool p) (by simp[results,Tryz.results136,go_sem]) rfl P.out
end
section
open Go.RowKit
section
variable {R C S:Nat}{F G:Nat->Nat->Rat}
theorem qF {i j:Nat}(hj:j<C):F i j=pct (F i) C*((qwr R C F G i j:Int):Rat):=by
 unfold qwr;rw[if_pos hj,Rat.mul_comm];exact i_l hj
theorem qG {i k:Nat}(hi:i<R):G i k=pct (F i) C*(qdc R C F G k*((qwr R C F G i (C+k):Int):Rat)):=by
 have h1:=i_l (f:=fun a=>qbd C F G a k) (n:=R) (i:=i) hi;have h2:qbd C F G i k=G i k / pct (F i) C:=rfl;have h3:((qwr R C F G i (C+k):Int):Rat)=((ptn (fun a=>qbd C F G a k) R i:Int):Rat):=by
  unfold qwr;rw[if_neg (by omega),Nat.add_sub_cancel_left]
 rw[h3,Rat.mul_comm (qdc R C F G k)];have h4:((ptn (fun a=>qbd C F G a k) R i:Int):Rat)*qdc R C F G k=qbd C F G i k:=h1.symm;rw[h4,h2,Rat.div_def,Rat.mul_comm,Rat.mul_assoc,Rat.inv_mul_cancel _ (h_g _ _),Rat.mul_one]
theorem t_t (k:Nat):qdc R C F G k≠0:=h_g _ _
theorem x_2 {k:Nat}(h:k<S):rth (qcs R C S F G) (C+k)=qdc R C F G k:=by
 unfold rth qcs List.getD;rw[List.getElem?_append_right (by simp)];simp[h]
end
end
section
namespace RT
attribute [local instance] rdvd
attribute [local simp] a_t b_m b_7 b_i b_e b_v b_5
open DT (Inc)
section
variable {R C S:Nat}{A B M:Mx Rat}{p:List Nat}
noncomputable def rdM (R C:Nat)(A:Mx Rat):Mx Rat:=Classical.choose (t_3 R C A)
noncomputable def rdP (R C:Nat)(A:Mx Rat):List Nat:=piv R A C
theorem rd_of (R C:Nat)(A:Mx Rat):RedOf R C A (rdM R C A) (rdP R C A):=by
 obtain⟨p,hp⟩:=Classical.choose_spec (t_3 R C A);have h:=hp.piv;unfold rdP;rw[h];exact hp
theorem rd_eq (h:RedOf R C A M p):p=rdP R C A/\∀i j,i<R->j<C->M i j=rdM R C A i j:=h.uniq (rd_of R C A) Sp.refl
end
def pt (rw:Nat->Nat)(y:Nat->Rat):Nat->Nat->Rat
 |0,_=>0
 |i+1,a=>if a=rw i then y i else pt rw y i a
theorem pt_id (y:Nat->Rat):∀i a,pt (fun r=>r) y i a=if a<i then y a else 0
 |0,a=>by simp[pt]
 |i+1,a=>by
  unfold pt;rw[pt_id y i a];by_cases h:a=i
  ·rw[if_pos h,if_pos (by omega),h]
  ·rw[if_neg h];by_cases h2:a<i
   ·rw[if_pos h2,if_pos (by omega)]
   ·rw[if_neg h2,if_neg (by omega)]
theorem pt_sum {n C:Nat}{f:Nat->Nat}(h:Inc n C f)(y:Nat->Rat)(a:Nat):∀i,i<=n->pt f y i a=sumN i fun r=>(if f r=a then 1 else 0)*y r
 |0,_=>rfl
 |i+1,hi=>by
  have ih:=pt_sum h y a i (by omega);unfold pt;show _=sumN i (fun r=>(if f r=a then(1:Rat)else 0)*y r)+(if f i=a then 1 else 0)*y i
  by_cases e:a=f i
  ·rw[if_pos e,if_pos e.symm,a_9 fun r hr=>by
    have:f r<f i:=Inc.le_of h hr (by omega);rw[if_neg (by omega)];simp]
   simp
  ·rw[if_neg e,if_neg (Ne.symm e),ih];simp
def ptm (done:Mx Rat)(rw:Nat->Nat)(y:Nat->Rat)(k i:Nat):Mx Rat:=fun a b=>if b=k then pt rw y i a else if b<k then done a b else 0
theorem ptm_put {done:Mx Rat}{rw:Nat->Nat}{y:Nat->Rat}{k i:Nat}:(fun a b=>if a=rw i/\b=k then y i else ptm done rw y k i a b)=ptm done rw y k (i+1):=by
 funext a b
 unfold ptm;by_cases h:b=k
 ·rw[if_pos h,if_pos h];show _=if a=rw i then y i else pt rw y i a
  by_cases h2:a=rw i
  ·rw[if_pos ⟨h2,h⟩,if_pos h2]
  ·rw[if_neg fun e=>h2 e.1,if_neg h2]
 ·rw[if_neg h,if_neg h,if_neg fun e=>h e.2]
theorem ptm_zero {done:Mx Rat}{rw:Nat->Nat}{y:Nat->Rat}{k:Nat}(a b:Nat):ptm done rw y k 0 a b=if b<k then done a b else 0:=by
 unfold ptm;by_cases h:b=k
 ·rw[if_pos h,if_neg (by omega)];rfl
 ·rw[if_neg h]
theorem ptm_end {done:Mx Rat}{rw:Nat->Nat}{y:Nat->Rat}{k n:Nat}{a:Nat}(b:Nat)(h:pt rw y n a=done a k):ptm done rw y k n a b=if b<k+1 then done a b else 0:=by
 unfold ptm;by_cases e:b=k
 ·rw[if_pos e,if_pos (by omega),e,h]
 ·rw[if_neg e];by_cases e2:b<k
  ·rw[if_pos e2,if_pos (by omega)]
  ·rw[if_neg e2,if_neg (by omega)]
end RT
end
section
open Go.RowKit Go.Shelf
def kq1 (R C k:Nat):Nat:=pk C k+pk R (2*pc C k)
def kqf (R C k:Nat):Nat:=(R+2)*(kb (kq1 R C k) (min R C)+R)+pc R (2*pc C k)+kb (kq1 R C k) (min R C)+1
def IsIq (b:Nat)(ps:List Nat):FVal:=fun v w=>∃A c,v= .slice A ps.length c/\(0<ps.length->∃g,A=some ⟨g,0,none⟩/\(b<=g/\∃cs,w.heap[g]? =some (.cells cs 3 (0,0)))/\g<w.heap.size/\∀j,j<ps.length->w.cell? ⟨g,j,none⟩=some (.int .i64 ((ps.getD j 0:Nat):Int)))
theorem x_9 {w:World}{b n:Nat}{v:Value}{ps:List Nat}(h:OwnI w b 3 v n (ints ps))(hn:ps.length=n):IsIq b ps v w:=by
 have hl:=fun g hg=>(h.lt (g:=g) hg).1;have ht:∀g,v.ownBlock=some g->∃cs,w.heap[g]? =some (.cells cs 3 (0,0)):=fun g hg=>by
  rcases h.1.2 with⟨rfl,_⟩|⟨g',cap,cur,rfl,hb,hh,_⟩
  ·cases hg
  ·have e':g'=g:=by simpa [Value.ownBlock] using hg
   subst e';exact⟨cur,hh⟩
 obtain⟨A,c,e,-,-,hI⟩:=h.form;subst hn;refine⟨A,c,e,fun h0=>?_⟩;obtain⟨g,h1,h2,h3⟩:=hI h0;exact⟨g,h1,⟨hl g (by rw[e,h1];rfl),ht g (by rw[e,h1];rfl)⟩,h2,fun j hj=>h3 j _ (by simp[ints,List.getD,hj])⟩
def IsRq (b R C S K1 K3:Nat)(F G:Nat->Nat->Rat):FVal:=fun v w=>∃g A c,v= .pointer (some ⟨g,0,none⟩)/\RsAt (qmX A c K3 (qcs R C S F G)) b w g R (C+S) K1 C (qwr R C F G)
def kRq (b R C S K1 K3:Nat)(F G:Nat->Nat->Rat):FK:=.f (IsRq b R C S K1 K3 F G) (fun v w w' ⟨g,A,c,e,h⟩ hb=>⟨g,A,c,e,h.below hb⟩)
theorem RqPost.k {w w':World}{R C S K1 K3:Nat}{F G:Nat->Nat->Rat}{e:Ending}(h:RqPost w R C S K1 K3 F G e w'):RetK (kRq w.heap.size R C S K1 K3 F G) w e w':=by
 obtain⟨g,A,c,e1,h1,h2⟩:=h;exact⟨_,e1,⟨g,A,c,rfl,h2⟩,h1⟩
theorem RsAt.low {xt:Xt}{b b' g R C K j:Nat}{w:World}{F:Nat->Nat->Int}(h:RsAt xt b w g R C K j F)(hb:b'<=b):RsAt xt b' w g R C K j F:=by
 obtain⟨s,G,ps,M,h,h1,H,vp,sa,A,n,c,rows,h2⟩:=h;exact⟨s,G,ps,M,h,h1,H,vp,sa,A,n,c,rows,{ h2 with
  bg:=Nat.le_trans hb h2.bg
  bh:=Nat.le_trans hb h2.bh
  own:=by
   refine⟨?_,h2.own.2⟩;refine⟨h2.own.1.1, ?_⟩;rcases h2.own.1.2 with h3|⟨g,cap,cur,h3,h4,h5⟩
   ·exact .inl h3
   ·exact .inr ⟨g,cap,cur,h3,Nat.le_trans hb h4,h5⟩ }⟩
theorem y_l {n C:Nat}{f:Nat->Nat}(h:DT.Inc n C f):n<=C:=by
 have lo:∀i,i<n->i<=f i:=fun i=>by
  induction i with
  |zero=>intro _;omega
  |succ i ih=>intro hi;have:=ih (by omega);have:=h.up i hi;omega
 rcases Nat.eq_zero_or_pos n with h0|h0
 ·omega
 ·have:=lo (n - 1) (by omega);have:=h.lt (n - 1) (by omega);omega
theorem x_s {b g R C S K1 K3 Kx c:Nat}{A:Option Addr}{F G:Nat->Nat->Rat}{w:World}(h:RsAt (qmX A c K3 (qcs R C S F G)) b w g R (C+S) K1 C (qwr R C F G))(hx:kb K1 (min R C)=Kx):∃s Gm ps M hh X H vp sa A1 n1 c1 rows,DT.Red R (C+S) C (qwr R C F G) s Gm ps M hh/\DT.Cols (C+S) Gm M ps hh X/\ps.length<=R/\ps.length<=C/\
  RAt (qmX A c K3 (qcs R C S F G)) b w g H R (C+S) Kx (fun _=>Kx) M ps hh s vp sa A1 n1 c1 rows:=by
 obtain⟨s,Gm,ps,M,hh,h3,H,vp,sa,A1,n1,c1,rows,h4⟩:=h;obtain⟨X,hX⟩:=h3.cols (Nat.le_add_right C S);have l1:=h3.nR;have l2:=y_l h3.inc;have l3:kb K1 ps.length<=Kx:=by rw[<-hx];exact s_n (by omega)
 exact⟨s,Gm,ps,M,hh,X,H,vp,sa,A1,n1,c1,rows,h3,hX,l1,l2,h4.mono l3 fun _ _=>l3⟩
section
variable {ops:Array Oper}{Q:Exit->Act->World->Prop}{m i:Nat}{a0:Act}{w0:World}{l:List FK}{b:Bool}{id:Nat}
end
section
variable {ops:Array Oper}{Q:Exit->Act->World->Prop}{m i:Nat}{a0:Act}{w0:World}{l:List FK}{b:Bool}{id:Nat}
theorem Run.lnf (s:Src){n:Nat}{T E:TypeId}(hv:∀v w,(s.K l i a0 (opB (opAt ops i).op)).F v w->∃A c,v= .slice A n c)(hu:Tryz.prog.underlying T=some (.slice E))(rest:R ops Q m a0 w0 b id ((.k (.int .i64 (n:Int)))::l) (i+1))(hT:opT0 (opAt ops i).op=some T:=by rfl)(hc:okLen ops m i s=true:=by kernel_rfl)(hg:Gd l i (opAt ops i):=by first|exact trivial|exact rfl):R ops Q m a0 w0 b id l i:=by
 unfold okLen at hc;rw[Bool.and_eq_true]at hc;obtain⟨h1,h2⟩:=hc;refine Run.val h1 (FK.kne _) hg (fun a w h=>⟨_, ?_,rfl⟩) rest;split at h2
 ·rename_i xs ts e;split at h2
  ·rename_i x ex;obtain⟨ys⟩:=xs;simp only at ex;subst ex;have e0:opB (opAt ops i).op=x:=by rw[e];rfl
   rw[e0]at hv;obtain⟨A,c,e1⟩:=hv _ _ (h.src h2);have this:a.eval x= .slice A n c:=e1;unfold execOp;rw[e];rw[e]at hT;obtain⟨us⟩:=ts;match us,hT with
   |t::us,hT=>
    obtain rfl:t=T:=Option.some.inj hT;simp only[resolve,List.map_toArray,List.map_cons,List.map_nil,this];simp[go_sem,Builtin.len_,underlying,hu]
  ·cases h2
 ·cases h2
end
theorem x_0 {w:World}{g g' k:Nat}{f:Nat->Bool}{xs:List Rat}{T:TypeId}{cs:List Value}(h:QB w g k f xs)(b:Bx w g' T cs)(hT:42≠T):g≠g':=by
 obtain⟨c,h1,-⟩:=h;intro e;subst e;unfold Bx at b;rw[b]at h1;injection h1 with h3
 injection h3 with _ h4
 exact hT h4.symm
theorem kq_le {R C k:Nat}:kq1 R C k<=kb (kq1 R C k) (min R C):=by have:=s_n (K:=kq1 R C k) (i:=0) (j:=min R C) (Nat.zero_le _);rwa [p_j]at this
theorem v_n {w w':World}{g k r c:Nat}{done:Nat->Nat->Rat}{rw:Nat->Nat}{y:Nat->Rat}{kk i:Nat}{e:Ending}{x:Nat}(hx:rw i=x){z:Rat}(hz:y i=z)(h:PutPost w g k r c (fun a b=>if a=x/\b=kk then z else RT.ptm done rw y kk i a b) e w'):e= .returned (.tuple #[])/\w.grownBy w' (some g)/\QB w' g k (fun _=>true) (qmk r c (RT.ptm done rw y kk (i+1))):=by
 subst hx hz;have h2:=h;unfold PutPost at h2;rw[RT.ptm_put]at h2;exact h2
end
section
open Go.RowKit
def EL (q:Bool)(w:World)(k:Nat)(vs:List Value)(xs:List Rat):Prop:=vs.length=xs.length*4/\∀j,j<xs.length->∃s A n c t B m d,vs[j*4]? =some (.bool s)/\vs[j*4+1]? =some (.slice A n c)/\vs[j*4+2]? =some (.bool t)/\vs[j*4+3]? =some (.slice B m d)/\Qe q w s A n c t B m d (rth xs j)/\n<=k/\m<=k
end
end Go.Proofs.YtfhbdlegkdbmfaaGreat
