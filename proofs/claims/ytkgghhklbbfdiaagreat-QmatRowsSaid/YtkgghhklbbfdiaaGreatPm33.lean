/- Pm33 -/
import Derived.Test.YtkgghhklbbfdiaaGreatPm32
import Derived.RegionTactic
import Derived.BigRegion
set_option linter.unusedVariables false
set_option linter.unusedSimpArgs false
set_option linter.unusedSectionVars false
set_option maxRecDepth 100000
set_option maxHeartbeats 8000000
namespace Go.Proofs.YtkgghhklbbfdiaaGreat
section
open Go.RowKit
theorem d_x {l:List Nat}{i:Nat}(h:i<l.length):l.getD i 0∈l:=by simp[List.getD,h]
def kIx (p:Bool):FK:=.f (fun v _=>∃z:Int,v= .int .i64 z∧decide (0≤z)=p) (fun v w w' h _=>h)
theorem idx_q {ps:List Nat}{n c x:Nat}{A:Option Addr}{w:World}(hn:ps.length=n)(hl:n≤4096)(hI:0<n→∃g,A=some ⟨g,0,none⟩∧g<w.heap.size∧∀j u,(ints ps)[j]? =some u→w.cell? ⟨g,j,none⟩=some u):Calls Tryz.prog 157 #[.slice A n c,.int .i64 (x:Int)] w (RetK (kIx (decide (x∈ps))) w):=by
 have HN:=Lib.hid hn;have HI:=Lib.hid hI;clear hn hI;go_enter Tryz.func157,Tryz.ntmps157
 go_wp2_with fail
 go_loopw [8] (fun s8 wr=>∃j:Nat,s8= .int .i64 (j:Int)∧j≤n∧Hid (Below w.heap.size w wr∧∀a,a<j→ps.getD a 0≠x)) (fun s8 _=>n - (intOf s8).toNat)
 case atStart=>exact⟨0,rfl,Nat.zero_le _,Lib.hid ⟨Below.refl _ _,fun a ha=>by omega⟩⟩
 case round=>
  obtain⟨j,rfl,hj,HB⟩:=hrel;by_cases hlt:j<n
  ·have u2:(j:Int)<(n:Int):=by omega
   obtain⟨g,rfl,hg,hc⟩:=HI.out (by omega);obtain⟨y,hy⟩:∃y,ps.getD j 0=y:=⟨_,rfl⟩;have hjl:j<ps.length:=by rw[HN.out];exact hlt
   have c1:wr.cell? ⟨g,j,none⟩=some (.int .i64 (y:Int)):=(HB.out.1.cell (p:=⟨g,j,none⟩) hg).trans (hc j _ (by rw[←hy];simp[ints,List.getD,hjl]));have HY:=Lib.hid hy;clear hc hy hjl;by_cases hx:x=y
   ·have u3:(x:Int)=(y:Int):=by omega
    have P:Hid (RetK (kIx (decide (x∈ps))) w (.returned (.int .i64 (j:Int))) wr):=Lib.hid ⟨_,rfl,⟨_,rfl,by
     have h1:x∈ps:=by rw[hx,←HY.out];exact d_x (by rw[HN.out];exact hlt)
     rw[decide_eq_true h1];simp⟩,HB.out.1⟩
    clear HB hx
    go_wp2_with fail
    exact bodyPost_ret (v:=.int .i64 (j:Int)) (by simp[results,Tryz.results157,go_sem]) rfl P.out
   ·have u3:¬(x:Int)=(y:Int):=by omega
    have HS:Hid (Below w.heap.size w wr∧∀a,a<j+1→ps.getD a 0≠x):=Lib.hid ⟨HB.out.1,fun a ha=>by
     by_cases e:a=j
     ·subst e;rw[HY.out];exact Ne.symm hx
     ·exact HB.out.2 a (by omega)⟩
    clear HB hx
    go_wp2_with fail
    go_roundw
    case rel=>exact⟨j+1,by go_num,by omega,HS⟩
    case measure=>first|(simp[intOf];done)|(simp[intOf];omega)
  ·obtain rfl:j=n:=by omega
   have u2:¬(j:Int)<(j:Int):=by omega
   have P:Hid (RetK (kIx (decide (x∈ps))) w (.returned (.int .i64 (-1))) wr):=Lib.hid ⟨_,rfl,⟨_,rfl,by
    have h1:¬x∈ps:=fun h=>by
     obtain⟨a,ha,e⟩:=List.getElem_of_mem h;exact HB.out.2 a (by rw[←HN.out];exact ha) (by simp[List.getD,ha,e])
    rw[decide_eq_false h1];rfl⟩,HB.out.1⟩
   clear HB
   go_wp2_with fail
   exact bodyPost_ret (v:=.int .i64 (-1)) (by simp[results,Tryz.results157,go_sem]) rfl P.out
theorem nz_q {s:Bool}{A:Option Addr}{n c:Nat}{z:Int}{w:World}(hz:Zv w s A n c z)(hn:n≤1099511627776):Calls Tryz.prog 130 #[.agg #[.bool s,.slice A n c]] w (RetK (.k (.bool (decide (z≠0)))) w):=by
 obtain⟨p,hp⟩:∃p,decide (z≠0)=p:=⟨_,rfl⟩;obtain⟨x,hx⟩:∃x,z.sign=x:=⟨_,rfl⟩;have HX:=Lib.hid hx;have hxp:decide (x≠0)=p:=by rw[←hp,←hx];exact decide_eq_decide.2 (not_congr Int.sign_eq_zero_iff_zero)
 rw[hp];have HZV:=Lib.hid hz;clear hp hx hz;obtain⟨w1,hw1,b1,z1,s1⟩:=boxes1 w 44 [.bool s,.slice A n c];have HW:=Lib.hid hw1;have HZ:=Lib.hid z1;have hxp_:=Lib.hid hxp;clear hw1 z1 hxp s1;go_enter Tryz.func130,Tryz.ntmps130
 go_upto_region 1 with fail
 rw[HW.out];have hw1:Below w.heap.size w w1:=HZ.out;refine Run.start 4 ?_;refine .ld .o (ldZ b1 0) ?_;refine .c1 (.i 0) (x:=.k (.int .i64 x)) (by rintro u w4 hB rfl;exact c_p ⟨_,_,_,_,rfl,HZV.out.below (zup hw1 hB),Nat.le_refl _⟩ hn HX.out) ?_;refine .two (.i 1) .o (opNe hxp_.out) ?_;refine .mv (.i 2) ?_;refine .donep [some 3,some 4,some 5,some 2] ?_;intro w2 B2;change Shut (wpList _ _ _ [] _ _);refine⟨?_⟩;simp only[Act.put,lS,lZ,lC];have P:Hid (RetK (.k (.bool p)) w (.returned (.bool p)) w2):=Lib.hid ⟨_,rfl,rfl,zup HZ.out B2⟩
 go_wp2_with fail
 exact bodyPost_ret (v:=.bool p) (by simp[results,Tryz.results130,go_sem]) rfl P.out
theorem y_q {q:Bool}{n c k:Nat}{A:Option Addr}{zs:List Int}{w:World}(hx:ZL q w A n c k zs)(hl:n≤4096)(hk:k≤1099511627776)(f:Nat→Bool)(hf:∀j,j<n→f j=decide (ith zs j≠0)):Calls Tryz.prog 156 #[.slice A n c,(.func (.func 130) #[] #[])] w (RetK (kIx ((List.range n).any f)) w):=by
 have HF:=Lib.hid hf;have HX:=Lib.hid hx;clear hf hx;go_enter Tryz.func156,Tryz.ntmps156
 go_wp2_with fail
 go_loopw [8] (fun s8 wr=>∃j:Nat,s8= .int .i64 (j:Int)∧j≤n∧Hid (Below w.heap.size w wr∧∀a,a<j→f a=false)) (fun s8 _=>n - (intOf s8).toNat)
 case atStart=>exact⟨0,rfl,Nat.zero_le _,Lib.hid ⟨Below.refl _ _,fun a ha=>by omega⟩⟩
 case round=>
  obtain⟨j,rfl,hj,HB⟩:=hrel;by_cases hlt:j<n
  ·have u2:(j:Int)<(n:Int):=by omega
   obtain⟨ad,rfl,hab,s',A',n',c',c1,c2,hz,hk'⟩:=(HX.out.below HB.out.1).at hlt
   go_wp2_with fail
   refine(nz_q hz.1 (by omega)).mono ?_;rintro e w2 ⟨v,rfl,rfl,B⟩;obtain⟨p,hp⟩:∃p,decide (ith zs j≠0)=p:=⟨_,rfl⟩;have hfp:f j=p:=(HF.out j hlt).trans hp;try rw[hp]
   have HFP:=Lib.hid hfp;have B0:=Lib.hid (zup HB.out.1 B);clear hp hfp B c1;cases p
   ·have HS:Hid (Below w.heap.size w w2∧∀a,a<j+1→f a=false):=Lib.hid ⟨B0.out,fun a ha=>by
     by_cases e:a=j
     ·subst e;exact HFP.out
     ·exact HB.out.2 a (by omega)⟩
    clear HB B0
    go_wp2_with fail
    go_roundw
    case rel=>exact⟨j+1,by go_num,by omega,HS⟩
    case measure=>first|(simp[intOf];done)|(simp[intOf];omega)
   ·have P:Hid (RetK (kIx ((List.range n).any f)) w (.returned (.int .i64 (j:Int))) w2):=Lib.hid ⟨_,rfl,⟨_,rfl,by
     rw[List.any_eq_true.2 ⟨j,List.mem_range.2 hlt,HFP.out⟩];simp⟩,B0.out⟩
    clear HB B0
    go_wp2_with fail
    exact bodyPost_ret (v:=.int .i64 (j:Int)) (by simp[results,Tryz.results156,go_sem]) rfl P.out
  ·obtain rfl:j=n:=by omega
   have u2:¬(j:Int)<(j:Int):=by omega
   have P:Hid (RetK (kIx ((List.range j).any f)) w (.returned (.int .i64 (-1))) wr):=Lib.hid ⟨_,rfl,⟨_,rfl,by
    rw[List.any_eq_false.2 fun a ha=>by rw[HB.out.2 a (List.mem_range.1 ha)];simp];rfl⟩,HB.out.1⟩
   clear HB
   go_wp2_with fail
   exact bodyPost_ret (v:=.int .i64 (-1)) (by simp[results,Tryz.results156,go_sem]) rfl P.out
theorem y_s {q:Bool}{n c k:Nat}{A:Option Addr}{zs:List Int}{w:World}(hx:ZL q w A n c k zs)(hl:n≤4096)(hk:k≤1099511627776):Calls Tryz.prog 129 #[.slice A n c,(.func (.func 130) #[] #[])] w (RetK (.k (.bool ((List.range n).any fun j=>decide (ith zs j≠0)))) w):=by
 obtain⟨p,hp⟩:∃p,((List.range n).any fun j=>decide (ith zs j≠0))=p:=⟨_,rfl⟩;have HP:=Lib.hid hp;rw[hp];clear hp;go_enter Tryz.func129,Tryz.ntmps129
 go_wp2_with fail
 refine(y_q hx hl hk _ fun j _=>rfl).mono ?_;rintro e w2 ⟨v,rfl,⟨z,rfl,hz⟩,B⟩;rw[HP.out]at hz;have P:Hid (RetK (.k (.bool p)) w (.returned (.bool p)) w2):=Lib.hid ⟨_,rfl,rfl,B⟩;cases p
 ·have u1:¬(0:Int)≤z:=of_decide_eq_false hz;clear hz B HP
  go_wp2_with fail
  exact bodyPost_ret (v:=.bool false) (by simp[results,Tryz.results129,go_sem];try exact u1) rfl P.out
 ·have u1:(0:Int)≤z:=of_decide_eq_true hz;clear hz B HP
  go_wp2_with fail
  exact bodyPost_ret (v:=.bool true) (by simp[results,Tryz.results129,go_sem]) rfl P.out
theorem u_8 {q:Bool}{n c k:Nat}{A:Option Addr}{zs:List Int}{w:World}(hx:ZL q w A n c k zs)(hl:n≤4096)(hk:k≤1099511627776):Calls Tryz.prog 128 #[.slice A n c] w (RetK (.k (.bool ((List.range n).any fun j=>decide (ith zs j≠0)))) w):=by
 obtain⟨p,hp⟩:∃p,((List.range n).any fun j=>decide (ith zs j≠0))=p:=⟨_,rfl⟩;have HP:=Lib.hid hp;rw[hp];clear hp;go_enter Tryz.func128,Tryz.ntmps128
 go_wp2_with fail
 refine(y_s hx hl hk).mono ?_;rintro e w2 ⟨v,rfl,rfl,B⟩;rw[HP.out];have P:Hid (RetK (.k (.bool p)) w (.returned (.bool p)) w2):=Lib.hid ⟨_,rfl,rfl,B⟩
 go_wp2_with fail
 exact bodyPost_ret (v:=.bool p) (by simp[results,Tryz.results128,go_sem]) rfl P.out
theorem y_r {K n o C c H:Nat}{A:Option Addr}{zs:Nat→List Int}{w:World}(hA:0<n→A=some ⟨H,o,none⟩∧H<w.heap.size)(hx:∀j,j<n→∃A' c',w.cell? ⟨H,o+j,none⟩=some (.slice A' C c')∧ZL true w A' C c' K (zs j))(hC:C≤4096)(hK:K≤1099511627776)(hl:n≤4096)(f:Nat→Bool)(hf:∀j,j<n→f j=((List.range C).any fun i=>decide (ith (zs j) i≠0))):Calls Tryz.prog 155 #[.slice A n c,(.func (.func 128) #[] #[])] w (RetK (kIx ((List.range n).any f)) w):=by
 have HF:=Lib.hid hf;have HX:=Lib.hid hx;have HA:=Lib.hid hA;clear hf hx hA;go_enter Tryz.func155,Tryz.ntmps155
 go_wp2_with fail
 go_loopw [8] (fun s8 wr=>∃j:Nat,s8= .int .i64 (j:Int)∧j≤n∧Hid (Below w.heap.size w wr∧∀a,a<j→f a=false)) (fun s8 _=>n - (intOf s8).toNat)
 case atStart=>exact⟨0,rfl,Nat.zero_le _,Lib.hid ⟨Below.refl _ _,fun a ha=>by omega⟩⟩
 case round=>
  obtain⟨j,rfl,hj,HB⟩:=hrel;by_cases hlt:j<n
  ·have u2:(j:Int)<(n:Int):=by omega
   obtain⟨rfl,hH⟩:=HA.out (by omega);obtain⟨A',c',c1,hz⟩:=HX.out j hlt;replace c1:=(HB.out.1.cell (p:=⟨H,o+j,none⟩) hH).trans c1
   go_wp2_with fail
   refine(u_8 (hz.below HB.out.1) hC hK).mono ?_;rintro e w2 ⟨v,rfl,rfl,B⟩;obtain⟨p,hp⟩:∃p,((List.range C).any fun i=>decide (ith (zs j) i≠0))=p:=⟨_,rfl⟩;have hfp:f j=p:=(HF.out j hlt).trans hp;try rw[hp]
   have HFP:=Lib.hid hfp;have B0:=Lib.hid (zup HB.out.1 B);clear hp hfp B c1;cases p
   ·have HS:Hid (Below w.heap.size w w2∧∀a,a<j+1→f a=false):=Lib.hid ⟨B0.out,fun a ha=>by
     by_cases e:a=j
     ·subst e;exact HFP.out
     ·exact HB.out.2 a (by omega)⟩
    clear HB B0
    go_wp2_with fail
    go_roundw
    case rel=>exact⟨j+1,by go_num,by omega,HS⟩
    case measure=>first|(simp[intOf];done)|(simp[intOf];omega)
   ·have P:Hid (RetK (kIx ((List.range n).any f)) w (.returned (.int .i64 (j:Int))) w2):=Lib.hid ⟨_,rfl,⟨_,rfl,by
     rw[List.any_eq_true.2 ⟨j,List.mem_range.2 hlt,HFP.out⟩];simp⟩,B0.out⟩
    clear HB B0
    go_wp2_with fail
    exact bodyPost_ret (v:=.int .i64 (j:Int)) (by simp[results,Tryz.results155,go_sem]) rfl P.out
  ·obtain rfl:j=n:=by omega
   have u2:¬(j:Int)<(j:Int):=by omega
   have P:Hid (RetK (kIx ((List.range j).any f)) w (.returned (.int .i64 (-1))) wr):=Lib.hid ⟨_,rfl,⟨_,rfl,by
    rw[List.any_eq_false.2 fun a ha=>by rw[HB.out.2 a (List.mem_range.1 ha)];simp];rfl⟩,HB.out.1⟩
   clear HB
   go_wp2_with fail
   exact bodyPost_ret (v:=.int .i64 (-1)) (by simp[results,Tryz.results155,go_sem]) rfl P.out
theorem y_t {K n o C c H:Nat}{A:Option Addr}{zs:Nat→List Int}{w:World}(hA:0<n→A=some ⟨H,o,none⟩∧H<w.heap.size)(hx:∀j,j<n→∃A' c',w.cell? ⟨H,o+j,none⟩=some (.slice A' C c')∧ZL true w A' C c' K (zs j))(hC:C≤4096)(hK:K≤1099511627776)(hl:n≤4096):Calls Tryz.prog 127 #[.slice A n c,(.func (.func 128) #[] #[])] w (RetK (.k (.bool ((List.range n).any fun j=>(List.range C).any fun i=>decide (ith (zs j) i≠0)))) w):=by
 obtain⟨p,hp⟩:∃p,((List.range n).any fun j=>(List.range C).any fun i=>decide (ith (zs j) i≠0))=p:=⟨_,rfl⟩;have HP:=Lib.hid hp;rw[hp];clear hp;go_enter Tryz.func127,Tryz.ntmps127
 go_wp2_with fail
 refine(y_r hA hx hC hK hl _ fun j _=>rfl).mono ?_;rintro e w2 ⟨v,rfl,⟨z,rfl,hz⟩,B⟩;rw[HP.out]at hz;have P:Hid (RetK (.k (.bool p)) w (.returned (.bool p)) w2):=Lib.hid ⟨_,rfl,rfl,B⟩;cases p
 ·have u1:¬(0:Int)≤z:=of_decide_eq_false hz;clear hz B HP
  go_wp2_with fail
  exact bodyPost_ret (v:=.bool false) (by simp[results,Tryz.results127,go_sem];try exact u1) rfl P.out
 ·have u1:(0:Int)≤z:=of_decide_eq_true hz;clear hz B HP
  go_wp2_with fail
  exact bodyPost_ret (v:=.bool true) (by simp[results,Tryz.results127,go_sem]) rfl P.out
theorem r_h {G n x:Nat}(h1:x≤n)(w:World):(Instr.sliceAt 80 (.slice (some ⟨G,0,none⟩) n n) (some (.int .i64 (x:Int))) none none).run Tryz.prog w= .ok (.slice (if n=x then some ⟨G,0,none⟩else some ⟨G,x,none⟩) (n - x) (n - x)) w:=by
 have a1:(0:Int)≤(x:Int):=by omega
 have a2:(x:Int)≤(n:Int):=by omega
 have hc:Tryz.prog.cellsOf 51=1:=by kernel_rfl
 by_cases a3:n=x
 ·subst a3;simp[go_sem,Tryz.underlying80,hc,a_1]
 ·have a4:¬n - x=0:=by omega
  simp[go_sem,Tryz.underlying80,hc,a1,a2,a3,a4,Addr.add];exact fun h=>h.symm
section
variable {ops:Array Oper}{Q:Exit→Act→World→Prop}{m i:Nat}{a0:Act}{w0:World}{l:List FK}{b:Bool}{id:Nat}
def okSlLS (ops:Array Oper)(m i:Nat)(s t:Src):Bool:=okH ops m i&&(match(opAt ops i).op with| .slice T x (some l) none none=>T==80&&s.ok ops m i x&&t.ok ops m i l|_=>false)
theorem Run.slLS (s t:Src){G n x:Nat}(h1:x≤n)(rest:R ops Q m a0 w0 b id (.k (.slice (if n=x then some ⟨G,0,none⟩else some ⟨G,x,none⟩) (n - x) (n - x))::l) (i+1))(hx:srcsK l i a0 (slLO (opAt ops i).op) [s,t] [.slice (some ⟨G,0,none⟩) n n,.int .i64 (x:Int)]:=by exact⟨rfl,rfl,trivial⟩)(hc:okSlLS ops m i s t=true:=by kernel_rfl)(hg:Gd l i (opAt ops i):=by first|exact trivial|exact rfl):R ops Q m a0 w0 b id l i:=by
 unfold okSlLS at hc;rw[Bool.and_eq_true]at hc;obtain⟨hh,h4⟩:=hc;refine Run.val hh (FK.kne _) hg (fun a w h=>⟨_, ?_,rfl⟩) rest;split at h4
 ·rename_i T X L e;simp only[Bool.and_eq_true,beq_iff_eq]at h4;obtain⟨⟨rfl,h2⟩,h3⟩:=h4;rw[e]at hx;obtain⟨e1,e2,-⟩:=hx;unfold execOp;rw[e];simp only[h.srcK h2 e1,h.srcK h3 e2,Option.map_some,Option.map_none];simp[r_h h1]
 ·cases h4
end
theorem u_a {A A1:Option Addr}{c K3 b g H R C Ka Kb n1 c1:Nat}{ys:List Rat}{M:Nat→Nat→Int}{ps:List Nat}{h:Int}{s sa:Bool}{vp:Value}{rows:List Value}{w:World}(r:RAt (qmX A c K3 ys) b w g H R C Ka (fun _=>Kb) M ps h s vp sa A1 n1 c1 rows)(hP:ps.length≤R)(hR:R≤64)(hC:C≤4096)(hK:Kb≤1099511627776):Calls Tryz.prog 72 #[.pointer (some ⟨g,0,none⟩)] w (RetK (.k (.bool ((List.range (R - ps.length)).any fun j=>(List.range C).any fun i=>decide (M (ps.length+j) i≠0)))) w):=by
 obtain⟨p,hp⟩:∃p,((List.range (R - ps.length)).any fun j=>(List.range C).any fun i=>decide (M (ps.length+j) i≠0))=p:=⟨_,rfl⟩;obtain⟨Ap,cp,rfl⟩:=r.vpf;have HR:=Lib.hid r;have bx:=r.bx;have hHl:=r.hd.lt;obtain⟨n,hn⟩:∃n,ps.length=n:=⟨_,rfl⟩;rw[hp];rw[hn]at hp hP bx;have hx:∀j,j<R - n→∃A' c',w.cell? ⟨H,n+j,none⟩=some (.slice A' C c')∧ZL true w A' C c' Kb (rw' C (M (n+j))):=fun j hj=>by
  obtain⟨v,h1,A',c',rfl,h2,-⟩:=HR.out.row (n+j) (by omega);exact⟨A',c',(HR.out.hd.cell _).trans h1,h2⟩
 have hpe:((List.range (R - n)).any fun j=>(List.range C).any fun i=>decide (ith (rw' C (M (n+j))) i≠0))=p:=by
  rw[←hp,Bool.eq_iff_iff,List.any_eq_true,List.any_eq_true];have e:∀j,((List.range C).any fun i=>decide (ith (rw' C (M (n+j))) i≠0))=(List.range C).any fun i=>decide (M (n+j) i≠0):=fun j=>by
   rw[Bool.eq_iff_iff,List.any_eq_true,List.any_eq_true];constructor
   ·rintro⟨i,hi,h⟩;exact⟨i,hi,by rwa [e_w (List.mem_range.1 hi)]at h⟩
   ·rintro⟨i,hi,h⟩;exact⟨i,hi,by rwa [e_w (List.mem_range.1 hi)]⟩
  simp only[e]
 have HPE:=Lib.hid hpe;have HX:=Lib.hid hx;clear hp hn r hpe hx;go_enter Tryz.func72,Tryz.ntmps72
 go_upto_region 1 with fail
 refine Run.start 14 ?_;refine .mv .o ?_;refine .nc (.i 0) ?_;refine .fa (.i 1) (fW0 0) ?_;refine .fa (.i 2) (fE0 0) ?_;refine .ld (.i 3) (ldSS bx 0) ?_;refine .mv .o ?_;refine .nc (.i 5) ?_;refine .fa (.i 6) (fW0 0) ?_;refine .fa (.i 7) (fE1 1) ?_;refine .ld (.i 8) (ldIs bx 1) ?_;refine .len (.i 9) Tryz.underlying27 ?_;refine .slLS (.i 4) (.i 10) (G:=H) (n:=R) (x:=n) hP ?_;refine .c2 (.i 11) .o (x:=.k (.bool p)) (by rintro u v w4 hB rfl rfl;rw[←HPE.out];exact y_t (H:=H) (o:=n) (K:=Kb) (zs:=fun j=>rw' C (M (n+j))) (fun h0=>⟨by rw[if_neg (by omega)],by have:=hB.size;omega⟩) (fun j hj=>by obtain⟨A',c',e1,e2⟩:=HX.out j hj;exact⟨A',c',(hB.cell (p:=⟨H,n+j,none⟩) hHl).trans e1,e2.below hB⟩) hC hK (by omega)) ?_;refine .mv (.i 12) ?_;refine .done [some 3,some 4,some 5,some 6,some 7,some 8,some 9,some 10,some 11,some 12,some 13,some 14,some 15,some 2] ?_;intro w2 B2;change Shut (wpList _ _ _ [] _ _);refine⟨?_⟩;simp only[Act.put,lS,lZ,lC];have P:Hid (RetK (.k (.bool p)) w (.returned (.bool p)) w2):=Lib.hid ⟨_,rfl,rfl,B2⟩;obtain⟨AV,hAV⟩:∃AV:Option Addr,(if R=n then some (⟨H,0,none⟩:Addr)else some ⟨H,n,none⟩)=AV:=⟨_,rfl⟩;rw[hAV];clear hAV
 go_wp2_with fail
 exact bodyPost_ret (v:=.bool p) (by simp[results,Tryz.results72,go_sem]) rfl P.out
end
section
open Go.RowKit
section
variable {R C S:Nat}{F G:Nat→Nat→Rat}
theorem qF {i j:Nat}(hj:j<C):F i j=pct (F i) C*((qwr R C F G i j:Int):Rat):=by
 unfold qwr;rw[if_pos hj,Rat.mul_comm];exact p_n hj
theorem qG {i k:Nat}(hi:i<R):G i k=pct (F i) C*(qdc R C F G k*((qwr R C F G i (C+k):Int):Rat)):=by
 have h1:=p_n (f:=fun a=>qbd C F G a k) (n:=R) (i:=i) hi;have h2:qbd C F G i k=G i k / pct (F i) C:=rfl;have h3:((qwr R C F G i (C+k):Int):Rat)=((ptn (fun a=>qbd C F G a k) R i:Int):Rat):=by
  unfold qwr;rw[if_neg (by omega),Nat.add_sub_cancel_left]
 rw[h3,Rat.mul_comm (qdc R C F G k)];have h4:((ptn (fun a=>qbd C F G a k) R i:Int):Rat)*qdc R C F G k=qbd C F G i k:=h1.symm;rw[h4,h2,Rat.div_def,Rat.mul_comm,Rat.mul_assoc,Rat.inv_mul_cancel _ (f_t _ _),Rat.mul_one]
theorem t_0 (k:Nat):qdc R C F G k≠0:=f_t _ _
theorem t_1 {j:Nat}(h:j<C):rth (qcs R C S F G) j=1:=by
 unfold rth qcs List.getD;rw[List.getElem?_append_left (by simpa using h)];simp[h]
theorem x_7 {k:Nat}(h:k<S):rth (qcs R C S F G) (C+k)=qdc R C F G k:=by
 unfold rth qcs List.getD;rw[List.getElem?_append_right (by simp)];simp[h]
end
end
section
namespace RT
attribute [local instance] rdvd
attribute [local simp] a_d a_h a_o a_g a_f a_l a_m
open DT (Inc)
section
variable {R C S:Nat}{A B M:Mx Rat}{p:List Nat}
noncomputable def rdM (R C:Nat)(A:Mx Rat):Mx Rat:=Classical.choose (ex_red R C A)
noncomputable def rdP (R C:Nat)(A:Mx Rat):List Nat:=piv R A C
theorem rd_of (R C:Nat)(A:Mx Rat):RedOf R C A (rdM R C A) (rdP R C A):=by
 obtain⟨p,hp⟩:=Classical.choose_spec (ex_red R C A);have h:=hp.piv;unfold rdP;rw[h];exact hp
theorem rd_eq (h:RedOf R C A M p):p=rdP R C A∧∀i j,i<R→j<C→M i j=rdM R C A i j:=h.uniq (rd_of R C A) Sp.refl
theorem rdP_le (R C:Nat)(A:Mx Rat):(rdP R C A).length≤R:=(rd_of R C A).shape.le
end
def pt (rw:Nat→Nat)(y:Nat→Rat):Nat→Nat→Rat
 |0,_=>0
 |i+1,a=>if a=rw i then y i else pt rw y i a
theorem pt_id (y:Nat→Rat):∀i a,pt (fun r=>r) y i a=if a<i then y a else 0
 |0,a=>by simp[pt]
 |i+1,a=>by
  unfold pt;rw[pt_id y i a];by_cases h:a=i
  ·rw[if_pos h,if_pos (by omega),h]
  ·rw[if_neg h];by_cases h2:a<i
   ·rw[if_pos h2,if_pos (by omega)]
   ·rw[if_neg h2,if_neg (by omega)]
theorem pt_sum {n C:Nat}{f:Nat→Nat}(h:Inc n C f)(y:Nat→Rat)(a:Nat):∀i,i≤n→pt f y i a=sumN i fun r=>(if f r=a then 1 else 0)*y r
 |0,_=>rfl
 |i+1,hi=>by
  have ih:=pt_sum h y a i (by omega);unfold pt;show _=sumN i (fun r=>(if f r=a then(1:Rat)else 0)*y r)+(if f i=a then 1 else 0)*y i
  by_cases e:a=f i
  ·rw[if_pos e,if_pos e.symm,a_7 fun r hr=>by
    have:f r<f i:=Inc.le_of h hr (by omega);rw[if_neg (by omega)];simp]
   simp
  ·rw[if_neg e,if_neg (Ne.symm e),ih];simp
def ptm (done:Mx Rat)(rw:Nat→Nat)(y:Nat→Rat)(k i:Nat):Mx Rat:=fun a b=>if b=k then pt rw y i a else if b<k then done a b else 0
theorem ptm_put {done:Mx Rat}{rw:Nat→Nat}{y:Nat→Rat}{k i:Nat}:(fun a b=>if a=rw i∧b=k then y i else ptm done rw y k i a b)=ptm done rw y k (i+1):=by
 funext a b
 unfold ptm;by_cases h:b=k
 ·rw[if_pos h,if_pos h];show _=if a=rw i then y i else pt rw y i a
  by_cases h2:a=rw i
  ·rw[if_pos ⟨h2,h⟩,if_pos h2]
  ·rw[if_neg fun e=>h2 e.1,if_neg h2]
 ·rw[if_neg h,if_neg h,if_neg fun e=>h e.2]
theorem ptm_zero {done:Mx Rat}{rw:Nat→Nat}{y:Nat→Rat}{k:Nat}(a b:Nat):ptm done rw y k 0 a b=if b<k then done a b else 0:=by
 unfold ptm;by_cases h:b=k
 ·rw[if_pos h,if_neg (by omega)];rfl
 ·rw[if_neg h]
theorem ptm_end {done:Mx Rat}{rw:Nat→Nat}{y:Nat→Rat}{k n:Nat}{a:Nat}(b:Nat)(h:pt rw y n a=done a k):ptm done rw y k n a b=if b<k+1 then done a b else 0:=by
 unfold ptm;by_cases e:b=k
 ·rw[if_pos e,if_pos (by omega),e,h]
 ·rw[if_neg e];by_cases e2:b<k
  ·rw[if_pos e2,if_pos (by omega)]
  ·rw[if_neg e2,if_neg (by omega)]
end RT
end
section
open Go.RowKit Go.Shelf
def kq1 (R C k:Nat):Nat:=pk C k+pk R (2*pc C k)
def kqf (R C k:Nat):Nat:=(R+2)*(kb (kq1 R C k) (min R C)+R)+pc R (2*pc C k)+kb (kq1 R C k) (min R C)+1
def kTr (x y z:FK):FK:=.f (fun v w=>∃a b c,v= .tuple #[a,b,c]∧x.F a w∧y.F b w∧z.F c w) (fun v w w' ⟨a,b,c,e,h1,h2,h3⟩ hb=>⟨a,b,c,e,x.stays _ _ _ h1 hb,y.stays _ _ _ h2 hb,z.stays _ _ _ h3 hb⟩)
theorem k_m {x y z:FK}:∀v w,(kTr x y z).F v w→∃vs:Array Value,∃u,v= .tuple vs∧vs[0]? =some u∧x.F u w:=fun v w ⟨a,b,c,e,h1,h2,h3⟩=>⟨_,a,e,rfl,h1⟩
theorem k_l {x y z:FK}:∀v w,(kTr x y z).F v w→∃vs:Array Value,∃u,v= .tuple vs∧vs[1]? =some u∧y.F u w:=fun v w ⟨a,b,c,e,h1,h2,h3⟩=>⟨_,b,e,rfl,h2⟩
theorem k_k {x y z:FK}:∀v w,(kTr x y z).F v w→∃vs:Array Value,∃u,v= .tuple vs∧vs[2]? =some u∧z.F u w:=fun v w ⟨a,b,c,e,h1,h2,h3⟩=>⟨_,c,e,rfl,h3⟩
def IsIq (b:Nat)(ps:List Nat):FVal:=fun v w=>∃A c,v= .slice A ps.length c∧(0<ps.length→∃g,A=some ⟨g,0,none⟩∧(b≤g∧∃cs,w.heap[g]? =some (.cells cs 3 (0,0)))∧g<w.heap.size∧∀j,j<ps.length→w.cell? ⟨g,j,none⟩=some (.int .i64 ((ps.getD j 0:Nat):Int)))
theorem IsIq.below {b:Nat}{ps:List Nat}{v:Value}{w w':World}(h:IsIq b ps v w)(hb:Below w.heap.size w w'):IsIq b ps v w':=by
 obtain⟨A,c,e,h1⟩:=h;refine⟨A,c,e,fun h0=>?_⟩;obtain⟨g,e1,⟨e4,cs,e5⟩,e2,e3⟩:=h1 h0;exact⟨g,e1,⟨e4,cs,(hb.block g e2).trans e5⟩,Nat.lt_of_lt_of_le e2 hb.size,fun j hj=>(hb.cell (p:=⟨g,j,none⟩) e2).trans (e3 j hj)⟩
theorem IsIq.gro0 {b b' x:Nat}{ps:List Nat}{v:Value}{w w':World}(h:IsIq b ps v w)(hg:w.grownBy w' (some x))(hx:∀cs,w.heap[x]? ≠some (.cells cs 3 (0,0)))(hb:b'≤b):IsIq b' ps v w':=by
 obtain⟨A,c,e,h1⟩:=h;refine⟨A,c,e,fun h0=>?_⟩;obtain⟨g,e1,⟨e4,cs,e5⟩,e2,e3⟩:=h1 h0;have hb':=hg.block g e2 (fun e=>hx cs (by rw[←Option.some.inj e];exact e5));exact⟨g,e1,⟨Nat.le_trans hb e4,cs,hb'.trans e5⟩,Nat.lt_of_lt_of_le e2 hg.size,fun j hj=>(World.cell?_of_block (a:=⟨g,j,none⟩) hb').trans (e3 j hj)⟩
theorem IsIq.box {b g:Nat}{ps:List Nat}{v:Value}{w w':World}{T:TypeId}{cs:List Value}(h:IsIq b ps v w)(bx:Bx w g T cs)(hT:T≠3)(hg:w.grownBy w' (some g)):IsIq b ps v w':=h.gro0 hg (fun cs' e=>by
 unfold Bx at bx;rw[bx]at e;injection e with e1
 injection e1 with _ e2
 exact hT e2) (Nat.le_refl _)
theorem IsIq.gro {b b' x:Nat}{ps:List Nat}{v:Value}{w w':World}(h:IsIq b ps v w)(hg:w.grownBy w' (some x))(hx:x<b)(hb:b'≤b):IsIq b' ps v w':=by
 obtain⟨A,c,e,h1⟩:=h;refine⟨A,c,e,fun h0=>?_⟩;obtain⟨g,e1,⟨e4,cs,e5⟩,e2,e3⟩:=h1 h0;have hb':=hg.block g e2 (fun e=>by have:=Option.some.inj e;omega);exact⟨g,e1,⟨Nat.le_trans hb e4,cs,hb'.trans e5⟩,Nat.lt_of_lt_of_le e2 hg.size,fun j hj=>(World.cell?_of_block (a:=⟨g,j,none⟩) hb').trans (e3 j hj)⟩
theorem IsIq.low {b b':Nat}{ps:List Nat}{v:Value}{w:World}(h:IsIq b ps v w)(hb:b'≤b):IsIq b' ps v w:=by
 obtain⟨A,c,e,h1⟩:=h;refine⟨A,c,e,fun h0=>?_⟩;obtain⟨g,e1,⟨e4,e5⟩,e2⟩:=h1 h0;exact⟨g,e1,⟨Nat.le_trans hb e4,e5⟩,e2⟩
theorem IsIq.len {b:Nat}{ps:List Nat}{v:Value}{w:World}(h:IsIq b ps v w):∃A c,v= .slice A ps.length c:=by
 obtain⟨A,c,e,-⟩:=h;exact⟨A,c,e⟩
def kIq (b:Nat)(ps:List Nat):FK:=.f (IsIq b ps) (fun v w w' h hb=>h.below hb)
theorem m_z {w:World}{b n:Nat}{v:Value}{ps:List Nat}(h:OwnI w b 3 v n (ints ps))(hn:ps.length=n):IsIq b ps v w:=by
 have hl:=fun g hg=>(h.lt (g:=g) hg).1;have ht:∀g,v.ownBlock=some g→∃cs,w.heap[g]? =some (.cells cs 3 (0,0)):=fun g hg=>by
  rcases h.1.2 with⟨rfl,_⟩|⟨g',cap,cur,rfl,hb,hh,_⟩
  ·cases hg
  ·have e':g'=g:=by simpa [Value.ownBlock] using hg
   subst e';exact⟨cur,hh⟩
 obtain⟨A,c,e,-,-,hI⟩:=h.form;subst hn;refine⟨A,c,e,fun h0=>?_⟩;obtain⟨g,h1,h2,h3⟩:=hI h0;exact⟨g,h1,⟨hl g (by rw[e,h1];rfl),ht g (by rw[e,h1];rfl)⟩,h2,fun j hj=>h3 j _ (by simp[ints,List.getD,hj])⟩
def IsRq (b R C S K1 K3:Nat)(F G:Nat→Nat→Rat):FVal:=fun v w=>∃g A c,v= .pointer (some ⟨g,0,none⟩)∧RsAt (qmX A c K3 (qcs R C S F G)) b w g R (C+S) K1 C (qwr R C F G)
def kRq (b R C S K1 K3:Nat)(F G:Nat→Nat→Rat):FK:=.f (IsRq b R C S K1 K3 F G) (fun v w w' ⟨g,A,c,e,h⟩ hb=>⟨g,A,c,e,h.below hb⟩)
theorem RqPost.k {w w':World}{R C S K1 K3:Nat}{F G:Nat→Nat→Rat}{e:Ending}(h:RqPost w R C S K1 K3 F G e w'):RetK (kRq w.heap.size R C S K1 K3 F G) w e w':=by
 obtain⟨g,A,c,e1,h1,h2⟩:=h;exact⟨_,e1,⟨g,A,c,rfl,h2⟩,h1⟩
theorem RsAt.low {xt:Xt}{b b' g R C K j:Nat}{w:World}{F:Nat→Nat→Int}(h:RsAt xt b w g R C K j F)(hb:b'≤b):RsAt xt b' w g R C K j F:=by
 obtain⟨s,G,ps,M,h,h1,H,vp,sa,A,n,c,rows,h2⟩:=h;exact⟨s,G,ps,M,h,h1,H,vp,sa,A,n,c,rows,{ h2 with
  bg:=Nat.le_trans hb h2.bg
  bh:=Nat.le_trans hb h2.bh
  own:=by
   refine⟨?_,h2.own.2⟩;refine⟨h2.own.1.1, ?_⟩;rcases h2.own.1.2 with h3|⟨g,cap,cur,h3,h4,h5⟩
   ·exact .inl h3
   ·exact .inr ⟨g,cap,cur,h3,Nat.le_trans hb h4,h5⟩ }⟩
theorem y_p {n C:Nat}{f:Nat→Nat}(h:DT.Inc n C f):n≤C:=by
 have lo:∀i,i<n→i≤f i:=fun i=>by
  induction i with
  |zero=>intro _;omega
  |succ i ih=>intro hi;have:=ih (by omega);have:=h.up i hi;omega
 rcases Nat.eq_zero_or_pos n with h0|h0
 ·omega
 ·have:=lo (n - 1) (by omega);have:=h.lt (n - 1) (by omega);omega
theorem m_s {b g R C S K1 K3 Kx c:Nat}{A:Option Addr}{F G:Nat→Nat→Rat}{w:World}(h:RsAt (qmX A c K3 (qcs R C S F G)) b w g R (C+S) K1 C (qwr R C F G))(hx:kb K1 (min R C)=Kx):∃s Gm ps M hh X H vp sa A1 n1 c1 rows,DT.Red R (C+S) C (qwr R C F G) s Gm ps M hh∧DT.Cols (C+S) Gm M ps hh X∧ps.length≤R∧ps.length≤C∧
  RAt (qmX A c K3 (qcs R C S F G)) b w g H R (C+S) Kx (fun _=>Kx) M ps hh s vp sa A1 n1 c1 rows:=by
 obtain⟨s,Gm,ps,M,hh,h3,H,vp,sa,A1,n1,c1,rows,h4⟩:=h;obtain⟨X,hX⟩:=h3.cols (Nat.le_add_right C S);have l1:=h3.nR;have l2:=y_p h3.inc;have l3:kb K1 ps.length≤Kx:=by rw[←hx];exact k_j (by omega)
 exact⟨s,Gm,ps,M,hh,X,H,vp,sa,A1,n1,c1,rows,h3,hX,l1,l2,h4.mono l3 fun _ _=>l3⟩
theorem p_v {w:World}{R k:Nat}{G:Nat→Nat→Rat}(hR:R≤64):Mq true w R 0 none 0 0 k G:=⟨⟨by simp[qmk],Nat.le_refl _,by omega,fun h=>by omega⟩,hR,by omega⟩
section
variable {ops:Array Oper}{Q:Exit→Act→World→Prop}{m i:Nat}{a0:Act}{w0:World}{l:List FK}{b:Bool}{id:Nat}
def b1X (o:Op):Operand:=match o with| .build _ xs=>(match xs.toList with| [(0,x)]=>x|_=>.func 0)|_=>.func 0
def okB1 (T0:TypeId)(ops:Array Oper)(m i:Nat)(s:Src):Bool:=okH ops m i&&(match(opAt ops i).op with| .build T xs=>(match xs.toList with| [(0,x)]=>T==T0&&s.ok ops m i x|_=>false)|_=>false)
theorem r_r (w:World)(x:Int):(Instr.build 24 #[(0,.int .i64 x)]).run Tryz.prog w= .ok (.agg #[.int .i64 x,.int .i64 0,.slice none 0 0]) w:=by kernel_rfl
theorem Run.bdM1 (s:Src){x:Int}(rest:R ops Q m a0 w0 b id (.k (.agg #[.int .i64 x,.int .i64 0,.slice none 0 0])::l) (i+1))(hx:s.K l i a0 (b1X (opAt ops i).op)= .k (.int .i64 x):=by rfl)(hc:okB1 24 ops m i s=true:=by kernel_rfl)(hg:Gd l i (opAt ops i):=by first|exact trivial|exact rfl):R ops Q m a0 w0 b id l i:=by
 unfold okB1 at hc;rw[Bool.and_eq_true]at hc;obtain⟨hh,h4⟩:=hc;refine Run.val (x:=.k (.agg #[.int .i64 x,.int .i64 0,.slice none 0 0])) hh (FK.kne _) hg (fun a w h=>?_) rest;split at h4
 ·rename_i T xs e;split at h4
  ·rename_i u ex;obtain⟨ys⟩:=xs;simp only at ex;subst ex;simp only[Bool.and_eq_true,beq_iff_eq]at h4;obtain⟨rfl,h1⟩:=h4;rw[e]at hx;have e14:a.eval u= .int .i64 x:=h.srcK h1 hx;refine⟨_, ?_,rfl⟩;unfold execOp;rw[e];simp only[List.map_toArray,List.map_cons,List.map_nil,e14];simp[r_r]
  ·cases h4
 ·cases h4
end
section
variable {ops:Array Oper}{Q:Exit→Act→World→Prop}{m i:Nat}{a0:Act}{w0:World}{l:List FK}{b:Bool}{id:Nat}
theorem Run.lnf (s:Src){n:Nat}{T E:TypeId}(hv:∀v w,(s.K l i a0 (opB (opAt ops i).op)).F v w→∃A c,v= .slice A n c)(hu:Tryz.prog.underlying T=some (.slice E))(rest:R ops Q m a0 w0 b id ((.k (.int .i64 (n:Int)))::l) (i+1))(hT:opT0 (opAt ops i).op=some T:=by rfl)(hc:okLen ops m i s=true:=by kernel_rfl)(hg:Gd l i (opAt ops i):=by first|exact trivial|exact rfl):R ops Q m a0 w0 b id l i:=by
 unfold okLen at hc;rw[Bool.and_eq_true]at hc;obtain⟨h1,h2⟩:=hc;refine Run.val h1 (FK.kne _) hg (fun a w h=>⟨_, ?_,rfl⟩) rest;split at h2
 ·rename_i xs ts e;split at h2
  ·rename_i x ex;obtain⟨ys⟩:=xs;simp only at ex;subst ex;have e0:opB (opAt ops i).op=x:=by rw[e];rfl
   rw[e0]at hv;obtain⟨A,c,e1⟩:=hv _ _ (h.src h2);have this:a.eval x= .slice A n c:=e1;unfold execOp;rw[e];rw[e]at hT;obtain⟨us⟩:=ts;match us,hT with
   |t::us,hT=>
    obtain rfl:t=T:=Option.some.inj hT;simp only[resolve,List.map_toArray,List.map_cons,List.map_nil,this];simp[go_sem,Builtin.len_,underlying,hu]
  ·cases h2
 ·cases h2
end
theorem p_m {w:World}{g g' k:Nat}{f:Nat→Bool}{xs:List Rat}{T:TypeId}{cs:List Value}(h:QB w g k f xs)(b:Bx w g' T cs)(hT:46≠T):g≠g':=by
 obtain⟨c,h1,-⟩:=h;intro e;subst e;unfold Bx at b;rw[b]at h1;injection h1 with h3
 injection h3 with _ h4
 exact hT h4.symm
theorem s_s {R C k:Nat}:kq1 R C k≤kb (kq1 R C k) (min R C):=by have:=k_j (K:=kq1 R C k) (i:=0) (j:=min R C) (Nat.zero_le _);rwa [e_q]at this
theorem l_h {w w':World}{g k r c:Nat}{done:Nat→Nat→Rat}{rw:Nat→Nat}{y:Nat→Rat}{kk i:Nat}{e:Ending}{x:Nat}(hx:rw i=x){z:Rat}(hz:y i=z)(h:PutPost w g k r c (fun a b=>if a=x∧b=kk then z else RT.ptm done rw y kk i a b) e w'):e= .returned (.tuple #[])∧w.grownBy w' (some g)∧QB w' g k (fun _=>true) (qmk r c (RT.ptm done rw y kk (i+1))):=by
 subst hx hz;have h2:=h;unfold PutPost at h2;rw[RT.ptm_put]at h2;exact h2
theorem c_3 {q:Bool}{R C n d k KF:Nat}{A:Option Addr}{F:Nat→Nat→Rat}{w:World}(ha:Mq q w R C A n d k F)(hk0:1≤k)(hK:kb (kq1 R C k) R≤549755813888)(hKF:kqf R C k≤KF)(hKF2:KF≤1073741824):Calls Tryz.prog 12 #[.agg #[.int .i64 (R:Int),.int .i64 (C:Int),.slice A n d]] w (RetK (kTr (kMw w.heap.size R C KF (RT.rdM R C F)) (kIq w.heap.size (RT.rdP R C F)) (.k (.int .i64 0))) w):=by
 have hR:=ha.hr;have hC:=ha.hc;have h1:=ha.fmd;obtain⟨Kx,hKx⟩:∃Kx,kb (kq1 R C k) (min R C)=Kx:=⟨_,rfl⟩;have hk1:kq1 R C k≤Kx:=by rw[←hKx];exact s_s
 obtain⟨K3,hK3⟩:∃K3,pc R (2*pc C k)=K3:=⟨_,rfl⟩;obtain⟨K1,hK1⟩:∃K1,kq1 R C k=K1:=⟨_,rfl⟩;have hf2:(R+2)*(Kx+R)+K3+Kx+1≤KF:=by unfold kqf at hKF;rw[hKx,hK3]at hKF;exact hKF
 have hb1:Kx+R≤(R+2)*(Kx+R):=Nat.le_mul_of_pos_left _ (by omega);rw[hK1]at hk1 hK hKx;have hK1b:K1≤1073741824:=by omega
 have hkf1:1≤KF:=by omega
 have hKxF:Kx≤KF:=by omega
 have hKS:Hid (pk C k+pk R (2*pc C k)=K1):=Lib.hid hK1;have HF2:=Lib.hid hf2;have HA:=Lib.hid ha;obtain⟨w1,hw1,b1,b2,z1,s1⟩:=boxes2 w 24 24 [.int .i64 (R:Int),.int .i64 (C:Int),.slice A n d] [.int .i64 0,.int .i64 0,.slice none 0 0];have HW:=Lib.hid hw1;have HZ:=Lib.hid z1;have h1_:=Lib.hid h1;have hK3_:=Lib.hid hK3;have hKx_:=Lib.hid hKx;clear hw1 z1 h1 hK3 hKx s1 hK1 ha hKF hf2 hb1;go_enter Tryz.func12,Tryz.ntmps12
 go_upto_region 1 with fail
 rw[HW.out];refine Run.start 3 ?_;refine .ld .o (ldQm b1 0) ?_;refine .c1 (.i 0) (x:=.k (.bool true)) (by rintro u w2 hB rfl;exact b_m h1_.out w2) ?_;refine .nt (.i 1) ?_;refine .donep [some 10,some 11,some 12] ?_;intro w2 B2;change Shut (wpList _ _ _ [] _ _);refine⟨?_⟩;simp only[Act.put,lS,lZ,lC];have B0:=zup HZ.out B2;replace b1:=b1.below B2;replace b2:=b2.below B2;have hl2:=b2.lt;clear B2 HZ;go_upto_region 3 with fail
 refine Run.start 6 ?_;refine .ld .o (ldQm b1 0) ?_;refine .fa .o (fQ0 0) ?_;refine .ld (.i 1) (ldInt b1 0) ?_;refine .bdM1 (.i 2) (x:=(R:Int)) ?_;refine .c2 (.i 0) (.i 3) (x:=kRq w2.heap.size R C 0 K1 K3 F (fun _ _=>0)) (by rintro u v w4 hB rfl rfl;exact(m_u (HA.out.below (zup B0 hB)) (p_v (G:=fun _ _=>0) (k:=k) hR) hk0 rfl rfl rfl hK3_.out rfl hKS.out hK hK1b).mono fun e w' h=>h.k.mono fun v w2 ⟨g,A,c,e,h1⟩=>⟨g,A,c,e,h1.low hB.size⟩) ?_;refine .mf (.i 4) ?_;refine .donep [some 14,some 15,some 16,some 17,some 18,some 5] ?_;intro w3 B3;rintro v18 -;rintro v5 ⟨g,Aq,cq,rfl,hrs⟩;change Shut (wpList _ _ _ [] _ _);refine⟨?_⟩;simp only[Act.put,lS,lZ,lC];replace B0:=zup B0 B3;replace b1:=b1.below B3;replace b2:=b2.below B3;clear B3;obtain⟨s,Gm,ps,M,hh,X,H,vp,sa,A1,n1,c1,rows,hr,hX,hnR,hnC,r⟩:=m_s hrs hKx_.out;obtain⟨Ap,cp,rfl⟩:=r.vpf;have bx:=r.bx;have HR:=Lib.hid r;have HRD:=Lib.hid hr;have HXC:=Lib.hid hX;obtain⟨np,hnp⟩:∃np,ps.length=np:=⟨_,rfl⟩;rw[hnp]at hnR hnC bx;have HNP:=Lib.hid hnp;obtain⟨nys,hnys⟩:∃nys,(qcs R C 0 F (fun _ _=>0)).length=nys:=⟨_,rfl⟩;change Bx w3 g 84 [.slice (some ⟨H,0,none⟩) R R,.slice Ap np cp,.bool sa,.slice A1 n1 c1,.bool s,.slice Aq (qcs R C 0 F (fun _ _=>0)).length cq]at bx;rw[hnys]at bx;clear hrs r hr hX hnp hnys;go_upto_region 4 with fail
 refine Run.start 6 ?_;refine .fa .o (fQ0 0) ?_;refine .ld (.i 0) (ldInt b1 0) ?_;refine .fa .o (fQ1 1) ?_;refine .ld (.i 2) (ldInt b1 1) ?_;refine .c2 (.i 1) (.i 3) (x:=kMw w3.heap.size R C 1 fun _ _=>0) (by rintro u v w4 hB rfl rfl;exact(v_2 hR hC).mono fun e w' h=>h.mono fun v w2 ⟨A,n,d,e,h1⟩=>⟨A,n,d,e,h1.low hB.size⟩) ?_;refine .al ?_;refine .donep [some 19,some 20,some 21,some 22,some 23,some 6] ?_;intro w4 B4;rintro v ⟨A_,n_,d_,rfl,hM⟩;rintro g6 hg6 hl6 hc6 -;change Shut (wpList _ _ _ [_] _ _);refine⟨?_⟩;simp only[Act.put,lS,lZ,lC];obtain⟨gO,rfl,rfl,rfl,hO,hgO,-,-⟩:=hM;have b6:=zeroMq hc6;have neO:gO≠g6:=p_m hO b6 (by decide);have l_b1:=b1.lt;replace b1:=b1.below B4;have l_b2:=b2.lt;replace b2:=b2.below B4;have lbx:=bx.lt;replace bx:=bx.below B4;have hgr_:=a_k w4 g6 (R:Int) (C:Int) (some ⟨gO,0,none⟩) (R*C) (R*C);have hno_:Wless w4 g6:=b6.now (by simp);obtain⟨w5,hw5⟩:∃x,mput w4 g6 (R:Int) (C:Int) (some ⟨gO,0,none⟩) (R*C) (R*C)=x:=⟨_,rfl⟩;obtain⟨f0_,f1_,f2_,f3_,f4_,f5_,f6_⟩:=b6.m3T;rw[hw5]at hgr_;have hB0s:=B0.size;have B35:=a_c B4 hgr_ hg6;replace hO:=hO.gro neO hno_ hgr_;replace b1:=a_a b1 hgr_ (by omega);replace b2:=a_a b2 hgr_ (by omega);replace bx:=a_a bx hgr_ (by omega);replace b6:=b6.mpT (r':=(R:Int)) (c':=(C:Int)) (C:=some ⟨gO,0,none⟩) (n':=R*C) (d':=R*C);rw[hw5]at b6;have Hw5:=Lib.hid hw5;unfold mput at Hw5;have lO:=hO.lt;have l6:=b6.lt;have neO':g6≠gO:=Ne.symm neO;clear hw5 hgr_ hno_ B4 hc6 hl6;go_upto_region 5 with fail
 rw[Hw5.out];clear f0_ f1_ f2_ f3_ f4_ f5_ f6_ Hw5;obtain⟨i0,i1,i2,i3,i4,i5,i6⟩:=b1.m3T;have H0:Hid (w5.grownBy w5 (some gO)∧QB w5 gO KF (fun _=>true) (qmk R C fun a b=>if b<0 then(RT.xr ps.length hh X) a b else 0)):=Lib.hid ⟨a_u _ _,by
  have h:=hO.mono hkf1;rw[b_l (G:=fun a b=>if b<0 then(RT.xr ps.length hh X) a b else 0) fun a b _ _=>by rw[if_neg (by omega)]]at h;exact h⟩
 clear hO
 go_wp2_with fail
 clear i0 i1 i2 i3 i4 i5 i6;go_loopw [26] (fun s26 wr=>∃kk:Nat,s26= .int .i64 (kk:Int)∧kk≤C∧Hid (w5.grownBy wr (some gO)∧QB wr gO KF (fun _=>true) (qmk R C fun a b=>if b<kk then(RT.xr ps.length hh X) a b else 0))) (fun s26 _=>C - (intOf s26).toNat)
 case atStart=>exact⟨0,rfl,Nat.zero_le _,H0⟩
 case round=>
  clear H0;obtain⟨kk,rfl,hkk,HB⟩:=hrel;obtain⟨hG,hQ⟩:=HB.out;clear HB;have BR:=a_c B35 hG hgO;have r':=HR.out.below BR;have hBRs:=BR.size;have hGs:=hG.size;have b2r:=a_a b2 hG (by omega);have b6r:=a_a b6 hG neO';have lOr:=hQ.lt;by_cases hlt:kk<C
  ·have u1:(kk:Int)<(C:Int):=by omega
   obtain⟨y,hy⟩:∃y:Nat→Rat,(fun i=>((X kk i:Int):Rat)*(hh:Rat)⁻¹*rth (qcs R C 0 F (fun _ _=>0)) kk)=y:=⟨_,rfl⟩;have HY:=Lib.hid hy;clear hy;go_upto_region 8 with fail
   refine Run.start 5 ?_;refine .mv .o ?_;refine .mv .o ?_;refine .c2 (.i 0) (.i 1) (x:=kQw true wr.heap.size np KF (qrw np y)) (by rintro u v w4 hB rfl rfl;have h:=w_t (kk:=kk) HRD.out HXC.out (r'.below hB) (g_x ..) (by omega) (Nat.le_add_right _ _) (Nat.le_refl _) hR HF2.out hKF2;rw[HNP.out,HY.out]at h;exact h.mono fun e w' h=>h.mono fun v w2 ⟨g,e,h1,h2⟩=>⟨g,e,h1,Nat.le_trans hB.size h2⟩) ?_;refine .lnf (.i 2) (fun v w ⟨_,e,_⟩=>⟨_,_,e⟩) Tryz.underlying22 ?_;refine .mv .o ?_;refine .donep [some 29,some 30,some 31,some 32,some 33] ?_;intro w7 B7;rintro v ⟨gc,rfl,hc,hgc⟩;change Shut (wpList _ _ _ [] _ _);refine⟨?_⟩;simp only[Act.put,lS,lZ,lC];have hQ7:=hQ.below B7;have b6q:=b6r.below B7;have lc:=hc.lt;have necO:gc≠gO:=by omega
   have H0:Hid (w7.grownBy w7 (some gO)∧QB w7 gO KF (fun _=>true) (qmk R C (RT.ptm (RT.xr ps.length hh X) (fun r=>r) y kk 0))):=Lib.hid ⟨a_u _ _,by
    have h:=hQ7;rw[b_l (G:=RT.ptm (RT.xr ps.length hh X) (fun r=>r) y kk 0) fun a b _ _=>(RT.ptm_zero a b).symm]at h;exact h⟩
   have HC:=Lib.hid hc;clear hc
   go_wp2_with fail
   go_loopw [33] (fun s33 wi=>∃i:Nat,s33= .int .i64 (i:Int)∧i≤np∧Hid (w7.grownBy wi (some gO)∧QB wi gO KF (fun _=>true) (qmk R C (RT.ptm (RT.xr ps.length hh X) (fun r=>r) y kk i)))) (fun s33 _=>np - (intOf s33).toNat)
   case atStart=>exact⟨0,rfl,Nat.zero_le _,H0⟩
   case round=>
    clear H0;obtain⟨i,rfl,hi,HB⟩:=hrel;obtain⟨hGi,hQi⟩:=HB.out;clear HB;by_cases hil:i<np
    ·have u2:(i:Int)<(np:Int):=by omega
     have hci:=HC.out.gro necO hQ7.now hGi;have hcl:=hci.lt;have b6i:=a_a b6q hGi neO';obtain⟨s_,A_,n_,c_,t_,B_,m_,d_,x1,x2,x3,x4,zq,hz1,hz2⟩:=hci.cells (j:=i) (by rw[b_5];exact hil);rw[e_z hil]at zq;have hx:=zq.2 rfl;have hGis:=hGi.size;have hlOi:=hQi.lt;have hl6i:=b6i.lt;clear zq;go_upto_region 10 with fail
     refine Run.start 5 ?_;refine .mv .o ?_;refine .two .o .o (opIxQB hil) ?_;refine .ld (.i 1) (ldQ (p:=⟨gc,i*4,none⟩) hcl x1 x2 x3 x4) ?_;refine .al ?_;refine .mv (.i 0) ?_;refine .donep [some 35,some 36,some 37,some 9,some 8] ?_;intro w8 B8;rintro g9 hg9 hl9 hc9 -;change Shut (wpList _ _ _ [_] _ _);refine⟨?_⟩;simp only[Act.put,lS,lZ,lC];have b9:=zeroQ hc9;replace hx:=hx.below B8;replace hQi:=hQi.below B8;have b6j:=b6i.below B8;clear hc9 hl9 x1 x2 x3 x4;obtain⟨w9,hw9⟩:∃x,rput w8 g9 s_ A_ n_ c_ t_ B_ m_ d_=x:=⟨_,rfl⟩;obtain⟨f1_,f2_,f3_,f4_,f5_,f6_,f7_,f8_,f9_⟩:=b9.rb;have hgr_:=b_p w8 g9 s_ A_ n_ c_ t_ B_ m_ d_;have hno_:Wless w8 g9:=b9.now (by simp);rw[hw9]at hgr_;replace b6j:=a_a b6j hgr_ (by omega);replace hx:=hx.gro hno_ hgr_;replace hQi:=hQi.gro (by omega) hno_ hgr_;replace B8:=a_c B8 hgr_ (by omega);replace b9:=b9.rp (s':=s_) (A':=A_) (n':=n_) (c':=c_) (t':=t_) (B':=B_) (m':=m_) (d':=d_);rw[hw9]at b9;have Hw9:=Lib.hid hw9;unfold rput at Hw9;clear hw9 hgr_ hno_;have HBi:=Lib.hid B8;clear B8;go_upto_region 11 with fail
     rw[Hw9.out];clear f1_ f2_ f3_ f4_ f5_ f6_ f7_ f8_ f9_ Hw9;refine Run.start 4 ?_;refine .ld .o (ldQm b6j 0) ?_;refine .mv .o ?_;refine .mv .o ?_;refine .ld .o (ldQr b9) ?_;refine .donep [some 38,some 39,some 40,some 41] ?_;intro w10 B10;change Shut (wpList _ _ _ [_] _ _);refine⟨?_⟩;simp only[Act.put,lS,lZ,lC];replace hx:=hx.below B10;replace hQi:=hQi.below B10;have HGF:Hid (w7.grownBy w10 (some gO)):=Lib.hid (b_e hGi (e_1 (zup HBi.out B10) _));clear B10 HBi b6i b6j b9 hci
     go_wp2_with fail
     refine(s_a (s1:=0) (n1:=0) (m1:=0) hQi hR hC (by omega) hlt hx hz1 hz2).mono ?_;intro e w11 hp;obtain⟨rfl,hg,hq⟩:=l_h (rw:=fun r=>r) (y:=y) rfl rfl hp;have HN:Hid (w7.grownBy w11 (some gO)∧QB w11 gO KF (fun _=>true) (qmk R C (RT.ptm (RT.xr ps.length hh X) (fun r=>r) y kk (i+1)))):=Lib.hid ⟨b_e HGF.out hg,hq⟩;clear hQi hx hp hg hq HGF
     go_wp2_with fail
     go_roundw
     case rel=>exact⟨i+1,by go_num,by omega,HN⟩
     case measure=>first|(simp[intOf];done)|(simp[intOf];omega)
    ·obtain rfl:i=np:=by omega
     have u2:¬(i:Int)<(i:Int):=by omega
     have HN:Hid (w5.grownBy wr (some gO)∧QB wr gO KF (fun _=>true) (qmk R C fun a b=>if b<kk+1 then(RT.xr ps.length hh X) a b else 0)):=Lib.hid ⟨b_e (b_e hG (e_1 B7 _)) hGi,by
      have h:=hQi;rw[b_l (G:=fun a b=>if b<kk+1 then(RT.xr ps.length hh X) a b else 0) fun a b _ _=>RT.ptm_end b (by
       rw[RT.pt_id,←HY.out];unfold RT.xr;rw[HNP.out];by_cases e:a<i
       ·rw[if_pos e,if_pos e,t_1 hlt];simp
       ·rw[if_neg e,if_neg e])]at h
      exact h⟩
     clear hG hGi hQi hQ hQ7 HC B7
     go_wp2_with fail
     go_roundw
     case rel=>exact⟨kk+1,by go_num,by omega,HN⟩
     case measure=>first|(simp[intOf];done)|(simp[intOf];omega)
  ·obtain rfl:kk=C:=by omega
   have u1:¬(kk:Int)<(kk:Int):=by omega
   have bxr:=r'.bx;change Bx wr g 84 [.slice (some ⟨H,0,none⟩) R R,.slice Ap ps.length cp,.bool sa,.slice A1 n1 c1,.bool s,.slice Aq (qcs R kk 0 F (fun _ _=>0)).length cq]at bxr;rw[HNP.out]at bxr;have c1:=bxr.cell 1;obtain⟨j0,j1,j2,j3,j4,j5,j6⟩:=b6r.m3T;obtain⟨k0,k1,k2,k3,k4,k5,k6⟩:=b2r.m3T;have hp0:=RT.red_of HRD.out (Nat.le_add_right _ _) HXC.out (A:=F) (c:=fun i=>pct (F i) kk) (fun i _=>f_t _ _) (fun i j _ hj=>qF hj);obtain⟨e1,e2⟩:=RT.rd_eq hp0;have hI:IsIq w2.heap.size ps (.slice Ap np cp) wr:=by have h:=r'.own;rw[HNP.out]at h;exact m_z h HNP.out
   have hQF:QB wr gO KF (fun _=>true) (qmk R kk (RT.rdM R kk F)):=by
    have h:=hQ;rw[b_l (G:=RT.rdM R kk F) fun a b ha hb=>by rw[if_pos hb];exact e2 a b ha hb]at h;exact h
   have hBw:=zup B0 BR;have P:Hid (∀W,Below wr.heap.size wr W→RetK (kTr (kMw w.heap.size R kk KF (RT.rdM R kk F)) (kIq w.heap.size (RT.rdP R kk F)) (.k (.int .i64 0))) w (.returned (.tuple #[.agg #[.int .i64 (R:Int),.int .i64 (kk:Int),.slice (some ⟨gO,0,none⟩) (R*kk) (R*kk)],.slice Ap np cp,.int .i64 0])) (mput W (w.heap.size+1) (R:Int) (kk:Int) (some ⟨gO,0,none⟩) (R*kk) (R*kk))):=Lib.hid fun W hW=>by
    have b2W:=b2r.below hW;have hgr:=a_k W (w.heap.size+1) (R:Int) (kk:Int) (some ⟨gO,0,none⟩) (R*kk) (R*kk);have hno:Wless W (w.heap.size+1):=b2W.now (by simp);rw[e1]at hI;exact⟨_,rfl,⟨_,_,_,rfl,⟨_,_,_,rfl,gO,rfl,rfl,rfl,(hQF.below hW).gro (by omega) hno hgr,by omega,hR,hC⟩,(hI.below hW).gro hgr hl2 (by omega),rfl⟩,a_c (zup hBw hW) hgr (by omega)⟩
   unfold mput at P;have hgb:=r'.bg;have n1:¬g=w.heap.size+1:=by omega
   have n2:¬w.heap.size+1=g:=by omega
   clear hQ hG hQF hI r' bxr b2r b6r hp0 e1 e2 hBw hgb
   go_wp2_with fail
   go_region
   all_goals
    go_wp2_with fail
    exact bodyPost_ret (v:=.tuple #[.agg #[.int .i64 (R:Int),.int .i64 (kk:Int),.slice (some ⟨gO,0,none⟩) (R*kk) (R*kk)],.slice Ap np cp,.int .i64 0]) (by simp[results,Tryz.results12,go_sem,k0,k1,k2]) rfl (P.out _ (a_t _))
end
end Go.Proofs.YtkgghhklbbfdiaaGreat
