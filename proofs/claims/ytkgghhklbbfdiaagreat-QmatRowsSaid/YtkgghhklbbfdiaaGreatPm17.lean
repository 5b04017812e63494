/- Pm17 -/
import Derived.Test.YtkgghhklbbfdiaaGreatPm16
import Derived.Lib.SmallJoins
import Derived.ChangeSlices
set_option linter.unusedVariables false
set_option linter.unusedSimpArgs false
set_option linter.unusedSectionVars false
set_option maxRecDepth 100000
set_option maxHeartbeats 8000000
namespace Go.Proofs.YtkgghhklbbfdiaaGreat
section
open Go.RowKit
theorem c_5 {w:World}{s:Bool}{A:Option Addr}{n c:Nat}{z:Int}(h:Zv w s A n c z)(hn:n≤900):(zstr z).size≤20001:=by
 have hsz:(str (dgs z.natAbs)).size≤20000:=by
  rw[←h_6,q_x (q_n z.natAbs).low,h_5];exact k_b h.abs.1 hn
 unfold zstr;split
 ·rw[ByteArray.size_append];have:({ data:=#[45] }:ByteArray).size=1:=rfl;omega
 ·omega
def qstr (q:Rat):ByteArray:=if q.den=1 then zstr q.num else zstr q.num++({ data:=#[47] }:ByteArray)++zstr (q.den:Int)
def QPrPost (q:Rat)(w:World)(e:Ending)(w':World):Prop:=e= .returned (.string (qstr q))∧Below w.heap.size w w'
theorem n_2 {A B:Option Addr}{n c m d k:Nat}{s t:Bool}{N D:Int}{w:World}(hn:Zv w s A n c N)(hd:Zv w t B m d D)(hnk:n≤k)(hmk:m≤k)(h1:1≤k)(hk:k≤900)(h:(Rat.divInt N D).den=1):
  Calls Tryz.prog 52 #[.agg #[.bool s,.slice A n c,.bool t,.slice B m d]] w (QPrPost (Rat.divInt N D) w):=by
 have hW:=Below.refl w.heap.size w;obtain⟨wp0,hwp0⟩:∃x,x=w.alloc (.cells #[.bool s,.slice A n c,.bool t,.slice B m d] 46):=⟨_,rfl⟩;have zp0:Below w.heap.size w wp0:=by rw[hwp0];exact zba _ _
 have sp0:wp0.heap.size=w.heap.size+1:=by rw[hwp0,World.size_alloc]
 have Ia:Rb wp0 w.heap.size s A n c t B m d:=by rw[hwp0];exact Rb.new _ _ _ _ _ _ _ _ _ _
 replace hn:=hn.below zp0;replace hd:=hd.below zp0;replace hW:=hW.trans (zp0.mono hW.size);have H_a:=Lib.hid Ia;clear Ia zp0;have HW:Hid ((w.alloc (.cells #[.bool s,.slice A n c,.bool t,.slice B m d] 46))=wp0):=Lib.hid (by rw[hwp0]);have lw_a:w.heap.size≤w.heap.size:=by omega
 clear hwp0 sp0;obtain⟨q,hq⟩:∃q,Rat.divInt N D=q:=⟨_,rfl⟩;have HQ:=Lib.hid hq;rw[hq]at h;rw[hq];have HB:Hid (decide ((q.den:Int)=1)=true):=Lib.hid (by simp;omega);obtain⟨S1,hS1⟩:∃S,zstr q.num=S:=⟨_,rfl⟩;obtain⟨S2,hS2⟩:∃S,zstr (q.den:Int)=S:=⟨_,rfl⟩;have HS1:=Lib.hid hS1;have HS2:=Lib.hid hS2;have HS:Hid (qstr q=S1):=Lib.hid (by unfold qstr;rw[if_pos h,hS1]);clear hq hS1 hS2 h;go_enter Tryz.func52,Tryz.ntmps52
 obtain⟨a1,a2,a3,a4,a5,a6,a7,a8,a9⟩:=H_a.out
 go_wp2_with fail
 rw[HW.out];clear a1 a2 a3 a4 a5 a6 a7 a8 a9;refine(i_y (k:=k) hn hd hnk hmk h1 (by omega)).mono ?_;rintro e w21 ⟨s21,A21,n21,c21,t21,D21,m21,d21,rfl,pq,k21,l21,B21⟩;replace H_a:=Lib.hid (H_a.out.below B21);replace hn:=hn.below B21;replace hd:=hd.below B21;replace hW:=hW.trans (B21.mono hW.size);clear B21;rw[HQ.out]at pq;have O_a:=H_a;obtain⟨w22,hw22⟩:∃x,x=rput w21 w.heap.size s21 A21 n21 c21 t21 D21 m21 d21:=⟨_,rfl⟩;have HW22:Hid (((((w21.setCell ⟨w.heap.size,0,none⟩ (.bool s21)).setCell ⟨w.heap.size,1,none⟩ (.slice A21 n21 c21)).setCell ⟨w.heap.size,2,none⟩ (.bool t21)).setCell ⟨w.heap.size,3,none⟩ (.slice D21 m21 d21))=w22):=Lib.hid hw22.symm;have OI:=H_a.out;replace hn:=hn.rput (s':=s21) (A':=A21) (n':=n21) (c':=c21) (t':=t21) (B':=D21) (m':=m21) (d':=d21) OI;replace hd:=hd.rput (s':=s21) (A':=A21) (n':=n21) (c':=c21) (t':=t21) (B':=D21) (m':=m21) (d':=d21) OI;replace pq:=pq.rput (s':=s21) (A':=A21) (n':=n21) (c':=c21) (t':=t21) (B':=D21) (m':=m21) (d':=d21) OI;rw[←hw22]at hn;rw[←hw22]at hd;rw[←hw22]at pq;replace hW:Below w.heap.size w w22:=by rw[hw22];exact c_a hW lw_a
 replace H_a:Hid (Rb w22 w.heap.size s21 A21 n21 c21 t21 D21 m21 d21):=Lib.hid (by rw[hw22];exact OI.own);clear hw22 OI;clear hn hd;have hz1:S1.size≤9223372036854775806:=by have:=c_5 pq.nv (by omega);rw[HS1.out]at this;omega
 have hz2:S1.size+1+S2.size≤9223372036854775807:=by have k1:=c_5 pq.nv (by omega);have k2:=c_5 pq.dv (by omega);rw[HS1.out]at k1;rw[HS2.out]at k2;omega
 obtain⟨a1,a2,a3,a4,a5,a6,a7,a8,a9⟩:=O_a.out
 go_wp2_with fail
 rw[HW22.out];clear a1 a2 a3 a4 a5 a6 a7 a8 a9 O_a;refine(p_5 pq.dv (by omega) HB.out).mono ?_;rintro e w23 ⟨rfl,B23⟩;replace H_a:=Lib.hid (H_a.out.below B23);replace pq:=pq.below B23;replace hW:=hW.trans (B23.mono hW.size);clear B23;have PR1:∀w:World,ZPrPost q.num w=fun e w'=>e= .returned (.string S1)∧Below w.heap.size w w':=fun w=>by unfold ZPrPost;rw[HS1.out]
 have PR2:∀w:World,ZPrPost (q.den:Int) w=fun e w'=>e= .returned (.string S2)∧Below w.heap.size w w':=fun w=>by unfold ZPrPost;rw[HS2.out]
 obtain⟨a1,a2,a3,a4,a5,a6,a7,a8,a9⟩:=H_a.out
 go_wp2_with fail
 clear a1 a2 a3 a4 a5 a6 a7 a8 a9;refine((PR1 _) ▸ h_8 pq.nv (by omega)).mono ?_;rintro e w24 ⟨rfl,B24⟩;replace H_a:=Lib.hid (H_a.out.below B24);replace pq:=pq.below B24;replace hW:=hW.trans (B24.mono hW.size);clear B24
 go_wp2_with fail
 go_ret
 unfold QPrPost;rw[HS.out];exact⟨rfl,hW⟩
theorem n_1 {A B:Option Addr}{n c m d k:Nat}{s t:Bool}{N D:Int}{w:World}(hn:Zv w s A n c N)(hd:Zv w t B m d D)(hnk:n≤k)(hmk:m≤k)(h1:1≤k)(hk:k≤900)(h:(Rat.divInt N D).den≠1):
  Calls Tryz.prog 52 #[.agg #[.bool s,.slice A n c,.bool t,.slice B m d]] w (QPrPost (Rat.divInt N D) w):=by
 have hW:=Below.refl w.heap.size w;obtain⟨wp0,hwp0⟩:∃x,x=w.alloc (.cells #[.bool s,.slice A n c,.bool t,.slice B m d] 46):=⟨_,rfl⟩;have zp0:Below w.heap.size w wp0:=by rw[hwp0];exact zba _ _
 have sp0:wp0.heap.size=w.heap.size+1:=by rw[hwp0,World.size_alloc]
 have Ia:Rb wp0 w.heap.size s A n c t B m d:=by rw[hwp0];exact Rb.new _ _ _ _ _ _ _ _ _ _
 replace hn:=hn.below zp0;replace hd:=hd.below zp0;replace hW:=hW.trans (zp0.mono hW.size);have H_a:=Lib.hid Ia;clear Ia zp0;have HW:Hid ((w.alloc (.cells #[.bool s,.slice A n c,.bool t,.slice B m d] 46))=wp0):=Lib.hid (by rw[hwp0]);have lw_a:w.heap.size≤w.heap.size:=by omega
 clear hwp0 sp0;obtain⟨q,hq⟩:∃q,Rat.divInt N D=q:=⟨_,rfl⟩;have HQ:=Lib.hid hq;rw[hq]at h;rw[hq];have HB:Hid (decide ((q.den:Int)=1)=false):=Lib.hid (by simp;omega);obtain⟨S1,hS1⟩:∃S,zstr q.num=S:=⟨_,rfl⟩;obtain⟨S2,hS2⟩:∃S,zstr (q.den:Int)=S:=⟨_,rfl⟩;have HS1:=Lib.hid hS1;have HS2:=Lib.hid hS2;have HS:Hid (qstr q=S1++({ data:=#[47] }:ByteArray)++S2):=Lib.hid (by unfold qstr;rw[if_neg h,hS1,hS2]);clear hq hS1 hS2 h;go_enter Tryz.func52,Tryz.ntmps52
 obtain⟨a1,a2,a3,a4,a5,a6,a7,a8,a9⟩:=H_a.out
 go_wp2_with fail
 rw[HW.out];clear a1 a2 a3 a4 a5 a6 a7 a8 a9;refine(i_y (k:=k) hn hd hnk hmk h1 (by omega)).mono ?_;rintro e w21 ⟨s21,A21,n21,c21,t21,D21,m21,d21,rfl,pq,k21,l21,B21⟩;replace H_a:=Lib.hid (H_a.out.below B21);replace hn:=hn.below B21;replace hd:=hd.below B21;replace hW:=hW.trans (B21.mono hW.size);clear B21;rw[HQ.out]at pq;have O_a:=H_a;obtain⟨w22,hw22⟩:∃x,x=rput w21 w.heap.size s21 A21 n21 c21 t21 D21 m21 d21:=⟨_,rfl⟩;have HW22:Hid (((((w21.setCell ⟨w.heap.size,0,none⟩ (.bool s21)).setCell ⟨w.heap.size,1,none⟩ (.slice A21 n21 c21)).setCell ⟨w.heap.size,2,none⟩ (.bool t21)).setCell ⟨w.heap.size,3,none⟩ (.slice D21 m21 d21))=w22):=Lib.hid hw22.symm;have OI:=H_a.out;replace hn:=hn.rput (s':=s21) (A':=A21) (n':=n21) (c':=c21) (t':=t21) (B':=D21) (m':=m21) (d':=d21) OI;replace hd:=hd.rput (s':=s21) (A':=A21) (n':=n21) (c':=c21) (t':=t21) (B':=D21) (m':=m21) (d':=d21) OI;replace pq:=pq.rput (s':=s21) (A':=A21) (n':=n21) (c':=c21) (t':=t21) (B':=D21) (m':=m21) (d':=d21) OI;rw[←hw22]at hn;rw[←hw22]at hd;rw[←hw22]at pq;replace hW:Below w.heap.size w w22:=by rw[hw22];exact c_a hW lw_a
 replace H_a:Hid (Rb w22 w.heap.size s21 A21 n21 c21 t21 D21 m21 d21):=Lib.hid (by rw[hw22];exact OI.own);clear hw22 OI;clear hn hd;have hz1:S1.size≤9223372036854775806:=by have:=c_5 pq.nv (by omega);rw[HS1.out]at this;omega
 have hz2:S1.size+1+S2.size≤9223372036854775807:=by have k1:=c_5 pq.nv (by omega);have k2:=c_5 pq.dv (by omega);rw[HS1.out]at k1;rw[HS2.out]at k2;omega
 obtain⟨a1,a2,a3,a4,a5,a6,a7,a8,a9⟩:=O_a.out
 go_wp2_with fail
 rw[HW22.out];clear a1 a2 a3 a4 a5 a6 a7 a8 a9 O_a;refine(p_5 pq.dv (by omega) HB.out).mono ?_;rintro e w23 ⟨rfl,B23⟩;replace H_a:=Lib.hid (H_a.out.below B23);replace pq:=pq.below B23;replace hW:=hW.trans (B23.mono hW.size);clear B23;have PR1:∀w:World,ZPrPost q.num w=fun e w'=>e= .returned (.string S1)∧Below w.heap.size w w':=fun w=>by unfold ZPrPost;rw[HS1.out]
 have PR2:∀w:World,ZPrPost (q.den:Int) w=fun e w'=>e= .returned (.string S2)∧Below w.heap.size w w':=fun w=>by unfold ZPrPost;rw[HS2.out]
 obtain⟨a1,a2,a3,a4,a5,a6,a7,a8,a9⟩:=H_a.out
 go_wp2_with fail
 clear a1 a2 a3 a4 a5 a6 a7 a8 a9;refine region7 [] 9 [IsK (.pointer (some ⟨w.heap.size,0,none⟩)),IsK (.agg #[.bool s21,.slice A21 n21 c21]),IsK (.string S1),IsK (.string (S1++({ data:=#[47] }:ByteArray))),IsK (.pointer (some ⟨w.heap.size,2,none⟩)),IsK (.agg #[.bool t21,.slice D21 m21 d21]),IsK (.string S2),IsK (.string (S1++({ data:=#[47] }:ByteArray)++S2)),IsK (.string (S1++({ data:=#[47] }:ByteArray)++S2))] (fun _ _ d _ _ h=>by cases d<;>exact h) (by kernel_rfl) (by kernel_rfl) (by kernel_rfl) ⟨c_8 _,c_8 _,c_8 _,c_8 _,c_8 _,c_8 _,c_8 _,c_8 _,c_8 _,trivial⟩ ?_ ?_
 ·refine HopAll.cons rfl ?_ (HopAll.cons rfl ?_ (HopAll.cons rfl ?_ (HopAll.cons rfl ?_ (HopAll.cons rfl ?_ (HopAll.cons rfl ?_ (HopAll.cons rfl ?_ (HopAll.cons rfl ?_ (HopAll.cons rfl ?_ HopAll.nil))))))))
  ·intro a w1 hB ho hp K hK;have e1:a.eval (.tmp 1)=(.pointer (some ⟨w.heap.size,0,none⟩)):=ho 1 (by kernel_rfl);refine e_r (a_r rfl) ?_ (hK (.pointer (some ⟨w.heap.size,0,none⟩)) _ rfl (Below.refl _ _));unfold execOp;simp only[e1];simp[go_sem]
  ·intro a w1 hB ho hp K hK;have e14:a.eval (.tmp 14)=(.pointer (some ⟨w.heap.size,0,none⟩)):=hp 0 14 (by kernel_rfl);obtain⟨u1,u2,u3,u4,u5,u6,u7,u8,u9⟩:=H_a.out.below hB;exact i_8 (a_r rfl) rfl e14 (i_o u1 u2) (hK _ _ rfl (Below.refl _ _))
  ·intro a w1 hB ho hp K hK;have e15:a.eval (.tmp 15)=(.agg #[.bool s21,.slice A21 n21 c21]):=hp 1 15 (by kernel_rfl);refine f_7 (a_r rfl) rfl (args:=#[(.agg #[.bool s21,.slice A21 n21 c21])]) (by simp only[List.map_toArray,List.map_cons,List.map_nil,b_3,e15]) (ent7 (by kernel_rfl) _ _) ((PR1 _) ▸ h_8 (pq.below hB).nv (by omega)) ?_;rintro e w2 ⟨rfl,B⟩;exact⟨_,rfl,hK _ _ rfl B⟩
  ·intro a w1 hB ho hp K hK;have e16:a.eval (.tmp 16)=(.string S1):=hp 2 16 (by kernel_rfl);refine e_r (a_r rfl) ?_ (hK (.string (S1++({ data:=#[47] }:ByteArray))) _ rfl (Below.refl _ _));unfold execOp;simp only[b_3,e16];simp[go_sem,hz1]
  ·intro a w1 hB ho hp K hK;have e1:a.eval (.tmp 1)=(.pointer (some ⟨w.heap.size,0,none⟩)):=ho 1 (by kernel_rfl);refine e_r (a_r rfl) ?_ (hK (.pointer (some ⟨w.heap.size,2,none⟩)) _ rfl (Below.refl _ _));unfold execOp;simp only[e1];simp[go_sem]
  ·intro a w1 hB ho hp K hK;have e18:a.eval (.tmp 18)=(.pointer (some ⟨w.heap.size,2,none⟩)):=hp 4 18 (by kernel_rfl);obtain⟨u1,u2,u3,u4,u5,u6,u7,u8,u9⟩:=H_a.out.below hB;exact i_8 (a_r rfl) rfl e18 (i_o u3 u4) (hK _ _ rfl (Below.refl _ _))
  ·intro a w1 hB ho hp K hK;have e19:a.eval (.tmp 19)=(.agg #[.bool t21,.slice D21 m21 d21]):=hp 5 19 (by kernel_rfl);refine f_7 (a_r rfl) rfl (args:=#[(.agg #[.bool t21,.slice D21 m21 d21])]) (by simp only[List.map_toArray,List.map_cons,List.map_nil,b_3,e19]) (ent7 (by kernel_rfl) _ _) ((PR2 _) ▸ h_8 (pq.below hB).dv (by omega)) ?_;rintro e w2 ⟨rfl,B⟩;exact⟨_,rfl,hK _ _ rfl B⟩
  ·intro a w1 hB ho hp K hK;have e17:a.eval (.tmp 17)=(.string (S1++({ data:=#[47] }:ByteArray))):=hp 3 17 (by kernel_rfl);have e20:a.eval (.tmp 20)=(.string S2):=hp 6 20 (by kernel_rfl);refine e_r (a_r rfl) ?_ (hK (.string (S1++({ data:=#[47] }:ByteArray)++S2)) _ rfl (Below.refl _ _));unfold execOp;simp only[b_3,e17,e20];simp[go_sem,hz2]
  ·intro a w1 hB ho hp K hK;have e21:a.eval (.tmp 21)=(.string (S1++({ data:=#[47] }:ByteArray)++S2)):=hp 7 21 (by kernel_rfl);refine e_r (a_r rfl) ?_ (hK (.string (S1++({ data:=#[47] }:ByteArray)++S2)) _ rfl (Below.refl _ _));unfold execOp;simp only[b_3,e21];simp[go_sem]
 intro w24 B24;refine EndAll.one rfl fun vv hv=>?_;obtain rfl:vv=(.pointer (some ⟨w.heap.size,0,none⟩)):=hv;refine EndAll.one rfl fun vv hv=>?_;obtain rfl:vv=(.agg #[.bool s21,.slice A21 n21 c21]):=hv;refine EndAll.one rfl fun vv hv=>?_;obtain rfl:vv=(.string S1):=hv;refine EndAll.one rfl fun vv hv=>?_;obtain rfl:vv=(.string (S1++({ data:=#[47] }:ByteArray))):=hv;refine EndAll.one rfl fun vv hv=>?_;obtain rfl:vv=(.pointer (some ⟨w.heap.size,2,none⟩)):=hv;refine EndAll.one rfl fun vv hv=>?_;obtain rfl:vv=(.agg #[.bool t21,.slice D21 m21 d21]):=hv;refine EndAll.one rfl fun vv hv=>?_;obtain rfl:vv=(.string S2):=hv;refine EndAll.one rfl fun vv hv=>?_;obtain rfl:vv=(.string (S1++({ data:=#[47] }:ByteArray)++S2)):=hv;refine EndAll.one rfl fun vv hv=>?_;obtain rfl:vv=(.string (S1++({ data:=#[47] }:ByteArray)++S2)):=hv;refine EndAll.nil (l:=[]) rfl ?_;simp only[Act.put,lS,lZ,lC];replace H_a:=Lib.hid (H_a.out.below B24);replace pq:=pq.below B24;replace hW:=hW.trans (B24.mono hW.size);clear B24
 go_wp2_with fail
 go_ret
 unfold QPrPost;rw[HS.out];exact⟨rfl,hW⟩
theorem r_4 {A B:Option Addr}{n c m d k:Nat}{s t:Bool}{N D:Int}{w:World}(hn:Zv w s A n c N)(hd:Zv w t B m d D)(hnk:n≤k)(hmk:m≤k)(h1:1≤k)(hk:k≤900):
  Calls Tryz.prog 52 #[.agg #[.bool s,.slice A n c,.bool t,.slice B m d]] w (QPrPost (Rat.divInt N D) w):=by
 by_cases h:(Rat.divInt N D).den=1
 ·exact n_2 hn hd hnk hmk h1 hk h
 ·exact n_1 hn hd hnk hmk h1 hk h
end
section
open Go.RowKit
theorem o_i (a:Addr)(j:Nat):(a.add j).block=a.block:=by unfold Addr.add;split<;>rfl
theorem p_p {A:Option Addr}{n c:Nat}{s:Bool}{z:Int}{w:World}(h:Zc w s A n c z):
  Calls Tryz.prog 119 #[.agg #[.bool s,.slice A n c]] w (TruePost w):=by
 obtain⟨⟨hR,hl,hnc,hc9⟩,hs⟩:=h;rcases Nat.eq_zero_or_pos n with rfl|hpos
 ·have hv:=(d_d 18446744073709551616 z.natAbs (by omega)).1 hl;obtain rfl:s=false:=by rw[hs.out];simp;omega
  have HZ:=Lib.hid (zba w (.cells #[.bool false,.slice A 0 c] 44));clear hR hl hv hs;go_enter Tryz.func119,Tryz.ntmps119
  go_wp2_with fail
  go_ret
  exact⟨rfl,HZ.out⟩
 ·obtain⟨i,rfl⟩:∃i,n=i+1:=⟨n - 1,by omega⟩;have hi:i<(cn 18446744073709551616 z.natAbs).length:=by omega
  obtain⟨ad,rfl,hb,hcell⟩:=hR.at hi;have hne:=(t_s z.natAbs).resolve_left (by omega);rw[hl,Nat.add_sub_cancel]at hne;generalize nth (cn 18446744073709551616 z.natAbs) i=x at *;obtain⟨m,hm⟩:∃m,m=i+1:=⟨_,rfl⟩;rw[←hm];rw[←hm]at hnc;have hidx:(m:Int) - 1=(i:Int):=by omega
  have hx:((x:Int)==0)=false:=by rw[beq_eq_false_iff_ne];omega
  have hx2:((x:Int) != 0)=true:=by rw[bne_iff_ne];omega
  have z0:=zba w (.cells #[.bool s,.slice (some ad) m c] 44);have hcell2:=(z0.cell (p:=ad.add i) (by rw[o_i];exact hb)).trans hcell;have HZ:=Lib.hid z0;have him:i<m:=by omega
  have hpos2:0<m:=by omega
  clear hl hs hm z0 hcell hb hne hi hpos hR;go_enter Tryz.func119,Tryz.ntmps119
  go_wp2_with fail
  go_ret
  exact⟨rfl,HZ.out⟩
theorem p_t {A B:Option Addr}{n c m d:Nat}{s t:Bool}{q:Rat}{w:World}(hq:Qc w s A n c t B m d q)(hnk:n≤137438953472)(hmk:m≤137438953472):
  Calls Tryz.prog 60 #[.agg #[.bool s,.slice A n c,.bool t,.slice B m d]] w (TruePost w):=by
 have hW:=Below.refl w.heap.size w;obtain⟨wp0,hwp0⟩:∃x,x=w.alloc (.cells #[.bool s,.slice A n c,.bool t,.slice B m d] 46):=⟨_,rfl⟩;have zp0:Below w.heap.size w wp0:=by rw[hwp0];exact zba _ _
 have sp0:wp0.heap.size=w.heap.size+1:=by rw[hwp0,World.size_alloc]
 have Ia:Rb wp0 w.heap.size s A n c t B m d:=by rw[hwp0];exact Rb.new _ _ _ _ _ _ _ _ _ _
 replace hq:=hq.below zp0;replace hW:=hW.trans (zp0.mono hW.size);have H_a:=Lib.hid Ia;clear Ia zp0;have HW:Hid ((w.alloc (.cells #[.bool s,.slice A n c,.bool t,.slice B m d] 46))=wp0):=Lib.hid (by rw[hwp0]);have lw_a:w.heap.size≤w.heap.size:=by omega
 clear hwp0 sp0;have HG:Hid (((Nat.gcd q.num.natAbs ((q.den:Int)).natAbs:Nat):Int)=1):=Lib.hid (by rw[Int.natAbs_natCast];have:=q.reduced;unfold Nat.Coprime at this;rw[this];rfl);have HS:Hid (((q.den:Int)).sign=1):=Lib.hid (Int.sign_eq_one_of_pos (by have:=q.den_nz;omega));go_enter Tryz.func60,Tryz.ntmps60
 obtain⟨a1,a2,a3,a4,a5,a6,a7,a8,a9⟩:=H_a.out
 go_wp2_with fail
 rw[HW.out];clear a1 a2 a3 a4 a5 a6 a7 a8 a9;refine(p_p hq.1).mono ?_;rintro e w21 ⟨rfl,B21⟩;replace H_a:=Lib.hid (H_a.out.below B21);replace hq:=hq.below B21;replace hW:=hW.trans (B21.mono hW.size);clear B21;obtain⟨a1,a2,a3,a4,a5,a6,a7,a8,a9⟩:=H_a.out
 go_wp2_with fail
 clear a1 a2 a3 a4 a5 a6 a7 a8 a9;refine(p_p hq.2).mono ?_;rintro e w22 ⟨rfl,B22⟩;replace H_a:=Lib.hid (H_a.out.below B22);replace hq:=hq.below B22;replace hW:=hW.trans (B22.mono hW.size);clear B22;obtain⟨a1,a2,a3,a4,a5,a6,a7,a8,a9⟩:=H_a.out
 go_wp2_with fail
 clear a1 a2 a3 a4 a5 a6 a7 a8 a9;refine(e_8 hq.dv (by omega) HS.out).mono ?_;rintro e w23 ⟨rfl,B23⟩;replace H_a:=Lib.hid (H_a.out.below B23);replace hq:=hq.below B23;replace hW:=hW.trans (B23.mono hW.size);clear B23;obtain⟨a1,a2,a3,a4,a5,a6,a7,a8,a9⟩:=H_a.out
 go_wp2_with fail
 clear a1 a2 a3 a4 a5 a6 a7 a8 a9;refine(t_o hq.nv hq.dv (by omega) (by omega) HG.out).mono ?_;rintro e w24 ⟨s24,A24,n24,c24,rfl,pg,k24,B24⟩;replace H_a:=Lib.hid (H_a.out.below B24);replace hq:=hq.below B24;replace hW:=hW.trans (B24.mono hW.size);clear B24;obtain⟨a1,a2,a3,a4,a5,a6,a7,a8,a9⟩:=H_a.out
 go_wp2_with fail
 clear a1 a2 a3 a4 a5 a6 a7 a8 a9;refine(q_7 1 (by omega) (by omega) _).mono ?_;rintro e w25 ⟨s25,A25,n25,c25,rfl,p1,k25,B25⟩;replace H_a:=Lib.hid (H_a.out.below B25);replace hq:=hq.below B25;replace pg:=pg.below B25;replace hW:=hW.trans (B25.mono hW.size);clear B25;obtain⟨a1,a2,a3,a4,a5,a6,a7,a8,a9⟩:=H_a.out
 go_wp2_with fail
 clear a1 a2 a3 a4 a5 a6 a7 a8 a9;refine(o_j pg.zv p1.zv (by omega) (by omega) rfl).mono ?_;rintro e w26 ⟨rfl,B26⟩;replace H_a:=Lib.hid (H_a.out.below B26);replace hq:=hq.below B26;replace pg:=pg.below B26;replace p1:=p1.below B26;replace hW:=hW.trans (B26.mono hW.size);clear B26
 go_wp2_with fail
 go_ret
 exact⟨rfl,hW⟩
theorem u_e {A B:Option Addr}{n m c d:Nat}{s t b:Bool}{k:Nat}{w:World}(hn:n≤9223372036854775807)(hm:m≤9223372036854775807)(hk:k≤100)(hb:decide (n≤k∧m≤k)=b):
  Calls Tryz.prog 54 #[.agg #[.bool s,.slice A n c,.bool t,.slice B m d],.int .i64 (k:Int)] w fun e w'=>e= .returned (.bool b)∧Below w.heap.size w w':=by
 have HZ:=Lib.hid (zba w (.cells #[.bool s,.slice A n c,.bool t,.slice B m d] 46));by_cases h1:n≤k
 ·by_cases h2:m≤k
  ·obtain rfl:b=true:=by rw[←hb,decide_eq_true_iff];exact⟨h1,h2⟩
   clear hb;go_enter Tryz.func54,Tryz.ntmps54
   go_wp2_with fail
   go_ret
   exact⟨rfl,HZ.out⟩
  ·obtain rfl:b=false:=by rw[←hb,decide_eq_false_iff_not];omega
   clear hb;go_enter Tryz.func54,Tryz.ntmps54
   go_wp2_with fail
   go_ret
   exact⟨rfl,HZ.out⟩
 ·obtain rfl:b=false:=by rw[←hb,decide_eq_false_iff_not];omega
  clear hb;go_enter Tryz.func54,Tryz.ntmps54
  go_wp2_with fail
  go_ret
  exact⟨rfl,HZ.out⟩
end
section
open Go.RowKit
def Qv (w:World)(s:Bool)(A:Option Addr)(n c:Nat)(t:Bool)(B:Option Addr)(m d:Nat)(q:Rat):Prop:=∃N D,Zv w s A n c N∧Zv w t B m d D∧Hid (Rat.divInt N D=q)
section
variable {w w':World}{g:Nat}{s t s' t' s0 t0 u v:Bool}{A B A' B' A0 B0 C D':Option Addr}{n c m d n' c' m' d' n0 c0 m0 d0 l e' f' h' k:Nat}{p q:Rat}
theorem Qv.mk {N D:Int}(h:Zv w s A n c N)(h':Zv w t B m d D):Qv w s A n c t B m d (Rat.divInt N D):=⟨N,D,h,h',Lib.hid rfl⟩
theorem Qc.qv (h:Qc w s A n c t B m d q):Qv w s A n c t B m d q:=⟨_,_,h.nv,h.dv,Lib.hid (p_c q)⟩
theorem Qv.below (h:Qv w s A n c t B m d q)(hb:Below w.heap.size w w'):Qv w' s A n c t B m d q:=by
 obtain⟨N,D,h1,h2,h3⟩:=h;exact⟨N,D,h1.below hb,h2.below hb,h3⟩
theorem Qv.rput (h:Qv w s A n c t B m d q)(hi:Rb w g s0 A0 n0 c0 t0 B0 m0 d0):Qv (rput w g s' A' n' c' t' B' m' d') s A n c t B m d q:=by
 obtain⟨N,D,h1,h2,h3⟩:=h;exact⟨N,D,h1.rput hi,h2.rput hi,h3⟩
theorem add_q (ha:Qv w s A n c t B m d p)(hb:Qv w u C l e' v D' f' h' q)(k:Nat)(hnk:n≤k)(hmk:m≤k)(hlk:l≤k)(hfk:f'≤k)(h1:1≤k)(hk:k≤1073741824):
  Calls Tryz.prog 71 #[.agg #[.bool s,.slice A n c,.bool t,.slice B m d],.agg #[.bool u,.slice C l e',.bool v,.slice D' f' h']] w (QPost (p+q) (2*k+1) w):=by
 obtain⟨N,D,a1,a2,a3⟩:=ha;obtain⟨M,E,b1,b2,b3⟩:=hb;rw[←a3.out,←b3.out];exact t_2 a1 a2 b1 b2 hnk hmk hlk hfk h1 hk
theorem mul_q (ha:Qv w s A n c t B m d p)(hb:Qv w u C l e' v D' f' h' q)(k:Nat)(hnk:n≤k)(hmk:m≤k)(hlk:l≤k)(hfk:f'≤k)(h1:1≤k)(hk:k≤1073741824):
  Calls Tryz.prog 62 #[.agg #[.bool s,.slice A n c,.bool t,.slice B m d],.agg #[.bool u,.slice C l e',.bool v,.slice D' f' h']] w (QPost (p*q) (2*k) w):=by
 obtain⟨N,D,a1,a2,a3⟩:=ha;obtain⟨M,E,b1,b2,b3⟩:=hb;rw[←a3.out,←b3.out];exact x_4 a1 a2 b1 b2 hnk hmk hlk hfk h1 hk
theorem quo_q (ha:Qv w s A n c t B m d p)(hb:Qv w u C l e' v D' f' h' q)(k:Nat)(hnk:n≤k)(hmk:m≤k)(hlk:l≤k)(hfk:f'≤k)(h1:1≤k)(hk:k≤1073741824){b:Bool}(hb0:decide (q≠0)=b):
  Calls Tryz.prog 111 #[.agg #[.bool s,.slice A n c,.bool t,.slice B m d],.agg #[.bool u,.slice C l e',.bool v,.slice D' f' h']] w (QbPost (p / q) b (2*k) w):=by
 obtain⟨N,D,a1,a2,a3⟩:=ha;obtain⟨M,E,b1,b2,b3⟩:=hb;rw[←a3.out,←b3.out];exact x_0 a1 a2 b1 b2 hnk hmk hlk hfk h1 hk (by rw[b3.out];exact hb0)
theorem cmp_q (ha:Qv w s A n c t B m d p)(hb:Qv w u C l e' v D' f' h' q)(k:Nat)(hnk:n≤k)(hmk:m≤k)(hlk:l≤k)(hfk:f'≤k)(h1:1≤k)(hk:k≤1073741824){r:Int}(hr:rsg (p - q)=r):
  Calls Tryz.prog 32 #[.agg #[.bool s,.slice A n c,.bool t,.slice B m d],.agg #[.bool u,.slice C l e',.bool v,.slice D' f' h']] w (IPost r w):=by
 obtain⟨N,D,a1,a2,a3⟩:=ha;obtain⟨M,E,b1,b2,b3⟩:=hb;exact x_8 a1 a2 b1 b2 hnk hmk hlk hfk h1 hk (by rw[a3.out,b3.out];exact hr)
end
end
section
open Go.RowKit
def rth (l:List Rat)(j:Nat):Rat:=l.getD j 0
theorem m_q {l:List Rat}{m j:Nat}(h:j<m):rth (l.take m) j=rth l j:=by simp[rth,List.getD,h]
theorem m_r (l:List Rat)(m j:Nat):rth (l.drop m) j=rth l (m+j):=by simp[rth,List.getD,List.getElem?_drop]
theorem l_a (l:List Rat)(j i:Nat)(z:Rat)(hj:j<l.length):rth (l.set j z) i=if i=j then z else rth l i:=by
 by_cases e:i=j
 ·subst e;rw[if_pos rfl];simp[rth,List.getD,hj]
 ·rw[if_neg e];simp[rth,List.getD,List.getElem?_set_ne (Ne.symm e)]
section
variable {q:Bool}{w w':World}{s t:Bool}{A B:Option Addr}{n c m d g:Nat}{x:Rat}
theorem Qc.gro (h:Qc w s A n c t B m d x)(hn:Wless w g)(hg:w.grownBy w' (some g)):Qc w' s A n c t B m d x:=⟨h.1.gro hn hg,h.2.gro hn hg⟩
theorem Qv.gro (h:Qv w s A n c t B m d x)(hn:Wless w g)(hg:w.grownBy w' (some g)):Qv w' s A n c t B m d x:=by
 obtain⟨N,D,h1,h2,h3⟩:=h;exact⟨N,D,h1.gro hn hg,h2.gro hn hg,h3⟩
def Qe (q:Bool)(w:World)(s:Bool)(A:Option Addr)(n c:Nat)(t:Bool)(B:Option Addr)(m d:Nat)(x:Rat):Prop:=Qv w s A n c t B m d x∧(q=true→Qc w s A n c t B m d x)
theorem Qe.below (h:Qe q w s A n c t B m d x)(hb:Below w.heap.size w w'):Qe q w' s A n c t B m d x:=⟨h.1.below hb,fun e=>(h.2 e).below hb⟩
theorem Qe.gro (h:Qe q w s A n c t B m d x)(hn:Wless w g)(hg:w.grownBy w' (some g)):Qe q w' s A n c t B m d x:=⟨h.1.gro hn hg,fun e=>(h.2 e).gro hn hg⟩
theorem Qe.of (h:Qc w s A n c t B m d x):Qe q w s A n c t B m d x:=⟨h.qv,fun _=>h⟩
end
def QAt (q:Bool)(w:World)(p:Addr)(k:Nat)(x:Rat):Prop:=
 ∃s A n c t B m d,w.cell? p=some (.bool s)∧w.cell? ⟨p.block,p.off+1,none⟩=some (.slice A n c)∧w.cell? ⟨p.block,p.off+2,none⟩=some (.bool t)∧w.cell? ⟨p.block,p.off+3,none⟩=some (.slice B m d)∧Qe q w s A n c t B m d x∧n≤k∧m≤k
theorem m_n {w:World}{p:Addr}{s t:Bool}{A B:Option Addr}{n c m d:Nat}(h0:w.cell? p=some (.bool s))(h1:w.cell? ⟨p.block,p.off+1,none⟩=some (.slice A n c))(h2:w.cell? ⟨p.block,p.off+2,none⟩=some (.bool t))(h3:w.cell? ⟨p.block,p.off+3,none⟩=some (.slice B m d)):
  (Instr.loadAt 46 (.pointer (some p))).run Tryz.prog w= .ok (.agg #[.bool s,.slice A n c,.bool t,.slice B m d]) w:=by
 simp[go_sem,Addr.add,h0,h1,h2,h3]
structure QL (q:Bool) (w:World) (A:Option Addr) (n c k:Nat) (xs:List Rat):Prop where
 len:xs.length=n
 le:n≤c
 cap:c≤9223372036854775807
 at':0<n→∃ad,A=some ad∧ad.block<w.heap.size∧∀j,j<n→QAt q w (ad.add (j*4)) k (rth xs j)
section
variable {q:Bool}{w w':World}{A:Option Addr}{n c k g:Nat}{xs:List Rat}
theorem QAt.below {p:Addr}{z:Rat}(h:QAt q w p k z)(hp:p.block<w.heap.size)(hb:Below w.heap.size w w'):QAt q w' p k z:=by
 obtain⟨s,A,n,c,t,B,m,d,h1,h2,h3,h4,h5,h6⟩:=h;exact⟨s,A,n,c,t,B,m,d,(hb.cell hp).trans h1,(hb.cell (p:=⟨p.block,p.off+1,none⟩) hp).trans h2,(hb.cell (p:=⟨p.block,p.off+2,none⟩) hp).trans h3,(hb.cell (p:=⟨p.block,p.off+3,none⟩) hp).trans h4,h5.below hb,h6⟩
theorem QAt.gro {p:Addr}{z:Rat}(h:QAt q w p k z)(hp:p.block<w.heap.size)(hne:p.block≠g)(hn:Wless w g)(hg:w.grownBy w' (some g)):QAt q w' p k z:=by
 obtain⟨s,A,n,c,t,B,m,d,h1,h2,h3,h4,h5,h6⟩:=h;have e:=hg.block p.block hp (fun e=>hne (Option.some.inj e));exact⟨s,A,n,c,t,B,m,d,(World.cell?_of_block e).trans h1,(World.cell?_of_block (a:=⟨p.block,p.off+1,none⟩) e).trans h2,(World.cell?_of_block (a:=⟨p.block,p.off+2,none⟩) e).trans h3,(World.cell?_of_block (a:=⟨p.block,p.off+3,none⟩) e).trans h4,h5.gro hn hg,h6⟩
theorem QAt.mono {p:Addr}{z:Rat}{k':Nat}(h:QAt q w p k z)(hk:k≤k'):QAt q w p k' z:=by
 obtain⟨s,A,n,c,t,B,m,d,h1,h2,h3,h4,h5,h6,h7⟩:=h;exact⟨s,A,n,c,t,B,m,d,h1,h2,h3,h4,h5,Nat.le_trans h6 hk,Nat.le_trans h7 hk⟩
theorem QL.nil (q:Bool)(w:World)(k:Nat):QL q w none 0 0 k []:=⟨rfl,Nat.le_refl _,by omega,fun h=>by omega⟩
theorem QL.below (h:QL q w A n c k xs)(hb:Below w.heap.size w w'):QL q w' A n c k xs:=⟨h.len,h.le,h.cap,fun h0=>by
 obtain⟨ad,rfl,h1,h2⟩:=h.at' h0;exact⟨ad,rfl,Nat.lt_of_lt_of_le h1 hb.size,fun j hj=>(h2 j hj).below (by rw[a_b];exact h1) hb⟩⟩
theorem QL.gro (h:QL q w A n c k xs)(hne:∀ad,A=some ad→ad.block≠g)(hn:Wless w g)(hg:w.grownBy w' (some g)):QL q w' A n c k xs:=⟨h.len,h.le,h.cap,fun h0=>by
 obtain⟨ad,rfl,h1,h2⟩:=h.at' h0;exact⟨ad,rfl,Nat.lt_of_lt_of_le h1 hg.size,fun j hj=>(h2 j hj).gro (by rw[a_b];exact h1) (by rw[a_b];exact hne ad rfl) hn hg⟩⟩
theorem QL.mono {k':Nat}(h:QL q w A n c k xs)(hk:k≤k'):QL q w A n c k' xs:=⟨h.len,h.le,h.cap,fun h0=>by
 obtain⟨ad,rfl,h1,h2⟩:=h.at' h0;exact⟨ad,rfl,h1,fun j hj=>(h2 j hj).mono hk⟩⟩
theorem QL.at (h:QL q w A n c k xs){j:Nat}(hj:j<n):∃ad,A=some ad∧ad.block<w.heap.size∧QAt q w (ad.add (j*4)) k (rth xs j):=by
 obtain⟨ad,e,h1,h2⟩:=h.at' (by omega);exact⟨ad,e,h1,h2 j hj⟩
theorem QL.elem {ad:Addr}(h:QL q w (some ad) n c k xs){j:Nat}(hj:j<n):QAt q w (ad.add (j*4)) k (rth xs j):=by
 obtain⟨ad',e,h1,h2⟩:=h.at' (by omega);cases e;exact h2 j hj
theorem QL.take {m d:Nat}(h:QL q w A n c k xs)(hm:m≤n)(hd:m≤d)(hc:d≤9223372036854775807):QL q w A m d k (xs.take m):=⟨by rw[List.length_take,h.len];omega,hd,hc,fun h0=>by
 obtain⟨ad,rfl,h1,h2⟩:=h.at' (by omega);exact⟨ad,rfl,h1,fun j hj=>by rw[m_q hj];exact h2 j (by omega)⟩⟩
theorem QL.drop {m d:Nat}{ad:Addr}(h:QL q w (some ad) n c k xs)(hm:m≤n)(hd:n - m≤d)(hc:d≤9223372036854775807):QL q w (some (ad.add (m*4))) (n - m) d k (xs.drop m):=⟨by rw[List.length_drop,h.len],hd,hc,fun h0=>by
 obtain⟨ad',e,h1,h2⟩:=h.at' (by omega);cases e;exact⟨_,rfl,by rw[a_b];exact h1,fun j hj=>by rw[m_r,m_a,←Nat.add_mul];exact h2 (m+j) (by omega)⟩⟩
end
def QB (w:World)(g k:Nat)(f:Nat→Bool)(xs:List Rat):Prop:=
 ∃cs:Array Value,w.heap[g]? =some (.cells cs 46 (0,0))∧cs.size=xs.length*4∧∀j,j<xs.length→∃s A n c t B m d,cs[j*4]? =some (.bool s)∧cs[j*4+1]? =some (.slice A n c)∧cs[j*4+2]? =some (.bool t)∧cs[j*4+3]? =some (.slice B m d)∧Qe (f j) w s A n c t B m d (rth xs j)∧n≤k∧m≤k
def qputo (w:World)(g o:Nat)(s:Bool)(A:Option Addr)(n c:Nat)(t:Bool)(B:Option Addr)(m d:Nat):World:=(((w.setCell ⟨g,o,none⟩ (.bool s)).setCell ⟨g,o+1,none⟩ (.slice A n c)).setCell ⟨g,o+2,none⟩ (.bool t)).setCell ⟨g,o+3,none⟩ (.slice B m d)
section
variable {w w':World}{g k b:Nat}{f:Nat→Bool}{xs:List Rat}
theorem QB.lt (h:QB w g k f xs):g<w.heap.size:=by
 obtain⟨cs,h1,_⟩:=h;exact(Array.getElem?_eq_some_iff.1 h1).1
theorem QB.now (h:QB w g k f xs):Wless w g:=fun p m hp e=>by
 obtain⟨cs,h1,h2,h3⟩:=h;have e2:cs[p.off]? =some (.int .u64 m):=by
  have:=e;unfold World.cell? at this;rw[hp,h1]at this;exact(by simpa using this:p.spot=none∧cs[p.off]? =some (.int .u64 m)).2
 have hlt:p.off<cs.size:=(Array.getElem?_eq_some_iff.1 e2).1;rw[h2]at hlt;obtain⟨s,A,n,c,t,B,m',d,c1,c2,c3,c4,_⟩:=h3 (p.off / 4) (by omega);rcases(by omega:p.off=p.off / 4*4∨p.off=p.off / 4*4+1∨p.off=p.off / 4*4+2∨p.off=p.off / 4*4+3)with ho|ho|ho|ho
 ·rw[ho,c1]at e2;cases e2
 ·rw[ho,c2]at e2;cases e2
 ·rw[ho,c3]at e2;cases e2
 ·rw[ho,c4]at e2;cases e2
theorem QB.below (h:QB w g k f xs)(hb:Below w.heap.size w w'):QB w' g k f xs:=by
 have hl:=h.lt;obtain⟨cs,h1,h2,h3⟩:=h;refine⟨cs,(hb.block g hl).trans h1,h2,fun j hj=>?_⟩;obtain⟨s,A,n,c,t,B,m,d,c1,c2,c3,c4,c5,c6⟩:=h3 j hj;exact⟨s,A,n,c,t,B,m,d,c1,c2,c3,c4,c5.below hb,c6⟩
theorem QB.gro (h:QB w g k f xs)(hne:g≠b)(hn:Wless w b)(hg:w.grownBy w' (some b)):QB w' g k f xs:=by
 have hl:=h.lt;obtain⟨cs,h1,h2,h3⟩:=h;refine⟨cs,(hg.block g hl (fun e=>hne (Option.some.inj e))).trans h1,h2,fun j hj=>?_⟩;obtain⟨s,A,n,c,t,B,m,d,c1,c2,c3,c4,c5,c6⟩:=h3 j hj;exact⟨s,A,n,c,t,B,m,d,c1,c2,c3,c4,c5.gro hn hg,c6⟩
theorem QB.mono {k':Nat}(h:QB w g k f xs)(hk:k≤k'):QB w g k' f xs:=by
 obtain⟨cs,h1,h2,h3⟩:=h;refine⟨cs,h1,h2,fun j hj=>?_⟩;obtain⟨s,A,n,c,t,B,m,d,c1,c2,c3,c4,c5,c6,c7⟩:=h3 j hj;exact⟨s,A,n,c,t,B,m,d,c1,c2,c3,c4,c5,Nat.le_trans c6 hk,Nat.le_trans c7 hk⟩
theorem QB.cells (h:QB w g k f xs){j:Nat}(hj:j<xs.length):∃s A n c t B m d,w.cell? ⟨g,j*4,none⟩=some (.bool s)∧w.cell? ⟨g,j*4+1,none⟩=some (.slice A n c)∧w.cell? ⟨g,j*4+2,none⟩=some (.bool t)∧w.cell? ⟨g,j*4+3,none⟩=some (.slice B m d)∧Qe (f j) w s A n c t B m d (rth xs j)∧n≤k∧m≤k:=by
 obtain⟨cs,h1,h2,h3⟩:=h;obtain⟨s,A,n,c,t,B,m,d,c1,c2,c3,c4,c5⟩:=h3 j hj;exact⟨s,A,n,c,t,B,m,d,by rw[cell_of_row w g _ _ _ _ h1,c1],by rw[cell_of_row w g _ _ _ _ h1,c2],by rw[cell_of_row w g _ _ _ _ h1,c3],by rw[cell_of_row w g _ _ _ _ h1,c4],c5⟩
theorem QB.free (h:QB w g k f xs)(j:Nat):w.frozen? ⟨g,j,none⟩=false:=by
 obtain⟨cs,h1,h2,h3⟩:=h;exact frozen_of_row w g j _ _ h1
theorem d_v (w:World)(g o:Nat)(s:Bool)(A:Option Addr)(n c:Nat)(t:Bool)(B:Option Addr)(m d:Nat):w.grownBy (qputo w g o s A n c t B m d) (some g):=by
 unfold qputo;exact a_n (q:=⟨g,o+3,none⟩) (a_n (q:=⟨g,o+2,none⟩) (a_n (q:=⟨g,o+1,none⟩) (a_n (q:=⟨g,o,none⟩) (a_u w (some g)) rfl _) rfl _) rfl _) rfl _
theorem QB.put (h:QB w g k f xs){q:Bool}{j n c m d:Nat}(hj:j<xs.length){s t:Bool}{A B:Option Addr}{x:Rat}(hz:Qe q w s A n c t B m d x)(hn:n≤k)(hm:m≤k):QB (qputo w g (j*4) s A n c t B m d) g k (fun i=>if i=j then q else f i) (xs.set j x):=by
 have hno:=h.now;have hgr:=d_v w g (j*4) s A n c t B m d;obtain⟨cs,h1,h2,h3⟩:=h;refine⟨(((cs.setIfInBounds (j*4) (.bool s)).setIfInBounds (j*4+1) (.slice A n c)).setIfInBounds (j*4+2) (.bool t)).setIfInBounds (j*4+3) (.slice B m d), ?_,by simp[h2],fun i hi=>?_⟩
 ·unfold qputo;rw[heap_setCell_same _ g _ _ _ _ (heap_setCell_same _ g _ _ _ _ (heap_setCell_same _ g _ _ _ _ (heap_setCell_same w g _ _ _ _ h1)))]
 ·rw[List.length_set]at hi;by_cases e:i=j
  ·subst e;refine⟨s,A,n,c,t,B,m,d, ?_, ?_, ?_, ?_, ?_,hn,hm⟩
   ·rw[Array.getElem?_setIfInBounds_ne (by omega),Array.getElem?_setIfInBounds_ne (by omega),Array.getElem?_setIfInBounds_ne (by omega),Array.getElem?_setIfInBounds_self_of_lt (by omega)]
   ·rw[Array.getElem?_setIfInBounds_ne (by omega),Array.getElem?_setIfInBounds_ne (by omega),Array.getElem?_setIfInBounds_self_of_lt (by simp;omega)]
   ·rw[Array.getElem?_setIfInBounds_ne (by omega),Array.getElem?_setIfInBounds_self_of_lt (by simp;omega)]
   ·rw[Array.getElem?_setIfInBounds_self_of_lt (by simp;omega)]
   ·rw[l_a _ _ _ _ hj,if_pos rfl];dsimp only;rw[if_pos rfl];exact hz.gro hno hgr
  ·obtain⟨s',A',n',c',t',B',m',d',c1,c2,c3,c4,c5,c6⟩:=h3 i hi;refine⟨s',A',n',c',t',B',m',d', ?_, ?_, ?_, ?_, ?_,c6⟩
   ·rw[Array.getElem?_setIfInBounds_ne (by omega),Array.getElem?_setIfInBounds_ne (by omega),Array.getElem?_setIfInBounds_ne (by omega),Array.getElem?_setIfInBounds_ne (by omega)];exact c1
   ·rw[Array.getElem?_setIfInBounds_ne (by omega),Array.getElem?_setIfInBounds_ne (by omega),Array.getElem?_setIfInBounds_ne (by omega),Array.getElem?_setIfInBounds_ne (by omega)];exact c2
   ·rw[Array.getElem?_setIfInBounds_ne (by omega),Array.getElem?_setIfInBounds_ne (by omega),Array.getElem?_setIfInBounds_ne (by omega),Array.getElem?_setIfInBounds_ne (by omega)];exact c3
   ·rw[Array.getElem?_setIfInBounds_ne (by omega),Array.getElem?_setIfInBounds_ne (by omega),Array.getElem?_setIfInBounds_ne (by omega),Array.getElem?_setIfInBounds_ne (by omega)];exact c4
   ·rw[l_a _ _ _ _ hj,if_neg e];dsimp only;rw[if_neg e];exact c5.gro hno hgr
theorem QB.ql (h:QB w g k f xs)(q:Bool){o n c:Nat}(hq:q=true→∀j,j<n→f (o+j)=true)(hn:o+n≤xs.length)(hc:n≤c)(hm:c≤9223372036854775807):QL q w (some ⟨g,o*4,none⟩) n c k ((xs.drop o).take n):=by
 refine⟨by rw[List.length_take,List.length_drop];omega,hc,hm,fun h0=>⟨_,rfl,h.lt,fun j hj=>?_⟩⟩;rw[d_z,←Nat.add_mul];obtain⟨s,A,n',c',t,B,m',d',c1,c2,c3,c4,c5,c6⟩:=h.cells (j:=o+j) (by omega);refine⟨s,A,n',c',t,B,m',d',c1,c2,c3,c4, ?_,c6⟩;rw[m_q hj,m_r];exact⟨c5.1,fun e=>c5.2 (hq e j hj)⟩
theorem QB.ql0 (h:QB w g k f xs)(q:Bool){n c:Nat}(hq:q=true→∀j,j<n→f j=true)(hn:n≤xs.length)(hc:n≤c)(hm:c≤9223372036854775807):QL q w (some ⟨g,0,none⟩) n c k (xs.take n):=by
 have:=h.ql q (o:=0) (fun e j hj=>by rw[Nat.zero_add];exact hq e j hj) (by omega) hc hm;rwa [List.drop_zero,Nat.zero_mul]at this
end
theorem info_rat:(Tryz.prog.info? 46).map (fun i=>(i.zero,i.size,i.bytes))=some (some (.agg #[.bool false,.slice none 0 0,.bool false,.slice none 0 0]),4,64):=by kernel_rfl
theorem Qv.nought (w:World):Qv w false none 0 0 false none 0 0 0:=⟨0,0,(Zc.nought w).zv,(Zc.nought w).zv,Lib.hid (by decide)⟩
theorem QB.made (w:World)(n:Nat):QB (w.alloc (.cells (madeCells #[.bool false,.slice none 0 0,.bool false,.slice none 0 0] (n*4)) 46)) w.heap.size 0 (fun _=>false) (List.replicate n 0):=by
 refine⟨_,heap_alloc_new w _,by simp[size_madeCells],fun j hj=>?_⟩;rw[List.length_replicate]at hj;refine⟨false,none,0,0,false,none,0,0, ?_, ?_, ?_, ?_, ?_,Nat.le_refl _,Nat.le_refl _⟩
 ·rw[Array.getElem?_eq_some_iff];refine⟨by rw[size_madeCells];omega, ?_⟩;simp[madeCells]
 ·rw[Array.getElem?_eq_some_iff];refine⟨by rw[size_madeCells];omega, ?_⟩;have:(j*4+1)%4=1:=by omega
  simp[madeCells,this]
 ·rw[Array.getElem?_eq_some_iff];refine⟨by rw[size_madeCells];omega, ?_⟩;have:(j*4+2)%4=2:=by omega
  simp[madeCells,this]
 ·rw[Array.getElem?_eq_some_iff];refine⟨by rw[size_madeCells];omega, ?_⟩;have:(j*4+3)%4=3:=by omega
  simp[madeCells,this]
 ·rw[show rth (List.replicate n 0) j=0 by simp[rth,List.getD,hj]];exact⟨Qv.nought _,fun e=>nomatch e⟩
theorem i_b {P:Program}(w:World){ops:Array Oper}{rest:List Oper}{o:Oper}{a:Act}{Q:Exit→Act→World→Prop}
  (hg:o.guard=none) (l c:Operand) (t:TypeId) (hop:o.op=Op.makeSlice t l c)
  (ht:P.underlying t=some (.slice 46)) (hinfo:(P.info? 46).map (fun i=>(i.zero,i.size,i.bytes))=some (some (.agg #[.bool false,.slice none 0 0,.bool false,.slice none 0 0]),4,64))
  (kl kc:IntKind) (L C:Int) (n:Nat) (hl:a.eval l= .int kl L) (hc:a.eval c= .int kc C) (hL:L=(n:Int)) (hC:C=(n:Int)) (hbytes:n≤2199023255552)
  (hK:∀w',QB w' w.heap.size 0 (fun _=>false) (List.replicate n 0)→Below w.heap.size w w'→w'.heap.size=w.heap.size+1→wpList P ops Q rest (a.put o.dst (.slice (some ⟨w.heap.size,0,none⟩) n n)) w'):
  wpList P ops Q (o::rest) a w:=by
 subst hL hC;obtain⟨i,hi,hz0,hz1,hz2⟩:=info_parts hinfo;have hrun:=run_make (P:=P) w t 46 i (.agg #[.bool false,.slice none 0 0,.bool false,.slice none 0 0]) ht hi hz0 kl kc (n:Int) (n:Int) (by omega) (Int.le_refl _) (by rw[hz2];omega) (by omega);refine wpList_plain hg fun K hK'=>?_;unfold Oper.wp;simp[execOp,hop,hl,hc,hrun,Result.andThen];refine hK' _ _ (hK _ ?_ ((Below.refl _ _).alloc (Nat.le_refl _) _) (by simp));rw[hz1];exact QB.made w n
end
section
open Go.RowKit
structure Qr where
 s:Bool
 A:Option Addr
 n:Nat
 c:Nat
 t:Bool
 B:Option Addr
 m:Nat
 d:Nat
 q:Rat
def nqr:Qr:=⟨false,none,0,0,false,none,0,0,0⟩
structure RQ (w:World) (A:Option Addr) (n c:Nat) (R:List Qr):Prop where
 len:R.length=n
 le:n≤c
 cap:c≤9223372036854775807
 at':0<n→∃ad,A=some ad∧ad.block<w.heap.size∧∀j,j<n→w.cell? (ad.add (j*4))=some (.bool (R.getD j nqr).s)∧w.cell? ⟨(ad.add (j*4)).block,(ad.add (j*4)).off+1,none⟩=some (.slice (R.getD j nqr).A (R.getD j nqr).n (R.getD j nqr).c)∧
  w.cell? ⟨(ad.add (j*4)).block,(ad.add (j*4)).off+2,none⟩=some (.bool (R.getD j nqr).t)∧w.cell? ⟨(ad.add (j*4)).block,(ad.add (j*4)).off+3,none⟩=some (.slice (R.getD j nqr).B (R.getD j nqr).m (R.getD j nqr).d)
 num:∀x,x∈R→Qv w x.s x.A x.n x.c x.t x.B x.m x.d x.q
theorem RQ.below {w w':World}{A:Option Addr}{n c:Nat}{R:List Qr}(h:RQ w A n c R)(hb:Below w.heap.size w w'):RQ w' A n c R:=⟨h.len,h.le,h.cap,fun h0=>by
 obtain⟨ad,rfl,h1,h2⟩:=h.at' h0;refine⟨ad,rfl,Nat.lt_of_lt_of_le h1 hb.size,fun j hj=>?_⟩;obtain⟨c0,c1,c2,c3⟩:=h2 j hj;have hl:(ad.add (j*4)).block<w.heap.size:=by rw[a_b];exact h1
 exact⟨(hb.cell hl).trans c0,(hb.cell (p:=⟨(ad.add (j*4)).block,(ad.add (j*4)).off+1,none⟩) hl).trans c1,(hb.cell (p:=⟨(ad.add (j*4)).block,(ad.add (j*4)).off+2,none⟩) hl).trans c2,(hb.cell (p:=⟨(ad.add (j*4)).block,(ad.add (j*4)).off+3,none⟩) hl).trans c3⟩,fun x hx=>(h.num x hx).below hb⟩
def qnums (R:List Qr):List Rat:=R.map (·.q)
theorem j_6 (R:List Qr):(qnums R).length=R.length:=by simp[qnums]
theorem RQ.ql {w:World}{A:Option Addr}{n c k:Nat}{R:List Qr}(h:RQ w A n c R)(hk:∀j,j<n→(R.getD j nqr).n≤k∧(R.getD j nqr).m≤k):QL false w A n c k (qnums R):=⟨by rw[j_6];exact h.len,h.le,h.cap,fun h0=>by
 obtain⟨ad,rfl,h1,h2⟩:=h.at' h0;refine⟨ad,rfl,h1,fun j hj=>?_⟩;have hl:j<R.length:=by rw[h.len];exact hj
 have e:R.getD j nqr=R[j]:=by simp[List.getD,hl]
 have e2:rth (qnums R) j=R[j].q:=by simp[rth,qnums,List.getD,hl]
 obtain⟨c0,c1,c2,c3⟩:=h2 j hj;refine⟨_,_,_,_,_,_,_,_,c0,c1,c2,c3,⟨?_,fun e=>nomatch e⟩,(hk j hj).1,(hk j hj).2⟩;rw[e,e2];exact h.num _ (List.getElem_mem hl)⟩
end
section
open Go.Joins Go.ChangeShapes Go.WideShapes Go.RowKit Go.Deep
section
variable {H:Type}{enc:TypeId × Value→H}{P:Program}{W:World}{base:Nat}{held:Bool}
theorem h_n {fuel:Nat}{t:TypeId}{g0 g1:Field}{e:TypeId}{c0 c1:Value}{x:DataW H × List MemPlace}(ht:P.underlying t=some (.struct #[g0,g1]))(hone:oneCellFields P #[g0,g1]=true)
  (hb:P.underlying g0.type=some .bool) (hs:P.underlying g1.type=some (.slice e)) (he:P.underlying e=some (.int .u64)) (hc:P.cellsOf e=1)
  (h:DataW.trod enc P W base (fun _=>true) held fuel t [c0,c1]=some x):
  ∃(s:Bool) (A:Option Addr) (n c:Nat) (zs:List Int),c0= .bool s∧c1= .slice A n c∧IsRow .u64 W A n c zs:=by
 obtain⟨y0,y1,m,rfl,_,h0,h1⟩:=trod_struct2 ht h;obtain⟨o0,k0⟩:=hone_of hone 0 g0 rfl;obtain⟨o1,k1⟩:=hone_of hone 1 g1 rfl;rw[o0,k0]at h0;rw[o1,k1]at h1;simp only[List.drop_zero,List.take_succ_cons,List.take_zero,List.drop_succ_cons]at h0 h1;obtain⟨s,hs0,_⟩:=DataW.trod_bool hb h0;rcases open_ints hs he hc h1 with⟨hcs,_⟩|⟨x,l,c,zs,hcs,_,hl,hm,hz,_,hcell,hwz⟩
 ·simp at hs0 hcs;subst hs0 hcs;exact⟨s,none,0,0,[],rfl,rfl,.inl ⟨rfl,rfl,rfl,rfl⟩⟩
 ·simp at hs0 hcs;subst hs0 hcs;exact⟨s,some x,l,c,zs,rfl,rfl,.inr ⟨_,rfl,hl,hm,by simpa using hz,hcell,hwz⟩⟩
end
end
end Go.Proofs.YtkgghhklbbfdiaaGreat
