/-
  LReduces
-/
import Derived.Test.YtddbhhedjipjkaaGreatDoorPk20
import Derived.Test.YtddbhhedjipjkaaGreatDoorPk41
import Derived.Test.YtddbhhedjipjkaaGreatDoorPk19
import Derived.Test.YtddbhhedjipjkaaGreatDoorPk43

/-! The walk of ZpolyReduces. -/
namespace Go.Proofs.YtddbhhedjipjkaaGreatDoor
open Go.RowKit
set_option linter.unusedVariables false
set_option linter.unusedSimpArgs false

theorem mulN_le (a b : List Int) : (mulN a b).length ≤ a.length + b.length := by unfold mulN; rw [nrz_length]; exact Nat.le_trans (slZ_le _) (mulI_short _ _)
theorem red_add {p : Nat} (hp : 0 < p) (a b : List Int) : nrm p (rdz p (nrz (addI a b))) = amul p (nrm p (rdz p a)) (nrm p (rdz p b)) 1 := by
  refine uniq hp (nm_nrm hp _) (nm_amul hp _ _ _) ?_
  have e1 : Eqm p (pe (nrm p (rdz p (nrz (addI a b))))) (fun x => pv a x + pv b x) := ((eqm_nrm p _).trans (eqm_rdz hp _)).to fun x => by rw [pv_nrz, pv_addI]
  have e2 : ∀ l, Eqm p (pe (nrm p (rdz p l))) (pv l) := fun l => (eqm_nrm p _).trans (eqm_rdz hp l)
  exact e1.trans (((eqm_amul p _ _ 1).to fun x => by simp).trans ((e2 a).add (e2 b))).symm
theorem red_mul {p : Nat} (hp : 0 < p) (a b : List Int) : nrm p (rdz p (mulN a b)) = mulp p (nrm p (rdz p a)) (nrm p (rdz p b)) := by
  refine uniq hp (nm_nrm hp _) (nm_mulp hp _ _) ?_
  have e1 : Eqm p (pe (nrm p (rdz p (mulN a b)))) (fun x => pv a x * pv b x) := ((eqm_nrm p _).trans (eqm_rdz hp _)).to fun x => pv_mulN a b x
  have e2 : ∀ l, Eqm p (pe (nrm p (rdz p l))) (pv l) := fun l => (eqm_nrm p _).trans (eqm_rdz hp l)
  exact e1.trans ((eqm_mulp p _ _).trans (Eqm.mul (e2 a) (e2 b) (ply_pv a) (ply_pe _))).symm
theorem red_der {p : Nat} (hp : 0 < p) (a : List Int) : nrm p (rdz p (nrz (derI a))) = nrm p (drl (nrm p (rdz p a))) := by
  refine (rdz_nrz hp _).trans ?_
  refine rdz_nrm hp ?_
  refine Eqm.of_ith (b := toI (drl (nrm p (rdz p a)))) fun i => ?_
  rw [ith_derI, ith_toI, nth_drl, nth_nrm, rdz_mod hp, Int.natCast_mul, rdz_int hp, ← Int.mul_sub]
  have := Int.emod_add_mul_ediv (ith a (i + 1)) p
  obtain ⟨k, hk⟩ : (p : Int) ∣ ith a (i + 1) - ith a (i + 1) % p := ⟨ith a (i + 1) / p, by omega⟩
  exact ⟨((i + 1 : Nat) : Int) * k, by rw [hk]; grind⟩
set_option maxRecDepth 100000 in
set_option maxHeartbeats 1000000 in
/-- ZpolyReduces' walk. -/
theorem reduces10_law {n0 : Nat} {A1 A2 : Option Addr} {n1 c1 n2 c2 : Nat} {R1 R2 : List Zr} {W : World} (hn : n0 < 256) (h1 : RL W A1 n1 c1 R1) (h2 : RL W A2 n2 c2 R2) (hT : TabHas W) : Calls Tryz.prog 8 #[.int .u8 (n0 : Int), .slice A1 n1 c1, .slice A2 n2 c2] W (TruePost W) := by
  have HT := Lib.hid hT
  have HX1 := Lib.hid h1
  have HX2 := Lib.hid h2
  clear h1 h2 hT
  obtain ⟨p, hp0⟩ : ∃ p, pn (n0 % 12) = p := ⟨_, rfl⟩
  have hpn := pn_pr (n0 % 12) (by omega)
  rw [hp0] at hpn
  obtain ⟨ab, hab0⟩ : ∃ ab, ab + 2 = p := ⟨p - 2, by omega⟩
  have HP0 := Lib.hid hp0
  have HPN := Lib.hid hpn
  have HP := Lib.hid hab0
  have hpl : p < 2147483648 := hpn.2.1
  clear hp0 hpn hab0
  have HF : ∀ (b : Bool) (w1 : World), Below W.heap.size W w1 → (fwb R1 8 2 && fwb R2 8 2) = b → Calls Tryz.prog 10 #[.slice A1 n1 c1, .slice A2 n2 c2, .int .i64 8, .int .i64 2] w1 fun e w' => e = .returned (.bool b) ∧ Below w1.heap.size w1 w' := fun b w1 hB hb => by
    have := few10_v (N := 8) (W := 2) (HX1.out.below hB) (HX2.out.below hB) (by omega) (by omega) hb
    rwa [(show ((8 : Nat) : Int) = 8 from rfl), (show ((2 : Nat) : Int) = 2 from rfl)] at this
  have HFH := Lib.hid HF
  clear HF
  obtain ⟨t, ht⟩ : ∃ t, (fwb R1 8 2 && fwb R2 8 2) = t := ⟨_, rfl⟩
  have Ht := Lib.hid ht
  clear ht
  go_enter Tryz.func8, Tryz.ntmps8
  go_wp2_with fail
  refine (awake10_v HT.out).mono ?_
  rintro e w1 ⟨rfl, B1⟩
  have hW : Below W.heap.size W w1 := B1
  clear B1
  go_wp2_with fail
  refine (HFH.out _ _ hW Ht.out).mono ?_
  clear HFH
  rintro e w2 ⟨rfl, B2⟩
  replace hW := hW.trans (B2.mono hW.size)
  clear B2
  cases t
  · go_wp2_with fail
    refine (awake10_v (HT.out.below hW)).mono ?_
    rintro e w3 ⟨rfl, B3⟩
    go_wp2_with fail
    exact bodyPost_ret (v := .bool true) (by simp [results, Tryz.results8, go_sem]) rfl ⟨rfl, hW.trans (B3.mono hW.size)⟩
  · skip
    have ht := Ht.out
    rw [Bool.and_eq_true] at ht
    have f1 := of_fwb ht.1
    have f2 := of_fwb ht.2
    obtain ⟨zs, hzs⟩ : ∃ zs, nums R1 = zs := ⟨_, rfl⟩
    obtain ⟨zs', hzs'⟩ : ∃ zs, nums R2 = zs := ⟨_, rfl⟩
    have la : n1 ≤ 8 := by have := f1.1; rw [HX1.out.len] at this; exact this
    have lb : n2 ≤ 8 := by have := f2.1; rw [HX2.out.len] at this; exact this
    have hza := HX1.out.zl (k := 2) fun j hj => fw_all f1 (by omega) j (by rw [HX1.out.len]; exact hj)
    have hzb := HX2.out.zl (k := 2) fun j hj => fw_all f2 (by omega) j (by rw [HX2.out.len]; exact hj)
    rw [hzs] at hza
    rw [hzs'] at hzb
    have HA0 := Lib.hid hza
    have HB0 := Lib.hid hzb
    clear ht f1 f2 hzs hzs' hza hzb Ht HX1 HX2
    go_wp2_with fail
    refine (fof9_v hn (HT.out.below hW) HP0.out HP.out).mono ?_
    rintro e wa ⟨rfl, Ba⟩
    replace hW := hW.trans (Ba.mono hW.size)
    clear Ba
    obtain ⟨w21, hw21⟩ : ∃ xw, xw = wa.alloc (.cells #[.int .u64 (ab : Int)] 54) := ⟨_, rfl⟩
    have z21 : Below wa.heap.size wa w21 := by rw [hw21]; exact zba _ _
    have HW21 : Hid (wa.alloc (.cells #[.int .u64 (ab : Int)] 54) = w21) := Lib.hid hw21.symm
    have lw_f : W.heap.size ≤ wa.heap.size := by have := hW.size; omega
    replace hW := hW.trans (z21.mono hW.size)
    have H_f : Hid (Fb w21 wa.heap.size ab) := Lib.hid (by rw [hw21]; exact Fb.new _ _ _)
    clear z21 hw21
    go_upto_region 4 with fail
    rw [HW21.out]
    have hp1 : 0 < p := by have := HPN.out.2.2; omega
    have LA := Lib.hid HA0.out.len
    have LB := Lib.hid HB0.out.len
    obtain ⟨f1, f2, f3⟩ := H_f.out
    go_wp2_with fail
    clear f1 f2 f3
    refine region9 [some 24, some 25, some 26, some 27, some 28, some 29, some 8, some 9] [] 8 [IsK (.slice A1 n1 c1), IsK (.agg #[.int .u64 (ab : Int)]), IsP (nrm p (rdz p zs)), IsK (.slice A2 n2 c2), IsK (.agg #[.int .u64 (ab : Int)]), IsP (nrm p (rdz p zs')), IsP (nrm p (rdz p zs)), IsP (nrm p (rdz p zs'))] (fun _ _ d _ _ h => by cases d <;> exact h) (by kernel_rfl) (by kernel_rfl) (by kernel_rfl) (by kernel_rfl) (by kernel_rfl) ⟨stay_k _, stay_k _, stay_p _, stay_k _, stay_k _, stay_p _, stay_p _, stay_p _, trivial⟩ ?_ ?_
    · refine HopAll.cons rfl ?_ (HopAll.cons rfl ?_ (HopAll.cons rfl ?_ (HopAll.cons rfl ?_ (HopAll.cons rfl ?_ (HopAll.cons rfl ?_ (HopAll.cons rfl ?_ (HopAll.cons rfl ?_ HopAll.nil)))))))
      · intro a w1 hB ho hp Kq hKq
        have e1 : a.eval (.tmp 1) = (.slice A1 n1 c1) := ho 1 (by kernel_rfl)
        refine hop_val (wanted_none rfl) ?_ (hKq (.slice A1 n1 c1) _ rfl (Below.refl _ _))
        unfold execOp; simp only [eval_const, e1]; simp [go_sem]
      · intro a w1 hB ho hp Kq hKq
        have e7 : a.eval (.tmp 7) = (.pointer (some ⟨wa.heap.size, 0, none⟩)) := ho 7 (by kernel_rfl)
        obtain ⟨u1, u2, u3⟩ := H_f.out.below hB
        exact hop_load (wanted_none rfl) rfl e7 (run_ldf u1) (hKq _ _ rfl (Below.refl _ _))
      · intro a w1 hB ho hp Kq hKq
        have e24 : a.eval (.tmp 24) = (.slice A1 n1 c1) := hp 0 24 (by kernel_rfl)
        have e25 : a.eval (.tmp 25) = (.agg #[.int .u64 (ab : Int)]) := hp 1 25 (by kernel_rfl)
        refine hop_call (wanted_none rfl) rfl (args := #[(.slice A1 n1 c1), (.agg #[.int .u64 (ab : Int)])]) (by simp only [List.map_toArray, List.map_cons, List.map_nil, eval_const, e24, e25]) (ent7 (by kernel_rfl) _ _) (zreduce_v HP.out hpl (HA0.out.below (hW.trans (hB.mono hW.size))) (by omega)) ?_
        rintro e w2 ⟨Aq, nq, cq, rfl, pq, Bq⟩
        exact ⟨_, rfl, hKq _ _ ⟨Aq, nq, cq, rfl, pq⟩ Bq⟩
      · intro a w1 hB ho hp Kq hKq
        have e2 : a.eval (.tmp 2) = (.slice A2 n2 c2) := ho 2 (by kernel_rfl)
        refine hop_val (wanted_none rfl) ?_ (hKq (.slice A2 n2 c2) _ rfl (Below.refl _ _))
        unfold execOp; simp only [eval_const, e2]; simp [go_sem]
      · intro a w1 hB ho hp Kq hKq
        have e7 : a.eval (.tmp 7) = (.pointer (some ⟨wa.heap.size, 0, none⟩)) := ho 7 (by kernel_rfl)
        obtain ⟨u1, u2, u3⟩ := H_f.out.below hB
        exact hop_load (wanted_none rfl) rfl e7 (run_ldf u1) (hKq _ _ rfl (Below.refl _ _))
      · intro a w1 hB ho hp Kq hKq
        have e27 : a.eval (.tmp 27) = (.slice A2 n2 c2) := hp 3 27 (by kernel_rfl)
        have e28 : a.eval (.tmp 28) = (.agg #[.int .u64 (ab : Int)]) := hp 4 28 (by kernel_rfl)
        refine hop_call (wanted_none rfl) rfl (args := #[(.slice A2 n2 c2), (.agg #[.int .u64 (ab : Int)])]) (by simp only [List.map_toArray, List.map_cons, List.map_nil, eval_const, e27, e28]) (ent7 (by kernel_rfl) _ _) (zreduce_v HP.out hpl (HB0.out.below (hW.trans (hB.mono hW.size))) (by omega)) ?_
        rintro e w2 ⟨Aq, nq, cq, rfl, pq, Bq⟩
        exact ⟨_, rfl, hKq _ _ ⟨Aq, nq, cq, rfl, pq⟩ Bq⟩
      · intro a w1 hB ho hp Kq hKq
        obtain ⟨A_26, n_26, c_26, e26, p26⟩ : IsP (nrm p (rdz p zs)) (a.eval (.tmp 26)) w1 := hp 2 26 (by kernel_rfl)
        refine hop_val (wanted_none rfl) ?_ (hKq (.slice A_26 n_26 c_26) _ ⟨_, _, _, rfl, p26⟩ (Below.refl _ _))
        unfold execOp; simp only [e26]; simp [go_sem]
      · intro a w1 hB ho hp Kq hKq
        obtain ⟨A_29, n_29, c_29, e29, p29⟩ : IsP (nrm p (rdz p zs')) (a.eval (.tmp 29)) w1 := hp 5 29 (by kernel_rfl)
        refine hop_val (wanted_none rfl) ?_ (hKq (.slice A_29 n_29 c_29) _ ⟨_, _, _, rfl, p29⟩ (Below.refl _ _))
        unfold execOp; simp only [e29]; simp [go_sem]
    intro w22 B22
    refine Ends.one fun vv hv => ?_
    obtain rfl : vv = (.slice A1 n1 c1) := hv
    refine Ends.one fun vv hv => ?_
    obtain rfl : vv = (.agg #[.int .u64 (ab : Int)]) := hv
    refine Ends.one fun vv hv => ?_
    obtain ⟨A23, n23, c23, rfl, p23⟩ : IsP (nrm p (rdz p zs)) vv w22 := hv
    refine Ends.one fun vv hv => ?_
    obtain rfl : vv = (.slice A2 n2 c2) := hv
    refine Ends.one fun vv hv => ?_
    obtain rfl : vv = (.agg #[.int .u64 (ab : Int)]) := hv
    refine Ends.one fun vv hv => ?_
    obtain ⟨A24, n24, c24, rfl, p24⟩ : IsP (nrm p (rdz p zs')) vv w22 := hv
    refine Ends.one fun vv hv => ?_
    obtain ⟨A25, n25, c25, rfl, p25⟩ : IsP (nrm p (rdz p zs)) vv w22 := hv
    refine Ends.one fun vv hv => ?_
    obtain ⟨A26, n26, c26, rfl, p26⟩ : IsP (nrm p (rdz p zs')) vv w22 := hv
    refine Ends.nil (l := []) rfl ?_
    simp only [Act.put, List.setIfInBounds_toArray, List.set_cons_zero, List.set_cons_succ]
    replace H_f := Lib.hid (H_f.out.below B22)
    replace hW := hW.trans (B22.mono hW.size)
    have hx := p25
    have hy := p26
    clear p23 p24 p25 p26
    clear B22
    obtain ⟨f1, f2, f3⟩ := H_f.out
    go_upto_region 5 with fail
    clear f1 f2 f3
    refine region9 [some 30, some 31, some 32, some 33, some 34, some 10] [] 6 [IsK (.slice A1 n1 c1), IsK (.slice A2 n2 c2), IsL true 3 (nrz (addI zs zs')), IsK (.agg #[.int .u64 (ab : Int)]), IsP (nrm p (rdz p (nrz (addI zs zs')))), IsP (nrm p (rdz p (nrz (addI zs zs'))))] (fun _ _ d _ _ h => by cases d <;> exact h) (by kernel_rfl) (by kernel_rfl) (by kernel_rfl) (by kernel_rfl) (by kernel_rfl) ⟨stay_k _, stay_k _, stay_l _ _ _, stay_k _, stay_p _, stay_p _, trivial⟩ ?_ ?_
    · refine HopAll.cons rfl ?_ (HopAll.cons rfl ?_ (HopAll.cons rfl ?_ (HopAll.cons rfl ?_ (HopAll.cons rfl ?_ (HopAll.cons rfl ?_ HopAll.nil)))))
      · intro a w1 hB ho hp Kq hKq
        have e1 : a.eval (.tmp 1) = (.slice A1 n1 c1) := ho 1 (by kernel_rfl)
        refine hop_val (wanted_none rfl) ?_ (hKq (.slice A1 n1 c1) _ rfl (Below.refl _ _))
        unfold execOp; simp only [eval_const, e1]; simp [go_sem]
      · intro a w1 hB ho hp Kq hKq
        have e2 : a.eval (.tmp 2) = (.slice A2 n2 c2) := ho 2 (by kernel_rfl)
        refine hop_val (wanted_none rfl) ?_ (hKq (.slice A2 n2 c2) _ rfl (Below.refl _ _))
        unfold execOp; simp only [eval_const, e2]; simp [go_sem]
      · intro a w1 hB ho hp Kq hKq
        have e30 : a.eval (.tmp 30) = (.slice A1 n1 c1) := hp 0 30 (by kernel_rfl)
        have e31 : a.eval (.tmp 31) = (.slice A2 n2 c2) := hp 1 31 (by kernel_rfl)
        refine hop_call (wanted_none rfl) rfl (args := #[(.slice A1 n1 c1), (.slice A2 n2 c2)]) (by simp only [List.map_toArray, List.map_cons, List.map_nil, eval_const, e30, e31]) (ent7 (by kernel_rfl) _ _) (zaddp_v (HA0.out.below (hW.trans (hB.mono hW.size))) (HB0.out.below (hW.trans (hB.mono hW.size))) (by omega) (by omega) (by omega) (by omega)) ?_
        rintro e w2 ⟨Aq, nq, cq, rfl, pq, Bq⟩
        exact ⟨_, rfl, hKq _ _ ⟨Aq, nq, cq, rfl, pq⟩ Bq⟩
      · intro a w1 hB ho hp Kq hKq
        have e7 : a.eval (.tmp 7) = (.pointer (some ⟨wa.heap.size, 0, none⟩)) := ho 7 (by kernel_rfl)
        obtain ⟨u1, u2, u3⟩ := H_f.out.below hB
        exact hop_load (wanted_none rfl) rfl e7 (run_ldf u1) (hKq _ _ rfl (Below.refl _ _))
      · intro a w1 hB ho hp Kq hKq
        obtain ⟨A_32, n_32, c_32, e32, p32⟩ : IsL true 3 (nrz (addI zs zs')) (a.eval (.tmp 32)) w1 := hp 2 32 (by kernel_rfl)
        have e33 : a.eval (.tmp 33) = (.agg #[.int .u64 (ab : Int)]) := hp 3 33 (by kernel_rfl)
        refine hop_call (wanted_none rfl) rfl (args := #[(.slice A_32 n_32 c_32), (.agg #[.int .u64 (ab : Int)])]) (by simp only [List.map_toArray, List.map_cons, List.map_nil, eval_const, e32, e33]) (ent7 (by kernel_rfl) _ _) (zreduce_v HP.out hpl p32 (by have h1 := p32.len; rw [nrz_length] at h1; have h2 := slZ_le (addI zs zs'); rw [addI_length, LA.out, LB.out] at h2; omega)) ?_
        rintro e w2 ⟨Aq, nq, cq, rfl, pq, Bq⟩
        exact ⟨_, rfl, hKq _ _ ⟨Aq, nq, cq, rfl, pq⟩ Bq⟩
      · intro a w1 hB ho hp Kq hKq
        obtain ⟨A_34, n_34, c_34, e34, p34⟩ : IsP (nrm p (rdz p (nrz (addI zs zs')))) (a.eval (.tmp 34)) w1 := hp 4 34 (by kernel_rfl)
        refine hop_val (wanted_none rfl) ?_ (hKq (.slice A_34 n_34 c_34) _ ⟨_, _, _, rfl, p34⟩ (Below.refl _ _))
        unfold execOp; simp only [e34]; simp [go_sem]
    intro w27 B27
    refine Ends.one fun vv hv => ?_
    obtain rfl : vv = (.slice A1 n1 c1) := hv
    refine Ends.one fun vv hv => ?_
    obtain rfl : vv = (.slice A2 n2 c2) := hv
    refine Ends.one fun vv hv => ?_
    obtain ⟨A28, n28, c28, rfl, p28⟩ : IsL true 3 (nrz (addI zs zs')) vv w27 := hv
    refine Ends.one fun vv hv => ?_
    obtain rfl : vv = (.agg #[.int .u64 (ab : Int)]) := hv
    refine Ends.one fun vv hv => ?_
    obtain ⟨A29, n29, c29, rfl, p29⟩ : IsP (nrm p (rdz p (nrz (addI zs zs')))) vv w27 := hv
    refine Ends.one fun vv hv => ?_
    obtain ⟨A30, n30, c30, rfl, p30⟩ : IsP (nrm p (rdz p (nrz (addI zs zs')))) vv w27 := hv
    refine Ends.nil (l := []) rfl ?_
    simp only [Act.put, List.setIfInBounds_toArray, List.set_cons_zero, List.set_cons_succ]
    replace H_f := Lib.hid (H_f.out.below B27)
    replace hx := hx.below B27
    replace hy := hy.below B27
    replace hW := hW.trans (B27.mono hW.size)
    have hs := p30
    clear p28 p29 p30
    clear B27
    obtain ⟨f1, f2, f3⟩ := H_f.out
    go_upto_region 6 with fail
    clear f1 f2 f3
    refine region9 [some 35, some 36, some 37, some 38, some 39, some 11] [] 6 [IsK (.slice A1 n1 c1), IsK (.slice A2 n2 c2), IsL true 20 (mulN zs zs'), IsK (.agg #[.int .u64 (ab : Int)]), IsP (nrm p (rdz p (mulN zs zs'))), IsP (nrm p (rdz p (mulN zs zs')))] (fun _ _ d _ _ h => by cases d <;> exact h) (by kernel_rfl) (by kernel_rfl) (by kernel_rfl) (by kernel_rfl) (by kernel_rfl) ⟨stay_k _, stay_k _, stay_l _ _ _, stay_k _, stay_p _, stay_p _, trivial⟩ ?_ ?_
    · refine HopAll.cons rfl ?_ (HopAll.cons rfl ?_ (HopAll.cons rfl ?_ (HopAll.cons rfl ?_ (HopAll.cons rfl ?_ (HopAll.cons rfl ?_ HopAll.nil)))))
      · intro a w1 hB ho hp Kq hKq
        have e1 : a.eval (.tmp 1) = (.slice A1 n1 c1) := ho 1 (by kernel_rfl)
        refine hop_val (wanted_none rfl) ?_ (hKq (.slice A1 n1 c1) _ rfl (Below.refl _ _))
        unfold execOp; simp only [eval_const, e1]; simp [go_sem]
      · intro a w1 hB ho hp Kq hKq
        have e2 : a.eval (.tmp 2) = (.slice A2 n2 c2) := ho 2 (by kernel_rfl)
        refine hop_val (wanted_none rfl) ?_ (hKq (.slice A2 n2 c2) _ rfl (Below.refl _ _))
        unfold execOp; simp only [eval_const, e2]; simp [go_sem]
      · intro a w1 hB ho hp Kq hKq
        have e35 : a.eval (.tmp 35) = (.slice A1 n1 c1) := hp 0 35 (by kernel_rfl)
        have e36 : a.eval (.tmp 36) = (.slice A2 n2 c2) := hp 1 36 (by kernel_rfl)
        refine hop_call (wanted_none rfl) rfl (args := #[(.slice A1 n1 c1), (.slice A2 n2 c2)]) (by simp only [List.map_toArray, List.map_cons, List.map_nil, eval_const, e35, e36]) (ent7 (by kernel_rfl) _ _) (zmulp_v (KK := 20) (HA0.out.below (hW.trans (hB.mono hW.size))) (HB0.out.below (hW.trans (hB.mono hW.size))) (by omega) (by omega) (by omega) (by omega)) ?_
        rintro e w2 ⟨Aq, nq, cq, rfl, pq, Bq⟩
        exact ⟨_, rfl, hKq _ _ ⟨Aq, nq, cq, rfl, pq⟩ Bq⟩
      · intro a w1 hB ho hp Kq hKq
        have e7 : a.eval (.tmp 7) = (.pointer (some ⟨wa.heap.size, 0, none⟩)) := ho 7 (by kernel_rfl)
        obtain ⟨u1, u2, u3⟩ := H_f.out.below hB
        exact hop_load (wanted_none rfl) rfl e7 (run_ldf u1) (hKq _ _ rfl (Below.refl _ _))
      · intro a w1 hB ho hp Kq hKq
        obtain ⟨A_37, n_37, c_37, e37, p37⟩ : IsL true 20 (mulN zs zs') (a.eval (.tmp 37)) w1 := hp 2 37 (by kernel_rfl)
        have e38 : a.eval (.tmp 38) = (.agg #[.int .u64 (ab : Int)]) := hp 3 38 (by kernel_rfl)
        refine hop_call (wanted_none rfl) rfl (args := #[(.slice A_37 n_37 c_37), (.agg #[.int .u64 (ab : Int)])]) (by simp only [List.map_toArray, List.map_cons, List.map_nil, eval_const, e37, e38]) (ent7 (by kernel_rfl) _ _) (zreduce_v HP.out hpl p37 (by have h1 := p37.len; have h2 := mulN_le zs zs'; rw [LA.out, LB.out] at h2; omega)) ?_
        rintro e w2 ⟨Aq, nq, cq, rfl, pq, Bq⟩
        exact ⟨_, rfl, hKq _ _ ⟨Aq, nq, cq, rfl, pq⟩ Bq⟩
      · intro a w1 hB ho hp Kq hKq
        obtain ⟨A_39, n_39, c_39, e39, p39⟩ : IsP (nrm p (rdz p (mulN zs zs'))) (a.eval (.tmp 39)) w1 := hp 4 39 (by kernel_rfl)
        refine hop_val (wanted_none rfl) ?_ (hKq (.slice A_39 n_39 c_39) _ ⟨_, _, _, rfl, p39⟩ (Below.refl _ _))
        unfold execOp; simp only [e39]; simp [go_sem]
    intro w31 B31
    refine Ends.one fun vv hv => ?_
    obtain rfl : vv = (.slice A1 n1 c1) := hv
    refine Ends.one fun vv hv => ?_
    obtain rfl : vv = (.slice A2 n2 c2) := hv
    refine Ends.one fun vv hv => ?_
    obtain ⟨A32, n32, c32, rfl, p32⟩ : IsL true 20 (mulN zs zs') vv w31 := hv
    refine Ends.one fun vv hv => ?_
    obtain rfl : vv = (.agg #[.int .u64 (ab : Int)]) := hv
    refine Ends.one fun vv hv => ?_
    obtain ⟨A33, n33, c33, rfl, p33⟩ : IsP (nrm p (rdz p (mulN zs zs'))) vv w31 := hv
    refine Ends.one fun vv hv => ?_
    obtain ⟨A34, n34, c34, rfl, p34⟩ : IsP (nrm p (rdz p (mulN zs zs'))) vv w31 := hv
    refine Ends.nil (l := []) rfl ?_
    simp only [Act.put, List.setIfInBounds_toArray, List.set_cons_zero, List.set_cons_succ]
    replace H_f := Lib.hid (H_f.out.below B31)
    replace hx := hx.below B31
    replace hy := hy.below B31
    replace hs := hs.below B31
    replace hW := hW.trans (B31.mono hW.size)
    have hm := p34
    clear p32 p33 p34
    clear B31
    obtain ⟨f1, f2, f3⟩ := H_f.out
    go_upto_region 7 with fail
    clear f1 f2 f3
    refine region9 [some 40, some 41, some 42, some 43, some 12] [] 5 [IsK (.slice A1 n1 c1), IsL true 3 (nrz (derI zs)), IsK (.agg #[.int .u64 (ab : Int)]), IsP (nrm p (rdz p (nrz (derI zs)))), IsP (nrm p (rdz p (nrz (derI zs))))] (fun _ _ d _ _ h => by cases d <;> exact h) (by kernel_rfl) (by kernel_rfl) (by kernel_rfl) (by kernel_rfl) (by kernel_rfl) ⟨stay_k _, stay_l _ _ _, stay_k _, stay_p _, stay_p _, trivial⟩ ?_ ?_
    · refine HopAll.cons rfl ?_ (HopAll.cons rfl ?_ (HopAll.cons rfl ?_ (HopAll.cons rfl ?_ (HopAll.cons rfl ?_ HopAll.nil))))
      · intro a w1 hB ho hp Kq hKq
        have e1 : a.eval (.tmp 1) = (.slice A1 n1 c1) := ho 1 (by kernel_rfl)
        refine hop_val (wanted_none rfl) ?_ (hKq (.slice A1 n1 c1) _ rfl (Below.refl _ _))
        unfold execOp; simp only [eval_const, e1]; simp [go_sem]
      · intro a w1 hB ho hp Kq hKq
        have e40 : a.eval (.tmp 40) = (.slice A1 n1 c1) := hp 0 40 (by kernel_rfl)
        refine hop_call (wanted_none rfl) rfl (args := #[(.slice A1 n1 c1)]) (by simp only [List.map_toArray, List.map_cons, List.map_nil, eval_const, e40]) (ent7 (by kernel_rfl) _ _) (zderive_v (HA0.out.below (hW.trans (hB.mono hW.size))) (by omega) (by omega)) ?_
        rintro e w2 ⟨Aq, nq, cq, rfl, pq, Bq⟩
        exact ⟨_, rfl, hKq _ _ ⟨Aq, nq, cq, rfl, pq⟩ Bq⟩
      · intro a w1 hB ho hp Kq hKq
        have e7 : a.eval (.tmp 7) = (.pointer (some ⟨wa.heap.size, 0, none⟩)) := ho 7 (by kernel_rfl)
        obtain ⟨u1, u2, u3⟩ := H_f.out.below hB
        exact hop_load (wanted_none rfl) rfl e7 (run_ldf u1) (hKq _ _ rfl (Below.refl _ _))
      · intro a w1 hB ho hp Kq hKq
        obtain ⟨A_41, n_41, c_41, e41, p41⟩ : IsL true 3 (nrz (derI zs)) (a.eval (.tmp 41)) w1 := hp 1 41 (by kernel_rfl)
        have e42 : a.eval (.tmp 42) = (.agg #[.int .u64 (ab : Int)]) := hp 2 42 (by kernel_rfl)
        refine hop_call (wanted_none rfl) rfl (args := #[(.slice A_41 n_41 c_41), (.agg #[.int .u64 (ab : Int)])]) (by simp only [List.map_toArray, List.map_cons, List.map_nil, eval_const, e41, e42]) (ent7 (by kernel_rfl) _ _) (zreduce_v HP.out hpl p41 (by have h1 := p41.len; rw [nrz_length] at h1; have h2 := slZ_le (derI zs); have h3 : (derI zs).length = zs.length - 1 := mkz_length _ _; rw [LA.out] at h3; omega)) ?_
        rintro e w2 ⟨Aq, nq, cq, rfl, pq, Bq⟩
        exact ⟨_, rfl, hKq _ _ ⟨Aq, nq, cq, rfl, pq⟩ Bq⟩
      · intro a w1 hB ho hp Kq hKq
        obtain ⟨A_43, n_43, c_43, e43, p43⟩ : IsP (nrm p (rdz p (nrz (derI zs)))) (a.eval (.tmp 43)) w1 := hp 3 43 (by kernel_rfl)
        refine hop_val (wanted_none rfl) ?_ (hKq (.slice A_43 n_43 c_43) _ ⟨_, _, _, rfl, p43⟩ (Below.refl _ _))
        unfold execOp; simp only [e43]; simp [go_sem]
    intro w35 B35
    refine Ends.one fun vv hv => ?_
    obtain rfl : vv = (.slice A1 n1 c1) := hv
    refine Ends.one fun vv hv => ?_
    obtain ⟨A36, n36, c36, rfl, p36⟩ : IsL true 3 (nrz (derI zs)) vv w35 := hv
    refine Ends.one fun vv hv => ?_
    obtain rfl : vv = (.agg #[.int .u64 (ab : Int)]) := hv
    refine Ends.one fun vv hv => ?_
    obtain ⟨A37, n37, c37, rfl, p37⟩ : IsP (nrm p (rdz p (nrz (derI zs)))) vv w35 := hv
    refine Ends.one fun vv hv => ?_
    obtain ⟨A38, n38, c38, rfl, p38⟩ : IsP (nrm p (rdz p (nrz (derI zs)))) vv w35 := hv
    refine Ends.nil (l := []) rfl ?_
    simp only [Act.put, List.setIfInBounds_toArray, List.set_cons_zero, List.set_cons_succ]
    replace H_f := Lib.hid (H_f.out.below B35)
    replace hx := hx.below B35
    replace hy := hy.below B35
    replace hs := hs.below B35
    replace hm := hm.below B35
    replace hW := hW.trans (B35.mono hW.size)
    have hd := p38
    clear p36 p37 p38
    clear B35
    obtain ⟨f1, f2, f3⟩ := H_f.out
    go_upto_region 8 with fail
    clear f1 f2 f3
    have hxb := hx.len
    have hyb := hy.len
    have hx1 := nrm_le p (rdz p zs)
    have hy1 := nrm_le p (rdz p zs')
    rw [rdz_length, LA.out, hxb] at hx1
    rw [rdz_length, LB.out, hyb] at hy1
    clear hxb hyb
    obtain ⟨f1, f2, f3⟩ := H_f.out
    go_wp2_with fail
    clear f1 f2 f3
    refine (padd_v HP.out hpl hx (by omega) hy (by omega)).mono ?_
    rintro e w39 ⟨A39, n39, c39, rfl, hr, B39⟩
    replace H_f := Lib.hid (H_f.out.below B39)
    replace hx := hx.below B39
    replace hy := hy.below B39
    replace hs := hs.below B39
    replace hm := hm.below B39
    replace hd := hd.below B39
    replace hW := hW.trans (B39.mono hW.size)
    clear B39
    rw [← red_add hp1 zs zs'] at hr
    obtain ⟨f1, f2, f3⟩ := H_f.out
    go_wp2_with fail
    clear f1 f2 f3
    refine (rsame_v hs hr (b := true) (by simp)).mono ?_
    rintro e wx1 ⟨rfl, Bx1⟩
    replace H_f := Lib.hid (H_f.out.below Bx1)
    replace hx := hx.below Bx1
    replace hy := hy.below Bx1
    replace hs := hs.below Bx1
    replace hm := hm.below Bx1
    replace hd := hd.below Bx1
    replace hr := hr.below Bx1
    replace hW := hW.trans (Bx1.mono hW.size)
    clear Bx1 hr
    obtain ⟨f1, f2, f3⟩ := H_f.out
    go_wp2_with fail
    clear f1 f2 f3
    refine (pmul_v HP.out hpl hx (by omega) hy (by omega)).mono ?_
    rintro e w40 ⟨A40, n40, c40, rfl, hr, B40⟩
    replace H_f := Lib.hid (H_f.out.below B40)
    replace hx := hx.below B40
    replace hy := hy.below B40
    replace hs := hs.below B40
    replace hm := hm.below B40
    replace hd := hd.below B40
    replace hW := hW.trans (B40.mono hW.size)
    clear B40
    rw [← red_mul hp1 zs zs'] at hr
    obtain ⟨f1, f2, f3⟩ := H_f.out
    go_wp2_with fail
    clear f1 f2 f3
    refine (rsame_v hm hr (b := true) (by simp)).mono ?_
    rintro e wx2 ⟨rfl, Bx2⟩
    replace H_f := Lib.hid (H_f.out.below Bx2)
    replace hx := hx.below Bx2
    replace hy := hy.below Bx2
    replace hs := hs.below Bx2
    replace hm := hm.below Bx2
    replace hd := hd.below Bx2
    replace hr := hr.below Bx2
    replace hW := hW.trans (Bx2.mono hW.size)
    clear Bx2 hr
    obtain ⟨f1, f2, f3⟩ := H_f.out
    go_wp2_with fail
    clear f1 f2 f3
    refine (derive_v HP.out hpl hx (by omega)).mono ?_
    rintro e w41 ⟨A41, n41, c41, rfl, hr, B41⟩
    replace H_f := Lib.hid (H_f.out.below B41)
    replace hx := hx.below B41
    replace hy := hy.below B41
    replace hs := hs.below B41
    replace hm := hm.below B41
    replace hd := hd.below B41
    replace hW := hW.trans (B41.mono hW.size)
    clear B41
    rw [← red_der hp1 zs] at hr
    obtain ⟨f1, f2, f3⟩ := H_f.out
    go_wp2_with fail
    clear f1 f2 f3
    refine (rsame_v hd hr (b := true) (by simp)).mono ?_
    rintro e wx3 ⟨rfl, Bx3⟩
    replace H_f := Lib.hid (H_f.out.below Bx3)
    replace hx := hx.below Bx3
    replace hy := hy.below Bx3
    replace hs := hs.below Bx3
    replace hm := hm.below Bx3
    replace hd := hd.below Bx3
    replace hr := hr.below Bx3
    replace hW := hW.trans (Bx3.mono hW.size)
    clear Bx3 hr
    obtain ⟨f1, f2, f3⟩ := H_f.out
    go_wp2_with fail
    clear f1 f2 f3
    exact bodyPost_ret (v := .bool true) (by simp [results, Tryz.results8, go_sem]) rfl ⟨rfl, hW⟩
end Go.Proofs.YtddbhhedjipjkaaGreatDoor
