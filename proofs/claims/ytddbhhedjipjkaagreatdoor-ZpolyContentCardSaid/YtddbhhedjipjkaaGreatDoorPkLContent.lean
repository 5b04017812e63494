/-
  LContent
-/
import Derived.Test.YtddbhhedjipjkaaGreatDoorPk20
import Derived.Test.YtddbhhedjipjkaaGreatDoorPk41
import Derived.Test.YtddbhhedjipjkaaGreatDoorPk19

/-! The walk of ZpolyContent. -/
namespace Go.Proofs.YtddbhhedjipjkaaGreatDoor
open Go.RowKit
set_option linter.unusedVariables false
set_option linter.unusedSimpArgs false

theorem prc_two (l : List Int) : prc l = (cont l : Int) ∨ prc l = -(cont l : Int) := by unfold prc; split <;> simp
theorem back_yes {l : List Int} (h : prc l = (cont l : Int)) : nrz (nrz (mulC (cont l : Int) (prim l))) = nrz l := nrz_eq fun x => by rw [pv_nrz, pv_mulC, prim_back l, h]
theorem back_no {l : List Int} (h : prc l = -(cont l : Int)) : nrz (nrz (mulC (-1) (nrz (mulC (cont l : Int) (prim l))))) = nrz l := nrz_eq fun x => by rw [pv_nrz, pv_mulC, pv_nrz, pv_mulC, prim_back l, h]; grind
theorem prim_top {l : List Int} (h : slZ l ≠ 0) : 0 < ith (prim l) (slZ l - 1) := by
  rcases pm_prim l with e | ⟨-, -, h3⟩
  · have h1 := prim_length l; rw [e] at h1; exact absurd h1.symm h
  · unfold ldz at h3; rwa [prim_length] at h3
theorem prim_cont {l : List Int} (h : slZ l ≠ 0) : cont (prim l) = 1 := by
  rcases pm_prim l with e | ⟨h1, -, -⟩
  · have h1 := prim_length l; rw [e] at h1; exact absurd h1.symm h
  · exact h1
set_option maxRecDepth 100000 in
set_option maxHeartbeats 1000000 in
/-- ZpolyContent's walk. -/
theorem content10_law {A0 : Option Addr} {n0 c0 : Nat} {R0 : List Zr} {A1 : Option Addr} {n1 c1 : Nat} {R1 : List Zr} {W : World} (h0 : RL W A0 n0 c0 R0) (h1 : RL W A1 n1 c1 R1) (hT : TabHas W) : Calls Tryz.prog 6 #[.slice A0 n0 c0, .slice A1 n1 c1] W (TruePost W) := by
  have HT := Lib.hid hT
  have HX0 := Lib.hid h0
  have HX1 := Lib.hid h1
  clear h0 h1 hT
  have HF : ∀ (b : Bool) (w1 : World), Below W.heap.size W w1 → (fwb R0 8 2 && fwb R1 8 2) = b → Calls Tryz.prog 10 #[.slice A0 n0 c0, .slice A1 n1 c1, .int .i64 8, .int .i64 2] w1 fun e w' => e = .returned (.bool b) ∧ Below w1.heap.size w1 w' := fun b w1 hB hb => by
    have := few10_v (N := 8) (W := 2) (HX0.out.below hB) (HX1.out.below hB) (by omega) (by omega) hb
    rwa [(show ((8 : Nat) : Int) = 8 from rfl), (show ((2 : Nat) : Int) = 2 from rfl)] at this
  have HFH := Lib.hid HF
  clear HF
  obtain ⟨t, ht⟩ : ∃ t, (fwb R0 8 2 && fwb R1 8 2) = t := ⟨_, rfl⟩
  have Ht := Lib.hid ht
  clear ht
  go_enter Tryz.func6, Tryz.ntmps6
  go_wp2_with fail
  refine (awake10_v HT.out).mono ?_
  rintro e w1 ⟨rfl, B1⟩
  have hW : Below W.heap.size W w1 := B1
  clear B1
  go_wp2_with fail
  refine (HFH.out _ _ hW Ht.out).mono ?_
  clear HFH
  rintro e w2 ⟨rfl, B2⟩
  replace hW := hW.trans (B2.mono hW.size)
  clear B2
  cases t
  · go_wp2_with fail
    refine (awake10_v (HT.out.below hW)).mono ?_
    rintro e w3 ⟨rfl, B3⟩
    go_wp2_with fail
    exact bodyPost_ret (v := .bool true) (by simp [results, Tryz.results6, go_sem]) rfl ⟨rfl, hW.trans (B3.mono hW.size)⟩
  · skip
    have ht := Ht.out
    rw [Bool.and_eq_true] at ht
    have f1 := of_fwb ht.1
    have f2 := of_fwb ht.2
    obtain ⟨zs, hzs⟩ : ∃ zs, nums R0 = zs := ⟨_, rfl⟩
    obtain ⟨zs', hzs'⟩ : ∃ zs, nums R1 = zs := ⟨_, rfl⟩
    have la : n0 ≤ 8 := by have := f1.1; rw [HX0.out.len] at this; exact this
    have lb : n1 ≤ 8 := by have := f2.1; rw [HX1.out.len] at this; exact this
    have hza := HX0.out.zl (k := 2) fun j hj => fw_all f1 (by omega) j (by rw [HX0.out.len]; exact hj)
    have hzb := HX1.out.zl (k := 2) fun j hj => fw_all f2 (by omega) j (by rw [HX1.out.len]; exact hj)
    rw [hzs] at hza
    rw [hzs'] at hzb
    have HA0 := Lib.hid hza
    have HB0 := Lib.hid hzb
    clear ht f1 f2 hzs hzs' hza hzb Ht HX0 HX1
    go_wp2_with fail
    refine (zcontent_v (HA0.out.below hW) (by omega) (by omega)).mono ?_
    rintro e w21 ⟨s21, A21, n21, c21, rfl, hc, k21, B21⟩
    replace hW := hW.trans (B21.mono hW.size)
    clear B21
    go_wp2_with fail
    refine (zprim_v (HA0.out.below hW) (by omega) (by omega)).mono ?_
    rintro e w22 ⟨A22, n22, c22, rfl, hp, B22⟩
    replace hc := hc.below B22
    replace hW := hW.trans (B22.mono hW.size)
    clear B22
    have hz8 : slZ zs ≤ 8 := by have := slZ_le zs; rw [HA0.out.len] at this; omega
    have hpl : slZ zs = n22 := by have h1 := hp.len; rw [prim_length] at h1; exact h1
    obtain ⟨w23, hw23⟩ : ∃ xw, xw = w22.alloc (.cells #[.bool s21, .slice A21 n21 c21] 27) := ⟨_, rfl⟩
    have z23 : Below w22.heap.size w22 w23 := by rw [hw23]; exact zba _ _
    have HW23 : Hid (w22.alloc (.cells #[.bool s21, .slice A21 n21 c21] 27) = w23) := Lib.hid hw23.symm
    have lw_c : W.heap.size ≤ w22.heap.size := by have := hW.size; omega
    replace hc := hc.below z23
    replace hp := hp.below z23
    replace hW := hW.trans (z23.mono hW.size)
    have H_c : Hid (Ib w23 w22.heap.size s21 A21 n21 c21) := Lib.hid (by rw [hw23]; exact Ib.new _ _ _ _ _ _)
    clear z23 hw23
    go_upto_region 4 with fail
    rw [HW23.out]
    obtain ⟨c1, c2, c3, c4, c5⟩ := H_c.out
    go_wp2_with fail
    clear c1 c2 c3 c4 c5
    refine (zmulp_v (KK := 20) (HA0.out.below hW) (HB0.out.below hW) (by omega) (by omega) (by omega) (by omega)).mono ?_
    rintro e w24 ⟨A24, n24, c24, rfl, hm, B24⟩
    replace H_c := Lib.hid (H_c.out.below B24)
    replace hc := hc.below B24
    replace hp := hp.below B24
    replace hW := hW.trans (B24.mono hW.size)
    clear B24
    obtain ⟨sg0, hsg⟩ : ∃ t, ((cont zs : Nat) : Int).sign = t := ⟨_, rfl⟩
    have HSG := Lib.hid hsg
    have hsg0 : ¬ sg0 < 0 := fun h => by have h1 := (sign_lt hsg).1 h; omega
    have HCM : Hid (((cont (mulN zs zs') : Nat) : Int) = (cont zs : Int) * (cont zs' : Int)) := Lib.hid (by unfold mulN; rw [cont_nrz, cont_mul]; exact Int.natCast_mul _ _)
    have hml : n24 ≤ 16 := by
      have h1 := hm.len
      have h2 : (mulN zs zs').length ≤ zs.length + zs'.length := by unfold mulN; rw [nrz_length]; exact Nat.le_trans (slZ_le _) (mulI_short _ _)
      rw [HA0.out.len, HB0.out.len] at h2; omega
    clear hsg
    obtain ⟨c1, c2, c3, c4, c5⟩ := H_c.out
    go_wp2_with fail
    clear c1 c2 c3 c4 c5
    refine region8 [] 13 [IsK (.slice A24 n24 c24), IsC (cont (mulN zs zs') : Int) 20, IsK (.agg #[.bool s21, .slice A21 n21 c21]), IsK (.slice A1 n1 c1), IsC (cont zs' : Int) 2, IsC ((cont zs : Int) * (cont zs' : Int)) 4, IsK (.bool true), IsK (.bool false), IsK (.bool false), IsK (.agg #[.bool s21, .slice A21 n21 c21]), IsK (.int .i64 sg0), IsK (.bool false), IsK (.bool false)] (fun _ _ d _ _ h => by cases d <;> exact h) (by kernel_rfl) (by kernel_rfl) (by kernel_rfl) ⟨stay_k _, stay_c _ _, stay_k _, stay_k _, stay_c _ _, stay_c _ _, stay_k _, stay_k _, stay_k _, stay_k _, stay_k _, stay_k _, stay_k _, trivial⟩ ?_ ?_
    · refine HopAll.cons rfl ?_ (HopAll.cons rfl ?_ (HopAll.cons rfl ?_ (HopAll.cons rfl ?_ (HopAll.cons rfl ?_ (HopAll.cons rfl ?_ (HopAll.cons rfl ?_ (HopAll.cons rfl ?_ (HopAll.cons rfl ?_ (HopAll.cons rfl ?_ (HopAll.cons rfl ?_ (HopAll.cons rfl ?_ (HopAll.cons rfl ?_ HopAll.nil))))))))))))
      · intro a w1 hB ho hp Kq hKq
        have e7 : a.eval (.tmp 7) = (.slice A24 n24 c24) := ho 7 (by kernel_rfl)
        refine hop_val (wanted_none rfl) ?_ (hKq (.slice A24 n24 c24) _ rfl (Below.refl _ _))
        unfold execOp; simp only [eval_const, e7]; simp [go_sem]
      · intro a w1 hB ho hp Kq hKq
        have e26 : a.eval (.tmp 26) = (.slice A24 n24 c24) := hp 0 26 (by kernel_rfl)
        refine hop_call (wanted_none rfl) rfl (args := #[(.slice A24 n24 c24)]) (by simp only [List.map_toArray, List.map_cons, List.map_nil, eval_const, e26]) (ent7 (by kernel_rfl) _ _) (zcontent_v (hm.below hB) (by omega) (by omega)) ?_
        rintro e w2 ⟨sq, Aq, nq, cq, rfl, pq, kq, Bq⟩
        exact ⟨_, rfl, hKq _ _ ⟨sq, Aq, nq, cq, rfl, pq, by omega⟩ Bq⟩
      · intro a w1 hB ho hp Kq hKq
        have e5 : a.eval (.tmp 5) = (.pointer (some ⟨w22.heap.size, 0, none⟩)) := ho 5 (by kernel_rfl)
        obtain ⟨u1, u2, u3, u4, u5⟩ := H_c.out.below hB
        exact hop_load (wanted_none rfl) rfl e5 (run_ldz u1 u2) (hKq _ _ rfl (Below.refl _ _))
      · intro a w1 hB ho hp Kq hKq
        have e1 : a.eval (.tmp 1) = (.slice A1 n1 c1) := ho 1 (by kernel_rfl)
        refine hop_val (wanted_none rfl) ?_ (hKq (.slice A1 n1 c1) _ rfl (Below.refl _ _))
        unfold execOp; simp only [eval_const, e1]; simp [go_sem]
      · intro a w1 hB ho hp Kq hKq
        have e29 : a.eval (.tmp 29) = (.slice A1 n1 c1) := hp 3 29 (by kernel_rfl)
        refine hop_call (wanted_none rfl) rfl (args := #[(.slice A1 n1 c1)]) (by simp only [List.map_toArray, List.map_cons, List.map_nil, eval_const, e29]) (ent7 (by kernel_rfl) _ _) (zcontent_v (HB0.out.below (hW.trans (hB.mono hW.size))) (by omega) (by omega)) ?_
        rintro e w2 ⟨sq, Aq, nq, cq, rfl, pq, kq, Bq⟩
        exact ⟨_, rfl, hKq _ _ ⟨sq, Aq, nq, cq, rfl, pq, by omega⟩ Bq⟩
      · intro a w1 hB ho hp Kq hKq
        have e28 : a.eval (.tmp 28) = (.agg #[.bool s21, .slice A21 n21 c21]) := hp 2 28 (by kernel_rfl)
        obtain ⟨s_30, A_30, n_30, c_30, e30, ⟨p30, k30⟩⟩ : IsC (cont zs' : Int) 2 (a.eval (.tmp 30)) w1 := hp 4 30 (by kernel_rfl)
        refine hop_call (wanted_none rfl) rfl (args := #[(.agg #[.bool s21, .slice A21 n21 c21]), (.agg #[.bool s_30, .slice A_30 n_30 c_30])]) (by simp only [List.map_toArray, List.map_cons, List.map_nil, eval_const, e28, e30]) (ent7 (by kernel_rfl) _ _) (zmul_v (hc.below hB).zv p30.zv (by omega) (by omega)) ?_
        rintro e w2 ⟨sq, Aq, nq, cq, rfl, pq, kq, Bq⟩
        exact ⟨_, rfl, hKq _ _ ⟨sq, Aq, nq, cq, rfl, pq, by omega⟩ Bq⟩
      · intro a w1 hB ho hp Kq hKq
        obtain ⟨s_27, A_27, n_27, c_27, e27, ⟨p27, k27⟩⟩ : IsC (cont (mulN zs zs') : Int) 20 (a.eval (.tmp 27)) w1 := hp 1 27 (by kernel_rfl)
        obtain ⟨s_31, A_31, n_31, c_31, e31, ⟨p31, k31⟩⟩ : IsC ((cont zs : Int) * (cont zs' : Int)) 4 (a.eval (.tmp 31)) w1 := hp 5 31 (by kernel_rfl)
        refine hop_call (wanted_none rfl) rfl (args := #[(.agg #[.bool s_27, .slice A_27 n_27 c_27]), (.agg #[.bool s_31, .slice A_31 n_31 c_31])]) (by simp only [List.map_toArray, List.map_cons, List.map_nil, eval_const, e27, e31]) (ent7 (by kernel_rfl) _ _) (zsame_yes p27.zv p31.zv (by omega) (by omega) HCM.out) ?_
        rintro e w2 ⟨rfl, Bq⟩
        exact ⟨_, rfl, hKq _ _ rfl Bq⟩
      · intro a w1 hB ho hp Kq hKq
        have e32 : a.eval (.tmp 32) = (.bool true) := hp 6 32 (by kernel_rfl)
        refine hop_val (wanted_none rfl) ?_ (hKq (.bool false) _ rfl (Below.refl _ _))
        unfold execOp; simp only [eval_const, e32]; simp [go_sem]
      · intro a w1 hB ho hp Kq hKq
        have e33 : a.eval (.tmp 33) = (.bool false) := hp 7 33 (by kernel_rfl)
        refine hop_val (wanted_none rfl) ?_ (hKq (.bool false) _ rfl (Below.refl _ _))
        unfold execOp; simp only [eval_const, e33]; simp [go_sem]
      · intro a w1 hB ho hp Kq hKq
        have e5 : a.eval (.tmp 5) = (.pointer (some ⟨w22.heap.size, 0, none⟩)) := ho 5 (by kernel_rfl)
        obtain ⟨u1, u2, u3, u4, u5⟩ := H_c.out.below hB
        exact hop_load (wanted_at rfl (j := 8) (d := 34) (b := false) (by kernel_rfl) (hp 8 34 (by kernel_rfl))) rfl e5 (run_ldz u1 u2) (hKq _ _ rfl (Below.refl _ _))
      · intro a w1 hB ho hp Kq hKq
        have e35 : a.eval (.tmp 35) = (.agg #[.bool s21, .slice A21 n21 c21]) := hp 9 35 (by kernel_rfl)
        refine hop_call (wanted_at rfl (j := 8) (d := 34) (b := false) (by kernel_rfl) (hp 8 34 (by kernel_rfl))) rfl (args := #[(.agg #[.bool s21, .slice A21 n21 c21])]) (by simp only [List.map_toArray, List.map_cons, List.map_nil, eval_const, e35]) (ent7 (by kernel_rfl) _ _) (zsign_v (hc.below hB).zv (by omega) HSG.out) ?_
        rintro e w2 ⟨rfl, Bq⟩
        exact ⟨_, rfl, hKq _ _ rfl Bq⟩
      · intro a w1 hB ho hp Kq hKq
        have e36 : a.eval (.tmp 36) = (.int .i64 sg0) := hp 10 36 (by kernel_rfl)
        refine hop_val (wanted_at rfl (j := 8) (d := 34) (b := false) (by kernel_rfl) (hp 8 34 (by kernel_rfl))) ?_ (hKq (.bool false) _ rfl (Below.refl _ _))
        unfold execOp; simp only [eval_const, e36]; simp [go_sem, hsg0]
      · intro a w1 hB ho hp Kq hKq
        have e34 : a.eval (.tmp 34) = (.bool false) := hp 8 34 (by kernel_rfl)
        have e37 : a.eval (.tmp 37) = (.bool false) := hp 11 37 (by kernel_rfl)
        refine hop_val (wanted_none rfl) ?_ (hKq (.bool false) _ rfl (Below.refl _ _))
        unfold execOp; simp only [eval_const, e34, e37]; simp [go_sem]
    intro w25 B25
    refine EndAll.one rfl fun vv hv => ?_
    obtain rfl : vv = (.slice A24 n24 c24) := hv
    refine EndAll.one rfl fun vv hv => ?_
    obtain ⟨s26, A26, n26, c26, rfl, ⟨p26, k26⟩⟩ : IsC (cont (mulN zs zs') : Int) 20 vv w25 := hv
    refine EndAll.one rfl fun vv hv => ?_
    obtain rfl : vv = (.agg #[.bool s21, .slice A21 n21 c21]) := hv
    refine EndAll.one rfl fun vv hv => ?_
    obtain rfl : vv = (.slice A1 n1 c1) := hv
    refine EndAll.one rfl fun vv hv => ?_
    obtain ⟨s27, A27, n27, c27, rfl, ⟨p27, k27⟩⟩ : IsC (cont zs' : Int) 2 vv w25 := hv
    refine EndAll.one rfl fun vv hv => ?_
    obtain ⟨s28, A28, n28, c28, rfl, ⟨p28, k28⟩⟩ : IsC ((cont zs : Int) * (cont zs' : Int)) 4 vv w25 := hv
    refine EndAll.one rfl fun vv hv => ?_
    obtain rfl : vv = (.bool true) := hv
    refine EndAll.one rfl fun vv hv => ?_
    obtain rfl : vv = (.bool false) := hv
    refine EndAll.one rfl fun vv hv => ?_
    obtain rfl : vv = (.bool false) := hv
    refine EndAll.one rfl fun vv hv => ?_
    obtain rfl : vv = (.agg #[.bool s21, .slice A21 n21 c21]) := hv
    refine EndAll.one rfl fun vv hv => ?_
    obtain rfl : vv = (.int .i64 sg0) := hv
    refine EndAll.one rfl fun vv hv => ?_
    obtain rfl : vv = (.bool false) := hv
    refine EndAll.one rfl fun vv hv => ?_
    obtain rfl : vv = (.bool false) := hv
    refine EndAll.nil (l := []) rfl ?_
    simp only [Act.put, List.setIfInBounds_toArray, List.set_cons_zero, List.set_cons_succ]
    replace H_c := Lib.hid (H_c.out.below B25)
    replace hc := hc.below B25
    replace hp := hp.below B25
    replace hm := hm.below B25
    replace hW := hW.trans (B25.mono hW.size)
    clear p26 p27 p28
    clear B25
    clear hm
    obtain ⟨c1, c2, c3, c4, c5⟩ := H_c.out
    go_wp2_with fail
    clear c1 c2 c3 c4 c5
    refine (zdeg_v (HA0.out.below hW) (by omega)).mono ?_
    rintro e wd ⟨rfl, Bd⟩
    replace H_c := Lib.hid (H_c.out.below Bd)
    replace hc := hc.below Bd
    replace hp := hp.below Bd
    replace hW := hW.trans (Bd.mono hW.size)
    clear Bd
    rw [hpl]
    rcases Nat.eq_zero_or_pos n22 with h0 | h0
    · have hz : slZ zs = 0 := by omega
      have hc0 : ((cont zs : Nat) : Int) = 0 := by
        have h1 : nrz zs = [] := List.length_eq_zero_iff.1 (by rw [nrz_length]; exact hz)
        rw [cont_zero_iff.2 (nrz_nil_iff.1 h1)]; rfl
      rw [hc0] at hc
      have hn0 : (n22 : Int) = 0 := by omega
      have hu : (n22 : Int) - 1 < 0 := by omega
      clear hz hpl h0
      obtain ⟨c1, c2, c3, c4, c5⟩ := H_c.out
      go_wp2_with fail
      clear c1 c2 c3 c4 c5
      refine (zsign_v hc.zv (by omega) (show (0 : Int).sign = 0 by rfl)).mono ?_
      rintro e w9 ⟨rfl, B9⟩
      replace hW := hW.trans (B9.mono hW.size)
      clear hc hp H_c B9
      go_wp2_with fail
      exact bodyPost_ret (v := .bool true) (by simp [results, Tryz.results6, go_sem, hn0]) rfl ⟨rfl, hW⟩
    · skip
      have hu : ¬ ((n22 : Int) - 1 < 0) := by omega
      have hz : slZ zs ≠ 0 := by omega
      have hPT := Lib.hid (prim_top hz)
      have hPC := Lib.hid (prim_cont hz)
      have hPN := Lib.hid (pm_prim zs).nz
      have hPL := Lib.hid hpl
      clear hz
      obtain ⟨c1, c2, c3, c4, c5⟩ := H_c.out
      go_wp2_with fail
      clear c1 c2 c3 c4 c5
      refine (zscale_v hp hc.zv (by omega) (by omega) (by omega)).mono ?_
      rintro e w29 ⟨A29, n29, c29, rfl, hs, B29⟩
      replace H_c := Lib.hid (H_c.out.below B29)
      replace hc := hc.below B29
      replace hp := hp.below B29
      replace hW := hW.trans (B29.mono hW.size)
      clear B29
      have hsl : n29 ≤ 8 := by have h1 := hs.len; rw [nrz_length] at h1; have h2 := slZ_le (mulC (cont zs : Int) (prim zs)); rw [mulC_length, prim_length] at h2; omega
      obtain ⟨c1, c2, c3, c4, c5⟩ := H_c.out
      go_wp2_with fail
      clear c1 c2 c3 c4 c5
      refine (zof_v (-1) (by omega) (by omega) _).mono ?_
      rintro e w30 ⟨s30, A30, n30, c30, rfl, h1, k30, B30⟩
      replace H_c := Lib.hid (H_c.out.below B30)
      replace hc := hc.below B30
      replace hp := hp.below B30
      replace hs := hs.below B30
      replace hW := hW.trans (B30.mono hW.size)
      clear B30
      obtain ⟨c1, c2, c3, c4, c5⟩ := H_c.out
      go_wp2_with fail
      clear c1 c2 c3 c4 c5
      refine (zscale_v hs h1.zv (by omega) (by omega) (by omega)).mono ?_
      rintro e w31 ⟨A31, n31, c31, rfl, ho, B31⟩
      replace H_c := Lib.hid (H_c.out.below B31)
      replace hc := hc.below B31
      replace hp := hp.below B31
      replace hs := hs.below B31
      replace h1 := h1.below B31
      replace hW := hW.trans (B31.mono hW.size)
      clear B31
      have hol : n31 ≤ 8 := by have h9 := ho.len; rw [nrz_length] at h9; have h2 := slZ_le (mulC (-1) (nrz (mulC (cont zs : Int) (prim zs)))); rw [mulC_length, nrz_length] at h2; have h3 := slZ_le (mulC (cont zs : Int) (prim zs)); rw [mulC_length, prim_length] at h3; omega
      clear hc h1
      obtain ⟨c1, c2, c3, c4, c5⟩ := H_c.out
      go_wp2_with fail
      clear c1 c2 c3 c4 c5
      refine (rnormal10_v hp hPN.out (by omega)).mono ?_
      rintro e we ⟨rfl, Be⟩
      replace H_c := Lib.hid (H_c.out.below Be)
      replace hp := hp.below Be
      replace hs := hs.below Be
      replace ho := ho.below Be
      replace hW := hW.trans (Be.mono hW.size)
      clear Be
      obtain ⟨ad, rfl, hab, s, A', m, d, x1, x2, ze, hm⟩ := hp.at (j := n22 - 1) (by omega)
      obtain ⟨j1, hj1⟩ : ∃ q, n22 - 1 = q := ⟨_, rfl⟩
      have hji : (n22 : Int) - 1 = (j1 : Int) := by omega
      have u1 : (0 : Int) ≤ (j1 : Int) := by omega
      have u2 : (j1 : Int) < (n22 : Int) := by omega
      have hj8 : j1 ≤ 8 := by omega
      rw [hj1] at x1 x2 ze
      obtain ⟨y, hy⟩ : ∃ y, ith (prim zs) j1 = y := ⟨_, rfl⟩
      rw [hy] at ze
      have hy1 : y.sign = 1 := Int.sign_eq_one_of_pos (by have h1 := hPT.out; rw [hPL.out, hj1, hy] at h1; exact h1)
      have HY1 := Lib.hid hy1
      have hv := ze.1
      clear ze hy hab hj1 hy1 hpl
      obtain ⟨c1, c2, c3, c4, c5⟩ := H_c.out
      go_wp2_with fail
      clear c1 c2 c3 c4 c5
      refine (zsign_v hv (by omega) HY1.out).mono ?_
      rintro e wf ⟨rfl, Bf⟩
      replace H_c := Lib.hid (H_c.out.below Bf)
      replace hp := hp.below Bf
      replace hs := hs.below Bf
      replace ho := ho.below Bf
      replace hv := hv.below Bf
      replace hW := hW.trans (Bf.mono hW.size)
      clear Bf x1 x2 hv
      obtain ⟨c1, c2, c3, c4, c5⟩ := H_c.out
      go_wp2_with fail
      clear c1 c2 c3 c4 c5
      refine (zcontent_v hp (by omega) (by omega)).mono ?_
      rintro e w32 ⟨s32, A32, n32, c32, rfl, hq, k32, B32⟩
      replace H_c := Lib.hid (H_c.out.below B32)
      replace hp := hp.below B32
      replace hs := hs.below B32
      replace ho := ho.below B32
      replace hW := hW.trans (B32.mono hW.size)
      clear B32
      rw [hPC.out] at hq
      obtain ⟨c1, c2, c3, c4, c5⟩ := H_c.out
      go_wp2_with fail
      clear c1 c2 c3 c4 c5
      refine (zof_v 1 (by omega) (by omega) _).mono ?_
      rintro e w33 ⟨s33, A33, n33, c33, rfl, hr, k33, B33⟩
      replace H_c := Lib.hid (H_c.out.below B33)
      replace hp := hp.below B33
      replace hs := hs.below B33
      replace ho := ho.below B33
      replace hq := hq.below B33
      replace hW := hW.trans (B33.mono hW.size)
      clear B33
      obtain ⟨c1, c2, c3, c4, c5⟩ := H_c.out
      go_wp2_with fail
      clear c1 c2 c3 c4 c5
      refine (zsame_yes hq.zv hr.zv (by omega) (by omega) (by rfl)).mono ?_
      rintro e wg ⟨rfl, Bg⟩
      replace H_c := Lib.hid (H_c.out.below Bg)
      replace hp := hp.below Bg
      replace hs := hs.below Bg
      replace ho := ho.below Bg
      replace hq := hq.below Bg
      replace hr := hr.below Bg
      replace hW := hW.trans (Bg.mono hW.size)
      clear Bg
      clear hq hr
      obtain ⟨b1, hb1⟩ : ∃ b1, decide (nrz (nrz (mulC (cont zs : Int) (prim zs))) = nrz zs) = b1 := ⟨_, rfl⟩
      have HB1 := Lib.hid hb1
      clear hb1
      obtain ⟨c1, c2, c3, c4, c5⟩ := H_c.out
      go_wp2_with fail
      clear c1 c2 c3 c4 c5
      refine (rsame10_v hs (HA0.out.below hW) (by omega) (by omega) (by omega) (by omega) HB1.out).mono ?_
      rintro e wh ⟨rfl, Bh⟩
      replace H_c := Lib.hid (H_c.out.below Bh)
      replace hp := hp.below Bh
      replace hs := hs.below Bh
      replace ho := ho.below Bh
      replace hW := hW.trans (Bh.mono hW.size)
      clear Bh
      cases b1
      · have hno : prc zs = -(cont zs : Int) := (prc_two zs).resolve_left fun e => by have h1 := of_decide_eq_false HB1.out; exact h1 (back_yes e)
        have HB2 : Hid (decide (nrz (nrz (mulC (-1) (nrz (mulC (cont zs : Int) (prim zs))))) = nrz zs) = true) := Lib.hid (decide_eq_true (back_no hno))
        clear hno
        obtain ⟨c1, c2, c3, c4, c5⟩ := H_c.out
        go_wp2_with fail
        clear c1 c2 c3 c4 c5
        refine (rsame10_v ho (HA0.out.below hW) (by omega) (by omega) (by omega) (by omega) HB2.out).mono ?_
        rintro e wi ⟨rfl, Bi⟩
        replace hW := hW.trans (Bi.mono hW.size)
        clear ho hs hp H_c Bi
        go_wp2_with fail
        exact bodyPost_ret (v := .bool true) (by simp [results, Tryz.results6, go_sem]) rfl ⟨rfl, hW⟩
      · clear HB1
        obtain ⟨c1, c2, c3, c4, c5⟩ := H_c.out
        go_wp2_with fail
        clear c1 c2 c3 c4 c5
        exact bodyPost_ret (v := .bool true) (by simp [results, Tryz.results6, go_sem]) rfl ⟨rfl, hW⟩
end Go.Proofs.YtddbhhedjipjkaaGreatDoor
