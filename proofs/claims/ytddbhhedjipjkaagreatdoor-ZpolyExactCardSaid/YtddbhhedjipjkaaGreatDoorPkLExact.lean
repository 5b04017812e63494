/-
  LExact
-/
import Derived.Test.YtddbhhedjipjkaaGreatDoorPk20
import Derived.Test.YtddbhhedjipjkaaGreatDoorPk41
import Derived.Test.YtddbhhedjipjkaaGreatDoorPk19
import Derived.Test.YtddbhhedjipjkaaGreatDoorPk42

/-! The walk of ZpolyExact. -/
namespace Go.Proofs.YtddbhhedjipjkaaGreatDoor
open Go.RowKit
set_option linter.unusedVariables false
set_option linter.unusedSimpArgs false

theorem pv_mulp2 (a b : List Int) (x : Int) : pv (mkz (a.length + b.length) fun i => cmz a b i (i + 1)) x = pv a x * pv b x := by
  rw [← pv_nrz, mul_places, pv_mulN]
theorem nz_of_sl {l : List Int} (h : slZ l ≠ 0) : ¬ ∀ i, ith l i = 0 := fun e => h (by
  have h1 := nrz_nil_iff.2 e
  have h2 := nrz_length l
  rw [h1] at h2; exact h2.symm)
theorem ex_is {a b Q : List Int} (nq : Nz' Q) (hb : slZ b ≠ 0) (e : ∀ x, pv (mulN a b) x = pv Q x * pv b x) : nrz a = Q :=
  uniqP (nz_nrz a) nq fun x => by
    rw [pv_nrz]
    exact zcancel (ply_pv a) (ply_pv Q) (nz_of_sl hb) (fun x => by rw [← e, pv_mulN]) x
theorem ex_dv (a b : List Int) : Zdv (pv b) (pv (mulN a b)) := ⟨pv a, ply_pv a, fun x => pv_mulN a b x⟩
theorem ex_yes {c b Q : List Int} (e : ∀ x, pv c x = pv Q x * pv b x) : nrz (mkz (Q.length + b.length) fun i => cmz Q b i (i + 1)) = nrz c := nrz_eq fun x => by rw [pv_mulp2, ← e]
theorem ex_no {c b Q : List Int} (hb : slZ b ≠ 0) (hno : ¬ Zdv (pv b) (pv c)) (h : PsSpec c b Q []) : (((cont c).gcd (cont b) : Nat) : Int) ≠ (cont b : Int) := fun e => hno (by
  have hd : cont b ∣ cont c := by
    have h1 : (cont c).gcd (cont b) = cont b := by omega
    rw [← h1]; exact Nat.gcd_dvd_left _ _
  have hl : ith b (slZ b - 1) ≠ 0 := slZ_top (by omega)
  exact zdv_frac (fun e0 => nz_of_sl hb (cont_zero_iff.1 e0)) (m := ith b (slZ b - 1) ^ (slZ c + 1 - slZ b)) (Int.pow_ne_zero hl) ⟨pv Q, ply_pv Q, fun x => (h.eq x).trans (by rw [pv_nil]; simp)⟩ hd)
set_option maxRecDepth 100000 in
set_option maxHeartbeats 1000000 in
/-- ZpolyExact's walk. -/
theorem exact10_law {A0 : Option Addr} {n0 c0 : Nat} {R0 : List Zr} {A1 : Option Addr} {n1 c1 : Nat} {R1 : List Zr} {A2 : Option Addr} {n2 c2 : Nat} {R2 : List Zr} {W : World} (h0 : RL W A0 n0 c0 R0) (h1 : RL W A1 n1 c1 R1) (h2 : RL W A2 n2 c2 R2) (hT : TabHas W) : Calls Tryz.prog 5 #[.slice A0 n0 c0, .slice A1 n1 c1, .slice A2 n2 c2] W (TruePost W) := by
  have HT := Lib.hid hT
  have HX0 := Lib.hid h0
  have HX1 := Lib.hid h1
  have HX2 := Lib.hid h2
  clear h0 h1 h2 hT
  have HF : ∀ (b : Bool) (w1 : World), Below W.heap.size W w1 → (fwb R0 8 2 && fwb R1 8 2) = b → Calls Tryz.prog 10 #[.slice A0 n0 c0, .slice A1 n1 c1, .int .i64 8, .int .i64 2] w1 fun e w' => e = .returned (.bool b) ∧ Below w1.heap.size w1 w' := fun b w1 hB hb => by
    have := few10_v (N := 8) (W := 2) (HX0.out.below hB) (HX1.out.below hB) (by omega) (by omega) hb
    rwa [(show ((8 : Nat) : Int) = 8 from rfl), (show ((2 : Nat) : Int) = 2 from rfl)] at this
  have HFH := Lib.hid HF
  clear HF
  have HG : ∀ (b : Bool) (w1 : World), Below W.heap.size W w1 → fwb R2 8 2 = b → Calls Tryz.prog 30 #[.slice A2 n2 c2, .int .i64 8, .int .i64 2] w1 fun e w' => e = .returned (.bool b) ∧ Below w1.heap.size w1 w' := fun b w1 hB hb => by
    have := rfew10_v (N := 8) (W := 2) (HX2.out.below hB) (by omega) (by omega) hb
    rwa [(show ((8 : Nat) : Int) = 8 from rfl), (show ((2 : Nat) : Int) = 2 from rfl)] at this
  have HGH := Lib.hid HG
  clear HG
  obtain ⟨t, ht⟩ : ∃ t, (fwb R0 8 2 && fwb R1 8 2) = t := ⟨_, rfl⟩
  have Ht := Lib.hid ht
  clear ht
  go_enter Tryz.func5, Tryz.ntmps5
  go_wp2_with fail
  refine (awake10_v HT.out).mono ?_
  rintro e w1 ⟨rfl, B1⟩
  have hW : Below W.heap.size W w1 := B1
  clear B1
  go_wp2_with fail
  refine (HFH.out _ _ hW Ht.out).mono ?_
  clear HFH
  rintro e w2 ⟨rfl, B2⟩
  replace hW := hW.trans (B2.mono hW.size)
  clear B2
  cases t
  · go_wp2_with fail
    refine (awake10_v (HT.out.below hW)).mono ?_
    rintro e w3 ⟨rfl, B3⟩
    go_wp2_with fail
    exact bodyPost_ret (v := .bool true) (by simp [results, Tryz.results5, go_sem]) rfl ⟨rfl, hW.trans (B3.mono hW.size)⟩
  · skip
    obtain ⟨t', ht'⟩ : ∃ t, fwb R2 8 2 = t := ⟨_, rfl⟩
    have Ht' := Lib.hid ht'
    clear ht'
    go_wp2_with fail
    refine (HGH.out _ _ hW Ht'.out).mono ?_
    clear HGH
    rintro e w2b ⟨rfl, B2b⟩
    replace hW := hW.trans (B2b.mono hW.size)
    clear B2b
    cases t'
    · go_wp2_with fail
      refine (awake10_v (HT.out.below hW)).mono ?_
      rintro e w3 ⟨rfl, B3⟩
      go_wp2_with fail
      exact bodyPost_ret (v := .bool true) (by simp [results, Tryz.results5, go_sem]) rfl ⟨rfl, hW.trans (B3.mono hW.size)⟩
    · skip
      have ht := Ht.out
      rw [Bool.and_eq_true] at ht
      have f1 := of_fwb ht.1
      have f2 := of_fwb ht.2
      obtain ⟨zs, hzs⟩ : ∃ zs, nums R0 = zs := ⟨_, rfl⟩
      obtain ⟨zs', hzs'⟩ : ∃ zs, nums R1 = zs := ⟨_, rfl⟩
      have la : n0 ≤ 8 := by have := f1.1; rw [HX0.out.len] at this; exact this
      have lb : n1 ≤ 8 := by have := f2.1; rw [HX1.out.len] at this; exact this
      have hza := HX0.out.zl (k := 2) fun j hj => fw_all f1 (by omega) j (by rw [HX0.out.len]; exact hj)
      have hzb := HX1.out.zl (k := 2) fun j hj => fw_all f2 (by omega) j (by rw [HX1.out.len]; exact hj)
      rw [hzs] at hza
      rw [hzs'] at hzb
      have HA0 := Lib.hid hza
      have HB0 := Lib.hid hzb
      have f3 := of_fwb Ht'.out
      obtain ⟨zc, hzc'⟩ : ∃ zs, nums R2 = zs := ⟨_, rfl⟩
      have lc : n2 ≤ 8 := by have := f3.1; rw [HX2.out.len] at this; exact this
      have hzc := HX2.out.zl (k := 2) fun j hj => fw_all f3 (by omega) j (by rw [HX2.out.len]; exact hj)
      rw [hzc'] at hzc
      have HC0 := Lib.hid hzc
      clear hzc hzc' f3 Ht' HX2
      clear ht f1 f2 hzs hzs' hza hzb Ht HX0 HX1
      have hml : (mulN zs zs').length ≤ 16 := by
        have h2 : (mulN zs zs').length ≤ zs.length + zs'.length := by unfold mulN; rw [nrz_length]; exact Nat.le_trans (slZ_le _) (mulI_short _ _)
        rw [HA0.out.len, HB0.out.len] at h2; omega
      have HLN := Lib.hid HB0.out.len
      have HLC := Lib.hid HC0.out.len
      go_wp2_with fail
      refine (zmulp_v (KK := 20) (HA0.out.below hW) (HB0.out.below hW) (by omega) (by omega) (by omega) (by omega)).mono ?_
      rintro e w21 ⟨A21, n21, c21, rfl, hm, B21⟩
      replace hW := hW.trans (B21.mono hW.size)
      clear B21
      have hmn : n21 ≤ 16 := by rw [← hm.len]; exact hml
      have HE1 := Lib.hid (zexactp_v (KK := 71) hm (HB0.out.below hW) (by have := Nat.mul_le_mul_right (2 + 1) (show n21 + 1 ≤ 17 by omega); omega) (by omega) (by omega) (by omega) (by omega))
      clear hm hml
      go_wp2_with fail
      refine HE1.out.mono ?_
      clear HE1
      rintro e w3 h3
      rcases h3 with ⟨Q1, Aq, nq, cq, rfl, hQ, nQ, hb0, hql, he, B3⟩ | ⟨rfl, h9, B3⟩
      · replace hW := hW.trans (B3.mono hW.size)
        have HIS := Lib.hid (ex_is nQ hb0 he)
        have HNQ := Lib.hid nQ
        have hqb : nq ≤ 100 := by
          have h2 : (mulN zs zs').length ≤ zs.length + zs'.length := by unfold mulN; rw [nrz_length]; exact Nat.le_trans (slZ_le _) (mulI_short _ _)
          rw [HA0.out.len, HB0.out.len] at h2; omega
        have hsl : ¬ ((slZ zs' : Int) - 1 < 0) := by omega
        clear nQ he hql B3
        have HE2 := Lib.hid (zexactp_v (KK := 29) (HC0.out.below hW) (HB0.out.below hW) (by have := Nat.mul_le_mul_right (2 + 1) (show n2 + 1 ≤ 9 by omega); omega) (by omega) (by omega) (by omega) (by omega))
        go_wp2_with fail
        refine HE2.out.mono ?_
        clear HE2
        rintro e w4 h4
        rcases h4 with ⟨P1, Ap, np, cp, rfl, hP, nP, -, hpl, hpe, B4⟩ | ⟨rfl, h9, B4⟩
        · replace hW := hW.trans (B4.mono hW.size)
          replace hQ := hQ.below B4
          clear B4
          have HPE := Lib.hid (ex_yes hpe)
          have HNP := Lib.hid nP
          have hpb : np ≤ 8 := by rw [HLC.out] at hpl; omega
          clear hpe nP hpl
          go_wp2_with fail
          refine (zdeg_v (HB0.out.below hW) (by omega)).mono ?_
          rintro e wd ⟨rfl, Bd⟩
          replace hQ := hQ.below Bd
          replace hP := hP.below Bd
          replace hW := hW.trans (Bd.mono hW.size)
          clear Bd
          go_wp2_with fail
          refine (ris10_v hQ (HA0.out.below hW) HNQ.out HIS.out (by omega) (by omega) (by omega) (by omega)).mono ?_
          rintro e we ⟨rfl, Be⟩
          replace hQ := hQ.below Be
          replace hP := hP.below Be
          replace hW := hW.trans (Be.mono hW.size)
          clear Be hQ
          go_wp2_with fail
          refine (rnormal10_v hP HNP.out (by omega)).mono ?_
          rintro e wf ⟨rfl, Bf⟩
          replace hP := hP.below Bf
          replace hW := hW.trans (Bf.mono hW.size)
          clear Bf
          go_wp2_with fail
          refine (rmul10_v hP (HB0.out.below hW) (by omega) (by omega) (by omega) (by omega)).mono ?_
          rintro e w22 ⟨A22, n22, c22, rfl, hm, B22⟩
          replace hP := hP.below B22
          replace hW := hW.trans (B22.mono hW.size)
          clear B22
          have hmb : n22 ≤ 16 := by have h1 := hm.len; rw [mkz_length, hP.len, HLN.out] at h1; omega
          have HSE := Lib.hid (decide_eq_true HPE.out)
          go_wp2_with fail
          refine (rsame10_v hm (HC0.out.below hW) (by omega) (by omega) (by omega) (by omega) HSE.out).mono ?_
          rintro e wg ⟨rfl, Bg⟩
          clear hm hP
          go_wp2_with fail
          exact bodyPost_ret (v := .bool true) (by simp [results, Tryz.results5, go_sem]) rfl ⟨rfl, hW.trans (Bg.mono hW.size)⟩
        · replace hW := hW.trans (B4.mono hW.size)
          replace hQ := hQ.below B4
          clear B4
          have hno : ¬ Zdv (pv zs') (pv zc) := h9.resolve_left hb0
          have HNO := Lib.hid hno
          clear h9 hno
          go_wp2_with fail
          refine (zdeg_v (HB0.out.below hW) (by omega)).mono ?_
          rintro e wd ⟨rfl, Bd⟩
          replace hQ := hQ.below Bd
          replace hW := hW.trans (Bd.mono hW.size)
          clear Bd
          go_wp2_with fail
          refine (ris10_v hQ (HA0.out.below hW) HNQ.out HIS.out (by omega) (by omega) (by omega) (by omega)).mono ?_
          rintro e we ⟨rfl, Be⟩
          replace hQ := hQ.below Be
          replace hW := hW.trans (Be.mono hW.size)
          clear Be hQ
          have z1 := slZ_le zc
          rw [HLC.out] at z1
          have HPS := Lib.hid (zpseudo_v (KK := 49) (HC0.out.below hW) (HB0.out.below hW) (by have := Nat.mul_le_mul_right (2 * 2 + 1) (show slZ zc + 1 - slZ zs' ≤ 9 by omega); omega) (by omega) (by omega) (by omega) (by omega))
          clear z1
          go_wp2_with fail
          refine HPS.out.mono ?_
          clear HPS
          rintro e wf (⟨Q2, R2, A2', n2', c2', Ar, nr, cr, rfl, hQ2, hR, h9, -, hps, Bf⟩ | ⟨rfl, h9, Bf⟩)
          · replace hW := hW.trans (Bf.mono hW.size)
            clear hQ2 Bf
            rcases Nat.eq_zero_or_pos nr with h0 | h0
            · have hRn : R2 = [] := List.length_eq_zero_iff.1 (hR.len.trans h0)
              rw [hRn] at hps
              have hne := ex_no hb0 HNO.out hps
              have HNE := Lib.hid (decide_eq_false hne)
              subst h0
              clear hne hps hRn hR
              go_wp2_with fail
              refine (zcontent_v (HC0.out.below hW) (by omega) (by omega)).mono ?_
              rintro e w22 ⟨s22, A22, n22, c22, rfl, hc1, k22, B22⟩
              replace hW := hW.trans (B22.mono hW.size)
              clear B22
              go_wp2_with fail
              refine (zcontent_v (HB0.out.below hW) (by omega) (by omega)).mono ?_
              rintro e w23 ⟨s23, A23, n23, c23, rfl, hc2, k23, B23⟩
              replace hc1 := hc1.below B23
              replace hW := hW.trans (B23.mono hW.size)
              clear B23
              go_wp2_with fail
              refine (zgcd_v hc1.zv hc2.zv (by omega) (by omega) (G := (((cont zc).gcd (cont zs') : Nat) : Int)) (by rw [Int.natAbs_natCast, Int.natAbs_natCast])).mono ?_
              rintro e w24 ⟨s24, A24, n24, c24, rfl, hg, k24, B24⟩
              replace hc1 := hc1.below B24
              replace hc2 := hc2.below B24
              replace hW := hW.trans (B24.mono hW.size)
              clear B24
              go_wp2_with fail
              refine (zcontent_v (HB0.out.below hW) (by omega) (by omega)).mono ?_
              rintro e w25 ⟨s25, A25, n25, c25, rfl, hc3, k25, B25⟩
              replace hc1 := hc1.below B25
              replace hc2 := hc2.below B25
              replace hg := hg.below B25
              replace hW := hW.trans (B25.mono hW.size)
              clear B25
              go_wp2_with fail
              refine (zsame_v hg.zv hc3.zv (by omega) (by omega) HNE.out).mono ?_
              rintro e wg ⟨rfl, Bg⟩
              clear hg hc1 hc2 hc3
              go_wp2_with fail
              exact bodyPost_ret (v := .bool true) (by simp [results, Tryz.results5, go_sem]) rfl ⟨rfl, hW.trans (Bg.mono hW.size)⟩
            · have hu : (0 : Int) < (nr : Int) := by omega
              clear hR hps
              go_wp2_with fail
              exact bodyPost_ret (v := .bool true) (by simp [results, Tryz.results5, go_sem]) rfl ⟨rfl, hW⟩
          · exact absurd h9 hb0
      · replace hW := hW.trans (B3.mono hW.size)
        have hb0 : slZ zs' = 0 := by
          rcases h9 with h | h
          · exact h
          · exact absurd (ex_dv zs zs') h
        have hsl : (slZ zs' : Int) - 1 < 0 := by omega
        clear h9 B3
        have HE2 := Lib.hid (zexactp_v (KK := 29) (HC0.out.below hW) (HB0.out.below hW) (by have := Nat.mul_le_mul_right (2 + 1) (show n2 + 1 ≤ 9 by omega); omega) (by omega) (by omega) (by omega) (by omega))
        go_wp2_with fail
        refine HE2.out.mono ?_
        clear HE2
        rintro e w4 h4
        rcases h4 with ⟨P1, Ap, np, cp, rfl, hP, nP, hbb, hpl, hpe, B4⟩ | ⟨rfl, h9, B4⟩
        · exact absurd hb0 hbb
        · replace hW := hW.trans (B4.mono hW.size)
          clear B4 h9
          go_wp2_with fail
          refine (zdeg_v (HB0.out.below hW) (by omega)).mono ?_
          rintro e wd ⟨rfl, Bd⟩
          replace hW := hW.trans (Bd.mono hW.size)
          go_wp2_with fail
          exact bodyPost_ret (v := .bool true) (by simp [results, Tryz.results5, go_sem]) rfl ⟨rfl, hW⟩
end Go.Proofs.YtddbhhedjipjkaaGreatDoor
