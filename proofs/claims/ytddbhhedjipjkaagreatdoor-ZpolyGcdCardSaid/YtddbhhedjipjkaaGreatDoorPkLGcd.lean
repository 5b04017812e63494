/-
  LGcd
-/
import Derived.Test.YtddbhhedjipjkaaGreatDoorPk20
import Derived.Test.YtddbhhedjipjkaaGreatDoorPk41
import Derived.Test.YtddbhhedjipjkaaGreatDoorPk19
import Derived.Test.YtddbhhedjipjkaaGreatDoorPk42

/-! The walk of ZpolyGcd. -/
namespace Go.Proofs.YtddbhhedjipjkaaGreatDoor
open Go.RowKit
set_option linter.unusedVariables false
set_option linter.unusedSimpArgs false

theorem gcz_len {a b g : List Int} (h : GcZ a b g) : g.length ≤ max (slZ a) (slZ b) := by
  by_cases ha : nrz a = []
  · by_cases hb : nrz b = []
    · have e := h.uniq (gcz_zero (nrz_nil_iff.1 ha) (nrz_nil_iff.1 hb))
      rw [e]; exact Nat.zero_le _
    · have := zdv_le h.nm (nz_nrz b) hb (h.db.congr fun x => pv_nrz b x)
      rw [nrz_length] at this; omega
  · have := zdv_le h.nm (nz_nrz a) ha (h.da.congr fun x => pv_nrz a x)
    rw [nrz_length] at this; omega
theorem gcz_prod {a b c g h : List Int} (hg : GcZ a b g) (hh : GcZ (mulN a c) (mulN b c) h) (g0 : g ≠ []) : nrz h = nrz (mulN g c) ∨ nrz h = nrz (nrz (mulC (-1) (mulN g c))) := by
  have h1 : GcZ (mulI a (nrz c)) (mulI b (nrz c)) h := hh.congr (fun x => by rw [pv_mulI, pv_nrz, pv_mulN]) (fun x => by rw [pv_mulI, pv_nrz, pv_mulN])
  have e1 : ∀ x, pv (nrz (mulI g (nrz c))) x = pv (mulN g c) x := fun x => by rw [pv_nrz, pv_mulI, pv_nrz, pv_mulN]
  rcases gcz_mul hg h1 g0 (nz_nrz c) with e | e
  · left; rw [e]; exact nrz_eq fun x => by rw [e1]
  · right; rw [e]; exact nrz_eq fun x => by rw [pv_mulC, e1, pv_nrz, pv_mulC]
theorem gcz_none {a b c h : List Int} (hg : GcZ a b []) (hh : GcZ (mulN a c) (mulN b c) h) : slZ a = 0 ∧ slZ b = 0 ∧ h = [] := by
  obtain ⟨h1, h2⟩ := hg.nil
  have z : ∀ l : List Int, (∀ i, ith l i = 0) → ∀ i, ith (mulN l c) i = 0 := fun l hl i => by
    have e := pv_inj (a := mulN l c) (b := []) (fun x => by rw [pv_mulN, pv_ext (a := l) (b := []) (fun i => by rw [hl, ith_nil]) x, pv_nil]; simp [pv_nil]) i
    rwa [ith_nil] at e
  exact ⟨by rw [← nrz_length, nrz_nil_iff.2 h1]; rfl, by rw [← nrz_length, nrz_nil_iff.2 h2]; rfl, hh.uniq (gcz_zero (z a h1) (z b h2))⟩
theorem mulN_len (a b : List Int) : (mulN a b).length ≤ a.length + b.length := by unfold mulN; rw [nrz_length]; exact Nat.le_trans (slZ_le _) (mulI_short _ _)
theorem eight_le {x m : Nat} (h : x ≤ m) : 8 ^ x ≤ 8 ^ m := Nat.pow_le_pow_right (by omega) h
theorem phi_six (x y : Nat) (hx : x ≤ 6) (hy : y ≤ 6) : phi (max 1 1) x y ≤ 3145728 := by
  have h1 := eight_le hx
  have h2 := eight_le hy
  have e : 8 ^ 6 = 262144 := by decide
  rw [e] at h1 h2
  unfold phi
  rw [show max 1 1 = 1 from rfl]
  split <;> omega
theorem phi_ten (x y : Nat) (hx : x ≤ 10) (hy : y ≤ 10) : phi (max 9 9) x y ≤ 64424509440 := by
  have h1 := eight_le hx
  have h2 := eight_le hy
  have e : 8 ^ 10 = 1073741824 := by decide
  rw [e] at h1 h2
  unfold phi
  rw [show max 9 9 = 9 from rfl]
  split <;> omega
set_option maxRecDepth 100000 in
set_option maxHeartbeats 1000000 in
/-- ZpolyGcd's walk. -/
theorem gcd10_law {A0 : Option Addr} {n0 c0 : Nat} {R0 : List Zr} {A1 : Option Addr} {n1 c1 : Nat} {R1 : List Zr} {A2 : Option Addr} {n2 c2 : Nat} {R2 : List Zr} {W : World} (h0 : RL W A0 n0 c0 R0) (h1 : RL W A1 n1 c1 R1) (h2 : RL W A2 n2 c2 R2) (hT : TabHas W) : Calls Tryz.prog 7 #[.slice A0 n0 c0, .slice A1 n1 c1, .slice A2 n2 c2] W (TruePost W) := by
  have HT := Lib.hid hT
  have HX0 := Lib.hid h0
  have HX1 := Lib.hid h1
  have HX2 := Lib.hid h2
  clear h0 h1 h2 hT
  have HF : ∀ (b : Bool) (w1 : World), Below W.heap.size W w1 → (fwb R0 6 1 && fwb R1 6 1) = b → Calls Tryz.prog 10 #[.slice A0 n0 c0, .slice A1 n1 c1, .int .i64 6, .int .i64 1] w1 fun e w' => e = .returned (.bool b) ∧ Below w1.heap.size w1 w' := fun b w1 hB hb => by
    have := few10_v (N := 6) (W := 1) (HX0.out.below hB) (HX1.out.below hB) (by omega) (by omega) hb
    rwa [(show ((6 : Nat) : Int) = 6 from rfl), (show ((1 : Nat) : Int) = 1 from rfl)] at this
  have HFH := Lib.hid HF
  clear HF
  have HG : ∀ (b : Bool) (w1 : World), Below W.heap.size W w1 → fwb R2 4 1 = b → Calls Tryz.prog 30 #[.slice A2 n2 c2, .int .i64 4, .int .i64 1] w1 fun e w' => e = .returned (.bool b) ∧ Below w1.heap.size w1 w' := fun b w1 hB hb => by
    have := rfew10_v (N := 4) (W := 1) (HX2.out.below hB) (by omega) (by omega) hb
    rwa [(show ((4 : Nat) : Int) = 4 from rfl), (show ((1 : Nat) : Int) = 1 from rfl)] at this
  have HGH := Lib.hid HG
  clear HG
  obtain ⟨t, ht⟩ : ∃ t, (fwb R0 6 1 && fwb R1 6 1) = t := ⟨_, rfl⟩
  have Ht := Lib.hid ht
  clear ht
  go_enter Tryz.func7, Tryz.ntmps7
  go_wp2_with fail
  refine (awake10_v HT.out).mono ?_
  rintro e w1 ⟨rfl, B1⟩
  have hW : Below W.heap.size W w1 := B1
  clear B1
  go_wp2_with fail
  refine (HFH.out _ _ hW Ht.out).mono ?_
  clear HFH
  rintro e w2 ⟨rfl, B2⟩
  replace hW := hW.trans (B2.mono hW.size)
  clear B2
  cases t
  · go_wp2_with fail
    refine (awake10_v (HT.out.below hW)).mono ?_
    rintro e w3 ⟨rfl, B3⟩
    go_wp2_with fail
    exact bodyPost_ret (v := .bool true) (by simp [results, Tryz.results7, go_sem]) rfl ⟨rfl, hW.trans (B3.mono hW.size)⟩
  · skip
    obtain ⟨t', ht'⟩ : ∃ t, fwb R2 4 1 = t := ⟨_, rfl⟩
    have Ht' := Lib.hid ht'
    clear ht'
    go_wp2_with fail
    refine (HGH.out _ _ hW Ht'.out).mono ?_
    clear HGH
    rintro e w2b ⟨rfl, B2b⟩
    replace hW := hW.trans (B2b.mono hW.size)
    clear B2b
    cases t'
    · go_wp2_with fail
      refine (awake10_v (HT.out.below hW)).mono ?_
      rintro e w3 ⟨rfl, B3⟩
      go_wp2_with fail
      exact bodyPost_ret (v := .bool true) (by simp [results, Tryz.results7, go_sem]) rfl ⟨rfl, hW.trans (B3.mono hW.size)⟩
    · skip
      have ht := Ht.out
      rw [Bool.and_eq_true] at ht
      have f1 := of_fwb ht.1
      have f2 := of_fwb ht.2
      obtain ⟨zs, hzs⟩ : ∃ zs, nums R0 = zs := ⟨_, rfl⟩
      obtain ⟨zs', hzs'⟩ : ∃ zs, nums R1 = zs := ⟨_, rfl⟩
      have la : n0 ≤ 6 := by have := f1.1; rw [HX0.out.len] at this; exact this
      have lb : n1 ≤ 6 := by have := f2.1; rw [HX1.out.len] at this; exact this
      have hza := HX0.out.zl (k := 1) fun j hj => fw_all f1 (by omega) j (by rw [HX0.out.len]; exact hj)
      have hzb := HX1.out.zl (k := 1) fun j hj => fw_all f2 (by omega) j (by rw [HX1.out.len]; exact hj)
      rw [hzs] at hza
      rw [hzs'] at hzb
      have HA0 := Lib.hid hza
      have HB0 := Lib.hid hzb
      have f3 := of_fwb Ht'.out
      obtain ⟨zc, hzc'⟩ : ∃ zs, nums R2 = zs := ⟨_, rfl⟩
      have lc : n2 ≤ 4 := by have := f3.1; rw [HX2.out.len] at this; exact this
      have hzc := HX2.out.zl (k := 1) fun j hj => fw_all f3 (by omega) j (by rw [HX2.out.len]; exact hj)
      rw [hzc'] at hzc
      have HC0 := Lib.hid hzc
      clear hzc hzc' f3 Ht' HX2
      clear ht f1 f2 hzs hzs' hza hzb Ht HX0 HX1
      have z1 := slZ_le zs
      rw [HA0.out.len] at z1
      have z2 := slZ_le zs'
      rw [HB0.out.len] at z2
      go_wp2_with fail
      refine (zgcdp_v (C := 3145728) (HA0.out.below hW) (HB0.out.below hW) (fun x y hx hy => phi_six x y (by omega) (by omega)) (by omega) (by omega) (by omega) (HT.out.below hW)).mono ?_
      rintro e w21 ⟨G1, A21, n21, c21, rfl, hg, hG1, B21⟩
      replace hW := hW.trans (B21.mono hW.size)
      clear B21
      have hgl : n21 ≤ 6 := by have h1 := hg.len; have h2 := gcz_len hG1; omega
      have HG1 := Lib.hid hG1
      obtain ⟨KG, kg1, kg2⟩ : ∃ K, max 1 1 + 3145728 ≤ K ∧ K ≤ 3145729 := ⟨_, Nat.le_refl _, by decide⟩
      obtain ⟨KH, kh1, kh2⟩ : ∃ K, max 9 9 + 64424509440 ≤ K ∧ K ≤ 64424509449 := ⟨_, Nat.le_refl _, by decide⟩
      replace hg := hg.mono kg1
      have kg3 := kg1
      clear hG1 kg1
      go_wp2_with fail
      refine (zmulp_v (KK := 9) (HA0.out.below hW) (HC0.out.below hW) (by omega) (by omega) (by omega) (by omega)).mono ?_
      rintro e w22 ⟨A22, n22, c22, rfl, hm1, B22⟩
      replace hg := hg.below B22
      replace hW := hW.trans (B22.mono hW.size)
      clear B22
      go_wp2_with fail
      refine (zmulp_v (KK := 9) (HB0.out.below hW) (HC0.out.below hW) (by omega) (by omega) (by omega) (by omega)).mono ?_
      rintro e w23 ⟨A23, n23, c23, rfl, hm2, B23⟩
      replace hg := hg.below B23
      replace hm1 := hm1.below B23
      replace hW := hW.trans (B23.mono hW.size)
      clear B23
      have hl1 : n22 ≤ 10 := by have h1 := hm1.len; have h2 := mulN_len zs zc; rw [HA0.out.len, HC0.out.len] at h2; omega
      have hl2 : n23 ≤ 10 := by have h1 := hm2.len; have h2 := mulN_len zs' zc; rw [HB0.out.len, HC0.out.len] at h2; omega
      go_wp2_with fail
      refine (zgcdp_v (C := 64424509440) hm1 hm2 (fun x y hx hy => phi_ten x y (by omega) (by omega)) (by omega) (by omega) (by omega) (HT.out.below hW)).mono ?_
      rintro e w24 ⟨H1, A24, n24, c24, rfl, hh, hH1, B24⟩
      replace hg := hg.below B24
      replace hm1 := hm1.below B24
      replace hm2 := hm2.below B24
      replace hW := hW.trans (B24.mono hW.size)
      clear B24
      have hhl : n24 ≤ 10 := by
        have h1 := hh.len; have h2 := gcz_len hH1; have h3 := slZ_le (mulN zs zc); have h4 := slZ_le (mulN zs' zc)
        rw [hm1.len] at h3; rw [hm2.len] at h4; omega
      have HH1 := Lib.hid hH1
      replace hh := hh.mono kh1
      clear hH1 kh1
      clear hm1 hm2
      go_wp2_with fail
      refine (rnormal10_v hg HG1.out.nm (by omega)).mono ?_
      rintro e wa ⟨rfl, Ba⟩
      replace hg := hg.below Ba
      replace hh := hh.below Ba
      replace hW := hW.trans (Ba.mono hW.size)
      clear Ba
      go_wp2_with fail
      refine (zgcdp_v (C := 3145728) (HB0.out.below hW) (HA0.out.below hW) (fun x y hx hy => phi_six x y (by omega) (by omega)) (by omega) (by omega) (by omega) (HT.out.below hW)).mono ?_
      rintro e w25 ⟨G2, A25, n25, c25, rfl, hg2, hG2, B25⟩
      replace hg := hg.below B25
      replace hh := hh.below B25
      replace hW := hW.trans (B25.mono hW.size)
      clear B25
      have hse := decide_eq_true (show nrz G1 = nrz G2 by rw [hG2.swap.uniq HG1.out])
      have HSE := Lib.hid hse
      replace hg2 := hg2.mono kg3
      clear hse hG2
      go_wp2_with fail
      refine (zsamep_v hg hg2 (by omega) (by omega) HSE.out).mono ?_
      rintro e wb ⟨rfl, Bb⟩
      replace hg := hg.below Bb
      replace hh := hh.below Bb
      replace hg2 := hg2.below Bb
      replace hW := hW.trans (Bb.mono hW.size)
      clear Bb hg2
      rcases Nat.eq_zero_or_pos n21 with h0 | h0
      · have hGn : G1 = [] := List.length_eq_zero_iff.1 (hg.len.trans h0)
        obtain ⟨e1, e2, e3⟩ := gcz_none (hGn ▸ HG1.out) HH1.out
        have hn4 : n24 = 0 := by rw [← hh.len, e3]; rfl
        have hd1 : (slZ zs : Int) - 1 < 0 := by omega
        have hd2 : (slZ zs' : Int) - 1 < 0 := by omega
        have hi0 : (n21 : Int) = 0 := by omega
        have hi4 : (n24 : Int) = 0 := by omega
        clear hGn e1 e2 e3 hg hh z1 z2 h0 hn4
        go_wp2_with fail
        refine (zdeg_v (HA0.out.below hW) (by omega)).mono ?_
        rintro e wc ⟨rfl, Bc⟩
        replace hW := hW.trans (Bc.mono hW.size)
        go_wp2_with fail
        refine (zdeg_v (HB0.out.below hW) (by omega)).mono ?_
        rintro e wd ⟨rfl, Bd⟩
        replace hW := hW.trans (Bd.mono hW.size)
        go_wp2_with fail
        exact bodyPost_ret (v := .bool true) (by simp [results, Tryz.results7, go_sem, hi4, hi0]) rfl ⟨rfl, hW⟩
      · have hne : ((n21 : Int) == 0) = false := by rw [beq_eq_false_iff_ne]; omega
        have hGne : G1 ≠ [] := fun e => by have h1 := hg.len; rw [e] at h1; simp at h1; omega
        have hsg : slZ G1 ≠ 0 := by rw [HG1.out.nm, hg.len]; omega
        have HSG := Lib.hid hsg
        have HGN := Lib.hid hGne
        clear hsg hGne z1 z2
        go_wp2_with fail
        refine (zexactp_v (KK := 30000000) (HA0.out.below hW) hg (by have := Nat.mul_le_mul (show n0 + 1 ≤ 7 by omega) (show KG + 1 ≤ 3145730 by omega); omega) (by omega) (by omega) (by omega) (by omega)).mono ?_
        rintro e wx (⟨Qx, Ax, nx, cx, rfl, -, -, -, -, -, Bx⟩ | ⟨rfl, h9, Bx⟩)
        case inr => exact absurd h9 (by
          intro h
          rcases h with h | h
          · exact HSG.out h
          · exact h HG1.out.da)
        replace hg := hg.below Bx
        replace hh := hh.below Bx
        replace hW := hW.trans (Bx.mono hW.size)
        clear Bx
        go_wp2_with fail
        refine (zexactp_v (KK := 30000000) (HB0.out.below hW) hg (by have := Nat.mul_le_mul (show n1 + 1 ≤ 7 by omega) (show KG + 1 ≤ 3145730 by omega); omega) (by omega) (by omega) (by omega) (by omega)).mono ?_
        rintro e wy (⟨Qy, Ay, ny, cy, rfl, -, -, -, -, -, By⟩ | ⟨rfl, h9, By⟩)
        case inr => exact absurd h9 (by
          intro h
          rcases h with h | h
          · exact HSG.out h
          · exact h HG1.out.db)
        replace hg := hg.below By
        replace hh := hh.below By
        replace hW := hW.trans (By.mono hW.size)
        clear By
        obtain ⟨KW, kw1, kw2⟩ : ∃ K, KG + 20 ≤ K ∧ K ≤ 3145760 := ⟨KG + 20, Nat.le_refl _, by omega⟩
        go_wp2_with fail
        refine (zmulp_v (KK := KW) hg (HC0.out.below hW) (by omega) (by omega) (by omega) (by omega)).mono ?_
        rintro e w26 ⟨A26, n26, c26, rfl, hw, B26⟩
        replace hg := hg.below B26
        replace hh := hh.below B26
        replace hW := hW.trans (B26.mono hW.size)
        clear B26
        have hwl : n26 ≤ 10 := by have h1 := hw.len; have h2 := mulN_len G1 zc; rw [hg.len, HC0.out.len] at h2; omega
        go_wp2_with fail
        refine (zof_v (-1) (by decide) (by decide) _).mono ?_
        rintro e w27 ⟨s27, A27, n27, c27, rfl, h1, k27, B27⟩
        replace hg := hg.below B27
        replace hh := hh.below B27
        replace hw := hw.below B27
        replace hW := hW.trans (B27.mono hW.size)
        clear B27
        go_wp2_with fail
        refine (zscale_v hw h1.zv (by omega) (by omega) (by omega)).mono ?_
        rintro e w28 ⟨A28, n28, c28, rfl, ho, B28⟩
        replace hg := hg.below B28
        replace hh := hh.below B28
        replace hw := hw.below B28
        replace h1 := h1.below B28
        replace hW := hW.trans (B28.mono hW.size)
        clear B28
        have hol : n28 ≤ 10 := by have h9 := ho.len; rw [nrz_length] at h9; have h2 := slZ_le (mulC (-1) (mulN G1 zc)); rw [mulC_length, hw.len] at h2; omega
        clear h1
        obtain ⟨ad, rfl, hab, s, A', m, d, x1, x2, ze, hm⟩ := hg.at (j := n21 - 1) (by omega)
        obtain ⟨j1, hj1⟩ : ∃ q, n21 - 1 = q := ⟨_, rfl⟩
        have hji : (n21 : Int) - 1 = (j1 : Int) := by omega
        have u1 : (0 : Int) ≤ (j1 : Int) := Int.natCast_nonneg _
        have u2 : (j1 : Int) < (n21 : Int) := by omega
        have hj8 : j1 ≤ 8 := by omega
        have hpos : 0 < ldz G1 := HG1.out.pos.resolve_left HGN.out
        unfold ldz at hpos
        rw [hg.len, hj1] at hpos
        rw [hj1] at x1 x2 ze
        obtain ⟨y, hy⟩ : ∃ y, ith G1 j1 = y := ⟨_, rfl⟩
        rw [hy] at ze hpos
        have hy1 : y.sign = 1 := Int.sign_eq_one_of_pos hpos
        have HY1 := Lib.hid hy1
        have hv := ze.1
        clear ze hy hab hj1 hy1 hpos
        go_wp2_with fail
        refine (zsign_v hv (by omega) HY1.out).mono ?_
        rintro e wf ⟨rfl, Bf⟩
        replace hg := hg.below Bf
        replace hh := hh.below Bf
        replace hw := hw.below Bf
        replace ho := ho.below Bf
        replace hv := hv.below Bf
        replace hW := hW.trans (Bf.mono hW.size)
        clear Bf x1 x2 hv
        obtain ⟨b1, hb1⟩ : ∃ b1, decide (nrz H1 = nrz (mulN G1 zc)) = b1 := ⟨_, rfl⟩
        have HB1 := Lib.hid hb1
        clear hb1
        go_wp2_with fail
        refine (zsamep_v hh hw (by omega) (by omega) HB1.out).mono ?_
        rintro e wg ⟨rfl, Bg⟩
        replace hg := hg.below Bg
        replace hh := hh.below Bg
        replace hw := hw.below Bg
        replace ho := ho.below Bg
        replace hW := hW.trans (Bg.mono hW.size)
        clear Bg
        cases b1
        · have hno := (gcz_prod HG1.out HH1.out HGN.out).resolve_left (of_decide_eq_false HB1.out)
          have HB2 := Lib.hid (decide_eq_true hno)
          clear hno
          go_wp2_with fail
          refine (zsamep_v hh ho (by omega) (by omega) HB2.out).mono ?_
          rintro e wi ⟨rfl, Bi⟩
          replace hW := hW.trans (Bi.mono hW.size)
          clear hh ho hw hg Bi
          go_wp2_with fail
          exact bodyPost_ret (v := .bool true) (by simp [results, Tryz.results7, go_sem]) rfl ⟨rfl, hW⟩
        · clear HB1
          go_wp2_with fail
          exact bodyPost_ret (v := .bool true) (by simp [results, Tryz.results7, go_sem]) rfl ⟨rfl, hW⟩
end Go.Proofs.YtddbhhedjipjkaaGreatDoor
