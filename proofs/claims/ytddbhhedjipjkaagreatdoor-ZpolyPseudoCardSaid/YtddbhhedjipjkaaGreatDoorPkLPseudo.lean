/-
  LPseudo
-/
import Derived.Test.YtddbhhedjipjkaaGreatDoorPk20
import Derived.Test.YtddbhhedjipjkaaGreatDoorPk41
import Derived.Test.YtddbhhedjipjkaaGreatDoorPk19

/-! The walk of ZpolyPseudo. -/
namespace Go.Proofs.YtddbhhedjipjkaaGreatDoor
open Go.RowKit
set_option linter.unusedVariables false
set_option linter.unusedSimpArgs false

theorem pv_mulp (a b : List Int) (x : Int) : pv (mkz (a.length + b.length) fun i => cmz a b i (i + 1)) x = pv a x * pv b x := by
  rw [← pv_nrz, mul_places, pv_mulN]
theorem pv_addp (a b : List Int) (x : Int) : pv (mkz (max a.length b.length) fun i => ith a i + ith b i) x = pv a x + pv b x := by
  rw [← pv_nrz, sum_places, pv_nrz, pv_addI]
/-- A list of one number, in memory of its own. -/
theorem ZL.one {w : World} {s : Bool} {A : Option Addr} {n c k : Nat} {z : Int} (h : Zc w s A n c z) (hn : n ≤ k) (q : Bool) : ZL q (w.alloc (.cells #[.bool s, .slice A n c] 27)) (some ⟨w.heap.size, 0, none⟩) 1 1 k [z] :=
  ⟨rfl, Nat.le_refl _, by omega, fun _ => ⟨_, rfl, by simp, fun j hj => by
    obtain rfl : j = 0 := by omega
    refine ⟨s, A, n, c, ?_, ?_, .of (h.below (zba _ _)), hn⟩
    · rw [Nat.zero_mul, addr_add0]; simp [go_sem]
    · rw [Nat.zero_mul, addr_add0]; simp [go_sem]⟩⟩
theorem ps_back {zs zs' Q R : List Int} {D t : Nat} {l : Int} (h : PsSpec zs zs' Q R) (hD : slZ zs' = D + 1) (hl : ith zs' D = l) (ht : t = slZ zs + 1 - slZ zs') :
    nrz (mkz (max (mkz (Q.length + zs'.length) fun i => cmz Q zs' i (i + 1)).length R.length) fun i => ith (mkz (Q.length + zs'.length) fun i => cmz Q zs' i (i + 1)) i + ith R i) = nrz (mkz (zs.length + [l ^ t].length) fun i => cmz zs [l ^ t] i (i + 1)) := nrz_eq fun x => by
  have h1 := h.eq x
  rw [← ht, hD, Nat.add_sub_cancel, hl] at h1
  have h2 : pv [l ^ t] x = l ^ t := by rw [pv_cons, pv_nil]; simp
  rw [pv_addp, pv_mulp, pv_mulp, ← h1, h2, Int.mul_comm]
theorem ZL.blk {q : Bool} {w : World} {A : Option Addr} {n c k : Nat} {zs : List Int} (h : ZL q w A n c k zs) : 0 < n → ∀ ad, A = some ad → ad.block < w.heap.size := fun h0 ad e => by
  obtain ⟨ad', e', h1, -⟩ := h.at' h0
  rw [e'] at e; cases e; exact h1
theorem ZL.zput {q : Bool} {w : World} {A B A' : Option Addr} {n c k m d gP n' c' : Nat} {zs : List Int} {t s' : Bool} (h : ZL q w A n c k zs) (hne : 0 < n → ∀ ad, A = some ad → ad.block ≠ gP) (hi : Ib w gP t B m d) : ZL q (Go.Proofs.YtddbhhedjipjkaaGreatDoor.zput w gP s' A' n' c') A n c k zs := ⟨h.len, h.le, h.cap, fun h0 => by
  obtain ⟨ad, rfl, h1, h2⟩ := h.at' h0
  have hn := hne h0 ad rfl
  have hb : ∀ p : Addr, p.block = ad.block → (Go.Proofs.YtddbhhedjipjkaaGreatDoor.zput w gP s' A' n' c').cell? p = w.cell? p := fun p hp => World.cell?_of_block (by rw [hp]; exact heap_zput hn)
  refine ⟨ad, rfl, by unfold Go.Proofs.YtddbhhedjipjkaaGreatDoor.zput; simpa using h1, fun j hj => ?_⟩
  obtain ⟨s, A1, n1, c1, x1, x2, ze, hk⟩ := h2 j hj
  exact ⟨s, A1, n1, c1, (hb _ (add_block _ _)).trans x1, (hb ⟨(ad.add (j * 2)).block, (ad.add (j * 2)).off + 1, none⟩ (add_block _ _)).trans x2, ⟨ze.1.put hi, fun e => (ze.2 e).put hi⟩, hk⟩⟩
set_option maxRecDepth 100000 in
set_option maxHeartbeats 1000000 in
/-- ZpolyPseudo's walk. -/
theorem pseudo10_law {A0 : Option Addr} {n0 c0 : Nat} {R0 : List Zr} {A1 : Option Addr} {n1 c1 : Nat} {R1 : List Zr} {W : World} (h0 : RL W A0 n0 c0 R0) (h1 : RL W A1 n1 c1 R1) (hT : TabHas W) : Calls Tryz.prog 4 #[.slice A0 n0 c0, .slice A1 n1 c1] W (TruePost W) := by
  have HT := Lib.hid hT
  have HX0 := Lib.hid h0
  have HX1 := Lib.hid h1
  clear h0 h1 hT
  have HF : ∀ (b : Bool) (w1 : World), Below W.heap.size W w1 → (fwb R0 8 2 && fwb R1 8 2) = b → Calls Tryz.prog 10 #[.slice A0 n0 c0, .slice A1 n1 c1, .int .i64 8, .int .i64 2] w1 fun e w' => e = .returned (.bool b) ∧ Below w1.heap.size w1 w' := fun b w1 hB hb => by
    have := few10_v (N := 8) (W := 2) (HX0.out.below hB) (HX1.out.below hB) (by omega) (by omega) hb
    rwa [(show ((8 : Nat) : Int) = 8 from rfl), (show ((2 : Nat) : Int) = 2 from rfl)] at this
  have HFH := Lib.hid HF
  clear HF
  obtain ⟨t, ht⟩ : ∃ t, (fwb R0 8 2 && fwb R1 8 2) = t := ⟨_, rfl⟩
  have Ht := Lib.hid ht
  clear ht
  go_enter Tryz.func4, Tryz.ntmps4
  go_wp2_with fail
  refine (awake10_v HT.out).mono ?_
  rintro e w1 ⟨rfl, B1⟩
  have hW : Below W.heap.size W w1 := B1
  clear B1
  go_wp2_with fail
  refine (HFH.out _ _ hW Ht.out).mono ?_
  clear HFH
  rintro e w2 ⟨rfl, B2⟩
  replace hW := hW.trans (B2.mono hW.size)
  clear B2
  cases t
  · go_wp2_with fail
    refine (awake10_v (HT.out.below hW)).mono ?_
    rintro e w3 ⟨rfl, B3⟩
    go_wp2_with fail
    exact bodyPost_ret (v := .bool true) (by simp [results, Tryz.results4, go_sem]) rfl ⟨rfl, hW.trans (B3.mono hW.size)⟩
  · skip
    have ht := Ht.out
    rw [Bool.and_eq_true] at ht
    have f1 := of_fwb ht.1
    have f2 := of_fwb ht.2
    obtain ⟨zs, hzs⟩ : ∃ zs, nums R0 = zs := ⟨_, rfl⟩
    obtain ⟨zs', hzs'⟩ : ∃ zs, nums R1 = zs := ⟨_, rfl⟩
    have la : n0 ≤ 8 := by have := f1.1; rw [HX0.out.len] at this; exact this
    have lb : n1 ≤ 8 := by have := f2.1; rw [HX1.out.len] at this; exact this
    have hza := HX0.out.zl (k := 2) fun j hj => fw_all f1 (by omega) j (by rw [HX0.out.len]; exact hj)
    have hzb := HX1.out.zl (k := 2) fun j hj => fw_all f2 (by omega) j (by rw [HX1.out.len]; exact hj)
    rw [hzs] at hza
    rw [hzs'] at hzb
    have HA0 := Lib.hid hza
    have HB0 := Lib.hid hzb
    clear ht f1 f2 hzs hzs' hza hzb Ht HX0 HX1
    have z1 := slZ_le zs
    rw [HA0.out.len] at z1
    have z2 := slZ_le zs'
    rw [HB0.out.len] at z2
    have HPS := Lib.hid (zpseudo_v (KK := 49) (HA0.out.below hW) (HB0.out.below hW) (by have := Nat.mul_le_mul_right (2 * 2 + 1) (show slZ zs + 1 - slZ zs' ≤ 9 by omega); omega) (by omega) (by omega) (by omega) (by omega))
    go_wp2_with fail
    refine HPS.out.mono ?_
    clear HPS
    rintro e w3 (⟨Qq, Rr, Aq, nq, cq, Ar, nr, cr, rfl, hQ, hR, h9, hql, hps, B3⟩ | ⟨rfl, h9, B3⟩)
    · replace hW := hW.trans (B3.mono hW.size)
      clear B3
      obtain ⟨D, hD⟩ : ∃ D, slZ zs' = D + 1 := ⟨slZ zs' - 1, by omega⟩
      obtain ⟨E, hE⟩ : ∃ E, slZ zs = E := ⟨_, rfl⟩
      have HD : Hid ((slZ zs' : Int) - 1 = (D : Int)) := Lib.hid (by omega)
      have HE : Hid ((slZ zs : Int) - 1 = (E : Int) - 1) := Lib.hid (by omega)
      have HEN := Lib.hid hE
      have HDN := Lib.hid hD
      have HPS := Lib.hid hps
      have hnr : nr ≤ D := by have h1 := hps.short; rw [hR.len, hD] at h1; omega
      have hD8 : D < n1 := by omega
      have hE8 : E ≤ 8 := by omega
      have HQL : Hid (nq ≤ 8) := Lib.hid (by rw [HA0.out.len] at hql; omega)
      clear hD hE hps z1 z2 h9 hql
      go_wp2_with fail
      refine (zdeg_v (HA0.out.below hW) (by omega)).mono ?_
      rintro e wd ⟨rfl, Bd⟩
      rw [HE.out]
      replace hQ := hQ.below Bd
      replace hR := hR.below Bd
      replace hW := hW.trans (Bd.mono hW.size)
      clear Bd
      go_wp2_with fail
      refine (zdeg_v (HB0.out.below hW) (by omega)).mono ?_
      rintro e we ⟨rfl, Be⟩
      rw [HD.out]
      have hu : ¬ (D : Int) < 0 := by omega
      replace hQ := hQ.below Be
      replace hR := hR.below Be
      replace hW := hW.trans (Be.mono hW.size)
      clear Be
      go_wp2_with fail
      refine (zof_v 1 (by omega) (by omega) _).mono ?_
      rintro e w21 ⟨s21, A21, n21, c21, rfl, hc, k21, B21⟩
      replace hQ := hQ.below B21
      replace hR := hR.below B21
      replace hW := hW.trans (B21.mono hW.size)
      clear B21
      have hqb := Lib.hid hQ.blk
      have hrb := Lib.hid hR.blk
      have HSZ := Nat.le_refl w21.heap.size
      obtain ⟨w22, hw22⟩ : ∃ xw, xw = w21.alloc (.cells #[.bool s21, .slice A21 n21 c21] 27) := ⟨_, rfl⟩
      have z22 : Below w21.heap.size w21 w22 := by rw [hw22]; exact zba _ _
      have HW22 : Hid (w21.alloc (.cells #[.bool s21, .slice A21 n21 c21] 27) = w22) := Lib.hid hw22.symm
      have lw_c : W.heap.size ≤ w21.heap.size := by have := hW.size; omega
      replace hQ := hQ.below z22
      replace hR := hR.below z22
      replace hc := hc.below z22
      replace hW := hW.trans (z22.mono hW.size)
      have H_c : Hid (Ib w22 w21.heap.size s21 A21 n21 c21) := Lib.hid (by rw [hw22]; exact Ib.new _ _ _ _ _ _)
      clear z22 hw22
      go_upto_region 8 with fail
      rw [HW22.out]
      obtain ⟨gC, hgC⟩ : ∃ q, w21.heap.size = q := ⟨_, rfl⟩
      rw [hgC] at H_c lw_c
      rw [hgC]
      have hqC : 0 < nq → ∀ ad, Aq = some ad → ad.block ≠ gC := fun h0 ad e => by have h1 := hqb.out h0 ad e; have h2 := HSZ; omega
      have hrC : 0 < nr → ∀ ad, Ar = some ad → ad.block ≠ gC := fun h0 ad e => by have h1 := hrb.out h0 ad e; have h2 := HSZ; omega
      clear hgC hqb hrb HSZ
      obtain ⟨l, hl⟩ : ∃ l, ith zs' D = l := ⟨_, rfl⟩
      have HLd := Lib.hid hl
      clear hl
      have HB : Hid (Below W.heap.size W w22 ∧ ZL true w22 Aq nq cq 49 Qq ∧ ZL true w22 Ar nr cr 49 Rr ∧ ∃ sc Ac nc cc, Ib w22 gC sc Ac nc cc ∧ Zc w22 sc Ac nc cc (l ^ 0) ∧ nc ≤ 1 + 0 * 2) := Lib.hid ⟨hW, hQ, hR, _, _, _, _, H_c.out, by rw [Int.pow_zero]; exact hc, by omega⟩
      clear hW hQ hR H_c hc
      go_wp2_with fail
      go_loopw [11] (fun s11 wr => ∃ t : Nat, s11 = .int .i64 (((D + t : Nat) : Int)) ∧ t ≤ E - D ∧ Hid (Below W.heap.size W wr ∧ ZL true wr Aq nq cq 49 Qq ∧ ZL true wr Ar nr cr 49 Rr ∧ ∃ sc Ac nc cc, Ib wr gC sc Ac nc cc ∧ Zc wr sc Ac nc cc (l ^ t) ∧ nc ≤ 1 + t * 2)) (fun s11 _ => E - (intOf s11).toNat)
      case atStart => exact ⟨0, rfl, Nat.zero_le _, HB⟩
      case round =>
        clear HB
        obtain ⟨t, rfl, ht, HB⟩ := hrel
        obtain ⟨hW, hQ, hR, sc, Ac, nc, cc, I1, hc, knc⟩ := HB.out
        have H_c := Lib.hid I1
        clear HB I1
        obtain ⟨i, hi⟩ : ∃ i, D + t = i := ⟨_, rfl⟩
        rw [hi]
        by_cases hlt : t < E - D
        · have u1 : (i : Int) ≤ (E : Int) - 1 := by omega
          obtain ⟨ad, rfl, hab, s, A', m, d, g1, g2, ze, hm⟩ := (HB0.out.below hW).at (j := D) hD8
          rw [HLd.out] at ze
          have hv := ze.1
          clear ze
          obtain ⟨c1, c2, c3, c4, c5⟩ := H_c.out
          go_wp2_with fail
          clear c1 c2 c3 c4 c5
          refine region8 [] 6 [IsK (.agg #[.bool sc, .slice Ac nc cc]), IsK (.slice (some ad) n1 c1), IsK (.int .i64 (D : Int)), IsK (.pointer (some (ad.add (D * 2)))), IsK (.agg #[.bool s, .slice A' m d]), IsC (l ^ t * l) (1 + (t + 1) * 2)] (fun _ _ d _ _ h => by cases d <;> exact h) (by kernel_rfl) (by kernel_rfl) (by kernel_rfl) ⟨stay_k _, stay_k _, stay_k _, stay_k _, stay_k _, stay_c _ _, trivial⟩ ?_ ?_
          · refine HopAll.cons rfl ?_ (HopAll.cons rfl ?_ (HopAll.cons rfl ?_ (HopAll.cons rfl ?_ (HopAll.cons rfl ?_ (HopAll.cons rfl ?_ HopAll.nil)))))
            · intro a w1 hB ho hp Kq hKq
              have e10 : a.eval (.tmp 10) = (.pointer (some ⟨gC, 0, none⟩)) := ho 10 (by kernel_rfl)
              obtain ⟨u1, u2, u3, u4, u5⟩ := H_c.out.below hB
              exact hop_load (wanted_none rfl) rfl e10 (run_ldz u1 u2) (hKq _ _ rfl (Below.refl _ _))
            · intro a w1 hB ho hp Kq hKq
              have e1 : a.eval (.tmp 1) = (.slice (some ad) n1 c1) := ho 1 (by kernel_rfl)
              refine hop_val (wanted_none rfl) ?_ (hKq (.slice (some ad) n1 c1) _ rfl (Below.refl _ _))
              unfold execOp; simp only [eval_const, e1]; simp [go_sem]
            · intro a w1 hB ho hp Kq hKq
              have e9 : a.eval (.tmp 9) = (.int .i64 (D : Int)) := ho 9 (by kernel_rfl)
              refine hop_val (wanted_none rfl) ?_ (hKq (.int .i64 (D : Int)) _ rfl (Below.refl _ _))
              unfold execOp; simp only [eval_const, e9]; simp [go_sem]
            · intro a w1 hB ho hp Kq hKq
              have e55 : a.eval (.tmp 55) = (.slice (some ad) n1 c1) := hp 1 55 (by kernel_rfl)
              have e56 : a.eval (.tmp 56) = (.int .i64 (D : Int)) := hp 2 56 (by kernel_rfl)
              refine hop_val (wanted_none rfl) ?_ (hKq (.pointer (some (ad.add (D * 2)))) _ rfl (Below.refl _ _))
              unfold execOp; simp only [eval_const, Option.map_some, Option.map_none, e55, e56]; simp [run_ixP hD8]
            · intro a w1 hB ho hp Kq hKq
              have e57 : a.eval (.tmp 57) = (.pointer (some (ad.add (D * 2)))) := hp 3 57 (by kernel_rfl)
              exact hop_load (wanted_none rfl) rfl e57 (run_ldzA ((hB.cell (p := ad.add (D * 2)) (by rw [add_block]; exact hab)).trans g1) ((hB.cell (p := ⟨(ad.add (D * 2)).block, (ad.add (D * 2)).off + 1, none⟩) (by show (ad.add (D * 2)).block < _; rw [add_block]; exact hab)).trans g2)) (hKq _ _ rfl (Below.refl _ _))
            · intro a w1 hB ho hp Kq hKq
              have e54 : a.eval (.tmp 54) = (.agg #[.bool sc, .slice Ac nc cc]) := hp 0 54 (by kernel_rfl)
              have e58 : a.eval (.tmp 58) = (.agg #[.bool s, .slice A' m d]) := hp 4 58 (by kernel_rfl)
              refine hop_call (wanted_none rfl) rfl (args := #[(.agg #[.bool sc, .slice Ac nc cc]), (.agg #[.bool s, .slice A' m d])]) (by simp only [List.map_toArray, List.map_cons, List.map_nil, eval_const, e54, e58]) (ent7 (by kernel_rfl) _ _) (zmul_v (hc.below hB).zv (hv.below hB) (by omega) (by omega)) ?_
              rintro e w2 ⟨sq, Aq, nq, cq, rfl, pq, kq, Bq⟩
              exact ⟨_, rfl, hKq _ _ ⟨sq, Aq, nq, cq, rfl, pq, by omega⟩ Bq⟩
          intro w23 B23
          refine EndAll.one rfl fun vv hv => ?_
          obtain rfl : vv = (.agg #[.bool sc, .slice Ac nc cc]) := hv
          refine EndAll.one rfl fun vv hv => ?_
          obtain rfl : vv = (.slice (some ad) n1 c1) := hv
          refine EndAll.one rfl fun vv hv => ?_
          obtain rfl : vv = (.int .i64 (D : Int)) := hv
          refine EndAll.one rfl fun vv hv => ?_
          obtain rfl : vv = (.pointer (some (ad.add (D * 2)))) := hv
          refine EndAll.one rfl fun vv hv => ?_
          obtain rfl : vv = (.agg #[.bool s, .slice A' m d]) := hv
          refine EndAll.one rfl fun vv hv => ?_
          obtain ⟨s24, A24, n24, c24, rfl, ⟨p24, k24⟩⟩ : IsC (l ^ t * l) (1 + (t + 1) * 2) vv w23 := hv
          refine EndAll.nil (l := [_]) rfl ?_
          simp only [Act.put, List.setIfInBounds_toArray, List.set_cons_zero, List.set_cons_succ]
          replace H_c := Lib.hid (H_c.out.below B23)
          replace hQ := hQ.below B23
          replace hR := hR.below B23
          replace hc := hc.below B23
          replace hv := hv.below B23
          replace hW := hW.trans (B23.mono hW.size)
          have pz := p24
          clear p24
          clear B23
          have kz := k24
          clear hc hv g1 g2 hab
          rw [← Int.pow_succ] at pz
          have HW5 : Hid (Below W.heap.size W (zput w23 gC s24 A24 n24 c24)) := Lib.hid (below_put hW lw_c)
          have HP := Lib.hid (pz.put (s' := s24) (A' := A24) (n' := n24) (c' := c24) H_c.out)
          have HI := Lib.hid (H_c.out.own (t := s24) (B := A24) (m := n24) (d := c24))
          have HQ5 := Lib.hid (ZL.zput hQ hqC H_c.out (s' := s24) (A' := A24) (n' := n24) (c' := c24))
          have HR5 := Lib.hid (ZL.zput hR hrC H_c.out (s' := s24) (A' := A24) (n' := n24) (c' := c24))
          unfold zput at HW5 HP HI HQ5 HR5
          obtain ⟨x1, x2, x3, x4, x5⟩ := H_c.out
          clear hQ hR pz hW H_c
          go_wp2_with fail
          go_roundw
          case rel => exact ⟨t + 1, by go_num, by omega, Lib.hid ⟨HW5.out, HQ5.out, HR5.out, _, _, _, _, HI.out, HP.out, kz⟩⟩
          case measure => first | (simp [intOf]; done) | (simp [intOf]; omega)
        · have u1 : ¬ (i : Int) ≤ (E : Int) - 1 := by omega
          have htm : t = slZ zs + 1 - slZ zs' := by rw [HEN.out, HDN.out]; omega
          have HTM := Lib.hid htm
          clear htm
          skip
          obtain ⟨c1, c2, c3, c4, c5⟩ := H_c.out
          go_wp2_with fail
          clear c1 c2 c3 c4 c5
          refine (rmul10_v hQ (HB0.out.below hW) (by omega) (by omega) (by have := HQL.out; omega) (by omega)).mono ?_
          rintro e w23 ⟨A23, n23, c23, rfl, hm, B23⟩
          replace H_c := Lib.hid (H_c.out.below B23)
          replace hQ := hQ.below B23
          replace hR := hR.below B23
          replace hc := hc.below B23
          replace hW := hW.trans (B23.mono hW.size)
          clear B23
          obtain ⟨c1, c2, c3, c4, c5⟩ := H_c.out
          go_wp2_with fail
          clear c1 c2 c3 c4 c5
          refine (radd10_v hm hR (by have := HQL.out; omega) (by omega) (by have h1 := hm.len; rw [mkz_length, hQ.len, HB0.out.len] at h1; have := HQL.out; omega) (by omega)).mono ?_
          rintro e w24 ⟨A24, n24, c24, rfl, hs, B24⟩
          replace H_c := Lib.hid (H_c.out.below B24)
          replace hQ := hQ.below B24
          replace hR := hR.below B24
          replace hc := hc.below B24
          replace hm := hm.below B24
          replace hW := hW.trans (B24.mono hW.size)
          clear B24
          clear hm
          obtain ⟨c1, c2, c3, c4, c5⟩ := H_c.out
          go_wp2_with fail
          clear c1 c2 c3 c4 c5
          refine (rnormal10_v hQ HPS.out.nq (by omega)).mono ?_
          rintro e wf ⟨rfl, Bf⟩
          replace H_c := Lib.hid (H_c.out.below Bf)
          replace hQ := hQ.below Bf
          replace hR := hR.below Bf
          replace hc := hc.below Bf
          replace hs := hs.below Bf
          replace hW := hW.trans (Bf.mono hW.size)
          clear Bf
          obtain ⟨c1, c2, c3, c4, c5⟩ := H_c.out
          go_wp2_with fail
          clear c1 c2 c3 c4 c5
          refine (rnormal10_v hR HPS.out.nr (by omega)).mono ?_
          rintro e wg ⟨rfl, Bg⟩
          have hre : (nr : Int) ≤ (D : Int) := by omega
          replace H_c := Lib.hid (H_c.out.below Bg)
          replace hQ := hQ.below Bg
          replace hR := hR.below Bg
          replace hc := hc.below Bg
          replace hs := hs.below Bg
          replace hW := hW.trans (Bg.mono hW.size)
          clear Bg
          have HO := Lib.hid (ZL.one hc (k := 1 + t * 2) knc false)
          have HZ := Lib.hid (zba wg (.cells #[.bool sc, .slice Ac nc cc] 27))
          have ht9 : t ≤ 9 := by omega
          have hql2 := HQL.out
          obtain ⟨c1, c2, c3, c4, c5⟩ := H_c.out
          go_wp2_with fail
          clear c1 c2 c3 c4 c5
          refine (rmul10_v (HA0.out.below (hW.trans (HZ.out.mono hW.size))) HO.out (by omega) (by omega) (by omega) (by omega)).mono ?_
          rintro e wh ⟨Ah, nh, ch, rfl, hh, Bh⟩
          have hW2 := hW.trans ((zup HZ.out Bh).mono hW.size)
          replace hs := (hs.below HZ.out).below Bh
          have hse := decide_eq_true (ps_back HPS.out HDN.out HLd.out HTM.out)
          have HSE := Lib.hid hse
          have hlh : nh ≤ 9 := by have h1 := hh.len; rw [mkz_length, HA0.out.len] at h1; simp at h1; omega
          have hls : n24 ≤ 100 := by have h1 := hs.len; rw [mkz_length, mkz_length, hQ.len, hR.len, HB0.out.len] at h1; omega
          clear HO HZ Bh hse hc hQ hR
          go_wp2_with fail
          refine (rsame10_v hs hh (by omega) (by omega) (by omega) (by omega) HSE.out).mono ?_
          rintro e wi ⟨rfl, Bi⟩
          clear H_c hs hh
          go_wp2_with fail
          exact bodyPost_ret (v := .bool true) (by simp [results, Tryz.results4, go_sem]) rfl ⟨rfl, hW2.trans (Bi.mono hW2.size)⟩
    · replace hW := hW.trans (B3.mono hW.size)
      have HD : Hid ((slZ zs' : Int) - 1 = -1) := Lib.hid (by omega)
      clear h9 B3 z1 z2
      go_wp2_with fail
      refine (zdeg_v (HA0.out.below hW) (by omega)).mono ?_
      rintro e wd ⟨rfl, Bd⟩
      replace hW := hW.trans (Bd.mono hW.size)
      clear Bd
      go_wp2_with fail
      refine (zdeg_v (HB0.out.below hW) (by omega)).mono ?_
      rintro e we ⟨rfl, Be⟩
      rw [HD.out]
      replace hW := hW.trans (Be.mono hW.size)
      clear Be
      go_wp2_with fail
      exact bodyPost_ret (v := .bool true) (by simp [results, Tryz.results4, go_sem]) rfl ⟨rfl, hW⟩
end Go.Proofs.YtddbhhedjipjkaaGreatDoor
