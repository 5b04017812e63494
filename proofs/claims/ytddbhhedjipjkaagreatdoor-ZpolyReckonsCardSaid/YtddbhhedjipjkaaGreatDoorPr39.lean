/-
  ZlI
-/
import Derived.Test.YtddbhhedjipjkaaGreatDoorPr38

namespace Go.Proofs.YtddbhhedjipjkaaGreatDoor
open Go.RowKit
set_option linter.unusedVariables false
set_option linter.unusedSimpArgs false
theorem run_sij {w : World} {g m cap i j : Nat} (h : i ≤ j) (hj : j ≤ cap) (hi : i < cap) : (Instr.sliceAt 23 (.slice (some ⟨g, 0, none⟩) m cap) (some (.int .i64 (i : Int))) (some (.int .i64 (j : Int))) none).run Tryz.prog w = .ok (.slice (some ⟨g, i * 2, none⟩) (j - i) (cap - i)) w := by
  have e1 : ¬ (cap = i) := by omega
  have e2 : ¬ ((j : Int) < (i : Int)) := by omega
  simp [go_sem, Tryz.underlying23, Instr.slice, Instr.sliceBounds, Instr.sliceBound, add_lit0, zp_cells, e1]
  rw [if_pos hj, if_pos h]
def ZpsPost (a b : List Int) (k : Nat) (w : World) (e : Ending) (w' : World) : Prop :=
  (∃ Q R A n c D m d, e = .returned (.tuple #[.slice A n c, .slice D m d, .bool true]) ∧ ZL true w' A n c k Q ∧ ZL true w' D m d k R ∧ slZ b ≠ 0 ∧ n ≤ a.length ∧ PsSpec a b Q R ∧ Below w.heap.size w w') ∨
  (e = .returned (.tuple #[.slice none 0 0, .slice none 0 0, .bool false]) ∧ slZ b = 0 ∧ Below w.heap.size w w')
theorem pswin_of {R1 b : List Int} {D i : Nat} {q : Int} (hq : ith R1 (i + D) = q) (hb : b.length = D + 1) (hR : i + D < R1.length) : psWin R1 b D i (gat (upd R1 i D fun j => ith b D * ith R1 j) i (b.take D) (-q)) := by
  have hbl : (b.take D).length = D := by rw [List.length_take]; omega
  refine ⟨by rw [gat_length, upd_length], fun j hj => ?_, fun j hj => ?_⟩
  · rw [ith_gat (by rw [upd_length]; omega), ith_shI, if_pos hj, upd_at (by omega)]; simp
  · rw [ith_gat (by rw [upd_length]; omega), ith_shI, if_neg (by omega), show i + j - i = j by omega, ith_takeI, if_pos hj, ith_upd, if_pos (by omega), if_pos ⟨by omega, by omega⟩, hq]
    grind
set_option maxRecDepth 100000 in
set_option maxHeartbeats 1000000 in
theorem zpseudo_v {q : Bool} {A : Option Addr} {n c k : Nat} {zs : List Int} {q' : Bool} {A' : Option Addr} {n' c' k' : Nat} {zs' : List Int} {KK : Nat} {w : World} (hx : ZL q w A n c k zs) (hy : ZL q' w A' n' c' k' zs') (hKK : k + 2 + (slZ zs + 1 - slZ zs') * (2 * k' + 1) ≤ KK) (hKb : KK ≤ 274877906944) (hk' : k' ≤ 274877906944) (hn : n ≤ 1099511627776) (hn' : n' ≤ 1099511627776) :
    Calls Tryz.prog 27 #[.slice A n c, .slice A' n' c'] w (ZpsPost zs zs' KK w) := by
  obtain ⟨N, hN⟩ : ∃ L, slZ zs = L := ⟨_, rfl⟩
  obtain ⟨L2, hL2⟩ : ∃ L, slZ zs' = L := ⟨_, rfl⟩
  have b1 : N ≤ n := by have := slZ_le zs; rw [hx.len] at this; omega
  have b2 : L2 ≤ n' := by have := slZ_le zs'; rw [hy.len] at this; omega
  have hkk : k + 2 ≤ KK := by omega
  have HX0 := Lib.hid hx
  have HY0 := Lib.hid hy
  have hnd := hy.le
  have hdm := hy.cap
  have E2 : Hid ((slZ zs' : Int) - 1 = (L2 : Int) - 1) := Lib.hid (by rw [hL2])
  have HN := Lib.hid hN
  have HL2 := Lib.hid hL2
  clear hx hN hL2
  go_enter Tryz.func27, Tryz.ntmps27
  go_wp2_with fail
  refine (zdeg_v hy (by omega)).mono ?_
  rintro e w1 ⟨rfl, B1⟩
  rw [E2.out]
  clear hy E2
  rcases Nat.eq_zero_or_pos L2 with h0 | h0
  · subst h0
    go_wp2_with fail
    exact bodyPost_ret (v := (.tuple #[.slice none 0 0, .slice none 0 0, .bool false])) (by simp [results, Tryz.results27, go_sem]) rfl (.inr ⟨rfl, HL2.out, B1⟩)
  · skip
    obtain ⟨D, hD⟩ : ∃ D, L2 = D + 1 := ⟨L2 - 1, by omega⟩
    subst hD
    have e5 : (((D + 1 : Nat) : Int) - 1) = (D : Int) := by omega
    rw [e5]
    have hb0 : (nrz zs').length = D + 1 := by rw [nrz_length, HL2.out]
    have hlead : ith (nrz zs') D ≠ 0 := by have := slZ_top (l := zs') (by rw [HL2.out]; omega); rw [HL2.out] at this; rw [ith_nrz]; exact this
    obtain ⟨l, hl⟩ : ∃ l, ith (nrz zs') D = l := ⟨_, rfl⟩
    have HLd := Lib.hid hl
    have hl0 : l ≠ 0 := hl ▸ hlead
    have u0 : ¬ (D : Int) < 0 := by omega
    have HYT := Lib.hid (HY0.out.take (m := D + 1) (d := c') b2 (by omega) hdm)
    rw [show zs'.take (D + 1) = nrz zs' by rw [← HL2.out]; rfl] at HYT
    have HBL := Lib.hid hb0
    clear e5 hl hlead hb0
    go_wp2_with fail
    refine (znorm_v (HX0.out.below B1) (by omega) (by omega)).mono ?_
    rintro e w2 ⟨gR, N', rfl, hN', hNb, hb, hgR, B2⟩
    have hW : Below w.heap.size w w2 := B1.trans (B2.mono B1.size)
    obtain rfl : N' = N := by rw [hN', nrz_length, HN.out]
    have hgR2 : w.heap.size ≤ gR := by have := B1.size; omega
    clear B1 B2 hgR hN'
    obtain ⟨m, hm⟩ : ∃ m, N' - D = m := ⟨_, rfl⟩
    have hmx : max (0 : Int) ((N' : Int) - (D : Int)) = (m : Int) := by omega
    have hmw : IntKind.i64.wrap ((N' : Int) - (D : Int)) = (N' : Int) - (D : Int) := by rw [IntKind.wrap_i64]; omega
    have hmn : m ≤ n := by omega
    have hKm : k + 2 + m * (2 * k' + 1) ≤ KK := by rw [HN.out, HL2.out, show N' + 1 - (D + 1) = m by omega] at hKK; exact hKK
    clear hKK
    have hKm2 : m * (2 * k' + 1) = m * k' + m * (k' + 1) := by rw [← Nat.mul_add]; congr 1; omega
    have hmk : m * (k' + 1) = m * k' + m := by rw [Nat.mul_add, Nat.mul_one]
    have HM := Lib.hid hm
    have HR := Lib.hid hb
    have HR0 := Lib.hid hb
    have HW2 := Lib.hid (Below.refl w2.heap.size w2)
    clear hb hm
    go_wp2_with fail
    refine (zof_v 1 (by omega) (by omega) _).mono ?_
    rintro e w21 ⟨s21, A21, n21, c21, rfl, hpP, k21, B21⟩
    replace hW := hW.trans (B21.mono hW.size)
    replace HR := Lib.hid (HR.out.below B21)
    clear B21
    obtain ⟨w22, hw22⟩ : ∃ xw, xw = w21.alloc (.cells #[.bool s21, .slice A21 n21 c21] 27) := ⟨_, rfl⟩
    have z22 : Below w21.heap.size w21 w22 := by rw [hw22]; exact zba _ _
    have HRb := HR.out
    have HW22 : Hid (w21.alloc (.cells #[.bool s21, .slice A21 n21 c21] 27) = w22) := Lib.hid hw22.symm
    have lw_p : w.heap.size ≤ w21.heap.size := by have := hW.size; omega
    replace hpP := hpP.below z22
    replace hW := hW.trans (z22.mono hW.size)
    replace HR := Lib.hid (HR.out.below z22)
    have H_p : Hid (Ib w22 w21.heap.size s21 A21 n21 c21) := Lib.hid (by rw [hw22]; exact Ib.new _ _ _ _ _ _)
    clear z22 hw22
    go_upto_region 5 with fail
    rw [HW22.out]
    obtain ⟨gP, hgP⟩ : ∃ q, w21.heap.size = q := ⟨_, rfl⟩
    have hPR : ¬ (gP = gR) := by have := HRb.lt; omega
    rw [hgP] at H_p lw_p
    rw [hgP]
    have hgPl := H_p.out.2.2.2.2
    clear hgP
    go_wp2_with (at_make; refine wpList_make_z _ rfl _ _ 23 rfl Tryz.underlying23 info_zint _ _ _ _ m rfl rfl (by omega) (by omega) (by omega) ?_)
    intro w3 hb3 hw3 hz3
    obtain ⟨gQ, hgQ⟩ : ∃ q, w22.heap.size = q := ⟨_, rfl⟩
    have hgQ2 : w.heap.size ≤ gQ := by have := hW.size; omega
    have hRQ : ¬ (gR = gQ) := by have := HR.out.lt; omega
    have hPQ : ¬ (gP = gQ) := by omega
    rw [hgQ] at hb3
    have HB : Hid (Below w.heap.size w w3 ∧ (∃ sp Ap np cp, Ib w3 gP sp Ap np cp ∧ Zc w3 sp Ap np cp (l ^ (m - m)) ∧ np ≤ 1 + (m - m) * k') ∧ ∃ R Q : List Int, ZB w3 gR (k + 1 + (m - m) * (k' + 1)) R ∧ ZB w3 gQ (k + 1 + m * (k' + 1)) Q ∧ PsMid (nrz zs) (nrz zs') D m m R Q) := Lib.hid ⟨hW.trans (hw3.mono hW.size), ⟨_, _, _, _, H_p.out.below hw3, by rw [Nat.sub_self, Int.pow_zero]; exact hpP.below hw3, by omega⟩, _, _, by rw [Nat.sub_self, Nat.zero_mul]; exact (HR.out.below hw3).mono (by omega), hb3.mono (Nat.zero_le _), psmid_zero (by rw [nrz_length, HN.out]; exact HM.out)⟩
    rw [hgQ]
    clear hb3 hw3 hz3 hgQ hmx hmw HR hW H_p hpP hgPl
    go_wp2_with fail
    go_loopw [11] (fun s11 wr => ∃ j : Nat, s11 = .int .i64 ((j : Int) - 1) ∧ j ≤ m ∧ Hid (Below w.heap.size w wr ∧ (∃ sp Ap np cp, Ib wr gP sp Ap np cp ∧ Zc wr sp Ap np cp (l ^ (m - j)) ∧ np ≤ 1 + (m - j) * k') ∧ ∃ R Q : List Int, ZB wr gR (k + 1 + (m - j) * (k' + 1)) R ∧ ZB wr gQ (k + 1 + m * (k' + 1)) Q ∧ PsMid (nrz zs) (nrz zs') D m j R Q)) (fun s11 _ => (intOf s11 + 1).toNat)
    case atStart => exact ⟨m, rfl, Nat.le_refl _, HB⟩
    case round =>
      clear HB
      obtain ⟨j, rfl, hj, HB⟩ := hrel
      obtain ⟨hW, ⟨sp, Ap, np, cp, I1, hpP, knp⟩, R, Q, hR, hQ, hmid⟩ := HB.out
      have HMid := Lib.hid hmid
      have hRl : R.length = N' := by rw [hmid.rl, nrz_length, HN.out]
      have hQl : Q.length = m := hmid.ql
      have HR := Lib.hid hR
      have HQ := Lib.hid hQ
      have H_p := Lib.hid I1
      clear HB hmid hR hQ I1
      have hDn : D < n' := by omega
      obtain ⟨ad, rfl, hab0, -⟩ := (HYT.out.below hW).at (j := D) (by omega)
      clear hab0
      rcases Nat.eq_zero_or_pos j with rfl | hj0
      · have hQlen := hQl
        simp only [Nat.sub_zero] at HR hpP knp
        obtain ⟨nq, heq⟩ := psmid_end HMid.out (by rw [HLd.out]; exact hl0) (by rw [hRl]; exact HM.out)
        rw [HLd.out] at nq heq
        have HQn := Lib.hid nq
        have HQe := Lib.hid heq
        clear nq heq
        have hun : ¬ ((0 : Int) ≤ ((0 : Nat) : Int) - 1) := by omega
        obtain ⟨ad2, e2, hab, s2, A2, n2, d2, c1, c2, ze, kz2⟩ := (HYT.out.below hW).at (j := D) (by omega)
        cases e2
        rw [HLd.out] at ze
        have hv := ze.1
        clear ze
        have u7 : (0 : Int) ≤ (D : Int) := by omega
        have u8 : (D : Int) < (n' : Int) := by omega
        have hQb := HQ.out
        obtain ⟨p1, p2, p3, p4, p5⟩ := H_p.out
        go_wp2_with fail
        clear p1 p2 p3 p4 p5
        refine (zraise_v (o := 0) (K := k + 2 + m * (2 * k' + 1)) hQb hv hQl.symm (by have := Nat.mul_le_mul_left m kz2; omega) (by omega) (by omega)).mono ?_
        rintro e w9 ⟨rfl, hq9, hg9⟩
        replace hW := gro_up hW hg9 hgQ2
        have HR9 := Lib.hid (HR.out.gro hRQ hQb.now hg9)
        obtain ⟨M, hM⟩ : ∃ M, min D N' = M := ⟨_, rfl⟩
        have hMi : min (D : Int) (N' : Int) = (M : Int) := by omega
        have hMN : M ≤ N' := by omega
        have hrt : R.take M = R.take D := by rw [← hM]; by_cases h : D ≤ N'
                                             · rw [Nat.min_eq_left h]
                                             · rw [Nat.min_eq_right (by omega), List.take_of_length_le (by omega), List.take_of_length_le (by omega)]
        have hl := HR9.out.zl0 true (n := M) (c := N') (by omega) hMN (by omega)
        rw [hrt] at hl
        have hrun : ∀ w1 : World, (Instr.sliceAt 23 (.slice (some ⟨gR, 0, none⟩) N' N') none (some (.int .i64 (M : Int))) none).run Tryz.prog w1 = .ok (.slice (some ⟨gR, 0, none⟩) M N') w1 := fun w1 => run_slP hMN (Nat.le_refl _)
        obtain ⟨T, hT⟩ : ∃ T, slZ (R.take D) = T := ⟨_, rfl⟩
        have hTM : T ≤ M := by have h1 := slZ_le (R.take D); rw [← hrt, List.length_take] at h1; rw [← hrt] at hT; omega
        have HT := Lib.hid hT
        have HMM := Lib.hid hM
        have hq8 := Lib.hid hq9
        clear hM hrt hT hQb hq9 hg9 hv c1 c2 hab hpP H_p
        go_wp2_with fail
        refine (ztrim_v hl (by omega) HT.out).mono ?_
        rintro e w4 ⟨rfl, B4⟩
        replace hW := hW.trans (B4.mono hW.size)
        have hr := (hl.below B4).take (m := T) (d := N') hTM (by omega) (by omega)
        rw [show (R.take D).take T = nrz (R.take D) by rw [← HT.out]; rfl] at hr
        have hq4 := (hq8.out.below B4).zl0 true (n := m) (c := m) (by rw [upd_length]; omega) (Nat.le_refl _) (by omega)
        have e0 : (upd Q 0 m fun j => ith Q j * l ^ j) = raiz Q l := by
          refine ext_ith (by rw [upd_length]; unfold raiz; rw [mkz_length]) fun j hj => ?_
          rw [upd_length] at hj
          unfold raiz
          rw [ith_upd, ith_mkz, if_pos hj, if_pos hj, if_pos ⟨by omega, by omega⟩]
        have e9 : (raiz Q l).length = m := by unfold raiz; rw [mkz_length]; exact hQl
        rw [e0, List.take_of_length_le (by omega)] at hq4
        have P : Hid (ZpsPost zs zs' KK w (.returned (.tuple #[.slice (some ⟨gQ, 0, none⟩) m m, .slice (some ⟨gR, 0, none⟩) T N', .bool true])) w4) := Lib.hid (.inl ⟨raiz Q l, nrz (R.take D), _, _, _, _, _, _, rfl, hq4.mono (by omega), hr.mono (by omega), by rw [HL2.out]; omega, by rw [HX0.out.len]; exact hmn, ⟨HQn.out, nz_nrz _, by rw [nrz_length, HT.out, HL2.out]; have := HMM.out; omega, fun x => by
          have h1 := HQe.out x
          rw [pv_nrz] at h1
          rw [HL2.out, HN.out, Nat.add_sub_cancel, ← ith_nrz, HLd.out, pv_nrz (R.take D), show N' + 1 - (D + 1) = m by have := HM.out; omega, h1, pv_nrz]⟩, hW⟩)
        clear e0 e9 hq4 hr hl hW HR9 hq8
        go_wp2_with fail
        exact bodyPost_ret (v := (.tuple #[.slice (some ⟨gQ, 0, none⟩) m m, .slice (some ⟨gR, 0, none⟩) T N', .bool true])) (by simp [results, Tryz.results27, go_sem]) rfl P.out
      · obtain ⟨i, rfl⟩ : ∃ i, j = i + 1 := ⟨j - 1, by omega⟩
        have e5 : (((i + 1 : Nat) : Int) - 1) = (i : Int) := by omega
        rw [e5]
        have hNm := HM.out
        have hiN : i + D < N' := by omega
        have hiN1 : i < N' := by omega
        have u1 : (0 : Int) ≤ (i : Int) := by omega
        obtain ⟨t, ht⟩ : ∃ t, m - (i + 1) = t := ⟨_, rfl⟩
        have ht2 : m - i = t + 1 := by omega
        have hTk : t * (k' + 1) = t * k' + t := by rw [Nat.mul_add, Nat.mul_one]
        have hTm : (t + 1) * (k' + 1) ≤ m * (k' + 1) := Nat.mul_le_mul_right _ (by omega)
        have hTs : (t + 1) * (k' + 1) = t * (k' + 1) + (k' + 1) := Nat.succ_mul _ _
        have hTs2 : (t + 1) * k' = t * k' + k' := Nat.succ_mul _ _
        obtain ⟨T, hT⟩ : ∃ T, t * (k' + 1) = T := ⟨_, rfl⟩
        rw [ht] at HR hpP knp
        rw [hT] at HR hTk hTs
        have hm1 := Nat.mul_le_mul_right k' (show 1 ≤ m by omega)
        rw [Nat.one_mul] at hm1
        have hTb : k + T + 2 * k' + 3 ≤ KK + 1 := by omega
        have hTb2 : T + k' + 1 ≤ m * (k' + 1) := by omega
        have HTT : Hid ((m - i) * (k' + 1) = T + (k' + 1)) := Lib.hid (by rw [ht2, hTs])
        have HTk : Hid ((m - i) * k' = t * k' + k') := Lib.hid (by rw [ht2, hTs2])
        have Ht := Lib.hid ht
        have Ht2 := Lib.hid ht2
        clear hTm hTs hTs2 hT
        obtain ⟨s1, A1, n1, d1, x1, x2, zc, kz1⟩ := HR.out.cells (j := i) (by omega)
        obtain ⟨sx, Ax, nx, cx, zx1, zx2, zc2, kx2⟩ := HR0.out.cells (j := i) (by rw [nrz_length, HN.out]; omega)
        rw [HMid.out.low i (by omega)] at zc
        have kn1 : n1 ≤ k := by have := zc.words.trans zc2.words.symm; omega
        obtain ⟨x, hx⟩ : ∃ x, ith (nrz zs) i = x := ⟨_, rfl⟩
        have HXv := Lib.hid hx
        rw [hx] at zc
        obtain ⟨pw, hpw⟩ : ∃ pw, l ^ t = pw := ⟨_, rfl⟩
        have HPW := Lib.hid hpw
        rw [hpw] at hpP
        have hgl := HR.out.lt
        clear hx e5 zc2 zx1 zx2 kx2 kz1 hpw ht ht2
        obtain ⟨p1, p2, p3, p4, p5⟩ := H_p.out
        go_wp2_with fail
        clear p1 p2 p3 p4 p5
        refine region8 [] 9 [IsK (.slice (some ⟨gR, 0, none⟩) N' N'), IsK (.int .i64 (i : Int)), IsK (.slice (some ⟨gR, 0, none⟩) N' N'), IsK (.int .i64 (i : Int)), IsK (.pointer (some ⟨gR, 0 + i * 2, none⟩)), IsK (.agg #[.bool s1, .slice A1 n1 d1]), IsK (.agg #[.bool sp, .slice Ap np cp]), IsC (x * pw) (k + 1 + T), IsK (.pointer (some ⟨gR, 0 + i * 2, none⟩))] (fun _ _ d _ _ h => by cases d <;> exact h) (by kernel_rfl) (by kernel_rfl) (by kernel_rfl) ⟨stay_k _, stay_k _, stay_k _, stay_k _, stay_k _, stay_k _, stay_k _, stay_c _ _, stay_k _, trivial⟩ ?_ ?_
        · refine HopAll.cons rfl ?_ (HopAll.cons rfl ?_ (HopAll.cons rfl ?_ (HopAll.cons rfl ?_ (HopAll.cons rfl ?_ (HopAll.cons rfl ?_ (HopAll.cons rfl ?_ (HopAll.cons rfl ?_ (HopAll.cons rfl ?_ HopAll.nil))))))))
          · intro a w1 hB ho hp Kq hKq
            have e8 : a.eval (.tmp 8) = (.slice (some ⟨gR, 0, none⟩) N' N') := ho 8 (by kernel_rfl)
            refine hop_val (wanted_none rfl) ?_ (hKq (.slice (some ⟨gR, 0, none⟩) N' N') _ rfl (Below.refl _ _))
            unfold execOp; simp only [eval_const, e8]; simp [go_sem]
          · intro a w1 hB ho hp Kq hKq
            have e11 : a.eval (.tmp 11) = (.int .i64 (i : Int)) := ho 11 (by kernel_rfl)
            refine hop_val (wanted_none rfl) ?_ (hKq (.int .i64 (i : Int)) _ rfl (Below.refl _ _))
            unfold execOp; simp only [eval_const, e11]; simp [go_sem]
          · intro a w1 hB ho hp Kq hKq
            have e8 : a.eval (.tmp 8) = (.slice (some ⟨gR, 0, none⟩) N' N') := ho 8 (by kernel_rfl)
            refine hop_val (wanted_none rfl) ?_ (hKq (.slice (some ⟨gR, 0, none⟩) N' N') _ rfl (Below.refl _ _))
            unfold execOp; simp only [eval_const, e8]; simp [go_sem]
          · intro a w1 hB ho hp Kq hKq
            have e11 : a.eval (.tmp 11) = (.int .i64 (i : Int)) := ho 11 (by kernel_rfl)
            refine hop_val (wanted_none rfl) ?_ (hKq (.int .i64 (i : Int)) _ rfl (Below.refl _ _))
            unfold execOp; simp only [eval_const, e11]; simp [go_sem]
          · intro a w1 hB ho hp Kq hKq
            have e34 : a.eval (.tmp 34) = (.slice (some ⟨gR, 0, none⟩) N' N') := hp 2 34 (by kernel_rfl)
            have e35 : a.eval (.tmp 35) = (.int .i64 (i : Int)) := hp 3 35 (by kernel_rfl)
            refine hop_val (wanted_none rfl) ?_ (hKq (.pointer (some ⟨gR, 0 + i * 2, none⟩)) _ rfl (Below.refl _ _))
            unfold execOp; simp only [eval_const, Option.map_some, Option.map_none, e34, e35]; simp [run_ixP0 hiN1]
          · intro a w1 hB ho hp Kq hKq
            have e36 : a.eval (.tmp 36) = (.pointer (some ⟨gR, 0 + i * 2, none⟩)) := hp 4 36 (by kernel_rfl)
            exact hop_load (wanted_none rfl) rfl e36 (run_ldz ((hB.cell (p := ⟨gR, 0 + i * 2, none⟩) hgl).trans (by rw [Nat.zero_add]; exact x1)) ((hB.cell (p := ⟨gR, 0 + i * 2 + 1, none⟩) hgl).trans (by rw [Nat.zero_add]; exact x2))) (hKq _ _ rfl (Below.refl _ _))
          · intro a w1 hB ho hp Kq hKq
            have e9 : a.eval (.tmp 9) = (.pointer (some ⟨gP, 0, none⟩)) := ho 9 (by kernel_rfl)
            obtain ⟨u1, u2, u3, u4, u5⟩ := H_p.out.below hB
            exact hop_load (wanted_none rfl) rfl e9 (run_ldz u1 u2) (hKq _ _ rfl (Below.refl _ _))
          · intro a w1 hB ho hp Kq hKq
            have e37 : a.eval (.tmp 37) = (.agg #[.bool s1, .slice A1 n1 d1]) := hp 5 37 (by kernel_rfl)
            have e38 : a.eval (.tmp 38) = (.agg #[.bool sp, .slice Ap np cp]) := hp 6 38 (by kernel_rfl)
            refine hop_call (wanted_none rfl) rfl (args := #[(.agg #[.bool s1, .slice A1 n1 d1]), (.agg #[.bool sp, .slice Ap np cp])]) (by simp only [List.map_toArray, List.map_cons, List.map_nil, eval_const, e37, e38]) (ent7 (by kernel_rfl) _ _) (zmul_v (zc.below hB).zv (hpP.below hB).zv (by omega) (by omega)) ?_
            rintro e w2 ⟨sq, Aq, nq, cq, rfl, pq, kq, Bq⟩
            exact ⟨_, rfl, hKq _ _ ⟨sq, Aq, nq, cq, rfl, pq, by omega⟩ Bq⟩
          · intro a w1 hB ho hp Kq hKq
            have e32 : a.eval (.tmp 32) = (.slice (some ⟨gR, 0, none⟩) N' N') := hp 0 32 (by kernel_rfl)
            have e33 : a.eval (.tmp 33) = (.int .i64 (i : Int)) := hp 1 33 (by kernel_rfl)
            refine hop_val (wanted_none rfl) ?_ (hKq (.pointer (some ⟨gR, 0 + i * 2, none⟩)) _ rfl (Below.refl _ _))
            unfold execOp; simp only [eval_const, Option.map_some, Option.map_none, e32, e33]; simp [run_ixP0 hiN1]
        intro w23 B23
        refine EndAll.one rfl fun vv hv => ?_
        obtain rfl : vv = (.slice (some ⟨gR, 0, none⟩) N' N') := hv
        refine EndAll.one rfl fun vv hv => ?_
        obtain rfl : vv = (.int .i64 (i : Int)) := hv
        refine EndAll.one rfl fun vv hv => ?_
        obtain rfl : vv = (.slice (some ⟨gR, 0, none⟩) N' N') := hv
        refine EndAll.one rfl fun vv hv => ?_
        obtain rfl : vv = (.int .i64 (i : Int)) := hv
        refine EndAll.one rfl fun vv hv => ?_
        obtain rfl : vv = (.pointer (some ⟨gR, 0 + i * 2, none⟩)) := hv
        refine EndAll.one rfl fun vv hv => ?_
        obtain rfl : vv = (.agg #[.bool s1, .slice A1 n1 d1]) := hv
        refine EndAll.one rfl fun vv hv => ?_
        obtain rfl : vv = (.agg #[.bool sp, .slice Ap np cp]) := hv
        refine EndAll.one rfl fun vv hv => ?_
        obtain ⟨s24, A24, n24, c24, rfl, ⟨p24, k24⟩⟩ : IsC (x * pw) (k + 1 + T) vv w23 := hv
        refine EndAll.one rfl fun vv hv => ?_
        obtain rfl : vv = (.pointer (some ⟨gR, 0 + i * 2, none⟩)) := hv
        refine EndAll.nil (l := [_]) rfl ?_
        simp only [Act.put, List.setIfInBounds_toArray, List.set_cons_zero, List.set_cons_succ]
        replace H_p := Lib.hid (H_p.out.below B23)
        replace zc := zc.below B23
        replace hpP := hpP.below B23
        replace hW := hW.trans (B23.mono hW.size)
        replace HR := Lib.hid (HR.out.below B23)
        replace HQ := Lib.hid (HQ.out.below B23)
        have pz := p24
        clear p24
        clear B23
        have kz := k24
        clear zc x1 x2
        obtain ⟨t1, t2, t3, t4, x1, x2, -, -⟩ := HR.out.cells (j := i) (by omega)
        have y1 := HR.out.free (i * 2)
        have y2 := HR.out.free (i * 2 + 1)
        have hno := HR.out.now
        have hgr := zputo_gro w23 gR (i * 2) s24 A24 n24 c24
        have hq := HR.out.put (j := i) (by omega) pz kz
        obtain ⟨w25, hw25⟩ : ∃ xw, xw = zputo w23 gR (i * 2) s24 A24 n24 c24 := ⟨_, rfl⟩
        rw [← hw25] at hq hgr
        have HW25 : Hid ((w23.setCell ⟨gR, i * 2, none⟩ (.bool s24)).setCell ⟨gR, i * 2 + 1, none⟩ (.slice A24 n24 c24) = w25) := Lib.hid hw25.symm
        replace HQ := Lib.hid (HQ.out.gro (by omega) hno hgr)
        replace HR := Lib.hid hq
        replace hpP := hpP.gro hno hgr
        replace pz := pz.gro hno hgr
        replace hW := gro_up hW hgr hgR2
        have O_p := H_p
        replace H_p := Lib.hid (H_p.out.gro hgr (by omega))
        clear hq hw25 hno hgr
        obtain ⟨p1, p2, p3, p4, p5⟩ := O_p.out
        go_upto_region 10 with fail
        rw [HW25.out]
        clear x1 x2 y1 y2 O_p p1 p2 p3 p4 p5
        clear pz
        have HR1 : Hid (R.set i (ith (nrz zs) i * l ^ (m - (i + 1))) = R.set i (x * pw)) := Lib.hid (by rw [HXv.out, Ht.out, HPW.out])
        obtain ⟨R1, hR1⟩ : ∃ R1, R.set i (x * pw) = R1 := ⟨_, rfl⟩
        rw [hR1] at HR HR1
        have hR1l : R1.length = N' := by rw [← hR1, List.length_set]; exact hRl
        clear hR1
        obtain ⟨ad2, e2, hab, s2, A2, n2, d2, c1, c2, ze, kz2⟩ := (HYT.out.below hW).at (j := D) (by omega)
        cases e2
        rw [HLd.out] at ze
        have hv := ze.1
        clear ze
        obtain ⟨p1, p2, p3, p4, p5⟩ := H_p.out
        go_wp2_with fail
        clear p1 p2 p3 p4 p5
        refine region8 [] 6 [IsK (.agg #[.bool sp, .slice Ap np cp]), IsK (.slice (some ad) n' c'), IsK (.int .i64 (D : Int)), IsK (.pointer (some (ad.add (D * 2)))), IsK (.agg #[.bool s2, .slice A2 n2 d2]), IsC (pw * l) (1 + (t * k' + k'))] (fun _ _ d _ _ h => by cases d <;> exact h) (by kernel_rfl) (by kernel_rfl) (by kernel_rfl) ⟨stay_k _, stay_k _, stay_k _, stay_k _, stay_k _, stay_c _ _, trivial⟩ ?_ ?_
        · refine HopAll.cons rfl ?_ (HopAll.cons rfl ?_ (HopAll.cons rfl ?_ (HopAll.cons rfl ?_ (HopAll.cons rfl ?_ (HopAll.cons rfl ?_ HopAll.nil)))))
          · intro a w1 hB ho hp Kq hKq
            have e9 : a.eval (.tmp 9) = (.pointer (some ⟨gP, 0, none⟩)) := ho 9 (by kernel_rfl)
            obtain ⟨u1, u2, u3, u4, u5⟩ := H_p.out.below hB
            exact hop_load (wanted_none rfl) rfl e9 (run_ldz u1 u2) (hKq _ _ rfl (Below.refl _ _))
          · intro a w1 hB ho hp Kq hKq
            have e1 : a.eval (.tmp 1) = (.slice (some ad) n' c') := ho 1 (by kernel_rfl)
            refine hop_val (wanted_none rfl) ?_ (hKq (.slice (some ad) n' c') _ rfl (Below.refl _ _))
            unfold execOp; simp only [eval_const, e1]; simp [go_sem]
          · intro a w1 hB ho hp Kq hKq
            have e7 : a.eval (.tmp 7) = (.int .i64 (D : Int)) := ho 7 (by kernel_rfl)
            refine hop_val (wanted_none rfl) ?_ (hKq (.int .i64 (D : Int)) _ rfl (Below.refl _ _))
            unfold execOp; simp only [eval_const, e7]; simp [go_sem]
          · intro a w1 hB ho hp Kq hKq
            have e42 : a.eval (.tmp 42) = (.slice (some ad) n' c') := hp 1 42 (by kernel_rfl)
            have e43 : a.eval (.tmp 43) = (.int .i64 (D : Int)) := hp 2 43 (by kernel_rfl)
            refine hop_val (wanted_none rfl) ?_ (hKq (.pointer (some (ad.add (D * 2)))) _ rfl (Below.refl _ _))
            unfold execOp; simp only [eval_const, Option.map_some, Option.map_none, e42, e43]; simp [run_ixP hDn]
          · intro a w1 hB ho hp Kq hKq
            have e44 : a.eval (.tmp 44) = (.pointer (some (ad.add (D * 2)))) := hp 3 44 (by kernel_rfl)
            exact hop_load (wanted_none rfl) rfl e44 (run_ldzA ((hB.cell (p := ad.add (D * 2)) (by rw [add_block]; exact hab)).trans c1) ((hB.cell (p := ⟨(ad.add (D * 2)).block, (ad.add (D * 2)).off + 1, none⟩) (by show (ad.add (D * 2)).block < _; rw [add_block]; exact hab)).trans c2)) (hKq _ _ rfl (Below.refl _ _))
          · intro a w1 hB ho hp Kq hKq
            have e41 : a.eval (.tmp 41) = (.agg #[.bool sp, .slice Ap np cp]) := hp 0 41 (by kernel_rfl)
            have e45 : a.eval (.tmp 45) = (.agg #[.bool s2, .slice A2 n2 d2]) := hp 4 45 (by kernel_rfl)
            refine hop_call (wanted_none rfl) rfl (args := #[(.agg #[.bool sp, .slice Ap np cp]), (.agg #[.bool s2, .slice A2 n2 d2])]) (by simp only [List.map_toArray, List.map_cons, List.map_nil, eval_const, e41, e45]) (ent7 (by kernel_rfl) _ _) (zmul_v (hpP.below hB).zv (hv.below hB) (by omega) (by omega)) ?_
            rintro e w2 ⟨sq, Aq, nq, cq, rfl, pq, kq, Bq⟩
            exact ⟨_, rfl, hKq _ _ ⟨sq, Aq, nq, cq, rfl, pq, by omega⟩ Bq⟩
        intro w26 B26
        refine EndAll.one rfl fun vv hv => ?_
        obtain rfl : vv = (.agg #[.bool sp, .slice Ap np cp]) := hv
        refine EndAll.one rfl fun vv hv => ?_
        obtain rfl : vv = (.slice (some ad) n' c') := hv
        refine EndAll.one rfl fun vv hv => ?_
        obtain rfl : vv = (.int .i64 (D : Int)) := hv
        refine EndAll.one rfl fun vv hv => ?_
        obtain rfl : vv = (.pointer (some (ad.add (D * 2)))) := hv
        refine EndAll.one rfl fun vv hv => ?_
        obtain rfl : vv = (.agg #[.bool s2, .slice A2 n2 d2]) := hv
        refine EndAll.one rfl fun vv hv => ?_
        obtain ⟨s27, A27, n27, c27, rfl, ⟨p27, k27⟩⟩ : IsC (pw * l) (1 + (t * k' + k')) vv w26 := hv
        refine EndAll.nil (l := [_]) rfl ?_
        simp only [Act.put, List.setIfInBounds_toArray, List.set_cons_zero, List.set_cons_succ]
        replace H_p := Lib.hid (H_p.out.below B26)
        replace hpP := hpP.below B26
        replace hv := hv.below B26
        replace hW := hW.trans (B26.mono hW.size)
        replace HR := Lib.hid (HR.out.below B26)
        replace HQ := Lib.hid (HQ.out.below B26)
        have pp := p27
        clear p27
        clear B26
        have kp := k27
        clear hpP c1 c2 hab hv
        have O_p := H_p
        obtain ⟨w28, hw28⟩ : ∃ xw, xw = zput w26 gP s27 A27 n27 c27 := ⟨_, rfl⟩
        have HW28 : Hid (((w26.setCell ⟨gP, 0, none⟩ (.bool s27)).setCell ⟨gP, 1, none⟩ (.slice A27 n27 c27)) = w28) := Lib.hid hw28.symm
        have OI := H_p.out
        replace HR := Lib.hid (HR.out.zput (gP := gP) (s := s27) (A := A27) (n := n27) (c := c27) (by omega) OI)
        rw [← hw28] at HR
        replace HQ := Lib.hid (HQ.out.zput (gP := gP) (s := s27) (A := A27) (n := n27) (c := c27) (by omega) OI)
        rw [← hw28] at HQ
        replace pp := pp.zput (s' := s27) (A' := A27) (n' := n27) (c' := c27) OI
        rw [← hw28] at pp
        replace hW : Below w.heap.size w w28 := by rw [hw28]; exact below_put hW lw_p
        replace H_p : Hid (Ib w28 gP s27 A27 n27 c27) := Lib.hid (by rw [hw28]; exact OI.own)
        clear hw28 OI
        obtain ⟨p1, p2, p3, p4, p5⟩ := O_p.out
        go_upto_region 11 with fail
        rw [HW28.out]
        clear p1 p2 p3 p4 p5 O_p
        obtain ⟨iD, hiD0⟩ : ∃ q, i + D = q := ⟨_, rfl⟩
        have hiD : (i : Int) + (D : Int) = (iD : Int) := by omega
        have hWi : IntKind.i64.wrap ((i : Int) + (D : Int)) = (iD : Int) := by rw [IntKind.wrap_i64]; omega
        have HID := Lib.hid hiD0
        rw [hiD0] at hiN
        obtain ⟨s3, A3, n3, d3, z1, z2, zq, kq⟩ := HR.out.cells (j := iD) (by omega)
        obtain ⟨qv, hqv⟩ : ∃ qv, ith R1 iD = qv := ⟨_, rfl⟩
        have HQV := Lib.hid hqv
        rw [hqv] at zq
        have u2 : (0 : Int) ≤ (iD : Int) := by omega
        have u3 : (iD : Int) < (N' : Int) := by omega
        have u4 : (i : Int) < (m : Int) := by omega
        clear hiD0 hqv
        obtain ⟨t1, t2, t3, t4, x1, x2, -, -⟩ := HQ.out.cells (j := i) (by omega)
        have y1 := HQ.out.free (i * 2)
        have y2 := HQ.out.free (i * 2 + 1)
        have hno := HQ.out.now
        have hgr := zputo_gro w28 gQ (i * 2) s3 A3 n3 d3
        have hq := HQ.out.put (j := i) (by omega) zq (by omega)
        obtain ⟨w29, hw29⟩ : ∃ xw, xw = zputo w28 gQ (i * 2) s3 A3 n3 d3 := ⟨_, rfl⟩
        rw [← hw29] at hq hgr
        have HW29 : Hid ((w28.setCell ⟨gQ, i * 2, none⟩ (.bool s3)).setCell ⟨gQ, i * 2 + 1, none⟩ (.slice A3 n3 d3) = w29) := Lib.hid hw29.symm
        replace HR := Lib.hid (HR.out.gro (by omega) hno hgr)
        replace HQ := Lib.hid hq
        replace pp := pp.gro hno hgr
        replace zq := zq.gro hno hgr
        replace hW := gro_up hW hgr hgQ2
        have O_p := H_p
        replace H_p := Lib.hid (H_p.out.gro hgr (by omega))
        clear hq hw29 hno hgr
        obtain ⟨p1, p2, p3, p4, p5⟩ := O_p.out
        go_upto_region 12 with fail
        rw [HW29.out]
        clear x1 x2 y1 y2 O_p p1 p2 p3 p4 p5
        clear z1 z2
        obtain ⟨ad2, e2, hab, s2, A2, n2, d2, c1, c2, ze, kz2⟩ := (HYT.out.below hW).at (j := D) (by omega)
        cases e2
        rw [HLd.out] at ze
        have hv := ze.1
        clear ze
        have hW58 : Hid (IntKind.i64.wrap ((i : Int) + (D : Int)) = (iD : Int)) := Lib.hid hWi
        clear hWi
        have hij : i ≤ iD := by omega
        have hjN : iD ≤ N' := by omega
        obtain ⟨p1, p2, p3, p4, p5⟩ := H_p.out
        go_wp2_with fail
        clear p1 p2 p3 p4 p5
        refine region8 [] 10 [IsK (.slice (some ⟨gR, 0, none⟩) N' N'), IsK (.int .i64 (i : Int)), IsK (.int .i64 (i : Int)), IsK (.int .i64 (D : Int)), IsK (.int .i64 (iD : Int)), IsK (.slice (some ⟨gR, i * 2, none⟩) (iD - i) (N' - i)), IsK (.slice (some ad) n' c'), IsK (.int .i64 (D : Int)), IsK (.pointer (some (ad.add (D * 2)))), IsK (.agg #[.bool s2, .slice A2 n2 d2])] (fun _ _ d _ _ h => by cases d <;> exact h) (by kernel_rfl) (by kernel_rfl) (by kernel_rfl) ⟨stay_k _, stay_k _, stay_k _, stay_k _, stay_k _, stay_k _, stay_k _, stay_k _, stay_k _, stay_k _, trivial⟩ ?_ ?_
        · refine HopAll.cons rfl ?_ (HopAll.cons rfl ?_ (HopAll.cons rfl ?_ (HopAll.cons rfl ?_ (HopAll.cons rfl ?_ (HopAll.cons rfl ?_ (HopAll.cons rfl ?_ (HopAll.cons rfl ?_ (HopAll.cons rfl ?_ (HopAll.cons rfl ?_ HopAll.nil)))))))))
          · intro a w1 hB ho hp Kq hKq
            have e8 : a.eval (.tmp 8) = (.slice (some ⟨gR, 0, none⟩) N' N') := ho 8 (by kernel_rfl)
            refine hop_val (wanted_none rfl) ?_ (hKq (.slice (some ⟨gR, 0, none⟩) N' N') _ rfl (Below.refl _ _))
            unfold execOp; simp only [eval_const, e8]; simp [go_sem]
          · intro a w1 hB ho hp Kq hKq
            have e11 : a.eval (.tmp 11) = (.int .i64 (i : Int)) := ho 11 (by kernel_rfl)
            refine hop_val (wanted_none rfl) ?_ (hKq (.int .i64 (i : Int)) _ rfl (Below.refl _ _))
            unfold execOp; simp only [eval_const, e11]; simp [go_sem]
          · intro a w1 hB ho hp Kq hKq
            have e11 : a.eval (.tmp 11) = (.int .i64 (i : Int)) := ho 11 (by kernel_rfl)
            refine hop_val (wanted_none rfl) ?_ (hKq (.int .i64 (i : Int)) _ rfl (Below.refl _ _))
            unfold execOp; simp only [eval_const, e11]; simp [go_sem]
          · intro a w1 hB ho hp Kq hKq
            have e7 : a.eval (.tmp 7) = (.int .i64 (D : Int)) := ho 7 (by kernel_rfl)
            refine hop_val (wanted_none rfl) ?_ (hKq (.int .i64 (D : Int)) _ rfl (Below.refl _ _))
            unfold execOp; simp only [eval_const, e7]; simp [go_sem]
          · intro a w1 hB ho hp Kq hKq
            have e58 : a.eval (.tmp 58) = (.int .i64 (i : Int)) := hp 2 58 (by kernel_rfl)
            have e59 : a.eval (.tmp 59) = (.int .i64 (D : Int)) := hp 3 59 (by kernel_rfl)
            refine hop_val (wanted_none rfl) ?_ (hKq (.int .i64 (iD : Int)) _ rfl (Below.refl _ _))
            unfold execOp; simp only [eval_const, e58, e59]; simp [go_sem, hW58.out]
          · intro a w1 hB ho hp Kq hKq
            have e56 : a.eval (.tmp 56) = (.slice (some ⟨gR, 0, none⟩) N' N') := hp 0 56 (by kernel_rfl)
            have e57 : a.eval (.tmp 57) = (.int .i64 (i : Int)) := hp 1 57 (by kernel_rfl)
            have e60 : a.eval (.tmp 60) = (.int .i64 (iD : Int)) := hp 4 60 (by kernel_rfl)
            refine hop_val (wanted_none rfl) ?_ (hKq (.slice (some ⟨gR, i * 2, none⟩) (iD - i) (N' - i)) _ rfl (Below.refl _ _))
            unfold execOp; simp only [eval_const, Option.map_some, Option.map_none, e56, e57, e60]; simp [run_sij hij hjN hiN1]
          · intro a w1 hB ho hp Kq hKq
            have e1 : a.eval (.tmp 1) = (.slice (some ad) n' c') := ho 1 (by kernel_rfl)
            refine hop_val (wanted_none rfl) ?_ (hKq (.slice (some ad) n' c') _ rfl (Below.refl _ _))
            unfold execOp; simp only [eval_const, e1]; simp [go_sem]
          · intro a w1 hB ho hp Kq hKq
            have e7 : a.eval (.tmp 7) = (.int .i64 (D : Int)) := ho 7 (by kernel_rfl)
            refine hop_val (wanted_none rfl) ?_ (hKq (.int .i64 (D : Int)) _ rfl (Below.refl _ _))
            unfold execOp; simp only [eval_const, e7]; simp [go_sem]
          · intro a w1 hB ho hp Kq hKq
            have e62 : a.eval (.tmp 62) = (.slice (some ad) n' c') := hp 6 62 (by kernel_rfl)
            have e63 : a.eval (.tmp 63) = (.int .i64 (D : Int)) := hp 7 63 (by kernel_rfl)
            refine hop_val (wanted_none rfl) ?_ (hKq (.pointer (some (ad.add (D * 2)))) _ rfl (Below.refl _ _))
            unfold execOp; simp only [eval_const, Option.map_some, Option.map_none, e62, e63]; simp [run_ixP hDn]
          · intro a w1 hB ho hp Kq hKq
            have e64 : a.eval (.tmp 64) = (.pointer (some (ad.add (D * 2)))) := hp 8 64 (by kernel_rfl)
            exact hop_load (wanted_none rfl) rfl e64 (run_ldzA ((hB.cell (p := ad.add (D * 2)) (by rw [add_block]; exact hab)).trans c1) ((hB.cell (p := ⟨(ad.add (D * 2)).block, (ad.add (D * 2)).off + 1, none⟩) (by show (ad.add (D * 2)).block < _; rw [add_block]; exact hab)).trans c2)) (hKq _ _ rfl (Below.refl _ _))
        intro w30 B30
        refine EndAll.one rfl fun vv hv => ?_
        obtain rfl : vv = (.slice (some ⟨gR, 0, none⟩) N' N') := hv
        refine EndAll.one rfl fun vv hv => ?_
        obtain rfl : vv = (.int .i64 (i : Int)) := hv
        refine EndAll.one rfl fun vv hv => ?_
        obtain rfl : vv = (.int .i64 (i : Int)) := hv
        refine EndAll.one rfl fun vv hv => ?_
        obtain rfl : vv = (.int .i64 (D : Int)) := hv
        refine EndAll.one rfl fun vv hv => ?_
        obtain rfl : vv = (.int .i64 (iD : Int)) := hv
        refine EndAll.one rfl fun vv hv => ?_
        obtain rfl : vv = (.slice (some ⟨gR, i * 2, none⟩) (iD - i) (N' - i)) := hv
        refine EndAll.one rfl fun vv hv => ?_
        obtain rfl : vv = (.slice (some ad) n' c') := hv
        refine EndAll.one rfl fun vv hv => ?_
        obtain rfl : vv = (.int .i64 (D : Int)) := hv
        refine EndAll.one rfl fun vv hv => ?_
        obtain rfl : vv = (.pointer (some (ad.add (D * 2)))) := hv
        refine EndAll.one rfl fun vv hv => ?_
        obtain rfl : vv = (.agg #[.bool s2, .slice A2 n2 d2]) := hv
        refine EndAll.nil (l := [_]) rfl ?_
        simp only [Act.put, List.setIfInBounds_toArray, List.set_cons_zero, List.set_cons_succ]
        replace H_p := Lib.hid (H_p.out.below B30)
        replace pp := pp.below B30
        replace zq := zq.below B30
        replace hv := hv.below B30
        replace hW := hW.trans (B30.mono hW.size)
        replace HR := Lib.hid (HR.out.below B30)
        replace HQ := Lib.hid (HQ.out.below B30)
        clear B30
        have hRb := HR.out
        have hiDd : iD - i = D := by have := HID.out; omega
        rw [hiDd]
        obtain ⟨p1, p2, p3, p4, p5⟩ := H_p.out
        go_wp2_with fail
        clear p1 p2 p3 p4 p5
        refine (zmultiply_v (K := k + 1 + T + k') hRb hv (by have := HID.out; omega) (by omega) (by omega) (by omega)).mono ?_
        rintro e w6 ⟨rfl, hb6, hg6⟩
        have hno := hRb.now
        replace hW := gro_up hW hg6 hgR2
        replace HQ := Lib.hid (HQ.out.gro (fun e => hRQ e.symm) hno hg6)
        replace H_p := Lib.hid (H_p.out.gro hg6 hPR)
        replace pp := pp.gro hno hg6
        replace zq := zq.gro hno hg6
        replace HR := Lib.hid hb6
        clear hRb hb6 hg6 hno hv c1 c2 hab
        obtain ⟨s4, A4, n4, d4, z1, z2, zq4, kq4⟩ := HQ.out.cells (j := i) (by rw [List.length_set]; omega)
        rw [ith_set0 _ _ _ _ (by omega), if_pos rfl] at zq4
        have kn4 : n4 ≤ k + 1 + T := by have := zq4.words.trans zq.words.symm; omega
        have hgq := HQ.out.lt
        have him : i < m := by omega
        clear zq
        obtain ⟨p1, p2, p3, p4, p5⟩ := H_p.out
        go_wp2_with fail
        clear p1 p2 p3 p4 p5
        refine region8 [] 11 [IsK (.slice (some ⟨gR, 0, none⟩) N' N'), IsK (.int .i64 (i : Int)), IsK (.slice (some ⟨gR, i * 2, none⟩) (N' - i) (N' - i)), IsK (.slice (some ad) n' c'), IsK (.int .i64 (D : Int)), IsK (.slice (some ad) D c'), IsK (.slice (some ⟨gQ, 0, none⟩) m m), IsK (.int .i64 (i : Int)), IsK (.pointer (some ⟨gQ, 0 + i * 2, none⟩)), IsK (.agg #[.bool s4, .slice A4 n4 d4]), IsC (-qv) (k + 1 + T)] (fun _ _ d _ _ h => by cases d <;> exact h) (by kernel_rfl) (by kernel_rfl) (by kernel_rfl) ⟨stay_k _, stay_k _, stay_k _, stay_k _, stay_k _, stay_k _, stay_k _, stay_k _, stay_k _, stay_k _, stay_c _ _, trivial⟩ ?_ ?_
        · refine HopAll.cons rfl ?_ (HopAll.cons rfl ?_ (HopAll.cons rfl ?_ (HopAll.cons rfl ?_ (HopAll.cons rfl ?_ (HopAll.cons rfl ?_ (HopAll.cons rfl ?_ (HopAll.cons rfl ?_ (HopAll.cons rfl ?_ (HopAll.cons rfl ?_ (HopAll.cons rfl ?_ HopAll.nil))))))))))
          · intro a w1 hB ho hp Kq hKq
            have e8 : a.eval (.tmp 8) = (.slice (some ⟨gR, 0, none⟩) N' N') := ho 8 (by kernel_rfl)
            refine hop_val (wanted_none rfl) ?_ (hKq (.slice (some ⟨gR, 0, none⟩) N' N') _ rfl (Below.refl _ _))
            unfold execOp; simp only [eval_const, e8]; simp [go_sem]
          · intro a w1 hB ho hp Kq hKq
            have e11 : a.eval (.tmp 11) = (.int .i64 (i : Int)) := ho 11 (by kernel_rfl)
            refine hop_val (wanted_none rfl) ?_ (hKq (.int .i64 (i : Int)) _ rfl (Below.refl _ _))
            unfold execOp; simp only [eval_const, e11]; simp [go_sem]
          · intro a w1 hB ho hp Kq hKq
            have e67 : a.eval (.tmp 67) = (.slice (some ⟨gR, 0, none⟩) N' N') := hp 0 67 (by kernel_rfl)
            have e68 : a.eval (.tmp 68) = (.int .i64 (i : Int)) := hp 1 68 (by kernel_rfl)
            refine hop_val (wanted_none rfl) ?_ (hKq (.slice (some ⟨gR, i * 2, none⟩) (N' - i) (N' - i)) _ rfl (Below.refl _ _))
            unfold execOp; simp only [eval_const, Option.map_some, Option.map_none, e67, e68]; simp [run_sdP hiN1 (Nat.le_refl N')]
          · intro a w1 hB ho hp Kq hKq
            have e1 : a.eval (.tmp 1) = (.slice (some ad) n' c') := ho 1 (by kernel_rfl)
            refine hop_val (wanted_none rfl) ?_ (hKq (.slice (some ad) n' c') _ rfl (Below.refl _ _))
            unfold execOp; simp only [eval_const, e1]; simp [go_sem]
          · intro a w1 hB ho hp Kq hKq
            have e7 : a.eval (.tmp 7) = (.int .i64 (D : Int)) := ho 7 (by kernel_rfl)
            refine hop_val (wanted_none rfl) ?_ (hKq (.int .i64 (D : Int)) _ rfl (Below.refl _ _))
            unfold execOp; simp only [eval_const, e7]; simp [go_sem]
          · intro a w1 hB ho hp Kq hKq
            have e70 : a.eval (.tmp 70) = (.slice (some ad) n' c') := hp 3 70 (by kernel_rfl)
            have e71 : a.eval (.tmp 71) = (.int .i64 (D : Int)) := hp 4 71 (by kernel_rfl)
            refine hop_val (wanted_none rfl) ?_ (hKq (.slice (some ad) D c') _ rfl (Below.refl _ _))
            unfold execOp; simp only [eval_const, Option.map_some, Option.map_none, e70, e71]; simp [run_slP (Nat.le_of_lt hDn) hnd]
          · intro a w1 hB ho hp Kq hKq
            have e10 : a.eval (.tmp 10) = (.slice (some ⟨gQ, 0, none⟩) m m) := ho 10 (by kernel_rfl)
            refine hop_val (wanted_none rfl) ?_ (hKq (.slice (some ⟨gQ, 0, none⟩) m m) _ rfl (Below.refl _ _))
            unfold execOp; simp only [eval_const, e10]; simp [go_sem]
          · intro a w1 hB ho hp Kq hKq
            have e11 : a.eval (.tmp 11) = (.int .i64 (i : Int)) := ho 11 (by kernel_rfl)
            refine hop_val (wanted_none rfl) ?_ (hKq (.int .i64 (i : Int)) _ rfl (Below.refl _ _))
            unfold execOp; simp only [eval_const, e11]; simp [go_sem]
          · intro a w1 hB ho hp Kq hKq
            have e73 : a.eval (.tmp 73) = (.slice (some ⟨gQ, 0, none⟩) m m) := hp 6 73 (by kernel_rfl)
            have e74 : a.eval (.tmp 74) = (.int .i64 (i : Int)) := hp 7 74 (by kernel_rfl)
            refine hop_val (wanted_none rfl) ?_ (hKq (.pointer (some ⟨gQ, 0 + i * 2, none⟩)) _ rfl (Below.refl _ _))
            unfold execOp; simp only [eval_const, Option.map_some, Option.map_none, e73, e74]; simp [run_ixP0 him]
          · intro a w1 hB ho hp Kq hKq
            have e75 : a.eval (.tmp 75) = (.pointer (some ⟨gQ, 0 + i * 2, none⟩)) := hp 8 75 (by kernel_rfl)
            exact hop_load (wanted_none rfl) rfl e75 (run_ldz ((hB.cell (p := ⟨gQ, 0 + i * 2, none⟩) hgq).trans (by rw [Nat.zero_add]; exact z1)) ((hB.cell (p := ⟨gQ, 0 + i * 2 + 1, none⟩) hgq).trans (by rw [Nat.zero_add]; exact z2))) (hKq _ _ rfl (Below.refl _ _))
          · intro a w1 hB ho hp Kq hKq
            have e76 : a.eval (.tmp 76) = (.agg #[.bool s4, .slice A4 n4 d4]) := hp 9 76 (by kernel_rfl)
            refine hop_call (wanted_none rfl) rfl (args := #[(.agg #[.bool s4, .slice A4 n4 d4])]) (by simp only [List.map_toArray, List.map_cons, List.map_nil, eval_const, e76]) (ent7 (by kernel_rfl) _ _) (zneg_v (zq4.below hB).zv (by omega)) ?_
            rintro e w2 ⟨sq, Aq, nq, cq, rfl, pq, kq, Bq⟩
            exact ⟨_, rfl, hKq _ _ ⟨sq, Aq, nq, cq, rfl, pq, by omega⟩ Bq⟩
        intro w31 B31
        refine EndAll.one rfl fun vv hv => ?_
        obtain rfl : vv = (.slice (some ⟨gR, 0, none⟩) N' N') := hv
        refine EndAll.one rfl fun vv hv => ?_
        obtain rfl : vv = (.int .i64 (i : Int)) := hv
        refine EndAll.one rfl fun vv hv => ?_
        obtain rfl : vv = (.slice (some ⟨gR, i * 2, none⟩) (N' - i) (N' - i)) := hv
        refine EndAll.one rfl fun vv hv => ?_
        obtain rfl : vv = (.slice (some ad) n' c') := hv
        refine EndAll.one rfl fun vv hv => ?_
        obtain rfl : vv = (.int .i64 (D : Int)) := hv
        refine EndAll.one rfl fun vv hv => ?_
        obtain rfl : vv = (.slice (some ad) D c') := hv
        refine EndAll.one rfl fun vv hv => ?_
        obtain rfl : vv = (.slice (some ⟨gQ, 0, none⟩) m m) := hv
        refine EndAll.one rfl fun vv hv => ?_
        obtain rfl : vv = (.int .i64 (i : Int)) := hv
        refine EndAll.one rfl fun vv hv => ?_
        obtain rfl : vv = (.pointer (some ⟨gQ, 0 + i * 2, none⟩)) := hv
        refine EndAll.one rfl fun vv hv => ?_
        obtain rfl : vv = (.agg #[.bool s4, .slice A4 n4 d4]) := hv
        refine EndAll.one rfl fun vv hv => ?_
        obtain ⟨s32, A32, n32, c32, rfl, ⟨p32, k32⟩⟩ : IsC (-qv) (k + 1 + T) vv w31 := hv
        refine EndAll.nil (l := [_]) rfl ?_
        simp only [Act.put, List.setIfInBounds_toArray, List.set_cons_zero, List.set_cons_succ]
        replace H_p := Lib.hid (H_p.out.below B31)
        replace pp := pp.below B31
        replace zq4 := zq4.below B31
        replace hW := hW.trans (B31.mono hW.size)
        replace HR := Lib.hid (HR.out.below B31)
        replace HQ := Lib.hid (HQ.out.below B31)
        have pn := p32
        clear p32
        clear B31
        have kn := k32
        have hyT : ZL q' w31 (some ad) D c' k' ((nrz zs').take D) := (HYT.out.below hW).take (by omega) (by omega) hdm
        have hRb := HR.out
        have hDg : ∀ ad', (some ad : Option Addr) = some ad' → ad'.block ≠ gR := fun ad' e => by
          obtain ⟨ad2, e2, hlt2, _⟩ := HYT.out.at' (by omega)
          rw [e] at e2; cases e2; omega
        clear z1 z2 zq4
        obtain ⟨p1, p2, p3, p4, p5⟩ := H_p.out
        go_wp2_with fail
        clear p1 p2 p3 p4 p5
        refine (zgather_v (K := k + 1 + (m - i) * (k' + 1)) hRb hyT hDg pn.zv (by rw [upd_length]; have := HID.out; omega) (by omega) (by rw [HTT.out]; omega) (by rw [HTT.out]; omega) (by omega)).mono ?_
        rintro e w9 ⟨rfl, hb9, hg9⟩
        have hno := hRb.now
        have hW9 := Lib.hid (gro_up hW hg9 hgR2)
        have HQ9 := Lib.hid (HQ.out.gro (fun e => hRQ e.symm) hno hg9)
        have HP9 := Lib.hid (H_p.out.gro hg9 hPR)
        have pp9 := Lib.hid (pp.gro hno hg9)
        have HR9 := Lib.hid hb9
        have hpe : pw * l = l ^ (m - i) := by rw [Ht2.out, Int.pow_succ, HPW.out]
        rw [hpe] at pp9
        have HM9 := psmid_step HMid.out (by rw [nrz_length, HN.out]; exact HM.out) (by omega) HBL.out (by rw [HLd.out]; exact hl0) (nz_nrz _) (R' := gat (upd R1 i D fun j => l * ith R1 j) i ((nrz zs').take D) (-qv)) (by
          rw [HLd.out, HR1.out, ← HLd.out]
          exact pswin_of (by rw [HID.out, HQV.out]) HBL.out (by rw [HID.out, hR1l]; exact hiN))
        rw [HLd.out, HR1.out, HID.out, HQV.out] at HM9
        have HM10 := Lib.hid HM9
        clear hRb hyT hDg hb9 hg9 pn pp hW HR HQ H_p HM9 hpe hno
        go_wp2_with fail
        go_roundw
        case rel => exact ⟨i, by go_num, by omega, Lib.hid ⟨hW9.out, ⟨_, _, _, _, HP9.out, pp9.out, by rw [HTk.out]; exact kp⟩, _, _, HR9.out, HQ9.out, HM10.out⟩⟩
        case measure => first | (simp [intOf]; done) | (simp [intOf]; omega)
end Go.Proofs.YtddbhhedjipjkaaGreatDoor
