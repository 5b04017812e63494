/-
  ZlH
-/
import Derived.Test.YtddbhhedjipjkaaGreatDoorPk39

/-! Contracts of polynomials over the whole numbers: exact quotients. -/
namespace Go.Proofs.YtddbhhedjipjkaaGreatDoor
open Go.RowKit
set_option linter.unusedVariables false
set_option linter.unusedSimpArgs false

/-- An exact quotient is answered, or none. -/
def ZexPost (a b : List Int) (k : Nat) (w : World) (e : Ending) (w' : World) : Prop :=
  (∃ Q A n c, e = .returned (.tuple #[.slice A n c, .bool true]) ∧ ZL true w' A n c k Q ∧ Nz' Q ∧ slZ b ≠ 0 ∧ n ≤ a.length ∧ (∀ x, pv a x = pv Q x * pv b x) ∧ Below w.heap.size w w') ∨
  (e = .returned (.tuple #[.slice none 0 0, .bool false]) ∧ (slZ b = 0 ∨ ¬ Zdv (pv b) (pv a)) ∧ Below w.heap.size w w')
theorem nodiv {a b : Int} (hb : b ≠ 0) (h : ¬ ∃ t, t * b = a) : b = 0 ∨ a.natAbs % b.natAbs ≠ 0 := .inr fun e => h (by
  obtain ⟨t, ht⟩ := Int.natAbs_dvd_natAbs.1 (Nat.dvd_of_mod_eq_zero e)
  exact ⟨t, by rw [ht, Int.mul_comm]⟩)
set_option maxRecDepth 100000 in
set_option maxHeartbeats 1000000 in
/-- zpoly.Exact. -/
theorem zexactp_v {q : Bool} {A : Option Addr} {n c k : Nat} {zs : List Int} {q' : Bool} {A' : Option Addr} {n' c' k' : Nat} {zs' : List Int} {KK : Nat} {w : World} (hx : ZL q w A n c k zs) (hy : ZL q' w A' n' c' k' zs') (hKK : k + (n + 1) * (k' + 1) ≤ KK) (hKb : KK ≤ 274877906944) (hk' : k' ≤ 274877906944) (hn : n ≤ 1099511627776) (hn' : n' ≤ 1099511627776) :
    Calls Tryz.prog 31 #[.slice A n c, .slice A' n' c'] w (ZexPost zs zs' KK w) := by
  obtain ⟨N, hN⟩ : ∃ L, slZ zs = L := ⟨_, rfl⟩
  obtain ⟨L2, hL2⟩ : ∃ L, slZ zs' = L := ⟨_, rfl⟩
  have b1 : N ≤ n := by have := slZ_le zs; rw [hx.len] at this; omega
  have b2 : L2 ≤ n' := by have := slZ_le zs'; rw [hy.len] at this; omega
  have hkk : k ≤ KK := by omega
  have HX0 := Lib.hid hx
  have HY0 := Lib.hid hy
  have hnd := hy.le
  have hdm := hy.cap
  have E2 : Hid ((slZ zs' : Int) - 1 = (L2 : Int) - 1) := Lib.hid (by rw [hL2])
  have HN := Lib.hid hN
  have HL2 := Lib.hid hL2
  clear hx hN hL2
  go_enter Tryz.func31, Tryz.ntmps31
  go_wp2_with fail
  refine (zdeg_v hy (by omega)).mono ?_
  rintro e w1 ⟨rfl, B1⟩
  rw [E2.out]
  clear hy E2
  rcases Nat.eq_zero_or_pos L2 with h0 | h0
  · subst h0
    go_wp2_with fail
    exact bodyPost_ret (v := (.tuple #[.slice none 0 0, .bool false])) (by simp [results, Tryz.results31, go_sem]) rfl (.inr ⟨rfl, .inl HL2.out, B1⟩)
  · skip
    obtain ⟨D, hD⟩ : ∃ D, L2 = D + 1 := ⟨L2 - 1, by omega⟩
    subst hD
    have e5 : (((D + 1 : Nat) : Int) - 1) = (D : Int) := by omega
    rw [e5]
    have hb0 : (nrz zs').length = D + 1 := by rw [nrz_length, HL2.out]
    have hlead : ith (nrz zs') D ≠ 0 := by have := slZ_top (l := zs') (by rw [HL2.out]; omega); rw [HL2.out] at this; rw [ith_nrz]; exact this
    obtain ⟨l, hl⟩ : ∃ l, ith (nrz zs') D = l := ⟨_, rfl⟩
    have HLd := Lib.hid hl
    have hl0 : l ≠ 0 := hl ▸ hlead
    have u0 : ¬ (D : Int) < 0 := by omega
    have HYT := Lib.hid (HY0.out.take (m := D + 1) (d := c') b2 (by omega) hdm)
    rw [show zs'.take (D + 1) = nrz zs' by rw [← HL2.out]; rfl] at HYT
    have HBL := Lib.hid hb0
    clear e5 hl hlead hb0
    go_wp2_with fail
    refine (znorm_v (HX0.out.below B1) (by omega) (by omega)).mono ?_
    rintro e w2 ⟨gR, N', rfl, hN', hNb, hb, hgR, B2⟩
    have hW : Below w.heap.size w w2 := B1.trans (B2.mono B1.size)
    obtain rfl : N' = N := by rw [hN', nrz_length, HN.out]
    have hgR2 : w.heap.size ≤ gR := by have := B1.size; omega
    clear B1 B2 hgR hN'
    obtain ⟨m, hm⟩ : ∃ m, N' - D = m := ⟨_, rfl⟩
    have hmx : max (0 : Int) ((N' : Int) - (D : Int)) = (m : Int) := by omega
    have hmw : IntKind.i64.wrap ((N' : Int) - (D : Int)) = (N' : Int) - (D : Int) := by rw [IntKind.wrap_i64]; omega
    have hmn : m ≤ n := by omega
    have hKm : k + m * (k' + 1) ≤ KK := by have := Nat.mul_le_mul_right (k' + 1) (show m ≤ n + 1 by omega); omega
    have HM := Lib.hid hm
    have HR0 := Lib.hid hb
    clear hb hm
    go_wp2_with (at_make; refine wpList_make_z _ rfl _ _ 23 rfl Tryz.underlying23 info_zint _ _ _ _ m rfl rfl (by omega) (by omega) (by omega) ?_)
    intro w3 hb3 hw3 hz3
    obtain ⟨gQ, hgQ⟩ : ∃ q, w2.heap.size = q := ⟨_, rfl⟩
    have hgQ2 : w.heap.size ≤ gQ := by have := hW.size; omega
    have hRQ : ¬ (gR = gQ) := by have := HR0.out.lt; omega
    rw [hgQ] at hb3
    have HB : Hid (Below w.heap.size w w3 ∧ ∃ R Q : List Int, ZB w3 gR (k + (m - m) * (k' + 1)) R ∧ ZB w3 gQ KK Q ∧ ExMid (nrz zs) (nrz zs') D m m R Q) := Lib.hid ⟨hW.trans (hw3.mono hW.size), _, _, by rw [Nat.sub_self, Nat.zero_mul]; exact HR0.out.below hw3, hb3.mono (Nat.zero_le _), exmid_zero (by rw [nrz_length, HN.out]; exact HM.out)⟩
    rw [hgQ]
    clear hb3 hw3 hz3 hgQ hmx hmw HR0 hW
    go_wp2_with fail
    go_loopw [9] (fun s9 wr => ∃ j : Nat, s9 = .int .i64 ((j : Int) - 1) ∧ j ≤ m ∧ Hid (Below w.heap.size w wr ∧ ∃ R Q : List Int, ZB wr gR (k + (m - j) * (k' + 1)) R ∧ ZB wr gQ KK Q ∧ ExMid (nrz zs) (nrz zs') D m j R Q)) (fun s9 _ => (intOf s9 + 1).toNat)
    case atStart => exact ⟨m, rfl, Nat.le_refl _, HB⟩
    case round =>
      clear HB
      obtain ⟨j, rfl, hj, HB⟩ := hrel
      obtain ⟨hW, R, Q, hR, hQ, hmid⟩ := HB.out
      have HMid := Lib.hid hmid
      have hRl : R.length = N' := by rw [hmid.rl, nrz_length, HN.out]
      have hQl : Q.length = m := hmid.ql
      have HR := Lib.hid hR
      have HQ := Lib.hid hQ
      clear HB hmid hR hQ
      rcases Nat.eq_zero_or_pos j with rfl | hj0
      · obtain ⟨M, hM⟩ : ∃ M, min D N' = M := ⟨_, rfl⟩
        have hMi : min (D : Int) (N' : Int) = (M : Int) := by omega
        have hMN : M ≤ N' := by omega
        have hrt : R.take M = R.take D := by rw [← hM]; by_cases h : D ≤ N'
                                             · rw [Nat.min_eq_left h]
                                             · rw [Nat.min_eq_right (by omega), List.take_of_length_le (by omega), List.take_of_length_le (by omega)]
        have hl := HR.out.zl0 false (n := M) (c := N') (by omega) hMN (by omega)
        rw [hrt] at hl
        have hrun : ∀ w1 : World, (Instr.sliceAt 23 (.slice (some ⟨gR, 0, none⟩) N' N') none (some (.int .i64 (M : Int))) none).run Tryz.prog w1 = .ok (.slice (some ⟨gR, 0, none⟩) M N') w1 := fun w1 => run_slP hMN (Nat.le_refl _)
        clear hM hrt
        go_wp2_with fail
        refine (zdeg_v hl (by simp only [Nat.sub_zero]; omega)).mono ?_
        rintro e w4 ⟨rfl, B4⟩
        replace hW := hW.trans (B4.mono hW.size)
        obtain ⟨T, hT⟩ : ∃ T, slZ (R.take D) = T := ⟨_, rfl⟩
        have HT := Lib.hid hT
        rw [hT]
        clear hl hT
        rcases Nat.eq_zero_or_pos T with hT0 | hT0
        · subst hT0
          have hz : ∀ i, ith (R.take D) i = 0 := fun i => slZ_zero (by rw [HT.out]; exact Nat.zero_le _)
          obtain ⟨nq, he⟩ := exmid_end HMid.out hz
          have hr := (HQ.out.below B4).zl0 true (n := m) (c := m) (by omega) (Nat.le_refl _) (by omega)
          rw [List.take_of_length_le (by omega)] at hr
          have P : Hid (ZexPost zs zs' KK w (.returned (.tuple #[.slice (some ⟨gQ, 0, none⟩) m m, .bool true])) w4) := Lib.hid (.inl ⟨_, _, _, _, rfl, hr, nq, by rw [HL2.out]; omega, by rw [HX0.out.len]; exact hmn, fun x => by rw [← pv_nrz zs, he, pv_nrz], hW⟩)
          clear hz nq he hr hW
          go_wp2_with fail
          exact bodyPost_ret (v := (.tuple #[.slice (some ⟨gQ, 0, none⟩) m m, .bool true])) (by simp [results, Tryz.results31, go_sem]) rfl P.out
        · have hu : (0 : Int) ≤ (T : Int) - 1 := by omega
          have hno : ¬ Zdv (pv (nrz zs')) (pv (nrz zs)) := fun hd => by
            have h1 := exmid_rest HMid.out (nz_nrz _) HBL.out hd (T - 1)
            have h2 := slZ_top (l := R.take D) (by rw [HT.out]; exact hT0)
            rw [HT.out] at h2
            exact h2 h1
          have P : Hid (ZexPost zs zs' KK w (.returned (.tuple #[.slice none 0 0, .bool false])) w4) := Lib.hid (.inr ⟨rfl, .inr fun hd => hno ((hd.congr fun x => pv_nrz _ x).by fun x => pv_nrz _ x), hW⟩)
          clear hno hW
          go_wp2_with fail
          exact bodyPost_ret (v := (.tuple #[.slice none 0 0, .bool false])) (by simp [results, Tryz.results31, go_sem]) rfl P.out
      · obtain ⟨i, rfl⟩ : ∃ i, j = i + 1 := ⟨j - 1, by omega⟩
        have e5 : (((i + 1 : Nat) : Int) - 1) = (i : Int) := by omega
        rw [e5]
        have hNm := HM.out
        have hiN : i + D < N' := by omega
        have u1 : (0 : Int) ≤ (i : Int) := by omega
        have hKi : (m - i) * (k' + 1) = (m - (i + 1)) * (k' + 1) + (k' + 1) := by rw [show m - i = (m - (i + 1)) + 1 by omega, Nat.succ_mul]
        have hKi2 : (m - i) * (k' + 1) ≤ m * (k' + 1) := Nat.mul_le_mul_right _ (by omega)
        obtain ⟨T, hT⟩ : ∃ T, (m - (i + 1)) * (k' + 1) = T := ⟨_, rfl⟩
        rw [hT] at HR hKi
        obtain ⟨iD, hiD0⟩ : ∃ q, i + D = q := ⟨_, rfl⟩
        obtain ⟨s1, A1, n1, d1, x1, x2, zc, kz1⟩ := HR.out.cells (j := iD) (by omega)
        obtain ⟨x, hx⟩ : ∃ x, ith R iD = x := ⟨_, rfl⟩
        have HXv := Lib.hid hx
        rw [hx] at zc
        obtain ⟨ad, rfl, hab, s2, A2, n2, d2, c1, c2, ze, kz2⟩ := (HYT.out.below hW).at (j := D) (by omega)
        rw [HLd.out] at ze
        have hv := ze.1
        have hiD : (i : Int) + (D : Int) = (iD : Int) := by omega
        have HID := Lib.hid hiD0
        rw [hiD0] at hiN
        have hgl := HR.out.lt
        have hql := HQ.out.lt
        have hTb : k + T + k' + 1 ≤ KK := by omega
        have hKi3 : Hid ((m - i) * (k' + 1) = T + (k' + 1)) := Lib.hid hKi
        clear hx ze hT hKi e5 hiD0
        have hW35 : Hid (IntKind.i64.wrap ((i : Int) + (D : Int)) = (iD : Int)) := Lib.hid (by rw [IntKind.wrap_i64]; omega)
        by_cases hdv : ∃ t, t * l = x
        · obtain ⟨t, ht⟩ := hdv
          go_wp2_with fail
          refine region8 [13] 15 [IsK (.slice (some ⟨gR, 0, none⟩) N' N'), IsK (.int .i64 (i : Int)), IsK (.int .i64 (D : Int)), IsK (.int .i64 (iD : Int)), IsK (.pointer (some ⟨gR, 0 + iD * 2, none⟩)), IsK (.agg #[.bool s1, .slice A1 n1 d1]), IsK (.slice (some ad) n' c'), IsK (.int .i64 (D : Int)), IsK (.pointer (some (ad.add (D * 2)))), IsK (.agg #[.bool s2, .slice A2 n2 d2]), IsZb t (k + T), IsZb t (k + T), IsC t (k + T), IsK (.bool true), IsK undef] (fun _ _ d _ _ h => by cases d <;> exact h) (by kernel_rfl) (by kernel_rfl) (by kernel_rfl) ⟨stay_k _, stay_k _, stay_k _, stay_k _, stay_k _, stay_k _, stay_k _, stay_k _, stay_k _, stay_k _, stay_zb _ _, stay_zb _ _, stay_c _ _, stay_k _, stay_k _, trivial⟩ ?_ ?_
          · refine HopAll.cons rfl ?_ (HopAll.cons rfl ?_ (HopAll.cons rfl ?_ (HopAll.cons rfl ?_ (HopAll.cons rfl ?_ (HopAll.cons rfl ?_ (HopAll.cons rfl ?_ (HopAll.cons rfl ?_ (HopAll.cons rfl ?_ (HopAll.cons rfl ?_ (HopAll.cons rfl ?_ (HopAll.cons rfl ?_ (HopAll.cons rfl ?_ (HopAll.fl rfl ?_ (HopAll.al rfl HopAll.nil))))))))))))))
            · intro a w1 hB ho hp Kq hKq
              have e7 : a.eval (.tmp 7) = (.slice (some ⟨gR, 0, none⟩) N' N') := ho 7 (by kernel_rfl)
              refine hop_val (wanted_none rfl) ?_ (hKq (.slice (some ⟨gR, 0, none⟩) N' N') _ rfl (Below.refl _ _))
              unfold execOp; simp only [eval_const, e7]; simp [go_sem]
            · intro a w1 hB ho hp Kq hKq
              have e9 : a.eval (.tmp 9) = (.int .i64 (i : Int)) := ho 9 (by kernel_rfl)
              refine hop_val (wanted_none rfl) ?_ (hKq (.int .i64 (i : Int)) _ rfl (Below.refl _ _))
              unfold execOp; simp only [eval_const, e9]; simp [go_sem]
            · intro a w1 hB ho hp Kq hKq
              have e6 : a.eval (.tmp 6) = (.int .i64 (D : Int)) := ho 6 (by kernel_rfl)
              refine hop_val (wanted_none rfl) ?_ (hKq (.int .i64 (D : Int)) _ rfl (Below.refl _ _))
              unfold execOp; simp only [eval_const, e6]; simp [go_sem]
            · intro a w1 hB ho hp Kq hKq
              have e33 : a.eval (.tmp 33) = (.int .i64 (i : Int)) := hp 1 33 (by kernel_rfl)
              have e34 : a.eval (.tmp 34) = (.int .i64 (D : Int)) := hp 2 34 (by kernel_rfl)
              refine hop_val (wanted_none rfl) ?_ (hKq (.int .i64 (iD : Int)) _ rfl (Below.refl _ _))
              unfold execOp; simp only [eval_const, e33, e34]; simp [go_sem, hW35.out]
            · intro a w1 hB ho hp Kq hKq
              have e32 : a.eval (.tmp 32) = (.slice (some ⟨gR, 0, none⟩) N' N') := hp 0 32 (by kernel_rfl)
              have e35 : a.eval (.tmp 35) = (.int .i64 (iD : Int)) := hp 3 35 (by kernel_rfl)
              refine hop_val (wanted_none rfl) ?_ (hKq (.pointer (some ⟨gR, 0 + iD * 2, none⟩)) _ rfl (Below.refl _ _))
              unfold execOp; simp only [eval_const, Option.map_some, Option.map_none, e32, e35]; simp [run_ixP0 hiN]
            · intro a w1 hB ho hp Kq hKq
              have e36 : a.eval (.tmp 36) = (.pointer (some ⟨gR, 0 + iD * 2, none⟩)) := hp 4 36 (by kernel_rfl)
              exact hop_load (wanted_none rfl) rfl e36 (run_ldz ((hB.cell (p := ⟨gR, 0 + iD * 2, none⟩) hgl).trans (by rw [Nat.zero_add]; exact x1)) ((hB.cell (p := ⟨gR, 0 + iD * 2 + 1, none⟩) hgl).trans (by rw [Nat.zero_add]; exact x2))) (hKq _ _ rfl (Below.refl _ _))
            · intro a w1 hB ho hp Kq hKq
              have e1 : a.eval (.tmp 1) = (.slice (some ad) n' c') := ho 1 (by kernel_rfl)
              refine hop_val (wanted_none rfl) ?_ (hKq (.slice (some ad) n' c') _ rfl (Below.refl _ _))
              unfold execOp; simp only [eval_const, e1]; simp [go_sem]
            · intro a w1 hB ho hp Kq hKq
              have e6 : a.eval (.tmp 6) = (.int .i64 (D : Int)) := ho 6 (by kernel_rfl)
              refine hop_val (wanted_none rfl) ?_ (hKq (.int .i64 (D : Int)) _ rfl (Below.refl _ _))
              unfold execOp; simp only [eval_const, e6]; simp [go_sem]
            · intro a w1 hB ho hp Kq hKq
              have e38 : a.eval (.tmp 38) = (.slice (some ad) n' c') := hp 6 38 (by kernel_rfl)
              have e39 : a.eval (.tmp 39) = (.int .i64 (D : Int)) := hp 7 39 (by kernel_rfl)
              refine hop_val (wanted_none rfl) ?_ (hKq (.pointer (some (ad.add (D * 2)))) _ rfl (Below.refl _ _))
              unfold execOp; simp only [eval_const, Option.map_some, Option.map_none, e38, e39]; simp [run_ixP (show D < n' by omega)]
            · intro a w1 hB ho hp Kq hKq
              have e40 : a.eval (.tmp 40) = (.pointer (some (ad.add (D * 2)))) := hp 8 40 (by kernel_rfl)
              exact hop_load (wanted_none rfl) rfl e40 (run_ldzA ((hB.cell (p := ad.add (D * 2)) (by rw [add_block]; exact hab)).trans c1) ((hB.cell (p := ⟨(ad.add (D * 2)).block, (ad.add (D * 2)).off + 1, none⟩) (by show (ad.add (D * 2)).block < _; rw [add_block]; exact hab)).trans c2)) (hKq _ _ rfl (Below.refl _ _))
            · intro a w1 hB ho hp Kq hKq
              have e37 : a.eval (.tmp 37) = (.agg #[.bool s1, .slice A1 n1 d1]) := hp 5 37 (by kernel_rfl)
              have e41 : a.eval (.tmp 41) = (.agg #[.bool s2, .slice A2 n2 d2]) := hp 9 41 (by kernel_rfl)
              refine hop_call (wanted_none rfl) rfl (args := #[(.agg #[.bool s1, .slice A1 n1 d1]), (.agg #[.bool s2, .slice A2 n2 d2])]) (by simp only [List.map_toArray, List.map_cons, List.map_nil, eval_const, e37, e41]) (ent7 (by kernel_rfl) _ _) (zexact_yes (zc.below hB).zv (hv.below hB) (by omega) (by omega) hl0 ht) ?_
              rintro e w2 ⟨sq, Aq, nq, cq, rfl, pq, kq, Bq⟩
              exact ⟨_, rfl, hKq _ _ ⟨sq, Aq, nq, cq, rfl, pq, by omega⟩ Bq⟩
            · intro a w1 hB ho hp Kq hKq
              obtain ⟨s_42, A_42, n_42, c_42, e42, ⟨p42, k42⟩⟩ : IsZb t (k + T) (a.eval (.tmp 42)) w1 := hp 10 42 (by kernel_rfl)
              refine hop_val (wanted_none rfl) ?_ (hKq (.tuple #[.agg #[.bool s_42, .slice A_42 n_42 c_42], .bool true]) _ ⟨_, _, _, _, rfl, ⟨p42, k42⟩⟩ (Below.refl _ _))
              unfold execOp; simp only [e42]; simp [go_sem]
            · intro a w1 hB ho hp Kq hKq
              obtain ⟨s_31, A_31, n_31, c_31, e31, ⟨p31, k31⟩⟩ : IsZb t (k + T) (a.eval (.tmp 31)) w1 := hp 11 31 (by kernel_rfl)
              refine hop_val (wanted_none rfl) ?_ (hKq (.agg #[.bool s_31, .slice A_31 n_31 c_31]) _ ⟨_, _, _, _, rfl, p31, k31⟩ (Below.refl _ _))
              unfold execOp; simp only [e31]; simp [go_sem]
            · intro a w1 hB ho hp
              obtain ⟨s_31, A_31, n_31, c_31, e31, ⟨p31, k31⟩⟩ : IsZb t (k + T) (a.eval (.tmp 31)) w1 := hp 11 31 (by kernel_rfl)
              refine ⟨(.bool true), rfl, .inl ⟨(wanted_none rfl), fun w2 => ?_⟩⟩
              unfold execOp; simp only [e31]; simp [go_sem]
          intro w21 B21
          have hWs21 := hW.size
          have zl21_HR := HR.out.lt
          have zl21_HQ := HQ.out.lt
          refine EndAll.one rfl fun vv hv => ?_
          obtain rfl : vv = (.slice (some ⟨gR, 0, none⟩) N' N') := hv
          refine EndAll.one rfl fun vv hv => ?_
          obtain rfl : vv = (.int .i64 (i : Int)) := hv
          refine EndAll.one rfl fun vv hv => ?_
          obtain rfl : vv = (.int .i64 (D : Int)) := hv
          refine EndAll.one rfl fun vv hv => ?_
          obtain rfl : vv = (.int .i64 (iD : Int)) := hv
          refine EndAll.one rfl fun vv hv => ?_
          obtain rfl : vv = (.pointer (some ⟨gR, 0 + iD * 2, none⟩)) := hv
          refine EndAll.one rfl fun vv hv => ?_
          obtain rfl : vv = (.agg #[.bool s1, .slice A1 n1 d1]) := hv
          refine EndAll.one rfl fun vv hv => ?_
          obtain rfl : vv = (.slice (some ad) n' c') := hv
          refine EndAll.one rfl fun vv hv => ?_
          obtain rfl : vv = (.int .i64 (D : Int)) := hv
          refine EndAll.one rfl fun vv hv => ?_
          obtain rfl : vv = (.pointer (some (ad.add (D * 2)))) := hv
          refine EndAll.one rfl fun vv hv => ?_
          obtain rfl : vv = (.agg #[.bool s2, .slice A2 n2 d2]) := hv
          refine EndAll.one rfl fun vv hv => ?_
          obtain ⟨s22, A22, n22, c22, rfl, ⟨p22, k22⟩⟩ : IsZb t (k + T) vv w21 := hv
          refine EndAll.one rfl fun vv hv => ?_
          obtain ⟨s23, A23, n23, c23, rfl, ⟨p23, k23⟩⟩ : IsZb t (k + T) vv w21 := hv
          refine EndAll.one rfl fun vv hv => ?_
          obtain ⟨s24, A24, n24, c24, rfl, ⟨p24, k24⟩⟩ : IsC t (k + T) vv w21 := hv
          refine EndAll.one rfl fun vv hv => ?_
          obtain rfl : vv = (.bool true) := hv
          refine EndAll.al rfl fun g25 hg25 hl25 hc25 ha25 => ?_
          refine EndAll.nil (l := [_, _]) rfl ?_
          simp only [Act.put, List.setIfInBounds_toArray, List.set_cons_zero, List.set_cons_succ]
          replace zc := zc.below B21
          replace hv := hv.below B21
          replace hW := hW.trans (B21.mono hW.size)
          replace HR := Lib.hid (HR.out.below B21)
          replace HQ := Lib.hid (HQ.out.below B21)
          have pt := p24
          clear p22 p23 p24
          have H_t : Hid (Ib w21 g25 false none 0 0) := Lib.hid (Ib.entry (T := 27) (hc25.trans (congrArg some (by kernel_rfl))))
          have lw_t : w.heap.size ≤ g25 := by omega
          have nz_t_gR : ¬ (g25 = gR) := by have := zl21_HR; omega
          have nz_t_gQ : ¬ (g25 = gQ) := by have := zl21_HQ; omega
          clear hg25 hl25 hc25
          have kt := k24
          clear x1 x2 c1 c2 zc hv
          have O_t := H_t
          obtain ⟨w26, hw26⟩ : ∃ xw, xw = zput w21 g25 s24 A24 n24 c24 := ⟨_, rfl⟩
          have HW26 : Hid (((w21.setCell ⟨g25, 0, none⟩ (.bool s24)).setCell ⟨g25, 1, none⟩ (.slice A24 n24 c24)) = w26) := Lib.hid hw26.symm
          have OI := H_t.out
          replace HR := Lib.hid (HR.out.zput (gP := g25) (s := s24) (A := A24) (n := n24) (c := c24) (by omega) OI)
          rw [← hw26] at HR
          replace HQ := Lib.hid (HQ.out.zput (gP := g25) (s := s24) (A := A24) (n := n24) (c := c24) (by omega) OI)
          rw [← hw26] at HQ
          replace pt := pt.zput (s' := s24) (A' := A24) (n' := n24) (c' := c24) OI
          rw [← hw26] at pt
          replace hW : Below w.heap.size w w26 := by rw [hw26]; exact below_put hW lw_t
          replace H_t : Hid (Ib w26 g25 s24 A24 n24 c24) := Lib.hid (by rw [hw26]; exact OI.own)
          clear hw26 OI
          obtain ⟨t1, t2, t3, t4, t5⟩ := O_t.out
          go_upto_region 12 with fail
          rw [HW26.out]
          clear t1 t2 t3 t4 t5 O_t
          have u2 : (i : Int) < (m : Int) := by omega
          obtain ⟨t1, t2, t3, t4, x1, x2, -, -⟩ := HQ.out.cells (j := i) (by omega)
          have y1 := HQ.out.free (i * 2)
          have y2 := HQ.out.free (i * 2 + 1)
          have hno := HQ.out.now
          have hgr := zputo_gro w26 gQ (i * 2) s24 A24 n24 c24
          have hq := HQ.out.put (j := i) (by omega) pt (by omega)
          obtain ⟨w27, hw27⟩ : ∃ xw, xw = zputo w26 gQ (i * 2) s24 A24 n24 c24 := ⟨_, rfl⟩
          rw [← hw27] at hq hgr
          have HW27 : Hid ((w26.setCell ⟨gQ, i * 2, none⟩ (.bool s24)).setCell ⟨gQ, i * 2 + 1, none⟩ (.slice A24 n24 c24) = w27) := Lib.hid hw27.symm
          replace HR := Lib.hid (HR.out.gro (by omega) hno hgr)
          replace HQ := Lib.hid hq
          replace pt := pt.gro hno hgr
          replace hW := gro_up hW hgr hgQ2
          have O_t := H_t
          replace H_t := Lib.hid (H_t.out.gro hgr (by omega))
          clear hq hw27 hno hgr
          obtain ⟨t1, t2, t3, t4, t5⟩ := O_t.out
          go_upto_region 13 with fail
          rw [HW27.out]
          clear x1 x2 y1 y2 O_t t1 t2 t3 t4 t5
          have hiR : i < N' := by omega
          have hDn : D ≤ n' := by omega
          obtain ⟨t1, t2, t3, t4, t5⟩ := H_t.out
          go_wp2_with fail
          clear t1 t2 t3 t4 t5
          refine region8 [] 8 [IsK (.slice (some ⟨gR, 0, none⟩) N' N'), IsK (.int .i64 (i : Int)), IsK (.slice (some ⟨gR, i * 2, none⟩) (N' - i) (N' - i)), IsK (.slice (some ad) n' c'), IsK (.int .i64 (D : Int)), IsK (.slice (some ad) D c'), IsK (.agg #[.bool s24, .slice A24 n24 c24]), IsC (-t) (k + T)] (fun _ _ d _ _ h => by cases d <;> exact h) (by kernel_rfl) (by kernel_rfl) (by kernel_rfl) ⟨stay_k _, stay_k _, stay_k _, stay_k _, stay_k _, stay_k _, stay_k _, stay_c _ _, trivial⟩ ?_ ?_
          · refine HopAll.cons rfl ?_ (HopAll.cons rfl ?_ (HopAll.cons rfl ?_ (HopAll.cons rfl ?_ (HopAll.cons rfl ?_ (HopAll.cons rfl ?_ (HopAll.cons rfl ?_ (HopAll.cons rfl ?_ HopAll.nil)))))))
            · intro a w1 hB ho hp Kq hKq
              have e7 : a.eval (.tmp 7) = (.slice (some ⟨gR, 0, none⟩) N' N') := ho 7 (by kernel_rfl)
              refine hop_val (wanted_none rfl) ?_ (hKq (.slice (some ⟨gR, 0, none⟩) N' N') _ rfl (Below.refl _ _))
              unfold execOp; simp only [eval_const, e7]; simp [go_sem]
            · intro a w1 hB ho hp Kq hKq
              have e9 : a.eval (.tmp 9) = (.int .i64 (i : Int)) := ho 9 (by kernel_rfl)
              refine hop_val (wanted_none rfl) ?_ (hKq (.int .i64 (i : Int)) _ rfl (Below.refl _ _))
              unfold execOp; simp only [eval_const, e9]; simp [go_sem]
            · intro a w1 hB ho hp Kq hKq
              have e51 : a.eval (.tmp 51) = (.slice (some ⟨gR, 0, none⟩) N' N') := hp 0 51 (by kernel_rfl)
              have e52 : a.eval (.tmp 52) = (.int .i64 (i : Int)) := hp 1 52 (by kernel_rfl)
              refine hop_val (wanted_none rfl) ?_ (hKq (.slice (some ⟨gR, i * 2, none⟩) (N' - i) (N' - i)) _ rfl (Below.refl _ _))
              unfold execOp; simp only [eval_const, Option.map_some, Option.map_none, e51, e52]; simp [run_sdP hiR (Nat.le_refl N')]
            · intro a w1 hB ho hp Kq hKq
              have e1 : a.eval (.tmp 1) = (.slice (some ad) n' c') := ho 1 (by kernel_rfl)
              refine hop_val (wanted_none rfl) ?_ (hKq (.slice (some ad) n' c') _ rfl (Below.refl _ _))
              unfold execOp; simp only [eval_const, e1]; simp [go_sem]
            · intro a w1 hB ho hp Kq hKq
              have e6 : a.eval (.tmp 6) = (.int .i64 (D : Int)) := ho 6 (by kernel_rfl)
              refine hop_val (wanted_none rfl) ?_ (hKq (.int .i64 (D : Int)) _ rfl (Below.refl _ _))
              unfold execOp; simp only [eval_const, e6]; simp [go_sem]
            · intro a w1 hB ho hp Kq hKq
              have e54 : a.eval (.tmp 54) = (.slice (some ad) n' c') := hp 3 54 (by kernel_rfl)
              have e55 : a.eval (.tmp 55) = (.int .i64 (D : Int)) := hp 4 55 (by kernel_rfl)
              refine hop_val (wanted_none rfl) ?_ (hKq (.slice (some ad) D c') _ rfl (Below.refl _ _))
              unfold execOp; simp only [eval_const, Option.map_some, Option.map_none, e54, e55]; simp [run_slP hDn hnd]
            · intro a w1 hB ho hp Kq hKq
              have e10 : a.eval (.tmp 10) = (.pointer (some ⟨g25, 0, none⟩)) := ho 10 (by kernel_rfl)
              obtain ⟨u1, u2, u3, u4, u5⟩ := H_t.out.below hB
              exact hop_load (wanted_none rfl) rfl e10 (run_ldz u1 u2) (hKq _ _ rfl (Below.refl _ _))
            · intro a w1 hB ho hp Kq hKq
              have e57 : a.eval (.tmp 57) = (.agg #[.bool s24, .slice A24 n24 c24]) := hp 6 57 (by kernel_rfl)
              refine hop_call (wanted_none rfl) rfl (args := #[(.agg #[.bool s24, .slice A24 n24 c24])]) (by simp only [List.map_toArray, List.map_cons, List.map_nil, eval_const, e57]) (ent7 (by kernel_rfl) _ _) (zneg_v (pt.below hB).zv (by omega)) ?_
              rintro e w2 ⟨sq, Aq, nq, cq, rfl, pq, kq, Bq⟩
              exact ⟨_, rfl, hKq _ _ ⟨sq, Aq, nq, cq, rfl, pq, by omega⟩ Bq⟩
          intro w28 B28
          refine EndAll.one rfl fun vv hv => ?_
          obtain rfl : vv = (.slice (some ⟨gR, 0, none⟩) N' N') := hv
          refine EndAll.one rfl fun vv hv => ?_
          obtain rfl : vv = (.int .i64 (i : Int)) := hv
          refine EndAll.one rfl fun vv hv => ?_
          obtain rfl : vv = (.slice (some ⟨gR, i * 2, none⟩) (N' - i) (N' - i)) := hv
          refine EndAll.one rfl fun vv hv => ?_
          obtain rfl : vv = (.slice (some ad) n' c') := hv
          refine EndAll.one rfl fun vv hv => ?_
          obtain rfl : vv = (.int .i64 (D : Int)) := hv
          refine EndAll.one rfl fun vv hv => ?_
          obtain rfl : vv = (.slice (some ad) D c') := hv
          refine EndAll.one rfl fun vv hv => ?_
          obtain rfl : vv = (.agg #[.bool s24, .slice A24 n24 c24]) := hv
          refine EndAll.one rfl fun vv hv => ?_
          obtain ⟨s29, A29, n29, c29, rfl, ⟨p29, k29⟩⟩ : IsC (-t) (k + T) vv w28 := hv
          refine EndAll.nil (l := [_]) rfl ?_
          simp only [Act.put, List.setIfInBounds_toArray, List.set_cons_zero, List.set_cons_succ]
          replace H_t := Lib.hid (H_t.out.below B28)
          replace pt := pt.below B28
          replace hW := hW.trans (B28.mono hW.size)
          replace HR := Lib.hid (HR.out.below B28)
          replace HQ := Lib.hid (HQ.out.below B28)
          have pn := p29
          clear p29
          have kn := k29
          have hyT : ZL q' w28 (some ad) D c' k' ((nrz zs').take D) := (HYT.out.below hW).take (by omega) (by omega) hdm
          have hRb := HR.out
          have hDg : ∀ ad', (some ad : Option Addr) = some ad' → ad'.block ≠ gR := fun ad' e => by
            obtain ⟨ad2, e2, hlt2, _⟩ := HYT.out.at' (by omega)
            rw [e] at e2; cases e2; omega
          obtain ⟨t1, t2, t3, t4, t5⟩ := H_t.out
          go_wp2_with fail
          clear t1 t2 t3 t4 t5
          refine (zgather_v (K := k + (m - i) * (k' + 1)) hRb hyT hDg pn.zv (by omega) (by omega) (by rw [hKi3.out]; omega) (by omega) (by omega)).mono ?_
          rintro e w9 ⟨rfl, hb9, hg9⟩
          have hW9 := Lib.hid (gro_up hW hg9 hgR2)
          have HR9 := Lib.hid hb9
          have HQ9 := Lib.hid (HQ.out.gro (fun e => hRQ e.symm) hRb.now hg9)
          have HM9 := Lib.hid (exmid_step HMid.out (by rw [nrz_length, HN.out]; exact HM.out) (by omega) HBL.out (nz_nrz _) (by rw [HLd.out, HID.out, HXv.out]; exact ht) rfl)
          clear hRb hyT hDg hb9 hg9 pn pt hW HR HQ H_t
          go_wp2_with fail
          go_roundw
          case rel => exact ⟨i, by go_num, by omega, Lib.hid ⟨hW9.out, _, _, HR9.out, HQ9.out, HM9.out⟩⟩
          case measure => first | (simp [intOf]; done) | (simp [intOf]; omega)
        · have hno := exmid_no HMid.out (by rw [nrz_length, HN.out]; exact HM.out) (by omega) (nz_nrz _) HBL.out (by rw [HLd.out, HID.out, HXv.out]; exact hdv)
          go_wp2_with fail
          refine region8 [13] 15 [IsK (.slice (some ⟨gR, 0, none⟩) N' N'), IsK (.int .i64 (i : Int)), IsK (.int .i64 (D : Int)), IsK (.int .i64 (iD : Int)), IsK (.pointer (some ⟨gR, 0 + iD * 2, none⟩)), IsK (.agg #[.bool s1, .slice A1 n1 d1]), IsK (.slice (some ad) n' c'), IsK (.int .i64 (D : Int)), IsK (.pointer (some (ad.add (D * 2)))), IsK (.agg #[.bool s2, .slice A2 n2 d2]), IsK (.tuple #[.agg #[.bool false, .slice none 0 0], .bool false]), IsK (.tuple #[.agg #[.bool false, .slice none 0 0], .bool false]), IsK (.agg #[.bool false, .slice none 0 0]), IsK (.bool false), IsK undef] (fun _ _ d _ _ h => by cases d <;> exact h) (by kernel_rfl) (by kernel_rfl) (by kernel_rfl) ⟨stay_k _, stay_k _, stay_k _, stay_k _, stay_k _, stay_k _, stay_k _, stay_k _, stay_k _, stay_k _, stay_k _, stay_k _, stay_k _, stay_k _, stay_k _, trivial⟩ ?_ ?_
          · refine HopAll.cons rfl ?_ (HopAll.cons rfl ?_ (HopAll.cons rfl ?_ (HopAll.cons rfl ?_ (HopAll.cons rfl ?_ (HopAll.cons rfl ?_ (HopAll.cons rfl ?_ (HopAll.cons rfl ?_ (HopAll.cons rfl ?_ (HopAll.cons rfl ?_ (HopAll.cons rfl ?_ (HopAll.cons rfl ?_ (HopAll.cons rfl ?_ (HopAll.fl rfl ?_ (HopAll.al rfl HopAll.nil))))))))))))))
            · intro a w1 hB ho hp Kq hKq
              have e7 : a.eval (.tmp 7) = (.slice (some ⟨gR, 0, none⟩) N' N') := ho 7 (by kernel_rfl)
              refine hop_val (wanted_none rfl) ?_ (hKq (.slice (some ⟨gR, 0, none⟩) N' N') _ rfl (Below.refl _ _))
              unfold execOp; simp only [eval_const, e7]; simp [go_sem]
            · intro a w1 hB ho hp Kq hKq
              have e9 : a.eval (.tmp 9) = (.int .i64 (i : Int)) := ho 9 (by kernel_rfl)
              refine hop_val (wanted_none rfl) ?_ (hKq (.int .i64 (i : Int)) _ rfl (Below.refl _ _))
              unfold execOp; simp only [eval_const, e9]; simp [go_sem]
            · intro a w1 hB ho hp Kq hKq
              have e6 : a.eval (.tmp 6) = (.int .i64 (D : Int)) := ho 6 (by kernel_rfl)
              refine hop_val (wanted_none rfl) ?_ (hKq (.int .i64 (D : Int)) _ rfl (Below.refl _ _))
              unfold execOp; simp only [eval_const, e6]; simp [go_sem]
            · intro a w1 hB ho hp Kq hKq
              have e33 : a.eval (.tmp 33) = (.int .i64 (i : Int)) := hp 1 33 (by kernel_rfl)
              have e34 : a.eval (.tmp 34) = (.int .i64 (D : Int)) := hp 2 34 (by kernel_rfl)
              refine hop_val (wanted_none rfl) ?_ (hKq (.int .i64 (iD : Int)) _ rfl (Below.refl _ _))
              unfold execOp; simp only [eval_const, e33, e34]; simp [go_sem, hW35.out]
            · intro a w1 hB ho hp Kq hKq
              have e32 : a.eval (.tmp 32) = (.slice (some ⟨gR, 0, none⟩) N' N') := hp 0 32 (by kernel_rfl)
              have e35 : a.eval (.tmp 35) = (.int .i64 (iD : Int)) := hp 3 35 (by kernel_rfl)
              refine hop_val (wanted_none rfl) ?_ (hKq (.pointer (some ⟨gR, 0 + iD * 2, none⟩)) _ rfl (Below.refl _ _))
              unfold execOp; simp only [eval_const, Option.map_some, Option.map_none, e32, e35]; simp [run_ixP0 hiN]
            · intro a w1 hB ho hp Kq hKq
              have e36 : a.eval (.tmp 36) = (.pointer (some ⟨gR, 0 + iD * 2, none⟩)) := hp 4 36 (by kernel_rfl)
              exact hop_load (wanted_none rfl) rfl e36 (run_ldz ((hB.cell (p := ⟨gR, 0 + iD * 2, none⟩) hgl).trans (by rw [Nat.zero_add]; exact x1)) ((hB.cell (p := ⟨gR, 0 + iD * 2 + 1, none⟩) hgl).trans (by rw [Nat.zero_add]; exact x2))) (hKq _ _ rfl (Below.refl _ _))
            · intro a w1 hB ho hp Kq hKq
              have e1 : a.eval (.tmp 1) = (.slice (some ad) n' c') := ho 1 (by kernel_rfl)
              refine hop_val (wanted_none rfl) ?_ (hKq (.slice (some ad) n' c') _ rfl (Below.refl _ _))
              unfold execOp; simp only [eval_const, e1]; simp [go_sem]
            · intro a w1 hB ho hp Kq hKq
              have e6 : a.eval (.tmp 6) = (.int .i64 (D : Int)) := ho 6 (by kernel_rfl)
              refine hop_val (wanted_none rfl) ?_ (hKq (.int .i64 (D : Int)) _ rfl (Below.refl _ _))
              unfold execOp; simp only [eval_const, e6]; simp [go_sem]
            · intro a w1 hB ho hp Kq hKq
              have e38 : a.eval (.tmp 38) = (.slice (some ad) n' c') := hp 6 38 (by kernel_rfl)
              have e39 : a.eval (.tmp 39) = (.int .i64 (D : Int)) := hp 7 39 (by kernel_rfl)
              refine hop_val (wanted_none rfl) ?_ (hKq (.pointer (some (ad.add (D * 2)))) _ rfl (Below.refl _ _))
              unfold execOp; simp only [eval_const, Option.map_some, Option.map_none, e38, e39]; simp [run_ixP (show D < n' by omega)]
            · intro a w1 hB ho hp Kq hKq
              have e40 : a.eval (.tmp 40) = (.pointer (some (ad.add (D * 2)))) := hp 8 40 (by kernel_rfl)
              exact hop_load (wanted_none rfl) rfl e40 (run_ldzA ((hB.cell (p := ad.add (D * 2)) (by rw [add_block]; exact hab)).trans c1) ((hB.cell (p := ⟨(ad.add (D * 2)).block, (ad.add (D * 2)).off + 1, none⟩) (by show (ad.add (D * 2)).block < _; rw [add_block]; exact hab)).trans c2)) (hKq _ _ rfl (Below.refl _ _))
            · intro a w1 hB ho hp Kq hKq
              have e37 : a.eval (.tmp 37) = (.agg #[.bool s1, .slice A1 n1 d1]) := hp 5 37 (by kernel_rfl)
              have e41 : a.eval (.tmp 41) = (.agg #[.bool s2, .slice A2 n2 d2]) := hp 9 41 (by kernel_rfl)
              refine hop_call (wanted_none rfl) rfl (args := #[(.agg #[.bool s1, .slice A1 n1 d1]), (.agg #[.bool s2, .slice A2 n2 d2])]) (by simp only [List.map_toArray, List.map_cons, List.map_nil, eval_const, e37, e41]) (ent7 (by kernel_rfl) _ _) (zexact_false (zc.below hB).zv (hv.below hB) (by omega) (by omega) (nodiv hl0 hdv)) ?_
              rintro e w2 ⟨rfl, Bq⟩
              exact ⟨_, rfl, hKq _ _ rfl Bq⟩
            · intro a w1 hB ho hp Kq hKq
              have e42 : a.eval (.tmp 42) = (.tuple #[.agg #[.bool false, .slice none 0 0], .bool false]) := hp 10 42 (by kernel_rfl)
              refine hop_val (wanted_none rfl) ?_ (hKq (.tuple #[.agg #[.bool false, .slice none 0 0], .bool false]) _ rfl (Below.refl _ _))
              unfold execOp; simp only [eval_const, e42]; simp [go_sem]
            · intro a w1 hB ho hp Kq hKq
              have e31 : a.eval (.tmp 31) = (.tuple #[.agg #[.bool false, .slice none 0 0], .bool false]) := hp 11 31 (by kernel_rfl)
              refine hop_val (wanted_none rfl) ?_ (hKq (.agg #[.bool false, .slice none 0 0]) _ rfl (Below.refl _ _))
              unfold execOp; simp only [eval_const, e31]; simp [go_sem]
            · intro a w1 hB ho hp
              have e31 : a.eval (.tmp 31) = (.tuple #[.agg #[.bool false, .slice none 0 0], .bool false]) := hp 11 31 (by kernel_rfl)
              refine ⟨(.bool false), rfl, .inl ⟨(wanted_none rfl), fun w2 => ?_⟩⟩
              unfold execOp; simp only [eval_const, e31]; simp [go_sem]
          intro w21 B21
          have hWs21 := hW.size
          have zl21_HR := HR.out.lt
          have zl21_HQ := HQ.out.lt
          refine EndAll.one rfl fun vv hv => ?_
          obtain rfl : vv = (.slice (some ⟨gR, 0, none⟩) N' N') := hv
          refine EndAll.one rfl fun vv hv => ?_
          obtain rfl : vv = (.int .i64 (i : Int)) := hv
          refine EndAll.one rfl fun vv hv => ?_
          obtain rfl : vv = (.int .i64 (D : Int)) := hv
          refine EndAll.one rfl fun vv hv => ?_
          obtain rfl : vv = (.int .i64 (iD : Int)) := hv
          refine EndAll.one rfl fun vv hv => ?_
          obtain rfl : vv = (.pointer (some ⟨gR, 0 + iD * 2, none⟩)) := hv
          refine EndAll.one rfl fun vv hv => ?_
          obtain rfl : vv = (.agg #[.bool s1, .slice A1 n1 d1]) := hv
          refine EndAll.one rfl fun vv hv => ?_
          obtain rfl : vv = (.slice (some ad) n' c') := hv
          refine EndAll.one rfl fun vv hv => ?_
          obtain rfl : vv = (.int .i64 (D : Int)) := hv
          refine EndAll.one rfl fun vv hv => ?_
          obtain rfl : vv = (.pointer (some (ad.add (D * 2)))) := hv
          refine EndAll.one rfl fun vv hv => ?_
          obtain rfl : vv = (.agg #[.bool s2, .slice A2 n2 d2]) := hv
          refine EndAll.one rfl fun vv hv => ?_
          obtain rfl : vv = (.tuple #[.agg #[.bool false, .slice none 0 0], .bool false]) := hv
          refine EndAll.one rfl fun vv hv => ?_
          obtain rfl : vv = (.tuple #[.agg #[.bool false, .slice none 0 0], .bool false]) := hv
          refine EndAll.one rfl fun vv hv => ?_
          obtain rfl : vv = (.agg #[.bool false, .slice none 0 0]) := hv
          refine EndAll.one rfl fun vv hv => ?_
          obtain rfl : vv = (.bool false) := hv
          refine EndAll.al rfl fun g22 hg22 hl22 hc22 ha22 => ?_
          refine EndAll.nil (l := [_, _]) rfl ?_
          simp only [Act.put, List.setIfInBounds_toArray, List.set_cons_zero, List.set_cons_succ]
          replace zc := zc.below B21
          replace hv := hv.below B21
          replace hW := hW.trans (B21.mono hW.size)
          replace HR := Lib.hid (HR.out.below B21)
          replace HQ := Lib.hid (HQ.out.below B21)
          have H_t : Hid (Ib w21 g22 false none 0 0) := Lib.hid (Ib.entry (T := 27) (hc22.trans (congrArg some (by kernel_rfl))))
          have lw_t : w.heap.size ≤ g22 := by omega
          have nz_t_gR : ¬ (g22 = gR) := by have := zl21_HR; omega
          have nz_t_gQ : ¬ (g22 = gQ) := by have := zl21_HQ; omega
          clear hg22 hl22 hc22
          clear x1 x2 c1 c2 zc hv
          have O_t := H_t
          obtain ⟨w23, hw23⟩ : ∃ xw, xw = zput w21 g22 false none 0 0 := ⟨_, rfl⟩
          have HW23 : Hid (((w21.setCell ⟨g22, 0, none⟩ (.bool false)).setCell ⟨g22, 1, none⟩ (.slice none 0 0)) = w23) := Lib.hid hw23.symm
          have OI := H_t.out
          replace HR := Lib.hid (HR.out.zput (gP := g22) (s := false) (A := none) (n := 0) (c := 0) (by omega) OI)
          rw [← hw23] at HR
          replace HQ := Lib.hid (HQ.out.zput (gP := g22) (s := false) (A := none) (n := 0) (c := 0) (by omega) OI)
          rw [← hw23] at HQ
          replace hW : Below w.heap.size w w23 := by rw [hw23]; exact below_put hW lw_t
          replace H_t : Hid (Ib w23 g22 false none 0 0) := Lib.hid (by rw [hw23]; exact OI.own)
          clear hw23 OI
          have P : Hid (ZexPost zs zs' KK w (.returned (.tuple #[.slice none 0 0, .bool false])) w23) := Lib.hid (.inr ⟨rfl, .inr fun hd => hno ((hd.congr fun x => pv_nrz _ x).by fun x => pv_nrz _ x), hW⟩)
          clear hno hW
          obtain ⟨t1, t2, t3, t4, t5⟩ := O_t.out
          go_wp2_with fail
          rw [HW23.out]
          clear t1 t2 t3 t4 t5 O_t
          exact bodyPost_ret (v := (.tuple #[.slice none 0 0, .bool false])) (by simp [results, Tryz.results31, go_sem]) rfl P.out
end Go.Proofs.YtddbhhedjipjkaaGreatDoor
