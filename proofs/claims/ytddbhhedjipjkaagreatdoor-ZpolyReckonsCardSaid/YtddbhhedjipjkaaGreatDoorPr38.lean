/-
  ZlG
-/
import Derived.Test.YtddbhhedjipjkaaGreatDoorPr37

namespace Go.Proofs.YtddbhhedjipjkaaGreatDoor
open Go.RowKit
set_option linter.unusedVariables false
set_option linter.unusedSimpArgs false
theorem sign_lt {y t : Int} (h : y.sign = t) : t < 0 ↔ y < 0 := by
  subst h
  rcases Int.lt_trichotomy y 0 with h | h | h
  · rw [Int.sign_eq_neg_one_of_neg h]; omega
  · rw [h]; simp
  · rw [Int.sign_eq_one_of_pos h]; omega
theorem prim_places (zs : List Int) : mkz (slZ zs) (ith (prim zs)) = prim zs := ext_ith (by rw [mkz_length, prim_length]) fun j hj => by
  rw [mkz_length] at hj
  rw [ith_mkz, if_pos hj]
set_option maxRecDepth 100000 in
set_option maxHeartbeats 1000000 in
theorem zprim_v {q : Bool} {A : Option Addr} {n c k : Nat} {zs : List Int} {w : World} (hx : ZL q w A n c k zs) (hk : k ≤ 137438953472) (hn : n ≤ 1099511627776) :
    Calls Tryz.prog 34 #[.slice A n c] w (ZlPost (prim zs) k w) := by
  obtain ⟨L, hL⟩ : ∃ L, slZ zs = L := ⟨_, rfl⟩
  have hLn : L ≤ n := by have := slZ_le zs; rw [hx.len] at this; omega
  have HX0 := Lib.hid hx
  have e1 : (slZ zs : Int) - 1 = (L : Int) - 1 := by rw [hL]
  have E1 := Lib.hid e1
  have e2 : (L : Int) - 1 + 1 = (L : Int) := by omega
  have HL := Lib.hid hL
  clear hL e1
  go_enter Tryz.func34, Tryz.ntmps34
  go_wp2_with fail
  refine (zdeg_v hx (by omega)).mono ?_
  rintro e w1 ⟨rfl, B1⟩
  rw [E1.out]
  clear hx E1
  go_wp2_with (at_make; refine wpList_make_z _ rfl _ _ 23 rfl Tryz.underlying23 info_zint _ _ _ _ L rfl rfl (by omega) (by omega) (by omega) ?_)
  intro w2 hb hw2 hz2
  obtain ⟨gB, hgB⟩ : ∃ q, w1.heap.size = q := ⟨_, rfl⟩
  have hg : w.heap.size ≤ gB := by have := B1.size; omega
  rw [hgB] at hb
  have hW : Below w.heap.size w w2 := B1.trans (hw2.mono B1.size)
  rw [hgB]
  clear B1 hw2 hz2 hgB e2
  rcases Nat.eq_zero_or_pos L with h0 | h0
  · have E := Lib.hid (prim_nil (l := zs) (List.length_eq_zero_iff.1 (by rw [nrz_length, HL.out]; exact h0)))
    subst h0
    go_wp2_with fail
    exact bodyPost_ret (v := .slice none 0 0) (by simp [results, Tryz.results34, go_sem]) rfl ⟨none, 0, 0, rfl, by rw [E.out]; exact ZL.nil _ _ _, hW⟩
  · skip
    have hne : ((L : Int) == 0) = false := by rw [beq_eq_false_iff_ne]; omega
    have hlen0 : (List.replicate L (0 : Int)).length = L := List.length_replicate
    have HO := Lib.hid hb
    clear hb
    go_wp2_with fail
    refine (zcontent_v (HX0.out.below hW) hk hn).mono ?_
    rintro e w21 ⟨s21, A21, n21, c21, rfl, hc, k21, B21⟩
    replace HO := Lib.hid (HO.out.below B21)
    replace hW := hW.trans (B21.mono hW.size)
    clear B21
    skip
    obtain ⟨ad, rfl, hab, s, A', m, d, c1, c2, ze, hm⟩ := (HX0.out.below hW).at (j := L - 1) (by omega)
    have u1 : (0 : Int) ≤ (L : Int) - 1 := by omega
    have u2 : (L : Int) - 1 < (n : Int) := by omega
    have u3 : (L : Int) - 1 = ((L - 1 : Nat) : Int) := by omega
    obtain ⟨L', hL'⟩ : ∃ q, L - 1 = q := ⟨_, rfl⟩
    rw [hL'] at u3 c1 c2 ze
    obtain ⟨y, hy⟩ : ∃ y, ith zs L' = y := ⟨_, rfl⟩
    have HY : Hid (ith zs (slZ zs - 1) = y) := Lib.hid (by rw [HL.out, hL', hy])
    rw [hy] at ze
    have hv := ze.1
    obtain ⟨t, ht⟩ : ∃ t, y.sign = t := ⟨_, rfl⟩
    have HT := Lib.hid ht
    have u4 : (0 : Int) ≤ (L' : Int) := by omega
    have u5 : (L' : Int) < (n : Int) := by omega
    have HL' := Lib.hid hL'
    clear hy ht ze u1 u2 hL'
    obtain ⟨w22, hw22⟩ : ∃ xw, xw = w21.alloc (.cells #[.bool s21, .slice A21 n21 c21] 27) := ⟨_, rfl⟩
    have z22 : Below w21.heap.size w21 w22 := by rw [hw22]; exact zba _ _
    have HXB := z22
    have HW22 : Hid (w21.alloc (.cells #[.bool s21, .slice A21 n21 c21] 27) = w22) := Lib.hid hw22.symm
    have lw_c : w.heap.size ≤ w21.heap.size := by have := hW.size; omega
    replace hc := hc.below z22
    replace hW := hW.trans (z22.mono hW.size)
    have H_c : Hid (Ib w22 w21.heap.size s21 A21 n21 c21) := Lib.hid (by rw [hw22]; exact Ib.new _ _ _ _ _ _)
    clear z22 hw22
    have HO2 := HO.out
    replace HO := Lib.hid (HO.out.below HXB)
    replace c1 := (HXB.cell (p := ad.add (L' * 2)) (by rw [add_block]; exact hab)).trans c1
    replace c2 := (HXB.cell (p := ⟨(ad.add (L' * 2)).block, (ad.add (L' * 2)).off + 1, none⟩) (by show (ad.add (L' * 2)).block < _; rw [add_block]; exact hab)).trans c2
    replace hv := hv.below HXB
    clear HXB hab
    go_upto_region 5 with fail
    rw [HW22.out]
    have hgC := H_c.out.2.2.2.2
    obtain ⟨gC, hgC2⟩ : ∃ q, w21.heap.size = q := ⟨_, rfl⟩
    have hCB : ¬ (gC = gB) := by have := HO2.lt; omega
    rw [hgC2] at H_c lw_c hgC
    rw [hgC2]
    clear hgC2
    obtain ⟨c1, c2, c3, c4, c5⟩ := H_c.out
    go_wp2_with fail
    clear c1 c2 c3 c4 c5
    refine (zsign_v hv (by omega) HT.out).mono ?_
    rintro e w23 ⟨rfl, B23⟩
    replace H_c := Lib.hid (H_c.out.below B23)
    replace hc := hc.below B23
    replace HO := Lib.hid (HO.out.below B23)
    replace hW := hW.trans (B23.mono hW.size)
    clear B23
    clear c1 c2 hv
    by_cases hneg : t < 0
    · have hy0 : y < 0 := (sign_lt HT.out).1 hneg
      have e1 : -(cont zs : Int) = prc zs := by unfold prc; rw [HY.out, if_pos hy0]
      have E := Lib.hid e1
      clear e1 hy0
      obtain ⟨c1, c2, c3, c4, c5⟩ := H_c.out
      go_wp2_with fail
      clear c1 c2 c3 c4 c5
      refine (zneg_v hc.zv (by omega)).mono ?_
      rintro e w24 ⟨s24, A24, n24, c24, rfl, hc2, k24, B24⟩
      replace H_c := Lib.hid (H_c.out.below B24)
      replace hc := hc.below B24
      replace HO := Lib.hid (HO.out.below B24)
      replace hW := hW.trans (B24.mono hW.size)
      clear B24
      rw [E.out] at hc2
      clear hc E
      have O_c := H_c
      obtain ⟨w25, hw25⟩ : ∃ xw, xw = zput w24 gC s24 A24 n24 c24 := ⟨_, rfl⟩
      have HW25 : Hid (((w24.setCell ⟨gC, 0, none⟩ (.bool s24)).setCell ⟨gC, 1, none⟩ (.slice A24 n24 c24)) = w25) := Lib.hid hw25.symm
      have OI := H_c.out
      replace HO : Hid (ZB w25 gB 0 (List.replicate L 0)) := Lib.hid (by rw [hw25]; exact HO.out.zput hCB OI)
      replace hc2 := hc2.zput (s' := s24) (A' := A24) (n' := n24) (c' := c24) OI
      rw [← hw25] at hc2
      replace hW : Below w.heap.size w w25 := by rw [hw25]; exact below_put hW lw_c
      replace H_c : Hid (Ib w25 gC s24 A24 n24 c24) := Lib.hid (by rw [hw25]; exact OI.own)
      clear hw25 OI
      have hc := hc2
      clear hc2
      obtain ⟨c1, c2, c3, c4, c5⟩ := O_c.out
      go_upto_region 7 with fail
      rw [HW25.out]
      clear c1 c2 c3 c4 c5 O_c
      obtain ⟨sc, hsc⟩ : ∃ x, s24 = x := ⟨_, rfl⟩
      obtain ⟨Ac, hAc⟩ : ∃ x, A24 = x := ⟨_, rfl⟩
      obtain ⟨nc, hnc⟩ : ∃ x, n24 = x := ⟨_, rfl⟩
      obtain ⟨cc, hcc⟩ : ∃ x, c24 = x := ⟨_, rfl⟩
      rw [hsc, hAc, hnc, hcc] at H_c hc
      have hpr : prc zs ≠ 0 := prc_ne (fun e => by have h1 := nrz_length zs; rw [e, HL.out] at h1; simp at h1; omega)
      have knc2 : nc ≤ k := by omega
      clear hsc hAc hnc hcc
      have HB : Hid (Ib w25 gC sc Ac nc cc ∧ Zc w25 sc Ac nc cc (prc zs) ∧ Below w.heap.size w w25 ∧ ZB w25 gB k (upd (List.replicate L 0) 0 0 (ith (prim zs)))) := Lib.hid ⟨H_c.out, hc, hW, by rw [upd_zero]; exact HO.out.mono (Nat.zero_le _)⟩
      clear hW H_c hc HO
      go_wp2_with fail
      go_loopw [27] (fun s27 wr => ∃ j : Nat, s27 = .int .i64 (j : Int) ∧ j ≤ L ∧ Hid (Ib wr gC sc Ac nc cc ∧ Zc wr sc Ac nc cc (prc zs) ∧ Below w.heap.size w wr ∧ ZB wr gB k (upd (List.replicate L 0) 0 j (ith (prim zs))))) (fun s27 _ => L - (intOf s27).toNat)
      case atStart => exact ⟨0, rfl, Nat.zero_le _, HB⟩
      case round =>
        clear HB
        obtain ⟨j, rfl, hj, HB⟩ := hrel
        obtain ⟨I1, hc, hW, hb⟩ := HB.out
        have H_c := Lib.hid I1
        clear HB I1
        by_cases hlt : j < L
        · obtain ⟨ad', e', hab, s, A', m, d, c1, c2, ze, hm⟩ := (HX0.out.below hW).at (j := j) (by omega)
          cases e'
          have hv := ze.1
          obtain ⟨x, hx⟩ : ∃ x, ith zs j = x := ⟨_, rfl⟩
          have HX : Hid (ith (prim zs) j * prc zs = x) := Lib.hid (by rw [ith_prim_mul, hx])
          rw [hx] at hv
          have hlen : (upd (List.replicate L 0) 0 j (ith (prim zs))).length = L := by rw [upd_length, List.length_replicate]
          have hgl := hb.lt
          have HO := Lib.hid hb
          clear ze hx hb
          obtain ⟨c1, c2, c3, c4, c5⟩ := H_c.out
          go_wp2_with fail
          clear c1 c2 c3 c4 c5
          refine region8 [10] 12 [IsK (.slice (some ⟨gB, 0, none⟩) L L), IsK (.int .i64 (j : Int)), IsK (.slice (some ad) n c), IsK (.int .i64 (j : Int)), IsK (.pointer (some (ad.add (j * 2)))), IsK (.agg #[.bool s, .slice A' m d]), IsK (.agg #[.bool sc, .slice Ac nc cc]), IsZb (ith (prim zs) j) k, IsZb (ith (prim zs) j) k, IsC (ith (prim zs) j) k, IsK (.bool true), IsK (.pointer (some ⟨gB, 0 + j * 2, none⟩))] (fun _ _ d _ _ h => by cases d <;> exact h) (by kernel_rfl) (by kernel_rfl) (by kernel_rfl) ⟨stay_k _, stay_k _, stay_k _, stay_k _, stay_k _, stay_k _, stay_k _, stay_zb _ _, stay_zb _ _, stay_c _ _, stay_k _, stay_k _, trivial⟩ ?_ ?_
          · refine HopAll.cons rfl ?_ (HopAll.cons rfl ?_ (HopAll.cons rfl ?_ (HopAll.cons rfl ?_ (HopAll.cons rfl ?_ (HopAll.cons rfl ?_ (HopAll.cons rfl ?_ (HopAll.cons rfl ?_ (HopAll.cons rfl ?_ (HopAll.cons rfl ?_ (HopAll.fl rfl ?_ (HopAll.cons rfl ?_ HopAll.nil)))))))))))
            · intro a w1 hB ho hp Kq hKq
              have e3 : a.eval (.tmp 3) = (.slice (some ⟨gB, 0, none⟩) L L) := ho 3 (by kernel_rfl)
              refine hop_val (wanted_none rfl) ?_ (hKq (.slice (some ⟨gB, 0, none⟩) L L) _ rfl (Below.refl _ _))
              unfold execOp; simp only [eval_const, e3]; simp [go_sem]
            · intro a w1 hB ho hp Kq hKq
              have e5 : a.eval (.tmp 5) = (.int .i64 (j : Int)) := ho 5 (by kernel_rfl)
              refine hop_val (wanted_none rfl) ?_ (hKq (.int .i64 (j : Int)) _ rfl (Below.refl _ _))
              unfold execOp; simp only [eval_const, e5]; simp [go_sem]
            · intro a w1 hB ho hp Kq hKq
              have e0 : a.eval (.tmp 0) = (.slice (some ad) n c) := ho 0 (by kernel_rfl)
              refine hop_val (wanted_none rfl) ?_ (hKq (.slice (some ad) n c) _ rfl (Below.refl _ _))
              unfold execOp; simp only [eval_const, e0]; simp [go_sem]
            · intro a w1 hB ho hp Kq hKq
              have e5 : a.eval (.tmp 5) = (.int .i64 (j : Int)) := ho 5 (by kernel_rfl)
              refine hop_val (wanted_none rfl) ?_ (hKq (.int .i64 (j : Int)) _ rfl (Below.refl _ _))
              unfold execOp; simp only [eval_const, e5]; simp [go_sem]
            · intro a w1 hB ho hp Kq hKq
              have e33 : a.eval (.tmp 33) = (.slice (some ad) n c) := hp 2 33 (by kernel_rfl)
              have e34 : a.eval (.tmp 34) = (.int .i64 (j : Int)) := hp 3 34 (by kernel_rfl)
              refine hop_val (wanted_none rfl) ?_ (hKq (.pointer (some (ad.add (j * 2)))) _ rfl (Below.refl _ _))
              unfold execOp; simp only [eval_const, Option.map_some, Option.map_none, e33, e34]; simp [run_ixP (show j < n by omega)]
            · intro a w1 hB ho hp Kq hKq
              have e35 : a.eval (.tmp 35) = (.pointer (some (ad.add (j * 2)))) := hp 4 35 (by kernel_rfl)
              exact hop_load (wanted_none rfl) rfl e35 (run_ldzA ((hB.cell (p := ad.add (j * 2)) (by rw [add_block]; exact hab)).trans c1) ((hB.cell (p := ⟨(ad.add (j * 2)).block, (ad.add (j * 2)).off + 1, none⟩) (by show (ad.add (j * 2)).block < _; rw [add_block]; exact hab)).trans c2)) (hKq _ _ rfl (Below.refl _ _))
            · intro a w1 hB ho hp Kq hKq
              have e4 : a.eval (.tmp 4) = (.pointer (some ⟨gC, 0, none⟩)) := ho 4 (by kernel_rfl)
              obtain ⟨u1, u2, u3, u4, u5⟩ := H_c.out.below hB
              exact hop_load (wanted_none rfl) rfl e4 (run_ldz u1 u2) (hKq _ _ rfl (Below.refl _ _))
            · intro a w1 hB ho hp Kq hKq
              have e36 : a.eval (.tmp 36) = (.agg #[.bool s, .slice A' m d]) := hp 5 36 (by kernel_rfl)
              have e37 : a.eval (.tmp 37) = (.agg #[.bool sc, .slice Ac nc cc]) := hp 6 37 (by kernel_rfl)
              refine hop_call (wanted_none rfl) rfl (args := #[(.agg #[.bool s, .slice A' m d]), (.agg #[.bool sc, .slice Ac nc cc])]) (by simp only [List.map_toArray, List.map_cons, List.map_nil, eval_const, e36, e37]) (ent7 (by kernel_rfl) _ _) (zexact_yes (hv.below hB) (hc.below hB).zv (by omega) (by omega) hpr HX.out) ?_
              rintro e w2 ⟨sq, Aq, nq, cq, rfl, pq, kq, Bq⟩
              exact ⟨_, rfl, hKq _ _ ⟨sq, Aq, nq, cq, rfl, pq, by omega⟩ Bq⟩
            · intro a w1 hB ho hp Kq hKq
              obtain ⟨s_38, A_38, n_38, c_38, e38, ⟨p38, k38⟩⟩ : IsZb (ith (prim zs) j) k (a.eval (.tmp 38)) w1 := hp 7 38 (by kernel_rfl)
              refine hop_val (wanted_none rfl) ?_ (hKq (.tuple #[.agg #[.bool s_38, .slice A_38 n_38 c_38], .bool true]) _ ⟨_, _, _, _, rfl, ⟨p38, k38⟩⟩ (Below.refl _ _))
              unfold execOp; simp only [e38]; simp [go_sem]
            · intro a w1 hB ho hp Kq hKq
              obtain ⟨s_30, A_30, n_30, c_30, e30, ⟨p30, k30⟩⟩ : IsZb (ith (prim zs) j) k (a.eval (.tmp 30)) w1 := hp 8 30 (by kernel_rfl)
              refine hop_val (wanted_none rfl) ?_ (hKq (.agg #[.bool s_30, .slice A_30 n_30 c_30]) _ ⟨_, _, _, _, rfl, p30, k30⟩ (Below.refl _ _))
              unfold execOp; simp only [e30]; simp [go_sem]
            · intro a w1 hB ho hp
              obtain ⟨s_30, A_30, n_30, c_30, e30, ⟨p30, k30⟩⟩ : IsZb (ith (prim zs) j) k (a.eval (.tmp 30)) w1 := hp 8 30 (by kernel_rfl)
              refine ⟨(.bool true), rfl, .inl ⟨(wanted_none rfl), fun w2 => ?_⟩⟩
              unfold execOp; simp only [e30]; simp [go_sem]
            · intro a w1 hB ho hp Kq hKq
              have e31 : a.eval (.tmp 31) = (.slice (some ⟨gB, 0, none⟩) L L) := hp 0 31 (by kernel_rfl)
              have e32 : a.eval (.tmp 32) = (.int .i64 (j : Int)) := hp 1 32 (by kernel_rfl)
              refine hop_val (wanted_none rfl) ?_ (hKq (.pointer (some ⟨gB, 0 + j * 2, none⟩)) _ rfl (Below.refl _ _))
              unfold execOp; simp only [eval_const, Option.map_some, Option.map_none, e31, e32]; simp [run_ixP0 hlt]
          intro w26 B26
          refine EndAll.one rfl fun vv hv => ?_
          obtain rfl : vv = (.slice (some ⟨gB, 0, none⟩) L L) := hv
          refine EndAll.one rfl fun vv hv => ?_
          obtain rfl : vv = (.int .i64 (j : Int)) := hv
          refine EndAll.one rfl fun vv hv => ?_
          obtain rfl : vv = (.slice (some ad) n c) := hv
          refine EndAll.one rfl fun vv hv => ?_
          obtain rfl : vv = (.int .i64 (j : Int)) := hv
          refine EndAll.one rfl fun vv hv => ?_
          obtain rfl : vv = (.pointer (some (ad.add (j * 2)))) := hv
          refine EndAll.one rfl fun vv hv => ?_
          obtain rfl : vv = (.agg #[.bool s, .slice A' m d]) := hv
          refine EndAll.one rfl fun vv hv => ?_
          obtain rfl : vv = (.agg #[.bool sc, .slice Ac nc cc]) := hv
          refine EndAll.one rfl fun vv hv => ?_
          obtain ⟨s27, A27, n27, c27, rfl, ⟨p27, k27⟩⟩ : IsZb (ith (prim zs) j) k vv w26 := hv
          refine EndAll.one rfl fun vv hv => ?_
          obtain ⟨s28, A28, n28, c28, rfl, ⟨p28, k28⟩⟩ : IsZb (ith (prim zs) j) k vv w26 := hv
          refine EndAll.one rfl fun vv hv => ?_
          obtain ⟨s29, A29, n29, c29, rfl, ⟨p29, k29⟩⟩ : IsC (ith (prim zs) j) k vv w26 := hv
          refine EndAll.one rfl fun vv hv => ?_
          obtain rfl : vv = (.bool true) := hv
          refine EndAll.one rfl fun vv hv => ?_
          obtain rfl : vv = (.pointer (some ⟨gB, 0 + j * 2, none⟩)) := hv
          refine EndAll.nil (l := [_]) rfl ?_
          simp only [Act.put, List.setIfInBounds_toArray, List.set_cons_zero, List.set_cons_succ]
          replace H_c := Lib.hid (H_c.out.below B26)
          replace hv := hv.below B26
          replace hc := hc.below B26
          replace hW := hW.trans (B26.mono hW.size)
          have pz := p29
          clear p27 p28 p29
          have kz := k29
          have hb := HO.out.below B26
          have hW2 := hW
          clear HO hv hW c1 c2 B26
          obtain ⟨t1, t2, t3, t4, x1, x2, -, -⟩ := hb.cells (j := j) (by omega)
          have y1 := hb.free (j * 2)
          have y2 := hb.free (j * 2 + 1)
          have hs := hb.put (j := j) (by omega) pz kz
          have hgr := zputo_gro w26 gB (j * 2) s29 A29 n29 c29
          have hno := hb.now
          have hG := Lib.hid (gro_up hW2 hgr hg)
          have hbx0 := Lib.hid (H_c.out.gro hgr (by omega))
          have hfx0 := Lib.hid (hc.gro hno hgr)
          have hu := upd_set (xs := List.replicate L 0) (o := 0) (i := j) (f := ith (prim zs)) (by rw [List.length_replicate]; omega)
          rw [Nat.zero_add] at hu
          rw [hu] at hs
          have HS := Lib.hid hs
          unfold zputo at HS hG hbx0 hfx0
          clear hs hu hgr hno hb hW2 hc
          go_wp2_with fail
          go_roundw
          case rel => exact ⟨j + 1, by go_num, by omega, Lib.hid ⟨hbx0.out, hfx0.out, hG.out, HS.out⟩⟩
          case measure => first | (simp [intOf]; done) | (simp [intOf]; omega)
        · obtain rfl : j = L := by omega
          rw [upd_all, show mkz j (ith (prim zs)) = prim zs by rw [← HL.out]; exact prim_places zs] at hb
          have hl : (prim zs).length = j := by rw [prim_length]; exact HL.out
          have hr := hb.zl0 true (n := j) (c := j) (by omega) (Nat.le_refl _) (by omega)
          rw [List.take_of_length_le (by omega)] at hr
          have HR := Lib.hid hr
          clear hr hb hc H_c hl
          go_wp2_with fail
          exact bodyPost_ret (v := .slice (some ⟨gB, 0, none⟩) j j) (by simp [results, Tryz.results34, go_sem]) rfl ⟨_, j, j, rfl, HR.out, hW⟩
    · have hy0 : ¬ y < 0 := fun h => hneg ((sign_lt HT.out).2 h)
      have e1 : (cont zs : Int) = prc zs := by unfold prc; rw [HY.out, if_neg hy0]
      rw [e1] at hc
      clear e1 hy0
      obtain ⟨c1, c2, c3, c4, c5⟩ := H_c.out
      go_upto_region 7 with fail
      clear c1 c2 c3 c4 c5
      obtain ⟨sc, hsc⟩ : ∃ x, s21 = x := ⟨_, rfl⟩
      obtain ⟨Ac, hAc⟩ : ∃ x, A21 = x := ⟨_, rfl⟩
      obtain ⟨nc, hnc⟩ : ∃ x, n21 = x := ⟨_, rfl⟩
      obtain ⟨cc, hcc⟩ : ∃ x, c21 = x := ⟨_, rfl⟩
      rw [hsc, hAc, hnc, hcc] at H_c hc
      have hpr : prc zs ≠ 0 := prc_ne (fun e => by have h1 := nrz_length zs; rw [e, HL.out] at h1; simp at h1; omega)
      have knc2 : nc ≤ k := by omega
      clear hsc hAc hnc hcc
      have HB : Hid (Ib w23 gC sc Ac nc cc ∧ Zc w23 sc Ac nc cc (prc zs) ∧ Below w.heap.size w w23 ∧ ZB w23 gB k (upd (List.replicate L 0) 0 0 (ith (prim zs)))) := Lib.hid ⟨H_c.out, hc, hW, by rw [upd_zero]; exact HO.out.mono (Nat.zero_le _)⟩
      clear hW H_c hc HO
      go_wp2_with fail
      go_loopw [27] (fun s27 wr => ∃ j : Nat, s27 = .int .i64 (j : Int) ∧ j ≤ L ∧ Hid (Ib wr gC sc Ac nc cc ∧ Zc wr sc Ac nc cc (prc zs) ∧ Below w.heap.size w wr ∧ ZB wr gB k (upd (List.replicate L 0) 0 j (ith (prim zs))))) (fun s27 _ => L - (intOf s27).toNat)
      case atStart => exact ⟨0, rfl, Nat.zero_le _, HB⟩
      case round =>
        clear HB
        obtain ⟨j, rfl, hj, HB⟩ := hrel
        obtain ⟨I1, hc, hW, hb⟩ := HB.out
        have H_c := Lib.hid I1
        clear HB I1
        by_cases hlt : j < L
        · obtain ⟨ad', e', hab, s, A', m, d, c1, c2, ze, hm⟩ := (HX0.out.below hW).at (j := j) (by omega)
          cases e'
          have hv := ze.1
          obtain ⟨x, hx⟩ : ∃ x, ith zs j = x := ⟨_, rfl⟩
          have HX : Hid (ith (prim zs) j * prc zs = x) := Lib.hid (by rw [ith_prim_mul, hx])
          rw [hx] at hv
          have hlen : (upd (List.replicate L 0) 0 j (ith (prim zs))).length = L := by rw [upd_length, List.length_replicate]
          have hgl := hb.lt
          have HO := Lib.hid hb
          clear ze hx hb
          obtain ⟨c1, c2, c3, c4, c5⟩ := H_c.out
          go_wp2_with fail
          clear c1 c2 c3 c4 c5
          refine region8 [10] 12 [IsK (.slice (some ⟨gB, 0, none⟩) L L), IsK (.int .i64 (j : Int)), IsK (.slice (some ad) n c), IsK (.int .i64 (j : Int)), IsK (.pointer (some (ad.add (j * 2)))), IsK (.agg #[.bool s, .slice A' m d]), IsK (.agg #[.bool sc, .slice Ac nc cc]), IsZb (ith (prim zs) j) k, IsZb (ith (prim zs) j) k, IsC (ith (prim zs) j) k, IsK (.bool true), IsK (.pointer (some ⟨gB, 0 + j * 2, none⟩))] (fun _ _ d _ _ h => by cases d <;> exact h) (by kernel_rfl) (by kernel_rfl) (by kernel_rfl) ⟨stay_k _, stay_k _, stay_k _, stay_k _, stay_k _, stay_k _, stay_k _, stay_zb _ _, stay_zb _ _, stay_c _ _, stay_k _, stay_k _, trivial⟩ ?_ ?_
          · refine HopAll.cons rfl ?_ (HopAll.cons rfl ?_ (HopAll.cons rfl ?_ (HopAll.cons rfl ?_ (HopAll.cons rfl ?_ (HopAll.cons rfl ?_ (HopAll.cons rfl ?_ (HopAll.cons rfl ?_ (HopAll.cons rfl ?_ (HopAll.cons rfl ?_ (HopAll.fl rfl ?_ (HopAll.cons rfl ?_ HopAll.nil)))))))))))
            · intro a w1 hB ho hp Kq hKq
              have e3 : a.eval (.tmp 3) = (.slice (some ⟨gB, 0, none⟩) L L) := ho 3 (by kernel_rfl)
              refine hop_val (wanted_none rfl) ?_ (hKq (.slice (some ⟨gB, 0, none⟩) L L) _ rfl (Below.refl _ _))
              unfold execOp; simp only [eval_const, e3]; simp [go_sem]
            · intro a w1 hB ho hp Kq hKq
              have e5 : a.eval (.tmp 5) = (.int .i64 (j : Int)) := ho 5 (by kernel_rfl)
              refine hop_val (wanted_none rfl) ?_ (hKq (.int .i64 (j : Int)) _ rfl (Below.refl _ _))
              unfold execOp; simp only [eval_const, e5]; simp [go_sem]
            · intro a w1 hB ho hp Kq hKq
              have e0 : a.eval (.tmp 0) = (.slice (some ad) n c) := ho 0 (by kernel_rfl)
              refine hop_val (wanted_none rfl) ?_ (hKq (.slice (some ad) n c) _ rfl (Below.refl _ _))
              unfold execOp; simp only [eval_const, e0]; simp [go_sem]
            · intro a w1 hB ho hp Kq hKq
              have e5 : a.eval (.tmp 5) = (.int .i64 (j : Int)) := ho 5 (by kernel_rfl)
              refine hop_val (wanted_none rfl) ?_ (hKq (.int .i64 (j : Int)) _ rfl (Below.refl _ _))
              unfold execOp; simp only [eval_const, e5]; simp [go_sem]
            · intro a w1 hB ho hp Kq hKq
              have e33 : a.eval (.tmp 33) = (.slice (some ad) n c) := hp 2 33 (by kernel_rfl)
              have e34 : a.eval (.tmp 34) = (.int .i64 (j : Int)) := hp 3 34 (by kernel_rfl)
              refine hop_val (wanted_none rfl) ?_ (hKq (.pointer (some (ad.add (j * 2)))) _ rfl (Below.refl _ _))
              unfold execOp; simp only [eval_const, Option.map_some, Option.map_none, e33, e34]; simp [run_ixP (show j < n by omega)]
            · intro a w1 hB ho hp Kq hKq
              have e35 : a.eval (.tmp 35) = (.pointer (some (ad.add (j * 2)))) := hp 4 35 (by kernel_rfl)
              exact hop_load (wanted_none rfl) rfl e35 (run_ldzA ((hB.cell (p := ad.add (j * 2)) (by rw [add_block]; exact hab)).trans c1) ((hB.cell (p := ⟨(ad.add (j * 2)).block, (ad.add (j * 2)).off + 1, none⟩) (by show (ad.add (j * 2)).block < _; rw [add_block]; exact hab)).trans c2)) (hKq _ _ rfl (Below.refl _ _))
            · intro a w1 hB ho hp Kq hKq
              have e4 : a.eval (.tmp 4) = (.pointer (some ⟨gC, 0, none⟩)) := ho 4 (by kernel_rfl)
              obtain ⟨u1, u2, u3, u4, u5⟩ := H_c.out.below hB
              exact hop_load (wanted_none rfl) rfl e4 (run_ldz u1 u2) (hKq _ _ rfl (Below.refl _ _))
            · intro a w1 hB ho hp Kq hKq
              have e36 : a.eval (.tmp 36) = (.agg #[.bool s, .slice A' m d]) := hp 5 36 (by kernel_rfl)
              have e37 : a.eval (.tmp 37) = (.agg #[.bool sc, .slice Ac nc cc]) := hp 6 37 (by kernel_rfl)
              refine hop_call (wanted_none rfl) rfl (args := #[(.agg #[.bool s, .slice A' m d]), (.agg #[.bool sc, .slice Ac nc cc])]) (by simp only [List.map_toArray, List.map_cons, List.map_nil, eval_const, e36, e37]) (ent7 (by kernel_rfl) _ _) (zexact_yes (hv.below hB) (hc.below hB).zv (by omega) (by omega) hpr HX.out) ?_
              rintro e w2 ⟨sq, Aq, nq, cq, rfl, pq, kq, Bq⟩
              exact ⟨_, rfl, hKq _ _ ⟨sq, Aq, nq, cq, rfl, pq, by omega⟩ Bq⟩
            · intro a w1 hB ho hp Kq hKq
              obtain ⟨s_38, A_38, n_38, c_38, e38, ⟨p38, k38⟩⟩ : IsZb (ith (prim zs) j) k (a.eval (.tmp 38)) w1 := hp 7 38 (by kernel_rfl)
              refine hop_val (wanted_none rfl) ?_ (hKq (.tuple #[.agg #[.bool s_38, .slice A_38 n_38 c_38], .bool true]) _ ⟨_, _, _, _, rfl, ⟨p38, k38⟩⟩ (Below.refl _ _))
              unfold execOp; simp only [e38]; simp [go_sem]
            · intro a w1 hB ho hp Kq hKq
              obtain ⟨s_30, A_30, n_30, c_30, e30, ⟨p30, k30⟩⟩ : IsZb (ith (prim zs) j) k (a.eval (.tmp 30)) w1 := hp 8 30 (by kernel_rfl)
              refine hop_val (wanted_none rfl) ?_ (hKq (.agg #[.bool s_30, .slice A_30 n_30 c_30]) _ ⟨_, _, _, _, rfl, p30, k30⟩ (Below.refl _ _))
              unfold execOp; simp only [e30]; simp [go_sem]
            · intro a w1 hB ho hp
              obtain ⟨s_30, A_30, n_30, c_30, e30, ⟨p30, k30⟩⟩ : IsZb (ith (prim zs) j) k (a.eval (.tmp 30)) w1 := hp 8 30 (by kernel_rfl)
              refine ⟨(.bool true), rfl, .inl ⟨(wanted_none rfl), fun w2 => ?_⟩⟩
              unfold execOp; simp only [e30]; simp [go_sem]
            · intro a w1 hB ho hp Kq hKq
              have e31 : a.eval (.tmp 31) = (.slice (some ⟨gB, 0, none⟩) L L) := hp 0 31 (by kernel_rfl)
              have e32 : a.eval (.tmp 32) = (.int .i64 (j : Int)) := hp 1 32 (by kernel_rfl)
              refine hop_val (wanted_none rfl) ?_ (hKq (.pointer (some ⟨gB, 0 + j * 2, none⟩)) _ rfl (Below.refl _ _))
              unfold execOp; simp only [eval_const, Option.map_some, Option.map_none, e31, e32]; simp [run_ixP0 hlt]
          intro w24 B24
          refine EndAll.one rfl fun vv hv => ?_
          obtain rfl : vv = (.slice (some ⟨gB, 0, none⟩) L L) := hv
          refine EndAll.one rfl fun vv hv => ?_
          obtain rfl : vv = (.int .i64 (j : Int)) := hv
          refine EndAll.one rfl fun vv hv => ?_
          obtain rfl : vv = (.slice (some ad) n c) := hv
          refine EndAll.one rfl fun vv hv => ?_
          obtain rfl : vv = (.int .i64 (j : Int)) := hv
          refine EndAll.one rfl fun vv hv => ?_
          obtain rfl : vv = (.pointer (some (ad.add (j * 2)))) := hv
          refine EndAll.one rfl fun vv hv => ?_
          obtain rfl : vv = (.agg #[.bool s, .slice A' m d]) := hv
          refine EndAll.one rfl fun vv hv => ?_
          obtain rfl : vv = (.agg #[.bool sc, .slice Ac nc cc]) := hv
          refine EndAll.one rfl fun vv hv => ?_
          obtain ⟨s25, A25, n25, c25, rfl, ⟨p25, k25⟩⟩ : IsZb (ith (prim zs) j) k vv w24 := hv
          refine EndAll.one rfl fun vv hv => ?_
          obtain ⟨s26, A26, n26, c26, rfl, ⟨p26, k26⟩⟩ : IsZb (ith (prim zs) j) k vv w24 := hv
          refine EndAll.one rfl fun vv hv => ?_
          obtain ⟨s27, A27, n27, c27, rfl, ⟨p27, k27⟩⟩ : IsC (ith (prim zs) j) k vv w24 := hv
          refine EndAll.one rfl fun vv hv => ?_
          obtain rfl : vv = (.bool true) := hv
          refine EndAll.one rfl fun vv hv => ?_
          obtain rfl : vv = (.pointer (some ⟨gB, 0 + j * 2, none⟩)) := hv
          refine EndAll.nil (l := [_]) rfl ?_
          simp only [Act.put, List.setIfInBounds_toArray, List.set_cons_zero, List.set_cons_succ]
          replace H_c := Lib.hid (H_c.out.below B24)
          replace hv := hv.below B24
          replace hc := hc.below B24
          replace hW := hW.trans (B24.mono hW.size)
          have pz := p27
          clear p25 p26 p27
          have kz := k27
          have hb := HO.out.below B24
          have hW2 := hW
          clear HO hv hW c1 c2 B24
          obtain ⟨t1, t2, t3, t4, x1, x2, -, -⟩ := hb.cells (j := j) (by omega)
          have y1 := hb.free (j * 2)
          have y2 := hb.free (j * 2 + 1)
          have hs := hb.put (j := j) (by omega) pz kz
          have hgr := zputo_gro w24 gB (j * 2) s27 A27 n27 c27
          have hno := hb.now
          have hG := Lib.hid (gro_up hW2 hgr hg)
          have hbx0 := Lib.hid (H_c.out.gro hgr (by omega))
          have hfx0 := Lib.hid (hc.gro hno hgr)
          have hu := upd_set (xs := List.replicate L 0) (o := 0) (i := j) (f := ith (prim zs)) (by rw [List.length_replicate]; omega)
          rw [Nat.zero_add] at hu
          rw [hu] at hs
          have HS := Lib.hid hs
          unfold zputo at HS hG hbx0 hfx0
          clear hs hu hgr hno hb hW2 hc
          go_wp2_with fail
          go_roundw
          case rel => exact ⟨j + 1, by go_num, by omega, Lib.hid ⟨hbx0.out, hfx0.out, hG.out, HS.out⟩⟩
          case measure => first | (simp [intOf]; done) | (simp [intOf]; omega)
        · obtain rfl : j = L := by omega
          rw [upd_all, show mkz j (ith (prim zs)) = prim zs by rw [← HL.out]; exact prim_places zs] at hb
          have hl : (prim zs).length = j := by rw [prim_length]; exact HL.out
          have hr := hb.zl0 true (n := j) (c := j) (by omega) (Nat.le_refl _) (by omega)
          rw [List.take_of_length_le (by omega)] at hr
          have HR := Lib.hid hr
          clear hr hb hc H_c hl
          go_wp2_with fail
          exact bodyPost_ret (v := .slice (some ⟨gB, 0, none⟩) j j) (by simp [results, Tryz.results34, go_sem]) rfl ⟨_, j, j, rfl, HR.out, hW⟩
end Go.Proofs.YtddbhhedjipjkaaGreatDoor
