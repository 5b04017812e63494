/-
  ZlX
-/
import Derived.Test.YtddbhhedjipjkaaGreatDoorPr42

namespace Go.Proofs.YtddbhhedjipjkaaGreatDoor
open Go.RowKit
set_option linter.unusedVariables false
set_option linter.unusedSimpArgs false
theorem pv_take (zs : List Int) (x : Int) : ∀ j, j < zs.length → pv (zs.take (j + 1)) x = pv (zs.take j) x + ith zs j * x ^ j := by
  induction zs with
  | nil => intro j h; simp at h
  | cons a t ih =>
    intro j h
    cases j with
    | zero => simp [pv_cons, ith_zero, pv_nil]
    | succ j =>
      rw [List.take_succ_cons, List.take_succ_cons, pv_cons, pv_cons, ih j (by simpa using h), ith_succ, Int.mul_add, Int.pow_succ, Int.mul_left_comm, Int.mul_comm x (x ^ j), Int.add_assoc]
set_option maxRecDepth 100000 in
set_option maxHeartbeats 1000000 in
theorem reval10_v {q : Bool} {A : Option Addr} {n c k : Nat} {zs : List Int} {w : World} {s0 : Bool} {A0 : Option Addr} {n0 c0 : Nat} {x : Int} (hx : ZL q w A n c k zs) (hz : Zv w s0 A0 n0 c0 x) (hb : k + 2 + n * (n0 + 1) ≤ 1099511627776) (hn0 : n0 ≤ 1099511627776) :
    Calls Tryz.prog 26 #[.slice A n c, .agg #[.bool s0, .slice A0 n0 c0]] w (ZPost (pv zs x) (k + 2 + n * (n0 + 1)) w) := by
  have HX0 := Lib.hid hx
  have HN := Lib.hid hx.len
  obtain ⟨KB, hKB⟩ : ∃ KB, k + 2 + n * (n0 + 1) = KB := ⟨_, rfl⟩
  have HKB := Lib.hid hKB
  rw [hKB] at hb
  rw [hKB]
  clear hx hKB
  have hW := Below.refl w.heap.size w
  obtain ⟨wp0, hwp0⟩ : ∃ xw, xw = w.alloc (.cells #[.bool s0, .slice A0 n0 c0] 27) := ⟨_, rfl⟩
  have zp0 : Below w.heap.size w wp0 := by rw [hwp0]; exact zba _ _
  have sp0 : wp0.heap.size = w.heap.size + 1 := by rw [hwp0, World.size_alloc]
  have Ix : Ib wp0 w.heap.size s0 A0 n0 c0 := by rw [hwp0]; exact Ib.new _ _ _ _ _ _
  replace hz := hz.below zp0
  replace hW := hW.trans (zp0.mono hW.size)
  have H_x := Lib.hid Ix
  clear Ix zp0
  obtain ⟨wp1, hwp1⟩ : ∃ xw, xw = wp0.alloc (.cells #[.bool false, .slice none 0 0] 27) := ⟨_, rfl⟩
  have zp1 : Below wp0.heap.size wp0 wp1 := by rw [hwp1]; exact zba _ _
  have sp1 : wp1.heap.size = w.heap.size + 1 + 1 := by rw [hwp1, World.size_alloc, sp0]
  have Ir : Ib wp1 (w.heap.size + 1) false none 0 0 := by rw [hwp1, ← sp0]; exact Ib.new _ _ _ _ _ _
  replace H_x := Lib.hid (H_x.out.below zp1)
  replace hz := hz.below zp1
  replace hW := hW.trans (zp1.mono hW.size)
  have H_r := Lib.hid Ir
  clear Ir zp1
  have HW : Hid (((w.alloc (.cells #[.bool s0, .slice A0 n0 c0] 27)).alloc (.cells #[.bool false, .slice none 0 0] 27)) = wp1) := Lib.hid (by rw [hwp1, hwp0])
  have nn_x_r : ¬ (w.heap.size = (w.heap.size + 1)) := by omega
  have nm_x_r : ¬ ((w.heap.size + 1) = w.heap.size) := by omega
  have lw_x : w.heap.size ≤ w.heap.size := by omega
  have lw_r : w.heap.size ≤ (w.heap.size + 1) := by omega
  clear hwp0 hwp1 sp0 sp1
  go_enter Tryz.func26, Tryz.ntmps26
  obtain ⟨x1, x2, x3, x4, x5⟩ := H_x.out
  obtain ⟨r1, r2, r3, r4, r5⟩ := H_r.out
  go_upto_region 1 with fail
  rw [HW.out]
  clear x1 x2 x3 x4 x5 r1 r2 r3 r4 r5
  obtain ⟨x1, x2, x3, x4, x5⟩ := H_x.out
  obtain ⟨r1, r2, r3, r4, r5⟩ := H_r.out
  go_wp2_with fail
  clear x1 x2 x3 x4 x5 r1 r2 r3 r4 r5
  refine (zof_v 0 (by omega) (by omega) _).mono ?_
  rintro e w21 ⟨s21, A21, n21, c21, rfl, h0, k21, B21⟩
  replace H_x := Lib.hid (H_x.out.below B21)
  replace H_r := Lib.hid (H_r.out.below B21)
  replace hz := hz.below B21
  replace hW := hW.trans (B21.mono hW.size)
  clear B21
  obtain ⟨x1, x2, x3, x4, x5⟩ := H_x.out
  obtain ⟨r1, r2, r3, r4, r5⟩ := H_r.out
  go_wp2_with fail
  clear x1 x2 x3 x4 x5 r1 r2 r3 r4 r5
  refine (zof_v 1 (by omega) (by omega) _).mono ?_
  rintro e w22 ⟨s22, A22, n22, c22, rfl, h1, k22, B22⟩
  replace H_x := Lib.hid (H_x.out.below B22)
  replace H_r := Lib.hid (H_r.out.below B22)
  replace hz := hz.below B22
  replace h0 := h0.below B22
  replace hW := hW.trans (B22.mono hW.size)
  clear B22
  have O_x := H_x
  have O_r := H_r
  obtain ⟨w23, hw23⟩ : ∃ xw, xw = w22.alloc (.cells #[.bool s21, .slice A21 n21 c21] 27) := ⟨_, rfl⟩
  have z23 : Below w22.heap.size w22 w23 := by rw [hw23]; exact zba _ _
  have HW23 : Hid (w22.alloc (.cells #[.bool s21, .slice A21 n21 c21] 27) = w23) := Lib.hid hw23.symm
  have nn_x_o : ¬ (w.heap.size = w22.heap.size) := by have := H_x.out.2.2.2.2; omega
  have nm_x_o : ¬ (w22.heap.size = w.heap.size) := by omega
  have nn_r_o : ¬ ((w.heap.size + 1) = w22.heap.size) := by have := H_r.out.2.2.2.2; omega
  have nm_r_o : ¬ (w22.heap.size = (w.heap.size + 1)) := by omega
  have lw_o : w.heap.size ≤ w22.heap.size := by have := hW.size; omega
  replace H_x := Lib.hid (H_x.out.below z23)
  replace H_r := Lib.hid (H_r.out.below z23)
  replace hz := hz.below z23
  replace h0 := h0.below z23
  replace h1 := h1.below z23
  replace hW := hW.trans (z23.mono hW.size)
  have H_o : Hid (Ib w23 w22.heap.size s21 A21 n21 c21) := Lib.hid (by rw [hw23]; exact Ib.new _ _ _ _ _ _)
  clear z23 hw23
  have ez24 : w23.heap.size = w22.heap.size + 1 := by rw [← HW23.out, World.size_alloc]
  obtain ⟨w24, hw24⟩ : ∃ xw, xw = w23.alloc (.cells #[.bool s22, .slice A22 n22 c22] 27) := ⟨_, rfl⟩
  have z24 : Below w23.heap.size w23 w24 := by rw [hw24]; exact zba _ _
  have HW24 : Hid (w23.alloc (.cells #[.bool s22, .slice A22 n22 c22] 27) = w24) := Lib.hid hw24.symm
  have nn_x_p : ¬ (w.heap.size = (w22.heap.size + 1)) := by have := H_x.out.2.2.2.2; omega
  have nm_x_p : ¬ ((w22.heap.size + 1) = w.heap.size) := by omega
  have nn_r_p : ¬ ((w.heap.size + 1) = (w22.heap.size + 1)) := by have := H_r.out.2.2.2.2; omega
  have nm_r_p : ¬ ((w22.heap.size + 1) = (w.heap.size + 1)) := by omega
  have nn_o_p : ¬ (w22.heap.size = (w22.heap.size + 1)) := by have := H_o.out.2.2.2.2; omega
  have nm_o_p : ¬ ((w22.heap.size + 1) = w22.heap.size) := by omega
  have lw_p : w.heap.size ≤ (w22.heap.size + 1) := by have := hW.size; omega
  replace H_x := Lib.hid (H_x.out.below z24)
  replace H_r := Lib.hid (H_r.out.below z24)
  replace H_o := Lib.hid (H_o.out.below z24)
  replace hz := hz.below z24
  replace h0 := h0.below z24
  replace h1 := h1.below z24
  replace hW := hW.trans (z24.mono hW.size)
  have H_p : Hid (Ib w24 (w22.heap.size + 1) s22 A22 n22 c22) := Lib.hid (by rw [← ez24, hw24]; exact Ib.new _ _ _ _ _ _)
  clear z24 hw24
  obtain ⟨x1, x2, x3, x4, x5⟩ := O_x.out
  obtain ⟨r1, r2, r3, r4, r5⟩ := O_r.out
  go_upto_region 2 with fail
  rw [HW23.out]
  rw [HW24.out]
  clear x1 x2 x3 x4 x5 r1 r2 r3 r4 r5 O_x O_r
  obtain ⟨gO, hgO⟩ : ∃ q, w22.heap.size = q := ⟨_, rfl⟩
  rw [hgO] at H_o H_p nn_x_o nm_x_o nn_r_o nm_r_o lw_o nn_x_p nm_x_p nn_r_p nm_r_p nn_o_p nm_o_p lw_p
  rw [hgO]
  obtain ⟨gP, hgP⟩ : ∃ q, gO + 1 = q := ⟨_, rfl⟩
  rw [hgP] at H_p nn_x_p nm_x_p nn_r_p nm_r_p nn_o_p nm_o_p lw_p
  rw [hgP]
  clear hgO hgP
  have HB : Hid ((Ib w24 w.heap.size s0 A0 n0 c0 ∧ Ib w24 (w.heap.size + 1) false none 0 0 ∧ Below w.heap.size w w24 ∧ Zv w24 s0 A0 n0 c0 x) ∧ (∃ so Ao no co, Ib w24 gO so Ao no co ∧ Zc w24 so Ao no co (pv (zs.take 0) x) ∧ no ≤ k + 1 + 0 * (n0 + 1)) ∧ ∃ sp Ap np cp, Ib w24 gP sp Ap np cp ∧ Zc w24 sp Ap np cp (x ^ 0) ∧ np ≤ 1 + 0 * n0) := Lib.hid ⟨⟨H_x.out, H_r.out, hW, hz⟩, ⟨_, _, _, _, H_o.out, h0, by omega⟩, _, _, _, _, H_p.out, by rw [Int.pow_zero]; exact h1, by omega⟩
  clear hW H_x H_r H_o H_p h0 h1 hz HW HW24 HW23 k21 k22
  go_wp2_with fail
  go_loopw [7] (fun s7 wr => ∃ j : Nat, s7 = .int .i64 (j : Int) ∧ j ≤ n ∧ Hid ((Ib wr w.heap.size s0 A0 n0 c0 ∧ Ib wr (w.heap.size + 1) false none 0 0 ∧ Below w.heap.size w wr ∧ Zv wr s0 A0 n0 c0 x) ∧ (∃ so Ao no co, Ib wr gO so Ao no co ∧ Zc wr so Ao no co (pv (zs.take j) x) ∧ no ≤ k + 1 + j * (n0 + 1)) ∧ ∃ sp Ap np cp, Ib wr gP sp Ap np cp ∧ Zc wr sp Ap np cp (x ^ j) ∧ np ≤ 1 + j * n0)) (fun s7 _ => n - (intOf s7).toNat)
  case atStart => exact ⟨0, rfl, Nat.zero_le _, HB⟩
  case round =>
    clear HB
    obtain ⟨j, rfl, hj, HB⟩ := hrel
    obtain ⟨⟨I1, I2, hW, hz⟩, ⟨so, Ao, no, co, I3, hov, kno⟩, sp, Ap, np, cp, I4, hp4, knp⟩ := HB.out
    have H_x := Lib.hid I1
    have H_r := Lib.hid I2
    have H_o := Lib.hid I3
    have H_p := Lib.hid I4
    clear HB I1 I2 I3 I4
    by_cases hlt : j < n
    · obtain ⟨ad, rfl, hab, s, A', m, d, c1, c2, ze, hm⟩ := (HX0.out.below hW).at (j := j) hlt
      have hv := ze.1
      have u1 : (0 : Int) ≤ (j : Int) := by omega
      have u2 : (j : Int) < (n : Int) := by omega
      obtain ⟨t1, ht1⟩ : ∃ t, j * (n0 + 1) = t := ⟨_, rfl⟩
      obtain ⟨t2, ht2⟩ : ∃ t, j * n0 = t := ⟨_, rfl⟩
      rw [ht1] at kno
      rw [ht2] at knp
      have e1 : (j + 1) * (n0 + 1) = t1 + (n0 + 1) := by rw [← ht1]; exact Nat.succ_mul _ _
      have e2 : (j + 1) * n0 = t2 + n0 := by rw [← ht2]; exact Nat.succ_mul _ _
      have e3 : t1 = t2 + j := by rw [← ht1, ← ht2]; exact Nat.mul_succ _ _
      have e4 : t1 + (n0 + 1) ≤ n * (n0 + 1) := by rw [← e1]; exact Nat.mul_le_mul_right _ hlt
      have hKB := HKB.out
      have b1 : t1 + k + 2 + n0 ≤ 1099511627776 := by omega
      have E1 := Lib.hid e1
      have E2 := Lib.hid e2
      have hk3 : k + 1 + t1 + 1 ≤ k + 1 + (t1 + (n0 + 1)) := by omega
      clear ze e1 e2 e4 hKB ht1 ht2
      obtain ⟨x1, x2, x3, x4, x5⟩ := H_x.out
      obtain ⟨r1, r2, r3, r4, r5⟩ := H_r.out
      obtain ⟨o1, o2, o3, o4, o5⟩ := H_o.out
      obtain ⟨p1, p2, p3, p4, p5⟩ := H_p.out
      go_wp2_with fail
      clear x1 x2 x3 x4 x5 r1 r2 r3 r4 r5 o1 o2 o3 o4 o5 p1 p2 p3 p4 p5
      refine region9 [some 16, some 17, some 18, some 19, some 20, some 21, some 22, some 23] [] 8 [IsK (.agg #[.bool so, .slice Ao no co]), IsK (.slice (some ad) n c), IsK (.int .i64 (j : Int)), IsK (.pointer (some (ad.add (j * 2)))), IsK (.agg #[.bool s, .slice A' m d]), IsK (.agg #[.bool sp, .slice Ap np cp]), IsC (ith zs j * x ^ j) (k + 1 + t2), IsC (pv (zs.take j) x + ith zs j * x ^ j) (k + 1 + (t1 + (n0 + 1)))] (fun _ _ d _ _ h => by cases d <;> exact h) (by kernel_rfl) (by kernel_rfl) (by kernel_rfl) (by kernel_rfl) (by kernel_rfl) ⟨stay_k _, stay_k _, stay_k _, stay_k _, stay_k _, stay_k _, stay_c _ _, stay_c _ _, trivial⟩ ?_ ?_
      · refine HopAll.cons rfl ?_ (HopAll.cons rfl ?_ (HopAll.cons rfl ?_ (HopAll.cons rfl ?_ (HopAll.cons rfl ?_ (HopAll.cons rfl ?_ (HopAll.cons rfl ?_ (HopAll.cons rfl ?_ HopAll.nil)))))))
        · intro a w1 hB ho hp Kq hKq
          have e5 : a.eval (.tmp 5) = (.pointer (some ⟨gO, 0, none⟩)) := ho 5 (by kernel_rfl)
          obtain ⟨u1, u2, u3, u4, u5⟩ := H_o.out.below hB
          exact hop_load (wanted_none rfl) rfl e5 (run_ldz u1 u2) (hKq _ _ rfl (Below.refl _ _))
        · intro a w1 hB ho hp Kq hKq
          have e0 : a.eval (.tmp 0) = (.slice (some ad) n c) := ho 0 (by kernel_rfl)
          refine hop_val (wanted_none rfl) ?_ (hKq (.slice (some ad) n c) _ rfl (Below.refl _ _))
          unfold execOp; simp only [eval_const, e0]; simp [go_sem]
        · intro a w1 hB ho hp Kq hKq
          have e7 : a.eval (.tmp 7) = (.int .i64 (j : Int)) := ho 7 (by kernel_rfl)
          refine hop_val (wanted_none rfl) ?_ (hKq (.int .i64 (j : Int)) _ rfl (Below.refl _ _))
          unfold execOp; simp only [eval_const, e7]; simp [go_sem]
        · intro a w1 hB ho hp Kq hKq
          have e17 : a.eval (.tmp 17) = (.slice (some ad) n c) := hp 1 17 (by kernel_rfl)
          have e18 : a.eval (.tmp 18) = (.int .i64 (j : Int)) := hp 2 18 (by kernel_rfl)
          refine hop_val (wanted_none rfl) ?_ (hKq (.pointer (some (ad.add (j * 2)))) _ rfl (Below.refl _ _))
          unfold execOp; simp only [eval_const, Option.map_some, Option.map_none, e17, e18]; simp [run_ixL hlt]
        · intro a w1 hB ho hp Kq hKq
          have e19 : a.eval (.tmp 19) = (.pointer (some (ad.add (j * 2)))) := hp 3 19 (by kernel_rfl)
          exact hop_load (wanted_none rfl) rfl e19 (run_ldzA ((hB.cell (p := ad.add (j * 2)) (by rw [add_block]; exact hab)).trans c1) ((hB.cell (p := ⟨(ad.add (j * 2)).block, (ad.add (j * 2)).off + 1, none⟩) (by show (ad.add (j * 2)).block < _; rw [add_block]; exact hab)).trans c2)) (hKq _ _ rfl (Below.refl _ _))
        · intro a w1 hB ho hp Kq hKq
          have e6 : a.eval (.tmp 6) = (.pointer (some ⟨gP, 0, none⟩)) := ho 6 (by kernel_rfl)
          obtain ⟨u1, u2, u3, u4, u5⟩ := H_p.out.below hB
          exact hop_load (wanted_none rfl) rfl e6 (run_ldz u1 u2) (hKq _ _ rfl (Below.refl _ _))
        · intro a w1 hB ho hp Kq hKq
          have e20 : a.eval (.tmp 20) = (.agg #[.bool s, .slice A' m d]) := hp 4 20 (by kernel_rfl)
          have e21 : a.eval (.tmp 21) = (.agg #[.bool sp, .slice Ap np cp]) := hp 5 21 (by kernel_rfl)
          refine hop_call (wanted_none rfl) rfl (args := #[(.agg #[.bool s, .slice A' m d]), (.agg #[.bool sp, .slice Ap np cp])]) (by simp only [List.map_toArray, List.map_cons, List.map_nil, eval_const, e20, e21]) (ent7 (by kernel_rfl) _ _) (zmul_v (hv.below hB) (hp4.below hB).zv (by omega) (by omega)) ?_
          rintro e w2 ⟨sq, Aq, nq, cq, rfl, pq, kq, Bq⟩
          exact ⟨_, rfl, hKq _ _ ⟨sq, Aq, nq, cq, rfl, pq, by omega⟩ Bq⟩
        · intro a w1 hB ho hp Kq hKq
          have e16 : a.eval (.tmp 16) = (.agg #[.bool so, .slice Ao no co]) := hp 0 16 (by kernel_rfl)
          obtain ⟨s_22, A_22, n_22, c_22, e22, ⟨p22, k22⟩⟩ : IsC (ith zs j * x ^ j) (k + 1 + t2) (a.eval (.tmp 22)) w1 := hp 6 22 (by kernel_rfl)
          refine hop_call (wanted_none rfl) rfl (args := #[(.agg #[.bool so, .slice Ao no co]), (.agg #[.bool s_22, .slice A_22 n_22 c_22])]) (by simp only [List.map_toArray, List.map_cons, List.map_nil, eval_const, e16, e22]) (ent7 (by kernel_rfl) _ _) (zadd_v (hov.below hB).zv p22.zv (by omega) (by omega)) ?_
          rintro e w2 ⟨sq, Aq, nq, cq, rfl, pq, kq, Bq⟩
          exact ⟨_, rfl, hKq _ _ ⟨sq, Aq, nq, cq, rfl, pq, by omega⟩ Bq⟩
      intro w25 B25
      refine Ends.one fun vv hv => ?_
      obtain rfl : vv = (.agg #[.bool so, .slice Ao no co]) := hv
      refine Ends.one fun vv hv => ?_
      obtain rfl : vv = (.slice (some ad) n c) := hv
      refine Ends.one fun vv hv => ?_
      obtain rfl : vv = (.int .i64 (j : Int)) := hv
      refine Ends.one fun vv hv => ?_
      obtain rfl : vv = (.pointer (some (ad.add (j * 2)))) := hv
      refine Ends.one fun vv hv => ?_
      obtain rfl : vv = (.agg #[.bool s, .slice A' m d]) := hv
      refine Ends.one fun vv hv => ?_
      obtain rfl : vv = (.agg #[.bool sp, .slice Ap np cp]) := hv
      refine Ends.one fun vv hv => ?_
      obtain ⟨s26, A26, n26, c26, rfl, ⟨p26, k26⟩⟩ : IsC (ith zs j * x ^ j) (k + 1 + t2) vv w25 := hv
      refine Ends.one fun vv hv => ?_
      obtain ⟨s27, A27, n27, c27, rfl, ⟨p27, k27⟩⟩ : IsC (pv (zs.take j) x + ith zs j * x ^ j) (k + 1 + (t1 + (n0 + 1))) vv w25 := hv
      refine Ends.nil (l := [_]) rfl ?_
      simp only [Act.put, List.setIfInBounds_toArray, List.set_cons_zero, List.set_cons_succ]
      replace H_x := Lib.hid (H_x.out.below B25)
      replace H_r := Lib.hid (H_r.out.below B25)
      replace H_o := Lib.hid (H_o.out.below B25)
      replace H_p := Lib.hid (H_p.out.below B25)
      replace hov := hov.below B25
      replace hp4 := hp4.below B25
      replace hz := hz.below B25
      replace hv := hv.below B25
      replace hW := hW.trans (B25.mono hW.size)
      have pz := p27
      clear p26 p27
      have kz := k27
      rw [← pv_take zs x j (by rw [HN.out]; exact hlt)] at pz
      clear hov hv c1 c2 hab hm
      have O_x := H_x
      have O_r := H_r
      have O_o := H_o
      have O_p := H_p
      obtain ⟨w28, hw28⟩ : ∃ xw, xw = zput w25 gO s27 A27 n27 c27 := ⟨_, rfl⟩
      have HW28 : Hid (((w25.setCell ⟨gO, 0, none⟩ (.bool s27)).setCell ⟨gO, 1, none⟩ (.slice A27 n27 c27)) = w28) := Lib.hid hw28.symm
      have OI := H_o.out
      replace H_x : Hid (Ib w28 w.heap.size s0 A0 n0 c0) := Lib.hid (by rw [hw28]; exact H_x.out.zput (by omega))
      replace H_r : Hid (Ib w28 (w.heap.size + 1) false none 0 0) := Lib.hid (by rw [hw28]; exact H_r.out.zput (by omega))
      replace H_p : Hid (Ib w28 gP sp Ap np cp) := Lib.hid (by rw [hw28]; exact H_p.out.zput (by omega))
      replace pz := pz.zput (s' := s27) (A' := A27) (n' := n27) (c' := c27) OI
      replace hp4 := hp4.zput (s' := s27) (A' := A27) (n' := n27) (c' := c27) OI
      replace hz := hz.zput (s' := s27) (A' := A27) (n' := n27) (c' := c27) OI
      rw [← hw28] at pz
      rw [← hw28] at hp4
      rw [← hw28] at hz
      replace hW : Below w.heap.size w w28 := by rw [hw28]; exact below_put hW lw_o
      replace H_o : Hid (Ib w28 gO s27 A27 n27 c27) := Lib.hid (by rw [hw28]; exact OI.own)
      clear hw28 OI
      obtain ⟨x1, x2, x3, x4, x5⟩ := O_x.out
      obtain ⟨r1, r2, r3, r4, r5⟩ := O_r.out
      obtain ⟨o1, o2, o3, o4, o5⟩ := O_o.out
      obtain ⟨p1, p2, p3, p4, p5⟩ := O_p.out
      go_wp2_with fail
      rw [HW28.out]
      clear x1 x2 x3 x4 x5 r1 r2 r3 r4 r5 o1 o2 o3 o4 o5 p1 p2 p3 p4 p5 O_x O_r O_o O_p
      refine (zmul_v hp4.zv hz (by omega) (by omega)).mono ?_
      rintro e w29 ⟨s29, A29, n29, c29, rfl, py, k29, B29⟩
      replace H_x := Lib.hid (H_x.out.below B29)
      replace H_r := Lib.hid (H_r.out.below B29)
      replace H_o := Lib.hid (H_o.out.below B29)
      replace H_p := Lib.hid (H_p.out.below B29)
      replace pz := pz.below B29
      replace hp4 := hp4.below B29
      replace hz := hz.below B29
      replace hW := hW.trans (B29.mono hW.size)
      clear B29
      have ky : n29 ≤ 1 + (t2 + n0) := by omega
      clear hp4
      have O_x := H_x
      have O_r := H_r
      have O_o := H_o
      have O_p := H_p
      obtain ⟨w30, hw30⟩ : ∃ xw, xw = zput w29 gP s29 A29 n29 c29 := ⟨_, rfl⟩
      have HW30 : Hid (((w29.setCell ⟨gP, 0, none⟩ (.bool s29)).setCell ⟨gP, 1, none⟩ (.slice A29 n29 c29)) = w30) := Lib.hid hw30.symm
      have OI := H_p.out
      replace H_x : Hid (Ib w30 w.heap.size s0 A0 n0 c0) := Lib.hid (by rw [hw30]; exact H_x.out.zput (by omega))
      replace H_r : Hid (Ib w30 (w.heap.size + 1) false none 0 0) := Lib.hid (by rw [hw30]; exact H_r.out.zput (by omega))
      replace H_o : Hid (Ib w30 gO s27 A27 n27 c27) := Lib.hid (by rw [hw30]; exact H_o.out.zput (by omega))
      replace pz := pz.zput (s' := s29) (A' := A29) (n' := n29) (c' := c29) OI
      replace hz := hz.zput (s' := s29) (A' := A29) (n' := n29) (c' := c29) OI
      replace py := py.zput (s' := s29) (A' := A29) (n' := n29) (c' := c29) OI
      rw [← hw30] at pz
      rw [← hw30] at hz
      rw [← hw30] at py
      replace hW : Below w.heap.size w w30 := by rw [hw30]; exact below_put hW lw_p
      replace H_p : Hid (Ib w30 gP s29 A29 n29 c29) := Lib.hid (by rw [hw30]; exact OI.own)
      clear hw30 OI
      rw [← Int.pow_succ] at py
      rw [← E1.out] at kz
      rw [← E2.out] at ky
      have HRel : Hid ((Ib w30 w.heap.size s0 A0 n0 c0 ∧ Ib w30 (w.heap.size + 1) false none 0 0 ∧ Below w.heap.size w w30 ∧ Zv w30 s0 A0 n0 c0 x) ∧ (∃ so Ao no co, Ib w30 gO so Ao no co ∧ Zc w30 so Ao no co (pv (zs.take (j + 1)) x) ∧ no ≤ k + 1 + (j + 1) * (n0 + 1)) ∧ ∃ sp Ap np cp, Ib w30 gP sp Ap np cp ∧ Zc w30 sp Ap np cp (x ^ (j + 1)) ∧ np ≤ 1 + (j + 1) * n0) := Lib.hid ⟨⟨H_x.out, H_r.out, hW, hz⟩, ⟨_, _, _, _, H_o.out, pz, kz⟩, _, _, _, _, H_p.out, py, ky⟩
      clear pz py hz hW H_x H_r H_o H_p E1 E2
      obtain ⟨x1, x2, x3, x4, x5⟩ := O_x.out
      obtain ⟨r1, r2, r3, r4, r5⟩ := O_r.out
      obtain ⟨o1, o2, o3, o4, o5⟩ := O_o.out
      obtain ⟨p1, p2, p3, p4, p5⟩ := O_p.out
      go_wp2_with fail
      rw [HW30.out]
      clear x1 x2 x3 x4 x5 r1 r2 r3 r4 r5 o1 o2 o3 o4 o5 p1 p2 p3 p4 p5 O_x O_r O_o O_p
      go_roundw
      case rel => exact ⟨j + 1, by go_num, by omega, HRel⟩
      case measure => first | (simp [intOf]; done) | (simp [intOf]; omega)
    · obtain rfl : j = n := by omega
      rw [List.take_of_length_le (by rw [HN.out]; exact Nat.le_refl _)] at hov
      have hKB := HKB.out
      have P := Lib.hid (zfin (w := w) (k := KB) hov H_r.out (by omega) lw_r hW)
      clear hov hp4 hz hW
      obtain ⟨x1, x2, x3, x4, x5⟩ := H_x.out
      obtain ⟨r1, r2, r3, r4, r5⟩ := H_r.out
      obtain ⟨o1, o2, o3, o4, o5⟩ := H_o.out
      obtain ⟨p1, p2, p3, p4, p5⟩ := H_p.out
      go_wp2_with fail
      clear x1 x2 x3 x4 x5 r1 r2 r3 r4 r5 o1 o2 o3 o4 o5 p1 p2 p3 p4 p5
      obtain ⟨r1, r2, r3, r4, r5⟩ := H_r.out
      exact bodyPost_ret (v := .agg #[.bool so, .slice Ao no co]) (by simp [results, Tryz.results26, go_sem, r1, r2]) rfl P.out
end Go.Proofs.YtddbhhedjipjkaaGreatDoor
