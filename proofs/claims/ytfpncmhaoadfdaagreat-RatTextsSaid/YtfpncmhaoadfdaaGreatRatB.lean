/-
  Package rat: counted, Make, Of, Sign, Neg, Mul, Quo, Add, Sub, Cmp.
-/
import Derived.Test.YtfpncmhaoadfdaaGreatRatA
/-! Contracts: rat.counted, Make, Of, Sign, Neg, Mul, Quo, Add, Sub, Cmp. -/
namespace Go.Proofs.YtfpncmhaoadfdaaGreat
open Go.RowKit
set_option linter.unusedVariables false
set_option linter.unusedSimpArgs false

theorem wrap_sign {a b r : Int} (h1 : -1 ≤ a ∧ a ≤ 1) (h2 : -1 ≤ b ∧ b ≤ 1) (hr : a * b = r) : IntKind.i64.wrap r = r := by
  have h := mul_bounds7 h1 h2
  rw [hr] at h
  rw [IntKind.wrap_i64]
  omega
set_option maxRecDepth 100000 in
set_option maxHeartbeats 4000000 in
theorem counted_no {A B : Option Addr} {n c m d k : Nat} {s t : Bool} {N D : Int} {w : World} (hn : Zv w s A n c N) (hd : Zv w t B m d D) (hnk : n ≤ k) (hmk : m ≤ k) (h1 : 1 ≤ k) (hk : k ≤ 1073741824) (h0 : D ≠ 0) :
    Calls Tryz.prog 25 #[.agg #[.bool s, .slice A n c, .bool t, .slice B m d]] w (RPost N D k w) := by
  have hW := Below.refl w.heap.size w
  obtain ⟨wp0, hwp0⟩ : ∃ x, x = w.alloc (.cells #[.bool s, .slice A n c, .bool t, .slice B m d] 27) := ⟨_, rfl⟩
  have zp0 : Below w.heap.size w wp0 := by rw [hwp0]; exact zba _ _
  have sp0 : wp0.heap.size = w.heap.size + 1 := by rw [hwp0, World.size_alloc]
  have Ia : Rb wp0 w.heap.size s A n c t B m d := by rw [hwp0]; exact Rb.new _ _ _ _ _ _ _ _ _ _
  replace hn := hn.below zp0
  replace hd := hd.below zp0
  replace hW := hW.trans (zp0.mono hW.size)
  have H_a := Lib.hid Ia
  clear Ia zp0
  obtain ⟨wp1, hwp1⟩ : ∃ x, x = wp0.alloc (.cells #[.bool false, .slice none 0 0, .bool false, .slice none 0 0] 27) := ⟨_, rfl⟩
  have zp1 : Below wp0.heap.size wp0 wp1 := by rw [hwp1]; exact zba _ _
  have sp1 : wp1.heap.size = w.heap.size + 1 + 1 := by rw [hwp1, World.size_alloc, sp0]
  have Ir : Rb wp1 (w.heap.size + 1) false none 0 0 false none 0 0 := by rw [hwp1, ← sp0]; exact Rb.new _ _ _ _ _ _ _ _ _ _
  replace H_a := Lib.hid (H_a.out.below zp1)
  replace hn := hn.below zp1
  replace hd := hd.below zp1
  replace hW := hW.trans (zp1.mono hW.size)
  have H_r := Lib.hid Ir
  clear Ir zp1
  have HW : Hid (((w.alloc (.cells #[.bool s, .slice A n c, .bool t, .slice B m d] 27)).alloc (.cells #[.bool false, .slice none 0 0, .bool false, .slice none 0 0] 27)) = wp1) := Lib.hid (by rw [hwp1, hwp0])
  have nn_a_r : ¬ (w.heap.size = (w.heap.size + 1)) := by omega
  have nm_a_r : ¬ ((w.heap.size + 1) = w.heap.size) := by omega
  have lw_a : w.heap.size ≤ w.heap.size := by omega
  have lw_r : w.heap.size ≤ (w.heap.size + 1) := by omega
  clear hwp0 hwp1 sp0 sp1
  obtain ⟨sr, hsr⟩ : ∃ r, D.sign = r := ⟨_, rfl⟩
  have hs1 : (sr == 0) = false := by rw [beq_eq_false_iff_ne, ← hsr]; intro h; exact h0 (Int.sign_eq_zero_iff_zero.1 h)
  have HSR := Lib.hid hsr
  clear hsr
  go_enter Tryz.func25, Tryz.ntmps25
  obtain ⟨a1, a2, a3, a4, a5, a6, a7, a8, a9⟩ := H_a.out
  obtain ⟨r1, r2, r3, r4, r5, r6, r7, r8, r9⟩ := H_r.out
  go_wp2_with fail
  rw [HW.out]
  clear a1 a2 a3 a4 a5 a6 a7 a8 a9 r1 r2 r3 r4 r5 r6 r7 r8 r9
  refine (zsign_v hd (by omega) HSR.out).mono ?_
  rintro e w21 ⟨rfl, B21⟩
  replace H_a := Lib.hid (H_a.out.below B21)
  replace H_r := Lib.hid (H_r.out.below B21)
  replace hn := hn.below B21
  replace hd := hd.below B21
  replace hW := hW.trans (B21.mono hW.size)
  clear B21
  have P := Lib.hid (rfinq (w := w) (k := k) hn hd H_r.out (by omega) (by omega) lw_r hW)
  unfold rput at P
  obtain ⟨a1, a2, a3, a4, a5, a6, a7, a8, a9⟩ := H_a.out
  obtain ⟨r1, r2, r3, r4, r5, r6, r7, r8, r9⟩ := H_r.out
  go_wp2_with fail
  clear a1 a2 a3 a4 a5 a6 a7 a8 a9 r1 r2 r3 r4 r5 r6 r7 r8 r9
  obtain ⟨r1, r2, r3, r4, r5, r6, r7, r8, r9⟩ := H_r.out
  exact bodyPost_ret (v := (.agg #[.bool s, .slice A n c, .bool t, .slice B m d])) (by simp [results, Tryz.results25, go_sem, r1, r2, r3, r4]) rfl P.out
set_option maxRecDepth 100000 in
set_option maxHeartbeats 4000000 in
theorem counted_yes {A B : Option Addr} {n c m d k : Nat} {s t : Bool} {N D : Int} {w : World} (hn : Zv w s A n c N) (hd : Zv w t B m d D) (hnk : n ≤ k) (hmk : m ≤ k) (h1 : 1 ≤ k) (hk : k ≤ 1073741824) (h0 : D = 0) :
    Calls Tryz.prog 25 #[.agg #[.bool s, .slice A n c, .bool t, .slice B m d]] w (RPost 0 1 k w) := by
  have hW := Below.refl w.heap.size w
  obtain ⟨wp0, hwp0⟩ : ∃ x, x = w.alloc (.cells #[.bool s, .slice A n c, .bool t, .slice B m d] 27) := ⟨_, rfl⟩
  have zp0 : Below w.heap.size w wp0 := by rw [hwp0]; exact zba _ _
  have sp0 : wp0.heap.size = w.heap.size + 1 := by rw [hwp0, World.size_alloc]
  have Ia : Rb wp0 w.heap.size s A n c t B m d := by rw [hwp0]; exact Rb.new _ _ _ _ _ _ _ _ _ _
  replace hn := hn.below zp0
  replace hd := hd.below zp0
  replace hW := hW.trans (zp0.mono hW.size)
  have H_a := Lib.hid Ia
  clear Ia zp0
  obtain ⟨wp1, hwp1⟩ : ∃ x, x = wp0.alloc (.cells #[.bool false, .slice none 0 0, .bool false, .slice none 0 0] 27) := ⟨_, rfl⟩
  have zp1 : Below wp0.heap.size wp0 wp1 := by rw [hwp1]; exact zba _ _
  have sp1 : wp1.heap.size = w.heap.size + 1 + 1 := by rw [hwp1, World.size_alloc, sp0]
  have Ir : Rb wp1 (w.heap.size + 1) false none 0 0 false none 0 0 := by rw [hwp1, ← sp0]; exact Rb.new _ _ _ _ _ _ _ _ _ _
  replace H_a := Lib.hid (H_a.out.below zp1)
  replace hn := hn.below zp1
  replace hd := hd.below zp1
  replace hW := hW.trans (zp1.mono hW.size)
  have H_r := Lib.hid Ir
  clear Ir zp1
  have HW : Hid (((w.alloc (.cells #[.bool s, .slice A n c, .bool t, .slice B m d] 27)).alloc (.cells #[.bool false, .slice none 0 0, .bool false, .slice none 0 0] 27)) = wp1) := Lib.hid (by rw [hwp1, hwp0])
  have nn_a_r : ¬ (w.heap.size = (w.heap.size + 1)) := by omega
  have nm_a_r : ¬ ((w.heap.size + 1) = w.heap.size) := by omega
  have lw_a : w.heap.size ≤ w.heap.size := by omega
  have lw_r : w.heap.size ≤ (w.heap.size + 1) := by omega
  clear hwp0 hwp1 sp0 sp1
  subst h0
  have HSR : Hid ((0 : Int).sign = 0) := Lib.hid rfl
  go_enter Tryz.func25, Tryz.ntmps25
  obtain ⟨a1, a2, a3, a4, a5, a6, a7, a8, a9⟩ := H_a.out
  obtain ⟨r1, r2, r3, r4, r5, r6, r7, r8, r9⟩ := H_r.out
  go_wp2_with fail
  rw [HW.out]
  clear a1 a2 a3 a4 a5 a6 a7 a8 a9 r1 r2 r3 r4 r5 r6 r7 r8 r9
  refine (zsign_v hd (by omega) HSR.out).mono ?_
  rintro e w21 ⟨rfl, B21⟩
  replace H_a := Lib.hid (H_a.out.below B21)
  replace H_r := Lib.hid (H_r.out.below B21)
  replace hn := hn.below B21
  replace hd := hd.below B21
  replace hW := hW.trans (B21.mono hW.size)
  clear B21
  obtain ⟨a1, a2, a3, a4, a5, a6, a7, a8, a9⟩ := H_a.out
  obtain ⟨r1, r2, r3, r4, r5, r6, r7, r8, r9⟩ := H_r.out
  go_wp2_with fail
  clear a1 a2 a3 a4 a5 a6 a7 a8 a9 r1 r2 r3 r4 r5 r6 r7 r8 r9
  refine (zof_v 1 (by omega) (by omega) _).mono ?_
  rintro e w22 ⟨s22, A22, n22, c22, rfl, p1, k22, B22⟩
  replace H_a := Lib.hid (H_a.out.below B22)
  replace H_r := Lib.hid (H_r.out.below B22)
  replace hn := hn.below B22
  replace hd := hd.below B22
  replace hW := hW.trans (B22.mono hW.size)
  clear B22
  have P := Lib.hid (rfinq (w := w) (k := k) (zc_nought _).zv p1.zv H_r.out (by omega) (by omega) lw_r hW)
  unfold rput at P
  obtain ⟨a1, a2, a3, a4, a5, a6, a7, a8, a9⟩ := H_a.out
  obtain ⟨r1, r2, r3, r4, r5, r6, r7, r8, r9⟩ := H_r.out
  go_wp2_with fail
  clear a1 a2 a3 a4 a5 a6 a7 a8 a9 r1 r2 r3 r4 r5 r6 r7 r8 r9
  obtain ⟨r1, r2, r3, r4, r5, r6, r7, r8, r9⟩ := H_r.out
  exact bodyPost_ret (v := (.agg #[.bool false, .slice none 0 0, .bool s22, .slice A22 n22 c22])) (by simp [results, Tryz.results25, go_sem, r1, r2, r3, r4]) rfl P.out
/-- rat.counted. -/
theorem counted_v {A B : Option Addr} {n c m d k : Nat} {s t : Bool} {N D : Int} {w : World} (hn : Zv w s A n c N) (hd : Zv w t B m d D) (hnk : n ≤ k) (hmk : m ≤ k) (h1 : 1 ≤ k) (hk : k ≤ 1073741824) :
    Calls Tryz.prog 25 #[.agg #[.bool s, .slice A n c, .bool t, .slice B m d]] w (RPost (cN N D) (cD D) k w) := by
  unfold cN cD
  by_cases h : D = 0
  · rw [if_pos h, if_pos h]; exact counted_yes hn hd hnk hmk h1 hk h
  · rw [if_neg h, if_neg h]; exact counted_no hn hd hnk hmk h1 hk h
set_option maxRecDepth 100000 in
set_option maxHeartbeats 4000000 in
theorem make_v {A B : Option Addr} {n c m d k : Nat} {s t : Bool} {N D : Int} {w : World} (hn : Zv w s A n c N) (hd : Zv w t B m d D) (hnk : n ≤ k) (hmk : m ≤ k) (h1 : 1 ≤ k) (hk : k ≤ 1073741824) {b : Bool} (hb0 : decide (D ≠ 0) = b) :
    Calls Tryz.prog 13 #[.agg #[.bool s, .slice A n c], .agg #[.bool t, .slice B m d]] w (QbPost (Rat.divInt N D) b k w) := by
  have hW := Below.refl w.heap.size w
  obtain ⟨wp0, hwp0⟩ : ∃ x, x = w.alloc (.cells #[.bool s, .slice A n c] 25) := ⟨_, rfl⟩
  have zp0 : Below w.heap.size w wp0 := by rw [hwp0]; exact zba _ _
  have sp0 : wp0.heap.size = w.heap.size + 1 := by rw [hwp0, World.size_alloc]
  have Ia : Ib wp0 w.heap.size s A n c := by rw [hwp0]; exact Ib.new _ _ _ _ _ _
  replace hn := hn.below zp0
  replace hd := hd.below zp0
  replace hW := hW.trans (zp0.mono hW.size)
  have H_a := Lib.hid Ia
  clear Ia zp0
  obtain ⟨wp1, hwp1⟩ : ∃ x, x = wp0.alloc (.cells #[.bool t, .slice B m d] 25) := ⟨_, rfl⟩
  have zp1 : Below wp0.heap.size wp0 wp1 := by rw [hwp1]; exact zba _ _
  have sp1 : wp1.heap.size = w.heap.size + 1 + 1 := by rw [hwp1, World.size_alloc, sp0]
  have Ib : Ib wp1 (w.heap.size + 1) t B m d := by rw [hwp1, ← sp0]; exact Ib.new _ _ _ _ _ _
  replace H_a := Lib.hid (H_a.out.below zp1)
  replace hn := hn.below zp1
  replace hd := hd.below zp1
  replace hW := hW.trans (zp1.mono hW.size)
  have H_b := Lib.hid Ib
  clear Ib zp1
  obtain ⟨wp2, hwp2⟩ : ∃ x, x = wp1.alloc (.cells #[.bool false, .slice none 0 0, .bool false, .slice none 0 0] 27) := ⟨_, rfl⟩
  have zp2 : Below wp1.heap.size wp1 wp2 := by rw [hwp2]; exact zba _ _
  have sp2 : wp2.heap.size = w.heap.size + 1 + 1 + 1 := by rw [hwp2, World.size_alloc, sp1]
  have Ir : Rb wp2 (w.heap.size + 1 + 1) false none 0 0 false none 0 0 := by rw [hwp2, ← sp1]; exact Rb.new _ _ _ _ _ _ _ _ _ _
  replace H_a := Lib.hid (H_a.out.below zp2)
  replace H_b := Lib.hid (H_b.out.below zp2)
  replace hn := hn.below zp2
  replace hd := hd.below zp2
  replace hW := hW.trans (zp2.mono hW.size)
  have H_r := Lib.hid Ir
  clear Ir zp2
  have HW : Hid ((((w.alloc (.cells #[.bool s, .slice A n c] 25)).alloc (.cells #[.bool t, .slice B m d] 25)).alloc (.cells #[.bool false, .slice none 0 0, .bool false, .slice none 0 0] 27)) = wp2) := Lib.hid (by rw [hwp2, hwp1, hwp0])
  have nn_a_b : ¬ (w.heap.size = (w.heap.size + 1)) := by omega
  have nm_a_b : ¬ ((w.heap.size + 1) = w.heap.size) := by omega
  have nn_a_r : ¬ (w.heap.size = (w.heap.size + 1 + 1)) := by omega
  have nm_a_r : ¬ ((w.heap.size + 1 + 1) = w.heap.size) := by omega
  have nn_b_r : ¬ ((w.heap.size + 1) = (w.heap.size + 1 + 1)) := by omega
  have nm_b_r : ¬ ((w.heap.size + 1 + 1) = (w.heap.size + 1)) := by omega
  have lw_a : w.heap.size ≤ w.heap.size := by omega
  have lw_b : w.heap.size ≤ (w.heap.size + 1) := by omega
  have lw_r : w.heap.size ≤ (w.heap.size + 1 + 1) := by omega
  clear hwp0 hwp1 hwp2 sp0 sp1 sp2
  obtain ⟨sr, hsr⟩ : ∃ r, D.sign = r := ⟨_, rfl⟩
  have hb : (sr != 0) = b := by
    rw [← hb0, ← hsr]
    by_cases h : D = 0
    · subst h; rfl
    · rw [bne_iff_ne.2 (fun k => h (Int.sign_eq_zero_iff_zero.1 k)), decide_eq_true h]
  have HSR := Lib.hid hsr
  clear hsr hb0
  go_enter Tryz.func13, Tryz.ntmps13
  obtain ⟨a1, a2, a3, a4, a5⟩ := H_a.out
  obtain ⟨b1, b2, b3, b4, b5⟩ := H_b.out
  obtain ⟨r1, r2, r3, r4, r5, r6, r7, r8, r9⟩ := H_r.out
  go_wp2_with fail
  rw [HW.out]
  clear a1 a2 a3 a4 a5 b1 b2 b3 b4 b5 r1 r2 r3 r4 r5 r6 r7 r8 r9
  refine region7 [5] 6 [IsK (.agg #[.bool s, .slice A n c]), IsK (.agg #[.bool t, .slice B m d]), IsQ (Rat.divInt N D) k, IsK (.agg #[.bool t, .slice B m d]), IsK (.int .i64 sr), IsK (.bool b)] (fun _ _ d _ _ h => by cases d <;> exact h) (by kernel_rfl) (by kernel_rfl) (by kernel_rfl) ⟨stay_k _, stay_k _, stay_q _ _, stay_k _, stay_k _, stay_k _, trivial⟩ ?_ ?_
  · refine HopAll.cons rfl ?_ (HopAll.cons rfl ?_ (HopAll.cons rfl ?_ (HopAll.cons rfl ?_ (HopAll.cons rfl ?_ (HopAll.fl rfl ?_ HopAll.nil)))))
    · intro a w1 hB ho hp K hK
      have e2 : a.eval (.tmp 2) = (.pointer (some ⟨w.heap.size, 0, none⟩)) := ho 2 (by kernel_rfl)
      obtain ⟨u1, u2, u3, u4, u5⟩ := H_a.out.below hB
      exact hop_load (wanted_none rfl) rfl e2 (run_ldz u1 u2) (hK _ _ rfl (Below.refl _ _))
    · intro a w1 hB ho hp K hK
      have e3 : a.eval (.tmp 3) = (.pointer (some ⟨(w.heap.size + 1), 0, none⟩)) := ho 3 (by kernel_rfl)
      obtain ⟨u1, u2, u3, u4, u5⟩ := H_b.out.below hB
      exact hop_load (wanted_none rfl) rfl e3 (run_ldz u1 u2) (hK _ _ rfl (Below.refl _ _))
    · intro a w1 hB ho hp K hK
      have e6 : a.eval (.tmp 6) = (.agg #[.bool s, .slice A n c]) := hp 0 6 (by kernel_rfl)
      have e7 : a.eval (.tmp 7) = (.agg #[.bool t, .slice B m d]) := hp 1 7 (by kernel_rfl)
      refine hop_call (wanted_none rfl) rfl (args := #[(.agg #[.bool s, .slice A n c]), (.agg #[.bool t, .slice B m d])]) (by simp only [List.map_toArray, List.map_cons, List.map_nil, eval_const, e6, e7]) (ent7 (by kernel_rfl) _ _) (normal_v (k := k) (hn.below hB) (hd.below hB) hnk hmk h1 (by omega)) ?_
      rintro e w2 ⟨s, A, n, c, t, B, m, d, rfl, p, k, l, BB⟩
      exact ⟨_, rfl, hK _ _ ⟨s, A, n, c, t, B, m, d, rfl, p, by omega, by omega⟩ BB⟩
    · intro a w1 hB ho hp K hK
      have e3 : a.eval (.tmp 3) = (.pointer (some ⟨(w.heap.size + 1), 0, none⟩)) := ho 3 (by kernel_rfl)
      obtain ⟨u1, u2, u3, u4, u5⟩ := H_b.out.below hB
      exact hop_load (wanted_none rfl) rfl e3 (run_ldz u1 u2) (hK _ _ rfl (Below.refl _ _))
    · intro a w1 hB ho hp K hK
      have e9 : a.eval (.tmp 9) = (.agg #[.bool t, .slice B m d]) := hp 3 9 (by kernel_rfl)
      refine hop_call (wanted_none rfl) rfl (args := #[(.agg #[.bool t, .slice B m d])]) (by simp only [List.map_toArray, List.map_cons, List.map_nil, eval_const, e9]) (ent7 (by kernel_rfl) _ _) (zsign_v (hd.below hB) (by omega) HSR.out) ?_
      rintro e w2 ⟨rfl, B⟩
      exact ⟨_, rfl, hK _ _ rfl B⟩
    · intro a w1 hB ho hp
      have e10 : a.eval (.tmp 10) = (.int .i64 sr) := hp 4 10 (by kernel_rfl)
      refine ⟨(.bool b), rfl, .inl ⟨(wanted_none rfl), fun w2 => ?_⟩⟩
      unfold execOp; simp only [eval_const, e10]; simp [go_sem, hb]
  intro w21 B21
  refine EndAll.one rfl fun vv hv => ?_
  obtain rfl : vv = (.agg #[.bool s, .slice A n c]) := hv
  refine EndAll.one rfl fun vv hv => ?_
  obtain rfl : vv = (.agg #[.bool t, .slice B m d]) := hv
  refine EndAll.one rfl fun vv hv => ?_
  obtain ⟨s22, A22, n22, c22, t22, D22, m22, d22, rfl, p22, k22, l22⟩ : IsQ (Rat.divInt N D) k vv w21 := hv
  refine EndAll.one rfl fun vv hv => ?_
  obtain rfl : vv = (.agg #[.bool t, .slice B m d]) := hv
  refine EndAll.one rfl fun vv hv => ?_
  obtain rfl : vv = (.int .i64 sr) := hv
  refine EndAll.one rfl fun vv hv => ?_
  obtain rfl : vv = (.bool b) := hv
  refine EndAll.nil (l := [_, _]) rfl ?_
  simp only [Act.put, List.setIfInBounds_toArray, List.set_cons_zero, List.set_cons_succ]
  replace H_a := Lib.hid (H_a.out.below B21)
  replace H_b := Lib.hid (H_b.out.below B21)
  replace H_r := Lib.hid (H_r.out.below B21)
  replace hn := hn.below B21
  replace hd := hd.below B21
  replace hW := hW.trans (B21.mono hW.size)
  have pq := p22
  clear B21
  have O_a := H_a
  have O_b := H_b
  have O_r := H_r
  obtain ⟨w23, hw23⟩ : ∃ x, x = rput w21 (w.heap.size + 1 + 1) s22 A22 n22 c22 t22 D22 m22 d22 := ⟨_, rfl⟩
  have HW23 : Hid (((((w21.setCell ⟨(w.heap.size + 1 + 1), 0, none⟩ (.bool s22)).setCell ⟨(w.heap.size + 1 + 1), 1, none⟩ (.slice A22 n22 c22)).setCell ⟨(w.heap.size + 1 + 1), 2, none⟩ (.bool t22)).setCell ⟨(w.heap.size + 1 + 1), 3, none⟩ (.slice D22 m22 d22)) = w23) := Lib.hid hw23.symm
  have OI := H_r.out
  replace H_a : Hid (Ib w23 w.heap.size s A n c) := Lib.hid (by rw [hw23]; exact H_a.out.rput (by omega))
  replace H_b : Hid (Ib w23 (w.heap.size + 1) t B m d) := Lib.hid (by rw [hw23]; exact H_b.out.rput (by omega))
  replace hn := hn.rput (s' := s22) (A' := A22) (n' := n22) (c' := c22) (t' := t22) (B' := D22) (m' := m22) (d' := d22) OI
  replace hd := hd.rput (s' := s22) (A' := A22) (n' := n22) (c' := c22) (t' := t22) (B' := D22) (m' := m22) (d' := d22) OI
  replace pq := pq.rput (s' := s22) (A' := A22) (n' := n22) (c' := c22) (t' := t22) (B' := D22) (m' := m22) (d' := d22) OI
  rw [← hw23] at hn
  rw [← hw23] at hd
  rw [← hw23] at pq
  replace hW : Below w.heap.size w w23 := by rw [hw23]; exact below_rput hW lw_r
  replace H_r : Hid (Rb w23 (w.heap.size + 1 + 1) s22 A22 n22 c22 t22 D22 m22 d22) := Lib.hid (by rw [hw23]; exact OI.own)
  clear hw23 OI
  obtain ⟨a1, a2, a3, a4, a5⟩ := O_a.out
  obtain ⟨b1, b2, b3, b4, b5⟩ := O_b.out
  obtain ⟨r1, r2, r3, r4, r5, r6, r7, r8, r9⟩ := O_r.out
  go_wp2_with fail
  rw [HW23.out]
  clear a1 a2 a3 a4 a5 b1 b2 b3 b4 b5 r1 r2 r3 r4 r5 r6 r7 r8 r9 O_a O_b O_r
  obtain ⟨r1, r2, r3, r4, r5, r6, r7, r8, r9⟩ := H_r.out
  exact bodyPost_ret (v := .tuple #[.agg #[.bool s22, .slice A22 n22 c22, .bool t22, .slice D22 m22 d22], .bool b]) (by simp [results, Tryz.results13, go_sem, r1, r2, r3, r4]) rfl ⟨_, _, _, _, _, _, _, _, rfl, pq, by omega, by omega, hW⟩
set_option maxRecDepth 100000 in
set_option maxHeartbeats 4000000 in
theorem qof_v {A : Option Addr} {n c k : Nat} {s : Bool} {N : Int} {w : World} (hn : Zv w s A n c N) (hnk : n ≤ k) (h1 : 1 ≤ k) (hk : k ≤ 1073741824) :
    Calls Tryz.prog 21 #[.agg #[.bool s, .slice A n c]] w (QPost (N : Rat) k w) := by
  have hW := Below.refl w.heap.size w
  obtain ⟨wp0, hwp0⟩ : ∃ x, x = w.alloc (.cells #[.bool s, .slice A n c] 25) := ⟨_, rfl⟩
  have zp0 : Below w.heap.size w wp0 := by rw [hwp0]; exact zba _ _
  have sp0 : wp0.heap.size = w.heap.size + 1 := by rw [hwp0, World.size_alloc]
  have Ia : Ib wp0 w.heap.size s A n c := by rw [hwp0]; exact Ib.new _ _ _ _ _ _
  replace hn := hn.below zp0
  replace hW := hW.trans (zp0.mono hW.size)
  have H_a := Lib.hid Ia
  clear Ia zp0
  obtain ⟨wp1, hwp1⟩ : ∃ x, x = wp0.alloc (.cells #[.bool false, .slice none 0 0, .bool false, .slice none 0 0] 27) := ⟨_, rfl⟩
  have zp1 : Below wp0.heap.size wp0 wp1 := by rw [hwp1]; exact zba _ _
  have sp1 : wp1.heap.size = w.heap.size + 1 + 1 := by rw [hwp1, World.size_alloc, sp0]
  have Ir : Rb wp1 (w.heap.size + 1) false none 0 0 false none 0 0 := by rw [hwp1, ← sp0]; exact Rb.new _ _ _ _ _ _ _ _ _ _
  replace H_a := Lib.hid (H_a.out.below zp1)
  replace hn := hn.below zp1
  replace hW := hW.trans (zp1.mono hW.size)
  have H_r := Lib.hid Ir
  clear Ir zp1
  have HW : Hid (((w.alloc (.cells #[.bool s, .slice A n c] 25)).alloc (.cells #[.bool false, .slice none 0 0, .bool false, .slice none 0 0] 27)) = wp1) := Lib.hid (by rw [hwp1, hwp0])
  have nn_a_r : ¬ (w.heap.size = (w.heap.size + 1)) := by omega
  have nm_a_r : ¬ ((w.heap.size + 1) = w.heap.size) := by omega
  have lw_a : w.heap.size ≤ w.heap.size := by omega
  have lw_r : w.heap.size ≤ (w.heap.size + 1) := by omega
  clear hwp0 hwp1 sp0 sp1
  rw [← rof_int]
  go_enter Tryz.func21, Tryz.ntmps21
  obtain ⟨a1, a2, a3, a4, a5⟩ := H_a.out
  obtain ⟨r1, r2, r3, r4, r5, r6, r7, r8, r9⟩ := H_r.out
  go_wp2_with fail
  rw [HW.out]
  clear a1 a2 a3 a4 a5 r1 r2 r3 r4 r5 r6 r7 r8 r9
  refine region7 [] 3 [IsK (.agg #[.bool s, .slice A n c]), IsC 1 1, IsQ (Rat.divInt N 1) k] (fun _ _ d _ _ h => by cases d <;> exact h) (by kernel_rfl) (by kernel_rfl) (by kernel_rfl) ⟨stay_k _, stay_c _ _, stay_q _ _, trivial⟩ ?_ ?_
  · refine HopAll.cons rfl ?_ (HopAll.cons rfl ?_ (HopAll.cons rfl ?_ HopAll.nil))
    · intro a w1 hB ho hp K hK
      have e1 : a.eval (.tmp 1) = (.pointer (some ⟨w.heap.size, 0, none⟩)) := ho 1 (by kernel_rfl)
      obtain ⟨u1, u2, u3, u4, u5⟩ := H_a.out.below hB
      exact hop_load (wanted_none rfl) rfl e1 (run_ldz u1 u2) (hK _ _ rfl (Below.refl _ _))
    · intro a w1 hB ho hp K hK
      refine hop_call (wanted_none rfl) rfl (args := #[.int .i64 (1)]) (by simp only [List.map_toArray, List.map_cons, List.map_nil, eval_const]) (ent7 (by kernel_rfl) _ _) (zof_v 1 (by omega) (by omega) _) ?_
      rintro e w2 ⟨s, A, n, c, rfl, p, k, B⟩
      exact ⟨_, rfl, hK _ _ ⟨s, A, n, c, rfl, p, by omega⟩ B⟩
    · intro a w1 hB ho hp K hK
      have e3 : a.eval (.tmp 3) = (.agg #[.bool s, .slice A n c]) := hp 0 3 (by kernel_rfl)
      obtain ⟨s4, A4, n4, c4, e4, p4, k4⟩ : IsC 1 1 (a.eval (.tmp 4)) w1 := hp 1 4 (by kernel_rfl)
      refine hop_call (wanted_none rfl) rfl (args := #[(.agg #[.bool s, .slice A n c]), (.agg #[.bool s4, .slice A4 n4 c4])]) (by simp only [List.map_toArray, List.map_cons, List.map_nil, eval_const, e3, e4]) (ent7 (by kernel_rfl) _ _) (normal_v (k := k) (hn.below hB) p4.zv (by omega) (by omega) h1 (by omega)) ?_
      rintro e w2 ⟨s, A, n, c, t, B, m, d, rfl, p, k, l, BB⟩
      exact ⟨_, rfl, hK _ _ ⟨s, A, n, c, t, B, m, d, rfl, p, by omega, by omega⟩ BB⟩
  intro w21 B21
  refine EndAll.one rfl fun vv hv => ?_
  obtain rfl : vv = (.agg #[.bool s, .slice A n c]) := hv
  refine EndAll.one rfl fun vv hv => ?_
  obtain ⟨s22, A22, n22, c22, rfl, p22, k22⟩ : IsC 1 1 vv w21 := hv
  refine EndAll.one rfl fun vv hv => ?_
  obtain ⟨s23, A23, n23, c23, t23, D23, m23, d23, rfl, p23, k23, l23⟩ : IsQ (Rat.divInt N 1) k vv w21 := hv
  refine EndAll.nil (l := [_]) rfl ?_
  simp only [Act.put, List.setIfInBounds_toArray, List.set_cons_zero, List.set_cons_succ]
  replace H_a := Lib.hid (H_a.out.below B21)
  replace H_r := Lib.hid (H_r.out.below B21)
  replace hn := hn.below B21
  replace hW := hW.trans (B21.mono hW.size)
  have pq := p23
  clear B21
  have O_a := H_a
  have O_r := H_r
  obtain ⟨w24, hw24⟩ : ∃ x, x = rput w21 (w.heap.size + 1) s23 A23 n23 c23 t23 D23 m23 d23 := ⟨_, rfl⟩
  have HW24 : Hid (((((w21.setCell ⟨(w.heap.size + 1), 0, none⟩ (.bool s23)).setCell ⟨(w.heap.size + 1), 1, none⟩ (.slice A23 n23 c23)).setCell ⟨(w.heap.size + 1), 2, none⟩ (.bool t23)).setCell ⟨(w.heap.size + 1), 3, none⟩ (.slice D23 m23 d23)) = w24) := Lib.hid hw24.symm
  have OI := H_r.out
  replace H_a : Hid (Ib w24 w.heap.size s A n c) := Lib.hid (by rw [hw24]; exact H_a.out.rput (by omega))
  replace hn := hn.rput (s' := s23) (A' := A23) (n' := n23) (c' := c23) (t' := t23) (B' := D23) (m' := m23) (d' := d23) OI
  replace pq := pq.rput (s' := s23) (A' := A23) (n' := n23) (c' := c23) (t' := t23) (B' := D23) (m' := m23) (d' := d23) OI
  rw [← hw24] at hn
  rw [← hw24] at pq
  replace hW : Below w.heap.size w w24 := by rw [hw24]; exact below_rput hW lw_r
  replace H_r : Hid (Rb w24 (w.heap.size + 1) s23 A23 n23 c23 t23 D23 m23 d23) := Lib.hid (by rw [hw24]; exact OI.own)
  clear hw24 OI
  obtain ⟨a1, a2, a3, a4, a5⟩ := O_a.out
  obtain ⟨r1, r2, r3, r4, r5, r6, r7, r8, r9⟩ := O_r.out
  go_wp2_with fail
  rw [HW24.out]
  clear a1 a2 a3 a4 a5 r1 r2 r3 r4 r5 r6 r7 r8 r9 O_a O_r
  obtain ⟨r1, r2, r3, r4, r5, r6, r7, r8, r9⟩ := H_r.out
  exact bodyPost_ret (v := (.agg #[.bool s23, .slice A23 n23 c23, .bool t23, .slice D23 m23 d23])) (by simp [results, Tryz.results21, go_sem, r1, r2, r3, r4]) rfl ⟨_, _, _, _, _, _, _, _, rfl, pq, by omega, by omega, hW⟩
set_option maxRecDepth 100000 in
set_option maxHeartbeats 4000000 in
theorem qsign_v {A B : Option Addr} {n c m d : Nat} {s t : Bool} {N D r : Int} {w : World} (hn : Zv w s A n c N) (hd : Zv w t B m d D) (hnk : n ≤ 1099511627776) (hmk : m ≤ 1099511627776) (hr : N.sign * D.sign = r) :
    Calls Tryz.prog 11 #[.agg #[.bool s, .slice A n c, .bool t, .slice B m d]] w (IPost r w) := by
  have hW := Below.refl w.heap.size w
  obtain ⟨wp0, hwp0⟩ : ∃ x, x = w.alloc (.cells #[.bool s, .slice A n c, .bool t, .slice B m d] 27) := ⟨_, rfl⟩
  have zp0 : Below w.heap.size w wp0 := by rw [hwp0]; exact zba _ _
  have sp0 : wp0.heap.size = w.heap.size + 1 := by rw [hwp0, World.size_alloc]
  have Ia : Rb wp0 w.heap.size s A n c t B m d := by rw [hwp0]; exact Rb.new _ _ _ _ _ _ _ _ _ _
  replace hn := hn.below zp0
  replace hd := hd.below zp0
  replace hW := hW.trans (zp0.mono hW.size)
  have H_a := Lib.hid Ia
  clear Ia zp0
  have HW : Hid ((w.alloc (.cells #[.bool s, .slice A n c, .bool t, .slice B m d] 27)) = wp0) := Lib.hid (by rw [hwp0])
  have lw_a : w.heap.size ≤ w.heap.size := by omega
  clear hwp0 sp0
  obtain ⟨r1, hr1⟩ : ∃ r, N.sign = r := ⟨_, rfl⟩
  obtain ⟨r2, hr2⟩ : ∃ r, D.sign = r := ⟨_, rfl⟩
  have HR1 := Lib.hid hr1
  have HR2 := Lib.hid hr2
  rw [hr1, hr2] at hr
  have hb1 := sign_bounds7 N
  have hb2 := sign_bounds7 D
  rw [hr1] at hb1
  rw [hr2] at hb2
  have hw : IntKind.i64.wrap (r1 * r2) = r := by rw [hr]; exact wrap_sign hb1 hb2 hr
  clear hr1 hr2 hb1 hb2 hr
  go_enter Tryz.func11, Tryz.ntmps11
  obtain ⟨a1, a2, a3, a4, a5, a6, a7, a8, a9⟩ := H_a.out
  go_wp2_with fail
  rw [HW.out]
  clear a1 a2 a3 a4 a5 a6 a7 a8 a9
  refine region7 [] 8 [IsK (.pointer (some ⟨w.heap.size, 0, none⟩)), IsK (.agg #[.bool s, .slice A n c]), IsK (.int .i64 r1), IsK (.pointer (some ⟨w.heap.size, 2, none⟩)), IsK (.agg #[.bool t, .slice B m d]), IsK (.int .i64 r2), IsK (.int .i64 r), IsK (.int .i64 r)] (fun _ _ d _ _ h => by cases d <;> exact h) (by kernel_rfl) (by kernel_rfl) (by kernel_rfl) ⟨stay_k _, stay_k _, stay_k _, stay_k _, stay_k _, stay_k _, stay_k _, stay_k _, trivial⟩ ?_ ?_
  · refine HopAll.cons rfl ?_ (HopAll.cons rfl ?_ (HopAll.cons rfl ?_ (HopAll.cons rfl ?_ (HopAll.cons rfl ?_ (HopAll.cons rfl ?_ (HopAll.cons rfl ?_ (HopAll.cons rfl ?_ HopAll.nil)))))))
    · intro a w1 hB ho hp K hK
      have e1 : a.eval (.tmp 1) = (.pointer (some ⟨w.heap.size, 0, none⟩)) := ho 1 (by kernel_rfl)
      refine hop_val (wanted_none rfl) ?_ (hK (.pointer (some ⟨w.heap.size, 0, none⟩)) _ rfl (Below.refl _ _))
      unfold execOp; simp only [e1]; simp [go_sem]
    · intro a w1 hB ho hp K hK
      have e3 : a.eval (.tmp 3) = (.pointer (some ⟨w.heap.size, 0, none⟩)) := hp 0 3 (by kernel_rfl)
      obtain ⟨u1, u2, u3, u4, u5, u6, u7, u8, u9⟩ := H_a.out.below hB
      exact hop_load (wanted_none rfl) rfl e3 (run_ldz u1 u2) (hK _ _ rfl (Below.refl _ _))
    · intro a w1 hB ho hp K hK
      have e4 : a.eval (.tmp 4) = (.agg #[.bool s, .slice A n c]) := hp 1 4 (by kernel_rfl)
      refine hop_call (wanted_none rfl) rfl (args := #[(.agg #[.bool s, .slice A n c])]) (by simp only [List.map_toArray, List.map_cons, List.map_nil, eval_const, e4]) (ent7 (by kernel_rfl) _ _) (zsign_v (hn.below hB) (by omega) HR1.out) ?_
      rintro e w2 ⟨rfl, B⟩
      exact ⟨_, rfl, hK _ _ rfl B⟩
    · intro a w1 hB ho hp K hK
      have e1 : a.eval (.tmp 1) = (.pointer (some ⟨w.heap.size, 0, none⟩)) := ho 1 (by kernel_rfl)
      refine hop_val (wanted_none rfl) ?_ (hK (.pointer (some ⟨w.heap.size, 2, none⟩)) _ rfl (Below.refl _ _))
      unfold execOp; simp only [e1]; simp [go_sem]
    · intro a w1 hB ho hp K hK
      have e6 : a.eval (.tmp 6) = (.pointer (some ⟨w.heap.size, 2, none⟩)) := hp 3 6 (by kernel_rfl)
      obtain ⟨u1, u2, u3, u4, u5, u6, u7, u8, u9⟩ := H_a.out.below hB
      exact hop_load (wanted_none rfl) rfl e6 (run_ldz u3 u4) (hK _ _ rfl (Below.refl _ _))
    · intro a w1 hB ho hp K hK
      have e7 : a.eval (.tmp 7) = (.agg #[.bool t, .slice B m d]) := hp 4 7 (by kernel_rfl)
      refine hop_call (wanted_none rfl) rfl (args := #[(.agg #[.bool t, .slice B m d])]) (by simp only [List.map_toArray, List.map_cons, List.map_nil, eval_const, e7]) (ent7 (by kernel_rfl) _ _) (zsign_v (hd.below hB) (by omega) HR2.out) ?_
      rintro e w2 ⟨rfl, B⟩
      exact ⟨_, rfl, hK _ _ rfl B⟩
    · intro a w1 hB ho hp K hK
      have e5 : a.eval (.tmp 5) = (.int .i64 r1) := hp 2 5 (by kernel_rfl)
      have e8 : a.eval (.tmp 8) = (.int .i64 r2) := hp 5 8 (by kernel_rfl)
      refine hop_val (wanted_none rfl) ?_ (hK (.int .i64 r) _ rfl (Below.refl _ _))
      unfold execOp; simp only [eval_const, e5, e8]; simp [go_sem, hw]
    · intro a w1 hB ho hp K hK
      have e9 : a.eval (.tmp 9) = (.int .i64 r) := hp 6 9 (by kernel_rfl)
      refine hop_val (wanted_none rfl) ?_ (hK (.int .i64 r) _ rfl (Below.refl _ _))
      unfold execOp; simp only [eval_const, e9]; simp [go_sem]
  intro w21 B21
  refine EndAll.one rfl fun vv hv => ?_
  obtain rfl : vv = (.pointer (some ⟨w.heap.size, 0, none⟩)) := hv
  refine EndAll.one rfl fun vv hv => ?_
  obtain rfl : vv = (.agg #[.bool s, .slice A n c]) := hv
  refine EndAll.one rfl fun vv hv => ?_
  obtain rfl : vv = (.int .i64 r1) := hv
  refine EndAll.one rfl fun vv hv => ?_
  obtain rfl : vv = (.pointer (some ⟨w.heap.size, 2, none⟩)) := hv
  refine EndAll.one rfl fun vv hv => ?_
  obtain rfl : vv = (.agg #[.bool t, .slice B m d]) := hv
  refine EndAll.one rfl fun vv hv => ?_
  obtain rfl : vv = (.int .i64 r2) := hv
  refine EndAll.one rfl fun vv hv => ?_
  obtain rfl : vv = (.int .i64 r) := hv
  refine EndAll.one rfl fun vv hv => ?_
  obtain rfl : vv = (.int .i64 r) := hv
  refine EndAll.nil (l := []) rfl ?_
  simp only [Act.put, List.setIfInBounds_toArray, List.set_cons_zero, List.set_cons_succ]
  replace H_a := Lib.hid (H_a.out.below B21)
  replace hn := hn.below B21
  replace hd := hd.below B21
  replace hW := hW.trans (B21.mono hW.size)
  clear B21
  go_wp2_with fail
  go_ret
  exact ⟨rfl, hW⟩
end Go.Proofs.YtfpncmhaoadfdaaGreat
