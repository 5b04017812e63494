/-
  Package rat: counted, Make, Of, Sign, Neg, Mul, Quo, Add, Sub, Cmp.
-/
import Derived.Test.YtfpncmhaoadfdaaRatA
/-! Contracts: rat.counted, Make, Of, Sign, Neg, Mul, Quo, Add, Sub, Cmp. -/
namespace Go.Proofs.Ytfpncmhaoadfdaa
open Go.RowKit
set_option linter.unusedVariables false
set_option linter.unusedSimpArgs false

theorem wrap_sign {a b r : Int} (h1 : -1 ≤ a ∧ a ≤ 1) (h2 : -1 ≤ b ∧ b ≤ 1) (hr : a * b = r) : IntKind.i64.wrap r = r := by
  have h := mul_bounds7 h1 h2
  rw [hr] at h
  rw [IntKind.wrap_i64]
  omega
set_option maxRecDepth 100000 in
set_option maxHeartbeats 4000000 in
theorem counted_no {A B : Option Addr} {n c m d k : Nat} {s t : Bool} {N D : Int} {w : World} (hn : Zv w s A n c N) (hd : Zv w t B m d D) (hnk : n ≤ k) (hmk : m ≤ k) (h1 : 1 ≤ k) (hk : k ≤ 1073741824) (h0 : D ≠ 0) :
    Calls Try.prog 38 #[.agg #[.bool s, .slice A n c, .bool t, .slice B m d]] w (RPost N D k w) := by
  have hW := Below.refl w.heap.size w
  obtain ⟨wp0, hwp0⟩ : ∃ x, x = w.alloc (.cells #[.bool s, .slice A n c, .bool t, .slice B m d] 28) := ⟨_, rfl⟩
  have zp0 : Below w.heap.size w wp0 := by rw [hwp0]; exact zba _ _
  have sp0 : wp0.heap.size = w.heap.size + 1 := by rw [hwp0, World.size_alloc]
  have Ia : Rb wp0 w.heap.size s A n c t B m d := by rw [hwp0]; exact Rb.new _ _ _ _ _ _ _ _ _ _
  replace hn := hn.below zp0
  replace hd := hd.below zp0
  replace hW := hW.trans (zp0.mono hW.size)
  have H_a := Lib.hid Ia
  clear Ia zp0
  obtain ⟨wp1, hwp1⟩ : ∃ x, x = wp0.alloc (.cells #[.bool false, .slice none 0 0, .bool false, .slice none 0 0] 28) := ⟨_, rfl⟩
  have zp1 : Below wp0.heap.size wp0 wp1 := by rw [hwp1]; exact zba _ _
  have sp1 : wp1.heap.size = w.heap.size + 1 + 1 := by rw [hwp1, World.size_alloc, sp0]
  have Ir : Rb wp1 (w.heap.size + 1) false none 0 0 false none 0 0 := by rw [hwp1, ← sp0]; exact Rb.new _ _ _ _ _ _ _ _ _ _
  replace H_a := Lib.hid (H_a.out.below zp1)
  replace hn := hn.below zp1
  replace hd := hd.below zp1
  replace hW := hW.trans (zp1.mono hW.size)
  have H_r := Lib.hid Ir
  clear Ir zp1
  have HW : Hid (((w.alloc (.cells #[.bool s, .slice A n c, .bool t, .slice B m d] 28)).alloc (.cells #[.bool false, .slice none 0 0, .bool false, .slice none 0 0] 28)) = wp1) := Lib.hid (by rw [hwp1, hwp0])
  have nn_a_r : ¬ (w.heap.size = (w.heap.size + 1)) := by omega
  have nm_a_r : ¬ ((w.heap.size + 1) = w.heap.size) := by omega
  have lw_a : w.heap.size ≤ w.heap.size := by omega
  have lw_r : w.heap.size ≤ (w.heap.size + 1) := by omega
  clear hwp0 hwp1 sp0 sp1
  obtain ⟨sr, hsr⟩ : ∃ r, D.sign = r := ⟨_, rfl⟩
  have hs1 : (sr == 0) = false := by rw [beq_eq_false_iff_ne, ← hsr]; intro h; exact h0 (Int.sign_eq_zero_iff_zero.1 h)
  have HSR := Lib.hid hsr
  clear hsr
  go_enter Try.func38, Try.ntmps38
  obtain ⟨a1, a2, a3, a4, a5, a6, a7, a8, a9⟩ := H_a.out
  obtain ⟨r1, r2, r3, r4, r5, r6, r7, r8, r9⟩ := H_r.out
  go_wp2_with fail
  rw [HW.out]
  clear a1 a2 a3 a4 a5 a6 a7 a8 a9 r1 r2 r3 r4 r5 r6 r7 r8 r9
  refine (zsign_v hd (by omega) HSR.out).mono ?_
  rintro e w21 ⟨rfl, B21⟩
  replace H_a := Lib.hid (H_a.out.below B21)
  replace H_r := Lib.hid (H_r.out.below B21)
  replace hn := hn.below B21
  replace hd := hd.below B21
  replace hW := hW.trans (B21.mono hW.size)
  clear B21
  have P := Lib.hid (rfinq (w := w) (k := k) hn hd H_r.out (by omega) (by omega) lw_r hW)
  unfold rput at P
  obtain ⟨a1, a2, a3, a4, a5, a6, a7, a8, a9⟩ := H_a.out
  obtain ⟨r1, r2, r3, r4, r5, r6, r7, r8, r9⟩ := H_r.out
  go_wp2_with fail
  clear a1 a2 a3 a4 a5 a6 a7 a8 a9 r1 r2 r3 r4 r5 r6 r7 r8 r9
  obtain ⟨r1, r2, r3, r4, r5, r6, r7, r8, r9⟩ := H_r.out
  exact bodyPost_ret (v := (.agg #[.bool s, .slice A n c, .bool t, .slice B m d])) (by simp [results, Try.results38, go_sem, r1, r2, r3, r4]) rfl P.out
set_option maxRecDepth 100000 in
set_option maxHeartbeats 4000000 in
theorem counted_yes {A B : Option Addr} {n c m d k : Nat} {s t : Bool} {N D : Int} {w : World} (hn : Zv w s A n c N) (hd : Zv w t B m d D) (hnk : n ≤ k) (hmk : m ≤ k) (h1 : 1 ≤ k) (hk : k ≤ 1073741824) (h0 : D = 0) :
    Calls Try.prog 38 #[.agg #[.bool s, .slice A n c, .bool t, .slice B m d]] w (RPost 0 1 k w) := by
  have hW := Below.refl w.heap.size w
  obtain ⟨wp0, hwp0⟩ : ∃ x, x = w.alloc (.cells #[.bool s, .slice A n c, .bool t, .slice B m d] 28) := ⟨_, rfl⟩
  have zp0 : Below w.heap.size w wp0 := by rw [hwp0]; exact zba _ _
  have sp0 : wp0.heap.size = w.heap.size + 1 := by rw [hwp0, World.size_alloc]
  have Ia : Rb wp0 w.heap.size s A n c t B m d := by rw [hwp0]; exact Rb.new _ _ _ _ _ _ _ _ _ _
  replace hn := hn.below zp0
  replace hd := hd.below zp0
  replace hW := hW.trans (zp0.mono hW.size)
  have H_a := Lib.hid Ia
  clear Ia zp0
  obtain ⟨wp1, hwp1⟩ : ∃ x, x = wp0.alloc (.cells #[.bool false, .slice none 0 0, .bool false, .slice none 0 0] 28) := ⟨_, rfl⟩
  have zp1 : Below wp0.heap.size wp0 wp1 := by rw [hwp1]; exact zba _ _
  have sp1 : wp1.heap.size = w.heap.size + 1 + 1 := by rw [hwp1, World.size_alloc, sp0]
  have Ir : Rb wp1 (w.heap.size + 1) false none 0 0 false none 0 0 := by rw [hwp1, ← sp0]; exact Rb.new _ _ _ _ _ _ _ _ _ _
  replace H_a := Lib.hid (H_a.out.below zp1)
  replace hn := hn.below zp1
  replace hd := hd.below zp1
  replace hW := hW.trans (zp1.mono hW.size)
  have H_r := Lib.hid Ir
  clear Ir zp1
  have HW : Hid (((w.alloc (.cells #[.bool s, .slice A n c, .bool t, .slice B m d] 28)).alloc (.cells #[.bool false, .slice none 0 0, .bool false, .slice none 0 0] 28)) = wp1) := Lib.hid (by rw [hwp1, hwp0])
  have nn_a_r : ¬ (w.heap.size = (w.heap.size + 1)) := by omega
  have nm_a_r : ¬ ((w.heap.size + 1) = w.heap.size) := by omega
  have lw_a : w.heap.size ≤ w.heap.size := by omega
  have lw_r : w.heap.size ≤ (w.heap.size + 1) := by omega
  clear hwp0 hwp1 sp0 sp1
  subst h0
  have HSR : Hid ((0 : Int).sign = 0) := Lib.hid rfl
  go_enter Try.func38, Try.ntmps38
  obtain ⟨a1, a2, a3, a4, a5, a6, a7, a8, a9⟩ := H_a.out
  obtain ⟨r1, r2, r3, r4, r5, r6, r7, r8, r9⟩ := H_r.out
  go_wp2_with fail
  rw [HW.out]
  clear a1 a2 a3 a4 a5 a6 a7 a8 a9 r1 r2 r3 r4 r5 r6 r7 r8 r9
  refine (zsign_v hd (by omega) HSR.out).mono ?_
  rintro e w21 ⟨rfl, B21⟩
  replace H_a := Lib.hid (H_a.out.below B21)
  replace H_r := Lib.hid (H_r.out.below B21)
  replace hn := hn.below B21
  replace hd := hd.below B21
  replace hW := hW.trans (B21.mono hW.size)
  clear B21
  obtain ⟨a1, a2, a3, a4, a5, a6, a7, a8, a9⟩ := H_a.out
  obtain ⟨r1, r2, r3, r4, r5, r6, r7, r8, r9⟩ := H_r.out
  go_wp2_with fail
  clear a1 a2 a3 a4 a5 a6 a7 a8 a9 r1 r2 r3 r4 r5 r6 r7 r8 r9
  refine (zof_v 1 (by omega) (by omega) _).mono ?_
  rintro e w22 ⟨s22, A22, n22, c22, rfl, p1, k22, B22⟩
  replace H_a := Lib.hid (H_a.out.below B22)
  replace H_r := Lib.hid (H_r.out.below B22)
  replace hn := hn.below B22
  replace hd := hd.below B22
  replace hW := hW.trans (B22.mono hW.size)
  clear B22
  have P := Lib.hid (rfinq (w := w) (k := k) (zc_nought _).zv p1.zv H_r.out (by omega) (by omega) lw_r hW)
  unfold rput at P
  obtain ⟨a1, a2, a3, a4, a5, a6, a7, a8, a9⟩ := H_a.out
  obtain ⟨r1, r2, r3, r4, r5, r6, r7, r8, r9⟩ := H_r.out
  go_wp2_with fail
  clear a1 a2 a3 a4 a5 a6 a7 a8 a9 r1 r2 r3 r4 r5 r6 r7 r8 r9
  obtain ⟨r1, r2, r3, r4, r5, r6, r7, r8, r9⟩ := H_r.out
  exact bodyPost_ret (v := (.agg #[.bool false, .slice none 0 0, .bool s22, .slice A22 n22 c22])) (by simp [results, Try.results38, go_sem, r1, r2, r3, r4]) rfl P.out
/-- rat.counted. -/
theorem counted_v {A B : Option Addr} {n c m d k : Nat} {s t : Bool} {N D : Int} {w : World} (hn : Zv w s A n c N) (hd : Zv w t B m d D) (hnk : n ≤ k) (hmk : m ≤ k) (h1 : 1 ≤ k) (hk : k ≤ 1073741824) :
    Calls Try.prog 38 #[.agg #[.bool s, .slice A n c, .bool t, .slice B m d]] w (RPost (cN N D) (cD D) k w) := by
  unfold cN cD
  by_cases h : D = 0
  · rw [if_pos h, if_pos h]; exact counted_yes hn hd hnk hmk h1 hk h
  · rw [if_neg h, if_neg h]; exact counted_no hn hd hnk hmk h1 hk h
set_option maxRecDepth 100000 in
set_option maxHeartbeats 4000000 in
theorem make_v {A B : Option Addr} {n c m d k : Nat} {s t : Bool} {N D : Int} {w : World} (hn : Zv w s A n c N) (hd : Zv w t B m d D) (hnk : n ≤ k) (hmk : m ≤ k) (h1 : 1 ≤ k) (hk : k ≤ 1073741824) {b : Bool} (hb0 : decide (D ≠ 0) = b) :
    Calls Try.prog 9 #[.agg #[.bool s, .slice A n c], .agg #[.bool t, .slice B m d]] w (QbPost (Rat.divInt N D) b k w) := by
  have hW := Below.refl w.heap.size w
  obtain ⟨wp0, hwp0⟩ : ∃ x, x = w.alloc (.cells #[.bool s, .slice A n c] 25) := ⟨_, rfl⟩
  have zp0 : Below w.heap.size w wp0 := by rw [hwp0]; exact zba _ _
  have sp0 : wp0.heap.size = w.heap.size + 1 := by rw [hwp0, World.size_alloc]
  have Ia : Ib wp0 w.heap.size s A n c := by rw [hwp0]; exact Ib.new _ _ _ _ _ _
  replace hn := hn.below zp0
  replace hd := hd.below zp0
  replace hW := hW.trans (zp0.mono hW.size)
  have H_a := Lib.hid Ia
  clear Ia zp0
  obtain ⟨wp1, hwp1⟩ : ∃ x, x = wp0.alloc (.cells #[.bool t, .slice B m d] 25) := ⟨_, rfl⟩
  have zp1 : Below wp0.heap.size wp0 wp1 := by rw [hwp1]; exact zba _ _
  have sp1 : wp1.heap.size = w.heap.size + 1 + 1 := by rw [hwp1, World.size_alloc, sp0]
  have Ib : Ib wp1 (w.heap.size + 1) t B m d := by rw [hwp1, ← sp0]; exact Ib.new _ _ _ _ _ _
  replace H_a := Lib.hid (H_a.out.below zp1)
  replace hn := hn.below zp1
  replace hd := hd.below zp1
  replace hW := hW.trans (zp1.mono hW.size)
  have H_b := Lib.hid Ib
  clear Ib zp1
  obtain ⟨wp2, hwp2⟩ : ∃ x, x = wp1.alloc (.cells #[.bool false, .slice none 0 0, .bool false, .slice none 0 0] 28) := ⟨_, rfl⟩
  have zp2 : Below wp1.heap.size wp1 wp2 := by rw [hwp2]; exact zba _ _
  have sp2 : wp2.heap.size = w.heap.size + 1 + 1 + 1 := by rw [hwp2, World.size_alloc, sp1]
  have Ir : Rb wp2 (w.heap.size + 1 + 1) false none 0 0 false none 0 0 := by rw [hwp2, ← sp1]; exact Rb.new _ _ _ _ _ _ _ _ _ _
  replace H_a := Lib.hid (H_a.out.below zp2)
  replace H_b := Lib.hid (H_b.out.below zp2)
  replace hn := hn.below zp2
  replace hd := hd.below zp2
  replace hW := hW.trans (zp2.mono hW.size)
  have H_r := Lib.hid Ir
  clear Ir zp2
  have HW : Hid ((((w.alloc (.cells #[.bool s, .slice A n c] 25)).alloc (.cells #[.bool t, .slice B m d] 25)).alloc (.cells #[.bool false, .slice none 0 0, .bool false, .slice none 0 0] 28)) = wp2) := Lib.hid (by rw [hwp2, hwp1, hwp0])
  have nn_a_b : ¬ (w.heap.size = (w.heap.size + 1)) := by omega
  have nm_a_b : ¬ ((w.heap.size + 1) = w.heap.size) := by omega
  have nn_a_r : ¬ (w.heap.size = (w.heap.size + 1 + 1)) := by omega
  have nm_a_r : ¬ ((w.heap.size + 1 + 1) = w.heap.size) := by omega
  have nn_b_r : ¬ ((w.heap.size + 1) = (w.heap.size + 1 + 1)) := by omega
  have nm_b_r : ¬ ((w.heap.size + 1 + 1) = (w.heap.size + 1)) := by omega
  have lw_a : w.heap.size ≤ w.heap.size := by omega
  have lw_b : w.heap.size ≤ (w.heap.size + 1) := by omega
  have lw_r : w.heap.size ≤ (w.heap.size + 1 + 1) := by omega
  clear hwp0 hwp1 hwp2 sp0 sp1 sp2
  obtain ⟨sr, hsr⟩ : ∃ r, D.sign = r := ⟨_, rfl⟩
  have hb : (sr != 0) = b := by
    rw [← hb0, ← hsr]
    by_cases h : D = 0
    · subst h; rfl
    · rw [bne_iff_ne.2 (fun k => h (Int.sign_eq_zero_iff_zero.1 k)), decide_eq_true h]
  have HSR := Lib.hid hsr
  clear hsr hb0
  go_enter Try.func9, Try.ntmps9
  obtain ⟨a1, a2, a3, a4, a5⟩ := H_a.out
  obtain ⟨b1, b2, b3, b4, b5⟩ := H_b.out
  obtain ⟨r1, r2, r3, r4, r5, r6, r7, r8, r9⟩ := H_r.out
  go_wp2_with fail
  rw [HW.out]
  clear a1 a2 a3 a4 a5 b1 b2 b3 b4 b5 r1 r2 r3 r4 r5 r6 r7 r8 r9
  refine region7 [5] 6 [IsK (.agg #[.bool s, .slice A n c]), IsK (.agg #[.bool t, .slice B m d]), IsQ (Rat.divInt N D) k, IsK (.agg #[.bool t, .slice B m d]), IsK (.int .i64 sr), IsK (.bool b)] (fun _ _ d _ _ h => by cases d <;> exact h) (by kernel_rfl) (by kernel_rfl) (by kernel_rfl) ⟨stay_k _, stay_k _, stay_q _ _, stay_k _, stay_k _, stay_k _, trivial⟩ ?_ ?_
  · refine HopAll.cons rfl ?_ (HopAll.cons rfl ?_ (HopAll.cons rfl ?_ (HopAll.cons rfl ?_ (HopAll.cons rfl ?_ (HopAll.fl rfl ?_ HopAll.nil)))))
    · intro a w1 hB ho hp K hK
      have e2 : a.eval (.tmp 2) = (.pointer (some ⟨w.heap.size, 0, none⟩)) := ho 2 (by kernel_rfl)
      obtain ⟨u1, u2, u3, u4, u5⟩ := H_a.out.below hB
      exact hop_load (wanted_none rfl) rfl e2 (run_ldz u1 u2) (hK _ _ rfl (Below.refl _ _))
    · intro a w1 hB ho hp K hK
      have e3 : a.eval (.tmp 3) = (.pointer (some ⟨(w.heap.size + 1), 0, none⟩)) := ho 3 (by kernel_rfl)
      obtain ⟨u1, u2, u3, u4, u5⟩ := H_b.out.below hB
      exact hop_load (wanted_none rfl) rfl e3 (run_ldz u1 u2) (hK _ _ rfl (Below.refl _ _))
    · intro a w1 hB ho hp K hK
      have e6 : a.eval (.tmp 6) = (.agg #[.bool s, .slice A n c]) := hp 0 6 (by kernel_rfl)
      have e7 : a.eval (.tmp 7) = (.agg #[.bool t, .slice B m d]) := hp 1 7 (by kernel_rfl)
      refine hop_call (wanted_none rfl) rfl (args := #[(.agg #[.bool s, .slice A n c]), (.agg #[.bool t, .slice B m d])]) (by simp only [List.map_toArray, List.map_cons, List.map_nil, eval_const, e6, e7]) (ent7 (by kernel_rfl) _ _) (normal_v (k := k) (hn.below hB) (hd.below hB) hnk hmk h1 (by omega)) ?_
      rintro e w2 ⟨s, A, n, c, t, B, m, d, rfl, p, k, l, BB⟩
      exact ⟨_, rfl, hK _ _ ⟨s, A, n, c, t, B, m, d, rfl, p, by omega, by omega⟩ BB⟩
    · intro a w1 hB ho hp K hK
      have e3 : a.eval (.tmp 3) = (.pointer (some ⟨(w.heap.size + 1), 0, none⟩)) := ho 3 (by kernel_rfl)
      obtain ⟨u1, u2, u3, u4, u5⟩ := H_b.out.below hB
      exact hop_load (wanted_none rfl) rfl e3 (run_ldz u1 u2) (hK _ _ rfl (Below.refl _ _))
    · intro a w1 hB ho hp K hK
      have e9 : a.eval (.tmp 9) = (.agg #[.bool t, .slice B m d]) := hp 3 9 (by kernel_rfl)
      refine hop_call (wanted_none rfl) rfl (args := #[(.agg #[.bool t, .slice B m d])]) (by simp only [List.map_toArray, List.map_cons, List.map_nil, eval_const, e9]) (ent7 (by kernel_rfl) _ _) (zsign_v (hd.below hB) (by omega) HSR.out) ?_
      rintro e w2 ⟨rfl, B⟩
      exact ⟨_, rfl, hK _ _ rfl B⟩
    · intro a w1 hB ho hp
      have e10 : a.eval (.tmp 10) = (.int .i64 sr) := hp 4 10 (by kernel_rfl)
      refine ⟨(.bool b), rfl, .inl ⟨(wanted_none rfl), fun w2 => ?_⟩⟩
      unfold execOp; simp only [eval_const, e10]; simp [go_sem, hb]
  intro w21 B21
  refine EndAll.one rfl fun vv hv => ?_
  obtain rfl : vv = (.agg #[.bool s, .slice A n c]) := hv
  refine EndAll.one rfl fun vv hv => ?_
  obtain rfl : vv = (.agg #[.bool t, .slice B m d]) := hv
  refine EndAll.one rfl fun vv hv => ?_
  obtain ⟨s22, A22, n22, c22, t22, D22, m22, d22, rfl, p22, k22, l22⟩ : IsQ (Rat.divInt N D) k vv w21 := hv
  refine EndAll.one rfl fun vv hv => ?_
  obtain rfl : vv = (.agg #[.bool t, .slice B m d]) := hv
  refine EndAll.one rfl fun vv hv => ?_
  obtain rfl : vv = (.int .i64 sr) := hv
  refine EndAll.one rfl fun vv hv => ?_
  obtain rfl : vv = (.bool b) := hv
  refine EndAll.nil (l := [_, _]) rfl ?_
  simp only [Act.put, List.setIfInBounds_toArray, List.set_cons_zero, List.set_cons_succ]
  replace H_a := Lib.hid (H_a.out.below B21)
  replace H_b := Lib.hid (H_b.out.below B21)
  replace H_r := Lib.hid (H_r.out.below B21)
  replace hn := hn.below B21
  replace hd := hd.below B21
  replace hW := hW.trans (B21.mono hW.size)
  have pq := p22
  clear B21
  have O_a := H_a
  have O_b := H_b
  have O_r := H_r
  obtain ⟨w23, hw23⟩ : ∃ x, x = rput w21 (w.heap.size + 1 + 1) s22 A22 n22 c22 t22 D22 m22 d22 := ⟨_, rfl⟩
  have HW23 : Hid (((((w21.setCell ⟨(w.heap.size + 1 + 1), 0, none⟩ (.bool s22)).setCell ⟨(w.heap.size + 1 + 1), 1, none⟩ (.slice A22 n22 c22)).setCell ⟨(w.heap.size + 1 + 1), 2, none⟩ (.bool t22)).setCell ⟨(w.heap.size + 1 + 1), 3, none⟩ (.slice D22 m22 d22)) = w23) := Lib.hid hw23.symm
  have OI := H_r.out
  replace H_a : Hid (Ib w23 w.heap.size s A n c) := Lib.hid (by rw [hw23]; exact H_a.out.rput (by omega))
  replace H_b : Hid (Ib w23 (w.heap.size + 1) t B m d) := Lib.hid (by rw [hw23]; exact H_b.out.rput (by omega))
  replace hn := hn.rput (s' := s22) (A' := A22) (n' := n22) (c' := c22) (t' := t22) (B' := D22) (m' := m22) (d' := d22) OI
  replace hd := hd.rput (s' := s22) (A' := A22) (n' := n22) (c' := c22) (t' := t22) (B' := D22) (m' := m22) (d' := d22) OI
  replace pq := pq.rput (s' := s22) (A' := A22) (n' := n22) (c' := c22) (t' := t22) (B' := D22) (m' := m22) (d' := d22) OI
  rw [← hw23] at hn
  rw [← hw23] at hd
  rw [← hw23] at pq
  replace hW : Below w.heap.size w w23 := by rw [hw23]; exact below_rput hW lw_r
  replace H_r : Hid (Rb w23 (w.heap.size + 1 + 1) s22 A22 n22 c22 t22 D22 m22 d22) := Lib.hid (by rw [hw23]; exact OI.own)
  clear hw23 OI
  obtain ⟨a1, a2, a3, a4, a5⟩ := O_a.out
  obtain ⟨b1, b2, b3, b4, b5⟩ := O_b.out
  obtain ⟨r1, r2, r3, r4, r5, r6, r7, r8, r9⟩ := O_r.out
  go_wp2_with fail
  rw [HW23.out]
  clear a1 a2 a3 a4 a5 b1 b2 b3 b4 b5 r1 r2 r3 r4 r5 r6 r7 r8 r9 O_a O_b O_r
  obtain ⟨r1, r2, r3, r4, r5, r6, r7, r8, r9⟩ := H_r.out
  exact bodyPost_ret (v := .tuple #[.agg #[.bool s22, .slice A22 n22 c22, .bool t22, .slice D22 m22 d22], .bool b]) (by simp [results, Try.results9, go_sem, r1, r2, r3, r4]) rfl ⟨_, _, _, _, _, _, _, _, rfl, pq, by omega, by omega, hW⟩
set_option maxRecDepth 100000 in
set_option maxHeartbeats 4000000 in
theorem qof_v {A : Option Addr} {n c k : Nat} {s : Bool} {N : Int} {w : World} (hn : Zv w s A n c N) (hnk : n ≤ k) (h1 : 1 ≤ k) (hk : k ≤ 1073741824) :
    Calls Try.prog 11 #[.agg #[.bool s, .slice A n c]] w (QPost (N : Rat) k w) := by
  have hW := Below.refl w.heap.size w
  obtain ⟨wp0, hwp0⟩ : ∃ x, x = w.alloc (.cells #[.bool s, .slice A n c] 25) := ⟨_, rfl⟩
  have zp0 : Below w.heap.size w wp0 := by rw [hwp0]; exact zba _ _
  have sp0 : wp0.heap.size = w.heap.size + 1 := by rw [hwp0, World.size_alloc]
  have Ia : Ib wp0 w.heap.size s A n c := by rw [hwp0]; exact Ib.new _ _ _ _ _ _
  replace hn := hn.below zp0
  replace hW := hW.trans (zp0.mono hW.size)
  have H_a := Lib.hid Ia
  clear Ia zp0
  obtain ⟨wp1, hwp1⟩ : ∃ x, x = wp0.alloc (.cells #[.bool false, .slice none 0 0, .bool false, .slice none 0 0] 28) := ⟨_, rfl⟩
  have zp1 : Below wp0.heap.size wp0 wp1 := by rw [hwp1]; exact zba _ _
  have sp1 : wp1.heap.size = w.heap.size + 1 + 1 := by rw [hwp1, World.size_alloc, sp0]
  have Ir : Rb wp1 (w.heap.size + 1) false none 0 0 false none 0 0 := by rw [hwp1, ← sp0]; exact Rb.new _ _ _ _ _ _ _ _ _ _
  replace H_a := Lib.hid (H_a.out.below zp1)
  replace hn := hn.below zp1
  replace hW := hW.trans (zp1.mono hW.size)
  have H_r := Lib.hid Ir
  clear Ir zp1
  have HW : Hid (((w.alloc (.cells #[.bool s, .slice A n c] 25)).alloc (.cells #[.bool false, .slice none 0 0, .bool false, .slice none 0 0] 28)) = wp1) := Lib.hid (by rw [hwp1, hwp0])
  have nn_a_r : ¬ (w.heap.size = (w.heap.size + 1)) := by omega
  have nm_a_r : ¬ ((w.heap.size + 1) = w.heap.size) := by omega
  have lw_a : w.heap.size ≤ w.heap.size := by omega
  have lw_r : w.heap.size ≤ (w.heap.size + 1) := by omega
  clear hwp0 hwp1 sp0 sp1
  rw [← rof_int]
  go_enter Try.func11, Try.ntmps11
  obtain ⟨a1, a2, a3, a4, a5⟩ := H_a.out
  obtain ⟨r1, r2, r3, r4, r5, r6, r7, r8, r9⟩ := H_r.out
  go_wp2_with fail
  rw [HW.out]
  clear a1 a2 a3 a4 a5 r1 r2 r3 r4 r5 r6 r7 r8 r9
  refine region7 [] 3 [IsK (.agg #[.bool s, .slice A n c]), IsC 1 1, IsQ (Rat.divInt N 1) k] (fun _ _ d _ _ h => by cases d <;> exact h) (by kernel_rfl) (by kernel_rfl) (by kernel_rfl) ⟨stay_k _, stay_c _ _, stay_q _ _, trivial⟩ ?_ ?_
  · refine HopAll.cons rfl ?_ (HopAll.cons rfl ?_ (HopAll.cons rfl ?_ HopAll.nil))
    · intro a w1 hB ho hp K hK
      have e1 : a.eval (.tmp 1) = (.pointer (some ⟨w.heap.size, 0, none⟩)) := ho 1 (by kernel_rfl)
      obtain ⟨u1, u2, u3, u4, u5⟩ := H_a.out.below hB
      exact hop_load (wanted_none rfl) rfl e1 (run_ldz u1 u2) (hK _ _ rfl (Below.refl _ _))
    · intro a w1 hB ho hp K hK
      refine hop_call (wanted_none rfl) rfl (args := #[.int .i64 (1)]) (by simp only [List.map_toArray, List.map_cons, List.map_nil, eval_const]) (ent7 (by kernel_rfl) _ _) (zof_v 1 (by omega) (by omega) _) ?_
      rintro e w2 ⟨s, A, n, c, rfl, p, k, B⟩
      exact ⟨_, rfl, hK _ _ ⟨s, A, n, c, rfl, p, by omega⟩ B⟩
    · intro a w1 hB ho hp K hK
      have e3 : a.eval (.tmp 3) = (.agg #[.bool s, .slice A n c]) := hp 0 3 (by kernel_rfl)
      obtain ⟨s4, A4, n4, c4, e4, p4, k4⟩ : IsC 1 1 (a.eval (.tmp 4)) w1 := hp 1 4 (by kernel_rfl)
      refine hop_call (wanted_none rfl) rfl (args := #[(.agg #[.bool s, .slice A n c]), (.agg #[.bool s4, .slice A4 n4 c4])]) (by simp only [List.map_toArray, List.map_cons, List.map_nil, eval_const, e3, e4]) (ent7 (by kernel_rfl) _ _) (normal_v (k := k) (hn.below hB) p4.zv (by omega) (by omega) h1 (by omega)) ?_
      rintro e w2 ⟨s, A, n, c, t, B, m, d, rfl, p, k, l, BB⟩
      exact ⟨_, rfl, hK _ _ ⟨s, A, n, c, t, B, m, d, rfl, p, by omega, by omega⟩ BB⟩
  intro w21 B21
  refine EndAll.one rfl fun vv hv => ?_
  obtain rfl : vv = (.agg #[.bool s, .slice A n c]) := hv
  refine EndAll.one rfl fun vv hv => ?_
  obtain ⟨s22, A22, n22, c22, rfl, p22, k22⟩ : IsC 1 1 vv w21 := hv
  refine EndAll.one rfl fun vv hv => ?_
  obtain ⟨s23, A23, n23, c23, t23, D23, m23, d23, rfl, p23, k23, l23⟩ : IsQ (Rat.divInt N 1) k vv w21 := hv
  refine EndAll.nil (l := [_]) rfl ?_
  simp only [Act.put, List.setIfInBounds_toArray, List.set_cons_zero, List.set_cons_succ]
  replace H_a := Lib.hid (H_a.out.below B21)
  replace H_r := Lib.hid (H_r.out.below B21)
  replace hn := hn.below B21
  replace hW := hW.trans (B21.mono hW.size)
  have pq := p23
  clear B21
  have O_a := H_a
  have O_r := H_r
  obtain ⟨w24, hw24⟩ : ∃ x, x = rput w21 (w.heap.size + 1) s23 A23 n23 c23 t23 D23 m23 d23 := ⟨_, rfl⟩
  have HW24 : Hid (((((w21.setCell ⟨(w.heap.size + 1), 0, none⟩ (.bool s23)).setCell ⟨(w.heap.size + 1), 1, none⟩ (.slice A23 n23 c23)).setCell ⟨(w.heap.size + 1), 2, none⟩ (.bool t23)).setCell ⟨(w.heap.size + 1), 3, none⟩ (.slice D23 m23 d23)) = w24) := Lib.hid hw24.symm
  have OI := H_r.out
  replace H_a : Hid (Ib w24 w.heap.size s A n c) := Lib.hid (by rw [hw24]; exact H_a.out.rput (by omega))
  replace hn := hn.rput (s' := s23) (A' := A23) (n' := n23) (c' := c23) (t' := t23) (B' := D23) (m' := m23) (d' := d23) OI
  replace pq := pq.rput (s' := s23) (A' := A23) (n' := n23) (c' := c23) (t' := t23) (B' := D23) (m' := m23) (d' := d23) OI
  rw [← hw24] at hn
  rw [← hw24] at pq
  replace hW : Below w.heap.size w w24 := by rw [hw24]; exact below_rput hW lw_r
  replace H_r : Hid (Rb w24 (w.heap.size + 1) s23 A23 n23 c23 t23 D23 m23 d23) := Lib.hid (by rw [hw24]; exact OI.own)
  clear hw24 OI
  obtain ⟨a1, a2, a3, a4, a5⟩ := O_a.out
  obtain ⟨r1, r2, r3, r4, r5, r6, r7, r8, r9⟩ := O_r.out
  go_wp2_with fail
  rw [HW24.out]
  clear a1 a2 a3 a4 a5 r1 r2 r3 r4 r5 r6 r7 r8 r9 O_a O_r
  obtain ⟨r1, r2, r3, r4, r5, r6, r7, r8, r9⟩ := H_r.out
  exact bodyPost_ret (v := (.agg #[.bool s23, .slice A23 n23 c23, .bool t23, .slice D23 m23 d23])) (by simp [results, Try.results11, go_sem, r1, r2, r3, r4]) rfl ⟨_, _, _, _, _, _, _, _, rfl, pq, by omega, by omega, hW⟩
set_option maxRecDepth 100000 in
set_option maxHeartbeats 4000000 in
theorem qsign_v {A B : Option Addr} {n c m d : Nat} {s t : Bool} {N D r : Int} {w : World} (hn : Zv w s A n c N) (hd : Zv w t B m d D) (hnk : n ≤ 1099511627776) (hmk : m ≤ 1099511627776) (hr : N.sign * D.sign = r) :
    Calls Try.prog 31 #[.agg #[.bool s, .slice A n c, .bool t, .slice B m d]] w (IPost r w) := by
  have hW := Below.refl w.heap.size w
  obtain ⟨wp0, hwp0⟩ : ∃ x, x = w.alloc (.cells #[.bool s, .slice A n c, .bool t, .slice B m d] 28) := ⟨_, rfl⟩
  have zp0 : Below w.heap.size w wp0 := by rw [hwp0]; exact zba _ _
  have sp0 : wp0.heap.size = w.heap.size + 1 := by rw [hwp0, World.size_alloc]
  have Ia : Rb wp0 w.heap.size s A n c t B m d := by rw [hwp0]; exact Rb.new _ _ _ _ _ _ _ _ _ _
  replace hn := hn.below zp0
  replace hd := hd.below zp0
  replace hW := hW.trans (zp0.mono hW.size)
  have H_a := Lib.hid Ia
  clear Ia zp0
  have HW : Hid ((w.alloc (.cells #[.bool s, .slice A n c, .bool t, .slice B m d] 28)) = wp0) := Lib.hid (by rw [hwp0])
  have lw_a : w.heap.size ≤ w.heap.size := by omega
  clear hwp0 sp0
  obtain ⟨r1, hr1⟩ : ∃ r, N.sign = r := ⟨_, rfl⟩
  obtain ⟨r2, hr2⟩ : ∃ r, D.sign = r := ⟨_, rfl⟩
  have HR1 := Lib.hid hr1
  have HR2 := Lib.hid hr2
  rw [hr1, hr2] at hr
  have hb1 := sign_bounds7 N
  have hb2 := sign_bounds7 D
  rw [hr1] at hb1
  rw [hr2] at hb2
  have hw : IntKind.i64.wrap (r1 * r2) = r := by rw [hr]; exact wrap_sign hb1 hb2 hr
  clear hr1 hr2 hb1 hb2 hr
  go_enter Try.func31, Try.ntmps31
  obtain ⟨a1, a2, a3, a4, a5, a6, a7, a8, a9⟩ := H_a.out
  go_wp2_with fail
  rw [HW.out]
  clear a1 a2 a3 a4 a5 a6 a7 a8 a9
  refine region7 [] 8 [IsK (.pointer (some ⟨w.heap.size, 0, none⟩)), IsK (.agg #[.bool s, .slice A n c]), IsK (.int .i64 r1), IsK (.pointer (some ⟨w.heap.size, 2, none⟩)), IsK (.agg #[.bool t, .slice B m d]), IsK (.int .i64 r2), IsK (.int .i64 r), IsK (.int .i64 r)] (fun _ _ d _ _ h => by cases d <;> exact h) (by kernel_rfl) (by kernel_rfl) (by kernel_rfl) ⟨stay_k _, stay_k _, stay_k _, stay_k _, stay_k _, stay_k _, stay_k _, stay_k _, trivial⟩ ?_ ?_
  · refine HopAll.cons rfl ?_ (HopAll.cons rfl ?_ (HopAll.cons rfl ?_ (HopAll.cons rfl ?_ (HopAll.cons rfl ?_ (HopAll.cons rfl ?_ (HopAll.cons rfl ?_ (HopAll.cons rfl ?_ HopAll.nil)))))))
    · intro a w1 hB ho hp K hK
      have e1 : a.eval (.tmp 1) = (.pointer (some ⟨w.heap.size, 0, none⟩)) := ho 1 (by kernel_rfl)
      refine hop_val (wanted_none rfl) ?_ (hK (.pointer (some ⟨w.heap.size, 0, none⟩)) _ rfl (Below.refl _ _))
      unfold execOp; simp only [e1]; simp [go_sem]
    · intro a w1 hB ho hp K hK
      have e3 : a.eval (.tmp 3) = (.pointer (some ⟨w.heap.size, 0, none⟩)) := hp 0 3 (by kernel_rfl)
      obtain ⟨u1, u2, u3, u4, u5, u6, u7, u8, u9⟩ := H_a.out.below hB
      exact hop_load (wanted_none rfl) rfl e3 (run_ldz u1 u2) (hK _ _ rfl (Below.refl _ _))
    · intro a w1 hB ho hp K hK
      have e4 : a.eval (.tmp 4) = (.agg #[.bool s, .slice A n c]) := hp 1 4 (by kernel_rfl)
      refine hop_call (wanted_none rfl) rfl (args := #[(.agg #[.bool s, .slice A n c])]) (by simp only [List.map_toArray, List.map_cons, List.map_nil, eval_const, e4]) (ent7 (by kernel_rfl) _ _) (zsign_v (hn.below hB) (by omega) HR1.out) ?_
      rintro e w2 ⟨rfl, B⟩
      exact ⟨_, rfl, hK _ _ rfl B⟩
    · intro a w1 hB ho hp K hK
      have e1 : a.eval (.tmp 1) = (.pointer (some ⟨w.heap.size, 0, none⟩)) := ho 1 (by kernel_rfl)
      refine hop_val (wanted_none rfl) ?_ (hK (.pointer (some ⟨w.heap.size, 2, none⟩)) _ rfl (Below.refl _ _))
      unfold execOp; simp only [e1]; simp [go_sem]
    · intro a w1 hB ho hp K hK
      have e6 : a.eval (.tmp 6) = (.pointer (some ⟨w.heap.size, 2, none⟩)) := hp 3 6 (by kernel_rfl)
      obtain ⟨u1, u2, u3, u4, u5, u6, u7, u8, u9⟩ := H_a.out.below hB
      exact hop_load (wanted_none rfl) rfl e6 (run_ldz u3 u4) (hK _ _ rfl (Below.refl _ _))
    · intro a w1 hB ho hp K hK
      have e7 : a.eval (.tmp 7) = (.agg #[.bool t, .slice B m d]) := hp 4 7 (by kernel_rfl)
      refine hop_call (wanted_none rfl) rfl (args := #[(.agg #[.bool t, .slice B m d])]) (by simp only [List.map_toArray, List.map_cons, List.map_nil, eval_const, e7]) (ent7 (by kernel_rfl) _ _) (zsign_v (hd.below hB) (by omega) HR2.out) ?_
      rintro e w2 ⟨rfl, B⟩
      exact ⟨_, rfl, hK _ _ rfl B⟩
    · intro a w1 hB ho hp K hK
      have e5 : a.eval (.tmp 5) = (.int .i64 r1) := hp 2 5 (by kernel_rfl)
      have e8 : a.eval (.tmp 8) = (.int .i64 r2) := hp 5 8 (by kernel_rfl)
      refine hop_val (wanted_none rfl) ?_ (hK (.int .i64 r) _ rfl (Below.refl _ _))
      unfold execOp; simp only [eval_const, e5, e8]; simp [go_sem, hw]
    · intro a w1 hB ho hp K hK
      have e9 : a.eval (.tmp 9) = (.int .i64 r) := hp 6 9 (by kernel_rfl)
      refine hop_val (wanted_none rfl) ?_ (hK (.int .i64 r) _ rfl (Below.refl _ _))
      unfold execOp; simp only [eval_const, e9]; simp [go_sem]
  intro w21 B21
  refine EndAll.one rfl fun vv hv => ?_
  obtain rfl : vv = (.pointer (some ⟨w.heap.size, 0, none⟩)) := hv
  refine EndAll.one rfl fun vv hv => ?_
  obtain rfl : vv = (.agg #[.bool s, .slice A n c]) := hv
  refine EndAll.one rfl fun vv hv => ?_
  obtain rfl : vv = (.int .i64 r1) := hv
  refine EndAll.one rfl fun vv hv => ?_
  obtain rfl : vv = (.pointer (some ⟨w.heap.size, 2, none⟩)) := hv
  refine EndAll.one rfl fun vv hv => ?_
  obtain rfl : vv = (.agg #[.bool t, .slice B m d]) := hv
  refine EndAll.one rfl fun vv hv => ?_
  obtain rfl : vv = (.int .i64 r2) := hv
  refine EndAll.one rfl fun vv hv => ?_
  obtain rfl : vv = (.int .i64 r) := hv
  refine EndAll.one rfl fun vv hv => ?_
  obtain rfl : vv = (.int .i64 r) := hv
  refine EndAll.nil (l := []) rfl ?_
  simp only [Act.put, List.setIfInBounds_toArray, List.set_cons_zero, List.set_cons_succ]
  replace H_a := Lib.hid (H_a.out.below B21)
  replace hn := hn.below B21
  replace hd := hd.below B21
  replace hW := hW.trans (B21.mono hW.size)
  clear B21
  go_wp2_with fail
  go_ret
  exact ⟨rfl, hW⟩
set_option maxRecDepth 100000 in
set_option maxHeartbeats 4000000 in
theorem qneg_v {A B : Option Addr} {n c m d k : Nat} {s t : Bool} {N D : Int} {w : World} (hn : Zv w s A n c N) (hd : Zv w t B m d D) (hnk : n ≤ k) (hmk : m ≤ k) (h1 : 1 ≤ k) (hk : k ≤ 1073741824) :
    Calls Try.prog 26 #[.agg #[.bool s, .slice A n c, .bool t, .slice B m d]] w (QPost (-Rat.divInt N D) k w) := by
  have hW := Below.refl w.heap.size w
  obtain ⟨wp0, hwp0⟩ : ∃ x, x = w.alloc (.cells #[.bool s, .slice A n c, .bool t, .slice B m d] 28) := ⟨_, rfl⟩
  have zp0 : Below w.heap.size w wp0 := by rw [hwp0]; exact zba _ _
  have sp0 : wp0.heap.size = w.heap.size + 1 := by rw [hwp0, World.size_alloc]
  have Ia : Rb wp0 w.heap.size s A n c t B m d := by rw [hwp0]; exact Rb.new _ _ _ _ _ _ _ _ _ _
  replace hn := hn.below zp0
  replace hd := hd.below zp0
  replace hW := hW.trans (zp0.mono hW.size)
  have H_a := Lib.hid Ia
  clear Ia zp0
  obtain ⟨wp1, hwp1⟩ : ∃ x, x = wp0.alloc (.cells #[.bool false, .slice none 0 0, .bool false, .slice none 0 0] 28) := ⟨_, rfl⟩
  have zp1 : Below wp0.heap.size wp0 wp1 := by rw [hwp1]; exact zba _ _
  have sp1 : wp1.heap.size = w.heap.size + 1 + 1 := by rw [hwp1, World.size_alloc, sp0]
  have Ir : Rb wp1 (w.heap.size + 1) false none 0 0 false none 0 0 := by rw [hwp1, ← sp0]; exact Rb.new _ _ _ _ _ _ _ _ _ _
  replace H_a := Lib.hid (H_a.out.below zp1)
  replace hn := hn.below zp1
  replace hd := hd.below zp1
  replace hW := hW.trans (zp1.mono hW.size)
  have H_r := Lib.hid Ir
  clear Ir zp1
  have HW : Hid (((w.alloc (.cells #[.bool s, .slice A n c, .bool t, .slice B m d] 28)).alloc (.cells #[.bool false, .slice none 0 0, .bool false, .slice none 0 0] 28)) = wp1) := Lib.hid (by rw [hwp1, hwp0])
  have nn_a_r : ¬ (w.heap.size = (w.heap.size + 1)) := by omega
  have nm_a_r : ¬ ((w.heap.size + 1) = w.heap.size) := by omega
  have lw_a : w.heap.size ≤ w.heap.size := by omega
  have lw_r : w.heap.size ≤ (w.heap.size + 1) := by omega
  clear hwp0 hwp1 sp0 sp1
  rw [Rat.neg_divInt]
  go_enter Try.func26, Try.ntmps26
  obtain ⟨a1, a2, a3, a4, a5, a6, a7, a8, a9⟩ := H_a.out
  obtain ⟨r1, r2, r3, r4, r5, r6, r7, r8, r9⟩ := H_r.out
  go_wp2_with fail
  rw [HW.out]
  clear a1 a2 a3 a4 a5 a6 a7 a8 a9 r1 r2 r3 r4 r5 r6 r7 r8 r9
  refine region7 [] 6 [IsK (.pointer (some ⟨w.heap.size, 0, none⟩)), IsK (.agg #[.bool s, .slice A n c]), IsC (-N) k, IsK (.pointer (some ⟨w.heap.size, 2, none⟩)), IsK (.agg #[.bool t, .slice B m d]), IsQ (Rat.divInt (-N) D) k] (fun _ _ d _ _ h => by cases d <;> exact h) (by kernel_rfl) (by kernel_rfl) (by kernel_rfl) ⟨stay_k _, stay_k _, stay_c _ _, stay_k _, stay_k _, stay_q _ _, trivial⟩ ?_ ?_
  · refine HopAll.cons rfl ?_ (HopAll.cons rfl ?_ (HopAll.cons rfl ?_ (HopAll.cons rfl ?_ (HopAll.cons rfl ?_ (HopAll.cons rfl ?_ HopAll.nil)))))
    · intro a w1 hB ho hp K hK
      have e1 : a.eval (.tmp 1) = (.pointer (some ⟨w.heap.size, 0, none⟩)) := ho 1 (by kernel_rfl)
      refine hop_val (wanted_none rfl) ?_ (hK (.pointer (some ⟨w.heap.size, 0, none⟩)) _ rfl (Below.refl _ _))
      unfold execOp; simp only [e1]; simp [go_sem]
    · intro a w1 hB ho hp K hK
      have e3 : a.eval (.tmp 3) = (.pointer (some ⟨w.heap.size, 0, none⟩)) := hp 0 3 (by kernel_rfl)
      obtain ⟨u1, u2, u3, u4, u5, u6, u7, u8, u9⟩ := H_a.out.below hB
      exact hop_load (wanted_none rfl) rfl e3 (run_ldz u1 u2) (hK _ _ rfl (Below.refl _ _))
    · intro a w1 hB ho hp K hK
      have e4 : a.eval (.tmp 4) = (.agg #[.bool s, .slice A n c]) := hp 1 4 (by kernel_rfl)
      refine hop_call (wanted_none rfl) rfl (args := #[(.agg #[.bool s, .slice A n c])]) (by simp only [List.map_toArray, List.map_cons, List.map_nil, eval_const, e4]) (ent7 (by kernel_rfl) _ _) (zneg_v (hn.below hB) (by omega)) ?_
      rintro e w2 ⟨s, A, n, c, rfl, p, k, B⟩
      exact ⟨_, rfl, hK _ _ ⟨s, A, n, c, rfl, p, by omega⟩ B⟩
    · intro a w1 hB ho hp K hK
      have e1 : a.eval (.tmp 1) = (.pointer (some ⟨w.heap.size, 0, none⟩)) := ho 1 (by kernel_rfl)
      refine hop_val (wanted_none rfl) ?_ (hK (.pointer (some ⟨w.heap.size, 2, none⟩)) _ rfl (Below.refl _ _))
      unfold execOp; simp only [e1]; simp [go_sem]
    · intro a w1 hB ho hp K hK
      have e6 : a.eval (.tmp 6) = (.pointer (some ⟨w.heap.size, 2, none⟩)) := hp 3 6 (by kernel_rfl)
      obtain ⟨u1, u2, u3, u4, u5, u6, u7, u8, u9⟩ := H_a.out.below hB
      exact hop_load (wanted_none rfl) rfl e6 (run_ldz u3 u4) (hK _ _ rfl (Below.refl _ _))
    · intro a w1 hB ho hp K hK
      obtain ⟨s5, A5, n5, c5, e5, p5, k5⟩ : IsC (-N) k (a.eval (.tmp 5)) w1 := hp 2 5 (by kernel_rfl)
      have e7 : a.eval (.tmp 7) = (.agg #[.bool t, .slice B m d]) := hp 4 7 (by kernel_rfl)
      refine hop_call (wanted_none rfl) rfl (args := #[(.agg #[.bool s5, .slice A5 n5 c5]), (.agg #[.bool t, .slice B m d])]) (by simp only [List.map_toArray, List.map_cons, List.map_nil, eval_const, e5, e7]) (ent7 (by kernel_rfl) _ _) (normal_v (k := k) p5.zv (hd.below hB) (by omega) (by omega) h1 (by omega)) ?_
      rintro e w2 ⟨s, A, n, c, t, B, m, d, rfl, p, k, l, BB⟩
      exact ⟨_, rfl, hK _ _ ⟨s, A, n, c, t, B, m, d, rfl, p, by omega, by omega⟩ BB⟩
  intro w21 B21
  refine EndAll.one rfl fun vv hv => ?_
  obtain rfl : vv = (.pointer (some ⟨w.heap.size, 0, none⟩)) := hv
  refine EndAll.one rfl fun vv hv => ?_
  obtain rfl : vv = (.agg #[.bool s, .slice A n c]) := hv
  refine EndAll.one rfl fun vv hv => ?_
  obtain ⟨s22, A22, n22, c22, rfl, p22, k22⟩ : IsC (-N) k vv w21 := hv
  refine EndAll.one rfl fun vv hv => ?_
  obtain rfl : vv = (.pointer (some ⟨w.heap.size, 2, none⟩)) := hv
  refine EndAll.one rfl fun vv hv => ?_
  obtain rfl : vv = (.agg #[.bool t, .slice B m d]) := hv
  refine EndAll.one rfl fun vv hv => ?_
  obtain ⟨s23, A23, n23, c23, t23, D23, m23, d23, rfl, p23, k23, l23⟩ : IsQ (Rat.divInt (-N) D) k vv w21 := hv
  refine EndAll.nil (l := [_]) rfl ?_
  simp only [Act.put, List.setIfInBounds_toArray, List.set_cons_zero, List.set_cons_succ]
  replace H_a := Lib.hid (H_a.out.below B21)
  replace H_r := Lib.hid (H_r.out.below B21)
  replace hn := hn.below B21
  replace hd := hd.below B21
  replace hW := hW.trans (B21.mono hW.size)
  have pq := p23
  clear B21
  have O_a := H_a
  have O_r := H_r
  obtain ⟨w24, hw24⟩ : ∃ x, x = rput w21 (w.heap.size + 1) s23 A23 n23 c23 t23 D23 m23 d23 := ⟨_, rfl⟩
  have HW24 : Hid (((((w21.setCell ⟨(w.heap.size + 1), 0, none⟩ (.bool s23)).setCell ⟨(w.heap.size + 1), 1, none⟩ (.slice A23 n23 c23)).setCell ⟨(w.heap.size + 1), 2, none⟩ (.bool t23)).setCell ⟨(w.heap.size + 1), 3, none⟩ (.slice D23 m23 d23)) = w24) := Lib.hid hw24.symm
  have OI := H_r.out
  replace H_a : Hid (Rb w24 w.heap.size s A n c t B m d) := Lib.hid (by rw [hw24]; exact H_a.out.rput (by omega))
  replace hn := hn.rput (s' := s23) (A' := A23) (n' := n23) (c' := c23) (t' := t23) (B' := D23) (m' := m23) (d' := d23) OI
  replace hd := hd.rput (s' := s23) (A' := A23) (n' := n23) (c' := c23) (t' := t23) (B' := D23) (m' := m23) (d' := d23) OI
  replace pq := pq.rput (s' := s23) (A' := A23) (n' := n23) (c' := c23) (t' := t23) (B' := D23) (m' := m23) (d' := d23) OI
  rw [← hw24] at hn
  rw [← hw24] at hd
  rw [← hw24] at pq
  replace hW : Below w.heap.size w w24 := by rw [hw24]; exact below_rput hW lw_r
  replace H_r : Hid (Rb w24 (w.heap.size + 1) s23 A23 n23 c23 t23 D23 m23 d23) := Lib.hid (by rw [hw24]; exact OI.own)
  clear hw24 OI
  obtain ⟨a1, a2, a3, a4, a5, a6, a7, a8, a9⟩ := O_a.out
  obtain ⟨r1, r2, r3, r4, r5, r6, r7, r8, r9⟩ := O_r.out
  go_wp2_with fail
  rw [HW24.out]
  clear a1 a2 a3 a4 a5 a6 a7 a8 a9 r1 r2 r3 r4 r5 r6 r7 r8 r9 O_a O_r
  obtain ⟨r1, r2, r3, r4, r5, r6, r7, r8, r9⟩ := H_r.out
  exact bodyPost_ret (v := (.agg #[.bool s23, .slice A23 n23 c23, .bool t23, .slice D23 m23 d23])) (by simp [results, Try.results26, go_sem, r1, r2, r3, r4]) rfl ⟨_, _, _, _, _, _, _, _, rfl, pq, by omega, by omega, hW⟩
set_option maxRecDepth 100000 in
set_option maxHeartbeats 4000000 in
theorem qmul_v {A B C D' : Option Addr} {n c m d l e' f' h' k : Nat} {s t u v : Bool} {N D M E : Int} {w : World} (hn : Zv w s A n c N) (hd : Zv w t B m d D) (hm : Zv w u C l e' M) (he : Zv w v D' f' h' E) (hnk : n ≤ k) (hmk : m ≤ k) (hlk : l ≤ k) (hfk : f' ≤ k) (h1 : 1 ≤ k) (hk : k ≤ 1073741824) :
    Calls Try.prog 25 #[.agg #[.bool s, .slice A n c, .bool t, .slice B m d], .agg #[.bool u, .slice C l e', .bool v, .slice D' f' h']] w (QPost (Rat.divInt N D * Rat.divInt M E) (2 * k) w) := by
  have hW := Below.refl w.heap.size w
  obtain ⟨wp0, hwp0⟩ : ∃ x, x = w.alloc (.cells #[.bool s, .slice A n c, .bool t, .slice B m d] 28) := ⟨_, rfl⟩
  have zp0 : Below w.heap.size w wp0 := by rw [hwp0]; exact zba _ _
  have sp0 : wp0.heap.size = w.heap.size + 1 := by rw [hwp0, World.size_alloc]
  have Ia : Rb wp0 w.heap.size s A n c t B m d := by rw [hwp0]; exact Rb.new _ _ _ _ _ _ _ _ _ _
  replace hn := hn.below zp0
  replace hd := hd.below zp0
  replace hm := hm.below zp0
  replace he := he.below zp0
  replace hW := hW.trans (zp0.mono hW.size)
  have H_a := Lib.hid Ia
  clear Ia zp0
  obtain ⟨wp1, hwp1⟩ : ∃ x, x = wp0.alloc (.cells #[.bool u, .slice C l e', .bool v, .slice D' f' h'] 28) := ⟨_, rfl⟩
  have zp1 : Below wp0.heap.size wp0 wp1 := by rw [hwp1]; exact zba _ _
  have sp1 : wp1.heap.size = w.heap.size + 1 + 1 := by rw [hwp1, World.size_alloc, sp0]
  have Ib : Rb wp1 (w.heap.size + 1) u C l e' v D' f' h' := by rw [hwp1, ← sp0]; exact Rb.new _ _ _ _ _ _ _ _ _ _
  replace H_a := Lib.hid (H_a.out.below zp1)
  replace hn := hn.below zp1
  replace hd := hd.below zp1
  replace hm := hm.below zp1
  replace he := he.below zp1
  replace hW := hW.trans (zp1.mono hW.size)
  have H_b := Lib.hid Ib
  clear Ib zp1
  obtain ⟨wp2, hwp2⟩ : ∃ x, x = wp1.alloc (.cells #[.bool false, .slice none 0 0, .bool false, .slice none 0 0] 28) := ⟨_, rfl⟩
  have zp2 : Below wp1.heap.size wp1 wp2 := by rw [hwp2]; exact zba _ _
  have sp2 : wp2.heap.size = w.heap.size + 1 + 1 + 1 := by rw [hwp2, World.size_alloc, sp1]
  have Ir : Rb wp2 (w.heap.size + 1 + 1) false none 0 0 false none 0 0 := by rw [hwp2, ← sp1]; exact Rb.new _ _ _ _ _ _ _ _ _ _
  replace H_a := Lib.hid (H_a.out.below zp2)
  replace H_b := Lib.hid (H_b.out.below zp2)
  replace hn := hn.below zp2
  replace hd := hd.below zp2
  replace hm := hm.below zp2
  replace he := he.below zp2
  replace hW := hW.trans (zp2.mono hW.size)
  have H_r := Lib.hid Ir
  clear Ir zp2
  have HW : Hid ((((w.alloc (.cells #[.bool s, .slice A n c, .bool t, .slice B m d] 28)).alloc (.cells #[.bool u, .slice C l e', .bool v, .slice D' f' h'] 28)).alloc (.cells #[.bool false, .slice none 0 0, .bool false, .slice none 0 0] 28)) = wp2) := Lib.hid (by rw [hwp2, hwp1, hwp0])
  have nn_a_b : ¬ (w.heap.size = (w.heap.size + 1)) := by omega
  have nm_a_b : ¬ ((w.heap.size + 1) = w.heap.size) := by omega
  have nn_a_r : ¬ (w.heap.size = (w.heap.size + 1 + 1)) := by omega
  have nm_a_r : ¬ ((w.heap.size + 1 + 1) = w.heap.size) := by omega
  have nn_b_r : ¬ ((w.heap.size + 1) = (w.heap.size + 1 + 1)) := by omega
  have nm_b_r : ¬ ((w.heap.size + 1 + 1) = (w.heap.size + 1)) := by omega
  have lw_a : w.heap.size ≤ w.heap.size := by omega
  have lw_b : w.heap.size ≤ (w.heap.size + 1) := by omega
  have lw_r : w.heap.size ≤ (w.heap.size + 1 + 1) := by omega
  clear hwp0 hwp1 hwp2 sp0 sp1 sp2
  rw [rmul_divInt]
  go_enter Try.func25, Try.ntmps25
  obtain ⟨a1, a2, a3, a4, a5, a6, a7, a8, a9⟩ := H_a.out
  obtain ⟨b1, b2, b3, b4, b5, b6, b7, b8, b9⟩ := H_b.out
  obtain ⟨r1, r2, r3, r4, r5, r6, r7, r8, r9⟩ := H_r.out
  go_wp2_with fail
  rw [HW.out]
  clear a1 a2 a3 a4 a5 a6 a7 a8 a9 b1 b2 b3 b4 b5 b6 b7 b8 b9 r1 r2 r3 r4 r5 r6 r7 r8 r9
  refine region7 [] 11 [IsK (.pointer (some ⟨w.heap.size, 0, none⟩)), IsK (.agg #[.bool s, .slice A n c]), IsK (.pointer (some ⟨(w.heap.size + 1), 0, none⟩)), IsK (.agg #[.bool u, .slice C l e']), IsC (N * M) (2 * k), IsK (.pointer (some ⟨w.heap.size, 2, none⟩)), IsK (.agg #[.bool t, .slice B m d]), IsK (.pointer (some ⟨(w.heap.size + 1), 2, none⟩)), IsK (.agg #[.bool v, .slice D' f' h']), IsC (D * E) (2 * k), IsQ (Rat.divInt (N * M) (D * E)) (2 * k)] (fun _ _ d _ _ h => by cases d <;> exact h) (by kernel_rfl) (by kernel_rfl) (by kernel_rfl) ⟨stay_k _, stay_k _, stay_k _, stay_k _, stay_c _ _, stay_k _, stay_k _, stay_k _, stay_k _, stay_c _ _, stay_q _ _, trivial⟩ ?_ ?_
  · refine HopAll.cons rfl ?_ (HopAll.cons rfl ?_ (HopAll.cons rfl ?_ (HopAll.cons rfl ?_ (HopAll.cons rfl ?_ (HopAll.cons rfl ?_ (HopAll.cons rfl ?_ (HopAll.cons rfl ?_ (HopAll.cons rfl ?_ (HopAll.cons rfl ?_ (HopAll.cons rfl ?_ HopAll.nil))))))))))
    · intro a w1 hB ho hp K hK
      have e2 : a.eval (.tmp 2) = (.pointer (some ⟨w.heap.size, 0, none⟩)) := ho 2 (by kernel_rfl)
      refine hop_val (wanted_none rfl) ?_ (hK (.pointer (some ⟨w.heap.size, 0, none⟩)) _ rfl (Below.refl _ _))
      unfold execOp; simp only [e2]; simp [go_sem]
    · intro a w1 hB ho hp K hK
      have e5 : a.eval (.tmp 5) = (.pointer (some ⟨w.heap.size, 0, none⟩)) := hp 0 5 (by kernel_rfl)
      obtain ⟨u1, u2, u3, u4, u5, u6, u7, u8, u9⟩ := H_a.out.below hB
      exact hop_load (wanted_none rfl) rfl e5 (run_ldz u1 u2) (hK _ _ rfl (Below.refl _ _))
    · intro a w1 hB ho hp K hK
      have e3 : a.eval (.tmp 3) = (.pointer (some ⟨(w.heap.size + 1), 0, none⟩)) := ho 3 (by kernel_rfl)
      refine hop_val (wanted_none rfl) ?_ (hK (.pointer (some ⟨(w.heap.size + 1), 0, none⟩)) _ rfl (Below.refl _ _))
      unfold execOp; simp only [e3]; simp [go_sem]
    · intro a w1 hB ho hp K hK
      have e7 : a.eval (.tmp 7) = (.pointer (some ⟨(w.heap.size + 1), 0, none⟩)) := hp 2 7 (by kernel_rfl)
      obtain ⟨u1, u2, u3, u4, u5, u6, u7, u8, u9⟩ := H_b.out.below hB
      exact hop_load (wanted_none rfl) rfl e7 (run_ldz u1 u2) (hK _ _ rfl (Below.refl _ _))
    · intro a w1 hB ho hp K hK
      have e6 : a.eval (.tmp 6) = (.agg #[.bool s, .slice A n c]) := hp 1 6 (by kernel_rfl)
      have e8 : a.eval (.tmp 8) = (.agg #[.bool u, .slice C l e']) := hp 3 8 (by kernel_rfl)
      refine hop_call (wanted_none rfl) rfl (args := #[(.agg #[.bool s, .slice A n c]), (.agg #[.bool u, .slice C l e'])]) (by simp only [List.map_toArray, List.map_cons, List.map_nil, eval_const, e6, e8]) (ent7 (by kernel_rfl) _ _) (zmul_v (hn.below hB) (hm.below hB) (by omega) (by omega)) ?_
      rintro e w2 ⟨s, A, n, c, rfl, p, k, B⟩
      exact ⟨_, rfl, hK _ _ ⟨s, A, n, c, rfl, p, by omega⟩ B⟩
    · intro a w1 hB ho hp K hK
      have e2 : a.eval (.tmp 2) = (.pointer (some ⟨w.heap.size, 0, none⟩)) := ho 2 (by kernel_rfl)
      refine hop_val (wanted_none rfl) ?_ (hK (.pointer (some ⟨w.heap.size, 2, none⟩)) _ rfl (Below.refl _ _))
      unfold execOp; simp only [e2]; simp [go_sem]
    · intro a w1 hB ho hp K hK
      have e10 : a.eval (.tmp 10) = (.pointer (some ⟨w.heap.size, 2, none⟩)) := hp 5 10 (by kernel_rfl)
      obtain ⟨u1, u2, u3, u4, u5, u6, u7, u8, u9⟩ := H_a.out.below hB
      exact hop_load (wanted_none rfl) rfl e10 (run_ldz u3 u4) (hK _ _ rfl (Below.refl _ _))
    · intro a w1 hB ho hp K hK
      have e3 : a.eval (.tmp 3) = (.pointer (some ⟨(w.heap.size + 1), 0, none⟩)) := ho 3 (by kernel_rfl)
      refine hop_val (wanted_none rfl) ?_ (hK (.pointer (some ⟨(w.heap.size + 1), 2, none⟩)) _ rfl (Below.refl _ _))
      unfold execOp; simp only [e3]; simp [go_sem]
    · intro a w1 hB ho hp K hK
      have e12 : a.eval (.tmp 12) = (.pointer (some ⟨(w.heap.size + 1), 2, none⟩)) := hp 7 12 (by kernel_rfl)
      obtain ⟨u1, u2, u3, u4, u5, u6, u7, u8, u9⟩ := H_b.out.below hB
      exact hop_load (wanted_none rfl) rfl e12 (run_ldz u3 u4) (hK _ _ rfl (Below.refl _ _))
    · intro a w1 hB ho hp K hK
      have e11 : a.eval (.tmp 11) = (.agg #[.bool t, .slice B m d]) := hp 6 11 (by kernel_rfl)
      have e13 : a.eval (.tmp 13) = (.agg #[.bool v, .slice D' f' h']) := hp 8 13 (by kernel_rfl)
      refine hop_call (wanted_none rfl) rfl (args := #[(.agg #[.bool t, .slice B m d]), (.agg #[.bool v, .slice D' f' h'])]) (by simp only [List.map_toArray, List.map_cons, List.map_nil, eval_const, e11, e13]) (ent7 (by kernel_rfl) _ _) (zmul_v (hd.below hB) (he.below hB) (by omega) (by omega)) ?_
      rintro e w2 ⟨s, A, n, c, rfl, p, k, B⟩
      exact ⟨_, rfl, hK _ _ ⟨s, A, n, c, rfl, p, by omega⟩ B⟩
    · intro a w1 hB ho hp K hK
      obtain ⟨s9, A9, n9, c9, e9, p9, k9⟩ : IsC (N * M) (2 * k) (a.eval (.tmp 9)) w1 := hp 4 9 (by kernel_rfl)
      obtain ⟨s14, A14, n14, c14, e14, p14, k14⟩ : IsC (D * E) (2 * k) (a.eval (.tmp 14)) w1 := hp 9 14 (by kernel_rfl)
      refine hop_call (wanted_none rfl) rfl (args := #[(.agg #[.bool s9, .slice A9 n9 c9]), (.agg #[.bool s14, .slice A14 n14 c14])]) (by simp only [List.map_toArray, List.map_cons, List.map_nil, eval_const, e9, e14]) (ent7 (by kernel_rfl) _ _) (normal_v (k := 2 * k) p9.zv p14.zv (by omega) (by omega) (by omega) (by omega)) ?_
      rintro e w2 ⟨s, A, n, c, t, B, m, d, rfl, p, k, l, BB⟩
      exact ⟨_, rfl, hK _ _ ⟨s, A, n, c, t, B, m, d, rfl, p, by omega, by omega⟩ BB⟩
  intro w21 B21
  refine EndAll.one rfl fun vv hv => ?_
  obtain rfl : vv = (.pointer (some ⟨w.heap.size, 0, none⟩)) := hv
  refine EndAll.one rfl fun vv hv => ?_
  obtain rfl : vv = (.agg #[.bool s, .slice A n c]) := hv
  refine EndAll.one rfl fun vv hv => ?_
  obtain rfl : vv = (.pointer (some ⟨(w.heap.size + 1), 0, none⟩)) := hv
  refine EndAll.one rfl fun vv hv => ?_
  obtain rfl : vv = (.agg #[.bool u, .slice C l e']) := hv
  refine EndAll.one rfl fun vv hv => ?_
  obtain ⟨s22, A22, n22, c22, rfl, p22, k22⟩ : IsC (N * M) (2 * k) vv w21 := hv
  refine EndAll.one rfl fun vv hv => ?_
  obtain rfl : vv = (.pointer (some ⟨w.heap.size, 2, none⟩)) := hv
  refine EndAll.one rfl fun vv hv => ?_
  obtain rfl : vv = (.agg #[.bool t, .slice B m d]) := hv
  refine EndAll.one rfl fun vv hv => ?_
  obtain rfl : vv = (.pointer (some ⟨(w.heap.size + 1), 2, none⟩)) := hv
  refine EndAll.one rfl fun vv hv => ?_
  obtain rfl : vv = (.agg #[.bool v, .slice D' f' h']) := hv
  refine EndAll.one rfl fun vv hv => ?_
  obtain ⟨s23, A23, n23, c23, rfl, p23, k23⟩ : IsC (D * E) (2 * k) vv w21 := hv
  refine EndAll.one rfl fun vv hv => ?_
  obtain ⟨s24, A24, n24, c24, t24, D24, m24, d24, rfl, p24, k24, l24⟩ : IsQ (Rat.divInt (N * M) (D * E)) (2 * k) vv w21 := hv
  refine EndAll.nil (l := [_]) rfl ?_
  simp only [Act.put, List.setIfInBounds_toArray, List.set_cons_zero, List.set_cons_succ]
  replace H_a := Lib.hid (H_a.out.below B21)
  replace H_b := Lib.hid (H_b.out.below B21)
  replace H_r := Lib.hid (H_r.out.below B21)
  replace hn := hn.below B21
  replace hd := hd.below B21
  replace hm := hm.below B21
  replace he := he.below B21
  replace hW := hW.trans (B21.mono hW.size)
  have pq := p24
  clear B21
  have O_a := H_a
  have O_b := H_b
  have O_r := H_r
  obtain ⟨w25, hw25⟩ : ∃ x, x = rput w21 (w.heap.size + 1 + 1) s24 A24 n24 c24 t24 D24 m24 d24 := ⟨_, rfl⟩
  have HW25 : Hid (((((w21.setCell ⟨(w.heap.size + 1 + 1), 0, none⟩ (.bool s24)).setCell ⟨(w.heap.size + 1 + 1), 1, none⟩ (.slice A24 n24 c24)).setCell ⟨(w.heap.size + 1 + 1), 2, none⟩ (.bool t24)).setCell ⟨(w.heap.size + 1 + 1), 3, none⟩ (.slice D24 m24 d24)) = w25) := Lib.hid hw25.symm
  have OI := H_r.out
  replace H_a : Hid (Rb w25 w.heap.size s A n c t B m d) := Lib.hid (by rw [hw25]; exact H_a.out.rput (by omega))
  replace H_b : Hid (Rb w25 (w.heap.size + 1) u C l e' v D' f' h') := Lib.hid (by rw [hw25]; exact H_b.out.rput (by omega))
  replace hn := hn.rput (s' := s24) (A' := A24) (n' := n24) (c' := c24) (t' := t24) (B' := D24) (m' := m24) (d' := d24) OI
  replace hd := hd.rput (s' := s24) (A' := A24) (n' := n24) (c' := c24) (t' := t24) (B' := D24) (m' := m24) (d' := d24) OI
  replace hm := hm.rput (s' := s24) (A' := A24) (n' := n24) (c' := c24) (t' := t24) (B' := D24) (m' := m24) (d' := d24) OI
  replace he := he.rput (s' := s24) (A' := A24) (n' := n24) (c' := c24) (t' := t24) (B' := D24) (m' := m24) (d' := d24) OI
  replace pq := pq.rput (s' := s24) (A' := A24) (n' := n24) (c' := c24) (t' := t24) (B' := D24) (m' := m24) (d' := d24) OI
  rw [← hw25] at hn
  rw [← hw25] at hd
  rw [← hw25] at hm
  rw [← hw25] at he
  rw [← hw25] at pq
  replace hW : Below w.heap.size w w25 := by rw [hw25]; exact below_rput hW lw_r
  replace H_r : Hid (Rb w25 (w.heap.size + 1 + 1) s24 A24 n24 c24 t24 D24 m24 d24) := Lib.hid (by rw [hw25]; exact OI.own)
  clear hw25 OI
  obtain ⟨a1, a2, a3, a4, a5, a6, a7, a8, a9⟩ := O_a.out
  obtain ⟨b1, b2, b3, b4, b5, b6, b7, b8, b9⟩ := O_b.out
  obtain ⟨r1, r2, r3, r4, r5, r6, r7, r8, r9⟩ := O_r.out
  go_wp2_with fail
  rw [HW25.out]
  clear a1 a2 a3 a4 a5 a6 a7 a8 a9 b1 b2 b3 b4 b5 b6 b7 b8 b9 r1 r2 r3 r4 r5 r6 r7 r8 r9 O_a O_b O_r
  obtain ⟨r1, r2, r3, r4, r5, r6, r7, r8, r9⟩ := H_r.out
  exact bodyPost_ret (v := (.agg #[.bool s24, .slice A24 n24 c24, .bool t24, .slice D24 m24 d24])) (by simp [results, Try.results25, go_sem, r1, r2, r3, r4]) rfl ⟨_, _, _, _, _, _, _, _, rfl, pq, by omega, by omega, hW⟩
set_option maxRecDepth 100000 in
set_option maxHeartbeats 4000000 in
theorem qquo_v {A B C D' : Option Addr} {n c m d l e' f' h' k : Nat} {s t u v : Bool} {N D M E : Int} {w : World} (hn : Zv w s A n c N) (hd : Zv w t B m d D) (hm : Zv w u C l e' M) (he : Zv w v D' f' h' E) (hnk : n ≤ k) (hmk : m ≤ k) (hlk : l ≤ k) (hfk : f' ≤ k) (h1 : 1 ≤ k) (hk : k ≤ 1073741824) {b : Bool} (hb0 : decide (Rat.divInt M E ≠ 0) = b) :
    Calls Try.prog 28 #[.agg #[.bool s, .slice A n c, .bool t, .slice B m d], .agg #[.bool u, .slice C l e', .bool v, .slice D' f' h']] w (QbPost (Rat.divInt N D / Rat.divInt M E) b (2 * k) w) := by
  have hW := Below.refl w.heap.size w
  obtain ⟨wp0, hwp0⟩ : ∃ x, x = w.alloc (.cells #[.bool s, .slice A n c, .bool t, .slice B m d] 28) := ⟨_, rfl⟩
  have zp0 : Below w.heap.size w wp0 := by rw [hwp0]; exact zba _ _
  have sp0 : wp0.heap.size = w.heap.size + 1 := by rw [hwp0, World.size_alloc]
  have Ia : Rb wp0 w.heap.size s A n c t B m d := by rw [hwp0]; exact Rb.new _ _ _ _ _ _ _ _ _ _
  replace hn := hn.below zp0
  replace hd := hd.below zp0
  replace hm := hm.below zp0
  replace he := he.below zp0
  replace hW := hW.trans (zp0.mono hW.size)
  have H_a := Lib.hid Ia
  clear Ia zp0
  obtain ⟨wp1, hwp1⟩ : ∃ x, x = wp0.alloc (.cells #[.bool u, .slice C l e', .bool v, .slice D' f' h'] 28) := ⟨_, rfl⟩
  have zp1 : Below wp0.heap.size wp0 wp1 := by rw [hwp1]; exact zba _ _
  have sp1 : wp1.heap.size = w.heap.size + 1 + 1 := by rw [hwp1, World.size_alloc, sp0]
  have Ib : Rb wp1 (w.heap.size + 1) u C l e' v D' f' h' := by rw [hwp1, ← sp0]; exact Rb.new _ _ _ _ _ _ _ _ _ _
  replace H_a := Lib.hid (H_a.out.below zp1)
  replace hn := hn.below zp1
  replace hd := hd.below zp1
  replace hm := hm.below zp1
  replace he := he.below zp1
  replace hW := hW.trans (zp1.mono hW.size)
  have H_b := Lib.hid Ib
  clear Ib zp1
  obtain ⟨wp2, hwp2⟩ : ∃ x, x = wp1.alloc (.cells #[.bool false, .slice none 0 0, .bool false, .slice none 0 0] 28) := ⟨_, rfl⟩
  have zp2 : Below wp1.heap.size wp1 wp2 := by rw [hwp2]; exact zba _ _
  have sp2 : wp2.heap.size = w.heap.size + 1 + 1 + 1 := by rw [hwp2, World.size_alloc, sp1]
  have Ir : Rb wp2 (w.heap.size + 1 + 1) false none 0 0 false none 0 0 := by rw [hwp2, ← sp1]; exact Rb.new _ _ _ _ _ _ _ _ _ _
  replace H_a := Lib.hid (H_a.out.below zp2)
  replace H_b := Lib.hid (H_b.out.below zp2)
  replace hn := hn.below zp2
  replace hd := hd.below zp2
  replace hm := hm.below zp2
  replace he := he.below zp2
  replace hW := hW.trans (zp2.mono hW.size)
  have H_r := Lib.hid Ir
  clear Ir zp2
  have HW : Hid ((((w.alloc (.cells #[.bool s, .slice A n c, .bool t, .slice B m d] 28)).alloc (.cells #[.bool u, .slice C l e', .bool v, .slice D' f' h'] 28)).alloc (.cells #[.bool false, .slice none 0 0, .bool false, .slice none 0 0] 28)) = wp2) := Lib.hid (by rw [hwp2, hwp1, hwp0])
  have nn_a_b : ¬ (w.heap.size = (w.heap.size + 1)) := by omega
  have nm_a_b : ¬ ((w.heap.size + 1) = w.heap.size) := by omega
  have nn_a_r : ¬ (w.heap.size = (w.heap.size + 1 + 1)) := by omega
  have nm_a_r : ¬ ((w.heap.size + 1 + 1) = w.heap.size) := by omega
  have nn_b_r : ¬ ((w.heap.size + 1) = (w.heap.size + 1 + 1)) := by omega
  have nm_b_r : ¬ ((w.heap.size + 1 + 1) = (w.heap.size + 1)) := by omega
  have lw_a : w.heap.size ≤ w.heap.size := by omega
  have lw_b : w.heap.size ≤ (w.heap.size + 1) := by omega
  have lw_r : w.heap.size ≤ (w.heap.size + 1 + 1) := by omega
  clear hwp0 hwp1 hwp2 sp0 sp1 sp2
  rw [← rquo_eq]
  obtain ⟨sr, hsr⟩ : ∃ r, M.sign * E.sign = r := ⟨_, rfl⟩
  have hb : (sr != 0) = b := by
    rw [← hb0, ← hsr, ← rsg_divInt]
    by_cases h : Rat.divInt M E = 0
    · rw [h]; rfl
    · rw [decide_eq_true h, bne_iff_ne]; exact fun k => h (rsg_eq.1 k)
  have HSR := Lib.hid hsr
  clear hsr hb0
  go_enter Try.func28, Try.ntmps28
  obtain ⟨a1, a2, a3, a4, a5, a6, a7, a8, a9⟩ := H_a.out
  obtain ⟨b1, b2, b3, b4, b5, b6, b7, b8, b9⟩ := H_b.out
  obtain ⟨r1, r2, r3, r4, r5, r6, r7, r8, r9⟩ := H_r.out
  go_wp2_with fail
  rw [HW.out]
  clear a1 a2 a3 a4 a5 a6 a7 a8 a9 b1 b2 b3 b4 b5 b6 b7 b8 b9 r1 r2 r3 r4 r5 r6 r7 r8 r9
  refine region7 [13] 14 [IsK (.pointer (some ⟨w.heap.size, 0, none⟩)), IsK (.agg #[.bool s, .slice A n c]), IsK (.pointer (some ⟨(w.heap.size + 1), 2, none⟩)), IsK (.agg #[.bool v, .slice D' f' h']), IsC (N * E) (2 * k), IsK (.pointer (some ⟨w.heap.size, 2, none⟩)), IsK (.agg #[.bool t, .slice B m d]), IsK (.pointer (some ⟨(w.heap.size + 1), 0, none⟩)), IsK (.agg #[.bool u, .slice C l e']), IsC (D * M) (2 * k), IsQ (Rat.divInt (N * E) (D * M)) (2 * k), IsK (.agg #[.bool u, .slice C l e', .bool v, .slice D' f' h']), IsK (.int .i64 sr), IsK (.bool b)] (fun _ _ d _ _ h => by cases d <;> exact h) (by kernel_rfl) (by kernel_rfl) (by kernel_rfl) ⟨stay_k _, stay_k _, stay_k _, stay_k _, stay_c _ _, stay_k _, stay_k _, stay_k _, stay_k _, stay_c _ _, stay_q _ _, stay_k _, stay_k _, stay_k _, trivial⟩ ?_ ?_
  · refine HopAll.cons rfl ?_ (HopAll.cons rfl ?_ (HopAll.cons rfl ?_ (HopAll.cons rfl ?_ (HopAll.cons rfl ?_ (HopAll.cons rfl ?_ (HopAll.cons rfl ?_ (HopAll.cons rfl ?_ (HopAll.cons rfl ?_ (HopAll.cons rfl ?_ (HopAll.cons rfl ?_ (HopAll.cons rfl ?_ (HopAll.cons rfl ?_ (HopAll.fl rfl ?_ HopAll.nil)))))))))))))
    · intro a w1 hB ho hp K hK
      have e2 : a.eval (.tmp 2) = (.pointer (some ⟨w.heap.size, 0, none⟩)) := ho 2 (by kernel_rfl)
      refine hop_val (wanted_none rfl) ?_ (hK (.pointer (some ⟨w.heap.size, 0, none⟩)) _ rfl (Below.refl _ _))
      unfold execOp; simp only [e2]; simp [go_sem]
    · intro a w1 hB ho hp K hK
      have e6 : a.eval (.tmp 6) = (.pointer (some ⟨w.heap.size, 0, none⟩)) := hp 0 6 (by kernel_rfl)
      obtain ⟨u1, u2, u3, u4, u5, u6, u7, u8, u9⟩ := H_a.out.below hB
      exact hop_load (wanted_none rfl) rfl e6 (run_ldz u1 u2) (hK _ _ rfl (Below.refl _ _))
    · intro a w1 hB ho hp K hK
      have e3 : a.eval (.tmp 3) = (.pointer (some ⟨(w.heap.size + 1), 0, none⟩)) := ho 3 (by kernel_rfl)
      refine hop_val (wanted_none rfl) ?_ (hK (.pointer (some ⟨(w.heap.size + 1), 2, none⟩)) _ rfl (Below.refl _ _))
      unfold execOp; simp only [e3]; simp [go_sem]
    · intro a w1 hB ho hp K hK
      have e8 : a.eval (.tmp 8) = (.pointer (some ⟨(w.heap.size + 1), 2, none⟩)) := hp 2 8 (by kernel_rfl)
      obtain ⟨u1, u2, u3, u4, u5, u6, u7, u8, u9⟩ := H_b.out.below hB
      exact hop_load (wanted_none rfl) rfl e8 (run_ldz u3 u4) (hK _ _ rfl (Below.refl _ _))
    · intro a w1 hB ho hp K hK
      have e7 : a.eval (.tmp 7) = (.agg #[.bool s, .slice A n c]) := hp 1 7 (by kernel_rfl)
      have e9 : a.eval (.tmp 9) = (.agg #[.bool v, .slice D' f' h']) := hp 3 9 (by kernel_rfl)
      refine hop_call (wanted_none rfl) rfl (args := #[(.agg #[.bool s, .slice A n c]), (.agg #[.bool v, .slice D' f' h'])]) (by simp only [List.map_toArray, List.map_cons, List.map_nil, eval_const, e7, e9]) (ent7 (by kernel_rfl) _ _) (zmul_v (hn.below hB) (he.below hB) (by omega) (by omega)) ?_
      rintro e w2 ⟨s, A, n, c, rfl, p, k, B⟩
      exact ⟨_, rfl, hK _ _ ⟨s, A, n, c, rfl, p, by omega⟩ B⟩
    · intro a w1 hB ho hp K hK
      have e2 : a.eval (.tmp 2) = (.pointer (some ⟨w.heap.size, 0, none⟩)) := ho 2 (by kernel_rfl)
      refine hop_val (wanted_none rfl) ?_ (hK (.pointer (some ⟨w.heap.size, 2, none⟩)) _ rfl (Below.refl _ _))
      unfold execOp; simp only [e2]; simp [go_sem]
    · intro a w1 hB ho hp K hK
      have e11 : a.eval (.tmp 11) = (.pointer (some ⟨w.heap.size, 2, none⟩)) := hp 5 11 (by kernel_rfl)
      obtain ⟨u1, u2, u3, u4, u5, u6, u7, u8, u9⟩ := H_a.out.below hB
      exact hop_load (wanted_none rfl) rfl e11 (run_ldz u3 u4) (hK _ _ rfl (Below.refl _ _))
    · intro a w1 hB ho hp K hK
      have e3 : a.eval (.tmp 3) = (.pointer (some ⟨(w.heap.size + 1), 0, none⟩)) := ho 3 (by kernel_rfl)
      refine hop_val (wanted_none rfl) ?_ (hK (.pointer (some ⟨(w.heap.size + 1), 0, none⟩)) _ rfl (Below.refl _ _))
      unfold execOp; simp only [e3]; simp [go_sem]
    · intro a w1 hB ho hp K hK
      have e13 : a.eval (.tmp 13) = (.pointer (some ⟨(w.heap.size + 1), 0, none⟩)) := hp 7 13 (by kernel_rfl)
      obtain ⟨u1, u2, u3, u4, u5, u6, u7, u8, u9⟩ := H_b.out.below hB
      exact hop_load (wanted_none rfl) rfl e13 (run_ldz u1 u2) (hK _ _ rfl (Below.refl _ _))
    · intro a w1 hB ho hp K hK
      have e12 : a.eval (.tmp 12) = (.agg #[.bool t, .slice B m d]) := hp 6 12 (by kernel_rfl)
      have e14 : a.eval (.tmp 14) = (.agg #[.bool u, .slice C l e']) := hp 8 14 (by kernel_rfl)
      refine hop_call (wanted_none rfl) rfl (args := #[(.agg #[.bool t, .slice B m d]), (.agg #[.bool u, .slice C l e'])]) (by simp only [List.map_toArray, List.map_cons, List.map_nil, eval_const, e12, e14]) (ent7 (by kernel_rfl) _ _) (zmul_v (hd.below hB) (hm.below hB) (by omega) (by omega)) ?_
      rintro e w2 ⟨s, A, n, c, rfl, p, k, B⟩
      exact ⟨_, rfl, hK _ _ ⟨s, A, n, c, rfl, p, by omega⟩ B⟩
    · intro a w1 hB ho hp K hK
      obtain ⟨s10, A10, n10, c10, e10, p10, k10⟩ : IsC (N * E) (2 * k) (a.eval (.tmp 10)) w1 := hp 4 10 (by kernel_rfl)
      obtain ⟨s15, A15, n15, c15, e15, p15, k15⟩ : IsC (D * M) (2 * k) (a.eval (.tmp 15)) w1 := hp 9 15 (by kernel_rfl)
      refine hop_call (wanted_none rfl) rfl (args := #[(.agg #[.bool s10, .slice A10 n10 c10]), (.agg #[.bool s15, .slice A15 n15 c15])]) (by simp only [List.map_toArray, List.map_cons, List.map_nil, eval_const, e10, e15]) (ent7 (by kernel_rfl) _ _) (normal_v (k := 2 * k) p10.zv p15.zv (by omega) (by omega) (by omega) (by omega)) ?_
      rintro e w2 ⟨s, A, n, c, t, B, m, d, rfl, p, k, l, BB⟩
      exact ⟨_, rfl, hK _ _ ⟨s, A, n, c, t, B, m, d, rfl, p, by omega, by omega⟩ BB⟩
    · intro a w1 hB ho hp K hK
      have e3 : a.eval (.tmp 3) = (.pointer (some ⟨(w.heap.size + 1), 0, none⟩)) := ho 3 (by kernel_rfl)
      obtain ⟨u1, u2, u3, u4, u5, u6, u7, u8, u9⟩ := H_b.out.below hB
      exact hop_load (wanted_none rfl) rfl e3 (run_ldq u1 u2 u3 u4) (hK _ _ rfl (Below.refl _ _))
    · intro a w1 hB ho hp K hK
      have e17 : a.eval (.tmp 17) = (.agg #[.bool u, .slice C l e', .bool v, .slice D' f' h']) := hp 11 17 (by kernel_rfl)
      refine hop_call (wanted_none rfl) rfl (args := #[(.agg #[.bool u, .slice C l e', .bool v, .slice D' f' h'])]) (by simp only [List.map_toArray, List.map_cons, List.map_nil, eval_const, e17]) (ent7 (by kernel_rfl) _ _) (qsign_v (hm.below hB) (he.below hB) (by omega) (by omega) HSR.out) ?_
      rintro e w2 ⟨rfl, B⟩
      exact ⟨_, rfl, hK _ _ rfl B⟩
    · intro a w1 hB ho hp
      have e18 : a.eval (.tmp 18) = (.int .i64 sr) := hp 12 18 (by kernel_rfl)
      refine ⟨(.bool b), rfl, .inl ⟨(wanted_none rfl), fun w2 => ?_⟩⟩
      unfold execOp; simp only [eval_const, e18]; simp [go_sem, hb]
  intro w21 B21
  refine EndAll.one rfl fun vv hv => ?_
  obtain rfl : vv = (.pointer (some ⟨w.heap.size, 0, none⟩)) := hv
  refine EndAll.one rfl fun vv hv => ?_
  obtain rfl : vv = (.agg #[.bool s, .slice A n c]) := hv
  refine EndAll.one rfl fun vv hv => ?_
  obtain rfl : vv = (.pointer (some ⟨(w.heap.size + 1), 2, none⟩)) := hv
  refine EndAll.one rfl fun vv hv => ?_
  obtain rfl : vv = (.agg #[.bool v, .slice D' f' h']) := hv
  refine EndAll.one rfl fun vv hv => ?_
  obtain ⟨s22, A22, n22, c22, rfl, p22, k22⟩ : IsC (N * E) (2 * k) vv w21 := hv
  refine EndAll.one rfl fun vv hv => ?_
  obtain rfl : vv = (.pointer (some ⟨w.heap.size, 2, none⟩)) := hv
  refine EndAll.one rfl fun vv hv => ?_
  obtain rfl : vv = (.agg #[.bool t, .slice B m d]) := hv
  refine EndAll.one rfl fun vv hv => ?_
  obtain rfl : vv = (.pointer (some ⟨(w.heap.size + 1), 0, none⟩)) := hv
  refine EndAll.one rfl fun vv hv => ?_
  obtain rfl : vv = (.agg #[.bool u, .slice C l e']) := hv
  refine EndAll.one rfl fun vv hv => ?_
  obtain ⟨s23, A23, n23, c23, rfl, p23, k23⟩ : IsC (D * M) (2 * k) vv w21 := hv
  refine EndAll.one rfl fun vv hv => ?_
  obtain ⟨s24, A24, n24, c24, t24, D24, m24, d24, rfl, p24, k24, l24⟩ : IsQ (Rat.divInt (N * E) (D * M)) (2 * k) vv w21 := hv
  refine EndAll.one rfl fun vv hv => ?_
  obtain rfl : vv = (.agg #[.bool u, .slice C l e', .bool v, .slice D' f' h']) := hv
  refine EndAll.one rfl fun vv hv => ?_
  obtain rfl : vv = (.int .i64 sr) := hv
  refine EndAll.one rfl fun vv hv => ?_
  obtain rfl : vv = (.bool b) := hv
  refine EndAll.nil (l := [_, _]) rfl ?_
  simp only [Act.put, List.setIfInBounds_toArray, List.set_cons_zero, List.set_cons_succ]
  replace H_a := Lib.hid (H_a.out.below B21)
  replace H_b := Lib.hid (H_b.out.below B21)
  replace H_r := Lib.hid (H_r.out.below B21)
  replace hn := hn.below B21
  replace hd := hd.below B21
  replace hm := hm.below B21
  replace he := he.below B21
  replace hW := hW.trans (B21.mono hW.size)
  have pq := p24
  clear B21
  have O_a := H_a
  have O_b := H_b
  have O_r := H_r
  obtain ⟨w25, hw25⟩ : ∃ x, x = rput w21 (w.heap.size + 1 + 1) s24 A24 n24 c24 t24 D24 m24 d24 := ⟨_, rfl⟩
  have HW25 : Hid (((((w21.setCell ⟨(w.heap.size + 1 + 1), 0, none⟩ (.bool s24)).setCell ⟨(w.heap.size + 1 + 1), 1, none⟩ (.slice A24 n24 c24)).setCell ⟨(w.heap.size + 1 + 1), 2, none⟩ (.bool t24)).setCell ⟨(w.heap.size + 1 + 1), 3, none⟩ (.slice D24 m24 d24)) = w25) := Lib.hid hw25.symm
  have OI := H_r.out
  replace H_a : Hid (Rb w25 w.heap.size s A n c t B m d) := Lib.hid (by rw [hw25]; exact H_a.out.rput (by omega))
  replace H_b : Hid (Rb w25 (w.heap.size + 1) u C l e' v D' f' h') := Lib.hid (by rw [hw25]; exact H_b.out.rput (by omega))
  replace hn := hn.rput (s' := s24) (A' := A24) (n' := n24) (c' := c24) (t' := t24) (B' := D24) (m' := m24) (d' := d24) OI
  replace hd := hd.rput (s' := s24) (A' := A24) (n' := n24) (c' := c24) (t' := t24) (B' := D24) (m' := m24) (d' := d24) OI
  replace hm := hm.rput (s' := s24) (A' := A24) (n' := n24) (c' := c24) (t' := t24) (B' := D24) (m' := m24) (d' := d24) OI
  replace he := he.rput (s' := s24) (A' := A24) (n' := n24) (c' := c24) (t' := t24) (B' := D24) (m' := m24) (d' := d24) OI
  replace pq := pq.rput (s' := s24) (A' := A24) (n' := n24) (c' := c24) (t' := t24) (B' := D24) (m' := m24) (d' := d24) OI
  rw [← hw25] at hn
  rw [← hw25] at hd
  rw [← hw25] at hm
  rw [← hw25] at he
  rw [← hw25] at pq
  replace hW : Below w.heap.size w w25 := by rw [hw25]; exact below_rput hW lw_r
  replace H_r : Hid (Rb w25 (w.heap.size + 1 + 1) s24 A24 n24 c24 t24 D24 m24 d24) := Lib.hid (by rw [hw25]; exact OI.own)
  clear hw25 OI
  obtain ⟨a1, a2, a3, a4, a5, a6, a7, a8, a9⟩ := O_a.out
  obtain ⟨b1, b2, b3, b4, b5, b6, b7, b8, b9⟩ := O_b.out
  obtain ⟨r1, r2, r3, r4, r5, r6, r7, r8, r9⟩ := O_r.out
  go_wp2_with fail
  rw [HW25.out]
  clear a1 a2 a3 a4 a5 a6 a7 a8 a9 b1 b2 b3 b4 b5 b6 b7 b8 b9 r1 r2 r3 r4 r5 r6 r7 r8 r9 O_a O_b O_r
  obtain ⟨r1, r2, r3, r4, r5, r6, r7, r8, r9⟩ := H_r.out
  exact bodyPost_ret (v := .tuple #[.agg #[.bool s24, .slice A24 n24 c24, .bool t24, .slice D24 m24 d24], .bool b]) (by simp [results, Try.results28, go_sem, r1, r2, r3, r4]) rfl ⟨_, _, _, _, _, _, _, _, rfl, pq, by omega, by omega, hW⟩
set_option maxRecDepth 100000 in
set_option maxHeartbeats 4000000 in
theorem qadd_v {A B C D' : Option Addr} {n c m d l e' f' h' k : Nat} {s t u v : Bool} {N D M E : Int} {w : World} (hn : Zv w s A n c N) (hd : Zv w t B m d D) (hm : Zv w u C l e' M) (he : Zv w v D' f' h' E) (hnk : n ≤ k) (hmk : m ≤ k) (hlk : l ≤ k) (hfk : f' ≤ k) (h1 : 1 ≤ k) (hk : k ≤ 1073741824) :
    Calls Try.prog 21 #[.agg #[.bool s, .slice A n c, .bool t, .slice B m d], .agg #[.bool u, .slice C l e', .bool v, .slice D' f' h']] w (QPost (Rat.divInt N D + Rat.divInt M E) (2 * k + 1) w) := by
  have hW := Below.refl w.heap.size w
  obtain ⟨wp0, hwp0⟩ : ∃ x, x = w.alloc (.cells #[.bool s, .slice A n c, .bool t, .slice B m d] 28) := ⟨_, rfl⟩
  have zp0 : Below w.heap.size w wp0 := by rw [hwp0]; exact zba _ _
  have sp0 : wp0.heap.size = w.heap.size + 1 := by rw [hwp0, World.size_alloc]
  have Ia : Rb wp0 w.heap.size s A n c t B m d := by rw [hwp0]; exact Rb.new _ _ _ _ _ _ _ _ _ _
  replace hn := hn.below zp0
  replace hd := hd.below zp0
  replace hm := hm.below zp0
  replace he := he.below zp0
  replace hW := hW.trans (zp0.mono hW.size)
  have H_a := Lib.hid Ia
  clear Ia zp0
  obtain ⟨wp1, hwp1⟩ : ∃ x, x = wp0.alloc (.cells #[.bool u, .slice C l e', .bool v, .slice D' f' h'] 28) := ⟨_, rfl⟩
  have zp1 : Below wp0.heap.size wp0 wp1 := by rw [hwp1]; exact zba _ _
  have sp1 : wp1.heap.size = w.heap.size + 1 + 1 := by rw [hwp1, World.size_alloc, sp0]
  have Ib : Rb wp1 (w.heap.size + 1) u C l e' v D' f' h' := by rw [hwp1, ← sp0]; exact Rb.new _ _ _ _ _ _ _ _ _ _
  replace H_a := Lib.hid (H_a.out.below zp1)
  replace hn := hn.below zp1
  replace hd := hd.below zp1
  replace hm := hm.below zp1
  replace he := he.below zp1
  replace hW := hW.trans (zp1.mono hW.size)
  have H_b := Lib.hid Ib
  clear Ib zp1
  obtain ⟨wp2, hwp2⟩ : ∃ x, x = wp1.alloc (.cells #[.bool false, .slice none 0 0, .bool false, .slice none 0 0] 28) := ⟨_, rfl⟩
  have zp2 : Below wp1.heap.size wp1 wp2 := by rw [hwp2]; exact zba _ _
  have sp2 : wp2.heap.size = w.heap.size + 1 + 1 + 1 := by rw [hwp2, World.size_alloc, sp1]
  have Ir : Rb wp2 (w.heap.size + 1 + 1) false none 0 0 false none 0 0 := by rw [hwp2, ← sp1]; exact Rb.new _ _ _ _ _ _ _ _ _ _
  replace H_a := Lib.hid (H_a.out.below zp2)
  replace H_b := Lib.hid (H_b.out.below zp2)
  replace hn := hn.below zp2
  replace hd := hd.below zp2
  replace hm := hm.below zp2
  replace he := he.below zp2
  replace hW := hW.trans (zp2.mono hW.size)
  have H_r := Lib.hid Ir
  clear Ir zp2
  have HW : Hid ((((w.alloc (.cells #[.bool s, .slice A n c, .bool t, .slice B m d] 28)).alloc (.cells #[.bool u, .slice C l e', .bool v, .slice D' f' h'] 28)).alloc (.cells #[.bool false, .slice none 0 0, .bool false, .slice none 0 0] 28)) = wp2) := Lib.hid (by rw [hwp2, hwp1, hwp0])
  have nn_a_b : ¬ (w.heap.size = (w.heap.size + 1)) := by omega
  have nm_a_b : ¬ ((w.heap.size + 1) = w.heap.size) := by omega
  have nn_a_r : ¬ (w.heap.size = (w.heap.size + 1 + 1)) := by omega
  have nm_a_r : ¬ ((w.heap.size + 1 + 1) = w.heap.size) := by omega
  have nn_b_r : ¬ ((w.heap.size + 1) = (w.heap.size + 1 + 1)) := by omega
  have nm_b_r : ¬ ((w.heap.size + 1 + 1) = (w.heap.size + 1)) := by omega
  have lw_a : w.heap.size ≤ w.heap.size := by omega
  have lw_b : w.heap.size ≤ (w.heap.size + 1) := by omega
  have lw_r : w.heap.size ≤ (w.heap.size + 1 + 1) := by omega
  clear hwp0 hwp1 hwp2 sp0 sp1 sp2
  rw [← cq N D, ← cq M E, radd_divInt (cD_ne D) (cD_ne E)]
  obtain ⟨N1, hN1⟩ : ∃ x, cN N D = x := ⟨_, rfl⟩
  obtain ⟨D1, hD1⟩ : ∃ x, cD D = x := ⟨_, rfl⟩
  obtain ⟨M1, hM1⟩ : ∃ x, cN M E = x := ⟨_, rfl⟩
  obtain ⟨E1, hE1⟩ : ∃ x, cD E = x := ⟨_, rfl⟩
  rw [hN1, hD1, hM1, hE1]
  have C1 : ∀ w : World, RPost (cN N D) (cD D) k w = RPost N1 D1 k w := fun w => by rw [hN1, hD1]
  have C2 : ∀ w : World, RPost (cN M E) (cD E) k w = RPost M1 E1 k w := fun w => by rw [hM1, hE1]
  clear hN1 hD1 hM1 hE1
  go_enter Try.func21, Try.ntmps21
  obtain ⟨a1, a2, a3, a4, a5, a6, a7, a8, a9⟩ := H_a.out
  obtain ⟨b1, b2, b3, b4, b5, b6, b7, b8, b9⟩ := H_b.out
  obtain ⟨r1, r2, r3, r4, r5, r6, r7, r8, r9⟩ := H_r.out
  go_wp2_with fail
  rw [HW.out]
  clear a1 a2 a3 a4 a5 a6 a7 a8 a9 b1 b2 b3 b4 b5 b6 b7 b8 b9 r1 r2 r3 r4 r5 r6 r7 r8 r9
  refine region7 [] 4 [IsK (.agg #[.bool s, .slice A n c, .bool t, .slice B m d]), IsR N1 D1 k, IsK (.agg #[.bool u, .slice C l e', .bool v, .slice D' f' h']), IsR M1 E1 k] (fun _ _ d _ _ h => by cases d <;> exact h) (by kernel_rfl) (by kernel_rfl) (by kernel_rfl) ⟨stay_k _, stay_r _ _ _, stay_k _, stay_r _ _ _, trivial⟩ ?_ ?_
  · refine HopAll.cons rfl ?_ (HopAll.cons rfl ?_ (HopAll.cons rfl ?_ (HopAll.cons rfl ?_ HopAll.nil)))
    · intro a w1 hB ho hp K hK
      have e2 : a.eval (.tmp 2) = (.pointer (some ⟨w.heap.size, 0, none⟩)) := ho 2 (by kernel_rfl)
      obtain ⟨u1, u2, u3, u4, u5, u6, u7, u8, u9⟩ := H_a.out.below hB
      exact hop_load (wanted_none rfl) rfl e2 (run_ldq u1 u2 u3 u4) (hK _ _ rfl (Below.refl _ _))
    · intro a w1 hB ho hp K hK
      have e6 : a.eval (.tmp 6) = (.agg #[.bool s, .slice A n c, .bool t, .slice B m d]) := hp 0 6 (by kernel_rfl)
      refine hop_call (wanted_none rfl) rfl (args := #[(.agg #[.bool s, .slice A n c, .bool t, .slice B m d])]) (by simp only [List.map_toArray, List.map_cons, List.map_nil, eval_const, e6]) (ent7 (by kernel_rfl) _ _) ((C1 _) ▸ counted_v (k := k) (hn.below hB) (hd.below hB) (by omega) (by omega) h1 hk) ?_
      rintro e w2 ⟨s, A, n, c, t, B, m, d, rfl, p, q, k, l, BB⟩
      exact ⟨_, rfl, hK _ _ ⟨s, A, n, c, t, B, m, d, rfl, p, q, by omega, by omega⟩ BB⟩
    · intro a w1 hB ho hp K hK
      have e3 : a.eval (.tmp 3) = (.pointer (some ⟨(w.heap.size + 1), 0, none⟩)) := ho 3 (by kernel_rfl)
      obtain ⟨u1, u2, u3, u4, u5, u6, u7, u8, u9⟩ := H_b.out.below hB
      exact hop_load (wanted_none rfl) rfl e3 (run_ldq u1 u2 u3 u4) (hK _ _ rfl (Below.refl _ _))
    · intro a w1 hB ho hp K hK
      have e8 : a.eval (.tmp 8) = (.agg #[.bool u, .slice C l e', .bool v, .slice D' f' h']) := hp 2 8 (by kernel_rfl)
      refine hop_call (wanted_none rfl) rfl (args := #[(.agg #[.bool u, .slice C l e', .bool v, .slice D' f' h'])]) (by simp only [List.map_toArray, List.map_cons, List.map_nil, eval_const, e8]) (ent7 (by kernel_rfl) _ _) ((C2 _) ▸ counted_v (k := k) (hm.below hB) (he.below hB) (by omega) (by omega) h1 hk) ?_
      rintro e w2 ⟨s, A, n, c, t, B, m, d, rfl, p, q, k, l, BB⟩
      exact ⟨_, rfl, hK _ _ ⟨s, A, n, c, t, B, m, d, rfl, p, q, by omega, by omega⟩ BB⟩
  intro w21 B21
  refine EndAll.one rfl fun vv hv => ?_
  obtain rfl : vv = (.agg #[.bool s, .slice A n c, .bool t, .slice B m d]) := hv
  refine EndAll.one rfl fun vv hv => ?_
  obtain ⟨s22, A22, n22, c22, t22, D22, m22, d22, rfl, p22, q22, k22, l22⟩ : IsR N1 D1 k vv w21 := hv
  refine EndAll.one rfl fun vv hv => ?_
  obtain rfl : vv = (.agg #[.bool u, .slice C l e', .bool v, .slice D' f' h']) := hv
  refine EndAll.one rfl fun vv hv => ?_
  obtain ⟨s23, A23, n23, c23, t23, D23, m23, d23, rfl, p23, q23, k23, l23⟩ : IsR M1 E1 k vv w21 := hv
  refine EndAll.nil (l := [_, _]) rfl ?_
  simp only [Act.put, List.setIfInBounds_toArray, List.set_cons_zero, List.set_cons_succ]
  replace H_a := Lib.hid (H_a.out.below B21)
  replace H_b := Lib.hid (H_b.out.below B21)
  replace H_r := Lib.hid (H_r.out.below B21)
  replace hn := hn.below B21
  replace hd := hd.below B21
  replace hm := hm.below B21
  replace he := he.below B21
  replace hW := hW.trans (B21.mono hW.size)
  have pn := p22
  have pd := q22
  have pm := p23
  have pe := q23
  clear B21
  have O_a := H_a
  have O_b := H_b
  have O_r := H_r
  obtain ⟨w24, hw24⟩ : ∃ x, x = rput w21 w.heap.size s22 A22 n22 c22 t22 D22 m22 d22 := ⟨_, rfl⟩
  have HW24 : Hid (((((w21.setCell ⟨w.heap.size, 0, none⟩ (.bool s22)).setCell ⟨w.heap.size, 1, none⟩ (.slice A22 n22 c22)).setCell ⟨w.heap.size, 2, none⟩ (.bool t22)).setCell ⟨w.heap.size, 3, none⟩ (.slice D22 m22 d22)) = w24) := Lib.hid hw24.symm
  have OI := H_a.out
  replace H_b : Hid (Rb w24 (w.heap.size + 1) u C l e' v D' f' h') := Lib.hid (by rw [hw24]; exact H_b.out.rput (by omega))
  replace H_r : Hid (Rb w24 (w.heap.size + 1 + 1) false none 0 0 false none 0 0) := Lib.hid (by rw [hw24]; exact H_r.out.rput (by omega))
  replace hn := hn.rput (s' := s22) (A' := A22) (n' := n22) (c' := c22) (t' := t22) (B' := D22) (m' := m22) (d' := d22) OI
  replace hd := hd.rput (s' := s22) (A' := A22) (n' := n22) (c' := c22) (t' := t22) (B' := D22) (m' := m22) (d' := d22) OI
  replace hm := hm.rput (s' := s22) (A' := A22) (n' := n22) (c' := c22) (t' := t22) (B' := D22) (m' := m22) (d' := d22) OI
  replace he := he.rput (s' := s22) (A' := A22) (n' := n22) (c' := c22) (t' := t22) (B' := D22) (m' := m22) (d' := d22) OI
  replace pn := pn.rput (s' := s22) (A' := A22) (n' := n22) (c' := c22) (t' := t22) (B' := D22) (m' := m22) (d' := d22) OI
  replace pd := pd.rput (s' := s22) (A' := A22) (n' := n22) (c' := c22) (t' := t22) (B' := D22) (m' := m22) (d' := d22) OI
  replace pm := pm.rput (s' := s22) (A' := A22) (n' := n22) (c' := c22) (t' := t22) (B' := D22) (m' := m22) (d' := d22) OI
  replace pe := pe.rput (s' := s22) (A' := A22) (n' := n22) (c' := c22) (t' := t22) (B' := D22) (m' := m22) (d' := d22) OI
  rw [← hw24] at hn
  rw [← hw24] at hd
  rw [← hw24] at hm
  rw [← hw24] at he
  rw [← hw24] at pn
  rw [← hw24] at pd
  rw [← hw24] at pm
  rw [← hw24] at pe
  replace hW : Below w.heap.size w w24 := by rw [hw24]; exact below_rput hW lw_a
  replace H_a : Hid (Rb w24 w.heap.size s22 A22 n22 c22 t22 D22 m22 d22) := Lib.hid (by rw [hw24]; exact OI.own)
  clear hw24 OI
  obtain ⟨w25, hw25⟩ : ∃ x, x = rput w24 (w.heap.size + 1) s23 A23 n23 c23 t23 D23 m23 d23 := ⟨_, rfl⟩
  have HW25 : Hid (((((w24.setCell ⟨(w.heap.size + 1), 0, none⟩ (.bool s23)).setCell ⟨(w.heap.size + 1), 1, none⟩ (.slice A23 n23 c23)).setCell ⟨(w.heap.size + 1), 2, none⟩ (.bool t23)).setCell ⟨(w.heap.size + 1), 3, none⟩ (.slice D23 m23 d23)) = w25) := Lib.hid hw25.symm
  have OI := H_b.out
  replace H_a : Hid (Rb w25 w.heap.size s22 A22 n22 c22 t22 D22 m22 d22) := Lib.hid (by rw [hw25]; exact H_a.out.rput (by omega))
  replace H_r : Hid (Rb w25 (w.heap.size + 1 + 1) false none 0 0 false none 0 0) := Lib.hid (by rw [hw25]; exact H_r.out.rput (by omega))
  replace hn := hn.rput (s' := s23) (A' := A23) (n' := n23) (c' := c23) (t' := t23) (B' := D23) (m' := m23) (d' := d23) OI
  replace hd := hd.rput (s' := s23) (A' := A23) (n' := n23) (c' := c23) (t' := t23) (B' := D23) (m' := m23) (d' := d23) OI
  replace hm := hm.rput (s' := s23) (A' := A23) (n' := n23) (c' := c23) (t' := t23) (B' := D23) (m' := m23) (d' := d23) OI
  replace he := he.rput (s' := s23) (A' := A23) (n' := n23) (c' := c23) (t' := t23) (B' := D23) (m' := m23) (d' := d23) OI
  replace pn := pn.rput (s' := s23) (A' := A23) (n' := n23) (c' := c23) (t' := t23) (B' := D23) (m' := m23) (d' := d23) OI
  replace pd := pd.rput (s' := s23) (A' := A23) (n' := n23) (c' := c23) (t' := t23) (B' := D23) (m' := m23) (d' := d23) OI
  replace pm := pm.rput (s' := s23) (A' := A23) (n' := n23) (c' := c23) (t' := t23) (B' := D23) (m' := m23) (d' := d23) OI
  replace pe := pe.rput (s' := s23) (A' := A23) (n' := n23) (c' := c23) (t' := t23) (B' := D23) (m' := m23) (d' := d23) OI
  rw [← hw25] at hn
  rw [← hw25] at hd
  rw [← hw25] at hm
  rw [← hw25] at he
  rw [← hw25] at pn
  rw [← hw25] at pd
  rw [← hw25] at pm
  rw [← hw25] at pe
  replace hW : Below w.heap.size w w25 := by rw [hw25]; exact below_rput hW lw_b
  replace H_b : Hid (Rb w25 (w.heap.size + 1) s23 A23 n23 c23 t23 D23 m23 d23) := Lib.hid (by rw [hw25]; exact OI.own)
  clear hw25 OI
  clear hn hd hm he
  obtain ⟨a1, a2, a3, a4, a5, a6, a7, a8, a9⟩ := O_a.out
  obtain ⟨b1, b2, b3, b4, b5, b6, b7, b8, b9⟩ := O_b.out
  obtain ⟨r1, r2, r3, r4, r5, r6, r7, r8, r9⟩ := O_r.out
  go_wp2_with fail
  rw [HW24.out]
  rw [HW25.out]
  clear a1 a2 a3 a4 a5 a6 a7 a8 a9 b1 b2 b3 b4 b5 b6 b7 b8 b9 r1 r2 r3 r4 r5 r6 r7 r8 r9 O_a O_b O_r
  refine region7 [] 12 [IsK (.pointer (some ⟨w.heap.size, 0, none⟩)), IsK (.agg #[.bool s22, .slice A22 n22 c22]), IsK (.pointer (some ⟨(w.heap.size + 1), 2, none⟩)), IsK (.agg #[.bool t23, .slice D23 m23 d23]), IsC (N1 * E1) (2 * k), IsK (.pointer (some ⟨(w.heap.size + 1), 0, none⟩)), IsK (.agg #[.bool s23, .slice A23 n23 c23]), IsK (.pointer (some ⟨w.heap.size, 2, none⟩)), IsK (.agg #[.bool t22, .slice D22 m22 d22]), IsC (M1 * D1) (2 * k), IsC (N1 * E1 + M1 * D1) (2 * k + 1), IsK undef] (fun _ _ d _ _ h => by cases d <;> exact h) (by kernel_rfl) (by kernel_rfl) (by kernel_rfl) ⟨stay_k _, stay_k _, stay_k _, stay_k _, stay_c _ _, stay_k _, stay_k _, stay_k _, stay_k _, stay_c _ _, stay_c _ _, stay_k _, trivial⟩ ?_ ?_
  · refine HopAll.cons rfl ?_ (HopAll.cons rfl ?_ (HopAll.cons rfl ?_ (HopAll.cons rfl ?_ (HopAll.cons rfl ?_ (HopAll.cons rfl ?_ (HopAll.cons rfl ?_ (HopAll.cons rfl ?_ (HopAll.cons rfl ?_ (HopAll.cons rfl ?_ (HopAll.cons rfl ?_ (HopAll.al rfl HopAll.nil)))))))))))
    · intro a w1 hB ho hp K hK
      have e2 : a.eval (.tmp 2) = (.pointer (some ⟨w.heap.size, 0, none⟩)) := ho 2 (by kernel_rfl)
      refine hop_val (wanted_none rfl) ?_ (hK (.pointer (some ⟨w.heap.size, 0, none⟩)) _ rfl (Below.refl _ _))
      unfold execOp; simp only [e2]; simp [go_sem]
    · intro a w1 hB ho hp K hK
      have e10 : a.eval (.tmp 10) = (.pointer (some ⟨w.heap.size, 0, none⟩)) := hp 0 10 (by kernel_rfl)
      obtain ⟨u1, u2, u3, u4, u5, u6, u7, u8, u9⟩ := H_a.out.below hB
      exact hop_load (wanted_none rfl) rfl e10 (run_ldz u1 u2) (hK _ _ rfl (Below.refl _ _))
    · intro a w1 hB ho hp K hK
      have e3 : a.eval (.tmp 3) = (.pointer (some ⟨(w.heap.size + 1), 0, none⟩)) := ho 3 (by kernel_rfl)
      refine hop_val (wanted_none rfl) ?_ (hK (.pointer (some ⟨(w.heap.size + 1), 2, none⟩)) _ rfl (Below.refl _ _))
      unfold execOp; simp only [e3]; simp [go_sem]
    · intro a w1 hB ho hp K hK
      have e12 : a.eval (.tmp 12) = (.pointer (some ⟨(w.heap.size + 1), 2, none⟩)) := hp 2 12 (by kernel_rfl)
      obtain ⟨u1, u2, u3, u4, u5, u6, u7, u8, u9⟩ := H_b.out.below hB
      exact hop_load (wanted_none rfl) rfl e12 (run_ldz u3 u4) (hK _ _ rfl (Below.refl _ _))
    · intro a w1 hB ho hp K hK
      have e11 : a.eval (.tmp 11) = (.agg #[.bool s22, .slice A22 n22 c22]) := hp 1 11 (by kernel_rfl)
      have e13 : a.eval (.tmp 13) = (.agg #[.bool t23, .slice D23 m23 d23]) := hp 3 13 (by kernel_rfl)
      refine hop_call (wanted_none rfl) rfl (args := #[(.agg #[.bool s22, .slice A22 n22 c22]), (.agg #[.bool t23, .slice D23 m23 d23])]) (by simp only [List.map_toArray, List.map_cons, List.map_nil, eval_const, e11, e13]) (ent7 (by kernel_rfl) _ _) (zmul_v (pn.below hB) (pe.below hB) (by omega) (by omega)) ?_
      rintro e w2 ⟨s, A, n, c, rfl, p, k, B⟩
      exact ⟨_, rfl, hK _ _ ⟨s, A, n, c, rfl, p, by omega⟩ B⟩
    · intro a w1 hB ho hp K hK
      have e3 : a.eval (.tmp 3) = (.pointer (some ⟨(w.heap.size + 1), 0, none⟩)) := ho 3 (by kernel_rfl)
      refine hop_val (wanted_none rfl) ?_ (hK (.pointer (some ⟨(w.heap.size + 1), 0, none⟩)) _ rfl (Below.refl _ _))
      unfold execOp; simp only [e3]; simp [go_sem]
    · intro a w1 hB ho hp K hK
      have e15 : a.eval (.tmp 15) = (.pointer (some ⟨(w.heap.size + 1), 0, none⟩)) := hp 5 15 (by kernel_rfl)
      obtain ⟨u1, u2, u3, u4, u5, u6, u7, u8, u9⟩ := H_b.out.below hB
      exact hop_load (wanted_none rfl) rfl e15 (run_ldz u1 u2) (hK _ _ rfl (Below.refl _ _))
    · intro a w1 hB ho hp K hK
      have e2 : a.eval (.tmp 2) = (.pointer (some ⟨w.heap.size, 0, none⟩)) := ho 2 (by kernel_rfl)
      refine hop_val (wanted_none rfl) ?_ (hK (.pointer (some ⟨w.heap.size, 2, none⟩)) _ rfl (Below.refl _ _))
      unfold execOp; simp only [e2]; simp [go_sem]
    · intro a w1 hB ho hp K hK
      have e17 : a.eval (.tmp 17) = (.pointer (some ⟨w.heap.size, 2, none⟩)) := hp 7 17 (by kernel_rfl)
      obtain ⟨u1, u2, u3, u4, u5, u6, u7, u8, u9⟩ := H_a.out.below hB
      exact hop_load (wanted_none rfl) rfl e17 (run_ldz u3 u4) (hK _ _ rfl (Below.refl _ _))
    · intro a w1 hB ho hp K hK
      have e16 : a.eval (.tmp 16) = (.agg #[.bool s23, .slice A23 n23 c23]) := hp 6 16 (by kernel_rfl)
      have e18 : a.eval (.tmp 18) = (.agg #[.bool t22, .slice D22 m22 d22]) := hp 8 18 (by kernel_rfl)
      refine hop_call (wanted_none rfl) rfl (args := #[(.agg #[.bool s23, .slice A23 n23 c23]), (.agg #[.bool t22, .slice D22 m22 d22])]) (by simp only [List.map_toArray, List.map_cons, List.map_nil, eval_const, e16, e18]) (ent7 (by kernel_rfl) _ _) (zmul_v (pm.below hB) (pd.below hB) (by omega) (by omega)) ?_
      rintro e w2 ⟨s, A, n, c, rfl, p, k, B⟩
      exact ⟨_, rfl, hK _ _ ⟨s, A, n, c, rfl, p, by omega⟩ B⟩
    · intro a w1 hB ho hp K hK
      obtain ⟨s14, A14, n14, c14, e14, p14, k14⟩ : IsC (N1 * E1) (2 * k) (a.eval (.tmp 14)) w1 := hp 4 14 (by kernel_rfl)
      obtain ⟨s19, A19, n19, c19, e19, p19, k19⟩ : IsC (M1 * D1) (2 * k) (a.eval (.tmp 19)) w1 := hp 9 19 (by kernel_rfl)
      refine hop_call (wanted_none rfl) rfl (args := #[(.agg #[.bool s14, .slice A14 n14 c14]), (.agg #[.bool s19, .slice A19 n19 c19])]) (by simp only [List.map_toArray, List.map_cons, List.map_nil, eval_const, e14, e19]) (ent7 (by kernel_rfl) _ _) (zadd_v p14.zv p19.zv (by omega) (by omega)) ?_
      rintro e w2 ⟨s, A, n, c, rfl, p, k, B⟩
      exact ⟨_, rfl, hK _ _ ⟨s, A, n, c, rfl, p, by omega⟩ B⟩
  intro w26 B26
  have lt26_a : w.heap.size < w25.heap.size := H_a.out.2.2.2.2.2.2.2.2
  have lt26_b : (w.heap.size + 1) < w25.heap.size := H_b.out.2.2.2.2.2.2.2.2
  have lt26_r : (w.heap.size + 1 + 1) < w25.heap.size := H_r.out.2.2.2.2.2.2.2.2
  have hWs26 := hW.size
  refine EndAll.one rfl fun vv hv => ?_
  obtain rfl : vv = (.pointer (some ⟨w.heap.size, 0, none⟩)) := hv
  refine EndAll.one rfl fun vv hv => ?_
  obtain rfl : vv = (.agg #[.bool s22, .slice A22 n22 c22]) := hv
  refine EndAll.one rfl fun vv hv => ?_
  obtain rfl : vv = (.pointer (some ⟨(w.heap.size + 1), 2, none⟩)) := hv
  refine EndAll.one rfl fun vv hv => ?_
  obtain rfl : vv = (.agg #[.bool t23, .slice D23 m23 d23]) := hv
  refine EndAll.one rfl fun vv hv => ?_
  obtain ⟨s27, A27, n27, c27, rfl, p27, k27⟩ : IsC (N1 * E1) (2 * k) vv w26 := hv
  refine EndAll.one rfl fun vv hv => ?_
  obtain rfl : vv = (.pointer (some ⟨(w.heap.size + 1), 0, none⟩)) := hv
  refine EndAll.one rfl fun vv hv => ?_
  obtain rfl : vv = (.agg #[.bool s23, .slice A23 n23 c23]) := hv
  refine EndAll.one rfl fun vv hv => ?_
  obtain rfl : vv = (.pointer (some ⟨w.heap.size, 2, none⟩)) := hv
  refine EndAll.one rfl fun vv hv => ?_
  obtain rfl : vv = (.agg #[.bool t22, .slice D22 m22 d22]) := hv
  refine EndAll.one rfl fun vv hv => ?_
  obtain ⟨s28, A28, n28, c28, rfl, p28, k28⟩ : IsC (M1 * D1) (2 * k) vv w26 := hv
  refine EndAll.one rfl fun vv hv => ?_
  obtain ⟨s29, A29, n29, c29, rfl, p29, k29⟩ : IsC (N1 * E1 + M1 * D1) (2 * k + 1) vv w26 := hv
  refine EndAll.al rfl fun g30 hg30 hl30 hc30 ha30 => ?_
  refine EndAll.nil (l := [_]) rfl ?_
  simp only [Act.put, List.setIfInBounds_toArray, List.set_cons_zero, List.set_cons_succ]
  replace H_a := Lib.hid (H_a.out.below B26)
  replace H_b := Lib.hid (H_b.out.below B26)
  replace H_r := Lib.hid (H_r.out.below B26)
  replace pn := pn.below B26
  replace pd := pd.below B26
  replace pm := pm.below B26
  replace pe := pe.below B26
  replace hW := hW.trans (B26.mono hW.size)
  have px := p29
  have nn_a_x : ¬ (w.heap.size = g30) := by have := lt26_a; omega
  have nm_a_x : ¬ (g30 = w.heap.size) := by omega
  have nn_b_x : ¬ ((w.heap.size + 1) = g30) := by have := lt26_b; omega
  have nm_b_x : ¬ (g30 = (w.heap.size + 1)) := by omega
  have nn_r_x : ¬ ((w.heap.size + 1 + 1) = g30) := by have := lt26_r; omega
  have nm_r_x : ¬ (g30 = (w.heap.size + 1 + 1)) := by omega
  have H_x : Hid (Ib w26 g30 false none 0 0) := Lib.hid (Ib.entry (T := 25) hc30)
  have lw_x : w.heap.size ≤ g30 := by omega
  clear hg30 hl30 hc30
  clear B26
  have O_a := H_a
  have O_b := H_b
  have O_r := H_r
  have O_x := H_x
  obtain ⟨w31, hw31⟩ : ∃ x, x = zput w26 g30 s29 A29 n29 c29 := ⟨_, rfl⟩
  have HW31 : Hid (((w26.setCell ⟨g30, 0, none⟩ (.bool s29)).setCell ⟨g30, 1, none⟩ (.slice A29 n29 c29)) = w31) := Lib.hid hw31.symm
  have OI := H_x.out
  replace H_a : Hid (Rb w31 w.heap.size s22 A22 n22 c22 t22 D22 m22 d22) := Lib.hid (by rw [hw31]; exact H_a.out.zput (by omega))
  replace H_b : Hid (Rb w31 (w.heap.size + 1) s23 A23 n23 c23 t23 D23 m23 d23) := Lib.hid (by rw [hw31]; exact H_b.out.zput (by omega))
  replace H_r : Hid (Rb w31 (w.heap.size + 1 + 1) false none 0 0 false none 0 0) := Lib.hid (by rw [hw31]; exact H_r.out.zput (by omega))
  replace pn := pn.zput (s' := s29) (A' := A29) (n' := n29) (c' := c29) OI
  replace pd := pd.zput (s' := s29) (A' := A29) (n' := n29) (c' := c29) OI
  replace pm := pm.zput (s' := s29) (A' := A29) (n' := n29) (c' := c29) OI
  replace pe := pe.zput (s' := s29) (A' := A29) (n' := n29) (c' := c29) OI
  replace px := px.zput (s' := s29) (A' := A29) (n' := n29) (c' := c29) OI
  rw [← hw31] at pn
  rw [← hw31] at pd
  rw [← hw31] at pm
  rw [← hw31] at pe
  rw [← hw31] at px
  replace hW : Below w.heap.size w w31 := by rw [hw31]; exact below_put hW lw_x
  replace H_x : Hid (Ib w31 g30 s29 A29 n29 c29) := Lib.hid (by rw [hw31]; exact OI.own)
  clear hw31 OI
  obtain ⟨a1, a2, a3, a4, a5, a6, a7, a8, a9⟩ := O_a.out
  obtain ⟨b1, b2, b3, b4, b5, b6, b7, b8, b9⟩ := O_b.out
  obtain ⟨r1, r2, r3, r4, r5, r6, r7, r8, r9⟩ := O_r.out
  obtain ⟨x1, x2, x3, x4, x5⟩ := O_x.out
  go_wp2_with fail
  rw [HW31.out]
  clear a1 a2 a3 a4 a5 a6 a7 a8 a9 b1 b2 b3 b4 b5 b6 b7 b8 b9 r1 r2 r3 r4 r5 r6 r7 r8 r9 x1 x2 x3 x4 x5 O_a O_b O_r O_x
  refine region7 [] 7 [IsK (.agg #[.bool s29, .slice A29 n29 c29]), IsK (.pointer (some ⟨w.heap.size, 2, none⟩)), IsK (.agg #[.bool t22, .slice D22 m22 d22]), IsK (.pointer (some ⟨(w.heap.size + 1), 2, none⟩)), IsK (.agg #[.bool t23, .slice D23 m23 d23]), IsC (D1 * E1) (2 * k), IsQ (Rat.divInt (N1 * E1 + M1 * D1) (D1 * E1)) (2 * k + 1)] (fun _ _ d _ _ h => by cases d <;> exact h) (by kernel_rfl) (by kernel_rfl) (by kernel_rfl) ⟨stay_k _, stay_k _, stay_k _, stay_k _, stay_k _, stay_c _ _, stay_q _ _, trivial⟩ ?_ ?_
  · refine HopAll.cons rfl ?_ (HopAll.cons rfl ?_ (HopAll.cons rfl ?_ (HopAll.cons rfl ?_ (HopAll.cons rfl ?_ (HopAll.cons rfl ?_ (HopAll.cons rfl ?_ HopAll.nil))))))
    · intro a w1 hB ho hp K hK
      have e5 : a.eval (.tmp 5) = (.pointer (some ⟨g30, 0, none⟩)) := ho 5 (by kernel_rfl)
      obtain ⟨u1, u2, u3, u4, u5⟩ := H_x.out.below hB
      exact hop_load (wanted_none rfl) rfl e5 (run_ldz u1 u2) (hK _ _ rfl (Below.refl _ _))
    · intro a w1 hB ho hp K hK
      have e2 : a.eval (.tmp 2) = (.pointer (some ⟨w.heap.size, 0, none⟩)) := ho 2 (by kernel_rfl)
      refine hop_val (wanted_none rfl) ?_ (hK (.pointer (some ⟨w.heap.size, 2, none⟩)) _ rfl (Below.refl _ _))
      unfold execOp; simp only [e2]; simp [go_sem]
    · intro a w1 hB ho hp K hK
      have e22 : a.eval (.tmp 22) = (.pointer (some ⟨w.heap.size, 2, none⟩)) := hp 1 22 (by kernel_rfl)
      obtain ⟨u1, u2, u3, u4, u5, u6, u7, u8, u9⟩ := H_a.out.below hB
      exact hop_load (wanted_none rfl) rfl e22 (run_ldz u3 u4) (hK _ _ rfl (Below.refl _ _))
    · intro a w1 hB ho hp K hK
      have e3 : a.eval (.tmp 3) = (.pointer (some ⟨(w.heap.size + 1), 0, none⟩)) := ho 3 (by kernel_rfl)
      refine hop_val (wanted_none rfl) ?_ (hK (.pointer (some ⟨(w.heap.size + 1), 2, none⟩)) _ rfl (Below.refl _ _))
      unfold execOp; simp only [e3]; simp [go_sem]
    · intro a w1 hB ho hp K hK
      have e24 : a.eval (.tmp 24) = (.pointer (some ⟨(w.heap.size + 1), 2, none⟩)) := hp 3 24 (by kernel_rfl)
      obtain ⟨u1, u2, u3, u4, u5, u6, u7, u8, u9⟩ := H_b.out.below hB
      exact hop_load (wanted_none rfl) rfl e24 (run_ldz u3 u4) (hK _ _ rfl (Below.refl _ _))
    · intro a w1 hB ho hp K hK
      have e23 : a.eval (.tmp 23) = (.agg #[.bool t22, .slice D22 m22 d22]) := hp 2 23 (by kernel_rfl)
      have e25 : a.eval (.tmp 25) = (.agg #[.bool t23, .slice D23 m23 d23]) := hp 4 25 (by kernel_rfl)
      refine hop_call (wanted_none rfl) rfl (args := #[(.agg #[.bool t22, .slice D22 m22 d22]), (.agg #[.bool t23, .slice D23 m23 d23])]) (by simp only [List.map_toArray, List.map_cons, List.map_nil, eval_const, e23, e25]) (ent7 (by kernel_rfl) _ _) (zmul_v (pd.below hB) (pe.below hB) (by omega) (by omega)) ?_
      rintro e w2 ⟨s, A, n, c, rfl, p, k, B⟩
      exact ⟨_, rfl, hK _ _ ⟨s, A, n, c, rfl, p, by omega⟩ B⟩
    · intro a w1 hB ho hp K hK
      have e21 : a.eval (.tmp 21) = (.agg #[.bool s29, .slice A29 n29 c29]) := hp 0 21 (by kernel_rfl)
      obtain ⟨s26, A26, n26, c26, e26, p26, k26⟩ : IsC (D1 * E1) (2 * k) (a.eval (.tmp 26)) w1 := hp 5 26 (by kernel_rfl)
      refine hop_call (wanted_none rfl) rfl (args := #[(.agg #[.bool s29, .slice A29 n29 c29]), (.agg #[.bool s26, .slice A26 n26 c26])]) (by simp only [List.map_toArray, List.map_cons, List.map_nil, eval_const, e21, e26]) (ent7 (by kernel_rfl) _ _) (normal_v (k := 2 * k + 1) (px.below hB).zv p26.zv (by omega) (by omega) (by omega) (by omega)) ?_
      rintro e w2 ⟨s, A, n, c, t, B, m, d, rfl, p, k, l, BB⟩
      exact ⟨_, rfl, hK _ _ ⟨s, A, n, c, t, B, m, d, rfl, p, by omega, by omega⟩ BB⟩
  intro w32 B32
  refine EndAll.one rfl fun vv hv => ?_
  obtain rfl : vv = (.agg #[.bool s29, .slice A29 n29 c29]) := hv
  refine EndAll.one rfl fun vv hv => ?_
  obtain rfl : vv = (.pointer (some ⟨w.heap.size, 2, none⟩)) := hv
  refine EndAll.one rfl fun vv hv => ?_
  obtain rfl : vv = (.agg #[.bool t22, .slice D22 m22 d22]) := hv
  refine EndAll.one rfl fun vv hv => ?_
  obtain rfl : vv = (.pointer (some ⟨(w.heap.size + 1), 2, none⟩)) := hv
  refine EndAll.one rfl fun vv hv => ?_
  obtain rfl : vv = (.agg #[.bool t23, .slice D23 m23 d23]) := hv
  refine EndAll.one rfl fun vv hv => ?_
  obtain ⟨s33, A33, n33, c33, rfl, p33, k33⟩ : IsC (D1 * E1) (2 * k) vv w32 := hv
  refine EndAll.one rfl fun vv hv => ?_
  obtain ⟨s34, A34, n34, c34, t34, D34, m34, d34, rfl, p34, k34, l34⟩ : IsQ (Rat.divInt (N1 * E1 + M1 * D1) (D1 * E1)) (2 * k + 1) vv w32 := hv
  refine EndAll.nil (l := [_]) rfl ?_
  simp only [Act.put, List.setIfInBounds_toArray, List.set_cons_zero, List.set_cons_succ]
  replace H_a := Lib.hid (H_a.out.below B32)
  replace H_b := Lib.hid (H_b.out.below B32)
  replace H_r := Lib.hid (H_r.out.below B32)
  replace H_x := Lib.hid (H_x.out.below B32)
  replace pn := pn.below B32
  replace pd := pd.below B32
  replace pm := pm.below B32
  replace pe := pe.below B32
  replace px := px.below B32
  replace hW := hW.trans (B32.mono hW.size)
  have pq := p34
  clear B32
  have O_a := H_a
  have O_b := H_b
  have O_r := H_r
  have O_x := H_x
  obtain ⟨w35, hw35⟩ : ∃ x, x = rput w32 (w.heap.size + 1 + 1) s34 A34 n34 c34 t34 D34 m34 d34 := ⟨_, rfl⟩
  have HW35 : Hid (((((w32.setCell ⟨(w.heap.size + 1 + 1), 0, none⟩ (.bool s34)).setCell ⟨(w.heap.size + 1 + 1), 1, none⟩ (.slice A34 n34 c34)).setCell ⟨(w.heap.size + 1 + 1), 2, none⟩ (.bool t34)).setCell ⟨(w.heap.size + 1 + 1), 3, none⟩ (.slice D34 m34 d34)) = w35) := Lib.hid hw35.symm
  have OI := H_r.out
  replace H_a : Hid (Rb w35 w.heap.size s22 A22 n22 c22 t22 D22 m22 d22) := Lib.hid (by rw [hw35]; exact H_a.out.rput (by omega))
  replace H_b : Hid (Rb w35 (w.heap.size + 1) s23 A23 n23 c23 t23 D23 m23 d23) := Lib.hid (by rw [hw35]; exact H_b.out.rput (by omega))
  replace H_x : Hid (Ib w35 g30 s29 A29 n29 c29) := Lib.hid (by rw [hw35]; exact H_x.out.rput (by omega))
  replace pn := pn.rput (s' := s34) (A' := A34) (n' := n34) (c' := c34) (t' := t34) (B' := D34) (m' := m34) (d' := d34) OI
  replace pd := pd.rput (s' := s34) (A' := A34) (n' := n34) (c' := c34) (t' := t34) (B' := D34) (m' := m34) (d' := d34) OI
  replace pm := pm.rput (s' := s34) (A' := A34) (n' := n34) (c' := c34) (t' := t34) (B' := D34) (m' := m34) (d' := d34) OI
  replace pe := pe.rput (s' := s34) (A' := A34) (n' := n34) (c' := c34) (t' := t34) (B' := D34) (m' := m34) (d' := d34) OI
  replace px := px.rput (s' := s34) (A' := A34) (n' := n34) (c' := c34) (t' := t34) (B' := D34) (m' := m34) (d' := d34) OI
  replace pq := pq.rput (s' := s34) (A' := A34) (n' := n34) (c' := c34) (t' := t34) (B' := D34) (m' := m34) (d' := d34) OI
  rw [← hw35] at pn
  rw [← hw35] at pd
  rw [← hw35] at pm
  rw [← hw35] at pe
  rw [← hw35] at px
  rw [← hw35] at pq
  replace hW : Below w.heap.size w w35 := by rw [hw35]; exact below_rput hW lw_r
  replace H_r : Hid (Rb w35 (w.heap.size + 1 + 1) s34 A34 n34 c34 t34 D34 m34 d34) := Lib.hid (by rw [hw35]; exact OI.own)
  clear hw35 OI
  obtain ⟨a1, a2, a3, a4, a5, a6, a7, a8, a9⟩ := O_a.out
  obtain ⟨b1, b2, b3, b4, b5, b6, b7, b8, b9⟩ := O_b.out
  obtain ⟨r1, r2, r3, r4, r5, r6, r7, r8, r9⟩ := O_r.out
  obtain ⟨x1, x2, x3, x4, x5⟩ := O_x.out
  go_wp2_with fail
  rw [HW35.out]
  clear a1 a2 a3 a4 a5 a6 a7 a8 a9 b1 b2 b3 b4 b5 b6 b7 b8 b9 r1 r2 r3 r4 r5 r6 r7 r8 r9 x1 x2 x3 x4 x5 O_a O_b O_r O_x
  obtain ⟨r1, r2, r3, r4, r5, r6, r7, r8, r9⟩ := H_r.out
  exact bodyPost_ret (v := (.agg #[.bool s34, .slice A34 n34 c34, .bool t34, .slice D34 m34 d34])) (by simp [results, Try.results21, go_sem, r1, r2, r3, r4]) rfl ⟨_, _, _, _, _, _, _, _, rfl, pq, by omega, by omega, hW⟩
end Go.Proofs.Ytfpncmhaoadfdaa
