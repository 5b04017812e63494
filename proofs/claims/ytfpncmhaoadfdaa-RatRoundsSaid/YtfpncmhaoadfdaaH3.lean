/-
  The walk of RatRounds.
-/
import Derived.Test.YtfpncmhaoadfdaaRatW
/-! The walk of RatRounds. -/
namespace Go.Proofs.Ytfpncmhaoadfdaa
open Go.RowKit
set_option linter.unusedVariables false
set_option linter.unusedSimpArgs false

theorem rr_floor (p : Rat) : rsg (((p.floor : Int) : Rat) - p) ≤ 0 := by
  rw [rsg_le]
  have := Rat.floor_le p
  grind
theorem rr_next (p : Rat) : rsg (p - (((p.floor : Int) : Rat) + 1)) < 0 := by
  rw [rsg_lt]
  have := Rat.lt_floor_add_one p
  rw [Rat.intCast_add, Rat.intCast_one] at this
  grind
theorem rr_near1 (p : Rat) : rsg ((((rnear p : Int) : Rat) - p) * 2 - 1) ≤ 0 := by
  rw [rsg_le]
  have := (near_ok p).1
  grind
theorem rr_near2 (p : Rat) : 0 < rsg ((((rnear p : Int) : Rat) - p) * 2 - -1) := by
  rw [rsg_pos]
  have := (near_ok p).2
  grind
theorem rat_one : ((1 : Int) : Rat) = 1 := rfl
theorem rat_two : ((2 : Int) : Rat) = 2 := rfl
set_option maxRecDepth 100000 in
set_option maxHeartbeats 16000000 in
theorem ratrounds_few {A B : Option Addr} {n c m d : Nat} {s t : Bool} {p : Rat} {w : World} (ha : Qv w s A n c t B m d p) (n9 : n ≤ 9223372036854775807) (m9 : m ≤ 9223372036854775807) (h1 : ¬ (n ≤ 5 ∧ m ≤ 5)) :
    Calls Try.prog 5 #[.agg #[.bool s, .slice A n c, .bool t, .slice B m d]] w (TruePost w) := by
  have hW := Below.refl w.heap.size w
  obtain ⟨wp0, hwp0⟩ : ∃ x, x = w.alloc (.cells #[.bool s, .slice A n c, .bool t, .slice B m d] 28) := ⟨_, rfl⟩
  have zp0 : Below w.heap.size w wp0 := by rw [hwp0]; exact zba _ _
  have sp0 : wp0.heap.size = w.heap.size + 1 := by rw [hwp0, World.size_alloc]
  have Ia : Rb wp0 w.heap.size s A n c t B m d := by rw [hwp0]; exact Rb.new _ _ _ _ _ _ _ _ _ _
  replace ha := ha.below zp0
  replace hW := hW.trans (zp0.mono hW.size)
  have H_a := Lib.hid Ia
  clear Ia zp0
  have HW : Hid ((w.alloc (.cells #[.bool s, .slice A n c, .bool t, .slice B m d] 28)) = wp0) := Lib.hid (by rw [hwp0])
  have lw_a : w.heap.size ≤ w.heap.size := by omega
  clear hwp0 sp0
  have HF1 : Hid (decide (n ≤ 5 ∧ m ≤ 5) = false) := Lib.hid (decide_eq_false h1)
  clear h1
  go_enter Try.func5, Try.ntmps5
  obtain ⟨a1, a2, a3, a4, a5, a6, a7, a8, a9⟩ := H_a.out
  go_wp2_with fail
  rw [HW.out]
  clear a1 a2 a3 a4 a5 a6 a7 a8 a9
  refine (qawake_v _).mono ?_
  rintro e w21 ⟨rfl, B21⟩
  replace H_a := Lib.hid (H_a.out.below B21)
  replace ha := ha.below B21
  replace hW := hW.trans (B21.mono hW.size)
  clear B21
  obtain ⟨a1, a2, a3, a4, a5, a6, a7, a8, a9⟩ := H_a.out
  go_wp2_with fail
  clear a1 a2 a3 a4 a5 a6 a7 a8 a9
  refine (few7_v (k := 5) (b := false) (by omega) (by omega) (by omega) HF1.out).mono ?_
  rintro e w22 ⟨rfl, B22⟩
  replace H_a := Lib.hid (H_a.out.below B22)
  replace ha := ha.below B22
  replace hW := hW.trans (B22.mono hW.size)
  clear B22
  obtain ⟨a1, a2, a3, a4, a5, a6, a7, a8, a9⟩ := H_a.out
  go_wp2_with fail
  clear a1 a2 a3 a4 a5 a6 a7 a8 a9
  refine (qawake_v _).mono ?_
  rintro e w23 ⟨rfl, B23⟩
  replace H_a := Lib.hid (H_a.out.below B23)
  replace ha := ha.below B23
  replace hW := hW.trans (B23.mono hW.size)
  clear B23
  go_wp2_with fail
  go_ret
  exact ⟨rfl, hW⟩
set_option maxRecDepth 100000 in
set_option maxHeartbeats 16000000 in
theorem rounds_yes {A B : Option Addr} {n c m d : Nat} {s t : Bool} {p : Rat} {w : World} (ha : Qv w s A n c t B m d p) (h1 : n ≤ 5) (h2 : m ≤ 5) :
    Calls Try.prog 5 #[.agg #[.bool s, .slice A n c, .bool t, .slice B m d]] w (TruePost w) := by
  have hW := Below.refl w.heap.size w
  obtain ⟨wp0, hwp0⟩ : ∃ x, x = w.alloc (.cells #[.bool s, .slice A n c, .bool t, .slice B m d] 28) := ⟨_, rfl⟩
  have zp0 : Below w.heap.size w wp0 := by rw [hwp0]; exact zba _ _
  have sp0 : wp0.heap.size = w.heap.size + 1 := by rw [hwp0, World.size_alloc]
  have Ia : Rb wp0 w.heap.size s A n c t B m d := by rw [hwp0]; exact Rb.new _ _ _ _ _ _ _ _ _ _
  replace ha := ha.below zp0
  replace hW := hW.trans (zp0.mono hW.size)
  have H_a := Lib.hid Ia
  clear Ia zp0
  have HW : Hid ((w.alloc (.cells #[.bool s, .slice A n c, .bool t, .slice B m d] 28)) = wp0) := Lib.hid (by rw [hwp0])
  have lw_a : w.heap.size ≤ w.heap.size := by omega
  clear hwp0 sp0
  have HF1 : Hid (decide (n ≤ 5 ∧ m ≤ 5) = true) := Lib.hid (decide_eq_true ⟨h1, h2⟩)
  obtain ⟨r0, e0⟩ : ∃ r, rsg (((p.floor : Int) : Rat) - p) = r := ⟨_, rfl⟩
  obtain ⟨r1, e1⟩ : ∃ r, rsg (p - (((p.floor : Int) : Rat) + 1)) = r := ⟨_, rfl⟩
  obtain ⟨r2, e2⟩ : ∃ r, rsg ((((rnear p : Int) : Rat) - p) * 2 - 1) = r := ⟨_, rfl⟩
  obtain ⟨r3, e3⟩ : ∃ r, rsg ((((rnear p : Int) : Rat) - p) * 2 - -1) = r := ⟨_, rfl⟩
  have h30 : r0 ≤ 0 := by rw [← e0]; exact rr_floor p
  have h31 : r1 < 0 := by rw [← e1]; exact rr_next p
  have h32 : r2 ≤ 0 := by rw [← e2]; exact rr_near1 p
  have h33 : 0 < r3 := by rw [← e3]; exact rr_near2 p
  have H0 := Lib.hid e0
  have H1 := Lib.hid e1
  have H2 := Lib.hid e2
  have H3 := Lib.hid e3
  clear e0 e1 e2 e3
  go_enter Try.func5, Try.ntmps5
  obtain ⟨a1, a2, a3, a4, a5, a6, a7, a8, a9⟩ := H_a.out
  go_wp2_with fail
  rw [HW.out]
  clear a1 a2 a3 a4 a5 a6 a7 a8 a9
  refine (qawake_v _).mono ?_
  rintro e w21 ⟨rfl, B21⟩
  replace H_a := Lib.hid (H_a.out.below B21)
  replace ha := ha.below B21
  replace hW := hW.trans (B21.mono hW.size)
  clear B21
  obtain ⟨a1, a2, a3, a4, a5, a6, a7, a8, a9⟩ := H_a.out
  go_wp2_with fail
  clear a1 a2 a3 a4 a5 a6 a7 a8 a9
  refine (few7_v (k := 5) (b := true) (by omega) (by omega) (by omega) HF1.out).mono ?_
  rintro e w22 ⟨rfl, B22⟩
  replace H_a := Lib.hid (H_a.out.below B22)
  replace ha := ha.below B22
  replace hW := hW.trans (B22.mono hW.size)
  clear B22
  obtain ⟨a1, a2, a3, a4, a5, a6, a7, a8, a9⟩ := H_a.out
  go_wp2_with fail
  clear a1 a2 a3 a4 a5 a6 a7 a8 a9
  refine region7 [] 8 [IsK (.agg #[.bool s, .slice A n c, .bool t, .slice B m d]), IsC p.floor 7, IsQ ((p.floor : Int) : Rat) 7, IsK (.agg #[.bool s, .slice A n c, .bool t, .slice B m d]), IsC (rnear p) 9, IsQ ((rnear p : Int) : Rat) 9, IsK undef, IsK undef] (fun _ _ d _ _ h => by cases d <;> exact h) (by kernel_rfl) (by kernel_rfl) (by kernel_rfl) ⟨stay_k _, stay_c _ _, stay_q _ _, stay_k _, stay_c _ _, stay_q _ _, stay_k _, stay_k _, trivial⟩ ?_ ?_
  · refine HopAll.cons rfl ?_ (HopAll.cons rfl ?_ (HopAll.cons rfl ?_ (HopAll.cons rfl ?_ (HopAll.cons rfl ?_ (HopAll.cons rfl ?_ (HopAll.al rfl (HopAll.al rfl HopAll.nil)))))))
    · intro a w1 hB ho hp K hK
      have e1 : a.eval (.tmp 1) = (.pointer (some ⟨w.heap.size, 0, none⟩)) := ho 1 (by kernel_rfl)
      obtain ⟨u1, u2, u3, u4, u5, u6, u7, u8, u9⟩ := H_a.out.below hB
      exact hop_load (wanted_none rfl) rfl e1 (run_ldq u1 u2 u3 u4) (hK _ _ rfl (Below.refl _ _))
    · intro a w1 hB ho hp K hK
      have e15 : a.eval (.tmp 15) = (.agg #[.bool s, .slice A n c, .bool t, .slice B m d]) := hp 0 15 (by kernel_rfl)
      refine hop_call (wanted_none rfl) rfl (args := #[(.agg #[.bool s, .slice A n c, .bool t, .slice B m d])]) (by simp only [List.map_toArray, List.map_cons, List.map_nil, eval_const, e15]) (ent7 (by kernel_rfl) _ _) (floor_q (ha.below hB) 5 (by omega) (by omega) (by omega) (by omega)) ?_
      rintro e w2 ⟨s, A, n, c, rfl, p, k, B⟩
      exact ⟨_, rfl, hK _ _ ⟨s, A, n, c, rfl, p, by omega⟩ B⟩
    · intro a w1 hB ho hp K hK
      obtain ⟨s16, A16, n16, c16, e16, p16, k16⟩ : IsC p.floor 7 (a.eval (.tmp 16)) w1 := hp 1 16 (by kernel_rfl)
      refine hop_call (wanted_none rfl) rfl (args := #[(.agg #[.bool s16, .slice A16 n16 c16])]) (by simp only [List.map_toArray, List.map_cons, List.map_nil, eval_const, e16]) (ent7 (by kernel_rfl) _ _) (qof_v (k := 7) p16.zv (by omega) (by omega) (by omega)) ?_
      rintro e w2 ⟨s, A, n, c, t, B, m, d, rfl, p, k, l, BB⟩
      exact ⟨_, rfl, hK _ _ ⟨s, A, n, c, t, B, m, d, rfl, p, by omega, by omega⟩ BB⟩
    · intro a w1 hB ho hp K hK
      have e1 : a.eval (.tmp 1) = (.pointer (some ⟨w.heap.size, 0, none⟩)) := ho 1 (by kernel_rfl)
      obtain ⟨u1, u2, u3, u4, u5, u6, u7, u8, u9⟩ := H_a.out.below hB
      exact hop_load (wanted_none rfl) rfl e1 (run_ldq u1 u2 u3 u4) (hK _ _ rfl (Below.refl _ _))
    · intro a w1 hB ho hp K hK
      have e18 : a.eval (.tmp 18) = (.agg #[.bool s, .slice A n c, .bool t, .slice B m d]) := hp 3 18 (by kernel_rfl)
      refine hop_call (wanted_none rfl) rfl (args := #[(.agg #[.bool s, .slice A n c, .bool t, .slice B m d])]) (by simp only [List.map_toArray, List.map_cons, List.map_nil, eval_const, e18]) (ent7 (by kernel_rfl) _ _) (round_q (ha.below hB) 5 (by omega) (by omega) (by omega) (by omega)) ?_
      rintro e w2 ⟨s, A, n, c, rfl, p, k, B⟩
      exact ⟨_, rfl, hK _ _ ⟨s, A, n, c, rfl, p, by omega⟩ B⟩
    · intro a w1 hB ho hp K hK
      obtain ⟨s19, A19, n19, c19, e19, p19, k19⟩ : IsC (rnear p) 9 (a.eval (.tmp 19)) w1 := hp 4 19 (by kernel_rfl)
      refine hop_call (wanted_none rfl) rfl (args := #[(.agg #[.bool s19, .slice A19 n19 c19])]) (by simp only [List.map_toArray, List.map_cons, List.map_nil, eval_const, e19]) (ent7 (by kernel_rfl) _ _) (qof_v (k := 9) p19.zv (by omega) (by omega) (by omega)) ?_
      rintro e w2 ⟨s, A, n, c, t, B, m, d, rfl, p, k, l, BB⟩
      exact ⟨_, rfl, hK _ _ ⟨s, A, n, c, t, B, m, d, rfl, p, by omega, by omega⟩ BB⟩
  intro w23 B23
  have lt23_a : w.heap.size < w22.heap.size := H_a.out.2.2.2.2.2.2.2.2
  have hWs23 := hW.size
  refine EndAll.one rfl fun vv hv => ?_
  obtain rfl : vv = (.agg #[.bool s, .slice A n c, .bool t, .slice B m d]) := hv
  refine EndAll.one rfl fun vv hv => ?_
  obtain ⟨s24, A24, n24, c24, rfl, p24, k24⟩ : IsC p.floor 7 vv w23 := hv
  refine EndAll.one rfl fun vv hv => ?_
  obtain ⟨s25, A25, n25, c25, t25, D25, m25, d25, rfl, p25, k25, l25⟩ : IsQ ((p.floor : Int) : Rat) 7 vv w23 := hv
  refine EndAll.one rfl fun vv hv => ?_
  obtain rfl : vv = (.agg #[.bool s, .slice A n c, .bool t, .slice B m d]) := hv
  refine EndAll.one rfl fun vv hv => ?_
  obtain ⟨s26, A26, n26, c26, rfl, p26, k26⟩ : IsC (rnear p) 9 vv w23 := hv
  refine EndAll.one rfl fun vv hv => ?_
  obtain ⟨s27, A27, n27, c27, t27, D27, m27, d27, rfl, p27, k27, l27⟩ : IsQ ((rnear p : Int) : Rat) 9 vv w23 := hv
  refine EndAll.al rfl fun g28 hg28 hl28 hc28 ha28 => ?_
  refine EndAll.al rfl fun g29 hg29 hl29 hc29 ha29 => ?_
  refine EndAll.nil (l := [_, _]) rfl ?_
  simp only [Act.put, List.setIfInBounds_toArray, List.set_cons_zero, List.set_cons_succ]
  replace H_a := Lib.hid (H_a.out.below B23)
  replace ha := ha.below B23
  replace hW := hW.trans (B23.mono hW.size)
  have pf := p25
  have pr := p27
  have nn_a_fa : ¬ (w.heap.size = g28) := by have := lt23_a; omega
  have nm_a_fa : ¬ (g28 = w.heap.size) := by omega
  have H_fa : Hid (Rb w23 g28 false none 0 0 false none 0 0) := Lib.hid (Rb.entry (T := 28) hc28)
  have lw_fa : w.heap.size ≤ g28 := by omega
  have nn_a_ra : ¬ (w.heap.size = g29) := by have := lt23_a; omega
  have nm_a_ra : ¬ (g29 = w.heap.size) := by omega
  obtain ⟨nn_fa_ra, _⟩ := ha29
  have nm_fa_ra := Ne.symm nn_fa_ra
  have H_ra : Hid (Rb w23 g29 false none 0 0 false none 0 0) := Lib.hid (Rb.entry (T := 28) hc29)
  have lw_ra : w.heap.size ≤ g29 := by omega
  clear hg28 hl28 hc28
  clear hg29 hl29 hc29
  clear B23
  have O_a := H_a
  have O_fa := H_fa
  have O_ra := H_ra
  obtain ⟨w30, hw30⟩ : ∃ x, x = rput w23 g28 s25 A25 n25 c25 t25 D25 m25 d25 := ⟨_, rfl⟩
  have HW30 : Hid (((((w23.setCell ⟨g28, 0, none⟩ (.bool s25)).setCell ⟨g28, 1, none⟩ (.slice A25 n25 c25)).setCell ⟨g28, 2, none⟩ (.bool t25)).setCell ⟨g28, 3, none⟩ (.slice D25 m25 d25)) = w30) := Lib.hid hw30.symm
  have OI := H_fa.out
  replace H_a : Hid (Rb w30 w.heap.size s A n c t B m d) := Lib.hid (by rw [hw30]; exact H_a.out.rput (by omega))
  replace H_ra : Hid (Rb w30 g29 false none 0 0 false none 0 0) := Lib.hid (by rw [hw30]; exact H_ra.out.rput (by omega))
  replace ha := ha.rput (s' := s25) (A' := A25) (n' := n25) (c' := c25) (t' := t25) (B' := D25) (m' := m25) (d' := d25) OI
  replace pf := pf.rput (s' := s25) (A' := A25) (n' := n25) (c' := c25) (t' := t25) (B' := D25) (m' := m25) (d' := d25) OI
  replace pr := pr.rput (s' := s25) (A' := A25) (n' := n25) (c' := c25) (t' := t25) (B' := D25) (m' := m25) (d' := d25) OI
  rw [← hw30] at ha
  rw [← hw30] at pf
  rw [← hw30] at pr
  replace hW : Below w.heap.size w w30 := by rw [hw30]; exact below_rput hW lw_fa
  replace H_fa : Hid (Rb w30 g28 s25 A25 n25 c25 t25 D25 m25 d25) := Lib.hid (by rw [hw30]; exact OI.own)
  clear hw30 OI
  obtain ⟨w31, hw31⟩ : ∃ x, x = rput w30 g29 s27 A27 n27 c27 t27 D27 m27 d27 := ⟨_, rfl⟩
  have HW31 : Hid (((((w30.setCell ⟨g29, 0, none⟩ (.bool s27)).setCell ⟨g29, 1, none⟩ (.slice A27 n27 c27)).setCell ⟨g29, 2, none⟩ (.bool t27)).setCell ⟨g29, 3, none⟩ (.slice D27 m27 d27)) = w31) := Lib.hid hw31.symm
  have OI := H_ra.out
  replace H_a : Hid (Rb w31 w.heap.size s A n c t B m d) := Lib.hid (by rw [hw31]; exact H_a.out.rput (by omega))
  replace H_fa : Hid (Rb w31 g28 s25 A25 n25 c25 t25 D25 m25 d25) := Lib.hid (by rw [hw31]; exact H_fa.out.rput (by omega))
  replace ha := ha.rput (s' := s27) (A' := A27) (n' := n27) (c' := c27) (t' := t27) (B' := D27) (m' := m27) (d' := d27) OI
  replace pf := pf.rput (s' := s27) (A' := A27) (n' := n27) (c' := c27) (t' := t27) (B' := D27) (m' := m27) (d' := d27) OI
  replace pr := pr.rput (s' := s27) (A' := A27) (n' := n27) (c' := c27) (t' := t27) (B' := D27) (m' := m27) (d' := d27) OI
  rw [← hw31] at ha
  rw [← hw31] at pf
  rw [← hw31] at pr
  replace hW : Below w.heap.size w w31 := by rw [hw31]; exact below_rput hW lw_ra
  replace H_ra : Hid (Rb w31 g29 s27 A27 n27 c27 t27 D27 m27 d27) := Lib.hid (by rw [hw31]; exact OI.own)
  clear hw31 OI
  obtain ⟨a1, a2, a3, a4, a5, a6, a7, a8, a9⟩ := O_a.out
  obtain ⟨fa1, fa2, fa3, fa4, fa5, fa6, fa7, fa8, fa9⟩ := O_fa.out
  obtain ⟨ra1, ra2, ra3, ra4, ra5, ra6, ra7, ra8, ra9⟩ := O_ra.out
  go_wp2_with fail
  rw [HW30.out]
  rw [HW31.out]
  clear a1 a2 a3 a4 a5 a6 a7 a8 a9 fa1 fa2 fa3 fa4 fa5 fa6 fa7 fa8 fa9 ra1 ra2 ra3 ra4 ra5 ra6 ra7 ra8 ra9 O_a O_fa O_ra
  refine (zof_v 1 (by omega) (by omega) _).mono ?_
  rintro e w32 ⟨s32, A32, n32, c32, rfl, z1, k32, B32⟩
  replace H_a := Lib.hid (H_a.out.below B32)
  replace H_fa := Lib.hid (H_fa.out.below B32)
  replace H_ra := Lib.hid (H_ra.out.below B32)
  replace ha := ha.below B32
  replace pf := pf.below B32
  replace pr := pr.below B32
  replace hW := hW.trans (B32.mono hW.size)
  clear B32
  obtain ⟨a1, a2, a3, a4, a5, a6, a7, a8, a9⟩ := H_a.out
  obtain ⟨fa1, fa2, fa3, fa4, fa5, fa6, fa7, fa8, fa9⟩ := H_fa.out
  obtain ⟨ra1, ra2, ra3, ra4, ra5, ra6, ra7, ra8, ra9⟩ := H_ra.out
  go_wp2_with fail
  clear a1 a2 a3 a4 a5 a6 a7 a8 a9 fa1 fa2 fa3 fa4 fa5 fa6 fa7 fa8 fa9 ra1 ra2 ra3 ra4 ra5 ra6 ra7 ra8 ra9
  refine (qof_v (k := 1) z1.zv (by omega) (by omega) (by omega)).mono ?_
  rintro e w33 ⟨s33, A33, n33, c33, t33, D33, m33, d33, rfl, po, k33, l33, B33⟩
  replace H_a := Lib.hid (H_a.out.below B33)
  replace H_fa := Lib.hid (H_fa.out.below B33)
  replace H_ra := Lib.hid (H_ra.out.below B33)
  replace ha := ha.below B33
  replace pf := pf.below B33
  replace pr := pr.below B33
  replace z1 := z1.below B33
  replace hW := hW.trans (B33.mono hW.size)
  clear B33
  rw [rat_one] at po
  have O_a := H_a
  have O_fa := H_fa
  have O_ra := H_ra
  obtain ⟨w34, hw34⟩ : ∃ x, x = w33.alloc (.cells #[.bool s33, .slice A33 n33 c33, .bool t33, .slice D33 m33 d33] 28) := ⟨_, rfl⟩
  have z34 : Below w33.heap.size w33 w34 := by rw [hw34]; exact zba _ _
  have HW34 : Hid (w33.alloc (.cells #[.bool s33, .slice A33 n33 c33, .bool t33, .slice D33 m33 d33] 28) = w34) := Lib.hid hw34.symm
  have nn_a_oa : ¬ (w.heap.size = w33.heap.size) := by have := H_a.out.2.2.2.2.2.2.2.2; omega
  have nm_a_oa : ¬ (w33.heap.size = w.heap.size) := by omega
  have nn_fa_oa : ¬ (g28 = w33.heap.size) := by have := H_fa.out.2.2.2.2.2.2.2.2; omega
  have nm_fa_oa : ¬ (w33.heap.size = g28) := by omega
  have nn_ra_oa : ¬ (g29 = w33.heap.size) := by have := H_ra.out.2.2.2.2.2.2.2.2; omega
  have nm_ra_oa : ¬ (w33.heap.size = g29) := by omega
  have lw_oa : w.heap.size ≤ w33.heap.size := by have := hW.size; omega
  replace H_a := Lib.hid (H_a.out.below z34)
  replace H_fa := Lib.hid (H_fa.out.below z34)
  replace H_ra := Lib.hid (H_ra.out.below z34)
  replace ha := ha.below z34
  replace pf := pf.below z34
  replace pr := pr.below z34
  replace z1 := z1.below z34
  replace po := po.below z34
  replace hW := hW.trans (z34.mono hW.size)
  have H_oa : Hid (Rb w34 w33.heap.size s33 A33 n33 c33 t33 D33 m33 d33) := Lib.hid (by rw [hw34]; exact Rb.new _ _ _ _ _ _ _ _ _ _)
  clear z34 hw34
  obtain ⟨a1, a2, a3, a4, a5, a6, a7, a8, a9⟩ := O_a.out
  obtain ⟨fa1, fa2, fa3, fa4, fa5, fa6, fa7, fa8, fa9⟩ := O_fa.out
  obtain ⟨ra1, ra2, ra3, ra4, ra5, ra6, ra7, ra8, ra9⟩ := O_ra.out
  go_wp2_with fail
  rw [HW34.out]
  clear a1 a2 a3 a4 a5 a6 a7 a8 a9 fa1 fa2 fa3 fa4 fa5 fa6 fa7 fa8 fa9 ra1 ra2 ra3 ra4 ra5 ra6 ra7 ra8 ra9 O_a O_fa O_ra
  refine (sub_q pr.qv ha 9 (by omega) (by omega) (by omega) (by omega) (by omega) (by omega)).mono ?_
  rintro e w35 ⟨s35, A35, n35, c35, t35, D35, m35, d35, rfl, ps, k35, l35, B35⟩
  replace H_a := Lib.hid (H_a.out.below B35)
  replace H_fa := Lib.hid (H_fa.out.below B35)
  replace H_ra := Lib.hid (H_ra.out.below B35)
  replace H_oa := Lib.hid (H_oa.out.below B35)
  replace ha := ha.below B35
  replace pf := pf.below B35
  replace pr := pr.below B35
  replace z1 := z1.below B35
  replace po := po.below B35
  replace hW := hW.trans (B35.mono hW.size)
  clear B35
  obtain ⟨a1, a2, a3, a4, a5, a6, a7, a8, a9⟩ := H_a.out
  obtain ⟨fa1, fa2, fa3, fa4, fa5, fa6, fa7, fa8, fa9⟩ := H_fa.out
  obtain ⟨ra1, ra2, ra3, ra4, ra5, ra6, ra7, ra8, ra9⟩ := H_ra.out
  obtain ⟨oa1, oa2, oa3, oa4, oa5, oa6, oa7, oa8, oa9⟩ := H_oa.out
  go_wp2_with fail
  clear a1 a2 a3 a4 a5 a6 a7 a8 a9 fa1 fa2 fa3 fa4 fa5 fa6 fa7 fa8 fa9 ra1 ra2 ra3 ra4 ra5 ra6 ra7 ra8 ra9 oa1 oa2 oa3 oa4 oa5 oa6 oa7 oa8 oa9
  refine (zof_v 2 (by omega) (by omega) _).mono ?_
  rintro e w36 ⟨s36, A36, n36, c36, rfl, z2, k36, B36⟩
  replace H_a := Lib.hid (H_a.out.below B36)
  replace H_fa := Lib.hid (H_fa.out.below B36)
  replace H_ra := Lib.hid (H_ra.out.below B36)
  replace H_oa := Lib.hid (H_oa.out.below B36)
  replace ha := ha.below B36
  replace pf := pf.below B36
  replace pr := pr.below B36
  replace z1 := z1.below B36
  replace po := po.below B36
  replace ps := ps.below B36
  replace hW := hW.trans (B36.mono hW.size)
  clear B36
  obtain ⟨a1, a2, a3, a4, a5, a6, a7, a8, a9⟩ := H_a.out
  obtain ⟨fa1, fa2, fa3, fa4, fa5, fa6, fa7, fa8, fa9⟩ := H_fa.out
  obtain ⟨ra1, ra2, ra3, ra4, ra5, ra6, ra7, ra8, ra9⟩ := H_ra.out
  obtain ⟨oa1, oa2, oa3, oa4, oa5, oa6, oa7, oa8, oa9⟩ := H_oa.out
  go_wp2_with fail
  clear a1 a2 a3 a4 a5 a6 a7 a8 a9 fa1 fa2 fa3 fa4 fa5 fa6 fa7 fa8 fa9 ra1 ra2 ra3 ra4 ra5 ra6 ra7 ra8 ra9 oa1 oa2 oa3 oa4 oa5 oa6 oa7 oa8 oa9
  refine (qof_v (k := 1) z2.zv (by omega) (by omega) (by omega)).mono ?_
  rintro e w37 ⟨s37, A37, n37, c37, t37, D37, m37, d37, rfl, p2, k37, l37, B37⟩
  replace H_a := Lib.hid (H_a.out.below B37)
  replace H_fa := Lib.hid (H_fa.out.below B37)
  replace H_ra := Lib.hid (H_ra.out.below B37)
  replace H_oa := Lib.hid (H_oa.out.below B37)
  replace ha := ha.below B37
  replace pf := pf.below B37
  replace pr := pr.below B37
  replace z1 := z1.below B37
  replace po := po.below B37
  replace ps := ps.below B37
  replace z2 := z2.below B37
  replace hW := hW.trans (B37.mono hW.size)
  clear B37
  rw [rat_two] at p2
  obtain ⟨a1, a2, a3, a4, a5, a6, a7, a8, a9⟩ := H_a.out
  obtain ⟨fa1, fa2, fa3, fa4, fa5, fa6, fa7, fa8, fa9⟩ := H_fa.out
  obtain ⟨ra1, ra2, ra3, ra4, ra5, ra6, ra7, ra8, ra9⟩ := H_ra.out
  obtain ⟨oa1, oa2, oa3, oa4, oa5, oa6, oa7, oa8, oa9⟩ := H_oa.out
  go_wp2_with fail
  clear a1 a2 a3 a4 a5 a6 a7 a8 a9 fa1 fa2 fa3 fa4 fa5 fa6 fa7 fa8 fa9 ra1 ra2 ra3 ra4 ra5 ra6 ra7 ra8 ra9 oa1 oa2 oa3 oa4 oa5 oa6 oa7 oa8 oa9
  refine (mul_q ps.qv p2.qv 19 (by omega) (by omega) (by omega) (by omega) (by omega) (by omega)).mono ?_
  rintro e w38 ⟨s38, A38, n38, c38, t38, D38, m38, d38, rfl, pt, k38, l38, B38⟩
  replace H_a := Lib.hid (H_a.out.below B38)
  replace H_fa := Lib.hid (H_fa.out.below B38)
  replace H_ra := Lib.hid (H_ra.out.below B38)
  replace H_oa := Lib.hid (H_oa.out.below B38)
  replace ha := ha.below B38
  replace pf := pf.below B38
  replace pr := pr.below B38
  replace z1 := z1.below B38
  replace po := po.below B38
  replace ps := ps.below B38
  replace z2 := z2.below B38
  replace p2 := p2.below B38
  replace hW := hW.trans (B38.mono hW.size)
  clear B38
  have O_a := H_a
  have O_fa := H_fa
  have O_ra := H_ra
  have O_oa := H_oa
  obtain ⟨w39, hw39⟩ : ∃ x, x = w38.alloc (.cells #[.bool s38, .slice A38 n38 c38, .bool t38, .slice D38 m38 d38] 28) := ⟨_, rfl⟩
  have z39 : Below w38.heap.size w38 w39 := by rw [hw39]; exact zba _ _
  have HW39 : Hid (w38.alloc (.cells #[.bool s38, .slice A38 n38 c38, .bool t38, .slice D38 m38 d38] 28) = w39) := Lib.hid hw39.symm
  have nn_a_ta : ¬ (w.heap.size = w38.heap.size) := by have := H_a.out.2.2.2.2.2.2.2.2; omega
  have nm_a_ta : ¬ (w38.heap.size = w.heap.size) := by omega
  have nn_fa_ta : ¬ (g28 = w38.heap.size) := by have := H_fa.out.2.2.2.2.2.2.2.2; omega
  have nm_fa_ta : ¬ (w38.heap.size = g28) := by omega
  have nn_ra_ta : ¬ (g29 = w38.heap.size) := by have := H_ra.out.2.2.2.2.2.2.2.2; omega
  have nm_ra_ta : ¬ (w38.heap.size = g29) := by omega
  have nn_oa_ta : ¬ (w33.heap.size = w38.heap.size) := by have := H_oa.out.2.2.2.2.2.2.2.2; omega
  have nm_oa_ta : ¬ (w38.heap.size = w33.heap.size) := by omega
  have lw_ta : w.heap.size ≤ w38.heap.size := by have := hW.size; omega
  replace H_a := Lib.hid (H_a.out.below z39)
  replace H_fa := Lib.hid (H_fa.out.below z39)
  replace H_ra := Lib.hid (H_ra.out.below z39)
  replace H_oa := Lib.hid (H_oa.out.below z39)
  replace ha := ha.below z39
  replace pf := pf.below z39
  replace pr := pr.below z39
  replace z1 := z1.below z39
  replace po := po.below z39
  replace ps := ps.below z39
  replace z2 := z2.below z39
  replace p2 := p2.below z39
  replace pt := pt.below z39
  replace hW := hW.trans (z39.mono hW.size)
  have H_ta : Hid (Rb w39 w38.heap.size s38 A38 n38 c38 t38 D38 m38 d38) := Lib.hid (by rw [hw39]; exact Rb.new _ _ _ _ _ _ _ _ _ _)
  clear z39 hw39
  obtain ⟨a1, a2, a3, a4, a5, a6, a7, a8, a9⟩ := O_a.out
  obtain ⟨fa1, fa2, fa3, fa4, fa5, fa6, fa7, fa8, fa9⟩ := O_fa.out
  obtain ⟨ra1, ra2, ra3, ra4, ra5, ra6, ra7, ra8, ra9⟩ := O_ra.out
  obtain ⟨oa1, oa2, oa3, oa4, oa5, oa6, oa7, oa8, oa9⟩ := O_oa.out
  go_wp2_with fail
  rw [HW39.out]
  clear a1 a2 a3 a4 a5 a6 a7 a8 a9 fa1 fa2 fa3 fa4 fa5 fa6 fa7 fa8 fa9 ra1 ra2 ra3 ra4 ra5 ra6 ra7 ra8 ra9 oa1 oa2 oa3 oa4 oa5 oa6 oa7 oa8 oa9 O_a O_fa O_ra O_oa
  refine region7 [] 26 [IsK (.agg #[.bool s25, .slice A25 n25 c25, .bool t25, .slice D25 m25 d25]), IsK (.agg #[.bool s, .slice A n c, .bool t, .slice B m d]), IsK (.int .i64 r0), IsK (.bool true), IsK (.bool true), IsK (.agg #[.bool s, .slice A n c, .bool t, .slice B m d]), IsK (.agg #[.bool s25, .slice A25 n25 c25, .bool t25, .slice D25 m25 d25]), IsK (.agg #[.bool s33, .slice A33 n33 c33, .bool t33, .slice D33 m33 d33]), IsQ (((p.floor : Int) : Rat) + 1) 15, IsK (.int .i64 r1), IsK (.bool true), IsK (.bool true), IsK (.bool true), IsK (.agg #[.bool s38, .slice A38 n38 c38, .bool t38, .slice D38 m38 d38]), IsK (.agg #[.bool s33, .slice A33 n33 c33, .bool t33, .slice D33 m33 d33]), IsK (.int .i64 r2), IsK (.bool true), IsK (.bool true), IsK (.bool true), IsK (.agg #[.bool s38, .slice A38 n38 c38, .bool t38, .slice D38 m38 d38]), IsK (.agg #[.bool s33, .slice A33 n33 c33, .bool t33, .slice D33 m33 d33]), IsQ (-1) 1, IsK (.int .i64 r3), IsK (.bool true), IsK (.bool true), IsK (.bool true)] (fun _ _ d _ _ h => by cases d <;> exact h) (by kernel_rfl) (by kernel_rfl) (by kernel_rfl) ⟨stay_k _, stay_k _, stay_k _, stay_k _, stay_k _, stay_k _, stay_k _, stay_k _, stay_q _ _, stay_k _, stay_k _, stay_k _, stay_k _, stay_k _, stay_k _, stay_k _, stay_k _, stay_k _, stay_k _, stay_k _, stay_k _, stay_q _ _, stay_k _, stay_k _, stay_k _, stay_k _, trivial⟩ ?_ ?_
  · refine HopAll.cons rfl ?_ (HopAll.cons rfl ?_ (HopAll.cons rfl ?_ (HopAll.cons rfl ?_ (HopAll.cons rfl ?_ (HopAll.cons rfl ?_ (HopAll.cons rfl ?_ (HopAll.cons rfl ?_ (HopAll.cons rfl ?_ (HopAll.cons rfl ?_ (HopAll.cons rfl ?_ (HopAll.cons rfl ?_ (HopAll.cons rfl ?_ (HopAll.cons rfl ?_ (HopAll.cons rfl ?_ (HopAll.cons rfl ?_ (HopAll.cons rfl ?_ (HopAll.cons rfl ?_ (HopAll.cons rfl ?_ (HopAll.cons rfl ?_ (HopAll.cons rfl ?_ (HopAll.cons rfl ?_ (HopAll.cons rfl ?_ (HopAll.cons rfl ?_ (HopAll.cons rfl ?_ (HopAll.cons rfl ?_ HopAll.nil)))))))))))))))))))))))))
    · intro a w1 hB ho hp K hK
      have e3 : a.eval (.tmp 3) = (.pointer (some ⟨g28, 0, none⟩)) := ho 3 (by kernel_rfl)
      obtain ⟨u1, u2, u3, u4, u5, u6, u7, u8, u9⟩ := H_fa.out.below hB
      exact hop_load (wanted_none rfl) rfl e3 (run_ldq u1 u2 u3 u4) (hK _ _ rfl (Below.refl _ _))
    · intro a w1 hB ho hp K hK
      have e1 : a.eval (.tmp 1) = (.pointer (some ⟨w.heap.size, 0, none⟩)) := ho 1 (by kernel_rfl)
      obtain ⟨u1, u2, u3, u4, u5, u6, u7, u8, u9⟩ := H_a.out.below hB
      exact hop_load (wanted_none rfl) rfl e1 (run_ldq u1 u2 u3 u4) (hK _ _ rfl (Below.refl _ _))
    · intro a w1 hB ho hp K hK
      have e29 : a.eval (.tmp 29) = (.agg #[.bool s25, .slice A25 n25 c25, .bool t25, .slice D25 m25 d25]) := hp 0 29 (by kernel_rfl)
      have e30 : a.eval (.tmp 30) = (.agg #[.bool s, .slice A n c, .bool t, .slice B m d]) := hp 1 30 (by kernel_rfl)
      refine hop_call (wanted_none rfl) rfl (args := #[(.agg #[.bool s25, .slice A25 n25 c25, .bool t25, .slice D25 m25 d25]), (.agg #[.bool s, .slice A n c, .bool t, .slice B m d])]) (by simp only [List.map_toArray, List.map_cons, List.map_nil, eval_const, e29, e30]) (ent7 (by kernel_rfl) _ _) (cmp_q (pf.below hB).qv (ha.below hB) 7 (by omega) (by omega) (by omega) (by omega) (by omega) (by omega) H0.out) ?_
      rintro e w2 ⟨rfl, B⟩
      exact ⟨_, rfl, hK _ _ rfl B⟩
    · intro a w1 hB ho hp K hK
      have e31 : a.eval (.tmp 31) = (.int .i64 r0) := hp 2 31 (by kernel_rfl)
      refine hop_val (wanted_none rfl) ?_ (hK (.bool true) _ rfl (Below.refl _ _))
      unfold execOp; simp only [eval_const, e31]; simp [go_sem, h30]
    · intro a w1 hB ho hp K hK
      have e32 : a.eval (.tmp 32) = (.bool true) := hp 3 32 (by kernel_rfl)
      refine hop_val (wanted_none rfl) ?_ (hK (.bool true) _ rfl (Below.refl _ _))
      unfold execOp; simp only [eval_const, e32]; simp [go_sem]
    · intro a w1 hB ho hp K hK
      have e1 : a.eval (.tmp 1) = (.pointer (some ⟨w.heap.size, 0, none⟩)) := ho 1 (by kernel_rfl)
      obtain ⟨u1, u2, u3, u4, u5, u6, u7, u8, u9⟩ := H_a.out.below hB
      exact hop_load (wanted_at rfl (j := 4) (d := 33) (b := true) (by kernel_rfl) (hp 4 33 (by kernel_rfl))) rfl e1 (run_ldq u1 u2 u3 u4) (hK _ _ rfl (Below.refl _ _))
    · intro a w1 hB ho hp K hK
      have e3 : a.eval (.tmp 3) = (.pointer (some ⟨g28, 0, none⟩)) := ho 3 (by kernel_rfl)
      obtain ⟨u1, u2, u3, u4, u5, u6, u7, u8, u9⟩ := H_fa.out.below hB
      exact hop_load (wanted_at rfl (j := 4) (d := 33) (b := true) (by kernel_rfl) (hp 4 33 (by kernel_rfl))) rfl e3 (run_ldq u1 u2 u3 u4) (hK _ _ rfl (Below.refl _ _))
    · intro a w1 hB ho hp K hK
      have e5 : a.eval (.tmp 5) = (.pointer (some ⟨w33.heap.size, 0, none⟩)) := ho 5 (by kernel_rfl)
      obtain ⟨u1, u2, u3, u4, u5, u6, u7, u8, u9⟩ := H_oa.out.below hB
      exact hop_load (wanted_at rfl (j := 4) (d := 33) (b := true) (by kernel_rfl) (hp 4 33 (by kernel_rfl))) rfl e5 (run_ldq u1 u2 u3 u4) (hK _ _ rfl (Below.refl _ _))
    · intro a w1 hB ho hp K hK
      have e35 : a.eval (.tmp 35) = (.agg #[.bool s25, .slice A25 n25 c25, .bool t25, .slice D25 m25 d25]) := hp 6 35 (by kernel_rfl)
      have e36 : a.eval (.tmp 36) = (.agg #[.bool s33, .slice A33 n33 c33, .bool t33, .slice D33 m33 d33]) := hp 7 36 (by kernel_rfl)
      refine hop_call (wanted_at rfl (j := 4) (d := 33) (b := true) (by kernel_rfl) (hp 4 33 (by kernel_rfl))) rfl (args := #[(.agg #[.bool s25, .slice A25 n25 c25, .bool t25, .slice D25 m25 d25]), (.agg #[.bool s33, .slice A33 n33 c33, .bool t33, .slice D33 m33 d33])]) (by simp only [List.map_toArray, List.map_cons, List.map_nil, eval_const, e35, e36]) (ent7 (by kernel_rfl) _ _) (add_q (pf.below hB).qv (po.below hB).qv 7 (by omega) (by omega) (by omega) (by omega) (by omega) (by omega)) ?_
      rintro e w2 ⟨s, A, n, c, t, B, m, d, rfl, p, k, l, BB⟩
      exact ⟨_, rfl, hK _ _ ⟨s, A, n, c, t, B, m, d, rfl, p, by omega, by omega⟩ BB⟩
    · intro a w1 hB ho hp K hK
      have e34 : a.eval (.tmp 34) = (.agg #[.bool s, .slice A n c, .bool t, .slice B m d]) := hp 5 34 (by kernel_rfl)
      obtain ⟨s37, A37, n37, c37, t37, D37, m37, d37, e37, p37, k37, l37⟩ : IsQ (((p.floor : Int) : Rat) + 1) 15 (a.eval (.tmp 37)) w1 := hp 8 37 (by kernel_rfl)
      refine hop_call (wanted_at rfl (j := 4) (d := 33) (b := true) (by kernel_rfl) (hp 4 33 (by kernel_rfl))) rfl (args := #[(.agg #[.bool s, .slice A n c, .bool t, .slice B m d]), (.agg #[.bool s37, .slice A37 n37 c37, .bool t37, .slice D37 m37 d37])]) (by simp only [List.map_toArray, List.map_cons, List.map_nil, eval_const, e34, e37]) (ent7 (by kernel_rfl) _ _) (cmp_q (ha.below hB) p37.qv 15 (by omega) (by omega) (by omega) (by omega) (by omega) (by omega) H1.out) ?_
      rintro e w2 ⟨rfl, B⟩
      exact ⟨_, rfl, hK _ _ rfl B⟩
    · intro a w1 hB ho hp K hK
      have e38 : a.eval (.tmp 38) = (.int .i64 r1) := hp 9 38 (by kernel_rfl)
      refine hop_val (wanted_at rfl (j := 4) (d := 33) (b := true) (by kernel_rfl) (hp 4 33 (by kernel_rfl))) ?_ (hK (.bool true) _ rfl (Below.refl _ _))
      unfold execOp; simp only [eval_const, e38]; simp [go_sem, h31]
    · intro a w1 hB ho hp K hK
      have e33 : a.eval (.tmp 33) = (.bool true) := hp 4 33 (by kernel_rfl)
      have e39 : a.eval (.tmp 39) = (.bool true) := hp 10 39 (by kernel_rfl)
      refine hop_val (wanted_none rfl) ?_ (hK (.bool true) _ rfl (Below.refl _ _))
      unfold execOp; simp only [eval_const, e33, e39]; simp [go_sem]
    · intro a w1 hB ho hp K hK
      have e40 : a.eval (.tmp 40) = (.bool true) := hp 11 40 (by kernel_rfl)
      refine hop_val (wanted_none rfl) ?_ (hK (.bool true) _ rfl (Below.refl _ _))
      unfold execOp; simp only [eval_const, e40]; simp [go_sem]
    · intro a w1 hB ho hp K hK
      have e6 : a.eval (.tmp 6) = (.pointer (some ⟨w38.heap.size, 0, none⟩)) := ho 6 (by kernel_rfl)
      obtain ⟨u1, u2, u3, u4, u5, u6, u7, u8, u9⟩ := H_ta.out.below hB
      exact hop_load (wanted_at rfl (j := 12) (d := 41) (b := true) (by kernel_rfl) (hp 12 41 (by kernel_rfl))) rfl e6 (run_ldq u1 u2 u3 u4) (hK _ _ rfl (Below.refl _ _))
    · intro a w1 hB ho hp K hK
      have e5 : a.eval (.tmp 5) = (.pointer (some ⟨w33.heap.size, 0, none⟩)) := ho 5 (by kernel_rfl)
      obtain ⟨u1, u2, u3, u4, u5, u6, u7, u8, u9⟩ := H_oa.out.below hB
      exact hop_load (wanted_at rfl (j := 12) (d := 41) (b := true) (by kernel_rfl) (hp 12 41 (by kernel_rfl))) rfl e5 (run_ldq u1 u2 u3 u4) (hK _ _ rfl (Below.refl _ _))
    · intro a w1 hB ho hp K hK
      have e42 : a.eval (.tmp 42) = (.agg #[.bool s38, .slice A38 n38 c38, .bool t38, .slice D38 m38 d38]) := hp 13 42 (by kernel_rfl)
      have e43 : a.eval (.tmp 43) = (.agg #[.bool s33, .slice A33 n33 c33, .bool t33, .slice D33 m33 d33]) := hp 14 43 (by kernel_rfl)
      refine hop_call (wanted_at rfl (j := 12) (d := 41) (b := true) (by kernel_rfl) (hp 12 41 (by kernel_rfl))) rfl (args := #[(.agg #[.bool s38, .slice A38 n38 c38, .bool t38, .slice D38 m38 d38]), (.agg #[.bool s33, .slice A33 n33 c33, .bool t33, .slice D33 m33 d33])]) (by simp only [List.map_toArray, List.map_cons, List.map_nil, eval_const, e42, e43]) (ent7 (by kernel_rfl) _ _) (cmp_q (pt.below hB).qv (po.below hB).qv 38 (by omega) (by omega) (by omega) (by omega) (by omega) (by omega) H2.out) ?_
      rintro e w2 ⟨rfl, B⟩
      exact ⟨_, rfl, hK _ _ rfl B⟩
    · intro a w1 hB ho hp K hK
      have e44 : a.eval (.tmp 44) = (.int .i64 r2) := hp 15 44 (by kernel_rfl)
      refine hop_val (wanted_at rfl (j := 12) (d := 41) (b := true) (by kernel_rfl) (hp 12 41 (by kernel_rfl))) ?_ (hK (.bool true) _ rfl (Below.refl _ _))
      unfold execOp; simp only [eval_const, e44]; simp [go_sem, h32]
    · intro a w1 hB ho hp K hK
      have e41 : a.eval (.tmp 41) = (.bool true) := hp 12 41 (by kernel_rfl)
      have e45 : a.eval (.tmp 45) = (.bool true) := hp 16 45 (by kernel_rfl)
      refine hop_val (wanted_none rfl) ?_ (hK (.bool true) _ rfl (Below.refl _ _))
      unfold execOp; simp only [eval_const, e41, e45]; simp [go_sem]
    · intro a w1 hB ho hp K hK
      have e46 : a.eval (.tmp 46) = (.bool true) := hp 17 46 (by kernel_rfl)
      refine hop_val (wanted_none rfl) ?_ (hK (.bool true) _ rfl (Below.refl _ _))
      unfold execOp; simp only [eval_const, e46]; simp [go_sem]
    · intro a w1 hB ho hp K hK
      have e6 : a.eval (.tmp 6) = (.pointer (some ⟨w38.heap.size, 0, none⟩)) := ho 6 (by kernel_rfl)
      obtain ⟨u1, u2, u3, u4, u5, u6, u7, u8, u9⟩ := H_ta.out.below hB
      exact hop_load (wanted_at rfl (j := 18) (d := 47) (b := true) (by kernel_rfl) (hp 18 47 (by kernel_rfl))) rfl e6 (run_ldq u1 u2 u3 u4) (hK _ _ rfl (Below.refl _ _))
    · intro a w1 hB ho hp K hK
      have e5 : a.eval (.tmp 5) = (.pointer (some ⟨w33.heap.size, 0, none⟩)) := ho 5 (by kernel_rfl)
      obtain ⟨u1, u2, u3, u4, u5, u6, u7, u8, u9⟩ := H_oa.out.below hB
      exact hop_load (wanted_at rfl (j := 18) (d := 47) (b := true) (by kernel_rfl) (hp 18 47 (by kernel_rfl))) rfl e5 (run_ldq u1 u2 u3 u4) (hK _ _ rfl (Below.refl _ _))
    · intro a w1 hB ho hp K hK
      have e49 : a.eval (.tmp 49) = (.agg #[.bool s33, .slice A33 n33 c33, .bool t33, .slice D33 m33 d33]) := hp 20 49 (by kernel_rfl)
      refine hop_call (wanted_at rfl (j := 18) (d := 47) (b := true) (by kernel_rfl) (hp 18 47 (by kernel_rfl))) rfl (args := #[(.agg #[.bool s33, .slice A33 n33 c33, .bool t33, .slice D33 m33 d33])]) (by simp only [List.map_toArray, List.map_cons, List.map_nil, eval_const, e49]) (ent7 (by kernel_rfl) _ _) (neg_q (po.below hB).qv 1 (by omega) (by omega) (by omega) (by omega)) ?_
      rintro e w2 ⟨s, A, n, c, t, B, m, d, rfl, p, k, l, BB⟩
      exact ⟨_, rfl, hK _ _ ⟨s, A, n, c, t, B, m, d, rfl, p, by omega, by omega⟩ BB⟩
    · intro a w1 hB ho hp K hK
      have e48 : a.eval (.tmp 48) = (.agg #[.bool s38, .slice A38 n38 c38, .bool t38, .slice D38 m38 d38]) := hp 19 48 (by kernel_rfl)
      obtain ⟨s50, A50, n50, c50, t50, D50, m50, d50, e50, p50, k50, l50⟩ : IsQ (-1) 1 (a.eval (.tmp 50)) w1 := hp 21 50 (by kernel_rfl)
      refine hop_call (wanted_at rfl (j := 18) (d := 47) (b := true) (by kernel_rfl) (hp 18 47 (by kernel_rfl))) rfl (args := #[(.agg #[.bool s38, .slice A38 n38 c38, .bool t38, .slice D38 m38 d38]), (.agg #[.bool s50, .slice A50 n50 c50, .bool t50, .slice D50 m50 d50])]) (by simp only [List.map_toArray, List.map_cons, List.map_nil, eval_const, e48, e50]) (ent7 (by kernel_rfl) _ _) (cmp_q (pt.below hB).qv p50.qv 38 (by omega) (by omega) (by omega) (by omega) (by omega) (by omega) H3.out) ?_
      rintro e w2 ⟨rfl, B⟩
      exact ⟨_, rfl, hK _ _ rfl B⟩
    · intro a w1 hB ho hp K hK
      have e51 : a.eval (.tmp 51) = (.int .i64 r3) := hp 22 51 (by kernel_rfl)
      refine hop_val (wanted_at rfl (j := 18) (d := 47) (b := true) (by kernel_rfl) (hp 18 47 (by kernel_rfl))) ?_ (hK (.bool true) _ rfl (Below.refl _ _))
      unfold execOp; simp only [eval_const, e51]; simp [go_sem, h33]
    · intro a w1 hB ho hp K hK
      have e47 : a.eval (.tmp 47) = (.bool true) := hp 18 47 (by kernel_rfl)
      have e52 : a.eval (.tmp 52) = (.bool true) := hp 23 52 (by kernel_rfl)
      refine hop_val (wanted_none rfl) ?_ (hK (.bool true) _ rfl (Below.refl _ _))
      unfold execOp; simp only [eval_const, e47, e52]; simp [go_sem]
    · intro a w1 hB ho hp K hK
      have e53 : a.eval (.tmp 53) = (.bool true) := hp 24 53 (by kernel_rfl)
      refine hop_val (wanted_none rfl) ?_ (hK (.bool true) _ rfl (Below.refl _ _))
      unfold execOp; simp only [eval_const, e53]; simp [go_sem]
  intro w40 B40
  refine EndAll.one rfl fun vv hv => ?_
  obtain rfl : vv = (.agg #[.bool s25, .slice A25 n25 c25, .bool t25, .slice D25 m25 d25]) := hv
  refine EndAll.one rfl fun vv hv => ?_
  obtain rfl : vv = (.agg #[.bool s, .slice A n c, .bool t, .slice B m d]) := hv
  refine EndAll.one rfl fun vv hv => ?_
  obtain rfl : vv = (.int .i64 r0) := hv
  refine EndAll.one rfl fun vv hv => ?_
  obtain rfl : vv = (.bool true) := hv
  refine EndAll.one rfl fun vv hv => ?_
  obtain rfl : vv = (.bool true) := hv
  refine EndAll.one rfl fun vv hv => ?_
  obtain rfl : vv = (.agg #[.bool s, .slice A n c, .bool t, .slice B m d]) := hv
  refine EndAll.one rfl fun vv hv => ?_
  obtain rfl : vv = (.agg #[.bool s25, .slice A25 n25 c25, .bool t25, .slice D25 m25 d25]) := hv
  refine EndAll.one rfl fun vv hv => ?_
  obtain rfl : vv = (.agg #[.bool s33, .slice A33 n33 c33, .bool t33, .slice D33 m33 d33]) := hv
  refine EndAll.one rfl fun vv hv => ?_
  obtain ⟨s41, A41, n41, c41, t41, D41, m41, d41, rfl, p41, k41, l41⟩ : IsQ (((p.floor : Int) : Rat) + 1) 15 vv w40 := hv
  refine EndAll.one rfl fun vv hv => ?_
  obtain rfl : vv = (.int .i64 r1) := hv
  refine EndAll.one rfl fun vv hv => ?_
  obtain rfl : vv = (.bool true) := hv
  refine EndAll.one rfl fun vv hv => ?_
  obtain rfl : vv = (.bool true) := hv
  refine EndAll.one rfl fun vv hv => ?_
  obtain rfl : vv = (.bool true) := hv
  refine EndAll.one rfl fun vv hv => ?_
  obtain rfl : vv = (.agg #[.bool s38, .slice A38 n38 c38, .bool t38, .slice D38 m38 d38]) := hv
  refine EndAll.one rfl fun vv hv => ?_
  obtain rfl : vv = (.agg #[.bool s33, .slice A33 n33 c33, .bool t33, .slice D33 m33 d33]) := hv
  refine EndAll.one rfl fun vv hv => ?_
  obtain rfl : vv = (.int .i64 r2) := hv
  refine EndAll.one rfl fun vv hv => ?_
  obtain rfl : vv = (.bool true) := hv
  refine EndAll.one rfl fun vv hv => ?_
  obtain rfl : vv = (.bool true) := hv
  refine EndAll.one rfl fun vv hv => ?_
  obtain rfl : vv = (.bool true) := hv
  refine EndAll.one rfl fun vv hv => ?_
  obtain rfl : vv = (.agg #[.bool s38, .slice A38 n38 c38, .bool t38, .slice D38 m38 d38]) := hv
  refine EndAll.one rfl fun vv hv => ?_
  obtain rfl : vv = (.agg #[.bool s33, .slice A33 n33 c33, .bool t33, .slice D33 m33 d33]) := hv
  refine EndAll.one rfl fun vv hv => ?_
  obtain ⟨s42, A42, n42, c42, t42, D42, m42, d42, rfl, p42, k42, l42⟩ : IsQ (-1) 1 vv w40 := hv
  refine EndAll.one rfl fun vv hv => ?_
  obtain rfl : vv = (.int .i64 r3) := hv
  refine EndAll.one rfl fun vv hv => ?_
  obtain rfl : vv = (.bool true) := hv
  refine EndAll.one rfl fun vv hv => ?_
  obtain rfl : vv = (.bool true) := hv
  refine EndAll.one rfl fun vv hv => ?_
  obtain rfl : vv = (.bool true) := hv
  refine EndAll.nil (l := []) rfl ?_
  simp only [Act.put, List.setIfInBounds_toArray, List.set_cons_zero, List.set_cons_succ]
  replace H_a := Lib.hid (H_a.out.below B40)
  replace H_fa := Lib.hid (H_fa.out.below B40)
  replace H_ra := Lib.hid (H_ra.out.below B40)
  replace H_oa := Lib.hid (H_oa.out.below B40)
  replace H_ta := Lib.hid (H_ta.out.below B40)
  replace ha := ha.below B40
  replace pf := pf.below B40
  replace pr := pr.below B40
  replace z1 := z1.below B40
  replace po := po.below B40
  replace ps := ps.below B40
  replace z2 := z2.below B40
  replace p2 := p2.below B40
  replace pt := pt.below B40
  replace hW := hW.trans (B40.mono hW.size)
  clear B40
  go_wp2_with fail
  go_ret
  exact ⟨rfl, hW⟩
set_option maxRecDepth 100000 in
set_option maxHeartbeats 16000000 in
theorem ratrounds_calls (A B : Option Addr) (n c m d : Nat) (s t : Bool) (p : Rat) (w : World) (ha : Qv w s A n c t B m d p) (n9 : n ≤ 9223372036854775807) (m9 : m ≤ 9223372036854775807) :
    Calls Try.prog 5 #[.agg #[.bool s, .slice A n c, .bool t, .slice B m d]] w (TruePost w) := by
  by_cases h1 : n ≤ 5 ∧ m ≤ 5
  · exact rounds_yes ha h1.1 h1.2
  · exact ratrounds_few ha n9 m9 h1
end Go.Proofs.Ytfpncmhaoadfdaa
