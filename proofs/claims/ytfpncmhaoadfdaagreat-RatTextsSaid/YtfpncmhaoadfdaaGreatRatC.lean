/-
  Package rat: Sub, Cmp, Whole, Floor, Round, isOne, Pow, Print; zint.Pow.
-/
import Derived.Test.YtfpncmhaoadfdaaGreatRatB
import Derived.Test.YtfpncmhaoadfdaaGreatZintE
/-! Contracts: rat.Sub, Cmp, Whole, Floor, Round, isOne, Pow, Print; zint.Pow. -/
namespace Go.Proofs.YtfpncmhaoadfdaaGreat
open Go.RowKit
set_option linter.unusedVariables false
set_option linter.unusedSimpArgs false

set_option maxRecDepth 100000 in
set_option maxHeartbeats 4000000 in
theorem qcmp_v {A B C D' : Option Addr} {n c m d l e' f' h' k : Nat} {s t u v : Bool} {N D M E : Int} {w : World} (hn : Zv w s A n c N) (hd : Zv w t B m d D) (hm : Zv w u C l e' M) (he : Zv w v D' f' h' E) (hnk : n ≤ k) (hmk : m ≤ k) (hlk : l ≤ k) (hfk : f' ≤ k) (h1 : 1 ≤ k) (hk : k ≤ 1073741824) {r : Int} (hr : rsg (Rat.divInt N D - Rat.divInt M E) = r) :
    Calls Tryz.prog 10 #[.agg #[.bool s, .slice A n c, .bool t, .slice B m d], .agg #[.bool u, .slice C l e', .bool v, .slice D' f' h']] w (IPost r w) := by
  have hW := Below.refl w.heap.size w
  obtain ⟨wp0, hwp0⟩ : ∃ x, x = w.alloc (.cells #[.bool s, .slice A n c, .bool t, .slice B m d] 27) := ⟨_, rfl⟩
  have zp0 : Below w.heap.size w wp0 := by rw [hwp0]; exact zba _ _
  have sp0 : wp0.heap.size = w.heap.size + 1 := by rw [hwp0, World.size_alloc]
  have Ia : Rb wp0 w.heap.size s A n c t B m d := by rw [hwp0]; exact Rb.new _ _ _ _ _ _ _ _ _ _
  replace hn := hn.below zp0
  replace hd := hd.below zp0
  replace hm := hm.below zp0
  replace he := he.below zp0
  replace hW := hW.trans (zp0.mono hW.size)
  have H_a := Lib.hid Ia
  clear Ia zp0
  obtain ⟨wp1, hwp1⟩ : ∃ x, x = wp0.alloc (.cells #[.bool u, .slice C l e', .bool v, .slice D' f' h'] 27) := ⟨_, rfl⟩
  have zp1 : Below wp0.heap.size wp0 wp1 := by rw [hwp1]; exact zba _ _
  have sp1 : wp1.heap.size = w.heap.size + 1 + 1 := by rw [hwp1, World.size_alloc, sp0]
  have Ib : Rb wp1 (w.heap.size + 1) u C l e' v D' f' h' := by rw [hwp1, ← sp0]; exact Rb.new _ _ _ _ _ _ _ _ _ _
  replace H_a := Lib.hid (H_a.out.below zp1)
  replace hn := hn.below zp1
  replace hd := hd.below zp1
  replace hm := hm.below zp1
  replace he := he.below zp1
  replace hW := hW.trans (zp1.mono hW.size)
  have H_b := Lib.hid Ib
  clear Ib zp1
  have HW : Hid (((w.alloc (.cells #[.bool s, .slice A n c, .bool t, .slice B m d] 27)).alloc (.cells #[.bool u, .slice C l e', .bool v, .slice D' f' h'] 27)) = wp1) := Lib.hid (by rw [hwp1, hwp0])
  have nn_a_b : ¬ (w.heap.size = (w.heap.size + 1)) := by omega
  have nm_a_b : ¬ ((w.heap.size + 1) = w.heap.size) := by omega
  have lw_a : w.heap.size ≤ w.heap.size := by omega
  have lw_b : w.heap.size ≤ (w.heap.size + 1) := by omega
  clear hwp0 hwp1 sp0 sp1
  obtain ⟨N1, hN1⟩ : ∃ x, cN N D = x := ⟨_, rfl⟩
  obtain ⟨D1, hD1⟩ : ∃ x, cD D = x := ⟨_, rfl⟩
  obtain ⟨M1, hM1⟩ : ∃ x, cN M E = x := ⟨_, rfl⟩
  obtain ⟨E1, hE1⟩ : ∃ x, cD E = x := ⟨_, rfl⟩
  have C1 : ∀ w : World, RPost (cN N D) (cD D) k w = RPost N1 D1 k w := fun w => by rw [hN1, hD1]
  have C2 : ∀ w : World, RPost (cN M E) (cD E) k w = RPost M1 E1 k w := fun w => by rw [hM1, hE1]
  have hr' := rcmp_eq (N := cN N D) (M := cN M E) (cD_ne D) (cD_ne E)
  rw [cq, cq, hr, hN1, hD1, hM1, hE1] at hr'
  obtain ⟨r0, hr0⟩ : ∃ r, (N1 * E1 - M1 * D1).sign = r := ⟨_, rfl⟩
  obtain ⟨r1, hr1⟩ : ∃ r, D1.sign = r := ⟨_, rfl⟩
  obtain ⟨r2, hr2⟩ : ∃ r, E1.sign = r := ⟨_, rfl⟩
  obtain ⟨r3, hr3⟩ : ∃ r, r0 * r1 = r := ⟨_, rfl⟩
  rw [hr0, hr1, hr2, hr3] at hr'
  have HR0 := Lib.hid hr0
  have HR1 := Lib.hid hr1
  have HR2 := Lib.hid hr2
  have hb0 := sign_bounds7 (N1 * E1 - M1 * D1)
  have hb1 := sign_bounds7 D1
  have hb2 := sign_bounds7 E1
  rw [hr0] at hb0
  rw [hr1] at hb1
  rw [hr2] at hb2
  have hb3 := mul_bounds7 hb0 hb1
  rw [hr3] at hb3
  have hw1 : IntKind.i64.wrap (r0 * r1) = r3 := by rw [hr3]; exact wrap_sign hb0 hb1 hr3
  have hw2 : IntKind.i64.wrap (r3 * r2) = r := by rw [hr']; exact wrap_sign hb3 hb2 hr'
  clear hr0 hr1 hr2 hr3 hr' hb0 hb1 hb2 hb3 hr hN1 hD1 hM1 hE1
  go_enter Tryz.func10, Tryz.ntmps10
  obtain ⟨a1, a2, a3, a4, a5, a6, a7, a8, a9⟩ := H_a.out
  obtain ⟨b1, b2, b3, b4, b5, b6, b7, b8, b9⟩ := H_b.out
  go_wp2_with fail
  rw [HW.out]
  clear a1 a2 a3 a4 a5 a6 a7 a8 a9 b1 b2 b3 b4 b5 b6 b7 b8 b9
  refine region7 [] 4 [IsK (.agg #[.bool s, .slice A n c, .bool t, .slice B m d]), IsR N1 D1 k, IsK (.agg #[.bool u, .slice C l e', .bool v, .slice D' f' h']), IsR M1 E1 k] (fun _ _ d _ _ h => by cases d <;> exact h) (by kernel_rfl) (by kernel_rfl) (by kernel_rfl) ⟨stay_k _, stay_r _ _ _, stay_k _, stay_r _ _ _, trivial⟩ ?_ ?_
  · refine HopAll.cons rfl ?_ (HopAll.cons rfl ?_ (HopAll.cons rfl ?_ (HopAll.cons rfl ?_ HopAll.nil)))
    · intro a w1 hB ho hp K hK
      have e2 : a.eval (.tmp 2) = (.pointer (some ⟨w.heap.size, 0, none⟩)) := ho 2 (by kernel_rfl)
      obtain ⟨u1, u2, u3, u4, u5, u6, u7, u8, u9⟩ := H_a.out.below hB
      exact hop_load (wanted_none rfl) rfl e2 (run_ldq u1 u2 u3 u4) (hK _ _ rfl (Below.refl _ _))
    · intro a w1 hB ho hp K hK
      have e6 : a.eval (.tmp 6) = (.agg #[.bool s, .slice A n c, .bool t, .slice B m d]) := hp 0 6 (by kernel_rfl)
      refine hop_call (wanted_none rfl) rfl (args := #[(.agg #[.bool s, .slice A n c, .bool t, .slice B m d])]) (by simp only [List.map_toArray, List.map_cons, List.map_nil, eval_const, e6]) (ent7 (by kernel_rfl) _ _) ((C1 _) ▸ counted_v (k := k) (hn.below hB) (hd.below hB) (by omega) (by omega) h1 hk) ?_
      rintro e w2 ⟨s, A, n, c, t, B, m, d, rfl, p, q, k, l, BB⟩
      exact ⟨_, rfl, hK _ _ ⟨s, A, n, c, t, B, m, d, rfl, p, q, by omega, by omega⟩ BB⟩
    · intro a w1 hB ho hp K hK
      have e3 : a.eval (.tmp 3) = (.pointer (some ⟨(w.heap.size + 1), 0, none⟩)) := ho 3 (by kernel_rfl)
      obtain ⟨u1, u2, u3, u4, u5, u6, u7, u8, u9⟩ := H_b.out.below hB
      exact hop_load (wanted_none rfl) rfl e3 (run_ldq u1 u2 u3 u4) (hK _ _ rfl (Below.refl _ _))
    · intro a w1 hB ho hp K hK
      have e8 : a.eval (.tmp 8) = (.agg #[.bool u, .slice C l e', .bool v, .slice D' f' h']) := hp 2 8 (by kernel_rfl)
      refine hop_call (wanted_none rfl) rfl (args := #[(.agg #[.bool u, .slice C l e', .bool v, .slice D' f' h'])]) (by simp only [List.map_toArray, List.map_cons, List.map_nil, eval_const, e8]) (ent7 (by kernel_rfl) _ _) ((C2 _) ▸ counted_v (k := k) (hm.below hB) (he.below hB) (by omega) (by omega) h1 hk) ?_
      rintro e w2 ⟨s, A, n, c, t, B, m, d, rfl, p, q, k, l, BB⟩
      exact ⟨_, rfl, hK _ _ ⟨s, A, n, c, t, B, m, d, rfl, p, q, by omega, by omega⟩ BB⟩
  intro w21 B21
  refine EndAll.one rfl fun vv hv => ?_
  obtain rfl : vv = (.agg #[.bool s, .slice A n c, .bool t, .slice B m d]) := hv
  refine EndAll.one rfl fun vv hv => ?_
  obtain ⟨s22, A22, n22, c22, t22, D22, m22, d22, rfl, p22, q22, k22, l22⟩ : IsR N1 D1 k vv w21 := hv
  refine EndAll.one rfl fun vv hv => ?_
  obtain rfl : vv = (.agg #[.bool u, .slice C l e', .bool v, .slice D' f' h']) := hv
  refine EndAll.one rfl fun vv hv => ?_
  obtain ⟨s23, A23, n23, c23, t23, D23, m23, d23, rfl, p23, q23, k23, l23⟩ : IsR M1 E1 k vv w21 := hv
  refine EndAll.nil (l := [_, _]) rfl ?_
  simp only [Act.put, List.setIfInBounds_toArray, List.set_cons_zero, List.set_cons_succ]
  replace H_a := Lib.hid (H_a.out.below B21)
  replace H_b := Lib.hid (H_b.out.below B21)
  replace hn := hn.below B21
  replace hd := hd.below B21
  replace hm := hm.below B21
  replace he := he.below B21
  replace hW := hW.trans (B21.mono hW.size)
  have pn := p22
  have pd := q22
  have pm := p23
  have pe := q23
  clear B21
  have O_a := H_a
  have O_b := H_b
  obtain ⟨w24, hw24⟩ : ∃ x, x = rput w21 w.heap.size s22 A22 n22 c22 t22 D22 m22 d22 := ⟨_, rfl⟩
  have HW24 : Hid (((((w21.setCell ⟨w.heap.size, 0, none⟩ (.bool s22)).setCell ⟨w.heap.size, 1, none⟩ (.slice A22 n22 c22)).setCell ⟨w.heap.size, 2, none⟩ (.bool t22)).setCell ⟨w.heap.size, 3, none⟩ (.slice D22 m22 d22)) = w24) := Lib.hid hw24.symm
  have OI := H_a.out
  replace H_b : Hid (Rb w24 (w.heap.size + 1) u C l e' v D' f' h') := Lib.hid (by rw [hw24]; exact H_b.out.rput (by omega))
  replace hn := hn.rput (s' := s22) (A' := A22) (n' := n22) (c' := c22) (t' := t22) (B' := D22) (m' := m22) (d' := d22) OI
  replace hd := hd.rput (s' := s22) (A' := A22) (n' := n22) (c' := c22) (t' := t22) (B' := D22) (m' := m22) (d' := d22) OI
  replace hm := hm.rput (s' := s22) (A' := A22) (n' := n22) (c' := c22) (t' := t22) (B' := D22) (m' := m22) (d' := d22) OI
  replace he := he.rput (s' := s22) (A' := A22) (n' := n22) (c' := c22) (t' := t22) (B' := D22) (m' := m22) (d' := d22) OI
  replace pn := pn.rput (s' := s22) (A' := A22) (n' := n22) (c' := c22) (t' := t22) (B' := D22) (m' := m22) (d' := d22) OI
  replace pd := pd.rput (s' := s22) (A' := A22) (n' := n22) (c' := c22) (t' := t22) (B' := D22) (m' := m22) (d' := d22) OI
  replace pm := pm.rput (s' := s22) (A' := A22) (n' := n22) (c' := c22) (t' := t22) (B' := D22) (m' := m22) (d' := d22) OI
  replace pe := pe.rput (s' := s22) (A' := A22) (n' := n22) (c' := c22) (t' := t22) (B' := D22) (m' := m22) (d' := d22) OI
  rw [← hw24] at hn
  rw [← hw24] at hd
  rw [← hw24] at hm
  rw [← hw24] at he
  rw [← hw24] at pn
  rw [← hw24] at pd
  rw [← hw24] at pm
  rw [← hw24] at pe
  replace hW : Below w.heap.size w w24 := by rw [hw24]; exact below_rput hW lw_a
  replace H_a : Hid (Rb w24 w.heap.size s22 A22 n22 c22 t22 D22 m22 d22) := Lib.hid (by rw [hw24]; exact OI.own)
  clear hw24 OI
  obtain ⟨w25, hw25⟩ : ∃ x, x = rput w24 (w.heap.size + 1) s23 A23 n23 c23 t23 D23 m23 d23 := ⟨_, rfl⟩
  have HW25 : Hid (((((w24.setCell ⟨(w.heap.size + 1), 0, none⟩ (.bool s23)).setCell ⟨(w.heap.size + 1), 1, none⟩ (.slice A23 n23 c23)).setCell ⟨(w.heap.size + 1), 2, none⟩ (.bool t23)).setCell ⟨(w.heap.size + 1), 3, none⟩ (.slice D23 m23 d23)) = w25) := Lib.hid hw25.symm
  have OI := H_b.out
  replace H_a : Hid (Rb w25 w.heap.size s22 A22 n22 c22 t22 D22 m22 d22) := Lib.hid (by rw [hw25]; exact H_a.out.rput (by omega))
  replace hn := hn.rput (s' := s23) (A' := A23) (n' := n23) (c' := c23) (t' := t23) (B' := D23) (m' := m23) (d' := d23) OI
  replace hd := hd.rput (s' := s23) (A' := A23) (n' := n23) (c' := c23) (t' := t23) (B' := D23) (m' := m23) (d' := d23) OI
  replace hm := hm.rput (s' := s23) (A' := A23) (n' := n23) (c' := c23) (t' := t23) (B' := D23) (m' := m23) (d' := d23) OI
  replace he := he.rput (s' := s23) (A' := A23) (n' := n23) (c' := c23) (t' := t23) (B' := D23) (m' := m23) (d' := d23) OI
  replace pn := pn.rput (s' := s23) (A' := A23) (n' := n23) (c' := c23) (t' := t23) (B' := D23) (m' := m23) (d' := d23) OI
  replace pd := pd.rput (s' := s23) (A' := A23) (n' := n23) (c' := c23) (t' := t23) (B' := D23) (m' := m23) (d' := d23) OI
  replace pm := pm.rput (s' := s23) (A' := A23) (n' := n23) (c' := c23) (t' := t23) (B' := D23) (m' := m23) (d' := d23) OI
  replace pe := pe.rput (s' := s23) (A' := A23) (n' := n23) (c' := c23) (t' := t23) (B' := D23) (m' := m23) (d' := d23) OI
  rw [← hw25] at hn
  rw [← hw25] at hd
  rw [← hw25] at hm
  rw [← hw25] at he
  rw [← hw25] at pn
  rw [← hw25] at pd
  rw [← hw25] at pm
  rw [← hw25] at pe
  replace hW : Below w.heap.size w w25 := by rw [hw25]; exact below_rput hW lw_b
  replace H_b : Hid (Rb w25 (w.heap.size + 1) s23 A23 n23 c23 t23 D23 m23 d23) := Lib.hid (by rw [hw25]; exact OI.own)
  clear hw25 OI
  clear hn hd hm he
  obtain ⟨a1, a2, a3, a4, a5, a6, a7, a8, a9⟩ := O_a.out
  obtain ⟨b1, b2, b3, b4, b5, b6, b7, b8, b9⟩ := O_b.out
  go_wp2_with fail
  rw [HW24.out]
  rw [HW25.out]
  clear a1 a2 a3 a4 a5 a6 a7 a8 a9 b1 b2 b3 b4 b5 b6 b7 b8 b9 O_a O_b
  refine region7 [] 12 [IsK (.pointer (some ⟨w.heap.size, 0, none⟩)), IsK (.agg #[.bool s22, .slice A22 n22 c22]), IsK (.pointer (some ⟨(w.heap.size + 1), 2, none⟩)), IsK (.agg #[.bool t23, .slice D23 m23 d23]), IsC (N1 * E1) (2 * k), IsK (.pointer (some ⟨(w.heap.size + 1), 0, none⟩)), IsK (.agg #[.bool s23, .slice A23 n23 c23]), IsK (.pointer (some ⟨w.heap.size, 2, none⟩)), IsK (.agg #[.bool t22, .slice D22 m22 d22]), IsC (M1 * D1) (2 * k), IsK (.int .i64 r0), IsK (.int .i64 r0)] (fun _ _ d _ _ h => by cases d <;> exact h) (by kernel_rfl) (by kernel_rfl) (by kernel_rfl) ⟨stay_k _, stay_k _, stay_k _, stay_k _, stay_c _ _, stay_k _, stay_k _, stay_k _, stay_k _, stay_c _ _, stay_k _, stay_k _, trivial⟩ ?_ ?_
  · refine HopAll.cons rfl ?_ (HopAll.cons rfl ?_ (HopAll.cons rfl ?_ (HopAll.cons rfl ?_ (HopAll.cons rfl ?_ (HopAll.cons rfl ?_ (HopAll.cons rfl ?_ (HopAll.cons rfl ?_ (HopAll.cons rfl ?_ (HopAll.cons rfl ?_ (HopAll.cons rfl ?_ (HopAll.cons rfl ?_ HopAll.nil)))))))))))
    · intro a w1 hB ho hp K hK
      have e2 : a.eval (.tmp 2) = (.pointer (some ⟨w.heap.size, 0, none⟩)) := ho 2 (by kernel_rfl)
      refine hop_val (wanted_none rfl) ?_ (hK (.pointer (some ⟨w.heap.size, 0, none⟩)) _ rfl (Below.refl _ _))
      unfold execOp; simp only [e2]; simp [go_sem]
    · intro a w1 hB ho hp K hK
      have e10 : a.eval (.tmp 10) = (.pointer (some ⟨w.heap.size, 0, none⟩)) := hp 0 10 (by kernel_rfl)
      obtain ⟨u1, u2, u3, u4, u5, u6, u7, u8, u9⟩ := H_a.out.below hB
      exact hop_load (wanted_none rfl) rfl e10 (run_ldz u1 u2) (hK _ _ rfl (Below.refl _ _))
    · intro a w1 hB ho hp K hK
      have e3 : a.eval (.tmp 3) = (.pointer (some ⟨(w.heap.size + 1), 0, none⟩)) := ho 3 (by kernel_rfl)
      refine hop_val (wanted_none rfl) ?_ (hK (.pointer (some ⟨(w.heap.size + 1), 2, none⟩)) _ rfl (Below.refl _ _))
      unfold execOp; simp only [e3]; simp [go_sem]
    · intro a w1 hB ho hp K hK
      have e12 : a.eval (.tmp 12) = (.pointer (some ⟨(w.heap.size + 1), 2, none⟩)) := hp 2 12 (by kernel_rfl)
      obtain ⟨u1, u2, u3, u4, u5, u6, u7, u8, u9⟩ := H_b.out.below hB
      exact hop_load (wanted_none rfl) rfl e12 (run_ldz u3 u4) (hK _ _ rfl (Below.refl _ _))
    · intro a w1 hB ho hp K hK
      have e11 : a.eval (.tmp 11) = (.agg #[.bool s22, .slice A22 n22 c22]) := hp 1 11 (by kernel_rfl)
      have e13 : a.eval (.tmp 13) = (.agg #[.bool t23, .slice D23 m23 d23]) := hp 3 13 (by kernel_rfl)
      refine hop_call (wanted_none rfl) rfl (args := #[(.agg #[.bool s22, .slice A22 n22 c22]), (.agg #[.bool t23, .slice D23 m23 d23])]) (by simp only [List.map_toArray, List.map_cons, List.map_nil, eval_const, e11, e13]) (ent7 (by kernel_rfl) _ _) (zmul_v (pn.below hB) (pe.below hB) (by omega) (by omega)) ?_
      rintro e w2 ⟨s, A, n, c, rfl, p, k, B⟩
      exact ⟨_, rfl, hK _ _ ⟨s, A, n, c, rfl, p, by omega⟩ B⟩
    · intro a w1 hB ho hp K hK
      have e3 : a.eval (.tmp 3) = (.pointer (some ⟨(w.heap.size + 1), 0, none⟩)) := ho 3 (by kernel_rfl)
      refine hop_val (wanted_none rfl) ?_ (hK (.pointer (some ⟨(w.heap.size + 1), 0, none⟩)) _ rfl (Below.refl _ _))
      unfold execOp; simp only [e3]; simp [go_sem]
    · intro a w1 hB ho hp K hK
      have e15 : a.eval (.tmp 15) = (.pointer (some ⟨(w.heap.size + 1), 0, none⟩)) := hp 5 15 (by kernel_rfl)
      obtain ⟨u1, u2, u3, u4, u5, u6, u7, u8, u9⟩ := H_b.out.below hB
      exact hop_load (wanted_none rfl) rfl e15 (run_ldz u1 u2) (hK _ _ rfl (Below.refl _ _))
    · intro a w1 hB ho hp K hK
      have e2 : a.eval (.tmp 2) = (.pointer (some ⟨w.heap.size, 0, none⟩)) := ho 2 (by kernel_rfl)
      refine hop_val (wanted_none rfl) ?_ (hK (.pointer (some ⟨w.heap.size, 2, none⟩)) _ rfl (Below.refl _ _))
      unfold execOp; simp only [e2]; simp [go_sem]
    · intro a w1 hB ho hp K hK
      have e17 : a.eval (.tmp 17) = (.pointer (some ⟨w.heap.size, 2, none⟩)) := hp 7 17 (by kernel_rfl)
      obtain ⟨u1, u2, u3, u4, u5, u6, u7, u8, u9⟩ := H_a.out.below hB
      exact hop_load (wanted_none rfl) rfl e17 (run_ldz u3 u4) (hK _ _ rfl (Below.refl _ _))
    · intro a w1 hB ho hp K hK
      have e16 : a.eval (.tmp 16) = (.agg #[.bool s23, .slice A23 n23 c23]) := hp 6 16 (by kernel_rfl)
      have e18 : a.eval (.tmp 18) = (.agg #[.bool t22, .slice D22 m22 d22]) := hp 8 18 (by kernel_rfl)
      refine hop_call (wanted_none rfl) rfl (args := #[(.agg #[.bool s23, .slice A23 n23 c23]), (.agg #[.bool t22, .slice D22 m22 d22])]) (by simp only [List.map_toArray, List.map_cons, List.map_nil, eval_const, e16, e18]) (ent7 (by kernel_rfl) _ _) (zmul_v (pm.below hB) (pd.below hB) (by omega) (by omega)) ?_
      rintro e w2 ⟨s, A, n, c, rfl, p, k, B⟩
      exact ⟨_, rfl, hK _ _ ⟨s, A, n, c, rfl, p, by omega⟩ B⟩
    · intro a w1 hB ho hp K hK
      obtain ⟨s14, A14, n14, c14, e14, p14, k14⟩ : IsC (N1 * E1) (2 * k) (a.eval (.tmp 14)) w1 := hp 4 14 (by kernel_rfl)
      obtain ⟨s19, A19, n19, c19, e19, p19, k19⟩ : IsC (M1 * D1) (2 * k) (a.eval (.tmp 19)) w1 := hp 9 19 (by kernel_rfl)
      refine hop_call (wanted_none rfl) rfl (args := #[(.agg #[.bool s14, .slice A14 n14 c14]), (.agg #[.bool s19, .slice A19 n19 c19])]) (by simp only [List.map_toArray, List.map_cons, List.map_nil, eval_const, e14, e19]) (ent7 (by kernel_rfl) _ _) (zcmp_v p14.zv p19.zv (by omega) (by omega) HR0.out) ?_
      rintro e w2 ⟨rfl, B⟩
      exact ⟨_, rfl, hK _ _ rfl B⟩
    · intro a w1 hB ho hp K hK
      have e20 : a.eval (.tmp 20) = (.int .i64 r0) := hp 10 20 (by kernel_rfl)
      refine hop_val (wanted_none rfl) ?_ (hK (.int .i64 r0) _ rfl (Below.refl _ _))
      unfold execOp; simp only [eval_const, e20]; simp [go_sem]
  intro w26 B26
  refine EndAll.one rfl fun vv hv => ?_
  obtain rfl : vv = (.pointer (some ⟨w.heap.size, 0, none⟩)) := hv
  refine EndAll.one rfl fun vv hv => ?_
  obtain rfl : vv = (.agg #[.bool s22, .slice A22 n22 c22]) := hv
  refine EndAll.one rfl fun vv hv => ?_
  obtain rfl : vv = (.pointer (some ⟨(w.heap.size + 1), 2, none⟩)) := hv
  refine EndAll.one rfl fun vv hv => ?_
  obtain rfl : vv = (.agg #[.bool t23, .slice D23 m23 d23]) := hv
  refine EndAll.one rfl fun vv hv => ?_
  obtain ⟨s27, A27, n27, c27, rfl, p27, k27⟩ : IsC (N1 * E1) (2 * k) vv w26 := hv
  refine EndAll.one rfl fun vv hv => ?_
  obtain rfl : vv = (.pointer (some ⟨(w.heap.size + 1), 0, none⟩)) := hv
  refine EndAll.one rfl fun vv hv => ?_
  obtain rfl : vv = (.agg #[.bool s23, .slice A23 n23 c23]) := hv
  refine EndAll.one rfl fun vv hv => ?_
  obtain rfl : vv = (.pointer (some ⟨w.heap.size, 2, none⟩)) := hv
  refine EndAll.one rfl fun vv hv => ?_
  obtain rfl : vv = (.agg #[.bool t22, .slice D22 m22 d22]) := hv
  refine EndAll.one rfl fun vv hv => ?_
  obtain ⟨s28, A28, n28, c28, rfl, p28, k28⟩ : IsC (M1 * D1) (2 * k) vv w26 := hv
  refine EndAll.one rfl fun vv hv => ?_
  obtain rfl : vv = (.int .i64 r0) := hv
  refine EndAll.one rfl fun vv hv => ?_
  obtain rfl : vv = (.int .i64 r0) := hv
  refine EndAll.nil (l := []) rfl ?_
  simp only [Act.put, List.setIfInBounds_toArray, List.set_cons_zero, List.set_cons_succ]
  replace H_a := Lib.hid (H_a.out.below B26)
  replace H_b := Lib.hid (H_b.out.below B26)
  replace pn := pn.below B26
  replace pd := pd.below B26
  replace pm := pm.below B26
  replace pe := pe.below B26
  replace hW := hW.trans (B26.mono hW.size)
  clear B26
  obtain ⟨a1, a2, a3, a4, a5, a6, a7, a8, a9⟩ := H_a.out
  obtain ⟨b1, b2, b3, b4, b5, b6, b7, b8, b9⟩ := H_b.out
  go_wp2_with fail
  clear a1 a2 a3 a4 a5 a6 a7 a8 a9 b1 b2 b3 b4 b5 b6 b7 b8 b9
  refine region7 [] 10 [IsK (.int .i64 r0), IsK (.pointer (some ⟨w.heap.size, 2, none⟩)), IsK (.agg #[.bool t22, .slice D22 m22 d22]), IsK (.int .i64 r1), IsK (.int .i64 r3), IsK (.pointer (some ⟨(w.heap.size + 1), 2, none⟩)), IsK (.agg #[.bool t23, .slice D23 m23 d23]), IsK (.int .i64 r2), IsK (.int .i64 r), IsK (.int .i64 r)] (fun _ _ d _ _ h => by cases d <;> exact h) (by kernel_rfl) (by kernel_rfl) (by kernel_rfl) ⟨stay_k _, stay_k _, stay_k _, stay_k _, stay_k _, stay_k _, stay_k _, stay_k _, stay_k _, stay_k _, trivial⟩ ?_ ?_
  · refine HopAll.cons rfl ?_ (HopAll.cons rfl ?_ (HopAll.cons rfl ?_ (HopAll.cons rfl ?_ (HopAll.cons rfl ?_ (HopAll.cons rfl ?_ (HopAll.cons rfl ?_ (HopAll.cons rfl ?_ (HopAll.cons rfl ?_ (HopAll.cons rfl ?_ HopAll.nil)))))))))
    · intro a w1 hB ho hp K hK
      have e5 : a.eval (.tmp 5) = (.int .i64 r0) := ho 5 (by kernel_rfl)
      refine hop_val (wanted_none rfl) ?_ (hK (.int .i64 r0) _ rfl (Below.refl _ _))
      unfold execOp; simp only [eval_const, e5]; simp [go_sem]
    · intro a w1 hB ho hp K hK
      have e2 : a.eval (.tmp 2) = (.pointer (some ⟨w.heap.size, 0, none⟩)) := ho 2 (by kernel_rfl)
      refine hop_val (wanted_none rfl) ?_ (hK (.pointer (some ⟨w.heap.size, 2, none⟩)) _ rfl (Below.refl _ _))
      unfold execOp; simp only [e2]; simp [go_sem]
    · intro a w1 hB ho hp K hK
      have e22 : a.eval (.tmp 22) = (.pointer (some ⟨w.heap.size, 2, none⟩)) := hp 1 22 (by kernel_rfl)
      obtain ⟨u1, u2, u3, u4, u5, u6, u7, u8, u9⟩ := H_a.out.below hB
      exact hop_load (wanted_none rfl) rfl e22 (run_ldz u3 u4) (hK _ _ rfl (Below.refl _ _))
    · intro a w1 hB ho hp K hK
      have e23 : a.eval (.tmp 23) = (.agg #[.bool t22, .slice D22 m22 d22]) := hp 2 23 (by kernel_rfl)
      refine hop_call (wanted_none rfl) rfl (args := #[(.agg #[.bool t22, .slice D22 m22 d22])]) (by simp only [List.map_toArray, List.map_cons, List.map_nil, eval_const, e23]) (ent7 (by kernel_rfl) _ _) (zsign_v (pd.below hB) (by omega) HR1.out) ?_
      rintro e w2 ⟨rfl, B⟩
      exact ⟨_, rfl, hK _ _ rfl B⟩
    · intro a w1 hB ho hp K hK
      have e21 : a.eval (.tmp 21) = (.int .i64 r0) := hp 0 21 (by kernel_rfl)
      have e24 : a.eval (.tmp 24) = (.int .i64 r1) := hp 3 24 (by kernel_rfl)
      refine hop_val (wanted_none rfl) ?_ (hK (.int .i64 r3) _ rfl (Below.refl _ _))
      unfold execOp; simp only [eval_const, e21, e24]; simp [go_sem, hw1]
    · intro a w1 hB ho hp K hK
      have e3 : a.eval (.tmp 3) = (.pointer (some ⟨(w.heap.size + 1), 0, none⟩)) := ho 3 (by kernel_rfl)
      refine hop_val (wanted_none rfl) ?_ (hK (.pointer (some ⟨(w.heap.size + 1), 2, none⟩)) _ rfl (Below.refl _ _))
      unfold execOp; simp only [e3]; simp [go_sem]
    · intro a w1 hB ho hp K hK
      have e26 : a.eval (.tmp 26) = (.pointer (some ⟨(w.heap.size + 1), 2, none⟩)) := hp 5 26 (by kernel_rfl)
      obtain ⟨u1, u2, u3, u4, u5, u6, u7, u8, u9⟩ := H_b.out.below hB
      exact hop_load (wanted_none rfl) rfl e26 (run_ldz u3 u4) (hK _ _ rfl (Below.refl _ _))
    · intro a w1 hB ho hp K hK
      have e27 : a.eval (.tmp 27) = (.agg #[.bool t23, .slice D23 m23 d23]) := hp 6 27 (by kernel_rfl)
      refine hop_call (wanted_none rfl) rfl (args := #[(.agg #[.bool t23, .slice D23 m23 d23])]) (by simp only [List.map_toArray, List.map_cons, List.map_nil, eval_const, e27]) (ent7 (by kernel_rfl) _ _) (zsign_v (pe.below hB) (by omega) HR2.out) ?_
      rintro e w2 ⟨rfl, B⟩
      exact ⟨_, rfl, hK _ _ rfl B⟩
    · intro a w1 hB ho hp K hK
      have e25 : a.eval (.tmp 25) = (.int .i64 r3) := hp 4 25 (by kernel_rfl)
      have e28 : a.eval (.tmp 28) = (.int .i64 r2) := hp 7 28 (by kernel_rfl)
      refine hop_val (wanted_none rfl) ?_ (hK (.int .i64 r) _ rfl (Below.refl _ _))
      unfold execOp; simp only [eval_const, e25, e28]; simp [go_sem, hw2]
    · intro a w1 hB ho hp K hK
      have e29 : a.eval (.tmp 29) = (.int .i64 r) := hp 8 29 (by kernel_rfl)
      refine hop_val (wanted_none rfl) ?_ (hK (.int .i64 r) _ rfl (Below.refl _ _))
      unfold execOp; simp only [eval_const, e29]; simp [go_sem]
  intro w29 B29
  refine EndAll.one rfl fun vv hv => ?_
  obtain rfl : vv = (.int .i64 r0) := hv
  refine EndAll.one rfl fun vv hv => ?_
  obtain rfl : vv = (.pointer (some ⟨w.heap.size, 2, none⟩)) := hv
  refine EndAll.one rfl fun vv hv => ?_
  obtain rfl : vv = (.agg #[.bool t22, .slice D22 m22 d22]) := hv
  refine EndAll.one rfl fun vv hv => ?_
  obtain rfl : vv = (.int .i64 r1) := hv
  refine EndAll.one rfl fun vv hv => ?_
  obtain rfl : vv = (.int .i64 r3) := hv
  refine EndAll.one rfl fun vv hv => ?_
  obtain rfl : vv = (.pointer (some ⟨(w.heap.size + 1), 2, none⟩)) := hv
  refine EndAll.one rfl fun vv hv => ?_
  obtain rfl : vv = (.agg #[.bool t23, .slice D23 m23 d23]) := hv
  refine EndAll.one rfl fun vv hv => ?_
  obtain rfl : vv = (.int .i64 r2) := hv
  refine EndAll.one rfl fun vv hv => ?_
  obtain rfl : vv = (.int .i64 r) := hv
  refine EndAll.one rfl fun vv hv => ?_
  obtain rfl : vv = (.int .i64 r) := hv
  refine EndAll.nil (l := []) rfl ?_
  simp only [Act.put, List.setIfInBounds_toArray, List.set_cons_zero, List.set_cons_succ]
  replace H_a := Lib.hid (H_a.out.below B29)
  replace H_b := Lib.hid (H_b.out.below B29)
  replace pn := pn.below B29
  replace pd := pd.below B29
  replace pm := pm.below B29
  replace pe := pe.below B29
  replace hW := hW.trans (B29.mono hW.size)
  clear B29
  go_wp2_with fail
  go_ret
  exact ⟨rfl, hW⟩
theorem floor_val {w : World} {s t : Bool} {A B : Option Addr} {n c m d : Nat} {N D : Int} (hn : Zv w s A n c N) (hd : Zv w t B m d D) (h0 : D ≠ 0) : dqv s t t N.natAbs D.natAbs = (Rat.divInt N D).floor := by
  have e1 := hn.abs.2.out
  have e2 := hd.abs.2.out
  have hY : 0 < D.natAbs := by omega
  have h := dqv_eq (s := s) (t := t) (u := t) (X := N.natAbs) hY
  obtain ⟨R, hR, hr⟩ := drv_lt (s := s) (u := t) (X := N.natAbs) hY
  rw [hr, ← e1, ← e2] at h
  generalize dqv s t t N.natAbs D.natAbs = q at *
  have h3 : (q + 1) * D = q * D + D := by rw [Int.add_mul, Int.one_mul]
  cases t
  · simp [sg] at e2 h
    exact (rfloor_pos (by omega) (by omega) (by omega)).symm
  · simp [sg] at e2 h
    exact (rfloor_negd (by omega) (by omega) (by omega)).symm
def NearPost (q : Rat) (k : Nat) (w : World) (e : Ending) (w' : World) : Prop := ∃ z, NearOk q z ∧ ZPost z k w e w'
theorem near_val {N D z : Int} (h0 : D ≠ 0) (h : RoundOk N D z) : NearOk (Rat.divInt N D) z := by
  rcases Int.lt_or_gt_of_ne h0 with h1 | h1
  · exact rnear_neg h1 (h.2 h1).1 (h.2 h1).2
  · exact rnear_pos h1 (h.1 h1).1 (h.1 h1).2
theorem near_zero : NearOk 0 0 := by unfold NearOk; decide +kernel
theorem NearPost.mk {q : Rat} {z : Int} {k : Nat} {w w' : World} {e : Ending} (h : NearOk q z) (p : ZPost z k w e w') : NearPost q k w e w' := ⟨z, h, p⟩
set_option maxRecDepth 100000 in
set_option maxHeartbeats 4000000 in
theorem isone_v {A : Option Addr} {n c : Nat} {s b : Bool} {N : Int} {w : World} (hn : Zv w s A n c N) (hnk : n ≤ 1099511627776) (hb : decide (N = 1) = b) :
    Calls Tryz.prog 17 #[.agg #[.bool s, .slice A n c]] w (fun e w' => e = .returned (.bool b) ∧ Below w.heap.size w w') := by
  have hW := Below.refl w.heap.size w
  obtain ⟨wp0, hwp0⟩ : ∃ x, x = w.alloc (.cells #[.bool s, .slice A n c] 25) := ⟨_, rfl⟩
  have zp0 : Below w.heap.size w wp0 := by rw [hwp0]; exact zba _ _
  have sp0 : wp0.heap.size = w.heap.size + 1 := by rw [hwp0, World.size_alloc]
  have Ia : Ib wp0 w.heap.size s A n c := by rw [hwp0]; exact Ib.new _ _ _ _ _ _
  replace hn := hn.below zp0
  replace hW := hW.trans (zp0.mono hW.size)
  have H_a := Lib.hid Ia
  clear Ia zp0
  have HW : Hid ((w.alloc (.cells #[.bool s, .slice A n c] 25)) = wp0) := Lib.hid (by rw [hwp0])
  have lw_a : w.heap.size ≤ w.heap.size := by omega
  clear hwp0 sp0
  have HB := Lib.hid hb
  clear hb
  go_enter Tryz.func17, Tryz.ntmps17
  obtain ⟨a1, a2, a3, a4, a5⟩ := H_a.out
  go_wp2_with fail
  rw [HW.out]
  clear a1 a2 a3 a4 a5
  refine region7 [] 4 [IsK (.agg #[.bool s, .slice A n c]), IsC 1 1, IsK (.bool b), IsK (.bool b)] (fun _ _ d _ _ h => by cases d <;> exact h) (by kernel_rfl) (by kernel_rfl) (by kernel_rfl) ⟨stay_k _, stay_c _ _, stay_k _, stay_k _, trivial⟩ ?_ ?_
  · refine HopAll.cons rfl ?_ (HopAll.cons rfl ?_ (HopAll.cons rfl ?_ (HopAll.cons rfl ?_ HopAll.nil)))
    · intro a w1 hB ho hp K hK
      have e1 : a.eval (.tmp 1) = (.pointer (some ⟨w.heap.size, 0, none⟩)) := ho 1 (by kernel_rfl)
      obtain ⟨u1, u2, u3, u4, u5⟩ := H_a.out.below hB
      exact hop_load (wanted_none rfl) rfl e1 (run_ldz u1 u2) (hK _ _ rfl (Below.refl _ _))
    · intro a w1 hB ho hp K hK
      refine hop_call (wanted_none rfl) rfl (args := #[.int .i64 (1)]) (by simp only [List.map_toArray, List.map_cons, List.map_nil, eval_const]) (ent7 (by kernel_rfl) _ _) (zof_v 1 (by omega) (by omega) _) ?_
      rintro e w2 ⟨s, A, n, c, rfl, p, k, B⟩
      exact ⟨_, rfl, hK _ _ ⟨s, A, n, c, rfl, p, by omega⟩ B⟩
    · intro a w1 hB ho hp K hK
      have e3 : a.eval (.tmp 3) = (.agg #[.bool s, .slice A n c]) := hp 0 3 (by kernel_rfl)
      obtain ⟨s4, A4, n4, c4, e4, p4, k4⟩ : IsC 1 1 (a.eval (.tmp 4)) w1 := hp 1 4 (by kernel_rfl)
      refine hop_call (wanted_none rfl) rfl (args := #[(.agg #[.bool s, .slice A n c]), (.agg #[.bool s4, .slice A4 n4 c4])]) (by simp only [List.map_toArray, List.map_cons, List.map_nil, eval_const, e3, e4]) (ent7 (by kernel_rfl) _ _) (zsame_v (hn.below hB) p4.zv (by omega) (by omega) HB.out) ?_
      rintro e w2 ⟨rfl, B⟩
      exact ⟨_, rfl, hK _ _ rfl B⟩
    · intro a w1 hB ho hp K hK
      have e5 : a.eval (.tmp 5) = (.bool b) := hp 2 5 (by kernel_rfl)
      refine hop_val (wanted_none rfl) ?_ (hK (.bool b) _ rfl (Below.refl _ _))
      unfold execOp; simp only [eval_const, e5]; simp [go_sem]
  intro w21 B21
  refine EndAll.one rfl fun vv hv => ?_
  obtain rfl : vv = (.agg #[.bool s, .slice A n c]) := hv
  refine EndAll.one rfl fun vv hv => ?_
  obtain ⟨s22, A22, n22, c22, rfl, p22, k22⟩ : IsC 1 1 vv w21 := hv
  refine EndAll.one rfl fun vv hv => ?_
  obtain rfl : vv = (.bool b) := hv
  refine EndAll.one rfl fun vv hv => ?_
  obtain rfl : vv = (.bool b) := hv
  refine EndAll.nil (l := []) rfl ?_
  simp only [Act.put, List.setIfInBounds_toArray, List.set_cons_zero, List.set_cons_succ]
  replace H_a := Lib.hid (H_a.out.below B21)
  replace hn := hn.below B21
  replace hW := hW.trans (B21.mono hW.size)
  clear B21
  go_wp2_with fail
  go_ret
  exact ⟨rfl, hW⟩
end Go.Proofs.YtfpncmhaoadfdaaGreat
