/-
  Package rat: Pow, Print; zint.Pow.
-/
import Derived.Test.YtfpncmhaoadfdaaGreatRatC
/-! Contracts: rat.Pow, Print; zint.Pow. -/
namespace Go.Proofs.YtfpncmhaoadfdaaGreat
open Go.RowKit
set_option linter.unusedVariables false
set_option linter.unusedSimpArgs false

theorem sg_pow_even {N : Int} {e : Nat} (h : e % 2 = 0) : ((N.natAbs ^ e : Nat) : Int) = N ^ e := by
  rw [Int.natCast_pow]
  rcases Int.natAbs_eq N with k | k
  · rw [← k]
  · generalize N.natAbs = v at *
    subst k
    obtain ⟨j, rfl⟩ : ∃ j, e = 2 * j := ⟨e / 2, by omega⟩
    rw [Int.pow_mul, Int.pow_mul]
    congr 1
    rw [Int.pow_succ, Int.pow_succ, Int.pow_zero, Int.pow_succ, Int.pow_succ, Int.pow_zero]
    simp [Int.neg_mul_neg]
theorem sg_pow_odd {v e : Nat} (h : e % 2 = 1) : -((v ^ e : Nat) : Int) = (-(v : Int)) ^ e := by
  obtain ⟨j, rfl⟩ : ∃ j, e = j + 1 := ⟨e - 1, by omega⟩
  have h2 := sg_pow_even (N := -(v : Int)) (e := j) (by omega)
  rw [Int.natAbs_neg, Int.natAbs_natCast] at h2
  rw [Int.pow_succ, ← h2, Nat.pow_succ, Int.natCast_mul]
  rw [Int.mul_neg]
theorem sg_pow_false {N : Int} {e : Nat} (h : N = sg false N.natAbs) : sg false (N.natAbs ^ e) = N ^ e := by
  have : ((N.natAbs : Nat) : Int) = N := by rw [sg_false] at h; exact h.symm
  rw [sg_false, Int.natCast_pow, this]
theorem zstr_size {w : World} {s : Bool} {A : Option Addr} {n c : Nat} {z : Int} (h : Zv w s A n c z) (hn : n ≤ 900) : (zstr z).size ≤ 20001 := by
  have hsz : (str (dgs z.natAbs)).size ≤ 20000 := by
    rw [← bys_length, bys_str (dig_dgs z.natAbs).low, dgs_length]
    exact nv_digits h.abs.1 hn
  unfold zstr
  split
  · rw [ByteArray.size_append]
    have : ({ data := #[45] } : ByteArray).size = 1 := rfl
    omega
  · omega
/-- The text of a fraction. -/
def qstr (q : Rat) : ByteArray := if q.den = 1 then zstr q.num else zstr q.num ++ ({ data := #[47] } : ByteArray) ++ zstr (q.den : Int)
def QPrPost (q : Rat) (w : World) (e : Ending) (w' : World) : Prop := e = .returned (.string (qstr q)) ∧ Below w.heap.size w w'
set_option maxRecDepth 100000 in
set_option maxHeartbeats 4000000 in
theorem qprint_one {A B : Option Addr} {n c m d k : Nat} {s t : Bool} {N D : Int} {w : World} (hn : Zv w s A n c N) (hd : Zv w t B m d D) (hnk : n ≤ k) (hmk : m ≤ k) (h1 : 1 ≤ k) (hk : k ≤ 900) (h : (Rat.divInt N D).den = 1) :
    Calls Tryz.prog 6 #[.agg #[.bool s, .slice A n c, .bool t, .slice B m d]] w (QPrPost (Rat.divInt N D) w) := by
  have hW := Below.refl w.heap.size w
  obtain ⟨wp0, hwp0⟩ : ∃ x, x = w.alloc (.cells #[.bool s, .slice A n c, .bool t, .slice B m d] 27) := ⟨_, rfl⟩
  have zp0 : Below w.heap.size w wp0 := by rw [hwp0]; exact zba _ _
  have sp0 : wp0.heap.size = w.heap.size + 1 := by rw [hwp0, World.size_alloc]
  have Ia : Rb wp0 w.heap.size s A n c t B m d := by rw [hwp0]; exact Rb.new _ _ _ _ _ _ _ _ _ _
  replace hn := hn.below zp0
  replace hd := hd.below zp0
  replace hW := hW.trans (zp0.mono hW.size)
  have H_a := Lib.hid Ia
  clear Ia zp0
  have HW : Hid ((w.alloc (.cells #[.bool s, .slice A n c, .bool t, .slice B m d] 27)) = wp0) := Lib.hid (by rw [hwp0])
  have lw_a : w.heap.size ≤ w.heap.size := by omega
  clear hwp0 sp0
  obtain ⟨q, hq⟩ : ∃ q, Rat.divInt N D = q := ⟨_, rfl⟩
  have HQ := Lib.hid hq
  rw [hq] at h
  rw [hq]
  have HB : Hid (decide ((q.den : Int) = 1) = true) := Lib.hid (by simp; omega)
  obtain ⟨S1, hS1⟩ : ∃ S, zstr q.num = S := ⟨_, rfl⟩
  obtain ⟨S2, hS2⟩ : ∃ S, zstr (q.den : Int) = S := ⟨_, rfl⟩
  have HS1 := Lib.hid hS1
  have HS2 := Lib.hid hS2
  have HS : Hid (qstr q = S1) := Lib.hid (by unfold qstr; rw [if_pos h, hS1])
  clear hq hS1 hS2 h
  go_enter Tryz.func6, Tryz.ntmps6
  obtain ⟨a1, a2, a3, a4, a5, a6, a7, a8, a9⟩ := H_a.out
  go_wp2_with fail
  rw [HW.out]
  clear a1 a2 a3 a4 a5 a6 a7 a8 a9
  refine (normal_v (k := k) hn hd hnk hmk h1 (by omega)).mono ?_
  rintro e w21 ⟨s21, A21, n21, c21, t21, D21, m21, d21, rfl, pq, k21, l21, B21⟩
  replace H_a := Lib.hid (H_a.out.below B21)
  replace hn := hn.below B21
  replace hd := hd.below B21
  replace hW := hW.trans (B21.mono hW.size)
  clear B21
  rw [HQ.out] at pq
  have O_a := H_a
  obtain ⟨w22, hw22⟩ : ∃ x, x = rput w21 w.heap.size s21 A21 n21 c21 t21 D21 m21 d21 := ⟨_, rfl⟩
  have HW22 : Hid (((((w21.setCell ⟨w.heap.size, 0, none⟩ (.bool s21)).setCell ⟨w.heap.size, 1, none⟩ (.slice A21 n21 c21)).setCell ⟨w.heap.size, 2, none⟩ (.bool t21)).setCell ⟨w.heap.size, 3, none⟩ (.slice D21 m21 d21)) = w22) := Lib.hid hw22.symm
  have OI := H_a.out
  replace hn := hn.rput (s' := s21) (A' := A21) (n' := n21) (c' := c21) (t' := t21) (B' := D21) (m' := m21) (d' := d21) OI
  replace hd := hd.rput (s' := s21) (A' := A21) (n' := n21) (c' := c21) (t' := t21) (B' := D21) (m' := m21) (d' := d21) OI
  replace pq := pq.rput (s' := s21) (A' := A21) (n' := n21) (c' := c21) (t' := t21) (B' := D21) (m' := m21) (d' := d21) OI
  rw [← hw22] at hn
  rw [← hw22] at hd
  rw [← hw22] at pq
  replace hW : Below w.heap.size w w22 := by rw [hw22]; exact below_rput hW lw_a
  replace H_a : Hid (Rb w22 w.heap.size s21 A21 n21 c21 t21 D21 m21 d21) := Lib.hid (by rw [hw22]; exact OI.own)
  clear hw22 OI
  clear hn hd
  have hz1 : S1.size ≤ 9223372036854775806 := by have := zstr_size pq.nv (by omega); rw [HS1.out] at this; omega
  have hz2 : S1.size + 1 + S2.size ≤ 9223372036854775807 := by have k1 := zstr_size pq.nv (by omega); have k2 := zstr_size pq.dv (by omega); rw [HS1.out] at k1; rw [HS2.out] at k2; omega
  obtain ⟨a1, a2, a3, a4, a5, a6, a7, a8, a9⟩ := O_a.out
  go_wp2_with fail
  rw [HW22.out]
  clear a1 a2 a3 a4 a5 a6 a7 a8 a9 O_a
  refine (isone_v pq.dv (by omega) HB.out).mono ?_
  rintro e w23 ⟨rfl, B23⟩
  replace H_a := Lib.hid (H_a.out.below B23)
  replace pq := pq.below B23
  replace hW := hW.trans (B23.mono hW.size)
  clear B23
  have PR1 : ∀ w : World, ZPrPost q.num w = fun e w' => e = .returned (.string S1) ∧ Below w.heap.size w w' := fun w => by unfold ZPrPost; rw [HS1.out]
  have PR2 : ∀ w : World, ZPrPost (q.den : Int) w = fun e w' => e = .returned (.string S2) ∧ Below w.heap.size w w' := fun w => by unfold ZPrPost; rw [HS2.out]
  obtain ⟨a1, a2, a3, a4, a5, a6, a7, a8, a9⟩ := H_a.out
  go_wp2_with fail
  clear a1 a2 a3 a4 a5 a6 a7 a8 a9
  refine ((PR1 _) ▸ zprint_v pq.nv (by omega)).mono ?_
  rintro e w24 ⟨rfl, B24⟩
  replace H_a := Lib.hid (H_a.out.below B24)
  replace pq := pq.below B24
  replace hW := hW.trans (B24.mono hW.size)
  clear B24
  go_wp2_with fail
  go_ret
  unfold QPrPost
  rw [HS.out]
  exact ⟨rfl, hW⟩
set_option maxRecDepth 100000 in
set_option maxHeartbeats 4000000 in
theorem qprint_two {A B : Option Addr} {n c m d k : Nat} {s t : Bool} {N D : Int} {w : World} (hn : Zv w s A n c N) (hd : Zv w t B m d D) (hnk : n ≤ k) (hmk : m ≤ k) (h1 : 1 ≤ k) (hk : k ≤ 900) (h : (Rat.divInt N D).den ≠ 1) :
    Calls Tryz.prog 6 #[.agg #[.bool s, .slice A n c, .bool t, .slice B m d]] w (QPrPost (Rat.divInt N D) w) := by
  have hW := Below.refl w.heap.size w
  obtain ⟨wp0, hwp0⟩ : ∃ x, x = w.alloc (.cells #[.bool s, .slice A n c, .bool t, .slice B m d] 27) := ⟨_, rfl⟩
  have zp0 : Below w.heap.size w wp0 := by rw [hwp0]; exact zba _ _
  have sp0 : wp0.heap.size = w.heap.size + 1 := by rw [hwp0, World.size_alloc]
  have Ia : Rb wp0 w.heap.size s A n c t B m d := by rw [hwp0]; exact Rb.new _ _ _ _ _ _ _ _ _ _
  replace hn := hn.below zp0
  replace hd := hd.below zp0
  replace hW := hW.trans (zp0.mono hW.size)
  have H_a := Lib.hid Ia
  clear Ia zp0
  have HW : Hid ((w.alloc (.cells #[.bool s, .slice A n c, .bool t, .slice B m d] 27)) = wp0) := Lib.hid (by rw [hwp0])
  have lw_a : w.heap.size ≤ w.heap.size := by omega
  clear hwp0 sp0
  obtain ⟨q, hq⟩ : ∃ q, Rat.divInt N D = q := ⟨_, rfl⟩
  have HQ := Lib.hid hq
  rw [hq] at h
  rw [hq]
  have HB : Hid (decide ((q.den : Int) = 1) = false) := Lib.hid (by simp; omega)
  obtain ⟨S1, hS1⟩ : ∃ S, zstr q.num = S := ⟨_, rfl⟩
  obtain ⟨S2, hS2⟩ : ∃ S, zstr (q.den : Int) = S := ⟨_, rfl⟩
  have HS1 := Lib.hid hS1
  have HS2 := Lib.hid hS2
  have HS : Hid (qstr q = S1 ++ ({ data := #[47] } : ByteArray) ++ S2) := Lib.hid (by unfold qstr; rw [if_neg h, hS1, hS2])
  clear hq hS1 hS2 h
  go_enter Tryz.func6, Tryz.ntmps6
  obtain ⟨a1, a2, a3, a4, a5, a6, a7, a8, a9⟩ := H_a.out
  go_wp2_with fail
  rw [HW.out]
  clear a1 a2 a3 a4 a5 a6 a7 a8 a9
  refine (normal_v (k := k) hn hd hnk hmk h1 (by omega)).mono ?_
  rintro e w21 ⟨s21, A21, n21, c21, t21, D21, m21, d21, rfl, pq, k21, l21, B21⟩
  replace H_a := Lib.hid (H_a.out.below B21)
  replace hn := hn.below B21
  replace hd := hd.below B21
  replace hW := hW.trans (B21.mono hW.size)
  clear B21
  rw [HQ.out] at pq
  have O_a := H_a
  obtain ⟨w22, hw22⟩ : ∃ x, x = rput w21 w.heap.size s21 A21 n21 c21 t21 D21 m21 d21 := ⟨_, rfl⟩
  have HW22 : Hid (((((w21.setCell ⟨w.heap.size, 0, none⟩ (.bool s21)).setCell ⟨w.heap.size, 1, none⟩ (.slice A21 n21 c21)).setCell ⟨w.heap.size, 2, none⟩ (.bool t21)).setCell ⟨w.heap.size, 3, none⟩ (.slice D21 m21 d21)) = w22) := Lib.hid hw22.symm
  have OI := H_a.out
  replace hn := hn.rput (s' := s21) (A' := A21) (n' := n21) (c' := c21) (t' := t21) (B' := D21) (m' := m21) (d' := d21) OI
  replace hd := hd.rput (s' := s21) (A' := A21) (n' := n21) (c' := c21) (t' := t21) (B' := D21) (m' := m21) (d' := d21) OI
  replace pq := pq.rput (s' := s21) (A' := A21) (n' := n21) (c' := c21) (t' := t21) (B' := D21) (m' := m21) (d' := d21) OI
  rw [← hw22] at hn
  rw [← hw22] at hd
  rw [← hw22] at pq
  replace hW : Below w.heap.size w w22 := by rw [hw22]; exact below_rput hW lw_a
  replace H_a : Hid (Rb w22 w.heap.size s21 A21 n21 c21 t21 D21 m21 d21) := Lib.hid (by rw [hw22]; exact OI.own)
  clear hw22 OI
  clear hn hd
  have hz1 : S1.size ≤ 9223372036854775806 := by have := zstr_size pq.nv (by omega); rw [HS1.out] at this; omega
  have hz2 : S1.size + 1 + S2.size ≤ 9223372036854775807 := by have k1 := zstr_size pq.nv (by omega); have k2 := zstr_size pq.dv (by omega); rw [HS1.out] at k1; rw [HS2.out] at k2; omega
  obtain ⟨a1, a2, a3, a4, a5, a6, a7, a8, a9⟩ := O_a.out
  go_wp2_with fail
  rw [HW22.out]
  clear a1 a2 a3 a4 a5 a6 a7 a8 a9 O_a
  refine (isone_v pq.dv (by omega) HB.out).mono ?_
  rintro e w23 ⟨rfl, B23⟩
  replace H_a := Lib.hid (H_a.out.below B23)
  replace pq := pq.below B23
  replace hW := hW.trans (B23.mono hW.size)
  clear B23
  have PR1 : ∀ w : World, ZPrPost q.num w = fun e w' => e = .returned (.string S1) ∧ Below w.heap.size w w' := fun w => by unfold ZPrPost; rw [HS1.out]
  have PR2 : ∀ w : World, ZPrPost (q.den : Int) w = fun e w' => e = .returned (.string S2) ∧ Below w.heap.size w w' := fun w => by unfold ZPrPost; rw [HS2.out]
  obtain ⟨a1, a2, a3, a4, a5, a6, a7, a8, a9⟩ := H_a.out
  go_wp2_with fail
  clear a1 a2 a3 a4 a5 a6 a7 a8 a9
  refine region7 [] 9 [IsK (.pointer (some ⟨w.heap.size, 0, none⟩)), IsK (.agg #[.bool s21, .slice A21 n21 c21]), IsK (.string S1), IsK (.string (S1 ++ ({ data := #[47] } : ByteArray))), IsK (.pointer (some ⟨w.heap.size, 2, none⟩)), IsK (.agg #[.bool t21, .slice D21 m21 d21]), IsK (.string S2), IsK (.string (S1 ++ ({ data := #[47] } : ByteArray) ++ S2)), IsK (.string (S1 ++ ({ data := #[47] } : ByteArray) ++ S2))] (fun _ _ d _ _ h => by cases d <;> exact h) (by kernel_rfl) (by kernel_rfl) (by kernel_rfl) ⟨stay_k _, stay_k _, stay_k _, stay_k _, stay_k _, stay_k _, stay_k _, stay_k _, stay_k _, trivial⟩ ?_ ?_
  · refine HopAll.cons rfl ?_ (HopAll.cons rfl ?_ (HopAll.cons rfl ?_ (HopAll.cons rfl ?_ (HopAll.cons rfl ?_ (HopAll.cons rfl ?_ (HopAll.cons rfl ?_ (HopAll.cons rfl ?_ (HopAll.cons rfl ?_ HopAll.nil))))))))
    · intro a w1 hB ho hp K hK
      have e1 : a.eval (.tmp 1) = (.pointer (some ⟨w.heap.size, 0, none⟩)) := ho 1 (by kernel_rfl)
      refine hop_val (wanted_none rfl) ?_ (hK (.pointer (some ⟨w.heap.size, 0, none⟩)) _ rfl (Below.refl _ _))
      unfold execOp; simp only [e1]; simp [go_sem]
    · intro a w1 hB ho hp K hK
      have e14 : a.eval (.tmp 14) = (.pointer (some ⟨w.heap.size, 0, none⟩)) := hp 0 14 (by kernel_rfl)
      obtain ⟨u1, u2, u3, u4, u5, u6, u7, u8, u9⟩ := H_a.out.below hB
      exact hop_load (wanted_none rfl) rfl e14 (run_ldz u1 u2) (hK _ _ rfl (Below.refl _ _))
    · intro a w1 hB ho hp K hK
      have e15 : a.eval (.tmp 15) = (.agg #[.bool s21, .slice A21 n21 c21]) := hp 1 15 (by kernel_rfl)
      refine hop_call (wanted_none rfl) rfl (args := #[(.agg #[.bool s21, .slice A21 n21 c21])]) (by simp only [List.map_toArray, List.map_cons, List.map_nil, eval_const, e15]) (ent7 (by kernel_rfl) _ _) ((PR1 _) ▸ zprint_v (pq.below hB).nv (by omega)) ?_
      rintro e w2 ⟨rfl, B⟩
      exact ⟨_, rfl, hK _ _ rfl B⟩
    · intro a w1 hB ho hp K hK
      have e16 : a.eval (.tmp 16) = (.string S1) := hp 2 16 (by kernel_rfl)
      refine hop_val (wanted_none rfl) ?_ (hK (.string (S1 ++ ({ data := #[47] } : ByteArray))) _ rfl (Below.refl _ _))
      unfold execOp; simp only [eval_const, e16]; simp [go_sem, hz1]
    · intro a w1 hB ho hp K hK
      have e1 : a.eval (.tmp 1) = (.pointer (some ⟨w.heap.size, 0, none⟩)) := ho 1 (by kernel_rfl)
      refine hop_val (wanted_none rfl) ?_ (hK (.pointer (some ⟨w.heap.size, 2, none⟩)) _ rfl (Below.refl _ _))
      unfold execOp; simp only [e1]; simp [go_sem]
    · intro a w1 hB ho hp K hK
      have e18 : a.eval (.tmp 18) = (.pointer (some ⟨w.heap.size, 2, none⟩)) := hp 4 18 (by kernel_rfl)
      obtain ⟨u1, u2, u3, u4, u5, u6, u7, u8, u9⟩ := H_a.out.below hB
      exact hop_load (wanted_none rfl) rfl e18 (run_ldz u3 u4) (hK _ _ rfl (Below.refl _ _))
    · intro a w1 hB ho hp K hK
      have e19 : a.eval (.tmp 19) = (.agg #[.bool t21, .slice D21 m21 d21]) := hp 5 19 (by kernel_rfl)
      refine hop_call (wanted_none rfl) rfl (args := #[(.agg #[.bool t21, .slice D21 m21 d21])]) (by simp only [List.map_toArray, List.map_cons, List.map_nil, eval_const, e19]) (ent7 (by kernel_rfl) _ _) ((PR2 _) ▸ zprint_v (pq.below hB).dv (by omega)) ?_
      rintro e w2 ⟨rfl, B⟩
      exact ⟨_, rfl, hK _ _ rfl B⟩
    · intro a w1 hB ho hp K hK
      have e17 : a.eval (.tmp 17) = (.string (S1 ++ ({ data := #[47] } : ByteArray))) := hp 3 17 (by kernel_rfl)
      have e20 : a.eval (.tmp 20) = (.string S2) := hp 6 20 (by kernel_rfl)
      refine hop_val (wanted_none rfl) ?_ (hK (.string (S1 ++ ({ data := #[47] } : ByteArray) ++ S2)) _ rfl (Below.refl _ _))
      unfold execOp; simp only [eval_const, e17, e20]; simp [go_sem, hz2]
    · intro a w1 hB ho hp K hK
      have e21 : a.eval (.tmp 21) = (.string (S1 ++ ({ data := #[47] } : ByteArray) ++ S2)) := hp 7 21 (by kernel_rfl)
      refine hop_val (wanted_none rfl) ?_ (hK (.string (S1 ++ ({ data := #[47] } : ByteArray) ++ S2)) _ rfl (Below.refl _ _))
      unfold execOp; simp only [eval_const, e21]; simp [go_sem]
  intro w24 B24
  refine EndAll.one rfl fun vv hv => ?_
  obtain rfl : vv = (.pointer (some ⟨w.heap.size, 0, none⟩)) := hv
  refine EndAll.one rfl fun vv hv => ?_
  obtain rfl : vv = (.agg #[.bool s21, .slice A21 n21 c21]) := hv
  refine EndAll.one rfl fun vv hv => ?_
  obtain rfl : vv = (.string S1) := hv
  refine EndAll.one rfl fun vv hv => ?_
  obtain rfl : vv = (.string (S1 ++ ({ data := #[47] } : ByteArray))) := hv
  refine EndAll.one rfl fun vv hv => ?_
  obtain rfl : vv = (.pointer (some ⟨w.heap.size, 2, none⟩)) := hv
  refine EndAll.one rfl fun vv hv => ?_
  obtain rfl : vv = (.agg #[.bool t21, .slice D21 m21 d21]) := hv
  refine EndAll.one rfl fun vv hv => ?_
  obtain rfl : vv = (.string S2) := hv
  refine EndAll.one rfl fun vv hv => ?_
  obtain rfl : vv = (.string (S1 ++ ({ data := #[47] } : ByteArray) ++ S2)) := hv
  refine EndAll.one rfl fun vv hv => ?_
  obtain rfl : vv = (.string (S1 ++ ({ data := #[47] } : ByteArray) ++ S2)) := hv
  refine EndAll.nil (l := []) rfl ?_
  simp only [Act.put, List.setIfInBounds_toArray, List.set_cons_zero, List.set_cons_succ]
  replace H_a := Lib.hid (H_a.out.below B24)
  replace pq := pq.below B24
  replace hW := hW.trans (B24.mono hW.size)
  clear B24
  go_wp2_with fail
  go_ret
  unfold QPrPost
  rw [HS.out]
  exact ⟨rfl, hW⟩
theorem qprint_v {A B : Option Addr} {n c m d k : Nat} {s t : Bool} {N D : Int} {w : World} (hn : Zv w s A n c N) (hd : Zv w t B m d D) (hnk : n ≤ k) (hmk : m ≤ k) (h1 : 1 ≤ k) (hk : k ≤ 900) :
    Calls Tryz.prog 6 #[.agg #[.bool s, .slice A n c, .bool t, .slice B m d]] w (QPrPost (Rat.divInt N D) w) := by
  by_cases h : (Rat.divInt N D).den = 1
  · exact qprint_one hn hd hnk hmk h1 hk h
  · exact qprint_two hn hd hnk hmk h1 hk h
end Go.Proofs.YtfpncmhaoadfdaaGreat
