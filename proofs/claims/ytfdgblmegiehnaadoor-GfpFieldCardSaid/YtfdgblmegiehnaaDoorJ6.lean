/-
  The walk of GfpField.
-/
import Derived.Test.YtfdgblmegiehnaaDoorGfpC
/-! The walk of GfpField. -/
namespace Go.Proofs.YtfdgblmegiehnaaDoor
open Go.RowKit
set_option linter.unusedVariables false
set_option linter.unusedSimpArgs false

theorem dist_mod (p x y z : Nat) : x * ((y + z) % p) % p = (x * y % p + x * z % p) % p := by
  rw [Nat.mul_mod, Nat.mod_mod, ← Nat.mul_mod, Nat.mul_add, Nat.add_mod]
theorem assoc_mod (p x y z : Nat) : x * (y * z % p) % p = x * y % p * z % p := by
  rw [Nat.mul_mod_mod, Nat.mod_mul_mod, Nat.mul_assoc]
theorem back_mod {p x y : Nat} (hp : 0 < p) : ((p + x % p - y % p) % p + y) % p = x % p := by
  have h1 := Nat.mod_lt y hp
  have h2 := Nat.mod_lt x hp
  rw [Nat.add_mod, Nat.mod_mod, ← Nat.add_mod_mod, ← Nat.add_mod]
  rw [show p + x % p - y % p + y % p = p + x % p by omega, Nat.add_mod_left, Nat.mod_mod]
set_option maxRecDepth 100000 in
set_option maxHeartbeats 4000000 in
theorem field_calls {n x y z : Nat} {w : World} (hn : n < 256) (hx : x < 18446744073709551616) (hy : y < 18446744073709551616) (hz : z < 18446744073709551616) (hT : TabHas w) :
    Calls Tryd.prog 8 #[.int .u8 (n : Int), .agg #[.int .u64 (x : Int), .int .u64 (y : Int), .int .u64 (z : Int)]] w (fun e w' => e = .returned (.bool true) ∧ Below w.heap.size w w') := by
  obtain ⟨p, hp0⟩ : ∃ p, pn (n % 12) = p := ⟨_, rfl⟩
  have hp := pn_pr (n % 12) (by omega)
  rw [hp0] at hp
  have hW := Below.refl w.heap.size w
  obtain ⟨wp0, hwp0⟩ : ∃ xw, xw = w.alloc (.cells #[.int .u64 (x : Int), .int .u64 (y : Int), .int .u64 (z : Int)] 51) := ⟨_, rfl⟩
  have zp0 : Below w.heap.size w wp0 := by rw [hwp0]; exact zba _ _
  have sp0 : wp0.heap.size = w.heap.size + 1 := by rw [hwp0, World.size_alloc]
  have It : Tb wp0 w.heap.size x y z := by rw [hwp0]; exact Tb.new _ _ _ _ _
  replace hT := hT.below zp0
  replace hW := hW.trans (zp0.mono hW.size)
  have H_t := Lib.hid It
  clear It zp0
  have HW : Hid ((w.alloc (.cells #[.int .u64 (x : Int), .int .u64 (y : Int), .int .u64 (z : Int)] 51)) = wp0) := Lib.hid (by rw [hwp0])
  have lw_t : w.heap.size ≤ w.heap.size := by omega
  clear hwp0 sp0
  have h2 : 2 ≤ p := hp.2.2
  have h : p < 2147483648 := hp.2.1
  have HPR := Lib.hid hp.1
  clear hp
  obtain ⟨ab, hab⟩ : ∃ ab, ab + 2 = p := ⟨p - 2, by omega⟩
  have HP := Lib.hid hab
  clear hab
  have HP0 := Lib.hid hp0
  clear hp0
  have hpn : ¬ (p = 0) := by omega
  obtain ⟨S1, hS1⟩ : ∃ S1, (y + z) % p = S1 := ⟨_, rfl⟩
  have HS1 := Lib.hid hS1
  obtain ⟨XY, hXY⟩ : ∃ XY, x * y % p = XY := ⟨_, rfl⟩
  have HXY := Lib.hid hXY
  obtain ⟨XZ, hXZ⟩ : ∃ XZ, x * z % p = XZ := ⟨_, rfl⟩
  have HXZ := Lib.hid hXZ
  obtain ⟨R1, hR1⟩ : ∃ R1, x * S1 % p = R1 := ⟨_, rfl⟩
  have HR1 := Lib.hid hR1
  obtain ⟨YZ, hYZ⟩ : ∃ YZ, y * z % p = YZ := ⟨_, rfl⟩
  have HYZ := Lib.hid hYZ
  obtain ⟨R2, hR2⟩ : ∃ R2, x * YZ % p = R2 := ⟨_, rfl⟩
  have HR2 := Lib.hid hR2
  obtain ⟨D, hD⟩ : ∃ D, (p + x % p - y % p) % p = D := ⟨_, rfl⟩
  have HD := Lib.hid hD
  obtain ⟨X, hX⟩ : ∃ X, x % p = X := ⟨_, rfl⟩
  have HX := Lib.hid hX
  have lS : S1 < p := hS1 ▸ Nat.mod_lt _ (by omega)
  have lXY : XY < p := hXY ▸ Nat.mod_lt _ (by omega)
  have lXZ : XZ < p := hXZ ▸ Nat.mod_lt _ (by omega)
  have lYZ : YZ < p := hYZ ▸ Nat.mod_lt _ (by omega)
  have lD : D < p := hD ▸ Nat.mod_lt _ (by omega)
  have HA : Hid ((XY + XZ) % p = R1) := Lib.hid (by rw [← hR1, ← hS1, ← hXY, ← hXZ, dist_mod])
  have HB : Hid (XY * z % p = R2) := Lib.hid (by rw [← hR2, ← hYZ, ← hXY, assoc_mod])
  have HC : Hid ((D + y) % p = X) := Lib.hid (by rw [← hX, ← hD, back_mod (by omega)])
  clear hS1 hXY hXZ hR1 hYZ hR2 hD hX
  go_enter Tryd.func8, Tryd.ntmps8
  obtain ⟨t1, t2, t3, t4, t5, t6, t7⟩ := H_t.out
  go_wp2_with fail
  rw [HW.out]
  clear t1 t2 t3 t4 t5 t6 t7
  refine (rp_calls (p := p) hn HP0.out _).mono ?_
  rintro e w21 ⟨rfl, B21⟩
  replace H_t := Lib.hid (H_t.out.below B21)
  replace hT := hT.below B21
  replace hW := hW.trans (B21.mono hW.size)
  clear B21
  obtain ⟨t1, t2, t3, t4, t5, t6, t7⟩ := H_t.out
  go_wp2_with fail
  clear t1 t2 t3 t4 t5 t6 t7
  refine (fnew_yes (ab := ab) (by omega) hT HPR.out h HP.out).mono ?_
  rintro e w22 ⟨rfl, B22⟩
  replace H_t := Lib.hid (H_t.out.below B22)
  replace hT := hT.below B22
  replace hW := hW.trans (B22.mono hW.size)
  clear B22
  have O_t := H_t
  obtain ⟨w23, hw23⟩ : ∃ xw, xw = w22.alloc (.cells #[.int .u64 (ab : Int)] 25) := ⟨_, rfl⟩
  have z23 : Below w22.heap.size w22 w23 := by rw [hw23]; exact zba _ _
  have HW23 : Hid (w22.alloc (.cells #[.int .u64 (ab : Int)] 25) = w23) := Lib.hid hw23.symm
  have nn_t_f : ¬ (w.heap.size = w22.heap.size) := by have := H_t.out.2.2.2.2.2.2; omega
  have nm_t_f : ¬ (w22.heap.size = w.heap.size) := by omega
  have lw_f : w.heap.size ≤ w22.heap.size := by have := hW.size; omega
  replace H_t := Lib.hid (H_t.out.below z23)
  replace hT := hT.below z23
  replace hW := hW.trans (z23.mono hW.size)
  have H_f : Hid (Fb w23 w22.heap.size ab) := Lib.hid (by rw [hw23]; exact Fb.new _ _ _)
  clear z23 hw23
  obtain ⟨t1, t2, t3, t4, t5, t6, t7⟩ := O_t.out
  go_wp2_with fail
  rw [HW23.out]
  clear t1 t2 t3 t4 t5 t6 t7 O_t
  refine region8 [] 9 [IsK (.pointer (some ⟨w.heap.size, 0, none⟩)), IsK (.int .u64 (x : Int)), IsK (.pointer (some ⟨w.heap.size, 1, none⟩)), IsK (.int .u64 (y : Int)), IsK (.pointer (some ⟨w.heap.size, 2, none⟩)), IsK (.int .u64 (z : Int)), IsK (.int .u64 (x : Int)), IsK (.int .u64 (y : Int)), IsK (.int .u64 (z : Int))] (fun _ _ d _ _ h => by cases d <;> exact h) (by kernel_rfl) (by kernel_rfl) (by kernel_rfl) ⟨stay_k _, stay_k _, stay_k _, stay_k _, stay_k _, stay_k _, stay_k _, stay_k _, stay_k _, trivial⟩ ?_ ?_
  · refine HopAll.cons rfl ?_ (HopAll.cons rfl ?_ (HopAll.cons rfl ?_ (HopAll.cons rfl ?_ (HopAll.cons rfl ?_ (HopAll.cons rfl ?_ (HopAll.cons rfl ?_ (HopAll.cons rfl ?_ (HopAll.cons rfl ?_ HopAll.nil))))))))
    · intro a w1 hB ho hp K hK
      have e3 : a.eval (.tmp 3) = (.pointer (some ⟨w.heap.size, 0, none⟩)) := ho 3 (by kernel_rfl)
      refine hop_val (wanted_none rfl) ?_ (hK (.pointer (some ⟨w.heap.size, 0, none⟩)) _ rfl (Below.refl _ _))
      unfold execOp; simp only [eval_const, e3]; simp [go_sem]
    · intro a w1 hB ho hp K hK
      have e16 : a.eval (.tmp 16) = (.pointer (some ⟨w.heap.size, 0, none⟩)) := hp 0 16 (by kernel_rfl)
      obtain ⟨u1, u2, u3, u4, u5, u6, u7⟩ := H_t.out.below hB
      exact hop_load (wanted_none rfl) rfl e16 (run_ldu u1) (hK _ _ rfl (Below.refl _ _))
    · intro a w1 hB ho hp K hK
      have e3 : a.eval (.tmp 3) = (.pointer (some ⟨w.heap.size, 0, none⟩)) := ho 3 (by kernel_rfl)
      refine hop_val (wanted_none rfl) ?_ (hK (.pointer (some ⟨w.heap.size, 1, none⟩)) _ rfl (Below.refl _ _))
      unfold execOp; simp only [eval_const, e3]; simp [go_sem]
    · intro a w1 hB ho hp K hK
      have e18 : a.eval (.tmp 18) = (.pointer (some ⟨w.heap.size, 1, none⟩)) := hp 2 18 (by kernel_rfl)
      obtain ⟨u1, u2, u3, u4, u5, u6, u7⟩ := H_t.out.below hB
      exact hop_load (wanted_none rfl) rfl e18 (run_ldu u2) (hK _ _ rfl (Below.refl _ _))
    · intro a w1 hB ho hp K hK
      have e3 : a.eval (.tmp 3) = (.pointer (some ⟨w.heap.size, 0, none⟩)) := ho 3 (by kernel_rfl)
      refine hop_val (wanted_none rfl) ?_ (hK (.pointer (some ⟨w.heap.size, 2, none⟩)) _ rfl (Below.refl _ _))
      unfold execOp; simp only [eval_const, e3]; simp [go_sem]
    · intro a w1 hB ho hp K hK
      have e20 : a.eval (.tmp 20) = (.pointer (some ⟨w.heap.size, 2, none⟩)) := hp 4 20 (by kernel_rfl)
      obtain ⟨u1, u2, u3, u4, u5, u6, u7⟩ := H_t.out.below hB
      exact hop_load (wanted_none rfl) rfl e20 (run_ldu u3) (hK _ _ rfl (Below.refl _ _))
    · intro a w1 hB ho hp K hK
      have e17 : a.eval (.tmp 17) = (.int .u64 (x : Int)) := hp 1 17 (by kernel_rfl)
      refine hop_val (wanted_none rfl) ?_ (hK (.int .u64 (x : Int)) _ rfl (Below.refl _ _))
      unfold execOp; simp only [eval_const, e17]; simp [go_sem]
    · intro a w1 hB ho hp K hK
      have e19 : a.eval (.tmp 19) = (.int .u64 (y : Int)) := hp 3 19 (by kernel_rfl)
      refine hop_val (wanted_none rfl) ?_ (hK (.int .u64 (y : Int)) _ rfl (Below.refl _ _))
      unfold execOp; simp only [eval_const, e19]; simp [go_sem]
    · intro a w1 hB ho hp K hK
      have e21 : a.eval (.tmp 21) = (.int .u64 (z : Int)) := hp 5 21 (by kernel_rfl)
      refine hop_val (wanted_none rfl) ?_ (hK (.int .u64 (z : Int)) _ rfl (Below.refl _ _))
      unfold execOp; simp only [eval_const, e21]; simp [go_sem]
  intro w24 B24
  refine EndAll.one rfl fun vv hv => ?_
  obtain rfl : vv = (.pointer (some ⟨w.heap.size, 0, none⟩)) := hv
  refine EndAll.one rfl fun vv hv => ?_
  obtain rfl : vv = (.int .u64 (x : Int)) := hv
  refine EndAll.one rfl fun vv hv => ?_
  obtain rfl : vv = (.pointer (some ⟨w.heap.size, 1, none⟩)) := hv
  refine EndAll.one rfl fun vv hv => ?_
  obtain rfl : vv = (.int .u64 (y : Int)) := hv
  refine EndAll.one rfl fun vv hv => ?_
  obtain rfl : vv = (.pointer (some ⟨w.heap.size, 2, none⟩)) := hv
  refine EndAll.one rfl fun vv hv => ?_
  obtain rfl : vv = (.int .u64 (z : Int)) := hv
  refine EndAll.one rfl fun vv hv => ?_
  obtain rfl : vv = (.int .u64 (x : Int)) := hv
  refine EndAll.one rfl fun vv hv => ?_
  obtain rfl : vv = (.int .u64 (y : Int)) := hv
  refine EndAll.one rfl fun vv hv => ?_
  obtain rfl : vv = (.int .u64 (z : Int)) := hv
  refine EndAll.nil (l := []) rfl ?_
  simp only [Act.put, List.setIfInBounds_toArray, List.set_cons_zero, List.set_cons_succ]
  replace H_t := Lib.hid (H_t.out.below B24)
  replace H_f := Lib.hid (H_f.out.below B24)
  replace hT := hT.below B24
  replace hW := hW.trans (B24.mono hW.size)
  clear B24
  clear H_t
  obtain ⟨f1, f2, f3⟩ := H_f.out
  go_wp2_with fail
  clear f1 f2 f3
  refine region8 [] 55 [IsK (.bool true), IsK (.bool true), IsK (.bool true), IsK (.bool true), IsK (.bool true), IsK (.agg #[.int .u64 (ab : Int)]), IsK (.int .u64 (x : Int)), IsK (.agg #[.int .u64 (ab : Int)]), IsK (.int .u64 (y : Int)), IsK (.int .u64 (z : Int)), IsK (.int .u64 (S1 : Int)), IsK (.int .u64 (R1 : Int)), IsK (.agg #[.int .u64 (ab : Int)]), IsK (.agg #[.int .u64 (ab : Int)]), IsK (.int .u64 (x : Int)), IsK (.int .u64 (y : Int)), IsK (.int .u64 (XY : Int)), IsK (.agg #[.int .u64 (ab : Int)]), IsK (.int .u64 (x : Int)), IsK (.int .u64 (z : Int)), IsK (.int .u64 (XZ : Int)), IsK (.int .u64 (R1 : Int)), IsK (.bool true), IsK (.bool true), IsK (.bool true), IsK (.agg #[.int .u64 (ab : Int)]), IsK (.int .u64 (x : Int)), IsK (.agg #[.int .u64 (ab : Int)]), IsK (.int .u64 (y : Int)), IsK (.int .u64 (z : Int)), IsK (.int .u64 (YZ : Int)), IsK (.int .u64 (R2 : Int)), IsK (.agg #[.int .u64 (ab : Int)]), IsK (.agg #[.int .u64 (ab : Int)]), IsK (.int .u64 (x : Int)), IsK (.int .u64 (y : Int)), IsK (.int .u64 (XY : Int)), IsK (.int .u64 (z : Int)), IsK (.int .u64 (R2 : Int)), IsK (.bool true), IsK (.bool true), IsK (.bool true), IsK (.agg #[.int .u64 (ab : Int)]), IsK (.agg #[.int .u64 (ab : Int)]), IsK (.int .u64 (x : Int)), IsK (.int .u64 (y : Int)), IsK (.int .u64 (D : Int)), IsK (.int .u64 (y : Int)), IsK (.int .u64 (X : Int)), IsK (.agg #[.int .u64 (ab : Int)]), IsK (.int .u64 (x : Int)), IsK (.int .u64 (X : Int)), IsK (.bool true), IsK (.bool true), IsK (.bool true)] (fun _ _ d _ _ h => by cases d <;> exact h) (by kernel_rfl) (by kernel_rfl) (by kernel_rfl) ⟨stay_k _, stay_k _, stay_k _, stay_k _, stay_k _, stay_k _, stay_k _, stay_k _, stay_k _, stay_k _, stay_k _, stay_k _, stay_k _, stay_k _, stay_k _, stay_k _, stay_k _, stay_k _, stay_k _, stay_k _, stay_k _, stay_k _, stay_k _, stay_k _, stay_k _, stay_k _, stay_k _, stay_k _, stay_k _, stay_k _, stay_k _, stay_k _, stay_k _, stay_k _, stay_k _, stay_k _, stay_k _, stay_k _, stay_k _, stay_k _, stay_k _, stay_k _, stay_k _, stay_k _, stay_k _, stay_k _, stay_k _, stay_k _, stay_k _, stay_k _, stay_k _, stay_k _, stay_k _, stay_k _, stay_k _, trivial⟩ ?_ ?_
  · refine HopAll.cons rfl ?_ (HopAll.cons rfl ?_ (HopAll.cons rfl ?_ (HopAll.cons rfl ?_ (HopAll.cons rfl ?_ (HopAll.cons rfl ?_ (HopAll.cons rfl ?_ (HopAll.cons rfl ?_ (HopAll.cons rfl ?_ (HopAll.cons rfl ?_ (HopAll.cons rfl ?_ (HopAll.cons rfl ?_ (HopAll.cons rfl ?_ (HopAll.cons rfl ?_ (HopAll.cons rfl ?_ (HopAll.cons rfl ?_ (HopAll.cons rfl ?_ (HopAll.cons rfl ?_ (HopAll.cons rfl ?_ (HopAll.cons rfl ?_ (HopAll.cons rfl ?_ (HopAll.cons rfl ?_ (HopAll.cons rfl ?_ (HopAll.cons rfl ?_ (HopAll.cons rfl ?_ (HopAll.cons rfl ?_ (HopAll.cons rfl ?_ (HopAll.cons rfl ?_ (HopAll.cons rfl ?_ (HopAll.cons rfl ?_ (HopAll.cons rfl ?_ (HopAll.cons rfl ?_ (HopAll.cons rfl ?_ (HopAll.cons rfl ?_ (HopAll.cons rfl ?_ (HopAll.cons rfl ?_ (HopAll.cons rfl ?_ (HopAll.cons rfl ?_ (HopAll.cons rfl ?_ (HopAll.cons rfl ?_ (HopAll.cons rfl ?_ (HopAll.cons rfl ?_ (HopAll.cons rfl ?_ (HopAll.cons rfl ?_ (HopAll.cons rfl ?_ (HopAll.cons rfl ?_ (HopAll.cons rfl ?_ (HopAll.cons rfl ?_ (HopAll.cons rfl ?_ (HopAll.cons rfl ?_ (HopAll.cons rfl ?_ (HopAll.cons rfl ?_ (HopAll.cons rfl ?_ (HopAll.cons rfl ?_ (HopAll.cons rfl ?_ HopAll.nil))))))))))))))))))))))))))))))))))))))))))))))))))))))
    · intro a w1 hB ho hp K hK
      refine hop_call (wanted_none rfl) rfl (args := #[]) (by simp only [List.map_toArray, List.map_cons, List.map_nil, eval_const]) (ent7 (by kernel_rfl) _ _) (gawake_v (hT.below hB)) ?_
      rintro e w2 ⟨rfl, B⟩
      exact ⟨_, rfl, hK _ _ rfl B⟩
    · intro a w1 hB ho hp K hK
      have e22 : a.eval (.tmp 22) = (.bool true) := hp 0 22 (by kernel_rfl)
      refine hop_val (wanted_none rfl) ?_ (hK (.bool true) _ rfl (Below.refl _ _))
      unfold execOp; simp only [eval_const, e22]; simp [go_sem]
    · intro a w1 hB ho hp K hK
      have e6 : a.eval (.tmp 6) = (.bool true) := ho 6 (by kernel_rfl)
      refine hop_val (wanted_at rfl (j := 1) (d := 23) (b := true) (by kernel_rfl) (hp 1 23 (by kernel_rfl))) ?_ (hK (.bool true) _ rfl (Below.refl _ _))
      unfold execOp; simp only [eval_const, e6]; simp [go_sem]
    · intro a w1 hB ho hp K hK
      have e23 : a.eval (.tmp 23) = (.bool true) := hp 1 23 (by kernel_rfl)
      have e24 : a.eval (.tmp 24) = (.bool true) := hp 2 24 (by kernel_rfl)
      refine hop_val (wanted_none rfl) ?_ (hK (.bool true) _ rfl (Below.refl _ _))
      unfold execOp; simp only [eval_const, e23, e24]; simp [go_sem]
    · intro a w1 hB ho hp K hK
      have e25 : a.eval (.tmp 25) = (.bool true) := hp 3 25 (by kernel_rfl)
      refine hop_val (wanted_none rfl) ?_ (hK (.bool true) _ rfl (Below.refl _ _))
      unfold execOp; simp only [eval_const, e25]; simp [go_sem]
    · intro a w1 hB ho hp K hK
      have e5 : a.eval (.tmp 5) = (.pointer (some ⟨w22.heap.size, 0, none⟩)) := ho 5 (by kernel_rfl)
      obtain ⟨u1, u2, u3⟩ := H_f.out.below hB
      exact hop_load (wanted_at rfl (j := 4) (d := 26) (b := true) (by kernel_rfl) (hp 4 26 (by kernel_rfl))) rfl e5 (run_ldf u1) (hK _ _ rfl (Below.refl _ _))
    · intro a w1 hB ho hp K hK
      have e7 : a.eval (.tmp 7) = (.int .u64 (x : Int)) := ho 7 (by kernel_rfl)
      refine hop_val (wanted_at rfl (j := 4) (d := 26) (b := true) (by kernel_rfl) (hp 4 26 (by kernel_rfl))) ?_ (hK (.int .u64 (x : Int)) _ rfl (Below.refl _ _))
      unfold execOp; simp only [eval_const, e7]; simp [go_sem]
    · intro a w1 hB ho hp K hK
      have e5 : a.eval (.tmp 5) = (.pointer (some ⟨w22.heap.size, 0, none⟩)) := ho 5 (by kernel_rfl)
      obtain ⟨u1, u2, u3⟩ := H_f.out.below hB
      exact hop_load (wanted_at rfl (j := 4) (d := 26) (b := true) (by kernel_rfl) (hp 4 26 (by kernel_rfl))) rfl e5 (run_ldf u1) (hK _ _ rfl (Below.refl _ _))
    · intro a w1 hB ho hp K hK
      have e8 : a.eval (.tmp 8) = (.int .u64 (y : Int)) := ho 8 (by kernel_rfl)
      refine hop_val (wanted_at rfl (j := 4) (d := 26) (b := true) (by kernel_rfl) (hp 4 26 (by kernel_rfl))) ?_ (hK (.int .u64 (y : Int)) _ rfl (Below.refl _ _))
      unfold execOp; simp only [eval_const, e8]; simp [go_sem]
    · intro a w1 hB ho hp K hK
      have e9 : a.eval (.tmp 9) = (.int .u64 (z : Int)) := ho 9 (by kernel_rfl)
      refine hop_val (wanted_at rfl (j := 4) (d := 26) (b := true) (by kernel_rfl) (hp 4 26 (by kernel_rfl))) ?_ (hK (.int .u64 (z : Int)) _ rfl (Below.refl _ _))
      unfold execOp; simp only [eval_const, e9]; simp [go_sem]
    · intro a w1 hB ho hp K hK
      have e29 : a.eval (.tmp 29) = (.agg #[.int .u64 (ab : Int)]) := hp 7 29 (by kernel_rfl)
      have e30 : a.eval (.tmp 30) = (.int .u64 (y : Int)) := hp 8 30 (by kernel_rfl)
      have e31 : a.eval (.tmp 31) = (.int .u64 (z : Int)) := hp 9 31 (by kernel_rfl)
      refine hop_call (wanted_at rfl (j := 4) (d := 26) (b := true) (by kernel_rfl) (hp 4 26 (by kernel_rfl))) rfl (args := #[(.agg #[.int .u64 (ab : Int)]), (.int .u64 (y : Int)), (.int .u64 (z : Int))]) (by simp only [List.map_toArray, List.map_cons, List.map_nil, eval_const, e29, e30, e31]) (ent7 (by kernel_rfl) _ _) (fadd_v HP.out h hy hz HS1.out _) ?_
      rintro e w2 ⟨rfl, B⟩
      exact ⟨_, rfl, hK _ _ rfl B⟩
    · intro a w1 hB ho hp K hK
      have e27 : a.eval (.tmp 27) = (.agg #[.int .u64 (ab : Int)]) := hp 5 27 (by kernel_rfl)
      have e28 : a.eval (.tmp 28) = (.int .u64 (x : Int)) := hp 6 28 (by kernel_rfl)
      have e32 : a.eval (.tmp 32) = (.int .u64 (S1 : Int)) := hp 10 32 (by kernel_rfl)
      refine hop_call (wanted_at rfl (j := 4) (d := 26) (b := true) (by kernel_rfl) (hp 4 26 (by kernel_rfl))) rfl (args := #[(.agg #[.int .u64 (ab : Int)]), (.int .u64 (x : Int)), (.int .u64 (S1 : Int))]) (by simp only [List.map_toArray, List.map_cons, List.map_nil, eval_const, e27, e28, e32]) (ent7 (by kernel_rfl) _ _) (fmul_v HP.out h hx (by omega) HR1.out _) ?_
      rintro e w2 ⟨rfl, B⟩
      exact ⟨_, rfl, hK _ _ rfl B⟩
    · intro a w1 hB ho hp K hK
      have e5 : a.eval (.tmp 5) = (.pointer (some ⟨w22.heap.size, 0, none⟩)) := ho 5 (by kernel_rfl)
      obtain ⟨u1, u2, u3⟩ := H_f.out.below hB
      exact hop_load (wanted_at rfl (j := 4) (d := 26) (b := true) (by kernel_rfl) (hp 4 26 (by kernel_rfl))) rfl e5 (run_ldf u1) (hK _ _ rfl (Below.refl _ _))
    · intro a w1 hB ho hp K hK
      have e5 : a.eval (.tmp 5) = (.pointer (some ⟨w22.heap.size, 0, none⟩)) := ho 5 (by kernel_rfl)
      obtain ⟨u1, u2, u3⟩ := H_f.out.below hB
      exact hop_load (wanted_at rfl (j := 4) (d := 26) (b := true) (by kernel_rfl) (hp 4 26 (by kernel_rfl))) rfl e5 (run_ldf u1) (hK _ _ rfl (Below.refl _ _))
    · intro a w1 hB ho hp K hK
      have e7 : a.eval (.tmp 7) = (.int .u64 (x : Int)) := ho 7 (by kernel_rfl)
      refine hop_val (wanted_at rfl (j := 4) (d := 26) (b := true) (by kernel_rfl) (hp 4 26 (by kernel_rfl))) ?_ (hK (.int .u64 (x : Int)) _ rfl (Below.refl _ _))
      unfold execOp; simp only [eval_const, e7]; simp [go_sem]
    · intro a w1 hB ho hp K hK
      have e8 : a.eval (.tmp 8) = (.int .u64 (y : Int)) := ho 8 (by kernel_rfl)
      refine hop_val (wanted_at rfl (j := 4) (d := 26) (b := true) (by kernel_rfl) (hp 4 26 (by kernel_rfl))) ?_ (hK (.int .u64 (y : Int)) _ rfl (Below.refl _ _))
      unfold execOp; simp only [eval_const, e8]; simp [go_sem]
    · intro a w1 hB ho hp K hK
      have e35 : a.eval (.tmp 35) = (.agg #[.int .u64 (ab : Int)]) := hp 13 35 (by kernel_rfl)
      have e36 : a.eval (.tmp 36) = (.int .u64 (x : Int)) := hp 14 36 (by kernel_rfl)
      have e37 : a.eval (.tmp 37) = (.int .u64 (y : Int)) := hp 15 37 (by kernel_rfl)
      refine hop_call (wanted_at rfl (j := 4) (d := 26) (b := true) (by kernel_rfl) (hp 4 26 (by kernel_rfl))) rfl (args := #[(.agg #[.int .u64 (ab : Int)]), (.int .u64 (x : Int)), (.int .u64 (y : Int))]) (by simp only [List.map_toArray, List.map_cons, List.map_nil, eval_const, e35, e36, e37]) (ent7 (by kernel_rfl) _ _) (fmul_v HP.out h hx hy HXY.out _) ?_
      rintro e w2 ⟨rfl, B⟩
      exact ⟨_, rfl, hK _ _ rfl B⟩
    · intro a w1 hB ho hp K hK
      have e5 : a.eval (.tmp 5) = (.pointer (some ⟨w22.heap.size, 0, none⟩)) := ho 5 (by kernel_rfl)
      obtain ⟨u1, u2, u3⟩ := H_f.out.below hB
      exact hop_load (wanted_at rfl (j := 4) (d := 26) (b := true) (by kernel_rfl) (hp 4 26 (by kernel_rfl))) rfl e5 (run_ldf u1) (hK _ _ rfl (Below.refl _ _))
    · intro a w1 hB ho hp K hK
      have e7 : a.eval (.tmp 7) = (.int .u64 (x : Int)) := ho 7 (by kernel_rfl)
      refine hop_val (wanted_at rfl (j := 4) (d := 26) (b := true) (by kernel_rfl) (hp 4 26 (by kernel_rfl))) ?_ (hK (.int .u64 (x : Int)) _ rfl (Below.refl _ _))
      unfold execOp; simp only [eval_const, e7]; simp [go_sem]
    · intro a w1 hB ho hp K hK
      have e9 : a.eval (.tmp 9) = (.int .u64 (z : Int)) := ho 9 (by kernel_rfl)
      refine hop_val (wanted_at rfl (j := 4) (d := 26) (b := true) (by kernel_rfl) (hp 4 26 (by kernel_rfl))) ?_ (hK (.int .u64 (z : Int)) _ rfl (Below.refl _ _))
      unfold execOp; simp only [eval_const, e9]; simp [go_sem]
    · intro a w1 hB ho hp K hK
      have e39 : a.eval (.tmp 39) = (.agg #[.int .u64 (ab : Int)]) := hp 17 39 (by kernel_rfl)
      have e40 : a.eval (.tmp 40) = (.int .u64 (x : Int)) := hp 18 40 (by kernel_rfl)
      have e41 : a.eval (.tmp 41) = (.int .u64 (z : Int)) := hp 19 41 (by kernel_rfl)
      refine hop_call (wanted_at rfl (j := 4) (d := 26) (b := true) (by kernel_rfl) (hp 4 26 (by kernel_rfl))) rfl (args := #[(.agg #[.int .u64 (ab : Int)]), (.int .u64 (x : Int)), (.int .u64 (z : Int))]) (by simp only [List.map_toArray, List.map_cons, List.map_nil, eval_const, e39, e40, e41]) (ent7 (by kernel_rfl) _ _) (fmul_v HP.out h hx hz HXZ.out _) ?_
      rintro e w2 ⟨rfl, B⟩
      exact ⟨_, rfl, hK _ _ rfl B⟩
    · intro a w1 hB ho hp K hK
      have e34 : a.eval (.tmp 34) = (.agg #[.int .u64 (ab : Int)]) := hp 12 34 (by kernel_rfl)
      have e38 : a.eval (.tmp 38) = (.int .u64 (XY : Int)) := hp 16 38 (by kernel_rfl)
      have e42 : a.eval (.tmp 42) = (.int .u64 (XZ : Int)) := hp 20 42 (by kernel_rfl)
      refine hop_call (wanted_at rfl (j := 4) (d := 26) (b := true) (by kernel_rfl) (hp 4 26 (by kernel_rfl))) rfl (args := #[(.agg #[.int .u64 (ab : Int)]), (.int .u64 (XY : Int)), (.int .u64 (XZ : Int))]) (by simp only [List.map_toArray, List.map_cons, List.map_nil, eval_const, e34, e38, e42]) (ent7 (by kernel_rfl) _ _) (fadd_v HP.out h (by omega) (by omega) HA.out _) ?_
      rintro e w2 ⟨rfl, B⟩
      exact ⟨_, rfl, hK _ _ rfl B⟩
    · intro a w1 hB ho hp K hK
      have e33 : a.eval (.tmp 33) = (.int .u64 (R1 : Int)) := hp 11 33 (by kernel_rfl)
      have e43 : a.eval (.tmp 43) = (.int .u64 (R1 : Int)) := hp 21 43 (by kernel_rfl)
      refine hop_val (wanted_at rfl (j := 4) (d := 26) (b := true) (by kernel_rfl) (hp 4 26 (by kernel_rfl))) ?_ (hK (.bool true) _ rfl (Below.refl _ _))
      unfold execOp; simp only [eval_const, e33, e43]; simp [go_sem]
    · intro a w1 hB ho hp K hK
      have e26 : a.eval (.tmp 26) = (.bool true) := hp 4 26 (by kernel_rfl)
      have e44 : a.eval (.tmp 44) = (.bool true) := hp 22 44 (by kernel_rfl)
      refine hop_val (wanted_none rfl) ?_ (hK (.bool true) _ rfl (Below.refl _ _))
      unfold execOp; simp only [eval_const, e26, e44]; simp [go_sem]
    · intro a w1 hB ho hp K hK
      have e45 : a.eval (.tmp 45) = (.bool true) := hp 23 45 (by kernel_rfl)
      refine hop_val (wanted_none rfl) ?_ (hK (.bool true) _ rfl (Below.refl _ _))
      unfold execOp; simp only [eval_const, e45]; simp [go_sem]
    · intro a w1 hB ho hp K hK
      have e5 : a.eval (.tmp 5) = (.pointer (some ⟨w22.heap.size, 0, none⟩)) := ho 5 (by kernel_rfl)
      obtain ⟨u1, u2, u3⟩ := H_f.out.below hB
      exact hop_load (wanted_at rfl (j := 24) (d := 46) (b := true) (by kernel_rfl) (hp 24 46 (by kernel_rfl))) rfl e5 (run_ldf u1) (hK _ _ rfl (Below.refl _ _))
    · intro a w1 hB ho hp K hK
      have e7 : a.eval (.tmp 7) = (.int .u64 (x : Int)) := ho 7 (by kernel_rfl)
      refine hop_val (wanted_at rfl (j := 24) (d := 46) (b := true) (by kernel_rfl) (hp 24 46 (by kernel_rfl))) ?_ (hK (.int .u64 (x : Int)) _ rfl (Below.refl _ _))
      unfold execOp; simp only [eval_const, e7]; simp [go_sem]
    · intro a w1 hB ho hp K hK
      have e5 : a.eval (.tmp 5) = (.pointer (some ⟨w22.heap.size, 0, none⟩)) := ho 5 (by kernel_rfl)
      obtain ⟨u1, u2, u3⟩ := H_f.out.below hB
      exact hop_load (wanted_at rfl (j := 24) (d := 46) (b := true) (by kernel_rfl) (hp 24 46 (by kernel_rfl))) rfl e5 (run_ldf u1) (hK _ _ rfl (Below.refl _ _))
    · intro a w1 hB ho hp K hK
      have e8 : a.eval (.tmp 8) = (.int .u64 (y : Int)) := ho 8 (by kernel_rfl)
      refine hop_val (wanted_at rfl (j := 24) (d := 46) (b := true) (by kernel_rfl) (hp 24 46 (by kernel_rfl))) ?_ (hK (.int .u64 (y : Int)) _ rfl (Below.refl _ _))
      unfold execOp; simp only [eval_const, e8]; simp [go_sem]
    · intro a w1 hB ho hp K hK
      have e9 : a.eval (.tmp 9) = (.int .u64 (z : Int)) := ho 9 (by kernel_rfl)
      refine hop_val (wanted_at rfl (j := 24) (d := 46) (b := true) (by kernel_rfl) (hp 24 46 (by kernel_rfl))) ?_ (hK (.int .u64 (z : Int)) _ rfl (Below.refl _ _))
      unfold execOp; simp only [eval_const, e9]; simp [go_sem]
    · intro a w1 hB ho hp K hK
      have e49 : a.eval (.tmp 49) = (.agg #[.int .u64 (ab : Int)]) := hp 27 49 (by kernel_rfl)
      have e50 : a.eval (.tmp 50) = (.int .u64 (y : Int)) := hp 28 50 (by kernel_rfl)
      have e51 : a.eval (.tmp 51) = (.int .u64 (z : Int)) := hp 29 51 (by kernel_rfl)
      refine hop_call (wanted_at rfl (j := 24) (d := 46) (b := true) (by kernel_rfl) (hp 24 46 (by kernel_rfl))) rfl (args := #[(.agg #[.int .u64 (ab : Int)]), (.int .u64 (y : Int)), (.int .u64 (z : Int))]) (by simp only [List.map_toArray, List.map_cons, List.map_nil, eval_const, e49, e50, e51]) (ent7 (by kernel_rfl) _ _) (fmul_v HP.out h hy hz HYZ.out _) ?_
      rintro e w2 ⟨rfl, B⟩
      exact ⟨_, rfl, hK _ _ rfl B⟩
    · intro a w1 hB ho hp K hK
      have e47 : a.eval (.tmp 47) = (.agg #[.int .u64 (ab : Int)]) := hp 25 47 (by kernel_rfl)
      have e48 : a.eval (.tmp 48) = (.int .u64 (x : Int)) := hp 26 48 (by kernel_rfl)
      have e52 : a.eval (.tmp 52) = (.int .u64 (YZ : Int)) := hp 30 52 (by kernel_rfl)
      refine hop_call (wanted_at rfl (j := 24) (d := 46) (b := true) (by kernel_rfl) (hp 24 46 (by kernel_rfl))) rfl (args := #[(.agg #[.int .u64 (ab : Int)]), (.int .u64 (x : Int)), (.int .u64 (YZ : Int))]) (by simp only [List.map_toArray, List.map_cons, List.map_nil, eval_const, e47, e48, e52]) (ent7 (by kernel_rfl) _ _) (fmul_v HP.out h hx (by omega) HR2.out _) ?_
      rintro e w2 ⟨rfl, B⟩
      exact ⟨_, rfl, hK _ _ rfl B⟩
    · intro a w1 hB ho hp K hK
      have e5 : a.eval (.tmp 5) = (.pointer (some ⟨w22.heap.size, 0, none⟩)) := ho 5 (by kernel_rfl)
      obtain ⟨u1, u2, u3⟩ := H_f.out.below hB
      exact hop_load (wanted_at rfl (j := 24) (d := 46) (b := true) (by kernel_rfl) (hp 24 46 (by kernel_rfl))) rfl e5 (run_ldf u1) (hK _ _ rfl (Below.refl _ _))
    · intro a w1 hB ho hp K hK
      have e5 : a.eval (.tmp 5) = (.pointer (some ⟨w22.heap.size, 0, none⟩)) := ho 5 (by kernel_rfl)
      obtain ⟨u1, u2, u3⟩ := H_f.out.below hB
      exact hop_load (wanted_at rfl (j := 24) (d := 46) (b := true) (by kernel_rfl) (hp 24 46 (by kernel_rfl))) rfl e5 (run_ldf u1) (hK _ _ rfl (Below.refl _ _))
    · intro a w1 hB ho hp K hK
      have e7 : a.eval (.tmp 7) = (.int .u64 (x : Int)) := ho 7 (by kernel_rfl)
      refine hop_val (wanted_at rfl (j := 24) (d := 46) (b := true) (by kernel_rfl) (hp 24 46 (by kernel_rfl))) ?_ (hK (.int .u64 (x : Int)) _ rfl (Below.refl _ _))
      unfold execOp; simp only [eval_const, e7]; simp [go_sem]
    · intro a w1 hB ho hp K hK
      have e8 : a.eval (.tmp 8) = (.int .u64 (y : Int)) := ho 8 (by kernel_rfl)
      refine hop_val (wanted_at rfl (j := 24) (d := 46) (b := true) (by kernel_rfl) (hp 24 46 (by kernel_rfl))) ?_ (hK (.int .u64 (y : Int)) _ rfl (Below.refl _ _))
      unfold execOp; simp only [eval_const, e8]; simp [go_sem]
    · intro a w1 hB ho hp K hK
      have e55 : a.eval (.tmp 55) = (.agg #[.int .u64 (ab : Int)]) := hp 33 55 (by kernel_rfl)
      have e56 : a.eval (.tmp 56) = (.int .u64 (x : Int)) := hp 34 56 (by kernel_rfl)
      have e57 : a.eval (.tmp 57) = (.int .u64 (y : Int)) := hp 35 57 (by kernel_rfl)
      refine hop_call (wanted_at rfl (j := 24) (d := 46) (b := true) (by kernel_rfl) (hp 24 46 (by kernel_rfl))) rfl (args := #[(.agg #[.int .u64 (ab : Int)]), (.int .u64 (x : Int)), (.int .u64 (y : Int))]) (by simp only [List.map_toArray, List.map_cons, List.map_nil, eval_const, e55, e56, e57]) (ent7 (by kernel_rfl) _ _) (fmul_v HP.out h hx hy HXY.out _) ?_
      rintro e w2 ⟨rfl, B⟩
      exact ⟨_, rfl, hK _ _ rfl B⟩
    · intro a w1 hB ho hp K hK
      have e9 : a.eval (.tmp 9) = (.int .u64 (z : Int)) := ho 9 (by kernel_rfl)
      refine hop_val (wanted_at rfl (j := 24) (d := 46) (b := true) (by kernel_rfl) (hp 24 46 (by kernel_rfl))) ?_ (hK (.int .u64 (z : Int)) _ rfl (Below.refl _ _))
      unfold execOp; simp only [eval_const, e9]; simp [go_sem]
    · intro a w1 hB ho hp K hK
      have e54 : a.eval (.tmp 54) = (.agg #[.int .u64 (ab : Int)]) := hp 32 54 (by kernel_rfl)
      have e58 : a.eval (.tmp 58) = (.int .u64 (XY : Int)) := hp 36 58 (by kernel_rfl)
      have e59 : a.eval (.tmp 59) = (.int .u64 (z : Int)) := hp 37 59 (by kernel_rfl)
      refine hop_call (wanted_at rfl (j := 24) (d := 46) (b := true) (by kernel_rfl) (hp 24 46 (by kernel_rfl))) rfl (args := #[(.agg #[.int .u64 (ab : Int)]), (.int .u64 (XY : Int)), (.int .u64 (z : Int))]) (by simp only [List.map_toArray, List.map_cons, List.map_nil, eval_const, e54, e58, e59]) (ent7 (by kernel_rfl) _ _) (fmul_v HP.out h (by omega) hz HB.out _) ?_
      rintro e w2 ⟨rfl, B⟩
      exact ⟨_, rfl, hK _ _ rfl B⟩
    · intro a w1 hB ho hp K hK
      have e53 : a.eval (.tmp 53) = (.int .u64 (R2 : Int)) := hp 31 53 (by kernel_rfl)
      have e60 : a.eval (.tmp 60) = (.int .u64 (R2 : Int)) := hp 38 60 (by kernel_rfl)
      refine hop_val (wanted_at rfl (j := 24) (d := 46) (b := true) (by kernel_rfl) (hp 24 46 (by kernel_rfl))) ?_ (hK (.bool true) _ rfl (Below.refl _ _))
      unfold execOp; simp only [eval_const, e53, e60]; simp [go_sem]
    · intro a w1 hB ho hp K hK
      have e46 : a.eval (.tmp 46) = (.bool true) := hp 24 46 (by kernel_rfl)
      have e61 : a.eval (.tmp 61) = (.bool true) := hp 39 61 (by kernel_rfl)
      refine hop_val (wanted_none rfl) ?_ (hK (.bool true) _ rfl (Below.refl _ _))
      unfold execOp; simp only [eval_const, e46, e61]; simp [go_sem]
    · intro a w1 hB ho hp K hK
      have e62 : a.eval (.tmp 62) = (.bool true) := hp 40 62 (by kernel_rfl)
      refine hop_val (wanted_none rfl) ?_ (hK (.bool true) _ rfl (Below.refl _ _))
      unfold execOp; simp only [eval_const, e62]; simp [go_sem]
    · intro a w1 hB ho hp K hK
      have e5 : a.eval (.tmp 5) = (.pointer (some ⟨w22.heap.size, 0, none⟩)) := ho 5 (by kernel_rfl)
      obtain ⟨u1, u2, u3⟩ := H_f.out.below hB
      exact hop_load (wanted_at rfl (j := 41) (d := 63) (b := true) (by kernel_rfl) (hp 41 63 (by kernel_rfl))) rfl e5 (run_ldf u1) (hK _ _ rfl (Below.refl _ _))
    · intro a w1 hB ho hp K hK
      have e5 : a.eval (.tmp 5) = (.pointer (some ⟨w22.heap.size, 0, none⟩)) := ho 5 (by kernel_rfl)
      obtain ⟨u1, u2, u3⟩ := H_f.out.below hB
      exact hop_load (wanted_at rfl (j := 41) (d := 63) (b := true) (by kernel_rfl) (hp 41 63 (by kernel_rfl))) rfl e5 (run_ldf u1) (hK _ _ rfl (Below.refl _ _))
    · intro a w1 hB ho hp K hK
      have e7 : a.eval (.tmp 7) = (.int .u64 (x : Int)) := ho 7 (by kernel_rfl)
      refine hop_val (wanted_at rfl (j := 41) (d := 63) (b := true) (by kernel_rfl) (hp 41 63 (by kernel_rfl))) ?_ (hK (.int .u64 (x : Int)) _ rfl (Below.refl _ _))
      unfold execOp; simp only [eval_const, e7]; simp [go_sem]
    · intro a w1 hB ho hp K hK
      have e8 : a.eval (.tmp 8) = (.int .u64 (y : Int)) := ho 8 (by kernel_rfl)
      refine hop_val (wanted_at rfl (j := 41) (d := 63) (b := true) (by kernel_rfl) (hp 41 63 (by kernel_rfl))) ?_ (hK (.int .u64 (y : Int)) _ rfl (Below.refl _ _))
      unfold execOp; simp only [eval_const, e8]; simp [go_sem]
    · intro a w1 hB ho hp K hK
      have e65 : a.eval (.tmp 65) = (.agg #[.int .u64 (ab : Int)]) := hp 43 65 (by kernel_rfl)
      have e66 : a.eval (.tmp 66) = (.int .u64 (x : Int)) := hp 44 66 (by kernel_rfl)
      have e67 : a.eval (.tmp 67) = (.int .u64 (y : Int)) := hp 45 67 (by kernel_rfl)
      refine hop_call (wanted_at rfl (j := 41) (d := 63) (b := true) (by kernel_rfl) (hp 41 63 (by kernel_rfl))) rfl (args := #[(.agg #[.int .u64 (ab : Int)]), (.int .u64 (x : Int)), (.int .u64 (y : Int))]) (by simp only [List.map_toArray, List.map_cons, List.map_nil, eval_const, e65, e66, e67]) (ent7 (by kernel_rfl) _ _) (fsub_v HP.out h hx hy HD.out _) ?_
      rintro e w2 ⟨rfl, B⟩
      exact ⟨_, rfl, hK _ _ rfl B⟩
    · intro a w1 hB ho hp K hK
      have e8 : a.eval (.tmp 8) = (.int .u64 (y : Int)) := ho 8 (by kernel_rfl)
      refine hop_val (wanted_at rfl (j := 41) (d := 63) (b := true) (by kernel_rfl) (hp 41 63 (by kernel_rfl))) ?_ (hK (.int .u64 (y : Int)) _ rfl (Below.refl _ _))
      unfold execOp; simp only [eval_const, e8]; simp [go_sem]
    · intro a w1 hB ho hp K hK
      have e64 : a.eval (.tmp 64) = (.agg #[.int .u64 (ab : Int)]) := hp 42 64 (by kernel_rfl)
      have e68 : a.eval (.tmp 68) = (.int .u64 (D : Int)) := hp 46 68 (by kernel_rfl)
      have e69 : a.eval (.tmp 69) = (.int .u64 (y : Int)) := hp 47 69 (by kernel_rfl)
      refine hop_call (wanted_at rfl (j := 41) (d := 63) (b := true) (by kernel_rfl) (hp 41 63 (by kernel_rfl))) rfl (args := #[(.agg #[.int .u64 (ab : Int)]), (.int .u64 (D : Int)), (.int .u64 (y : Int))]) (by simp only [List.map_toArray, List.map_cons, List.map_nil, eval_const, e64, e68, e69]) (ent7 (by kernel_rfl) _ _) (fadd_v HP.out h (by omega) hy HC.out _) ?_
      rintro e w2 ⟨rfl, B⟩
      exact ⟨_, rfl, hK _ _ rfl B⟩
    · intro a w1 hB ho hp K hK
      have e5 : a.eval (.tmp 5) = (.pointer (some ⟨w22.heap.size, 0, none⟩)) := ho 5 (by kernel_rfl)
      obtain ⟨u1, u2, u3⟩ := H_f.out.below hB
      exact hop_load (wanted_at rfl (j := 41) (d := 63) (b := true) (by kernel_rfl) (hp 41 63 (by kernel_rfl))) rfl e5 (run_ldf u1) (hK _ _ rfl (Below.refl _ _))
    · intro a w1 hB ho hp K hK
      have e7 : a.eval (.tmp 7) = (.int .u64 (x : Int)) := ho 7 (by kernel_rfl)
      refine hop_val (wanted_at rfl (j := 41) (d := 63) (b := true) (by kernel_rfl) (hp 41 63 (by kernel_rfl))) ?_ (hK (.int .u64 (x : Int)) _ rfl (Below.refl _ _))
      unfold execOp; simp only [eval_const, e7]; simp [go_sem]
    · intro a w1 hB ho hp K hK
      have e71 : a.eval (.tmp 71) = (.agg #[.int .u64 (ab : Int)]) := hp 49 71 (by kernel_rfl)
      have e72 : a.eval (.tmp 72) = (.int .u64 (x : Int)) := hp 50 72 (by kernel_rfl)
      refine hop_call (wanted_at rfl (j := 41) (d := 63) (b := true) (by kernel_rfl) (hp 41 63 (by kernel_rfl))) rfl (args := #[(.agg #[.int .u64 (ab : Int)]), (.int .u64 (x : Int))]) (by simp only [List.map_toArray, List.map_cons, List.map_nil, eval_const, e71, e72]) (ent7 (by kernel_rfl) _ _) (fnorm_v HP.out h hx HX.out _) ?_
      rintro e w2 ⟨rfl, B⟩
      exact ⟨_, rfl, hK _ _ rfl B⟩
    · intro a w1 hB ho hp K hK
      have e70 : a.eval (.tmp 70) = (.int .u64 (X : Int)) := hp 48 70 (by kernel_rfl)
      have e73 : a.eval (.tmp 73) = (.int .u64 (X : Int)) := hp 51 73 (by kernel_rfl)
      refine hop_val (wanted_at rfl (j := 41) (d := 63) (b := true) (by kernel_rfl) (hp 41 63 (by kernel_rfl))) ?_ (hK (.bool true) _ rfl (Below.refl _ _))
      unfold execOp; simp only [eval_const, e70, e73]; simp [go_sem]
    · intro a w1 hB ho hp K hK
      have e63 : a.eval (.tmp 63) = (.bool true) := hp 41 63 (by kernel_rfl)
      have e74 : a.eval (.tmp 74) = (.bool true) := hp 52 74 (by kernel_rfl)
      refine hop_val (wanted_none rfl) ?_ (hK (.bool true) _ rfl (Below.refl _ _))
      unfold execOp; simp only [eval_const, e63, e74]; simp [go_sem]
    · intro a w1 hB ho hp K hK
      have e75 : a.eval (.tmp 75) = (.bool true) := hp 53 75 (by kernel_rfl)
      refine hop_val (wanted_none rfl) ?_ (hK (.bool true) _ rfl (Below.refl _ _))
      unfold execOp; simp only [eval_const, e75]; simp [go_sem]
  intro w25 B25
  refine EndAll.one rfl fun vv hv => ?_
  obtain rfl : vv = (.bool true) := hv
  refine EndAll.one rfl fun vv hv => ?_
  obtain rfl : vv = (.bool true) := hv
  refine EndAll.one rfl fun vv hv => ?_
  obtain rfl : vv = (.bool true) := hv
  refine EndAll.one rfl fun vv hv => ?_
  obtain rfl : vv = (.bool true) := hv
  refine EndAll.one rfl fun vv hv => ?_
  obtain rfl : vv = (.bool true) := hv
  refine EndAll.one rfl fun vv hv => ?_
  obtain rfl : vv = (.agg #[.int .u64 (ab : Int)]) := hv
  refine EndAll.one rfl fun vv hv => ?_
  obtain rfl : vv = (.int .u64 (x : Int)) := hv
  refine EndAll.one rfl fun vv hv => ?_
  obtain rfl : vv = (.agg #[.int .u64 (ab : Int)]) := hv
  refine EndAll.one rfl fun vv hv => ?_
  obtain rfl : vv = (.int .u64 (y : Int)) := hv
  refine EndAll.one rfl fun vv hv => ?_
  obtain rfl : vv = (.int .u64 (z : Int)) := hv
  refine EndAll.one rfl fun vv hv => ?_
  obtain rfl : vv = (.int .u64 (S1 : Int)) := hv
  refine EndAll.one rfl fun vv hv => ?_
  obtain rfl : vv = (.int .u64 (R1 : Int)) := hv
  refine EndAll.one rfl fun vv hv => ?_
  obtain rfl : vv = (.agg #[.int .u64 (ab : Int)]) := hv
  refine EndAll.one rfl fun vv hv => ?_
  obtain rfl : vv = (.agg #[.int .u64 (ab : Int)]) := hv
  refine EndAll.one rfl fun vv hv => ?_
  obtain rfl : vv = (.int .u64 (x : Int)) := hv
  refine EndAll.one rfl fun vv hv => ?_
  obtain rfl : vv = (.int .u64 (y : Int)) := hv
  refine EndAll.one rfl fun vv hv => ?_
  obtain rfl : vv = (.int .u64 (XY : Int)) := hv
  refine EndAll.one rfl fun vv hv => ?_
  obtain rfl : vv = (.agg #[.int .u64 (ab : Int)]) := hv
  refine EndAll.one rfl fun vv hv => ?_
  obtain rfl : vv = (.int .u64 (x : Int)) := hv
  refine EndAll.one rfl fun vv hv => ?_
  obtain rfl : vv = (.int .u64 (z : Int)) := hv
  refine EndAll.one rfl fun vv hv => ?_
  obtain rfl : vv = (.int .u64 (XZ : Int)) := hv
  refine EndAll.one rfl fun vv hv => ?_
  obtain rfl : vv = (.int .u64 (R1 : Int)) := hv
  refine EndAll.one rfl fun vv hv => ?_
  obtain rfl : vv = (.bool true) := hv
  refine EndAll.one rfl fun vv hv => ?_
  obtain rfl : vv = (.bool true) := hv
  refine EndAll.one rfl fun vv hv => ?_
  obtain rfl : vv = (.bool true) := hv
  refine EndAll.one rfl fun vv hv => ?_
  obtain rfl : vv = (.agg #[.int .u64 (ab : Int)]) := hv
  refine EndAll.one rfl fun vv hv => ?_
  obtain rfl : vv = (.int .u64 (x : Int)) := hv
  refine EndAll.one rfl fun vv hv => ?_
  obtain rfl : vv = (.agg #[.int .u64 (ab : Int)]) := hv
  refine EndAll.one rfl fun vv hv => ?_
  obtain rfl : vv = (.int .u64 (y : Int)) := hv
  refine EndAll.one rfl fun vv hv => ?_
  obtain rfl : vv = (.int .u64 (z : Int)) := hv
  refine EndAll.one rfl fun vv hv => ?_
  obtain rfl : vv = (.int .u64 (YZ : Int)) := hv
  refine EndAll.one rfl fun vv hv => ?_
  obtain rfl : vv = (.int .u64 (R2 : Int)) := hv
  refine EndAll.one rfl fun vv hv => ?_
  obtain rfl : vv = (.agg #[.int .u64 (ab : Int)]) := hv
  refine EndAll.one rfl fun vv hv => ?_
  obtain rfl : vv = (.agg #[.int .u64 (ab : Int)]) := hv
  refine EndAll.one rfl fun vv hv => ?_
  obtain rfl : vv = (.int .u64 (x : Int)) := hv
  refine EndAll.one rfl fun vv hv => ?_
  obtain rfl : vv = (.int .u64 (y : Int)) := hv
  refine EndAll.one rfl fun vv hv => ?_
  obtain rfl : vv = (.int .u64 (XY : Int)) := hv
  refine EndAll.one rfl fun vv hv => ?_
  obtain rfl : vv = (.int .u64 (z : Int)) := hv
  refine EndAll.one rfl fun vv hv => ?_
  obtain rfl : vv = (.int .u64 (R2 : Int)) := hv
  refine EndAll.one rfl fun vv hv => ?_
  obtain rfl : vv = (.bool true) := hv
  refine EndAll.one rfl fun vv hv => ?_
  obtain rfl : vv = (.bool true) := hv
  refine EndAll.one rfl fun vv hv => ?_
  obtain rfl : vv = (.bool true) := hv
  refine EndAll.one rfl fun vv hv => ?_
  obtain rfl : vv = (.agg #[.int .u64 (ab : Int)]) := hv
  refine EndAll.one rfl fun vv hv => ?_
  obtain rfl : vv = (.agg #[.int .u64 (ab : Int)]) := hv
  refine EndAll.one rfl fun vv hv => ?_
  obtain rfl : vv = (.int .u64 (x : Int)) := hv
  refine EndAll.one rfl fun vv hv => ?_
  obtain rfl : vv = (.int .u64 (y : Int)) := hv
  refine EndAll.one rfl fun vv hv => ?_
  obtain rfl : vv = (.int .u64 (D : Int)) := hv
  refine EndAll.one rfl fun vv hv => ?_
  obtain rfl : vv = (.int .u64 (y : Int)) := hv
  refine EndAll.one rfl fun vv hv => ?_
  obtain rfl : vv = (.int .u64 (X : Int)) := hv
  refine EndAll.one rfl fun vv hv => ?_
  obtain rfl : vv = (.agg #[.int .u64 (ab : Int)]) := hv
  refine EndAll.one rfl fun vv hv => ?_
  obtain rfl : vv = (.int .u64 (x : Int)) := hv
  refine EndAll.one rfl fun vv hv => ?_
  obtain rfl : vv = (.int .u64 (X : Int)) := hv
  refine EndAll.one rfl fun vv hv => ?_
  obtain rfl : vv = (.bool true) := hv
  refine EndAll.one rfl fun vv hv => ?_
  obtain rfl : vv = (.bool true) := hv
  refine EndAll.one rfl fun vv hv => ?_
  obtain rfl : vv = (.bool true) := hv
  refine EndAll.nil (l := []) rfl ?_
  simp only [Act.put, List.setIfInBounds_toArray, List.set_cons_zero, List.set_cons_succ]
  replace H_f := Lib.hid (H_f.out.below B25)
  replace hT := hT.below B25
  replace hW := hW.trans (B25.mono hW.size)
  clear B25
  obtain ⟨f1, f2, f3⟩ := H_f.out
  go_wp2_with fail
  clear f1 f2 f3
  exact bodyPost_ret (v := .bool true) (by simp [results, Tryd.results8, go_sem]) rfl ⟨rfl, hW⟩
end Go.Proofs.YtfdgblmegiehnaaDoor
