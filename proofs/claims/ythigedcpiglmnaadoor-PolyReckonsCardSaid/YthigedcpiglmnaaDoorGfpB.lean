/-
  Package gfp: power, Inv, Pow.
-/
import Derived.Test.YthigedcpiglmnaaDoorGfpA
/-! Contracts of fields of words: powers. -/
namespace Go.Proofs.YthigedcpiglmnaaDoor
open Go.RowKit
set_option linter.unusedVariables false
set_option linter.unusedSimpArgs false

set_option maxRecDepth 100000 in
set_option maxHeartbeats 4000000 in
/-- gfp.power. -/
theorem fpower_v {ab p x n r : Nat} (hp : ab + 2 = p) (h : p < 2147483648) (hx : x < 18446744073709551616) (hn : n < 18446744073709551616) (hr : x ^ n % p = r) (w : World) :
    Calls Tryd.prog 67 #[.agg #[.int .u64 (ab : Int)], .int .u64 (x : Int), .int .u64 (n : Int)] w (UPost r w) := by
  have hW := Below.refl w.heap.size w
  obtain ⟨wp0, hwp0⟩ : ∃ xw, xw = w.alloc (.cells #[.int .u64 (ab : Int)] 28) := ⟨_, rfl⟩
  have zp0 : Below w.heap.size w wp0 := by rw [hwp0]; exact zba _ _
  have sp0 : wp0.heap.size = w.heap.size + 1 := by rw [hwp0, World.size_alloc]
  have If : Fb wp0 w.heap.size ab := by rw [hwp0]; exact Fb.new _ _ _
  replace hW := hW.trans (zp0.mono hW.size)
  have H_f := Lib.hid If
  clear If zp0
  have HW : Hid ((w.alloc (.cells #[.int .u64 (ab : Int)] 28)) = wp0) := Lib.hid (by rw [hwp0])
  have lw_f : w.heap.size ≤ w.heap.size := by omega
  clear hwp0 sp0
  have h2 : 2 ≤ p := by omega
  have HP := Lib.hid hp
  have HR := Lib.hid hr
  have HM : Hid (PwRest x n p x n 1) := Lib.hid (by unfold PwRest; rw [Nat.one_mul])
  clear hr hp
  go_enter Tryd.func67, Tryd.ntmps67
  obtain ⟨f1, f2, f3⟩ := H_f.out
  go_wp2_with fail
  rw [HW.out]
  clear f1 f2 f3
  have HB : Hid (Fb wp0 w.heap.size ab ∧ Below w.heap.size w wp0) := Lib.hid ⟨H_f.out, hW⟩
  clear hW H_f HW
  go_loopw [2, 7, 8] (fun s2 s7 s8 wr => ∃ k y z : Nat, s2 = .int .u64 (k : Int) ∧ s7 = .int .u64 (y : Int) ∧ s8 = .int .u64 (z : Int) ∧ k < 18446744073709551616 ∧ y < p ∧ z < 18446744073709551616 ∧ Hid (PwRest x n p z k y) ∧ Hid (Fb wr w.heap.size ab ∧ Below w.heap.size w wr)) (fun s2 _ _ _ => (intOf s2).toNat)
  case atStart => exact ⟨n, 1, x, rfl, rfl, rfl, hn, by omega, hx, HM, HB⟩
  case round =>
    clear HM HB
    obtain ⟨k, y, z, rfl, rfl, rfl, hk, hy, hz, HA, HB⟩ := hrel
    obtain ⟨I1, hW⟩ := HB.out
    have H_f := Lib.hid I1
    clear I1 HB
    rcases Nat.eq_zero_or_pos k with rfl | h0
    · have e1 : y = r := by
        have := HA.out
        unfold PwRest at this
        rw [Nat.pow_zero, Nat.mul_one, HR.out, Nat.mod_eq_of_lt hy] at this
        exact this
      clear HA HR H_f
      subst e1
      go_wp2_with fail
      exact bodyPost_ret (v := .int .u64 (y : Int)) (by simp [results, Tryd.results67, go_sem]) rfl ⟨rfl, hW⟩
    · have h1 := and_one hk
      obtain ⟨Z, hZ⟩ : ∃ Z, z * z % p = Z := ⟨_, rfl⟩
      have lZ : Z < p := hZ ▸ Nat.mod_lt _ (by omega)
      have HZ := Lib.hid hZ
      rcases Nat.mod_two_eq_zero_or_one k with e | e
      · rw [e] at h1
        have HN := Lib.hid (HA.out.even e)
        rw [hZ] at HN
        clear hZ HA e
        obtain ⟨f1, f2, f3⟩ := H_f.out
        go_wp2_with fail
        clear f1 f2 f3
        refine (fmul_v HP.out h hz hz HZ.out _).mono ?_
        rintro e w21 ⟨rfl, B21⟩
        replace H_f := Lib.hid (H_f.out.below B21)
        replace hW := hW.trans (B21.mono hW.size)
        clear B21
        obtain ⟨f1, f2, f3⟩ := H_f.out
        go_wp2_with fail
        clear f1 f2 f3
        go_round
        case rel => exact ⟨k / 2, y, Z, by go_num, rfl, rfl, by omega, hy, by omega, HN, Lib.hid ⟨H_f.out, hW⟩⟩
        case measure => simp [intOf]; omega
      · rw [e] at h1
        obtain ⟨Y, hY⟩ : ∃ Y, y * z % p = Y := ⟨_, rfl⟩
        have lY : Y < p := hY ▸ Nat.mod_lt _ (by omega)
        have HY := Lib.hid hY
        have HN := Lib.hid (HA.out.odd e)
        rw [hZ, hY] at HN
        clear hY hZ HA e
        obtain ⟨f1, f2, f3⟩ := H_f.out
        go_wp2_with fail
        clear f1 f2 f3
        refine (fmul_v HP.out h (by omega) hz HY.out _).mono ?_
        rintro e w21 ⟨rfl, B21⟩
        replace H_f := Lib.hid (H_f.out.below B21)
        replace hW := hW.trans (B21.mono hW.size)
        clear B21
        obtain ⟨f1, f2, f3⟩ := H_f.out
        go_wp2_with fail
        clear f1 f2 f3
        refine (fmul_v HP.out h hz hz HZ.out _).mono ?_
        rintro e w22 ⟨rfl, B22⟩
        replace H_f := Lib.hid (H_f.out.below B22)
        replace hW := hW.trans (B22.mono hW.size)
        clear B22
        obtain ⟨f1, f2, f3⟩ := H_f.out
        go_wp2_with fail
        clear f1 f2 f3
        go_round
        case rel => exact ⟨k / 2, Y, Z, by go_num, rfl, rfl, by omega, lY, by omega, HN, Lib.hid ⟨H_f.out, hW⟩⟩
        case measure => simp [intOf]; omega
/-- The inverse of x by p, as Inv tells it. -/
def invW (p x : Nat) : Nat := if x % p = 0 then 0 else x ^ (p - 2) % p
set_option maxRecDepth 100000 in
set_option maxHeartbeats 4000000 in
/-- gfp.Inv. -/
theorem finv_v {ab p x r : Nat} (hp : ab + 2 = p) (h : p < 2147483648) (hx : x < 18446744073709551616) (hr : invW p x = r) (w : World) :
    Calls Tryd.prog 62 #[.agg #[.int .u64 (ab : Int)], .int .u64 (x : Int)] w (UPost r w) := by
  have hW := Below.refl w.heap.size w
  obtain ⟨wp0, hwp0⟩ : ∃ xw, xw = w.alloc (.cells #[.int .u64 (ab : Int)] 28) := ⟨_, rfl⟩
  have zp0 : Below w.heap.size w wp0 := by rw [hwp0]; exact zba _ _
  have sp0 : wp0.heap.size = w.heap.size + 1 := by rw [hwp0, World.size_alloc]
  have If : Fb wp0 w.heap.size ab := by rw [hwp0]; exact Fb.new _ _ _
  replace hW := hW.trans (zp0.mono hW.size)
  have H_f := Lib.hid If
  clear If zp0
  have HW : Hid ((w.alloc (.cells #[.int .u64 (ab : Int)] 28)) = wp0) := Lib.hid (by rw [hwp0])
  have lw_f : w.heap.size ≤ w.heap.size := by omega
  clear hwp0 sp0
  have h2 : 2 ≤ p := by omega
  have HP := Lib.hid hp
  obtain ⟨X, hX⟩ : ∃ X, x % p = X := ⟨_, rfl⟩
  have HX := Lib.hid hX
  have HW2 : Hid (IntKind.u64.wrap ((p : Int) - 2) = ((p - 2 : Nat) : Int)) := Lib.hid (by rw [show (p : Int) - 2 = ((p - 2 : Nat) : Int) by omega]; exact wrap_small (by omega))
  have HR : Hid ((if X = 0 then 0 else x ^ (p - 2) % p) = r) := Lib.hid (by rw [← hr]; unfold invW; rw [hX])
  clear hr hp hX
  go_enter Tryd.func62, Tryd.ntmps62
  obtain ⟨f1, f2, f3⟩ := H_f.out
  go_wp2_with fail
  rw [HW.out]
  clear f1 f2 f3
  refine (fnorm_v HP.out h hx HX.out _).mono ?_
  rintro e w21 ⟨rfl, B21⟩
  replace H_f := Lib.hid (H_f.out.below B21)
  replace hW := hW.trans (B21.mono hW.size)
  clear B21
  by_cases h0 : X = 0
  · obtain rfl : r = 0 := by rw [← HR.out, if_pos h0]
    subst h0
    clear HR
    obtain ⟨f1, f2, f3⟩ := H_f.out
    go_wp2_with fail
    clear f1 f2 f3
    exact bodyPost_ret (v := (.int .u64 0)) (by simp [results, Tryd.results62, go_sem]) rfl ⟨rfl, hW⟩
  · have HR2 : Hid (x ^ (p - 2) % p = r) := Lib.hid (by rw [← HR.out, if_neg h0])
    clear HR
    obtain ⟨q, hq⟩ : ∃ q, p - 2 = q := ⟨_, rfl⟩
    rw [hq] at HR2 HW2
    have lq : q < 18446744073709551616 := by omega
    clear hq
    obtain ⟨f1, f2, f3⟩ := H_f.out
    go_wp2_with fail
    clear f1 f2 f3
    refine region8 [] 7 [IsK (.agg #[.int .u64 (ab : Int)]), IsK (.int .u64 (x : Int)), IsK (.agg #[.int .u64 (ab : Int)]), IsK (.int .u64 (p : Int)), IsK (.int .u64 (q : Int)), IsK (.int .u64 (r : Int)), IsK (.int .u64 (r : Int))] (fun _ _ d _ _ h => by cases d <;> exact h) (by kernel_rfl) (by kernel_rfl) (by kernel_rfl) ⟨stay_k _, stay_k _, stay_k _, stay_k _, stay_k _, stay_k _, stay_k _, trivial⟩ ?_ ?_
    · refine HopAll.cons rfl ?_ (HopAll.cons rfl ?_ (HopAll.cons rfl ?_ (HopAll.cons rfl ?_ (HopAll.cons rfl ?_ (HopAll.cons rfl ?_ (HopAll.cons rfl ?_ HopAll.nil))))))
      · intro a w1 hB ho hp K hK
        have e2 : a.eval (.tmp 2) = (.pointer (some ⟨w.heap.size, 0, none⟩)) := ho 2 (by kernel_rfl)
        obtain ⟨u1, u2, u3⟩ := H_f.out.below hB
        exact hop_load (wanted_none rfl) rfl e2 (run_ldf u1) (hK _ _ rfl (Below.refl _ _))
      · intro a w1 hB ho hp K hK
        have e1 : a.eval (.tmp 1) = (.int .u64 (x : Int)) := ho 1 (by kernel_rfl)
        refine hop_val (wanted_none rfl) ?_ (hK (.int .u64 (x : Int)) _ rfl (Below.refl _ _))
        unfold execOp; simp only [eval_const, e1]; simp [go_sem]
      · intro a w1 hB ho hp K hK
        have e2 : a.eval (.tmp 2) = (.pointer (some ⟨w.heap.size, 0, none⟩)) := ho 2 (by kernel_rfl)
        obtain ⟨u1, u2, u3⟩ := H_f.out.below hB
        exact hop_load (wanted_none rfl) rfl e2 (run_ldf u1) (hK _ _ rfl (Below.refl _ _))
      · intro a w1 hB ho hp K hK
        have e11 : a.eval (.tmp 11) = (.agg #[.int .u64 (ab : Int)]) := hp 2 11 (by kernel_rfl)
        refine hop_call (wanted_none rfl) rfl (args := #[(.agg #[.int .u64 (ab : Int)])]) (by simp only [List.map_toArray, List.map_cons, List.map_nil, eval_const, e11]) (ent7 (by kernel_rfl) _ _) (fp_v HP.out h _) ?_
        rintro e w2 ⟨rfl, B⟩
        exact ⟨_, rfl, hK _ _ rfl B⟩
      · intro a w1 hB ho hp K hK
        have e12 : a.eval (.tmp 12) = (.int .u64 (p : Int)) := hp 3 12 (by kernel_rfl)
        refine hop_val (wanted_none rfl) ?_ (hK (.int .u64 (q : Int)) _ rfl (Below.refl _ _))
        unfold execOp; simp only [eval_const, e12]; simp [go_sem, HW2.out]
      · intro a w1 hB ho hp K hK
        have e9 : a.eval (.tmp 9) = (.agg #[.int .u64 (ab : Int)]) := hp 0 9 (by kernel_rfl)
        have e10 : a.eval (.tmp 10) = (.int .u64 (x : Int)) := hp 1 10 (by kernel_rfl)
        have e13 : a.eval (.tmp 13) = (.int .u64 (q : Int)) := hp 4 13 (by kernel_rfl)
        refine hop_call (wanted_none rfl) rfl (args := #[(.agg #[.int .u64 (ab : Int)]), (.int .u64 (x : Int)), (.int .u64 (q : Int))]) (by simp only [List.map_toArray, List.map_cons, List.map_nil, eval_const, e9, e10, e13]) (ent7 (by kernel_rfl) _ _) (fpower_v HP.out h hx lq HR2.out _) ?_
        rintro e w2 ⟨rfl, B⟩
        exact ⟨_, rfl, hK _ _ rfl B⟩
      · intro a w1 hB ho hp K hK
        have e14 : a.eval (.tmp 14) = (.int .u64 (r : Int)) := hp 5 14 (by kernel_rfl)
        refine hop_val (wanted_none rfl) ?_ (hK (.int .u64 (r : Int)) _ rfl (Below.refl _ _))
        unfold execOp; simp only [eval_const, e14]; simp [go_sem]
    intro w22 B22
    refine EndAll.one rfl fun vv hv => ?_
    obtain rfl : vv = (.agg #[.int .u64 (ab : Int)]) := hv
    refine EndAll.one rfl fun vv hv => ?_
    obtain rfl : vv = (.int .u64 (x : Int)) := hv
    refine EndAll.one rfl fun vv hv => ?_
    obtain rfl : vv = (.agg #[.int .u64 (ab : Int)]) := hv
    refine EndAll.one rfl fun vv hv => ?_
    obtain rfl : vv = (.int .u64 (p : Int)) := hv
    refine EndAll.one rfl fun vv hv => ?_
    obtain rfl : vv = (.int .u64 (q : Int)) := hv
    refine EndAll.one rfl fun vv hv => ?_
    obtain rfl : vv = (.int .u64 (r : Int)) := hv
    refine EndAll.one rfl fun vv hv => ?_
    obtain rfl : vv = (.int .u64 (r : Int)) := hv
    refine EndAll.nil (l := []) rfl ?_
    simp only [Act.put, List.setIfInBounds_toArray, List.set_cons_zero, List.set_cons_succ]
    replace H_f := Lib.hid (H_f.out.below B22)
    replace hW := hW.trans (B22.mono hW.size)
    clear B22
    obtain ⟨f1, f2, f3⟩ := H_f.out
    go_wp2_with fail
    clear f1 f2 f3
    exact bodyPost_ret (v := (.int .u64 (r : Int))) (by simp [results, Tryd.results62, go_sem]) rfl ⟨rfl, hW⟩
/-- The power of x to the e by p, as Pow tells it. -/
def powW (p x : Nat) (e : Int) : Nat := if e < 0 then invW p x ^ e.natAbs % p else x ^ e.natAbs % p
theorem invW_lt {p x : Nat} (h : 0 < p) : invW p x < p := by
  unfold invW
  split
  · exact h
  · exact Nat.mod_lt _ h
end Go.Proofs.YthigedcpiglmnaaDoor
