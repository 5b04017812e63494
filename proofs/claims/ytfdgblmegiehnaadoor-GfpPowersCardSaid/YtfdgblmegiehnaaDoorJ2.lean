/-
  The walk of GfpInverse.
-/
import Derived.Test.YtfdgblmegiehnaaDoorGfpC
/-! The walk of GfpInverse. -/
namespace Go.Proofs.YtfdgblmegiehnaaDoor
open Go.RowKit
set_option linter.unusedVariables false
set_option linter.unusedSimpArgs false

theorem inv_mul {p x : Nat} (hp : MR.Pr p) (h : x % p ≠ 0) : x * invW p x % p = 1 := by
  have h2 := hp.1
  have hd : ¬ p ∣ x := fun d => h (Nat.mod_eq_zero_of_dvd d)
  unfold invW
  rw [if_neg h, Nat.mul_mod, Nat.mod_mod, ← Nat.mul_mod, Nat.mul_comm, ← Nat.pow_succ, show (p - 2).succ = p - 1 by omega]
  exact MR.fermat hp hd
theorem invW_zero {p x : Nat} (h : x % p = 0) : invW p x = 0 := by unfold invW; rw [if_pos h]
set_option maxRecDepth 100000 in
set_option maxHeartbeats 4000000 in
theorem inverse_zero {n x p : Nat} {w : World} (hn : n < 256) (hx : x < 18446744073709551616) (hT : TabHas w) (hp0 : pn (n % 12) = p) (hp : MR.Pr p ∧ p < 2147483648 ∧ 2 ≤ p) (hz : x % p = 0) :
    Calls Tryd.prog 4 #[.int .u8 (n : Int), .int .u64 (x : Int)] w (fun e w' => e = .returned (.bool true) ∧ Below w.heap.size w w') := by
  have hW := Below.refl w.heap.size w
  have h2 : 2 ≤ p := hp.2.2
  have h : p < 2147483648 := hp.2.1
  have HPR := Lib.hid hp.1
  clear hp
  obtain ⟨ab, hab⟩ : ∃ ab, ab + 2 = p := ⟨p - 2, by omega⟩
  have HP := Lib.hid hab
  clear hab
  have HP0 := Lib.hid hp0
  clear hp0
  have hpn : ¬ (p = 0) := by omega
  obtain ⟨J, hJ⟩ : ∃ J, invW p x = J := ⟨_, rfl⟩
  have HJ := Lib.hid hJ
  obtain ⟨X, hX⟩ : ∃ X, x % p = X := ⟨_, rfl⟩
  have HX := Lib.hid hX
  have T1 : Hid ((((x : Nat) : Int)).tmod (p : Int) = (X : Int)) := Lib.hid (by rw [Int.tmod_eq_emod_of_nonneg (by omega), ← Int.natCast_emod, hX])
  have lJ : J < p := hJ ▸ invW_lt (by omega)
  have bJ : decide ((p : Int) ≤ (J : Int)) = false := decide_eq_false (by omega)
  have eX : X = 0 := by rw [← hX]; exact hz
  have eJ : J = 0 := by rw [← hJ]; exact invW_zero hz
  subst eX eJ
  clear hJ hX hz
  go_enter Tryd.func4, Tryd.ntmps4
  go_wp2_with fail
  refine (rp_calls (p := p) hn HP0.out _).mono ?_
  rintro e w21 ⟨rfl, B21⟩
  replace hT := hT.below B21
  replace hW := hW.trans (B21.mono hW.size)
  clear B21
  go_wp2_with fail
  refine (fnew_yes (ab := ab) (by omega) hT HPR.out h HP.out).mono ?_
  rintro e w22 ⟨rfl, B22⟩
  replace hT := hT.below B22
  replace hW := hW.trans (B22.mono hW.size)
  clear B22
  obtain ⟨w23, hw23⟩ : ∃ xw, xw = w22.alloc (.cells #[.int .u64 (ab : Int)] 25) := ⟨_, rfl⟩
  have z23 : Below w22.heap.size w22 w23 := by rw [hw23]; exact zba _ _
  have HW23 : Hid (w22.alloc (.cells #[.int .u64 (ab : Int)] 25) = w23) := Lib.hid hw23.symm
  have lw_f : w.heap.size ≤ w22.heap.size := by have := hW.size; omega
  replace hT := hT.below z23
  replace hW := hW.trans (z23.mono hW.size)
  have H_f : Hid (Fb w23 w22.heap.size ab) := Lib.hid (by rw [hw23]; exact Fb.new _ _ _)
  clear z23 hw23
  go_wp2_with fail
  rw [HW23.out]
  refine (finv_v HP.out h hx HJ.out _).mono ?_
  rintro e w24 ⟨rfl, B24⟩
  replace H_f := Lib.hid (H_f.out.below B24)
  replace hT := hT.below B24
  replace hW := hW.trans (B24.mono hW.size)
  clear B24
  obtain ⟨f1, f2, f3⟩ := H_f.out
  go_wp2_with fail
  clear f1 f2 f3
  refine (gawake_v hT).mono ?_
  rintro e w25 ⟨rfl, B25⟩
  replace H_f := Lib.hid (H_f.out.below B25)
  replace hT := hT.below B25
  replace hW := hW.trans (B25.mono hW.size)
  clear B25
  obtain ⟨f1, f2, f3⟩ := H_f.out
  go_wp2_with fail
  clear f1 f2 f3
  refine region8 [] 24 [IsK (.int .u64 (x : Int)), IsK (.int .u64 (p : Int)), IsK (.int .u64 0), IsK (.bool true), IsK (.bool true), IsK (.int .u64 ((0 : Nat) : Int)), IsK (.bool true), IsK (.bool true), IsK (.bool true), IsK undef, IsK undef, IsK undef, IsK undef, IsK undef, IsK undef, IsK undef, IsK undef, IsK undef, IsK undef, IsK undef, IsK undef, IsK undef, IsK (.bool true), IsK (.bool true)] (fun _ _ d _ _ h => by cases d <;> exact h) (by kernel_rfl) (by kernel_rfl) (by kernel_rfl) ⟨stay_k _, stay_k _, stay_k _, stay_k _, stay_k _, stay_k _, stay_k _, stay_k _, stay_k _, stay_k _, stay_k _, stay_k _, stay_k _, stay_k _, stay_k _, stay_k _, stay_k _, stay_k _, stay_k _, stay_k _, stay_k _, stay_k _, stay_k _, stay_k _, trivial⟩ ?_ ?_
  · refine HopAll.cons rfl ?_ (HopAll.cons rfl ?_ (HopAll.cons rfl ?_ (HopAll.cons rfl ?_ (HopAll.cons rfl ?_ (HopAll.cons rfl ?_ (HopAll.cons rfl ?_ (HopAll.cons rfl ?_ (HopAll.cons rfl ?_ (HopAll.cons rfl ?_ (HopAll.cons rfl ?_ (HopAll.cons rfl ?_ (HopAll.cons rfl ?_ (HopAll.cons rfl ?_ (HopAll.cons rfl ?_ (HopAll.cons rfl ?_ (HopAll.cons rfl ?_ (HopAll.cons rfl ?_ (HopAll.cons rfl ?_ (HopAll.cons rfl ?_ (HopAll.cons rfl ?_ (HopAll.cons rfl ?_ (HopAll.cons rfl ?_ (HopAll.cons rfl ?_ HopAll.nil)))))))))))))))))))))))
    · intro a w1 hB ho hp K hK
      have e1 : a.eval (.tmp 1) = (.int .u64 (x : Int)) := ho 1 (by kernel_rfl)
      refine hop_val (wanted_none rfl) ?_ (hK (.int .u64 (x : Int)) _ rfl (Below.refl _ _))
      unfold execOp; simp only [eval_const, e1]; simp [go_sem]
    · intro a w1 hB ho hp K hK
      have e5 : a.eval (.tmp 5) = (.int .u64 (p : Int)) := ho 5 (by kernel_rfl)
      refine hop_val (wanted_none rfl) ?_ (hK (.int .u64 (p : Int)) _ rfl (Below.refl _ _))
      unfold execOp; simp only [eval_const, e5]; simp [go_sem]
    · intro a w1 hB ho hp K hK
      have e30 : a.eval (.tmp 30) = (.int .u64 (x : Int)) := hp 0 30 (by kernel_rfl)
      have e31 : a.eval (.tmp 31) = (.int .u64 (p : Int)) := hp 1 31 (by kernel_rfl)
      refine hop_val (wanted_none rfl) ?_ (hK (.int .u64 0) _ rfl (Below.refl _ _))
      unfold execOp; simp only [eval_const, e30, e31]; simp [go_sem, T1.out, hpn]
    · intro a w1 hB ho hp K hK
      have e32 : a.eval (.tmp 32) = (.int .u64 0) := hp 2 32 (by kernel_rfl)
      refine hop_val (wanted_none rfl) ?_ (hK (.bool true) _ rfl (Below.refl _ _))
      unfold execOp; simp only [eval_const, e32]; simp [go_sem]
    · intro a w1 hB ho hp K hK
      have e33 : a.eval (.tmp 33) = (.bool true) := hp 3 33 (by kernel_rfl)
      refine hop_val (wanted_none rfl) ?_ (hK (.bool true) _ rfl (Below.refl _ _))
      unfold execOp; simp only [eval_const, e33]; simp [go_sem]
    · intro a w1 hB ho hp K hK
      have e8 : a.eval (.tmp 8) = (.int .u64 ((0 : Nat) : Int)) := ho 8 (by kernel_rfl)
      refine hop_val (wanted_at rfl (j := 4) (d := 34) (b := true) (by kernel_rfl) (hp 4 34 (by kernel_rfl))) ?_ (hK (.int .u64 ((0 : Nat) : Int)) _ rfl (Below.refl _ _))
      unfold execOp; simp only [eval_const, e8]; simp [go_sem]
    · intro a w1 hB ho hp K hK
      have e35 : a.eval (.tmp 35) = (.int .u64 ((0 : Nat) : Int)) := hp 5 35 (by kernel_rfl)
      refine hop_val (wanted_at rfl (j := 4) (d := 34) (b := true) (by kernel_rfl) (hp 4 34 (by kernel_rfl))) ?_ (hK (.bool true) _ rfl (Below.refl _ _))
      unfold execOp; simp only [eval_const, e35]; simp [go_sem]
    · intro a w1 hB ho hp K hK
      have e34 : a.eval (.tmp 34) = (.bool true) := hp 4 34 (by kernel_rfl)
      have e36 : a.eval (.tmp 36) = (.bool true) := hp 6 36 (by kernel_rfl)
      refine hop_val (wanted_none rfl) ?_ (hK (.bool true) _ rfl (Below.refl _ _))
      unfold execOp; simp only [eval_const, e34, e36]; simp [go_sem]
    · intro a w1 hB ho hp K hK
      have e37 : a.eval (.tmp 37) = (.bool true) := hp 7 37 (by kernel_rfl)
      refine hop_val (wanted_none rfl) ?_ (hK (.bool true) _ rfl (Below.refl _ _))
      unfold execOp; simp only [eval_const, e37]; simp [go_sem]
    · intro a w1 hB ho hp K hK
      exact hop_not (unwanted_at rfl (j := 8) (d := 38) (b := false) (by kernel_rfl) (hp 8 38 (by kernel_rfl)) rfl) (hK _ _ rfl (Below.refl _ _))
    · intro a w1 hB ho hp K hK
      exact hop_not (unwanted_at rfl (j := 8) (d := 38) (b := false) (by kernel_rfl) (hp 8 38 (by kernel_rfl)) rfl) (hK _ _ rfl (Below.refl _ _))
    · intro a w1 hB ho hp K hK
      exact hop_not (unwanted_at rfl (j := 8) (d := 38) (b := false) (by kernel_rfl) (hp 8 38 (by kernel_rfl)) rfl) (hK _ _ rfl (Below.refl _ _))
    · intro a w1 hB ho hp K hK
      exact hop_not (unwanted_at rfl (j := 8) (d := 38) (b := false) (by kernel_rfl) (hp 8 38 (by kernel_rfl)) rfl) (hK _ _ rfl (Below.refl _ _))
    · intro a w1 hB ho hp K hK
      exact hop_not (unwanted_at rfl (j := 8) (d := 38) (b := false) (by kernel_rfl) (hp 8 38 (by kernel_rfl)) rfl) (hK _ _ rfl (Below.refl _ _))
    · intro a w1 hB ho hp K hK
      exact hop_not (unwanted_undef rfl (j := 13) (d := 43) (b := true) (by kernel_rfl) (hp 13 43 (by kernel_rfl))) (hK _ _ rfl (Below.refl _ _))
    · intro a w1 hB ho hp K hK
      exact hop_not (unwanted_undef rfl (j := 13) (d := 43) (b := true) (by kernel_rfl) (hp 13 43 (by kernel_rfl))) (hK _ _ rfl (Below.refl _ _))
    · intro a w1 hB ho hp K hK
      exact hop_not (unwanted_undef rfl (j := 13) (d := 43) (b := true) (by kernel_rfl) (hp 13 43 (by kernel_rfl))) (hK _ _ rfl (Below.refl _ _))
    · intro a w1 hB ho hp K hK
      exact hop_not (unwanted_undef rfl (j := 13) (d := 43) (b := true) (by kernel_rfl) (hp 13 43 (by kernel_rfl))) (hK _ _ rfl (Below.refl _ _))
    · intro a w1 hB ho hp K hK
      exact hop_not (unwanted_undef rfl (j := 13) (d := 43) (b := true) (by kernel_rfl) (hp 13 43 (by kernel_rfl))) (hK _ _ rfl (Below.refl _ _))
    · intro a w1 hB ho hp K hK
      exact hop_not (unwanted_undef rfl (j := 13) (d := 43) (b := true) (by kernel_rfl) (hp 13 43 (by kernel_rfl))) (hK _ _ rfl (Below.refl _ _))
    · intro a w1 hB ho hp K hK
      exact hop_not (unwanted_undef rfl (j := 13) (d := 43) (b := true) (by kernel_rfl) (hp 13 43 (by kernel_rfl))) (hK _ _ rfl (Below.refl _ _))
    · intro a w1 hB ho hp K hK
      exact hop_not (unwanted_at rfl (j := 8) (d := 38) (b := false) (by kernel_rfl) (hp 8 38 (by kernel_rfl)) rfl) (hK _ _ rfl (Below.refl _ _))
    · intro a w1 hB ho hp K hK
      have e38 : a.eval (.tmp 38) = (.bool true) := hp 8 38 (by kernel_rfl)
      have e51 : a.eval (.tmp 51) = undef := hp 21 51 (by kernel_rfl)
      refine hop_val (wanted_none rfl) ?_ (hK (.bool true) _ rfl (Below.refl _ _))
      unfold execOp; simp only [eval_const, e38, e51]; simp [go_sem]
    · intro a w1 hB ho hp K hK
      have e52 : a.eval (.tmp 52) = (.bool true) := hp 22 52 (by kernel_rfl)
      refine hop_val (wanted_none rfl) ?_ (hK (.bool true) _ rfl (Below.refl _ _))
      unfold execOp; simp only [eval_const, e52]; simp [go_sem]
  intro w26 B26
  refine EndAll.one rfl fun vv hv => ?_
  obtain rfl : vv = (.int .u64 (x : Int)) := hv
  refine EndAll.one rfl fun vv hv => ?_
  obtain rfl : vv = (.int .u64 (p : Int)) := hv
  refine EndAll.one rfl fun vv hv => ?_
  obtain rfl : vv = (.int .u64 0) := hv
  refine EndAll.one rfl fun vv hv => ?_
  obtain rfl : vv = (.bool true) := hv
  refine EndAll.one rfl fun vv hv => ?_
  obtain rfl : vv = (.bool true) := hv
  refine EndAll.one rfl fun vv hv => ?_
  obtain rfl : vv = (.int .u64 ((0 : Nat) : Int)) := hv
  refine EndAll.one rfl fun vv hv => ?_
  obtain rfl : vv = (.bool true) := hv
  refine EndAll.one rfl fun vv hv => ?_
  obtain rfl : vv = (.bool true) := hv
  refine EndAll.one rfl fun vv hv => ?_
  obtain rfl : vv = (.bool true) := hv
  refine EndAll.one rfl fun vv hv => ?_
  obtain rfl : vv = undef := hv
  refine EndAll.one rfl fun vv hv => ?_
  obtain rfl : vv = undef := hv
  refine EndAll.one rfl fun vv hv => ?_
  obtain rfl : vv = undef := hv
  refine EndAll.one rfl fun vv hv => ?_
  obtain rfl : vv = undef := hv
  refine EndAll.one rfl fun vv hv => ?_
  obtain rfl : vv = undef := hv
  refine EndAll.one rfl fun vv hv => ?_
  obtain rfl : vv = undef := hv
  refine EndAll.one rfl fun vv hv => ?_
  obtain rfl : vv = undef := hv
  refine EndAll.one rfl fun vv hv => ?_
  obtain rfl : vv = undef := hv
  refine EndAll.one rfl fun vv hv => ?_
  obtain rfl : vv = undef := hv
  refine EndAll.one rfl fun vv hv => ?_
  obtain rfl : vv = undef := hv
  refine EndAll.one rfl fun vv hv => ?_
  obtain rfl : vv = undef := hv
  refine EndAll.one rfl fun vv hv => ?_
  obtain rfl : vv = undef := hv
  refine EndAll.one rfl fun vv hv => ?_
  obtain rfl : vv = undef := hv
  refine EndAll.one rfl fun vv hv => ?_
  obtain rfl : vv = (.bool true) := hv
  refine EndAll.one rfl fun vv hv => ?_
  obtain rfl : vv = (.bool true) := hv
  refine EndAll.nil (l := []) rfl ?_
  simp only [Act.put, List.setIfInBounds_toArray, List.set_cons_zero, List.set_cons_succ]
  replace H_f := Lib.hid (H_f.out.below B26)
  replace hT := hT.below B26
  replace hW := hW.trans (B26.mono hW.size)
  clear B26
  obtain ⟨f1, f2, f3⟩ := H_f.out
  go_wp2_with fail
  clear f1 f2 f3
  exact bodyPost_ret (v := .bool true) (by simp [results, Tryd.results4, go_sem]) rfl ⟨rfl, hW⟩
set_option maxRecDepth 100000 in
set_option maxHeartbeats 4000000 in
theorem inverse_some {n x p : Nat} {w : World} (hn : n < 256) (hx : x < 18446744073709551616) (hT : TabHas w) (hp0 : pn (n % 12) = p) (hp : MR.Pr p ∧ p < 2147483648 ∧ 2 ≤ p) (hz : ¬ (x % p = 0)) :
    Calls Tryd.prog 4 #[.int .u8 (n : Int), .int .u64 (x : Int)] w (fun e w' => e = .returned (.bool true) ∧ Below w.heap.size w w') := by
  have hW := Below.refl w.heap.size w
  have h2 : 2 ≤ p := hp.2.2
  have h : p < 2147483648 := hp.2.1
  have HPR := Lib.hid hp.1
  clear hp
  obtain ⟨ab, hab⟩ : ∃ ab, ab + 2 = p := ⟨p - 2, by omega⟩
  have HP := Lib.hid hab
  clear hab
  have HP0 := Lib.hid hp0
  clear hp0
  have hpn : ¬ (p = 0) := by omega
  obtain ⟨J, hJ⟩ : ∃ J, invW p x = J := ⟨_, rfl⟩
  have HJ := Lib.hid hJ
  obtain ⟨X, hX⟩ : ∃ X, x % p = X := ⟨_, rfl⟩
  have HX := Lib.hid hX
  have T1 : Hid ((((x : Nat) : Int)).tmod (p : Int) = (X : Int)) := Lib.hid (by rw [Int.tmod_eq_emod_of_nonneg (by omega), ← Int.natCast_emod, hX])
  have lJ : J < p := hJ ▸ invW_lt (by omega)
  have bJ : decide ((p : Int) ≤ (J : Int)) = false := decide_eq_false (by omega)
  have lX : ¬ (X = 0) := by rw [← hX]; exact hz
  have HQ : Hid (x * J % p = 1) := Lib.hid (by rw [← hJ]; exact inv_mul HPR.out hz)
  have T2 : Hid ((1 : Int).tmod (p : Int) = 1) := Lib.hid (by rw [Int.tmod_eq_emod_of_nonneg (by omega)]; exact Int.emod_eq_of_lt (by omega) (by omega))
  clear hJ hX hz
  go_enter Tryd.func4, Tryd.ntmps4
  go_wp2_with fail
  refine (rp_calls (p := p) hn HP0.out _).mono ?_
  rintro e w21 ⟨rfl, B21⟩
  replace hT := hT.below B21
  replace hW := hW.trans (B21.mono hW.size)
  clear B21
  go_wp2_with fail
  refine (fnew_yes (ab := ab) (by omega) hT HPR.out h HP.out).mono ?_
  rintro e w22 ⟨rfl, B22⟩
  replace hT := hT.below B22
  replace hW := hW.trans (B22.mono hW.size)
  clear B22
  obtain ⟨w23, hw23⟩ : ∃ xw, xw = w22.alloc (.cells #[.int .u64 (ab : Int)] 25) := ⟨_, rfl⟩
  have z23 : Below w22.heap.size w22 w23 := by rw [hw23]; exact zba _ _
  have HW23 : Hid (w22.alloc (.cells #[.int .u64 (ab : Int)] 25) = w23) := Lib.hid hw23.symm
  have lw_f : w.heap.size ≤ w22.heap.size := by have := hW.size; omega
  replace hT := hT.below z23
  replace hW := hW.trans (z23.mono hW.size)
  have H_f : Hid (Fb w23 w22.heap.size ab) := Lib.hid (by rw [hw23]; exact Fb.new _ _ _)
  clear z23 hw23
  go_wp2_with fail
  rw [HW23.out]
  refine (finv_v HP.out h hx HJ.out _).mono ?_
  rintro e w24 ⟨rfl, B24⟩
  replace H_f := Lib.hid (H_f.out.below B24)
  replace hT := hT.below B24
  replace hW := hW.trans (B24.mono hW.size)
  clear B24
  obtain ⟨f1, f2, f3⟩ := H_f.out
  go_wp2_with fail
  clear f1 f2 f3
  refine (gawake_v hT).mono ?_
  rintro e w25 ⟨rfl, B25⟩
  replace H_f := Lib.hid (H_f.out.below B25)
  replace hT := hT.below B25
  replace hW := hW.trans (B25.mono hW.size)
  clear B25
  obtain ⟨f1, f2, f3⟩ := H_f.out
  go_wp2_with fail
  clear f1 f2 f3
  refine region8 [] 24 [IsK (.int .u64 (x : Int)), IsK (.int .u64 (p : Int)), IsK (.int .u64 (X : Int)), IsK (.bool false), IsK (.bool false), IsK undef, IsK undef, IsK (.bool false), IsK (.bool false), IsK (.int .u64 (x : Int)), IsK (.int .u64 (p : Int)), IsK (.int .u64 (X : Int)), IsK (.bool true), IsK (.bool true), IsK (.agg #[.int .u64 (ab : Int)]), IsK (.int .u64 (x : Int)), IsK (.int .u64 (J : Int)), IsK (.int .u64 1), IsK (.int .u64 (p : Int)), IsK (.int .u64 1), IsK (.bool true), IsK (.bool true), IsK (.bool true), IsK (.bool true)] (fun _ _ d _ _ h => by cases d <;> exact h) (by kernel_rfl) (by kernel_rfl) (by kernel_rfl) ⟨stay_k _, stay_k _, stay_k _, stay_k _, stay_k _, stay_k _, stay_k _, stay_k _, stay_k _, stay_k _, stay_k _, stay_k _, stay_k _, stay_k _, stay_k _, stay_k _, stay_k _, stay_k _, stay_k _, stay_k _, stay_k _, stay_k _, stay_k _, stay_k _, trivial⟩ ?_ ?_
  · refine HopAll.cons rfl ?_ (HopAll.cons rfl ?_ (HopAll.cons rfl ?_ (HopAll.cons rfl ?_ (HopAll.cons rfl ?_ (HopAll.cons rfl ?_ (HopAll.cons rfl ?_ (HopAll.cons rfl ?_ (HopAll.cons rfl ?_ (HopAll.cons rfl ?_ (HopAll.cons rfl ?_ (HopAll.cons rfl ?_ (HopAll.cons rfl ?_ (HopAll.cons rfl ?_ (HopAll.cons rfl ?_ (HopAll.cons rfl ?_ (HopAll.cons rfl ?_ (HopAll.cons rfl ?_ (HopAll.cons rfl ?_ (HopAll.cons rfl ?_ (HopAll.cons rfl ?_ (HopAll.cons rfl ?_ (HopAll.cons rfl ?_ (HopAll.cons rfl ?_ HopAll.nil)))))))))))))))))))))))
    · intro a w1 hB ho hp K hK
      have e1 : a.eval (.tmp 1) = (.int .u64 (x : Int)) := ho 1 (by kernel_rfl)
      refine hop_val (wanted_none rfl) ?_ (hK (.int .u64 (x : Int)) _ rfl (Below.refl _ _))
      unfold execOp; simp only [eval_const, e1]; simp [go_sem]
    · intro a w1 hB ho hp K hK
      have e5 : a.eval (.tmp 5) = (.int .u64 (p : Int)) := ho 5 (by kernel_rfl)
      refine hop_val (wanted_none rfl) ?_ (hK (.int .u64 (p : Int)) _ rfl (Below.refl _ _))
      unfold execOp; simp only [eval_const, e5]; simp [go_sem]
    · intro a w1 hB ho hp K hK
      have e30 : a.eval (.tmp 30) = (.int .u64 (x : Int)) := hp 0 30 (by kernel_rfl)
      have e31 : a.eval (.tmp 31) = (.int .u64 (p : Int)) := hp 1 31 (by kernel_rfl)
      refine hop_val (wanted_none rfl) ?_ (hK (.int .u64 (X : Int)) _ rfl (Below.refl _ _))
      unfold execOp; simp only [eval_const, e30, e31]; simp [go_sem, T1.out, hpn]
    · intro a w1 hB ho hp K hK
      have e32 : a.eval (.tmp 32) = (.int .u64 (X : Int)) := hp 2 32 (by kernel_rfl)
      refine hop_val (wanted_none rfl) ?_ (hK (.bool false) _ rfl (Below.refl _ _))
      unfold execOp; simp only [eval_const, e32]; simp [go_sem, lX]
    · intro a w1 hB ho hp K hK
      have e33 : a.eval (.tmp 33) = (.bool false) := hp 3 33 (by kernel_rfl)
      refine hop_val (wanted_none rfl) ?_ (hK (.bool false) _ rfl (Below.refl _ _))
      unfold execOp; simp only [eval_const, e33]; simp [go_sem]
    · intro a w1 hB ho hp K hK
      exact hop_not (unwanted_at rfl (j := 4) (d := 34) (b := true) (by kernel_rfl) (hp 4 34 (by kernel_rfl)) rfl) (hK _ _ rfl (Below.refl _ _))
    · intro a w1 hB ho hp K hK
      exact hop_not (unwanted_at rfl (j := 4) (d := 34) (b := true) (by kernel_rfl) (hp 4 34 (by kernel_rfl)) rfl) (hK _ _ rfl (Below.refl _ _))
    · intro a w1 hB ho hp K hK
      have e34 : a.eval (.tmp 34) = (.bool false) := hp 4 34 (by kernel_rfl)
      have e36 : a.eval (.tmp 36) = undef := hp 6 36 (by kernel_rfl)
      refine hop_val (wanted_none rfl) ?_ (hK (.bool false) _ rfl (Below.refl _ _))
      unfold execOp; simp only [eval_const, e34, e36]; simp [go_sem]
    · intro a w1 hB ho hp K hK
      have e37 : a.eval (.tmp 37) = (.bool false) := hp 7 37 (by kernel_rfl)
      refine hop_val (wanted_none rfl) ?_ (hK (.bool false) _ rfl (Below.refl _ _))
      unfold execOp; simp only [eval_const, e37]; simp [go_sem]
    · intro a w1 hB ho hp K hK
      have e1 : a.eval (.tmp 1) = (.int .u64 (x : Int)) := ho 1 (by kernel_rfl)
      refine hop_val (wanted_at rfl (j := 8) (d := 38) (b := false) (by kernel_rfl) (hp 8 38 (by kernel_rfl))) ?_ (hK (.int .u64 (x : Int)) _ rfl (Below.refl _ _))
      unfold execOp; simp only [eval_const, e1]; simp [go_sem]
    · intro a w1 hB ho hp K hK
      have e5 : a.eval (.tmp 5) = (.int .u64 (p : Int)) := ho 5 (by kernel_rfl)
      refine hop_val (wanted_at rfl (j := 8) (d := 38) (b := false) (by kernel_rfl) (hp 8 38 (by kernel_rfl))) ?_ (hK (.int .u64 (p : Int)) _ rfl (Below.refl _ _))
      unfold execOp; simp only [eval_const, e5]; simp [go_sem]
    · intro a w1 hB ho hp K hK
      have e39 : a.eval (.tmp 39) = (.int .u64 (x : Int)) := hp 9 39 (by kernel_rfl)
      have e40 : a.eval (.tmp 40) = (.int .u64 (p : Int)) := hp 10 40 (by kernel_rfl)
      refine hop_val (wanted_at rfl (j := 8) (d := 38) (b := false) (by kernel_rfl) (hp 8 38 (by kernel_rfl))) ?_ (hK (.int .u64 (X : Int)) _ rfl (Below.refl _ _))
      unfold execOp; simp only [eval_const, e39, e40]; simp [go_sem, T1.out, hpn]
    · intro a w1 hB ho hp K hK
      have e41 : a.eval (.tmp 41) = (.int .u64 (X : Int)) := hp 11 41 (by kernel_rfl)
      refine hop_val (wanted_at rfl (j := 8) (d := 38) (b := false) (by kernel_rfl) (hp 8 38 (by kernel_rfl))) ?_ (hK (.bool true) _ rfl (Below.refl _ _))
      unfold execOp; simp only [eval_const, e41]; simp [go_sem, lX]
    · intro a w1 hB ho hp K hK
      have e42 : a.eval (.tmp 42) = (.bool true) := hp 12 42 (by kernel_rfl)
      refine hop_val (wanted_at rfl (j := 8) (d := 38) (b := false) (by kernel_rfl) (hp 8 38 (by kernel_rfl))) ?_ (hK (.bool true) _ rfl (Below.refl _ _))
      unfold execOp; simp only [eval_const, e42]; simp [go_sem]
    · intro a w1 hB ho hp K hK
      have e6 : a.eval (.tmp 6) = (.pointer (some ⟨w22.heap.size, 0, none⟩)) := ho 6 (by kernel_rfl)
      obtain ⟨u1, u2, u3⟩ := H_f.out.below hB
      exact hop_load (wanted_at rfl (j := 13) (d := 43) (b := true) (by kernel_rfl) (hp 13 43 (by kernel_rfl))) rfl e6 (run_ldf u1) (hK _ _ rfl (Below.refl _ _))
    · intro a w1 hB ho hp K hK
      have e1 : a.eval (.tmp 1) = (.int .u64 (x : Int)) := ho 1 (by kernel_rfl)
      refine hop_val (wanted_at rfl (j := 13) (d := 43) (b := true) (by kernel_rfl) (hp 13 43 (by kernel_rfl))) ?_ (hK (.int .u64 (x : Int)) _ rfl (Below.refl _ _))
      unfold execOp; simp only [eval_const, e1]; simp [go_sem]
    · intro a w1 hB ho hp K hK
      have e8 : a.eval (.tmp 8) = (.int .u64 (J : Int)) := ho 8 (by kernel_rfl)
      refine hop_val (wanted_at rfl (j := 13) (d := 43) (b := true) (by kernel_rfl) (hp 13 43 (by kernel_rfl))) ?_ (hK (.int .u64 (J : Int)) _ rfl (Below.refl _ _))
      unfold execOp; simp only [eval_const, e8]; simp [go_sem]
    · intro a w1 hB ho hp K hK
      have e44 : a.eval (.tmp 44) = (.agg #[.int .u64 (ab : Int)]) := hp 14 44 (by kernel_rfl)
      have e45 : a.eval (.tmp 45) = (.int .u64 (x : Int)) := hp 15 45 (by kernel_rfl)
      have e46 : a.eval (.tmp 46) = (.int .u64 (J : Int)) := hp 16 46 (by kernel_rfl)
      refine hop_call (wanted_at rfl (j := 13) (d := 43) (b := true) (by kernel_rfl) (hp 13 43 (by kernel_rfl))) rfl (args := #[(.agg #[.int .u64 (ab : Int)]), (.int .u64 (x : Int)), (.int .u64 (J : Int))]) (by simp only [List.map_toArray, List.map_cons, List.map_nil, eval_const, e44, e45, e46]) (ent7 (by kernel_rfl) _ _) (fmul_v HP.out h hx (by omega) HQ.out _) ?_
      rintro e w2 ⟨rfl, B⟩
      exact ⟨_, rfl, hK _ _ rfl B⟩
    · intro a w1 hB ho hp K hK
      have e5 : a.eval (.tmp 5) = (.int .u64 (p : Int)) := ho 5 (by kernel_rfl)
      refine hop_val (wanted_at rfl (j := 13) (d := 43) (b := true) (by kernel_rfl) (hp 13 43 (by kernel_rfl))) ?_ (hK (.int .u64 (p : Int)) _ rfl (Below.refl _ _))
      unfold execOp; simp only [eval_const, e5]; simp [go_sem]
    · intro a w1 hB ho hp K hK
      have e48 : a.eval (.tmp 48) = (.int .u64 (p : Int)) := hp 18 48 (by kernel_rfl)
      refine hop_val (wanted_at rfl (j := 13) (d := 43) (b := true) (by kernel_rfl) (hp 13 43 (by kernel_rfl))) ?_ (hK (.int .u64 1) _ rfl (Below.refl _ _))
      unfold execOp; simp only [eval_const, e48]; simp [go_sem, T2.out, hpn]
    · intro a w1 hB ho hp K hK
      have e47 : a.eval (.tmp 47) = (.int .u64 1) := hp 17 47 (by kernel_rfl)
      have e49 : a.eval (.tmp 49) = (.int .u64 1) := hp 19 49 (by kernel_rfl)
      refine hop_val (wanted_at rfl (j := 13) (d := 43) (b := true) (by kernel_rfl) (hp 13 43 (by kernel_rfl))) ?_ (hK (.bool true) _ rfl (Below.refl _ _))
      unfold execOp; simp only [eval_const, e47, e49]; simp [go_sem]
    · intro a w1 hB ho hp K hK
      have e43 : a.eval (.tmp 43) = (.bool true) := hp 13 43 (by kernel_rfl)
      have e50 : a.eval (.tmp 50) = (.bool true) := hp 20 50 (by kernel_rfl)
      refine hop_val (wanted_at rfl (j := 8) (d := 38) (b := false) (by kernel_rfl) (hp 8 38 (by kernel_rfl))) ?_ (hK (.bool true) _ rfl (Below.refl _ _))
      unfold execOp; simp only [eval_const, e43, e50]; simp [go_sem]
    · intro a w1 hB ho hp K hK
      have e38 : a.eval (.tmp 38) = (.bool false) := hp 8 38 (by kernel_rfl)
      have e51 : a.eval (.tmp 51) = (.bool true) := hp 21 51 (by kernel_rfl)
      refine hop_val (wanted_none rfl) ?_ (hK (.bool true) _ rfl (Below.refl _ _))
      unfold execOp; simp only [eval_const, e38, e51]; simp [go_sem]
    · intro a w1 hB ho hp K hK
      have e52 : a.eval (.tmp 52) = (.bool true) := hp 22 52 (by kernel_rfl)
      refine hop_val (wanted_none rfl) ?_ (hK (.bool true) _ rfl (Below.refl _ _))
      unfold execOp; simp only [eval_const, e52]; simp [go_sem]
  intro w26 B26
  refine EndAll.one rfl fun vv hv => ?_
  obtain rfl : vv = (.int .u64 (x : Int)) := hv
  refine EndAll.one rfl fun vv hv => ?_
  obtain rfl : vv = (.int .u64 (p : Int)) := hv
  refine EndAll.one rfl fun vv hv => ?_
  obtain rfl : vv = (.int .u64 (X : Int)) := hv
  refine EndAll.one rfl fun vv hv => ?_
  obtain rfl : vv = (.bool false) := hv
  refine EndAll.one rfl fun vv hv => ?_
  obtain rfl : vv = (.bool false) := hv
  refine EndAll.one rfl fun vv hv => ?_
  obtain rfl : vv = undef := hv
  refine EndAll.one rfl fun vv hv => ?_
  obtain rfl : vv = undef := hv
  refine EndAll.one rfl fun vv hv => ?_
  obtain rfl : vv = (.bool false) := hv
  refine EndAll.one rfl fun vv hv => ?_
  obtain rfl : vv = (.bool false) := hv
  refine EndAll.one rfl fun vv hv => ?_
  obtain rfl : vv = (.int .u64 (x : Int)) := hv
  refine EndAll.one rfl fun vv hv => ?_
  obtain rfl : vv = (.int .u64 (p : Int)) := hv
  refine EndAll.one rfl fun vv hv => ?_
  obtain rfl : vv = (.int .u64 (X : Int)) := hv
  refine EndAll.one rfl fun vv hv => ?_
  obtain rfl : vv = (.bool true) := hv
  refine EndAll.one rfl fun vv hv => ?_
  obtain rfl : vv = (.bool true) := hv
  refine EndAll.one rfl fun vv hv => ?_
  obtain rfl : vv = (.agg #[.int .u64 (ab : Int)]) := hv
  refine EndAll.one rfl fun vv hv => ?_
  obtain rfl : vv = (.int .u64 (x : Int)) := hv
  refine EndAll.one rfl fun vv hv => ?_
  obtain rfl : vv = (.int .u64 (J : Int)) := hv
  refine EndAll.one rfl fun vv hv => ?_
  obtain rfl : vv = (.int .u64 1) := hv
  refine EndAll.one rfl fun vv hv => ?_
  obtain rfl : vv = (.int .u64 (p : Int)) := hv
  refine EndAll.one rfl fun vv hv => ?_
  obtain rfl : vv = (.int .u64 1) := hv
  refine EndAll.one rfl fun vv hv => ?_
  obtain rfl : vv = (.bool true) := hv
  refine EndAll.one rfl fun vv hv => ?_
  obtain rfl : vv = (.bool true) := hv
  refine EndAll.one rfl fun vv hv => ?_
  obtain rfl : vv = (.bool true) := hv
  refine EndAll.one rfl fun vv hv => ?_
  obtain rfl : vv = (.bool true) := hv
  refine EndAll.nil (l := []) rfl ?_
  simp only [Act.put, List.setIfInBounds_toArray, List.set_cons_zero, List.set_cons_succ]
  replace H_f := Lib.hid (H_f.out.below B26)
  replace hT := hT.below B26
  replace hW := hW.trans (B26.mono hW.size)
  clear B26
  obtain ⟨f1, f2, f3⟩ := H_f.out
  go_wp2_with fail
  clear f1 f2 f3
  exact bodyPost_ret (v := .bool true) (by simp [results, Tryd.results4, go_sem]) rfl ⟨rfl, hW⟩
theorem inverse_calls {n x : Nat} {w : World} (hn : n < 256) (hx : x < 18446744073709551616) (hT : TabHas w) :
    Calls Tryd.prog 4 #[.int .u8 (n : Int), .int .u64 (x : Int)] w (fun e w' => e = .returned (.bool true) ∧ Below w.heap.size w w') := by
  have hp := pn_pr (n % 12) (by omega)
  by_cases hz : x % (pn (n % 12)) = 0
  · exact inverse_zero hn hx hT rfl hp hz
  · exact inverse_some hn hx hT rfl hp hz
end Go.Proofs.YtfdgblmegiehnaaDoor
