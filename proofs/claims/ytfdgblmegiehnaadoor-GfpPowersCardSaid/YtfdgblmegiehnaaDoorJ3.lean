/-
  The walk of GfpPowers.
-/
import Derived.Test.YtfdgblmegiehnaaDoorJ2
/-! The walk of GfpPowers. -/
namespace Go.Proofs.YtfdgblmegiehnaaDoor
open Go.RowKit
set_option linter.unusedVariables false
set_option linter.unusedSimpArgs false

theorem tmod41 (e : Int) : -40 ≤ e.tmod 41 ∧ e.tmod 41 ≤ 40 := by
  have h := Int.natAbs_tmod e 41
  have : (41 : Int).natAbs = 41 := rfl
  rw [this] at h
  omega
theorem pow_prime {p x : Nat} (hp : MR.Pr p) : x ^ p % p = x % p := by
  have h2 := hp.1
  by_cases hd : p ∣ x
  · rw [Nat.mod_eq_zero_of_dvd hd, Nat.pow_mod, Nat.mod_eq_zero_of_dvd hd, Nat.zero_pow (by omega), Nat.zero_mod]
  · rw [show p = (p - 1) + 1 by omega, Nat.pow_succ, ← show p = (p - 1) + 1 by omega, Nat.mul_mod, MR.fermat hp hd, Nat.one_mul, Nat.mod_mod]
theorem pow_next {p b k z : Nat} (hz : b ^ k % p = z) : z * b % p = b ^ (k + 1) % p := by
  rw [← hz, Nat.mod_mul_mod, Nat.pow_succ]
set_option maxRecDepth 100000 in
set_option maxHeartbeats 4000000 in
theorem powers8_pos {n x p v : Nat} {e0 : Int} {w : World} (hn : n < 256) (hx : x < 18446744073709551616) (hT : TabHas w) (hp0 : pn (n % 12) = p) (hp : MR.Pr p ∧ p < 2147483648 ∧ 2 ≤ p) (hv : v ≤ 40) (hN : e0.tmod 41 = (v : Int)) :
    Calls Tryd.prog 5 #[.int .u8 (n : Int), .int .u64 (x : Int), .int .i8 e0] w (fun e w' => e = .returned (.bool true) ∧ Below w.heap.size w w') := by
  have hW := Below.refl w.heap.size w
  have h2 : 2 ≤ p := hp.2.2
  have h : p < 2147483648 := hp.2.1
  have HPR := Lib.hid hp.1
  clear hp
  obtain ⟨ab, hab⟩ : ∃ ab, ab + 2 = p := ⟨p - 2, by omega⟩
  have HP := Lib.hid hab
  clear hab
  have HP0 := Lib.hid hp0
  clear hp0
  have hpn : ¬ (p = 0) := by omega
  obtain ⟨X, hX⟩ : ∃ X, x % p = X := ⟨_, rfl⟩
  have HX := Lib.hid hX
  obtain ⟨b, hb⟩ : ∃ b, x = b := ⟨_, rfl⟩
  have Hb := Lib.hid hb
  obtain ⟨KK, hKK⟩ : ∃ KK, b ^ v % p = KK := ⟨_, rfl⟩
  have HKK := Lib.hid hKK
  have T1 : Hid ((((x : Nat) : Int)).tmod (p : Int) = (X : Int)) := Lib.hid (by rw [Int.tmod_eq_emod_of_nonneg (by omega), ← Int.natCast_emod, hX])
  have lb : b < 18446744073709551616 := by omega
  have HE : Hid (powW p x ((v : Int)) = KK) := Lib.hid (by unfold powW; rw [if_neg (by omega), show ((v : Int) : Int).natAbs = v by omega, ← hKK, hb])
  have HPP : Hid (powW p x (p : Int) = X) := Lib.hid (by unfold powW; rw [if_neg (by omega), show ((p : Int)).natAbs = p by omega, pow_prime HPR.out, hX])
  have HP0' : Hid (powW p x 0 = 1) := Lib.hid (by unfold powW; rw [if_neg (by omega), show (0 : Int).natAbs = 0 from rfl, Nat.pow_zero, Nat.mod_eq_of_lt (by omega)])
  have H1 : Hid (1 % p = 1) := Lib.hid (Nat.mod_eq_of_lt (by omega))
  have T2 : Hid ((1 : Int).tmod (p : Int) = 1) := Lib.hid (by rw [Int.tmod_eq_emod_of_nonneg (by omega)]; exact Int.emod_eq_of_lt (by omega) (by omega))
  have HWP : Hid (IntKind.i64.wrap (p : Int) = (p : Int)) := Lib.hid (by rw [IntKind.wrap_i64]; omega)
  have H0 : Hid (b ^ 0 % p = 1) := Lib.hid (by rw [Nat.pow_zero]; exact H1.out)
  have hneg : ¬ ((v : Int) < 0) := by omega
  clear hX hb hKK
  go_enter Tryd.func5, Tryd.ntmps5
  go_wp2_with fail
  refine (rp_calls (p := p) hn HP0.out _).mono ?_
  rintro e w21 ⟨rfl, B21⟩
  replace hT := hT.below B21
  replace hW := hW.trans (B21.mono hW.size)
  clear B21
  go_wp2_with fail
  refine (fnew_yes (ab := ab) (by omega) hT HPR.out h HP.out).mono ?_
  rintro e w22 ⟨rfl, B22⟩
  replace hT := hT.below B22
  replace hW := hW.trans (B22.mono hW.size)
  clear B22
  obtain ⟨w23, hw23⟩ : ∃ xw, xw = w22.alloc (.cells #[.int .u64 (ab : Int)] 25) := ⟨_, rfl⟩
  have z23 : Below w22.heap.size w22 w23 := by rw [hw23]; exact zba _ _
  have HW23 : Hid (w22.alloc (.cells #[.int .u64 (ab : Int)] 25) = w23) := Lib.hid hw23.symm
  have lw_f : w.heap.size ≤ w22.heap.size := by have := hW.size; omega
  replace hT := hT.below z23
  replace hW := hW.trans (z23.mono hW.size)
  have H_f : Hid (Fb w23 w22.heap.size ab) := Lib.hid (by rw [hw23]; exact Fb.new _ _ _)
  clear z23 hw23
  go_wp2_with fail
  rw [HW23.out]
  refine (fnorm_v HP.out h (by omega) H1.out _).mono ?_
  rintro e w24 ⟨rfl, B24⟩
  replace H_f := Lib.hid (H_f.out.below B24)
  replace hT := hT.below B24
  replace hW := hW.trans (B24.mono hW.size)
  clear B24
  obtain rfl : x = b := Hb.out
  obtain ⟨f1, f2, f3⟩ := H_f.out
  go_wp2_with fail
  clear f1 f2 f3
  have HM : Hid (Fb w24 w22.heap.size ab ∧ TabHas w24 ∧ Below w.heap.size w w24) := Lib.hid ⟨H_f.out, hT, hW⟩
  clear hW H_f hT hN
  go_loopw [12, 13] (fun s12 s13 wr => ∃ k z : Nat, k ≤ v ∧ s13 = .int .i64 (k : Int) ∧ s12 = .int .u64 (z : Int) ∧ z < p ∧ Hid (x ^ k % p = z) ∧ Hid (Fb wr w22.heap.size ab ∧ TabHas wr ∧ Below w.heap.size w wr)) (fun _ s13 _ => v - (intOf s13).toNat)
  case atStart => exact ⟨0, 1, by omega, rfl, rfl, by omega, H0, HM⟩
  case round =>
    clear HM H0
    obtain ⟨k, z, hk, rfl, rfl, hz, HZ, HA⟩ := hrel
    obtain ⟨I1, hT, hW⟩ := HA.out
    have H_f := Lib.hid I1
    clear I1 HA
    by_cases hkv : k < v
    · have bk : decide ((k : Int) < (v : Int)) = true := decide_eq_true (by omega)
      obtain ⟨Z, hZ⟩ : ∃ Z, x ^ (k + 1) % p = Z := ⟨_, rfl⟩
      have lZ : Z < p := hZ ▸ Nat.mod_lt _ (by omega)
      have HS : Hid (z * x % p = Z) := Lib.hid (by rw [pow_next HZ.out]; exact hZ)
      have HZ' := Lib.hid hZ
      clear hZ
      obtain ⟨f1, f2, f3⟩ := H_f.out
      go_wp2_with fail
      clear f1 f2 f3
      refine (fmul_v HP.out h (by omega) hx HS.out _).mono ?_
      rintro e w201 ⟨rfl, B201⟩
      replace H_f := Lib.hid (H_f.out.below B201)
      replace hT := hT.below B201
      replace hW := hW.trans (B201.mono hW.size)
      clear B201
      obtain ⟨f1, f2, f3⟩ := H_f.out
      go_wp2_with fail
      clear f1 f2 f3
      go_roundw
      case rel => exact ⟨k + 1, Z, by omega, by go_num, rfl, lZ, HZ', Lib.hid ⟨H_f.out, hT, hW⟩⟩
      case measure => simp [intOf]; omega
    · obtain rfl : k = v := by omega
      obtain rfl : z = KK := by rw [← HZ.out]; exact HKK.out
      clear hkv HZ
      obtain ⟨f1, f2, f3⟩ := H_f.out
      go_wp2_with fail
      clear f1 f2 f3
      refine region8 [] 32 [IsK (.bool true), IsK (.bool true), IsK (.bool true), IsK (.bool true), IsK (.bool true), IsK (.agg #[.int .u64 (ab : Int)]), IsK (.int .u64 (x : Int)), IsK (.int .i64 ((k : Int))), IsK (.int .u64 (z : Int)), IsK (.int .u64 (z : Int)), IsK (.bool true), IsK (.bool true), IsK (.bool true), IsK (.agg #[.int .u64 (ab : Int)]), IsK (.int .u64 (x : Int)), IsK (.int .u64 (p : Int)), IsK (.int .i64 (p : Int)), IsK (.int .u64 (X : Int)), IsK (.int .u64 (x : Int)), IsK (.int .u64 (p : Int)), IsK (.int .u64 (X : Int)), IsK (.bool true), IsK (.bool true), IsK (.bool true), IsK (.agg #[.int .u64 (ab : Int)]), IsK (.int .u64 (x : Int)), IsK (.int .u64 ((1 : Nat) : Int)), IsK (.int .u64 (p : Int)), IsK (.int .u64 1), IsK (.bool true), IsK (.bool true), IsK (.bool true)] (fun _ _ d _ _ h => by cases d <;> exact h) (by kernel_rfl) (by kernel_rfl) (by kernel_rfl) ⟨stay_k _, stay_k _, stay_k _, stay_k _, stay_k _, stay_k _, stay_k _, stay_k _, stay_k _, stay_k _, stay_k _, stay_k _, stay_k _, stay_k _, stay_k _, stay_k _, stay_k _, stay_k _, stay_k _, stay_k _, stay_k _, stay_k _, stay_k _, stay_k _, stay_k _, stay_k _, stay_k _, stay_k _, stay_k _, stay_k _, stay_k _, stay_k _, trivial⟩ ?_ ?_
      · refine HopAll.cons rfl ?_ (HopAll.cons rfl ?_ (HopAll.cons rfl ?_ (HopAll.cons rfl ?_ (HopAll.cons rfl ?_ (HopAll.cons rfl ?_ (HopAll.cons rfl ?_ (HopAll.cons rfl ?_ (HopAll.cons rfl ?_ (HopAll.cons rfl ?_ (HopAll.cons rfl ?_ (HopAll.cons rfl ?_ (HopAll.cons rfl ?_ (HopAll.cons rfl ?_ (HopAll.cons rfl ?_ (HopAll.cons rfl ?_ (HopAll.cons rfl ?_ (HopAll.cons rfl ?_ (HopAll.cons rfl ?_ (HopAll.cons rfl ?_ (HopAll.cons rfl ?_ (HopAll.cons rfl ?_ (HopAll.cons rfl ?_ (HopAll.cons rfl ?_ (HopAll.cons rfl ?_ (HopAll.cons rfl ?_ (HopAll.cons rfl ?_ (HopAll.cons rfl ?_ (HopAll.cons rfl ?_ (HopAll.cons rfl ?_ (HopAll.cons rfl ?_ (HopAll.cons rfl ?_ HopAll.nil)))))))))))))))))))))))))))))))
        · intro a w1 hB ho hp K hK
          refine hop_call (wanted_none rfl) rfl (args := #[]) (by simp only [List.map_toArray, List.map_cons, List.map_nil, eval_const]) (ent7 (by kernel_rfl) _ _) (gawake_v (hT.below hB)) ?_
          rintro e w2 ⟨rfl, B⟩
          exact ⟨_, rfl, hK _ _ rfl B⟩
        · intro a w1 hB ho hp K hK
          have e47 : a.eval (.tmp 47) = (.bool true) := hp 0 47 (by kernel_rfl)
          refine hop_val (wanted_none rfl) ?_ (hK (.bool true) _ rfl (Below.refl _ _))
          unfold execOp; simp only [eval_const, e47]; simp [go_sem]
        · intro a w1 hB ho hp K hK
          have e9 : a.eval (.tmp 9) = (.bool true) := ho 9 (by kernel_rfl)
          refine hop_val (wanted_at rfl (j := 1) (d := 48) (b := true) (by kernel_rfl) (hp 1 48 (by kernel_rfl))) ?_ (hK (.bool true) _ rfl (Below.refl _ _))
          unfold execOp; simp only [eval_const, e9]; simp [go_sem]
        · intro a w1 hB ho hp K hK
          have e48 : a.eval (.tmp 48) = (.bool true) := hp 1 48 (by kernel_rfl)
          have e49 : a.eval (.tmp 49) = (.bool true) := hp 2 49 (by kernel_rfl)
          refine hop_val (wanted_none rfl) ?_ (hK (.bool true) _ rfl (Below.refl _ _))
          unfold execOp; simp only [eval_const, e48, e49]; simp [go_sem]
        · intro a w1 hB ho hp K hK
          have e50 : a.eval (.tmp 50) = (.bool true) := hp 3 50 (by kernel_rfl)
          refine hop_val (wanted_none rfl) ?_ (hK (.bool true) _ rfl (Below.refl _ _))
          unfold execOp; simp only [eval_const, e50]; simp [go_sem]
        · intro a w1 hB ho hp K hK
          have e8 : a.eval (.tmp 8) = (.pointer (some ⟨w22.heap.size, 0, none⟩)) := ho 8 (by kernel_rfl)
          obtain ⟨u1, u2, u3⟩ := H_f.out.below hB
          exact hop_load (wanted_at rfl (j := 4) (d := 51) (b := true) (by kernel_rfl) (hp 4 51 (by kernel_rfl))) rfl e8 (run_ldf u1) (hK _ _ rfl (Below.refl _ _))
        · intro a w1 hB ho hp K hK
          have e1 : a.eval (.tmp 1) = (.int .u64 (x : Int)) := ho 1 (by kernel_rfl)
          refine hop_val (wanted_at rfl (j := 4) (d := 51) (b := true) (by kernel_rfl) (hp 4 51 (by kernel_rfl))) ?_ (hK (.int .u64 (x : Int)) _ rfl (Below.refl _ _))
          unfold execOp; simp only [eval_const, e1]; simp [go_sem]
        · intro a w1 hB ho hp K hK
          have e10 : a.eval (.tmp 10) = (.int .i64 ((k : Int))) := ho 10 (by kernel_rfl)
          refine hop_val (wanted_at rfl (j := 4) (d := 51) (b := true) (by kernel_rfl) (hp 4 51 (by kernel_rfl))) ?_ (hK (.int .i64 ((k : Int))) _ rfl (Below.refl _ _))
          unfold execOp; simp only [eval_const, e10]; simp [go_sem]
        · intro a w1 hB ho hp K hK
          have e52 : a.eval (.tmp 52) = (.agg #[.int .u64 (ab : Int)]) := hp 5 52 (by kernel_rfl)
          have e53 : a.eval (.tmp 53) = (.int .u64 (x : Int)) := hp 6 53 (by kernel_rfl)
          have e54 : a.eval (.tmp 54) = (.int .i64 ((k : Int))) := hp 7 54 (by kernel_rfl)
          refine hop_call (wanted_at rfl (j := 4) (d := 51) (b := true) (by kernel_rfl) (hp 4 51 (by kernel_rfl))) rfl (args := #[(.agg #[.int .u64 (ab : Int)]), (.int .u64 (x : Int)), (.int .i64 ((k : Int)))]) (by simp only [List.map_toArray, List.map_cons, List.map_nil, eval_const, e52, e53, e54]) (ent7 (by kernel_rfl) _ _) (fpow_v HP.out h hx (by omega) (by omega) HE.out _) ?_
          rintro e w2 ⟨rfl, B⟩
          exact ⟨_, rfl, hK _ _ rfl B⟩
        · intro a w1 hB ho hp K hK
          have e12 : a.eval (.tmp 12) = (.int .u64 (z : Int)) := ho 12 (by kernel_rfl)
          refine hop_val (wanted_at rfl (j := 4) (d := 51) (b := true) (by kernel_rfl) (hp 4 51 (by kernel_rfl))) ?_ (hK (.int .u64 (z : Int)) _ rfl (Below.refl _ _))
          unfold execOp; simp only [eval_const, e12]; simp [go_sem]
        · intro a w1 hB ho hp K hK
          have e55 : a.eval (.tmp 55) = (.int .u64 (z : Int)) := hp 8 55 (by kernel_rfl)
          have e56 : a.eval (.tmp 56) = (.int .u64 (z : Int)) := hp 9 56 (by kernel_rfl)
          refine hop_val (wanted_at rfl (j := 4) (d := 51) (b := true) (by kernel_rfl) (hp 4 51 (by kernel_rfl))) ?_ (hK (.bool true) _ rfl (Below.refl _ _))
          unfold execOp; simp only [eval_const, e55, e56]; simp [go_sem]
        · intro a w1 hB ho hp K hK
          have e51 : a.eval (.tmp 51) = (.bool true) := hp 4 51 (by kernel_rfl)
          have e57 : a.eval (.tmp 57) = (.bool true) := hp 10 57 (by kernel_rfl)
          refine hop_val (wanted_none rfl) ?_ (hK (.bool true) _ rfl (Below.refl _ _))
          unfold execOp; simp only [eval_const, e51, e57]; simp [go_sem]
        · intro a w1 hB ho hp K hK
          have e58 : a.eval (.tmp 58) = (.bool true) := hp 11 58 (by kernel_rfl)
          refine hop_val (wanted_none rfl) ?_ (hK (.bool true) _ rfl (Below.refl _ _))
          unfold execOp; simp only [eval_const, e58]; simp [go_sem]
        · intro a w1 hB ho hp K hK
          have e8 : a.eval (.tmp 8) = (.pointer (some ⟨w22.heap.size, 0, none⟩)) := ho 8 (by kernel_rfl)
          obtain ⟨u1, u2, u3⟩ := H_f.out.below hB
          exact hop_load (wanted_at rfl (j := 12) (d := 59) (b := true) (by kernel_rfl) (hp 12 59 (by kernel_rfl))) rfl e8 (run_ldf u1) (hK _ _ rfl (Below.refl _ _))
        · intro a w1 hB ho hp K hK
          have e1 : a.eval (.tmp 1) = (.int .u64 (x : Int)) := ho 1 (by kernel_rfl)
          refine hop_val (wanted_at rfl (j := 12) (d := 59) (b := true) (by kernel_rfl) (hp 12 59 (by kernel_rfl))) ?_ (hK (.int .u64 (x : Int)) _ rfl (Below.refl _ _))
          unfold execOp; simp only [eval_const, e1]; simp [go_sem]
        · intro a w1 hB ho hp K hK
          have e7 : a.eval (.tmp 7) = (.int .u64 (p : Int)) := ho 7 (by kernel_rfl)
          refine hop_val (wanted_at rfl (j := 12) (d := 59) (b := true) (by kernel_rfl) (hp 12 59 (by kernel_rfl))) ?_ (hK (.int .u64 (p : Int)) _ rfl (Below.refl _ _))
          unfold execOp; simp only [eval_const, e7]; simp [go_sem]
        · intro a w1 hB ho hp K hK
          have e62 : a.eval (.tmp 62) = (.int .u64 (p : Int)) := hp 15 62 (by kernel_rfl)
          refine hop_val (wanted_at rfl (j := 12) (d := 59) (b := true) (by kernel_rfl) (hp 12 59 (by kernel_rfl))) ?_ (hK (.int .i64 (p : Int)) _ rfl (Below.refl _ _))
          unfold execOp; simp only [eval_const, e62]; simp [go_sem, HWP.out]
        · intro a w1 hB ho hp K hK
          have e60 : a.eval (.tmp 60) = (.agg #[.int .u64 (ab : Int)]) := hp 13 60 (by kernel_rfl)
          have e61 : a.eval (.tmp 61) = (.int .u64 (x : Int)) := hp 14 61 (by kernel_rfl)
          have e63 : a.eval (.tmp 63) = (.int .i64 (p : Int)) := hp 16 63 (by kernel_rfl)
          refine hop_call (wanted_at rfl (j := 12) (d := 59) (b := true) (by kernel_rfl) (hp 12 59 (by kernel_rfl))) rfl (args := #[(.agg #[.int .u64 (ab : Int)]), (.int .u64 (x : Int)), (.int .i64 (p : Int))]) (by simp only [List.map_toArray, List.map_cons, List.map_nil, eval_const, e60, e61, e63]) (ent7 (by kernel_rfl) _ _) (fpow_v HP.out h hx (by omega) (by omega) HPP.out _) ?_
          rintro e w2 ⟨rfl, B⟩
          exact ⟨_, rfl, hK _ _ rfl B⟩
        · intro a w1 hB ho hp K hK
          have e1 : a.eval (.tmp 1) = (.int .u64 (x : Int)) := ho 1 (by kernel_rfl)
          refine hop_val (wanted_at rfl (j := 12) (d := 59) (b := true) (by kernel_rfl) (hp 12 59 (by kernel_rfl))) ?_ (hK (.int .u64 (x : Int)) _ rfl (Below.refl _ _))
          unfold execOp; simp only [eval_const, e1]; simp [go_sem]
        · intro a w1 hB ho hp K hK
          have e7 : a.eval (.tmp 7) = (.int .u64 (p : Int)) := ho 7 (by kernel_rfl)
          refine hop_val (wanted_at rfl (j := 12) (d := 59) (b := true) (by kernel_rfl) (hp 12 59 (by kernel_rfl))) ?_ (hK (.int .u64 (p : Int)) _ rfl (Below.refl _ _))
          unfold execOp; simp only [eval_const, e7]; simp [go_sem]
        · intro a w1 hB ho hp K hK
          have e65 : a.eval (.tmp 65) = (.int .u64 (x : Int)) := hp 18 65 (by kernel_rfl)
          have e66 : a.eval (.tmp 66) = (.int .u64 (p : Int)) := hp 19 66 (by kernel_rfl)
          refine hop_val (wanted_at rfl (j := 12) (d := 59) (b := true) (by kernel_rfl) (hp 12 59 (by kernel_rfl))) ?_ (hK (.int .u64 (X : Int)) _ rfl (Below.refl _ _))
          unfold execOp; simp only [eval_const, e65, e66]; simp [go_sem, T1.out, hpn]
        · intro a w1 hB ho hp K hK
          have e64 : a.eval (.tmp 64) = (.int .u64 (X : Int)) := hp 17 64 (by kernel_rfl)
          have e67 : a.eval (.tmp 67) = (.int .u64 (X : Int)) := hp 20 67 (by kernel_rfl)
          refine hop_val (wanted_at rfl (j := 12) (d := 59) (b := true) (by kernel_rfl) (hp 12 59 (by kernel_rfl))) ?_ (hK (.bool true) _ rfl (Below.refl _ _))
          unfold execOp; simp only [eval_const, e64, e67]; simp [go_sem]
        · intro a w1 hB ho hp K hK
          have e59 : a.eval (.tmp 59) = (.bool true) := hp 12 59 (by kernel_rfl)
          have e68 : a.eval (.tmp 68) = (.bool true) := hp 21 68 (by kernel_rfl)
          refine hop_val (wanted_none rfl) ?_ (hK (.bool true) _ rfl (Below.refl _ _))
          unfold execOp; simp only [eval_const, e59, e68]; simp [go_sem]
        · intro a w1 hB ho hp K hK
          have e69 : a.eval (.tmp 69) = (.bool true) := hp 22 69 (by kernel_rfl)
          refine hop_val (wanted_none rfl) ?_ (hK (.bool true) _ rfl (Below.refl _ _))
          unfold execOp; simp only [eval_const, e69]; simp [go_sem]
        · intro a w1 hB ho hp K hK
          have e8 : a.eval (.tmp 8) = (.pointer (some ⟨w22.heap.size, 0, none⟩)) := ho 8 (by kernel_rfl)
          obtain ⟨u1, u2, u3⟩ := H_f.out.below hB
          exact hop_load (wanted_at rfl (j := 23) (d := 70) (b := true) (by kernel_rfl) (hp 23 70 (by kernel_rfl))) rfl e8 (run_ldf u1) (hK _ _ rfl (Below.refl _ _))
        · intro a w1 hB ho hp K hK
          have e1 : a.eval (.tmp 1) = (.int .u64 (x : Int)) := ho 1 (by kernel_rfl)
          refine hop_val (wanted_at rfl (j := 23) (d := 70) (b := true) (by kernel_rfl) (hp 23 70 (by kernel_rfl))) ?_ (hK (.int .u64 (x : Int)) _ rfl (Below.refl _ _))
          unfold execOp; simp only [eval_const, e1]; simp [go_sem]
        · intro a w1 hB ho hp K hK
          have e71 : a.eval (.tmp 71) = (.agg #[.int .u64 (ab : Int)]) := hp 24 71 (by kernel_rfl)
          have e72 : a.eval (.tmp 72) = (.int .u64 (x : Int)) := hp 25 72 (by kernel_rfl)
          refine hop_call (wanted_at rfl (j := 23) (d := 70) (b := true) (by kernel_rfl) (hp 23 70 (by kernel_rfl))) rfl (args := #[(.agg #[.int .u64 (ab : Int)]), (.int .u64 (x : Int)), .int .i64 (0)]) (by simp only [List.map_toArray, List.map_cons, List.map_nil, eval_const, e71, e72]) (ent7 (by kernel_rfl) _ _) (fpow_v HP.out h hx (by omega) (by omega) HP0'.out _) ?_
          rintro e w2 ⟨rfl, B⟩
          exact ⟨_, rfl, hK _ _ rfl B⟩
        · intro a w1 hB ho hp K hK
          have e7 : a.eval (.tmp 7) = (.int .u64 (p : Int)) := ho 7 (by kernel_rfl)
          refine hop_val (wanted_at rfl (j := 23) (d := 70) (b := true) (by kernel_rfl) (hp 23 70 (by kernel_rfl))) ?_ (hK (.int .u64 (p : Int)) _ rfl (Below.refl _ _))
          unfold execOp; simp only [eval_const, e7]; simp [go_sem]
        · intro a w1 hB ho hp K hK
          have e74 : a.eval (.tmp 74) = (.int .u64 (p : Int)) := hp 27 74 (by kernel_rfl)
          refine hop_val (wanted_at rfl (j := 23) (d := 70) (b := true) (by kernel_rfl) (hp 23 70 (by kernel_rfl))) ?_ (hK (.int .u64 1) _ rfl (Below.refl _ _))
          unfold execOp; simp only [eval_const, e74]; simp [go_sem, T2.out, hpn]
        · intro a w1 hB ho hp K hK
          have e73 : a.eval (.tmp 73) = (.int .u64 ((1 : Nat) : Int)) := hp 26 73 (by kernel_rfl)
          have e75 : a.eval (.tmp 75) = (.int .u64 1) := hp 28 75 (by kernel_rfl)
          refine hop_val (wanted_at rfl (j := 23) (d := 70) (b := true) (by kernel_rfl) (hp 23 70 (by kernel_rfl))) ?_ (hK (.bool true) _ rfl (Below.refl _ _))
          unfold execOp; simp only [eval_const, e73, e75]; simp [go_sem]
        · intro a w1 hB ho hp K hK
          have e70 : a.eval (.tmp 70) = (.bool true) := hp 23 70 (by kernel_rfl)
          have e76 : a.eval (.tmp 76) = (.bool true) := hp 29 76 (by kernel_rfl)
          refine hop_val (wanted_none rfl) ?_ (hK (.bool true) _ rfl (Below.refl _ _))
          unfold execOp; simp only [eval_const, e70, e76]; simp [go_sem]
        · intro a w1 hB ho hp K hK
          have e77 : a.eval (.tmp 77) = (.bool true) := hp 30 77 (by kernel_rfl)
          refine hop_val (wanted_none rfl) ?_ (hK (.bool true) _ rfl (Below.refl _ _))
          unfold execOp; simp only [eval_const, e77]; simp [go_sem]
      intro w301 B301
      refine EndAll.one rfl fun vv hv => ?_
      obtain rfl : vv = (.bool true) := hv
      refine EndAll.one rfl fun vv hv => ?_
      obtain rfl : vv = (.bool true) := hv
      refine EndAll.one rfl fun vv hv => ?_
      obtain rfl : vv = (.bool true) := hv
      refine EndAll.one rfl fun vv hv => ?_
      obtain rfl : vv = (.bool true) := hv
      refine EndAll.one rfl fun vv hv => ?_
      obtain rfl : vv = (.bool true) := hv
      refine EndAll.one rfl fun vv hv => ?_
      obtain rfl : vv = (.agg #[.int .u64 (ab : Int)]) := hv
      refine EndAll.one rfl fun vv hv => ?_
      obtain rfl : vv = (.int .u64 (x : Int)) := hv
      refine EndAll.one rfl fun vv hv => ?_
      obtain rfl : vv = (.int .i64 ((k : Int))) := hv
      refine EndAll.one rfl fun vv hv => ?_
      obtain rfl : vv = (.int .u64 (z : Int)) := hv
      refine EndAll.one rfl fun vv hv => ?_
      obtain rfl : vv = (.int .u64 (z : Int)) := hv
      refine EndAll.one rfl fun vv hv => ?_
      obtain rfl : vv = (.bool true) := hv
      refine EndAll.one rfl fun vv hv => ?_
      obtain rfl : vv = (.bool true) := hv
      refine EndAll.one rfl fun vv hv => ?_
      obtain rfl : vv = (.bool true) := hv
      refine EndAll.one rfl fun vv hv => ?_
      obtain rfl : vv = (.agg #[.int .u64 (ab : Int)]) := hv
      refine EndAll.one rfl fun vv hv => ?_
      obtain rfl : vv = (.int .u64 (x : Int)) := hv
      refine EndAll.one rfl fun vv hv => ?_
      obtain rfl : vv = (.int .u64 (p : Int)) := hv
      refine EndAll.one rfl fun vv hv => ?_
      obtain rfl : vv = (.int .i64 (p : Int)) := hv
      refine EndAll.one rfl fun vv hv => ?_
      obtain rfl : vv = (.int .u64 (X : Int)) := hv
      refine EndAll.one rfl fun vv hv => ?_
      obtain rfl : vv = (.int .u64 (x : Int)) := hv
      refine EndAll.one rfl fun vv hv => ?_
      obtain rfl : vv = (.int .u64 (p : Int)) := hv
      refine EndAll.one rfl fun vv hv => ?_
      obtain rfl : vv = (.int .u64 (X : Int)) := hv
      refine EndAll.one rfl fun vv hv => ?_
      obtain rfl : vv = (.bool true) := hv
      refine EndAll.one rfl fun vv hv => ?_
      obtain rfl : vv = (.bool true) := hv
      refine EndAll.one rfl fun vv hv => ?_
      obtain rfl : vv = (.bool true) := hv
      refine EndAll.one rfl fun vv hv => ?_
      obtain rfl : vv = (.agg #[.int .u64 (ab : Int)]) := hv
      refine EndAll.one rfl fun vv hv => ?_
      obtain rfl : vv = (.int .u64 (x : Int)) := hv
      refine EndAll.one rfl fun vv hv => ?_
      obtain rfl : vv = (.int .u64 ((1 : Nat) : Int)) := hv
      refine EndAll.one rfl fun vv hv => ?_
      obtain rfl : vv = (.int .u64 (p : Int)) := hv
      refine EndAll.one rfl fun vv hv => ?_
      obtain rfl : vv = (.int .u64 1) := hv
      refine EndAll.one rfl fun vv hv => ?_
      obtain rfl : vv = (.bool true) := hv
      refine EndAll.one rfl fun vv hv => ?_
      obtain rfl : vv = (.bool true) := hv
      refine EndAll.one rfl fun vv hv => ?_
      obtain rfl : vv = (.bool true) := hv
      refine EndAll.nil (l := []) rfl ?_
      simp only [Act.put, List.setIfInBounds_toArray, List.set_cons_zero, List.set_cons_succ]
      replace H_f := Lib.hid (H_f.out.below B301)
      replace hT := hT.below B301
      replace hW := hW.trans (B301.mono hW.size)
      clear B301
      obtain ⟨f1, f2, f3⟩ := H_f.out
      go_wp2_with fail
      clear f1 f2 f3
      exact bodyPost_ret (v := .bool true) (by simp [results, Tryd.results5, go_sem]) rfl ⟨rfl, hW⟩
set_option maxRecDepth 100000 in
set_option maxHeartbeats 4000000 in
theorem powers8_neg {n x p v : Nat} {e0 : Int} {w : World} (hn : n < 256) (hx : x < 18446744073709551616) (hT : TabHas w) (hp0 : pn (n % 12) = p) (hp : MR.Pr p ∧ p < 2147483648 ∧ 2 ≤ p) (hv : v ≤ 40) (hv0 : 0 < v) (hN : e0.tmod 41 = -(v : Int)) :
    Calls Tryd.prog 5 #[.int .u8 (n : Int), .int .u64 (x : Int), .int .i8 e0] w (fun e w' => e = .returned (.bool true) ∧ Below w.heap.size w w') := by
  have hW := Below.refl w.heap.size w
  have h2 : 2 ≤ p := hp.2.2
  have h : p < 2147483648 := hp.2.1
  have HPR := Lib.hid hp.1
  clear hp
  obtain ⟨ab, hab⟩ : ∃ ab, ab + 2 = p := ⟨p - 2, by omega⟩
  have HP := Lib.hid hab
  clear hab
  have HP0 := Lib.hid hp0
  clear hp0
  have hpn : ¬ (p = 0) := by omega
  obtain ⟨X, hX⟩ : ∃ X, x % p = X := ⟨_, rfl⟩
  have HX := Lib.hid hX
  obtain ⟨b, hb⟩ : ∃ b, (invW p x) = b := ⟨_, rfl⟩
  have Hb := Lib.hid hb
  obtain ⟨KK, hKK⟩ : ∃ KK, b ^ v % p = KK := ⟨_, rfl⟩
  have HKK := Lib.hid hKK
  have T1 : Hid ((((x : Nat) : Int)).tmod (p : Int) = (X : Int)) := Lib.hid (by rw [Int.tmod_eq_emod_of_nonneg (by omega), ← Int.natCast_emod, hX])
  have lb : b < 18446744073709551616 := by rw [← hb]; have := invW_lt (p := p) (x := x) (by omega); omega
  have HE : Hid (powW p x (-(v : Int)) = KK) := Lib.hid (by unfold powW; rw [if_pos (by omega), hb, show (-(v : Int) : Int).natAbs = v by omega, hKK])
  have HPP : Hid (powW p x (p : Int) = X) := Lib.hid (by unfold powW; rw [if_neg (by omega), show ((p : Int)).natAbs = p by omega, pow_prime HPR.out, hX])
  have HP0' : Hid (powW p x 0 = 1) := Lib.hid (by unfold powW; rw [if_neg (by omega), show (0 : Int).natAbs = 0 from rfl, Nat.pow_zero, Nat.mod_eq_of_lt (by omega)])
  have H1 : Hid (1 % p = 1) := Lib.hid (Nat.mod_eq_of_lt (by omega))
  have T2 : Hid ((1 : Int).tmod (p : Int) = 1) := Lib.hid (by rw [Int.tmod_eq_emod_of_nonneg (by omega)]; exact Int.emod_eq_of_lt (by omega) (by omega))
  have HWP : Hid (IntKind.i64.wrap (p : Int) = (p : Int)) := Lib.hid (by rw [IntKind.wrap_i64]; omega)
  have H0 : Hid (b ^ 0 % p = 1) := Lib.hid (by rw [Nat.pow_zero]; exact H1.out)
  have hneg : -(v : Int) < 0 := by omega
  have hwr : wrap64 (v : Int) = (v : Int) := by unfold wrap64; omega
  clear hX hb hKK
  go_enter Tryd.func5, Tryd.ntmps5
  go_wp2_with fail
  refine (rp_calls (p := p) hn HP0.out _).mono ?_
  rintro e w21 ⟨rfl, B21⟩
  replace hT := hT.below B21
  replace hW := hW.trans (B21.mono hW.size)
  clear B21
  go_wp2_with fail
  refine (fnew_yes (ab := ab) (by omega) hT HPR.out h HP.out).mono ?_
  rintro e w22 ⟨rfl, B22⟩
  replace hT := hT.below B22
  replace hW := hW.trans (B22.mono hW.size)
  clear B22
  obtain ⟨w23, hw23⟩ : ∃ xw, xw = w22.alloc (.cells #[.int .u64 (ab : Int)] 25) := ⟨_, rfl⟩
  have z23 : Below w22.heap.size w22 w23 := by rw [hw23]; exact zba _ _
  have HW23 : Hid (w22.alloc (.cells #[.int .u64 (ab : Int)] 25) = w23) := Lib.hid hw23.symm
  have lw_f : w.heap.size ≤ w22.heap.size := by have := hW.size; omega
  replace hT := hT.below z23
  replace hW := hW.trans (z23.mono hW.size)
  have H_f : Hid (Fb w23 w22.heap.size ab) := Lib.hid (by rw [hw23]; exact Fb.new _ _ _)
  clear z23 hw23
  go_wp2_with fail
  rw [HW23.out]
  refine (finv_v HP.out h hx Hb.out _).mono ?_
  rintro e w24 ⟨rfl, B24⟩
  replace H_f := Lib.hid (H_f.out.below B24)
  replace hT := hT.below B24
  replace hW := hW.trans (B24.mono hW.size)
  clear B24
  obtain ⟨f1, f2, f3⟩ := H_f.out
  go_wp2_with fail
  clear f1 f2 f3
  refine (fnorm_v HP.out h (by omega) H1.out _).mono ?_
  rintro e w25 ⟨rfl, B25⟩
  replace H_f := Lib.hid (H_f.out.below B25)
  replace hT := hT.below B25
  replace hW := hW.trans (B25.mono hW.size)
  clear B25
  obtain ⟨f1, f2, f3⟩ := H_f.out
  go_wp2_with fail
  clear f1 f2 f3
  have HM : Hid (Fb w25 w22.heap.size ab ∧ TabHas w25 ∧ Below w.heap.size w w25) := Lib.hid ⟨H_f.out, hT, hW⟩
  clear hW H_f hT hN
  go_loopw [12, 13] (fun s12 s13 wr => ∃ k z : Nat, k ≤ v ∧ s13 = .int .i64 (k : Int) ∧ s12 = .int .u64 (z : Int) ∧ z < p ∧ Hid (b ^ k % p = z) ∧ Hid (Fb wr w22.heap.size ab ∧ TabHas wr ∧ Below w.heap.size w wr)) (fun _ s13 _ => v - (intOf s13).toNat)
  case atStart => exact ⟨0, 1, by omega, rfl, rfl, by omega, H0, HM⟩
  case round =>
    clear HM H0
    obtain ⟨k, z, hk, rfl, rfl, hz, HZ, HA⟩ := hrel
    obtain ⟨I1, hT, hW⟩ := HA.out
    have H_f := Lib.hid I1
    clear I1 HA
    by_cases hkv : k < v
    · have bk : decide ((k : Int) < (v : Int)) = true := decide_eq_true (by omega)
      have bk0 : decide ((k : Int) < -(v : Int)) = false := decide_eq_false (by omega)
      obtain ⟨Z, hZ⟩ : ∃ Z, b ^ (k + 1) % p = Z := ⟨_, rfl⟩
      have lZ : Z < p := hZ ▸ Nat.mod_lt _ (by omega)
      have HS : Hid (z * b % p = Z) := Lib.hid (by rw [pow_next HZ.out]; exact hZ)
      have HZ' := Lib.hid hZ
      clear hZ
      obtain ⟨f1, f2, f3⟩ := H_f.out
      go_wp2_with fail
      clear f1 f2 f3
      refine (fmul_v HP.out h (by omega) lb HS.out _).mono ?_
      rintro e w201 ⟨rfl, B201⟩
      replace H_f := Lib.hid (H_f.out.below B201)
      replace hT := hT.below B201
      replace hW := hW.trans (B201.mono hW.size)
      clear B201
      obtain ⟨f1, f2, f3⟩ := H_f.out
      go_wp2_with fail
      clear f1 f2 f3
      go_roundw
      case rel => exact ⟨k + 1, Z, by omega, by go_num, rfl, lZ, HZ', Lib.hid ⟨H_f.out, hT, hW⟩⟩
      case measure => simp [intOf]; omega
    · obtain rfl : k = v := by omega
      obtain rfl : z = KK := by rw [← HZ.out]; exact HKK.out
      clear hkv HZ
      obtain ⟨f1, f2, f3⟩ := H_f.out
      go_wp2_with fail
      clear f1 f2 f3
      refine region8 [] 32 [IsK (.bool true), IsK (.bool true), IsK (.bool true), IsK (.bool true), IsK (.bool true), IsK (.agg #[.int .u64 (ab : Int)]), IsK (.int .u64 (x : Int)), IsK (.int .i64 (-(k : Int))), IsK (.int .u64 (z : Int)), IsK (.int .u64 (z : Int)), IsK (.bool true), IsK (.bool true), IsK (.bool true), IsK (.agg #[.int .u64 (ab : Int)]), IsK (.int .u64 (x : Int)), IsK (.int .u64 (p : Int)), IsK (.int .i64 (p : Int)), IsK (.int .u64 (X : Int)), IsK (.int .u64 (x : Int)), IsK (.int .u64 (p : Int)), IsK (.int .u64 (X : Int)), IsK (.bool true), IsK (.bool true), IsK (.bool true), IsK (.agg #[.int .u64 (ab : Int)]), IsK (.int .u64 (x : Int)), IsK (.int .u64 ((1 : Nat) : Int)), IsK (.int .u64 (p : Int)), IsK (.int .u64 1), IsK (.bool true), IsK (.bool true), IsK (.bool true)] (fun _ _ d _ _ h => by cases d <;> exact h) (by kernel_rfl) (by kernel_rfl) (by kernel_rfl) ⟨stay_k _, stay_k _, stay_k _, stay_k _, stay_k _, stay_k _, stay_k _, stay_k _, stay_k _, stay_k _, stay_k _, stay_k _, stay_k _, stay_k _, stay_k _, stay_k _, stay_k _, stay_k _, stay_k _, stay_k _, stay_k _, stay_k _, stay_k _, stay_k _, stay_k _, stay_k _, stay_k _, stay_k _, stay_k _, stay_k _, stay_k _, stay_k _, trivial⟩ ?_ ?_
      · refine HopAll.cons rfl ?_ (HopAll.cons rfl ?_ (HopAll.cons rfl ?_ (HopAll.cons rfl ?_ (HopAll.cons rfl ?_ (HopAll.cons rfl ?_ (HopAll.cons rfl ?_ (HopAll.cons rfl ?_ (HopAll.cons rfl ?_ (HopAll.cons rfl ?_ (HopAll.cons rfl ?_ (HopAll.cons rfl ?_ (HopAll.cons rfl ?_ (HopAll.cons rfl ?_ (HopAll.cons rfl ?_ (HopAll.cons rfl ?_ (HopAll.cons rfl ?_ (HopAll.cons rfl ?_ (HopAll.cons rfl ?_ (HopAll.cons rfl ?_ (HopAll.cons rfl ?_ (HopAll.cons rfl ?_ (HopAll.cons rfl ?_ (HopAll.cons rfl ?_ (HopAll.cons rfl ?_ (HopAll.cons rfl ?_ (HopAll.cons rfl ?_ (HopAll.cons rfl ?_ (HopAll.cons rfl ?_ (HopAll.cons rfl ?_ (HopAll.cons rfl ?_ (HopAll.cons rfl ?_ HopAll.nil)))))))))))))))))))))))))))))))
        · intro a w1 hB ho hp K hK
          refine hop_call (wanted_none rfl) rfl (args := #[]) (by simp only [List.map_toArray, List.map_cons, List.map_nil, eval_const]) (ent7 (by kernel_rfl) _ _) (gawake_v (hT.below hB)) ?_
          rintro e w2 ⟨rfl, B⟩
          exact ⟨_, rfl, hK _ _ rfl B⟩
        · intro a w1 hB ho hp K hK
          have e47 : a.eval (.tmp 47) = (.bool true) := hp 0 47 (by kernel_rfl)
          refine hop_val (wanted_none rfl) ?_ (hK (.bool true) _ rfl (Below.refl _ _))
          unfold execOp; simp only [eval_const, e47]; simp [go_sem]
        · intro a w1 hB ho hp K hK
          have e9 : a.eval (.tmp 9) = (.bool true) := ho 9 (by kernel_rfl)
          refine hop_val (wanted_at rfl (j := 1) (d := 48) (b := true) (by kernel_rfl) (hp 1 48 (by kernel_rfl))) ?_ (hK (.bool true) _ rfl (Below.refl _ _))
          unfold execOp; simp only [eval_const, e9]; simp [go_sem]
        · intro a w1 hB ho hp K hK
          have e48 : a.eval (.tmp 48) = (.bool true) := hp 1 48 (by kernel_rfl)
          have e49 : a.eval (.tmp 49) = (.bool true) := hp 2 49 (by kernel_rfl)
          refine hop_val (wanted_none rfl) ?_ (hK (.bool true) _ rfl (Below.refl _ _))
          unfold execOp; simp only [eval_const, e48, e49]; simp [go_sem]
        · intro a w1 hB ho hp K hK
          have e50 : a.eval (.tmp 50) = (.bool true) := hp 3 50 (by kernel_rfl)
          refine hop_val (wanted_none rfl) ?_ (hK (.bool true) _ rfl (Below.refl _ _))
          unfold execOp; simp only [eval_const, e50]; simp [go_sem]
        · intro a w1 hB ho hp K hK
          have e8 : a.eval (.tmp 8) = (.pointer (some ⟨w22.heap.size, 0, none⟩)) := ho 8 (by kernel_rfl)
          obtain ⟨u1, u2, u3⟩ := H_f.out.below hB
          exact hop_load (wanted_at rfl (j := 4) (d := 51) (b := true) (by kernel_rfl) (hp 4 51 (by kernel_rfl))) rfl e8 (run_ldf u1) (hK _ _ rfl (Below.refl _ _))
        · intro a w1 hB ho hp K hK
          have e1 : a.eval (.tmp 1) = (.int .u64 (x : Int)) := ho 1 (by kernel_rfl)
          refine hop_val (wanted_at rfl (j := 4) (d := 51) (b := true) (by kernel_rfl) (hp 4 51 (by kernel_rfl))) ?_ (hK (.int .u64 (x : Int)) _ rfl (Below.refl _ _))
          unfold execOp; simp only [eval_const, e1]; simp [go_sem]
        · intro a w1 hB ho hp K hK
          have e10 : a.eval (.tmp 10) = (.int .i64 (-(k : Int))) := ho 10 (by kernel_rfl)
          refine hop_val (wanted_at rfl (j := 4) (d := 51) (b := true) (by kernel_rfl) (hp 4 51 (by kernel_rfl))) ?_ (hK (.int .i64 (-(k : Int))) _ rfl (Below.refl _ _))
          unfold execOp; simp only [eval_const, e10]; simp [go_sem]
        · intro a w1 hB ho hp K hK
          have e52 : a.eval (.tmp 52) = (.agg #[.int .u64 (ab : Int)]) := hp 5 52 (by kernel_rfl)
          have e53 : a.eval (.tmp 53) = (.int .u64 (x : Int)) := hp 6 53 (by kernel_rfl)
          have e54 : a.eval (.tmp 54) = (.int .i64 (-(k : Int))) := hp 7 54 (by kernel_rfl)
          refine hop_call (wanted_at rfl (j := 4) (d := 51) (b := true) (by kernel_rfl) (hp 4 51 (by kernel_rfl))) rfl (args := #[(.agg #[.int .u64 (ab : Int)]), (.int .u64 (x : Int)), (.int .i64 (-(k : Int)))]) (by simp only [List.map_toArray, List.map_cons, List.map_nil, eval_const, e52, e53, e54]) (ent7 (by kernel_rfl) _ _) (fpow_v HP.out h hx (by omega) (by omega) HE.out _) ?_
          rintro e w2 ⟨rfl, B⟩
          exact ⟨_, rfl, hK _ _ rfl B⟩
        · intro a w1 hB ho hp K hK
          have e12 : a.eval (.tmp 12) = (.int .u64 (z : Int)) := ho 12 (by kernel_rfl)
          refine hop_val (wanted_at rfl (j := 4) (d := 51) (b := true) (by kernel_rfl) (hp 4 51 (by kernel_rfl))) ?_ (hK (.int .u64 (z : Int)) _ rfl (Below.refl _ _))
          unfold execOp; simp only [eval_const, e12]; simp [go_sem]
        · intro a w1 hB ho hp K hK
          have e55 : a.eval (.tmp 55) = (.int .u64 (z : Int)) := hp 8 55 (by kernel_rfl)
          have e56 : a.eval (.tmp 56) = (.int .u64 (z : Int)) := hp 9 56 (by kernel_rfl)
          refine hop_val (wanted_at rfl (j := 4) (d := 51) (b := true) (by kernel_rfl) (hp 4 51 (by kernel_rfl))) ?_ (hK (.bool true) _ rfl (Below.refl _ _))
          unfold execOp; simp only [eval_const, e55, e56]; simp [go_sem]
        · intro a w1 hB ho hp K hK
          have e51 : a.eval (.tmp 51) = (.bool true) := hp 4 51 (by kernel_rfl)
          have e57 : a.eval (.tmp 57) = (.bool true) := hp 10 57 (by kernel_rfl)
          refine hop_val (wanted_none rfl) ?_ (hK (.bool true) _ rfl (Below.refl _ _))
          unfold execOp; simp only [eval_const, e51, e57]; simp [go_sem]
        · intro a w1 hB ho hp K hK
          have e58 : a.eval (.tmp 58) = (.bool true) := hp 11 58 (by kernel_rfl)
          refine hop_val (wanted_none rfl) ?_ (hK (.bool true) _ rfl (Below.refl _ _))
          unfold execOp; simp only [eval_const, e58]; simp [go_sem]
        · intro a w1 hB ho hp K hK
          have e8 : a.eval (.tmp 8) = (.pointer (some ⟨w22.heap.size, 0, none⟩)) := ho 8 (by kernel_rfl)
          obtain ⟨u1, u2, u3⟩ := H_f.out.below hB
          exact hop_load (wanted_at rfl (j := 12) (d := 59) (b := true) (by kernel_rfl) (hp 12 59 (by kernel_rfl))) rfl e8 (run_ldf u1) (hK _ _ rfl (Below.refl _ _))
        · intro a w1 hB ho hp K hK
          have e1 : a.eval (.tmp 1) = (.int .u64 (x : Int)) := ho 1 (by kernel_rfl)
          refine hop_val (wanted_at rfl (j := 12) (d := 59) (b := true) (by kernel_rfl) (hp 12 59 (by kernel_rfl))) ?_ (hK (.int .u64 (x : Int)) _ rfl (Below.refl _ _))
          unfold execOp; simp only [eval_const, e1]; simp [go_sem]
        · intro a w1 hB ho hp K hK
          have e7 : a.eval (.tmp 7) = (.int .u64 (p : Int)) := ho 7 (by kernel_rfl)
          refine hop_val (wanted_at rfl (j := 12) (d := 59) (b := true) (by kernel_rfl) (hp 12 59 (by kernel_rfl))) ?_ (hK (.int .u64 (p : Int)) _ rfl (Below.refl _ _))
          unfold execOp; simp only [eval_const, e7]; simp [go_sem]
        · intro a w1 hB ho hp K hK
          have e62 : a.eval (.tmp 62) = (.int .u64 (p : Int)) := hp 15 62 (by kernel_rfl)
          refine hop_val (wanted_at rfl (j := 12) (d := 59) (b := true) (by kernel_rfl) (hp 12 59 (by kernel_rfl))) ?_ (hK (.int .i64 (p : Int)) _ rfl (Below.refl _ _))
          unfold execOp; simp only [eval_const, e62]; simp [go_sem, HWP.out]
        · intro a w1 hB ho hp K hK
          have e60 : a.eval (.tmp 60) = (.agg #[.int .u64 (ab : Int)]) := hp 13 60 (by kernel_rfl)
          have e61 : a.eval (.tmp 61) = (.int .u64 (x : Int)) := hp 14 61 (by kernel_rfl)
          have e63 : a.eval (.tmp 63) = (.int .i64 (p : Int)) := hp 16 63 (by kernel_rfl)
          refine hop_call (wanted_at rfl (j := 12) (d := 59) (b := true) (by kernel_rfl) (hp 12 59 (by kernel_rfl))) rfl (args := #[(.agg #[.int .u64 (ab : Int)]), (.int .u64 (x : Int)), (.int .i64 (p : Int))]) (by simp only [List.map_toArray, List.map_cons, List.map_nil, eval_const, e60, e61, e63]) (ent7 (by kernel_rfl) _ _) (fpow_v HP.out h hx (by omega) (by omega) HPP.out _) ?_
          rintro e w2 ⟨rfl, B⟩
          exact ⟨_, rfl, hK _ _ rfl B⟩
        · intro a w1 hB ho hp K hK
          have e1 : a.eval (.tmp 1) = (.int .u64 (x : Int)) := ho 1 (by kernel_rfl)
          refine hop_val (wanted_at rfl (j := 12) (d := 59) (b := true) (by kernel_rfl) (hp 12 59 (by kernel_rfl))) ?_ (hK (.int .u64 (x : Int)) _ rfl (Below.refl _ _))
          unfold execOp; simp only [eval_const, e1]; simp [go_sem]
        · intro a w1 hB ho hp K hK
          have e7 : a.eval (.tmp 7) = (.int .u64 (p : Int)) := ho 7 (by kernel_rfl)
          refine hop_val (wanted_at rfl (j := 12) (d := 59) (b := true) (by kernel_rfl) (hp 12 59 (by kernel_rfl))) ?_ (hK (.int .u64 (p : Int)) _ rfl (Below.refl _ _))
          unfold execOp; simp only [eval_const, e7]; simp [go_sem]
        · intro a w1 hB ho hp K hK
          have e65 : a.eval (.tmp 65) = (.int .u64 (x : Int)) := hp 18 65 (by kernel_rfl)
          have e66 : a.eval (.tmp 66) = (.int .u64 (p : Int)) := hp 19 66 (by kernel_rfl)
          refine hop_val (wanted_at rfl (j := 12) (d := 59) (b := true) (by kernel_rfl) (hp 12 59 (by kernel_rfl))) ?_ (hK (.int .u64 (X : Int)) _ rfl (Below.refl _ _))
          unfold execOp; simp only [eval_const, e65, e66]; simp [go_sem, T1.out, hpn]
        · intro a w1 hB ho hp K hK
          have e64 : a.eval (.tmp 64) = (.int .u64 (X : Int)) := hp 17 64 (by kernel_rfl)
          have e67 : a.eval (.tmp 67) = (.int .u64 (X : Int)) := hp 20 67 (by kernel_rfl)
          refine hop_val (wanted_at rfl (j := 12) (d := 59) (b := true) (by kernel_rfl) (hp 12 59 (by kernel_rfl))) ?_ (hK (.bool true) _ rfl (Below.refl _ _))
          unfold execOp; simp only [eval_const, e64, e67]; simp [go_sem]
        · intro a w1 hB ho hp K hK
          have e59 : a.eval (.tmp 59) = (.bool true) := hp 12 59 (by kernel_rfl)
          have e68 : a.eval (.tmp 68) = (.bool true) := hp 21 68 (by kernel_rfl)
          refine hop_val (wanted_none rfl) ?_ (hK (.bool true) _ rfl (Below.refl _ _))
          unfold execOp; simp only [eval_const, e59, e68]; simp [go_sem]
        · intro a w1 hB ho hp K hK
          have e69 : a.eval (.tmp 69) = (.bool true) := hp 22 69 (by kernel_rfl)
          refine hop_val (wanted_none rfl) ?_ (hK (.bool true) _ rfl (Below.refl _ _))
          unfold execOp; simp only [eval_const, e69]; simp [go_sem]
        · intro a w1 hB ho hp K hK
          have e8 : a.eval (.tmp 8) = (.pointer (some ⟨w22.heap.size, 0, none⟩)) := ho 8 (by kernel_rfl)
          obtain ⟨u1, u2, u3⟩ := H_f.out.below hB
          exact hop_load (wanted_at rfl (j := 23) (d := 70) (b := true) (by kernel_rfl) (hp 23 70 (by kernel_rfl))) rfl e8 (run_ldf u1) (hK _ _ rfl (Below.refl _ _))
        · intro a w1 hB ho hp K hK
          have e1 : a.eval (.tmp 1) = (.int .u64 (x : Int)) := ho 1 (by kernel_rfl)
          refine hop_val (wanted_at rfl (j := 23) (d := 70) (b := true) (by kernel_rfl) (hp 23 70 (by kernel_rfl))) ?_ (hK (.int .u64 (x : Int)) _ rfl (Below.refl _ _))
          unfold execOp; simp only [eval_const, e1]; simp [go_sem]
        · intro a w1 hB ho hp K hK
          have e71 : a.eval (.tmp 71) = (.agg #[.int .u64 (ab : Int)]) := hp 24 71 (by kernel_rfl)
          have e72 : a.eval (.tmp 72) = (.int .u64 (x : Int)) := hp 25 72 (by kernel_rfl)
          refine hop_call (wanted_at rfl (j := 23) (d := 70) (b := true) (by kernel_rfl) (hp 23 70 (by kernel_rfl))) rfl (args := #[(.agg #[.int .u64 (ab : Int)]), (.int .u64 (x : Int)), .int .i64 (0)]) (by simp only [List.map_toArray, List.map_cons, List.map_nil, eval_const, e71, e72]) (ent7 (by kernel_rfl) _ _) (fpow_v HP.out h hx (by omega) (by omega) HP0'.out _) ?_
          rintro e w2 ⟨rfl, B⟩
          exact ⟨_, rfl, hK _ _ rfl B⟩
        · intro a w1 hB ho hp K hK
          have e7 : a.eval (.tmp 7) = (.int .u64 (p : Int)) := ho 7 (by kernel_rfl)
          refine hop_val (wanted_at rfl (j := 23) (d := 70) (b := true) (by kernel_rfl) (hp 23 70 (by kernel_rfl))) ?_ (hK (.int .u64 (p : Int)) _ rfl (Below.refl _ _))
          unfold execOp; simp only [eval_const, e7]; simp [go_sem]
        · intro a w1 hB ho hp K hK
          have e74 : a.eval (.tmp 74) = (.int .u64 (p : Int)) := hp 27 74 (by kernel_rfl)
          refine hop_val (wanted_at rfl (j := 23) (d := 70) (b := true) (by kernel_rfl) (hp 23 70 (by kernel_rfl))) ?_ (hK (.int .u64 1) _ rfl (Below.refl _ _))
          unfold execOp; simp only [eval_const, e74]; simp [go_sem, T2.out, hpn]
        · intro a w1 hB ho hp K hK
          have e73 : a.eval (.tmp 73) = (.int .u64 ((1 : Nat) : Int)) := hp 26 73 (by kernel_rfl)
          have e75 : a.eval (.tmp 75) = (.int .u64 1) := hp 28 75 (by kernel_rfl)
          refine hop_val (wanted_at rfl (j := 23) (d := 70) (b := true) (by kernel_rfl) (hp 23 70 (by kernel_rfl))) ?_ (hK (.bool true) _ rfl (Below.refl _ _))
          unfold execOp; simp only [eval_const, e73, e75]; simp [go_sem]
        · intro a w1 hB ho hp K hK
          have e70 : a.eval (.tmp 70) = (.bool true) := hp 23 70 (by kernel_rfl)
          have e76 : a.eval (.tmp 76) = (.bool true) := hp 29 76 (by kernel_rfl)
          refine hop_val (wanted_none rfl) ?_ (hK (.bool true) _ rfl (Below.refl _ _))
          unfold execOp; simp only [eval_const, e70, e76]; simp [go_sem]
        · intro a w1 hB ho hp K hK
          have e77 : a.eval (.tmp 77) = (.bool true) := hp 30 77 (by kernel_rfl)
          refine hop_val (wanted_none rfl) ?_ (hK (.bool true) _ rfl (Below.refl _ _))
          unfold execOp; simp only [eval_const, e77]; simp [go_sem]
      intro w301 B301
      refine EndAll.one rfl fun vv hv => ?_
      obtain rfl : vv = (.bool true) := hv
      refine EndAll.one rfl fun vv hv => ?_
      obtain rfl : vv = (.bool true) := hv
      refine EndAll.one rfl fun vv hv => ?_
      obtain rfl : vv = (.bool true) := hv
      refine EndAll.one rfl fun vv hv => ?_
      obtain rfl : vv = (.bool true) := hv
      refine EndAll.one rfl fun vv hv => ?_
      obtain rfl : vv = (.bool true) := hv
      refine EndAll.one rfl fun vv hv => ?_
      obtain rfl : vv = (.agg #[.int .u64 (ab : Int)]) := hv
      refine EndAll.one rfl fun vv hv => ?_
      obtain rfl : vv = (.int .u64 (x : Int)) := hv
      refine EndAll.one rfl fun vv hv => ?_
      obtain rfl : vv = (.int .i64 (-(k : Int))) := hv
      refine EndAll.one rfl fun vv hv => ?_
      obtain rfl : vv = (.int .u64 (z : Int)) := hv
      refine EndAll.one rfl fun vv hv => ?_
      obtain rfl : vv = (.int .u64 (z : Int)) := hv
      refine EndAll.one rfl fun vv hv => ?_
      obtain rfl : vv = (.bool true) := hv
      refine EndAll.one rfl fun vv hv => ?_
      obtain rfl : vv = (.bool true) := hv
      refine EndAll.one rfl fun vv hv => ?_
      obtain rfl : vv = (.bool true) := hv
      refine EndAll.one rfl fun vv hv => ?_
      obtain rfl : vv = (.agg #[.int .u64 (ab : Int)]) := hv
      refine EndAll.one rfl fun vv hv => ?_
      obtain rfl : vv = (.int .u64 (x : Int)) := hv
      refine EndAll.one rfl fun vv hv => ?_
      obtain rfl : vv = (.int .u64 (p : Int)) := hv
      refine EndAll.one rfl fun vv hv => ?_
      obtain rfl : vv = (.int .i64 (p : Int)) := hv
      refine EndAll.one rfl fun vv hv => ?_
      obtain rfl : vv = (.int .u64 (X : Int)) := hv
      refine EndAll.one rfl fun vv hv => ?_
      obtain rfl : vv = (.int .u64 (x : Int)) := hv
      refine EndAll.one rfl fun vv hv => ?_
      obtain rfl : vv = (.int .u64 (p : Int)) := hv
      refine EndAll.one rfl fun vv hv => ?_
      obtain rfl : vv = (.int .u64 (X : Int)) := hv
      refine EndAll.one rfl fun vv hv => ?_
      obtain rfl : vv = (.bool true) := hv
      refine EndAll.one rfl fun vv hv => ?_
      obtain rfl : vv = (.bool true) := hv
      refine EndAll.one rfl fun vv hv => ?_
      obtain rfl : vv = (.bool true) := hv
      refine EndAll.one rfl fun vv hv => ?_
      obtain rfl : vv = (.agg #[.int .u64 (ab : Int)]) := hv
      refine EndAll.one rfl fun vv hv => ?_
      obtain rfl : vv = (.int .u64 (x : Int)) := hv
      refine EndAll.one rfl fun vv hv => ?_
      obtain rfl : vv = (.int .u64 ((1 : Nat) : Int)) := hv
      refine EndAll.one rfl fun vv hv => ?_
      obtain rfl : vv = (.int .u64 (p : Int)) := hv
      refine EndAll.one rfl fun vv hv => ?_
      obtain rfl : vv = (.int .u64 1) := hv
      refine EndAll.one rfl fun vv hv => ?_
      obtain rfl : vv = (.bool true) := hv
      refine EndAll.one rfl fun vv hv => ?_
      obtain rfl : vv = (.bool true) := hv
      refine EndAll.one rfl fun vv hv => ?_
      obtain rfl : vv = (.bool true) := hv
      refine EndAll.nil (l := []) rfl ?_
      simp only [Act.put, List.setIfInBounds_toArray, List.set_cons_zero, List.set_cons_succ]
      replace H_f := Lib.hid (H_f.out.below B301)
      replace hT := hT.below B301
      replace hW := hW.trans (B301.mono hW.size)
      clear B301
      obtain ⟨f1, f2, f3⟩ := H_f.out
      go_wp2_with fail
      clear f1 f2 f3
      exact bodyPost_ret (v := .bool true) (by simp [results, Tryd.results5, go_sem]) rfl ⟨rfl, hW⟩
theorem powers8_calls {n x : Nat} {e0 : Int} {w : World} (hn : n < 256) (hx : x < 18446744073709551616) (hT : TabHas w) :
    Calls Tryd.prog 5 #[.int .u8 (n : Int), .int .u64 (x : Int), .int .i8 e0] w (fun e w' => e = .returned (.bool true) ∧ Below w.heap.size w w') := by
  have hp := pn_pr (n % 12) (by omega)
  obtain ⟨hl, hu⟩ := tmod41 e0
  by_cases hs : e0.tmod 41 < 0
  · exact powers8_neg hn hx hT rfl hp (v := (e0.tmod 41).natAbs) (by omega) (by omega) (by omega)
  · exact powers8_pos hn hx hT rfl hp (v := (e0.tmod 41).natAbs) (by omega) (by omega)
end Go.Proofs.YtfdgblmegiehnaaDoor
