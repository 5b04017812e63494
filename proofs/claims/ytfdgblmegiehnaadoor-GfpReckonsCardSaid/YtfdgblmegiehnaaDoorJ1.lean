/-
  The walk of GfpReckons.
-/
import Derived.Test.YtfdgblmegiehnaaDoorGfpD
/-! The walk of GfpReckons. -/
namespace Go.Proofs.YtfdgblmegiehnaaDoor
open Go.RowKit
set_option linter.unusedVariables false
set_option linter.unusedSimpArgs false

set_option maxRecDepth 100000 in
set_option maxHeartbeats 4000000 in
theorem reckons_calls {n x y : Nat} {w : World} (hn : n < 256) (hx : x < 18446744073709551616) (hy : y < 18446744073709551616) (hT : TabHas w) :
    Calls Tryd.prog 3 #[.int .u8 (n : Int), .int .u64 (x : Int), .int .u64 (y : Int)] w (fun e w' => e = .returned (.bool true) ∧ Below w.heap.size w w') := by
  obtain ⟨p, hp0⟩ : ∃ p, pn (n % 12) = p := ⟨_, rfl⟩
  have hp := pn_pr (n % 12) (by omega)
  rw [hp0] at hp
  have hW := Below.refl w.heap.size w
  have h2 : 2 ≤ p := hp.2.2
  have h : p < 2147483648 := hp.2.1
  have HPR := Lib.hid hp.1
  clear hp
  obtain ⟨ab, hab⟩ : ∃ ab, ab + 2 = p := ⟨p - 2, by omega⟩
  have HP := Lib.hid hab
  clear hab
  have HP0 := Lib.hid hp0
  clear hp0
  have hpn : ¬ (p = 0) := by omega
  obtain ⟨X, hX⟩ : ∃ X, x % p = X := ⟨_, rfl⟩
  have HX := Lib.hid hX
  obtain ⟨Y, hY⟩ : ∃ Y, y % p = Y := ⟨_, rfl⟩
  have HY := Lib.hid hY
  have lX : X < p := hX ▸ Nat.mod_lt _ (by omega)
  have lY : Y < p := hY ▸ Nat.mod_lt _ (by omega)
  obtain ⟨S, hS⟩ : ∃ S, (x + y) % p = S := ⟨_, rfl⟩
  have HS := Lib.hid hS
  obtain ⟨D, hD⟩ : ∃ D, (p + x % p - y % p) % p = D := ⟨_, rfl⟩
  have HD := Lib.hid hD
  obtain ⟨N, hN⟩ : ∃ N, (p - x % p) % p = N := ⟨_, rfl⟩
  have HN := Lib.hid hN
  obtain ⟨M, hM⟩ : ∃ M, x * y % p = M := ⟨_, rfl⟩
  have HM := Lib.hid hM
  obtain ⟨Q1, hQ1⟩ : ∃ Q1, X + Y = Q1 := ⟨_, rfl⟩
  have HQ1 := Lib.hid hQ1
  obtain ⟨Q2, hQ2⟩ : ∃ Q2, X + p = Q2 := ⟨_, rfl⟩
  have HQ2 := Lib.hid hQ2
  obtain ⟨Q3, hQ3⟩ : ∃ Q3, Q2 - Y = Q3 := ⟨_, rfl⟩
  have HQ3 := Lib.hid hQ3
  obtain ⟨Q4, hQ4⟩ : ∃ Q4, p - X = Q4 := ⟨_, rfl⟩
  have HQ4 := Lib.hid hQ4
  have T1 : Hid ((((x : Nat) : Int)).tmod (p : Int) = (X : Int)) := Lib.hid (by rw [Int.tmod_eq_emod_of_nonneg (by omega), ← Int.natCast_emod, hX])
  have T2 : Hid ((((y : Nat) : Int)).tmod (p : Int) = (Y : Int)) := Lib.hid (by rw [Int.tmod_eq_emod_of_nonneg (by omega), ← Int.natCast_emod, hY])
  have lQ1 : Q1 < 4294967296 := by omega
  have lQ2 : Q2 < 4294967296 := by omega
  have W1 : Hid (IntKind.u64.wrap ((X : Int) + (Y : Int)) = (Q1 : Int)) := Lib.hid (by rw [show (X : Int) + (Y : Int) = (Q1 : Int) by omega]; exact wrap_small (by omega))
  have W2 : Hid (IntKind.u64.wrap ((X : Int) + (p : Int)) = (Q2 : Int)) := Lib.hid (by rw [show (X : Int) + (p : Int) = (Q2 : Int) by omega]; exact wrap_small (by omega))
  have W3 : Hid (IntKind.u64.wrap ((Q2 : Int) - (Y : Int)) = (Q3 : Int)) := Lib.hid (by rw [show (Q2 : Int) - (Y : Int) = (Q3 : Int) by omega]; exact wrap_small (by omega))
  have W4 : Hid (IntKind.u64.wrap ((p : Int) - (X : Int)) = (Q4 : Int)) := Lib.hid (by rw [show (p : Int) - (X : Int) = (Q4 : Int) by omega]; exact wrap_small (by omega))
  have hS' : Q1 % p = S := by rw [← hQ1, ← hS, Nat.add_mod x y, hX, hY]
  have hD' : Q3 % p = D := by rw [← hQ3, ← hQ2, ← hD, hX, hY, Nat.add_comm X p]
  have hN' : Q4 % p = N := by rw [← hQ4, ← hN, hX]
  have T3 : Hid ((((Q1 : Nat) : Int)).tmod (p : Int) = (S : Int)) := Lib.hid (by rw [Int.tmod_eq_emod_of_nonneg (by omega), ← Int.natCast_emod, hS'])
  have T4 : Hid ((((Q3 : Nat) : Int)).tmod (p : Int) = (D : Int)) := Lib.hid (by rw [Int.tmod_eq_emod_of_nonneg (by omega), ← Int.natCast_emod, hD'])
  have T5 : Hid ((((Q4 : Nat) : Int)).tmod (p : Int) = (N : Int)) := Lib.hid (by rw [Int.tmod_eq_emod_of_nonneg (by omega), ← Int.natCast_emod, hN'])
  clear hX hY hS hD hN hM hQ1 hQ2 hQ3 hQ4 hS' hD' hN'
  go_enter Tryd.func3, Tryd.ntmps3
  go_wp2_with fail
  refine (rp_calls (p := p) hn HP0.out _).mono ?_
  rintro e w21 ⟨rfl, B21⟩
  replace hT := hT.below B21
  replace hW := hW.trans (B21.mono hW.size)
  clear B21
  go_wp2_with fail
  refine (fnew_yes (ab := ab) (by omega) hT HPR.out h HP.out).mono ?_
  rintro e w22 ⟨rfl, B22⟩
  replace hT := hT.below B22
  replace hW := hW.trans (B22.mono hW.size)
  clear B22
  obtain ⟨w23, hw23⟩ : ∃ xw, xw = w22.alloc (.cells #[.int .u64 (ab : Int)] 25) := ⟨_, rfl⟩
  have z23 : Below w22.heap.size w22 w23 := by rw [hw23]; exact zba _ _
  have HW23 : Hid (w22.alloc (.cells #[.int .u64 (ab : Int)] 25) = w23) := Lib.hid hw23.symm
  have lw_f : w.heap.size ≤ w22.heap.size := by have := hW.size; omega
  replace hT := hT.below z23
  replace hW := hW.trans (z23.mono hW.size)
  have H_f : Hid (Fb w23 w22.heap.size ab) := Lib.hid (by rw [hw23]; exact Fb.new _ _ _)
  clear z23 hw23
  go_wp2_with fail
  rw [HW23.out]
  refine region8 [] 8 [IsK (.int .u64 (x : Int)), IsK (.int .u64 (p : Int)), IsK (.int .u64 (X : Int)), IsK (.int .u64 (y : Int)), IsK (.int .u64 (p : Int)), IsK (.int .u64 (Y : Int)), IsK (.int .u64 (X : Int)), IsK (.int .u64 (Y : Int))] (fun _ _ d _ _ h => by cases d <;> exact h) (by kernel_rfl) (by kernel_rfl) (by kernel_rfl) ⟨stay_k _, stay_k _, stay_k _, stay_k _, stay_k _, stay_k _, stay_k _, stay_k _, trivial⟩ ?_ ?_
  · refine HopAll.cons rfl ?_ (HopAll.cons rfl ?_ (HopAll.cons rfl ?_ (HopAll.cons rfl ?_ (HopAll.cons rfl ?_ (HopAll.cons rfl ?_ (HopAll.cons rfl ?_ (HopAll.cons rfl ?_ HopAll.nil)))))))
    · intro a w1 hB ho hp K hK
      have e1 : a.eval (.tmp 1) = (.int .u64 (x : Int)) := ho 1 (by kernel_rfl)
      refine hop_val (wanted_none rfl) ?_ (hK (.int .u64 (x : Int)) _ rfl (Below.refl _ _))
      unfold execOp; simp only [eval_const, e1]; simp [go_sem]
    · intro a w1 hB ho hp K hK
      have e7 : a.eval (.tmp 7) = (.int .u64 (p : Int)) := ho 7 (by kernel_rfl)
      refine hop_val (wanted_none rfl) ?_ (hK (.int .u64 (p : Int)) _ rfl (Below.refl _ _))
      unfold execOp; simp only [eval_const, e7]; simp [go_sem]
    · intro a w1 hB ho hp K hK
      have e19 : a.eval (.tmp 19) = (.int .u64 (x : Int)) := hp 0 19 (by kernel_rfl)
      have e20 : a.eval (.tmp 20) = (.int .u64 (p : Int)) := hp 1 20 (by kernel_rfl)
      refine hop_val (wanted_none rfl) ?_ (hK (.int .u64 (X : Int)) _ rfl (Below.refl _ _))
      unfold execOp; simp only [eval_const, e19, e20]; simp [go_sem, T1.out, hpn]
    · intro a w1 hB ho hp K hK
      have e2 : a.eval (.tmp 2) = (.int .u64 (y : Int)) := ho 2 (by kernel_rfl)
      refine hop_val (wanted_none rfl) ?_ (hK (.int .u64 (y : Int)) _ rfl (Below.refl _ _))
      unfold execOp; simp only [eval_const, e2]; simp [go_sem]
    · intro a w1 hB ho hp K hK
      have e7 : a.eval (.tmp 7) = (.int .u64 (p : Int)) := ho 7 (by kernel_rfl)
      refine hop_val (wanted_none rfl) ?_ (hK (.int .u64 (p : Int)) _ rfl (Below.refl _ _))
      unfold execOp; simp only [eval_const, e7]; simp [go_sem]
    · intro a w1 hB ho hp K hK
      have e22 : a.eval (.tmp 22) = (.int .u64 (y : Int)) := hp 3 22 (by kernel_rfl)
      have e23 : a.eval (.tmp 23) = (.int .u64 (p : Int)) := hp 4 23 (by kernel_rfl)
      refine hop_val (wanted_none rfl) ?_ (hK (.int .u64 (Y : Int)) _ rfl (Below.refl _ _))
      unfold execOp; simp only [eval_const, e22, e23]; simp [go_sem, T2.out, hpn]
    · intro a w1 hB ho hp K hK
      have e21 : a.eval (.tmp 21) = (.int .u64 (X : Int)) := hp 2 21 (by kernel_rfl)
      refine hop_val (wanted_none rfl) ?_ (hK (.int .u64 (X : Int)) _ rfl (Below.refl _ _))
      unfold execOp; simp only [eval_const, e21]; simp [go_sem]
    · intro a w1 hB ho hp K hK
      have e24 : a.eval (.tmp 24) = (.int .u64 (Y : Int)) := hp 5 24 (by kernel_rfl)
      refine hop_val (wanted_none rfl) ?_ (hK (.int .u64 (Y : Int)) _ rfl (Below.refl _ _))
      unfold execOp; simp only [eval_const, e24]; simp [go_sem]
  intro w24 B24
  refine EndAll.one rfl fun vv hv => ?_
  obtain rfl : vv = (.int .u64 (x : Int)) := hv
  refine EndAll.one rfl fun vv hv => ?_
  obtain rfl : vv = (.int .u64 (p : Int)) := hv
  refine EndAll.one rfl fun vv hv => ?_
  obtain rfl : vv = (.int .u64 (X : Int)) := hv
  refine EndAll.one rfl fun vv hv => ?_
  obtain rfl : vv = (.int .u64 (y : Int)) := hv
  refine EndAll.one rfl fun vv hv => ?_
  obtain rfl : vv = (.int .u64 (p : Int)) := hv
  refine EndAll.one rfl fun vv hv => ?_
  obtain rfl : vv = (.int .u64 (Y : Int)) := hv
  refine EndAll.one rfl fun vv hv => ?_
  obtain rfl : vv = (.int .u64 (X : Int)) := hv
  refine EndAll.one rfl fun vv hv => ?_
  obtain rfl : vv = (.int .u64 (Y : Int)) := hv
  refine EndAll.nil (l := []) rfl ?_
  simp only [Act.put, List.setIfInBounds_toArray, List.set_cons_zero, List.set_cons_succ]
  replace H_f := Lib.hid (H_f.out.below B24)
  replace hT := hT.below B24
  replace hW := hW.trans (B24.mono hW.size)
  clear B24
  obtain ⟨f1, f2, f3⟩ := H_f.out
  go_wp2_with fail
  clear f1 f2 f3
  refine region8 [] 66 [IsK (.bool true), IsK (.bool true), IsK (.bool true), IsK (.bool true), IsK (.bool true), IsK (.agg #[.int .u64 (ab : Int)]), IsK (.int .u64 (p : Int)), IsK (.int .u64 (p : Int)), IsK (.bool true), IsK (.bool true), IsK (.bool true), IsK (.agg #[.int .u64 (ab : Int)]), IsK (.int .u64 (x : Int)), IsK (.int .u64 (X : Int)), IsK (.int .u64 (X : Int)), IsK (.bool true), IsK (.bool true), IsK (.bool true), IsK (.agg #[.int .u64 (ab : Int)]), IsK (.int .u64 (x : Int)), IsK (.int .u64 (y : Int)), IsK (.int .u64 (S : Int)), IsK (.int .u64 (X : Int)), IsK (.int .u64 (Y : Int)), IsK (.int .u64 (Q1 : Int)), IsK (.int .u64 (p : Int)), IsK (.int .u64 (S : Int)), IsK (.bool true), IsK (.bool true), IsK (.bool true), IsK (.agg #[.int .u64 (ab : Int)]), IsK (.int .u64 (x : Int)), IsK (.int .u64 (y : Int)), IsK (.int .u64 (D : Int)), IsK (.int .u64 (X : Int)), IsK (.int .u64 (p : Int)), IsK (.int .u64 (Q2 : Int)), IsK (.int .u64 (Y : Int)), IsK (.int .u64 (Q3 : Int)), IsK (.int .u64 (p : Int)), IsK (.int .u64 (D : Int)), IsK (.bool true), IsK (.bool true), IsK (.bool true), IsK (.agg #[.int .u64 (ab : Int)]), IsK (.int .u64 (x : Int)), IsK (.int .u64 (N : Int)), IsK (.int .u64 (p : Int)), IsK (.int .u64 (X : Int)), IsK (.int .u64 (Q4 : Int)), IsK (.int .u64 (p : Int)), IsK (.int .u64 (N : Int)), IsK (.bool true), IsK (.bool true), IsK (.bool true), IsK (.agg #[.int .u64 (ab : Int)]), IsK (.int .u64 (x : Int)), IsK (.int .u64 (y : Int)), IsK (.int .u64 (M : Int)), IsK (.int .u64 (x : Int)), IsK (.int .u64 (y : Int)), IsK (.int .u64 (p : Int)), IsK (.int .u64 (M : Int)), IsK (.bool true), IsK (.bool true), IsK (.bool true)] (fun _ _ d _ _ h => by cases d <;> exact h) (by kernel_rfl) (by kernel_rfl) (by kernel_rfl) ⟨stay_k _, stay_k _, stay_k _, stay_k _, stay_k _, stay_k _, stay_k _, stay_k _, stay_k _, stay_k _, stay_k _, stay_k _, stay_k _, stay_k _, stay_k _, stay_k _, stay_k _, stay_k _, stay_k _, stay_k _, stay_k _, stay_k _, stay_k _, stay_k _, stay_k _, stay_k _, stay_k _, stay_k _, stay_k _, stay_k _, stay_k _, stay_k _, stay_k _, stay_k _, stay_k _, stay_k _, stay_k _, stay_k _, stay_k _, stay_k _, stay_k _, stay_k _, stay_k _, stay_k _, stay_k _, stay_k _, stay_k _, stay_k _, stay_k _, stay_k _, stay_k _, stay_k _, stay_k _, stay_k _, stay_k _, stay_k _, stay_k _, stay_k _, stay_k _, stay_k _, stay_k _, stay_k _, stay_k _, stay_k _, stay_k _, stay_k _, trivial⟩ ?_ ?_
  · refine HopAll.cons rfl ?_ (HopAll.cons rfl ?_ (HopAll.cons rfl ?_ (HopAll.cons rfl ?_ (HopAll.cons rfl ?_ (HopAll.cons rfl ?_ (HopAll.cons rfl ?_ (HopAll.cons rfl ?_ (HopAll.cons rfl ?_ (HopAll.cons rfl ?_ (HopAll.cons rfl ?_ (HopAll.cons rfl ?_ (HopAll.cons rfl ?_ (HopAll.cons rfl ?_ (HopAll.cons rfl ?_ (HopAll.cons rfl ?_ (HopAll.cons rfl ?_ (HopAll.cons rfl ?_ (HopAll.cons rfl ?_ (HopAll.cons rfl ?_ (HopAll.cons rfl ?_ (HopAll.cons rfl ?_ (HopAll.cons rfl ?_ (HopAll.cons rfl ?_ (HopAll.cons rfl ?_ (HopAll.cons rfl ?_ (HopAll.cons rfl ?_ (HopAll.cons rfl ?_ (HopAll.cons rfl ?_ (HopAll.cons rfl ?_ (HopAll.cons rfl ?_ (HopAll.cons rfl ?_ (HopAll.cons rfl ?_ (HopAll.cons rfl ?_ (HopAll.cons rfl ?_ (HopAll.cons rfl ?_ (HopAll.cons rfl ?_ (HopAll.cons rfl ?_ (HopAll.cons rfl ?_ (HopAll.cons rfl ?_ (HopAll.cons rfl ?_ (HopAll.cons rfl ?_ (HopAll.cons rfl ?_ (HopAll.cons rfl ?_ (HopAll.cons rfl ?_ (HopAll.cons rfl ?_ (HopAll.cons rfl ?_ (HopAll.cons rfl ?_ (HopAll.cons rfl ?_ (HopAll.cons rfl ?_ (HopAll.cons rfl ?_ (HopAll.cons rfl ?_ (HopAll.cons rfl ?_ (HopAll.cons rfl ?_ (HopAll.cons rfl ?_ (HopAll.cons rfl ?_ (HopAll.cons rfl ?_ (HopAll.cons rfl ?_ (HopAll.cons rfl ?_ (HopAll.cons rfl ?_ (HopAll.cons rfl ?_ (HopAll.cons rfl ?_ (HopAll.cons rfl ?_ (HopAll.cons rfl ?_ (HopAll.cons rfl ?_ (HopAll.cons rfl ?_ HopAll.nil)))))))))))))))))))))))))))))))))))))))))))))))))))))))))))))))))
    · intro a w1 hB ho hp K hK
      refine hop_call (wanted_none rfl) rfl (args := #[]) (by simp only [List.map_toArray, List.map_cons, List.map_nil, eval_const]) (ent7 (by kernel_rfl) _ _) (gawake_v (hT.below hB)) ?_
      rintro e w2 ⟨rfl, B⟩
      exact ⟨_, rfl, hK _ _ rfl B⟩
    · intro a w1 hB ho hp K hK
      have e25 : a.eval (.tmp 25) = (.bool true) := hp 0 25 (by kernel_rfl)
      refine hop_val (wanted_none rfl) ?_ (hK (.bool true) _ rfl (Below.refl _ _))
      unfold execOp; simp only [eval_const, e25]; simp [go_sem]
    · intro a w1 hB ho hp K hK
      have e9 : a.eval (.tmp 9) = (.bool true) := ho 9 (by kernel_rfl)
      refine hop_val (wanted_at rfl (j := 1) (d := 26) (b := true) (by kernel_rfl) (hp 1 26 (by kernel_rfl))) ?_ (hK (.bool true) _ rfl (Below.refl _ _))
      unfold execOp; simp only [eval_const, e9]; simp [go_sem]
    · intro a w1 hB ho hp K hK
      have e26 : a.eval (.tmp 26) = (.bool true) := hp 1 26 (by kernel_rfl)
      have e27 : a.eval (.tmp 27) = (.bool true) := hp 2 27 (by kernel_rfl)
      refine hop_val (wanted_none rfl) ?_ (hK (.bool true) _ rfl (Below.refl _ _))
      unfold execOp; simp only [eval_const, e26, e27]; simp [go_sem]
    · intro a w1 hB ho hp K hK
      have e28 : a.eval (.tmp 28) = (.bool true) := hp 3 28 (by kernel_rfl)
      refine hop_val (wanted_none rfl) ?_ (hK (.bool true) _ rfl (Below.refl _ _))
      unfold execOp; simp only [eval_const, e28]; simp [go_sem]
    · intro a w1 hB ho hp K hK
      have e8 : a.eval (.tmp 8) = (.pointer (some ⟨w22.heap.size, 0, none⟩)) := ho 8 (by kernel_rfl)
      obtain ⟨u1, u2, u3⟩ := H_f.out.below hB
      exact hop_load (wanted_at rfl (j := 4) (d := 29) (b := true) (by kernel_rfl) (hp 4 29 (by kernel_rfl))) rfl e8 (run_ldf u1) (hK _ _ rfl (Below.refl _ _))
    · intro a w1 hB ho hp K hK
      have e30 : a.eval (.tmp 30) = (.agg #[.int .u64 (ab : Int)]) := hp 5 30 (by kernel_rfl)
      refine hop_call (wanted_at rfl (j := 4) (d := 29) (b := true) (by kernel_rfl) (hp 4 29 (by kernel_rfl))) rfl (args := #[(.agg #[.int .u64 (ab : Int)])]) (by simp only [List.map_toArray, List.map_cons, List.map_nil, eval_const, e30]) (ent7 (by kernel_rfl) _ _) (fp_v HP.out h _) ?_
      rintro e w2 ⟨rfl, B⟩
      exact ⟨_, rfl, hK _ _ rfl B⟩
    · intro a w1 hB ho hp K hK
      have e7 : a.eval (.tmp 7) = (.int .u64 (p : Int)) := ho 7 (by kernel_rfl)
      refine hop_val (wanted_at rfl (j := 4) (d := 29) (b := true) (by kernel_rfl) (hp 4 29 (by kernel_rfl))) ?_ (hK (.int .u64 (p : Int)) _ rfl (Below.refl _ _))
      unfold execOp; simp only [eval_const, e7]; simp [go_sem]
    · intro a w1 hB ho hp K hK
      have e31 : a.eval (.tmp 31) = (.int .u64 (p : Int)) := hp 6 31 (by kernel_rfl)
      have e32 : a.eval (.tmp 32) = (.int .u64 (p : Int)) := hp 7 32 (by kernel_rfl)
      refine hop_val (wanted_at rfl (j := 4) (d := 29) (b := true) (by kernel_rfl) (hp 4 29 (by kernel_rfl))) ?_ (hK (.bool true) _ rfl (Below.refl _ _))
      unfold execOp; simp only [eval_const, e31, e32]; simp [go_sem]
    · intro a w1 hB ho hp K hK
      have e29 : a.eval (.tmp 29) = (.bool true) := hp 4 29 (by kernel_rfl)
      have e33 : a.eval (.tmp 33) = (.bool true) := hp 8 33 (by kernel_rfl)
      refine hop_val (wanted_none rfl) ?_ (hK (.bool true) _ rfl (Below.refl _ _))
      unfold execOp; simp only [eval_const, e29, e33]; simp [go_sem]
    · intro a w1 hB ho hp K hK
      have e34 : a.eval (.tmp 34) = (.bool true) := hp 9 34 (by kernel_rfl)
      refine hop_val (wanted_none rfl) ?_ (hK (.bool true) _ rfl (Below.refl _ _))
      unfold execOp; simp only [eval_const, e34]; simp [go_sem]
    · intro a w1 hB ho hp K hK
      have e8 : a.eval (.tmp 8) = (.pointer (some ⟨w22.heap.size, 0, none⟩)) := ho 8 (by kernel_rfl)
      obtain ⟨u1, u2, u3⟩ := H_f.out.below hB
      exact hop_load (wanted_at rfl (j := 10) (d := 35) (b := true) (by kernel_rfl) (hp 10 35 (by kernel_rfl))) rfl e8 (run_ldf u1) (hK _ _ rfl (Below.refl _ _))
    · intro a w1 hB ho hp K hK
      have e1 : a.eval (.tmp 1) = (.int .u64 (x : Int)) := ho 1 (by kernel_rfl)
      refine hop_val (wanted_at rfl (j := 10) (d := 35) (b := true) (by kernel_rfl) (hp 10 35 (by kernel_rfl))) ?_ (hK (.int .u64 (x : Int)) _ rfl (Below.refl _ _))
      unfold execOp; simp only [eval_const, e1]; simp [go_sem]
    · intro a w1 hB ho hp K hK
      have e36 : a.eval (.tmp 36) = (.agg #[.int .u64 (ab : Int)]) := hp 11 36 (by kernel_rfl)
      have e37 : a.eval (.tmp 37) = (.int .u64 (x : Int)) := hp 12 37 (by kernel_rfl)
      refine hop_call (wanted_at rfl (j := 10) (d := 35) (b := true) (by kernel_rfl) (hp 10 35 (by kernel_rfl))) rfl (args := #[(.agg #[.int .u64 (ab : Int)]), (.int .u64 (x : Int))]) (by simp only [List.map_toArray, List.map_cons, List.map_nil, eval_const, e36, e37]) (ent7 (by kernel_rfl) _ _) (fnorm_v HP.out h hx HX.out _) ?_
      rintro e w2 ⟨rfl, B⟩
      exact ⟨_, rfl, hK _ _ rfl B⟩
    · intro a w1 hB ho hp K hK
      have e10 : a.eval (.tmp 10) = (.int .u64 (X : Int)) := ho 10 (by kernel_rfl)
      refine hop_val (wanted_at rfl (j := 10) (d := 35) (b := true) (by kernel_rfl) (hp 10 35 (by kernel_rfl))) ?_ (hK (.int .u64 (X : Int)) _ rfl (Below.refl _ _))
      unfold execOp; simp only [eval_const, e10]; simp [go_sem]
    · intro a w1 hB ho hp K hK
      have e38 : a.eval (.tmp 38) = (.int .u64 (X : Int)) := hp 13 38 (by kernel_rfl)
      have e39 : a.eval (.tmp 39) = (.int .u64 (X : Int)) := hp 14 39 (by kernel_rfl)
      refine hop_val (wanted_at rfl (j := 10) (d := 35) (b := true) (by kernel_rfl) (hp 10 35 (by kernel_rfl))) ?_ (hK (.bool true) _ rfl (Below.refl _ _))
      unfold execOp; simp only [eval_const, e38, e39]; simp [go_sem]
    · intro a w1 hB ho hp K hK
      have e35 : a.eval (.tmp 35) = (.bool true) := hp 10 35 (by kernel_rfl)
      have e40 : a.eval (.tmp 40) = (.bool true) := hp 15 40 (by kernel_rfl)
      refine hop_val (wanted_none rfl) ?_ (hK (.bool true) _ rfl (Below.refl _ _))
      unfold execOp; simp only [eval_const, e35, e40]; simp [go_sem]
    · intro a w1 hB ho hp K hK
      have e41 : a.eval (.tmp 41) = (.bool true) := hp 16 41 (by kernel_rfl)
      refine hop_val (wanted_none rfl) ?_ (hK (.bool true) _ rfl (Below.refl _ _))
      unfold execOp; simp only [eval_const, e41]; simp [go_sem]
    · intro a w1 hB ho hp K hK
      have e8 : a.eval (.tmp 8) = (.pointer (some ⟨w22.heap.size, 0, none⟩)) := ho 8 (by kernel_rfl)
      obtain ⟨u1, u2, u3⟩ := H_f.out.below hB
      exact hop_load (wanted_at rfl (j := 17) (d := 42) (b := true) (by kernel_rfl) (hp 17 42 (by kernel_rfl))) rfl e8 (run_ldf u1) (hK _ _ rfl (Below.refl _ _))
    · intro a w1 hB ho hp K hK
      have e1 : a.eval (.tmp 1) = (.int .u64 (x : Int)) := ho 1 (by kernel_rfl)
      refine hop_val (wanted_at rfl (j := 17) (d := 42) (b := true) (by kernel_rfl) (hp 17 42 (by kernel_rfl))) ?_ (hK (.int .u64 (x : Int)) _ rfl (Below.refl _ _))
      unfold execOp; simp only [eval_const, e1]; simp [go_sem]
    · intro a w1 hB ho hp K hK
      have e2 : a.eval (.tmp 2) = (.int .u64 (y : Int)) := ho 2 (by kernel_rfl)
      refine hop_val (wanted_at rfl (j := 17) (d := 42) (b := true) (by kernel_rfl) (hp 17 42 (by kernel_rfl))) ?_ (hK (.int .u64 (y : Int)) _ rfl (Below.refl _ _))
      unfold execOp; simp only [eval_const, e2]; simp [go_sem]
    · intro a w1 hB ho hp K hK
      have e43 : a.eval (.tmp 43) = (.agg #[.int .u64 (ab : Int)]) := hp 18 43 (by kernel_rfl)
      have e44 : a.eval (.tmp 44) = (.int .u64 (x : Int)) := hp 19 44 (by kernel_rfl)
      have e45 : a.eval (.tmp 45) = (.int .u64 (y : Int)) := hp 20 45 (by kernel_rfl)
      refine hop_call (wanted_at rfl (j := 17) (d := 42) (b := true) (by kernel_rfl) (hp 17 42 (by kernel_rfl))) rfl (args := #[(.agg #[.int .u64 (ab : Int)]), (.int .u64 (x : Int)), (.int .u64 (y : Int))]) (by simp only [List.map_toArray, List.map_cons, List.map_nil, eval_const, e43, e44, e45]) (ent7 (by kernel_rfl) _ _) (fadd_v HP.out h hx hy HS.out _) ?_
      rintro e w2 ⟨rfl, B⟩
      exact ⟨_, rfl, hK _ _ rfl B⟩
    · intro a w1 hB ho hp K hK
      have e10 : a.eval (.tmp 10) = (.int .u64 (X : Int)) := ho 10 (by kernel_rfl)
      refine hop_val (wanted_at rfl (j := 17) (d := 42) (b := true) (by kernel_rfl) (hp 17 42 (by kernel_rfl))) ?_ (hK (.int .u64 (X : Int)) _ rfl (Below.refl _ _))
      unfold execOp; simp only [eval_const, e10]; simp [go_sem]
    · intro a w1 hB ho hp K hK
      have e11 : a.eval (.tmp 11) = (.int .u64 (Y : Int)) := ho 11 (by kernel_rfl)
      refine hop_val (wanted_at rfl (j := 17) (d := 42) (b := true) (by kernel_rfl) (hp 17 42 (by kernel_rfl))) ?_ (hK (.int .u64 (Y : Int)) _ rfl (Below.refl _ _))
      unfold execOp; simp only [eval_const, e11]; simp [go_sem]
    · intro a w1 hB ho hp K hK
      have e47 : a.eval (.tmp 47) = (.int .u64 (X : Int)) := hp 22 47 (by kernel_rfl)
      have e48 : a.eval (.tmp 48) = (.int .u64 (Y : Int)) := hp 23 48 (by kernel_rfl)
      refine hop_val (wanted_at rfl (j := 17) (d := 42) (b := true) (by kernel_rfl) (hp 17 42 (by kernel_rfl))) ?_ (hK (.int .u64 (Q1 : Int)) _ rfl (Below.refl _ _))
      unfold execOp; simp only [eval_const, e47, e48]; simp [go_sem, W1.out]
    · intro a w1 hB ho hp K hK
      have e7 : a.eval (.tmp 7) = (.int .u64 (p : Int)) := ho 7 (by kernel_rfl)
      refine hop_val (wanted_at rfl (j := 17) (d := 42) (b := true) (by kernel_rfl) (hp 17 42 (by kernel_rfl))) ?_ (hK (.int .u64 (p : Int)) _ rfl (Below.refl _ _))
      unfold execOp; simp only [eval_const, e7]; simp [go_sem]
    · intro a w1 hB ho hp K hK
      have e49 : a.eval (.tmp 49) = (.int .u64 (Q1 : Int)) := hp 24 49 (by kernel_rfl)
      have e50 : a.eval (.tmp 50) = (.int .u64 (p : Int)) := hp 25 50 (by kernel_rfl)
      refine hop_val (wanted_at rfl (j := 17) (d := 42) (b := true) (by kernel_rfl) (hp 17 42 (by kernel_rfl))) ?_ (hK (.int .u64 (S : Int)) _ rfl (Below.refl _ _))
      unfold execOp; simp only [eval_const, e49, e50]; simp [go_sem, T3.out, hpn]
    · intro a w1 hB ho hp K hK
      have e46 : a.eval (.tmp 46) = (.int .u64 (S : Int)) := hp 21 46 (by kernel_rfl)
      have e51 : a.eval (.tmp 51) = (.int .u64 (S : Int)) := hp 26 51 (by kernel_rfl)
      refine hop_val (wanted_at rfl (j := 17) (d := 42) (b := true) (by kernel_rfl) (hp 17 42 (by kernel_rfl))) ?_ (hK (.bool true) _ rfl (Below.refl _ _))
      unfold execOp; simp only [eval_const, e46, e51]; simp [go_sem]
    · intro a w1 hB ho hp K hK
      have e42 : a.eval (.tmp 42) = (.bool true) := hp 17 42 (by kernel_rfl)
      have e52 : a.eval (.tmp 52) = (.bool true) := hp 27 52 (by kernel_rfl)
      refine hop_val (wanted_none rfl) ?_ (hK (.bool true) _ rfl (Below.refl _ _))
      unfold execOp; simp only [eval_const, e42, e52]; simp [go_sem]
    · intro a w1 hB ho hp K hK
      have e53 : a.eval (.tmp 53) = (.bool true) := hp 28 53 (by kernel_rfl)
      refine hop_val (wanted_none rfl) ?_ (hK (.bool true) _ rfl (Below.refl _ _))
      unfold execOp; simp only [eval_const, e53]; simp [go_sem]
    · intro a w1 hB ho hp K hK
      have e8 : a.eval (.tmp 8) = (.pointer (some ⟨w22.heap.size, 0, none⟩)) := ho 8 (by kernel_rfl)
      obtain ⟨u1, u2, u3⟩ := H_f.out.below hB
      exact hop_load (wanted_at rfl (j := 29) (d := 54) (b := true) (by kernel_rfl) (hp 29 54 (by kernel_rfl))) rfl e8 (run_ldf u1) (hK _ _ rfl (Below.refl _ _))
    · intro a w1 hB ho hp K hK
      have e1 : a.eval (.tmp 1) = (.int .u64 (x : Int)) := ho 1 (by kernel_rfl)
      refine hop_val (wanted_at rfl (j := 29) (d := 54) (b := true) (by kernel_rfl) (hp 29 54 (by kernel_rfl))) ?_ (hK (.int .u64 (x : Int)) _ rfl (Below.refl _ _))
      unfold execOp; simp only [eval_const, e1]; simp [go_sem]
    · intro a w1 hB ho hp K hK
      have e2 : a.eval (.tmp 2) = (.int .u64 (y : Int)) := ho 2 (by kernel_rfl)
      refine hop_val (wanted_at rfl (j := 29) (d := 54) (b := true) (by kernel_rfl) (hp 29 54 (by kernel_rfl))) ?_ (hK (.int .u64 (y : Int)) _ rfl (Below.refl _ _))
      unfold execOp; simp only [eval_const, e2]; simp [go_sem]
    · intro a w1 hB ho hp K hK
      have e55 : a.eval (.tmp 55) = (.agg #[.int .u64 (ab : Int)]) := hp 30 55 (by kernel_rfl)
      have e56 : a.eval (.tmp 56) = (.int .u64 (x : Int)) := hp 31 56 (by kernel_rfl)
      have e57 : a.eval (.tmp 57) = (.int .u64 (y : Int)) := hp 32 57 (by kernel_rfl)
      refine hop_call (wanted_at rfl (j := 29) (d := 54) (b := true) (by kernel_rfl) (hp 29 54 (by kernel_rfl))) rfl (args := #[(.agg #[.int .u64 (ab : Int)]), (.int .u64 (x : Int)), (.int .u64 (y : Int))]) (by simp only [List.map_toArray, List.map_cons, List.map_nil, eval_const, e55, e56, e57]) (ent7 (by kernel_rfl) _ _) (fsub_v HP.out h hx hy HD.out _) ?_
      rintro e w2 ⟨rfl, B⟩
      exact ⟨_, rfl, hK _ _ rfl B⟩
    · intro a w1 hB ho hp K hK
      have e10 : a.eval (.tmp 10) = (.int .u64 (X : Int)) := ho 10 (by kernel_rfl)
      refine hop_val (wanted_at rfl (j := 29) (d := 54) (b := true) (by kernel_rfl) (hp 29 54 (by kernel_rfl))) ?_ (hK (.int .u64 (X : Int)) _ rfl (Below.refl _ _))
      unfold execOp; simp only [eval_const, e10]; simp [go_sem]
    · intro a w1 hB ho hp K hK
      have e7 : a.eval (.tmp 7) = (.int .u64 (p : Int)) := ho 7 (by kernel_rfl)
      refine hop_val (wanted_at rfl (j := 29) (d := 54) (b := true) (by kernel_rfl) (hp 29 54 (by kernel_rfl))) ?_ (hK (.int .u64 (p : Int)) _ rfl (Below.refl _ _))
      unfold execOp; simp only [eval_const, e7]; simp [go_sem]
    · intro a w1 hB ho hp K hK
      have e59 : a.eval (.tmp 59) = (.int .u64 (X : Int)) := hp 34 59 (by kernel_rfl)
      have e60 : a.eval (.tmp 60) = (.int .u64 (p : Int)) := hp 35 60 (by kernel_rfl)
      refine hop_val (wanted_at rfl (j := 29) (d := 54) (b := true) (by kernel_rfl) (hp 29 54 (by kernel_rfl))) ?_ (hK (.int .u64 (Q2 : Int)) _ rfl (Below.refl _ _))
      unfold execOp; simp only [eval_const, e59, e60]; simp [go_sem, W2.out]
    · intro a w1 hB ho hp K hK
      have e11 : a.eval (.tmp 11) = (.int .u64 (Y : Int)) := ho 11 (by kernel_rfl)
      refine hop_val (wanted_at rfl (j := 29) (d := 54) (b := true) (by kernel_rfl) (hp 29 54 (by kernel_rfl))) ?_ (hK (.int .u64 (Y : Int)) _ rfl (Below.refl _ _))
      unfold execOp; simp only [eval_const, e11]; simp [go_sem]
    · intro a w1 hB ho hp K hK
      have e61 : a.eval (.tmp 61) = (.int .u64 (Q2 : Int)) := hp 36 61 (by kernel_rfl)
      have e62 : a.eval (.tmp 62) = (.int .u64 (Y : Int)) := hp 37 62 (by kernel_rfl)
      refine hop_val (wanted_at rfl (j := 29) (d := 54) (b := true) (by kernel_rfl) (hp 29 54 (by kernel_rfl))) ?_ (hK (.int .u64 (Q3 : Int)) _ rfl (Below.refl _ _))
      unfold execOp; simp only [eval_const, e61, e62]; simp [go_sem, W3.out]
    · intro a w1 hB ho hp K hK
      have e7 : a.eval (.tmp 7) = (.int .u64 (p : Int)) := ho 7 (by kernel_rfl)
      refine hop_val (wanted_at rfl (j := 29) (d := 54) (b := true) (by kernel_rfl) (hp 29 54 (by kernel_rfl))) ?_ (hK (.int .u64 (p : Int)) _ rfl (Below.refl _ _))
      unfold execOp; simp only [eval_const, e7]; simp [go_sem]
    · intro a w1 hB ho hp K hK
      have e63 : a.eval (.tmp 63) = (.int .u64 (Q3 : Int)) := hp 38 63 (by kernel_rfl)
      have e64 : a.eval (.tmp 64) = (.int .u64 (p : Int)) := hp 39 64 (by kernel_rfl)
      refine hop_val (wanted_at rfl (j := 29) (d := 54) (b := true) (by kernel_rfl) (hp 29 54 (by kernel_rfl))) ?_ (hK (.int .u64 (D : Int)) _ rfl (Below.refl _ _))
      unfold execOp; simp only [eval_const, e63, e64]; simp [go_sem, T4.out, hpn]
    · intro a w1 hB ho hp K hK
      have e58 : a.eval (.tmp 58) = (.int .u64 (D : Int)) := hp 33 58 (by kernel_rfl)
      have e65 : a.eval (.tmp 65) = (.int .u64 (D : Int)) := hp 40 65 (by kernel_rfl)
      refine hop_val (wanted_at rfl (j := 29) (d := 54) (b := true) (by kernel_rfl) (hp 29 54 (by kernel_rfl))) ?_ (hK (.bool true) _ rfl (Below.refl _ _))
      unfold execOp; simp only [eval_const, e58, e65]; simp [go_sem]
    · intro a w1 hB ho hp K hK
      have e54 : a.eval (.tmp 54) = (.bool true) := hp 29 54 (by kernel_rfl)
      have e66 : a.eval (.tmp 66) = (.bool true) := hp 41 66 (by kernel_rfl)
      refine hop_val (wanted_none rfl) ?_ (hK (.bool true) _ rfl (Below.refl _ _))
      unfold execOp; simp only [eval_const, e54, e66]; simp [go_sem]
    · intro a w1 hB ho hp K hK
      have e67 : a.eval (.tmp 67) = (.bool true) := hp 42 67 (by kernel_rfl)
      refine hop_val (wanted_none rfl) ?_ (hK (.bool true) _ rfl (Below.refl _ _))
      unfold execOp; simp only [eval_const, e67]; simp [go_sem]
    · intro a w1 hB ho hp K hK
      have e8 : a.eval (.tmp 8) = (.pointer (some ⟨w22.heap.size, 0, none⟩)) := ho 8 (by kernel_rfl)
      obtain ⟨u1, u2, u3⟩ := H_f.out.below hB
      exact hop_load (wanted_at rfl (j := 43) (d := 68) (b := true) (by kernel_rfl) (hp 43 68 (by kernel_rfl))) rfl e8 (run_ldf u1) (hK _ _ rfl (Below.refl _ _))
    · intro a w1 hB ho hp K hK
      have e1 : a.eval (.tmp 1) = (.int .u64 (x : Int)) := ho 1 (by kernel_rfl)
      refine hop_val (wanted_at rfl (j := 43) (d := 68) (b := true) (by kernel_rfl) (hp 43 68 (by kernel_rfl))) ?_ (hK (.int .u64 (x : Int)) _ rfl (Below.refl _ _))
      unfold execOp; simp only [eval_const, e1]; simp [go_sem]
    · intro a w1 hB ho hp K hK
      have e69 : a.eval (.tmp 69) = (.agg #[.int .u64 (ab : Int)]) := hp 44 69 (by kernel_rfl)
      have e70 : a.eval (.tmp 70) = (.int .u64 (x : Int)) := hp 45 70 (by kernel_rfl)
      refine hop_call (wanted_at rfl (j := 43) (d := 68) (b := true) (by kernel_rfl) (hp 43 68 (by kernel_rfl))) rfl (args := #[(.agg #[.int .u64 (ab : Int)]), (.int .u64 (x : Int))]) (by simp only [List.map_toArray, List.map_cons, List.map_nil, eval_const, e69, e70]) (ent7 (by kernel_rfl) _ _) (fneg_v HP.out h hx HN.out _) ?_
      rintro e w2 ⟨rfl, B⟩
      exact ⟨_, rfl, hK _ _ rfl B⟩
    · intro a w1 hB ho hp K hK
      have e7 : a.eval (.tmp 7) = (.int .u64 (p : Int)) := ho 7 (by kernel_rfl)
      refine hop_val (wanted_at rfl (j := 43) (d := 68) (b := true) (by kernel_rfl) (hp 43 68 (by kernel_rfl))) ?_ (hK (.int .u64 (p : Int)) _ rfl (Below.refl _ _))
      unfold execOp; simp only [eval_const, e7]; simp [go_sem]
    · intro a w1 hB ho hp K hK
      have e10 : a.eval (.tmp 10) = (.int .u64 (X : Int)) := ho 10 (by kernel_rfl)
      refine hop_val (wanted_at rfl (j := 43) (d := 68) (b := true) (by kernel_rfl) (hp 43 68 (by kernel_rfl))) ?_ (hK (.int .u64 (X : Int)) _ rfl (Below.refl _ _))
      unfold execOp; simp only [eval_const, e10]; simp [go_sem]
    · intro a w1 hB ho hp K hK
      have e72 : a.eval (.tmp 72) = (.int .u64 (p : Int)) := hp 47 72 (by kernel_rfl)
      have e73 : a.eval (.tmp 73) = (.int .u64 (X : Int)) := hp 48 73 (by kernel_rfl)
      refine hop_val (wanted_at rfl (j := 43) (d := 68) (b := true) (by kernel_rfl) (hp 43 68 (by kernel_rfl))) ?_ (hK (.int .u64 (Q4 : Int)) _ rfl (Below.refl _ _))
      unfold execOp; simp only [eval_const, e72, e73]; simp [go_sem, W4.out]
    · intro a w1 hB ho hp K hK
      have e7 : a.eval (.tmp 7) = (.int .u64 (p : Int)) := ho 7 (by kernel_rfl)
      refine hop_val (wanted_at rfl (j := 43) (d := 68) (b := true) (by kernel_rfl) (hp 43 68 (by kernel_rfl))) ?_ (hK (.int .u64 (p : Int)) _ rfl (Below.refl _ _))
      unfold execOp; simp only [eval_const, e7]; simp [go_sem]
    · intro a w1 hB ho hp K hK
      have e74 : a.eval (.tmp 74) = (.int .u64 (Q4 : Int)) := hp 49 74 (by kernel_rfl)
      have e75 : a.eval (.tmp 75) = (.int .u64 (p : Int)) := hp 50 75 (by kernel_rfl)
      refine hop_val (wanted_at rfl (j := 43) (d := 68) (b := true) (by kernel_rfl) (hp 43 68 (by kernel_rfl))) ?_ (hK (.int .u64 (N : Int)) _ rfl (Below.refl _ _))
      unfold execOp; simp only [eval_const, e74, e75]; simp [go_sem, T5.out, hpn]
    · intro a w1 hB ho hp K hK
      have e71 : a.eval (.tmp 71) = (.int .u64 (N : Int)) := hp 46 71 (by kernel_rfl)
      have e76 : a.eval (.tmp 76) = (.int .u64 (N : Int)) := hp 51 76 (by kernel_rfl)
      refine hop_val (wanted_at rfl (j := 43) (d := 68) (b := true) (by kernel_rfl) (hp 43 68 (by kernel_rfl))) ?_ (hK (.bool true) _ rfl (Below.refl _ _))
      unfold execOp; simp only [eval_const, e71, e76]; simp [go_sem]
    · intro a w1 hB ho hp K hK
      have e68 : a.eval (.tmp 68) = (.bool true) := hp 43 68 (by kernel_rfl)
      have e77 : a.eval (.tmp 77) = (.bool true) := hp 52 77 (by kernel_rfl)
      refine hop_val (wanted_none rfl) ?_ (hK (.bool true) _ rfl (Below.refl _ _))
      unfold execOp; simp only [eval_const, e68, e77]; simp [go_sem]
    · intro a w1 hB ho hp K hK
      have e78 : a.eval (.tmp 78) = (.bool true) := hp 53 78 (by kernel_rfl)
      refine hop_val (wanted_none rfl) ?_ (hK (.bool true) _ rfl (Below.refl _ _))
      unfold execOp; simp only [eval_const, e78]; simp [go_sem]
    · intro a w1 hB ho hp K hK
      have e8 : a.eval (.tmp 8) = (.pointer (some ⟨w22.heap.size, 0, none⟩)) := ho 8 (by kernel_rfl)
      obtain ⟨u1, u2, u3⟩ := H_f.out.below hB
      exact hop_load (wanted_at rfl (j := 54) (d := 79) (b := true) (by kernel_rfl) (hp 54 79 (by kernel_rfl))) rfl e8 (run_ldf u1) (hK _ _ rfl (Below.refl _ _))
    · intro a w1 hB ho hp K hK
      have e1 : a.eval (.tmp 1) = (.int .u64 (x : Int)) := ho 1 (by kernel_rfl)
      refine hop_val (wanted_at rfl (j := 54) (d := 79) (b := true) (by kernel_rfl) (hp 54 79 (by kernel_rfl))) ?_ (hK (.int .u64 (x : Int)) _ rfl (Below.refl _ _))
      unfold execOp; simp only [eval_const, e1]; simp [go_sem]
    · intro a w1 hB ho hp K hK
      have e2 : a.eval (.tmp 2) = (.int .u64 (y : Int)) := ho 2 (by kernel_rfl)
      refine hop_val (wanted_at rfl (j := 54) (d := 79) (b := true) (by kernel_rfl) (hp 54 79 (by kernel_rfl))) ?_ (hK (.int .u64 (y : Int)) _ rfl (Below.refl _ _))
      unfold execOp; simp only [eval_const, e2]; simp [go_sem]
    · intro a w1 hB ho hp K hK
      have e80 : a.eval (.tmp 80) = (.agg #[.int .u64 (ab : Int)]) := hp 55 80 (by kernel_rfl)
      have e81 : a.eval (.tmp 81) = (.int .u64 (x : Int)) := hp 56 81 (by kernel_rfl)
      have e82 : a.eval (.tmp 82) = (.int .u64 (y : Int)) := hp 57 82 (by kernel_rfl)
      refine hop_call (wanted_at rfl (j := 54) (d := 79) (b := true) (by kernel_rfl) (hp 54 79 (by kernel_rfl))) rfl (args := #[(.agg #[.int .u64 (ab : Int)]), (.int .u64 (x : Int)), (.int .u64 (y : Int))]) (by simp only [List.map_toArray, List.map_cons, List.map_nil, eval_const, e80, e81, e82]) (ent7 (by kernel_rfl) _ _) (fmul_v HP.out h hx hy HM.out _) ?_
      rintro e w2 ⟨rfl, B⟩
      exact ⟨_, rfl, hK _ _ rfl B⟩
    · intro a w1 hB ho hp K hK
      have e1 : a.eval (.tmp 1) = (.int .u64 (x : Int)) := ho 1 (by kernel_rfl)
      refine hop_val (wanted_at rfl (j := 54) (d := 79) (b := true) (by kernel_rfl) (hp 54 79 (by kernel_rfl))) ?_ (hK (.int .u64 (x : Int)) _ rfl (Below.refl _ _))
      unfold execOp; simp only [eval_const, e1]; simp [go_sem]
    · intro a w1 hB ho hp K hK
      have e2 : a.eval (.tmp 2) = (.int .u64 (y : Int)) := ho 2 (by kernel_rfl)
      refine hop_val (wanted_at rfl (j := 54) (d := 79) (b := true) (by kernel_rfl) (hp 54 79 (by kernel_rfl))) ?_ (hK (.int .u64 (y : Int)) _ rfl (Below.refl _ _))
      unfold execOp; simp only [eval_const, e2]; simp [go_sem]
    · intro a w1 hB ho hp K hK
      have e7 : a.eval (.tmp 7) = (.int .u64 (p : Int)) := ho 7 (by kernel_rfl)
      refine hop_val (wanted_at rfl (j := 54) (d := 79) (b := true) (by kernel_rfl) (hp 54 79 (by kernel_rfl))) ?_ (hK (.int .u64 (p : Int)) _ rfl (Below.refl _ _))
      unfold execOp; simp only [eval_const, e7]; simp [go_sem]
    · intro a w1 hB ho hp K hK
      have e84 : a.eval (.tmp 84) = (.int .u64 (x : Int)) := hp 59 84 (by kernel_rfl)
      have e85 : a.eval (.tmp 85) = (.int .u64 (y : Int)) := hp 60 85 (by kernel_rfl)
      have e86 : a.eval (.tmp 86) = (.int .u64 (p : Int)) := hp 61 86 (by kernel_rfl)
      refine hop_call (wanted_at rfl (j := 54) (d := 79) (b := true) (by kernel_rfl) (hp 54 79 (by kernel_rfl))) rfl (args := #[(.int .u64 (x : Int)), (.int .u64 (y : Int)), (.int .u64 (p : Int))]) (by simp only [List.map_toArray, List.map_cons, List.map_nil, eval_const, e84, e85, e86]) (ent7 (by kernel_rfl) _ _) (rmul8_calls hx hy h2 h HM.out _) ?_
      rintro e w2 ⟨rfl, B⟩
      exact ⟨_, rfl, hK _ _ rfl B⟩
    · intro a w1 hB ho hp K hK
      have e83 : a.eval (.tmp 83) = (.int .u64 (M : Int)) := hp 58 83 (by kernel_rfl)
      have e87 : a.eval (.tmp 87) = (.int .u64 (M : Int)) := hp 62 87 (by kernel_rfl)
      refine hop_val (wanted_at rfl (j := 54) (d := 79) (b := true) (by kernel_rfl) (hp 54 79 (by kernel_rfl))) ?_ (hK (.bool true) _ rfl (Below.refl _ _))
      unfold execOp; simp only [eval_const, e83, e87]; simp [go_sem]
    · intro a w1 hB ho hp K hK
      have e79 : a.eval (.tmp 79) = (.bool true) := hp 54 79 (by kernel_rfl)
      have e88 : a.eval (.tmp 88) = (.bool true) := hp 63 88 (by kernel_rfl)
      refine hop_val (wanted_none rfl) ?_ (hK (.bool true) _ rfl (Below.refl _ _))
      unfold execOp; simp only [eval_const, e79, e88]; simp [go_sem]
    · intro a w1 hB ho hp K hK
      have e89 : a.eval (.tmp 89) = (.bool true) := hp 64 89 (by kernel_rfl)
      refine hop_val (wanted_none rfl) ?_ (hK (.bool true) _ rfl (Below.refl _ _))
      unfold execOp; simp only [eval_const, e89]; simp [go_sem]
  intro w25 B25
  refine EndAll.one rfl fun vv hv => ?_
  obtain rfl : vv = (.bool true) := hv
  refine EndAll.one rfl fun vv hv => ?_
  obtain rfl : vv = (.bool true) := hv
  refine EndAll.one rfl fun vv hv => ?_
  obtain rfl : vv = (.bool true) := hv
  refine EndAll.one rfl fun vv hv => ?_
  obtain rfl : vv = (.bool true) := hv
  refine EndAll.one rfl fun vv hv => ?_
  obtain rfl : vv = (.bool true) := hv
  refine EndAll.one rfl fun vv hv => ?_
  obtain rfl : vv = (.agg #[.int .u64 (ab : Int)]) := hv
  refine EndAll.one rfl fun vv hv => ?_
  obtain rfl : vv = (.int .u64 (p : Int)) := hv
  refine EndAll.one rfl fun vv hv => ?_
  obtain rfl : vv = (.int .u64 (p : Int)) := hv
  refine EndAll.one rfl fun vv hv => ?_
  obtain rfl : vv = (.bool true) := hv
  refine EndAll.one rfl fun vv hv => ?_
  obtain rfl : vv = (.bool true) := hv
  refine EndAll.one rfl fun vv hv => ?_
  obtain rfl : vv = (.bool true) := hv
  refine EndAll.one rfl fun vv hv => ?_
  obtain rfl : vv = (.agg #[.int .u64 (ab : Int)]) := hv
  refine EndAll.one rfl fun vv hv => ?_
  obtain rfl : vv = (.int .u64 (x : Int)) := hv
  refine EndAll.one rfl fun vv hv => ?_
  obtain rfl : vv = (.int .u64 (X : Int)) := hv
  refine EndAll.one rfl fun vv hv => ?_
  obtain rfl : vv = (.int .u64 (X : Int)) := hv
  refine EndAll.one rfl fun vv hv => ?_
  obtain rfl : vv = (.bool true) := hv
  refine EndAll.one rfl fun vv hv => ?_
  obtain rfl : vv = (.bool true) := hv
  refine EndAll.one rfl fun vv hv => ?_
  obtain rfl : vv = (.bool true) := hv
  refine EndAll.one rfl fun vv hv => ?_
  obtain rfl : vv = (.agg #[.int .u64 (ab : Int)]) := hv
  refine EndAll.one rfl fun vv hv => ?_
  obtain rfl : vv = (.int .u64 (x : Int)) := hv
  refine EndAll.one rfl fun vv hv => ?_
  obtain rfl : vv = (.int .u64 (y : Int)) := hv
  refine EndAll.one rfl fun vv hv => ?_
  obtain rfl : vv = (.int .u64 (S : Int)) := hv
  refine EndAll.one rfl fun vv hv => ?_
  obtain rfl : vv = (.int .u64 (X : Int)) := hv
  refine EndAll.one rfl fun vv hv => ?_
  obtain rfl : vv = (.int .u64 (Y : Int)) := hv
  refine EndAll.one rfl fun vv hv => ?_
  obtain rfl : vv = (.int .u64 (Q1 : Int)) := hv
  refine EndAll.one rfl fun vv hv => ?_
  obtain rfl : vv = (.int .u64 (p : Int)) := hv
  refine EndAll.one rfl fun vv hv => ?_
  obtain rfl : vv = (.int .u64 (S : Int)) := hv
  refine EndAll.one rfl fun vv hv => ?_
  obtain rfl : vv = (.bool true) := hv
  refine EndAll.one rfl fun vv hv => ?_
  obtain rfl : vv = (.bool true) := hv
  refine EndAll.one rfl fun vv hv => ?_
  obtain rfl : vv = (.bool true) := hv
  refine EndAll.one rfl fun vv hv => ?_
  obtain rfl : vv = (.agg #[.int .u64 (ab : Int)]) := hv
  refine EndAll.one rfl fun vv hv => ?_
  obtain rfl : vv = (.int .u64 (x : Int)) := hv
  refine EndAll.one rfl fun vv hv => ?_
  obtain rfl : vv = (.int .u64 (y : Int)) := hv
  refine EndAll.one rfl fun vv hv => ?_
  obtain rfl : vv = (.int .u64 (D : Int)) := hv
  refine EndAll.one rfl fun vv hv => ?_
  obtain rfl : vv = (.int .u64 (X : Int)) := hv
  refine EndAll.one rfl fun vv hv => ?_
  obtain rfl : vv = (.int .u64 (p : Int)) := hv
  refine EndAll.one rfl fun vv hv => ?_
  obtain rfl : vv = (.int .u64 (Q2 : Int)) := hv
  refine EndAll.one rfl fun vv hv => ?_
  obtain rfl : vv = (.int .u64 (Y : Int)) := hv
  refine EndAll.one rfl fun vv hv => ?_
  obtain rfl : vv = (.int .u64 (Q3 : Int)) := hv
  refine EndAll.one rfl fun vv hv => ?_
  obtain rfl : vv = (.int .u64 (p : Int)) := hv
  refine EndAll.one rfl fun vv hv => ?_
  obtain rfl : vv = (.int .u64 (D : Int)) := hv
  refine EndAll.one rfl fun vv hv => ?_
  obtain rfl : vv = (.bool true) := hv
  refine EndAll.one rfl fun vv hv => ?_
  obtain rfl : vv = (.bool true) := hv
  refine EndAll.one rfl fun vv hv => ?_
  obtain rfl : vv = (.bool true) := hv
  refine EndAll.one rfl fun vv hv => ?_
  obtain rfl : vv = (.agg #[.int .u64 (ab : Int)]) := hv
  refine EndAll.one rfl fun vv hv => ?_
  obtain rfl : vv = (.int .u64 (x : Int)) := hv
  refine EndAll.one rfl fun vv hv => ?_
  obtain rfl : vv = (.int .u64 (N : Int)) := hv
  refine EndAll.one rfl fun vv hv => ?_
  obtain rfl : vv = (.int .u64 (p : Int)) := hv
  refine EndAll.one rfl fun vv hv => ?_
  obtain rfl : vv = (.int .u64 (X : Int)) := hv
  refine EndAll.one rfl fun vv hv => ?_
  obtain rfl : vv = (.int .u64 (Q4 : Int)) := hv
  refine EndAll.one rfl fun vv hv => ?_
  obtain rfl : vv = (.int .u64 (p : Int)) := hv
  refine EndAll.one rfl fun vv hv => ?_
  obtain rfl : vv = (.int .u64 (N : Int)) := hv
  refine EndAll.one rfl fun vv hv => ?_
  obtain rfl : vv = (.bool true) := hv
  refine EndAll.one rfl fun vv hv => ?_
  obtain rfl : vv = (.bool true) := hv
  refine EndAll.one rfl fun vv hv => ?_
  obtain rfl : vv = (.bool true) := hv
  refine EndAll.one rfl fun vv hv => ?_
  obtain rfl : vv = (.agg #[.int .u64 (ab : Int)]) := hv
  refine EndAll.one rfl fun vv hv => ?_
  obtain rfl : vv = (.int .u64 (x : Int)) := hv
  refine EndAll.one rfl fun vv hv => ?_
  obtain rfl : vv = (.int .u64 (y : Int)) := hv
  refine EndAll.one rfl fun vv hv => ?_
  obtain rfl : vv = (.int .u64 (M : Int)) := hv
  refine EndAll.one rfl fun vv hv => ?_
  obtain rfl : vv = (.int .u64 (x : Int)) := hv
  refine EndAll.one rfl fun vv hv => ?_
  obtain rfl : vv = (.int .u64 (y : Int)) := hv
  refine EndAll.one rfl fun vv hv => ?_
  obtain rfl : vv = (.int .u64 (p : Int)) := hv
  refine EndAll.one rfl fun vv hv => ?_
  obtain rfl : vv = (.int .u64 (M : Int)) := hv
  refine EndAll.one rfl fun vv hv => ?_
  obtain rfl : vv = (.bool true) := hv
  refine EndAll.one rfl fun vv hv => ?_
  obtain rfl : vv = (.bool true) := hv
  refine EndAll.one rfl fun vv hv => ?_
  obtain rfl : vv = (.bool true) := hv
  refine EndAll.nil (l := []) rfl ?_
  simp only [Act.put, List.setIfInBounds_toArray, List.set_cons_zero, List.set_cons_succ]
  replace H_f := Lib.hid (H_f.out.below B25)
  replace hT := hT.below B25
  replace hW := hW.trans (B25.mono hW.size)
  clear B25
  obtain ⟨f1, f2, f3⟩ := H_f.out
  go_wp2_with fail
  clear f1 f2 f3
  exact bodyPost_ret (v := .bool true) (by simp [results, Tryd.results3, go_sem]) rfl ⟨rfl, hW⟩
end Go.Proofs.YtfdgblmegiehnaaDoor
