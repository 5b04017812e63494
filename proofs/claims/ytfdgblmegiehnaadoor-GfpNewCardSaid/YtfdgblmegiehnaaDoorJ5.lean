/-
  The walk of GfpNew.
-/
import Derived.Test.YtfdgblmegiehnaaDoorGfpC
/-! The walk of GfpNew. -/
namespace Go.Proofs.YtfdgblmegiehnaaDoor
open Go.RowKit
set_option linter.unusedVariables false
set_option linter.unusedSimpArgs false

theorem zero_ab : 0 + 2 = 2 := rfl
set_option maxRecDepth 100000 in
set_option maxHeartbeats 4000000 in
theorem new_some {q x y : Nat} {w : World} (hx : x < 18446744073709551616) (hy : y < 18446744073709551616) (hT : TabHas w) (hpr : MR.Pr (q % 100000)) :
    Calls Tryd.prog 7 #[.int .u32 (q : Int), .int .u64 (x : Int), .int .u64 (y : Int)] w (fun e w' => e = .returned (.bool true) ∧ Below w.heap.size w w') := by
  have hW := Below.refl w.heap.size w
  obtain ⟨N, hN⟩ : ∃ N, q % 100000 = N := ⟨_, rfl⟩
  have HN := Lib.hid hN
  obtain ⟨Z, hZ⟩ : ∃ Z, 2147483648 + x % 1000000007 = Z := ⟨_, rfl⟩
  have HZ := Lib.hid hZ
  obtain ⟨S, hS⟩ : ∃ S, (x + y) % 2 = S := ⟨_, rfl⟩
  have HS := Lib.hid hS
  have e1 : (q : Int) % 100000 = (N : Int) := by omega
  have e2 : 2147483648 + (x : Int) % 1000000007 = (Z : Int) := by omega
  have e3 : ((x : Int) % 2 + (y : Int) % 2) % 2 = (S : Int) := by omega
  have lN : N < 100000 := by omega
  have lZ : Z < 4294967296 := by omega
  have HZN : Hid (¬ (MR.Pr Z ∧ Z < 2147483648)) := Lib.hid (by omega)
  rw [hN] at hpr
  have HPR := Lib.hid hpr
  have h2 : 2 ≤ N := hpr.1
  obtain ⟨ab, hab⟩ : ∃ ab, ab + 2 = N := ⟨N - 2, by omega⟩
  have HP := Lib.hid hab
  have HBB : Hid (True ↔ MR.Pr N) := Lib.hid ⟨fun _ => hpr, fun _ => trivial⟩
  clear hab hpr hN hZ hS
  go_enter Tryd.func7, Tryd.ntmps7
  go_wp2_with fail
  refine (fnew_yes (ab := ab) (by omega) hT HPR.out (by omega) HP.out).mono ?_
  rintro e w21 ⟨rfl, B21⟩
  replace hT := hT.below B21
  replace hW := hW.trans (B21.mono hW.size)
  clear B21
  obtain ⟨w22, hw22⟩ : ∃ xw, xw = w21.alloc (.cells #[.int .u64 (ab : Int)] 25) := ⟨_, rfl⟩
  have z22 : Below w21.heap.size w21 w22 := by rw [hw22]; exact zba _ _
  have HW22 : Hid (w21.alloc (.cells #[.int .u64 (ab : Int)] 25) = w22) := Lib.hid hw22.symm
  have lw_f : w.heap.size ≤ w21.heap.size := by have := hW.size; omega
  replace hT := hT.below z22
  replace hW := hW.trans (z22.mono hW.size)
  have H_f : Hid (Fb w22 w21.heap.size ab) := Lib.hid (by rw [hw22]; exact Fb.new _ _ _)
  clear z22 hw22
  go_wp2_with fail
  rw [HW22.out]
  refine (fnew_no (by omega) hT HZN.out).mono ?_
  rintro e w23 ⟨rfl, B23⟩
  replace H_f := Lib.hid (H_f.out.below B23)
  replace hT := hT.below B23
  replace hW := hW.trans (B23.mono hW.size)
  clear B23
  have O_f := H_f
  obtain ⟨w24, hw24⟩ : ∃ xw, xw = w23.alloc (.cells #[.int .u64 (0 : Int)] 25) := ⟨_, rfl⟩
  have z24 : Below w23.heap.size w23 w24 := by rw [hw24]; exact zba _ _
  have HW24 : Hid (w23.alloc (.cells #[.int .u64 (0 : Int)] 25) = w24) := Lib.hid hw24.symm
  have nn_f_d : ¬ (w21.heap.size = w23.heap.size) := by have := H_f.out.2.2; omega
  have nm_f_d : ¬ (w23.heap.size = w21.heap.size) := by omega
  have lw_d : w.heap.size ≤ w23.heap.size := by have := hW.size; omega
  replace H_f := Lib.hid (H_f.out.below z24)
  replace hT := hT.below z24
  replace hW := hW.trans (z24.mono hW.size)
  have H_d : Hid (Fb w24 w23.heap.size 0) := Lib.hid (by rw [hw24]; exact Fb.new _ _ _)
  clear z24 hw24
  have ez25 : w24.heap.size = w23.heap.size + 1 := by rw [← HW24.out, World.size_alloc]
  obtain ⟨w25, hw25⟩ : ∃ xw, xw = w24.alloc (.cells #[.int .u64 (0 : Int)] 25) := ⟨_, rfl⟩
  have z25 : Below w24.heap.size w24 w25 := by rw [hw25]; exact zba _ _
  have HW25 : Hid (w24.alloc (.cells #[.int .u64 (0 : Int)] 25) = w25) := Lib.hid hw25.symm
  have nn_f_z : ¬ (w21.heap.size = (w23.heap.size + 1)) := by have := H_f.out.2.2; omega
  have nm_f_z : ¬ ((w23.heap.size + 1) = w21.heap.size) := by omega
  have nn_d_z : ¬ (w23.heap.size = (w23.heap.size + 1)) := by have := H_d.out.2.2; omega
  have nm_d_z : ¬ ((w23.heap.size + 1) = w23.heap.size) := by omega
  have lw_z : w.heap.size ≤ (w23.heap.size + 1) := by have := hW.size; omega
  replace H_f := Lib.hid (H_f.out.below z25)
  replace H_d := Lib.hid (H_d.out.below z25)
  replace hT := hT.below z25
  replace hW := hW.trans (z25.mono hW.size)
  have H_z : Hid (Fb w25 (w23.heap.size + 1) 0) := Lib.hid (by rw [← ez25, hw25]; exact Fb.new _ _ _)
  clear z25 hw25
  obtain ⟨f1, f2, f3⟩ := O_f.out
  go_wp2_with fail
  rw [HW24.out]
  rw [HW25.out]
  clear f1 f2 f3 O_f
  refine (gawake_v hT).mono ?_
  rintro e w26 ⟨rfl, B26⟩
  replace H_f := Lib.hid (H_f.out.below B26)
  replace H_d := Lib.hid (H_d.out.below B26)
  replace H_z := Lib.hid (H_z.out.below B26)
  replace hT := hT.below B26
  replace hW := hW.trans (B26.mono hW.size)
  clear B26
  obtain ⟨f1, f2, f3⟩ := H_f.out
  obtain ⟨d1, d2, d3⟩ := H_d.out
  obtain ⟨z1, z2, z3⟩ := H_z.out
  go_wp2_with fail
  clear f1 f2 f3 d1 d2 d3 z1 z2 z3
  refine (rprime_b (p := N) (b := true) (by omega) ⟨fun _ => HPR.out, fun _ => rfl⟩).mono ?_
  rintro e w27 ⟨rfl, B27⟩
  replace H_f := Lib.hid (H_f.out.below B27)
  replace H_d := Lib.hid (H_d.out.below B27)
  replace H_z := Lib.hid (H_z.out.below B27)
  replace hT := hT.below B27
  replace hW := hW.trans (B27.mono hW.size)
  clear B27
  obtain ⟨f1, f2, f3⟩ := H_f.out
  obtain ⟨d1, d2, d3⟩ := H_d.out
  obtain ⟨z1, z2, z3⟩ := H_z.out
  go_wp2_with fail
  clear f1 f2 f3 d1 d2 d3 z1 z2 z3
  refine (fp_v zero_ab (by omega) _).mono ?_
  rintro e w28 ⟨rfl, B28⟩
  replace H_f := Lib.hid (H_f.out.below B28)
  replace H_d := Lib.hid (H_d.out.below B28)
  replace H_z := Lib.hid (H_z.out.below B28)
  replace hT := hT.below B28
  replace hW := hW.trans (B28.mono hW.size)
  clear B28
  obtain ⟨f1, f2, f3⟩ := H_f.out
  obtain ⟨d1, d2, d3⟩ := H_d.out
  obtain ⟨z1, z2, z3⟩ := H_z.out
  go_wp2_with fail
  clear f1 f2 f3 d1 d2 d3 z1 z2 z3
  refine (fadd_v zero_ab (by omega) hx hy HS.out _).mono ?_
  rintro e w29 ⟨rfl, B29⟩
  replace H_f := Lib.hid (H_f.out.below B29)
  replace H_d := Lib.hid (H_d.out.below B29)
  replace H_z := Lib.hid (H_z.out.below B29)
  replace hT := hT.below B29
  replace hW := hW.trans (B29.mono hW.size)
  clear B29
  obtain ⟨f1, f2, f3⟩ := H_f.out
  obtain ⟨d1, d2, d3⟩ := H_d.out
  obtain ⟨z1, z2, z3⟩ := H_z.out
  go_wp2_with fail
  clear f1 f2 f3 d1 d2 d3 z1 z2 z3
  refine (fp_v HP.out (by omega) _).mono ?_
  rintro e w30 ⟨rfl, B30⟩
  replace H_f := Lib.hid (H_f.out.below B30)
  replace H_d := Lib.hid (H_d.out.below B30)
  replace H_z := Lib.hid (H_z.out.below B30)
  replace hT := hT.below B30
  replace hW := hW.trans (B30.mono hW.size)
  clear B30
  obtain ⟨f1, f2, f3⟩ := H_f.out
  obtain ⟨d1, d2, d3⟩ := H_d.out
  obtain ⟨z1, z2, z3⟩ := H_z.out
  go_wp2_with fail
  clear f1 f2 f3 d1 d2 d3 z1 z2 z3
  exact bodyPost_ret (v := .bool true) (by simp [results, Tryd.results7, go_sem]) rfl ⟨rfl, hW⟩
set_option maxRecDepth 100000 in
set_option maxHeartbeats 4000000 in
theorem new_none {q x y : Nat} {w : World} (hx : x < 18446744073709551616) (hy : y < 18446744073709551616) (hT : TabHas w) (hpr : ¬ MR.Pr (q % 100000)) :
    Calls Tryd.prog 7 #[.int .u32 (q : Int), .int .u64 (x : Int), .int .u64 (y : Int)] w (fun e w' => e = .returned (.bool true) ∧ Below w.heap.size w w') := by
  have hW := Below.refl w.heap.size w
  obtain ⟨N, hN⟩ : ∃ N, q % 100000 = N := ⟨_, rfl⟩
  have HN := Lib.hid hN
  obtain ⟨Z, hZ⟩ : ∃ Z, 2147483648 + x % 1000000007 = Z := ⟨_, rfl⟩
  have HZ := Lib.hid hZ
  obtain ⟨S, hS⟩ : ∃ S, (x + y) % 2 = S := ⟨_, rfl⟩
  have HS := Lib.hid hS
  have e1 : (q : Int) % 100000 = (N : Int) := by omega
  have e2 : 2147483648 + (x : Int) % 1000000007 = (Z : Int) := by omega
  have e3 : ((x : Int) % 2 + (y : Int) % 2) % 2 = (S : Int) := by omega
  have lN : N < 100000 := by omega
  have lZ : Z < 4294967296 := by omega
  have HZN : Hid (¬ (MR.Pr Z ∧ Z < 2147483648)) := Lib.hid (by omega)
  rw [hN] at hpr
  have HPR := Lib.hid hpr
  have HNO : Hid (¬ (MR.Pr N ∧ N < 2147483648)) := Lib.hid fun k => hpr k.1
  clear hpr hN hZ hS
  go_enter Tryd.func7, Tryd.ntmps7
  go_wp2_with fail
  refine (fnew_no (by omega) hT HNO.out).mono ?_
  rintro e w21 ⟨rfl, B21⟩
  replace hT := hT.below B21
  replace hW := hW.trans (B21.mono hW.size)
  clear B21
  obtain ⟨w22, hw22⟩ : ∃ xw, xw = w21.alloc (.cells #[.int .u64 (0 : Int)] 25) := ⟨_, rfl⟩
  have z22 : Below w21.heap.size w21 w22 := by rw [hw22]; exact zba _ _
  have HW22 : Hid (w21.alloc (.cells #[.int .u64 (0 : Int)] 25) = w22) := Lib.hid hw22.symm
  have lw_f : w.heap.size ≤ w21.heap.size := by have := hW.size; omega
  replace hT := hT.below z22
  replace hW := hW.trans (z22.mono hW.size)
  have H_f : Hid (Fb w22 w21.heap.size 0) := Lib.hid (by rw [hw22]; exact Fb.new _ _ _)
  clear z22 hw22
  go_wp2_with fail
  rw [HW22.out]
  refine (fnew_no (by omega) hT HZN.out).mono ?_
  rintro e w23 ⟨rfl, B23⟩
  replace H_f := Lib.hid (H_f.out.below B23)
  replace hT := hT.below B23
  replace hW := hW.trans (B23.mono hW.size)
  clear B23
  have O_f := H_f
  obtain ⟨w24, hw24⟩ : ∃ xw, xw = w23.alloc (.cells #[.int .u64 (0 : Int)] 25) := ⟨_, rfl⟩
  have z24 : Below w23.heap.size w23 w24 := by rw [hw24]; exact zba _ _
  have HW24 : Hid (w23.alloc (.cells #[.int .u64 (0 : Int)] 25) = w24) := Lib.hid hw24.symm
  have nn_f_d : ¬ (w21.heap.size = w23.heap.size) := by have := H_f.out.2.2; omega
  have nm_f_d : ¬ (w23.heap.size = w21.heap.size) := by omega
  have lw_d : w.heap.size ≤ w23.heap.size := by have := hW.size; omega
  replace H_f := Lib.hid (H_f.out.below z24)
  replace hT := hT.below z24
  replace hW := hW.trans (z24.mono hW.size)
  have H_d : Hid (Fb w24 w23.heap.size 0) := Lib.hid (by rw [hw24]; exact Fb.new _ _ _)
  clear z24 hw24
  have ez25 : w24.heap.size = w23.heap.size + 1 := by rw [← HW24.out, World.size_alloc]
  obtain ⟨w25, hw25⟩ : ∃ xw, xw = w24.alloc (.cells #[.int .u64 (0 : Int)] 25) := ⟨_, rfl⟩
  have z25 : Below w24.heap.size w24 w25 := by rw [hw25]; exact zba _ _
  have HW25 : Hid (w24.alloc (.cells #[.int .u64 (0 : Int)] 25) = w25) := Lib.hid hw25.symm
  have nn_f_z : ¬ (w21.heap.size = (w23.heap.size + 1)) := by have := H_f.out.2.2; omega
  have nm_f_z : ¬ ((w23.heap.size + 1) = w21.heap.size) := by omega
  have nn_d_z : ¬ (w23.heap.size = (w23.heap.size + 1)) := by have := H_d.out.2.2; omega
  have nm_d_z : ¬ ((w23.heap.size + 1) = w23.heap.size) := by omega
  have lw_z : w.heap.size ≤ (w23.heap.size + 1) := by have := hW.size; omega
  replace H_f := Lib.hid (H_f.out.below z25)
  replace H_d := Lib.hid (H_d.out.below z25)
  replace hT := hT.below z25
  replace hW := hW.trans (z25.mono hW.size)
  have H_z : Hid (Fb w25 (w23.heap.size + 1) 0) := Lib.hid (by rw [← ez25, hw25]; exact Fb.new _ _ _)
  clear z25 hw25
  obtain ⟨f1, f2, f3⟩ := O_f.out
  go_wp2_with fail
  rw [HW24.out]
  rw [HW25.out]
  clear f1 f2 f3 O_f
  refine (gawake_v hT).mono ?_
  rintro e w26 ⟨rfl, B26⟩
  replace H_f := Lib.hid (H_f.out.below B26)
  replace H_d := Lib.hid (H_d.out.below B26)
  replace H_z := Lib.hid (H_z.out.below B26)
  replace hT := hT.below B26
  replace hW := hW.trans (B26.mono hW.size)
  clear B26
  obtain ⟨f1, f2, f3⟩ := H_f.out
  obtain ⟨d1, d2, d3⟩ := H_d.out
  obtain ⟨z1, z2, z3⟩ := H_z.out
  go_wp2_with fail
  clear f1 f2 f3 d1 d2 d3 z1 z2 z3
  refine (rprime_b (p := N) (b := false) (by omega) ⟨fun k => (by cases k), fun k => (HPR.out k).elim⟩).mono ?_
  rintro e w27 ⟨rfl, B27⟩
  replace H_f := Lib.hid (H_f.out.below B27)
  replace H_d := Lib.hid (H_d.out.below B27)
  replace H_z := Lib.hid (H_z.out.below B27)
  replace hT := hT.below B27
  replace hW := hW.trans (B27.mono hW.size)
  clear B27
  obtain ⟨f1, f2, f3⟩ := H_f.out
  obtain ⟨d1, d2, d3⟩ := H_d.out
  obtain ⟨z1, z2, z3⟩ := H_z.out
  go_wp2_with fail
  clear f1 f2 f3 d1 d2 d3 z1 z2 z3
  refine (fp_v zero_ab (by omega) _).mono ?_
  rintro e w28 ⟨rfl, B28⟩
  replace H_f := Lib.hid (H_f.out.below B28)
  replace H_d := Lib.hid (H_d.out.below B28)
  replace H_z := Lib.hid (H_z.out.below B28)
  replace hT := hT.below B28
  replace hW := hW.trans (B28.mono hW.size)
  clear B28
  obtain ⟨f1, f2, f3⟩ := H_f.out
  obtain ⟨d1, d2, d3⟩ := H_d.out
  obtain ⟨z1, z2, z3⟩ := H_z.out
  go_wp2_with fail
  clear f1 f2 f3 d1 d2 d3 z1 z2 z3
  refine (fadd_v zero_ab (by omega) hx hy HS.out _).mono ?_
  rintro e w29 ⟨rfl, B29⟩
  replace H_f := Lib.hid (H_f.out.below B29)
  replace H_d := Lib.hid (H_d.out.below B29)
  replace H_z := Lib.hid (H_z.out.below B29)
  replace hT := hT.below B29
  replace hW := hW.trans (B29.mono hW.size)
  clear B29
  obtain ⟨f1, f2, f3⟩ := H_f.out
  obtain ⟨d1, d2, d3⟩ := H_d.out
  obtain ⟨z1, z2, z3⟩ := H_z.out
  go_wp2_with fail
  clear f1 f2 f3 d1 d2 d3 z1 z2 z3
  refine (fp_v zero_ab (by omega) _).mono ?_
  rintro e w30 ⟨rfl, B30⟩
  replace H_f := Lib.hid (H_f.out.below B30)
  replace H_d := Lib.hid (H_d.out.below B30)
  replace H_z := Lib.hid (H_z.out.below B30)
  replace hT := hT.below B30
  replace hW := hW.trans (B30.mono hW.size)
  clear B30
  obtain ⟨f1, f2, f3⟩ := H_f.out
  obtain ⟨d1, d2, d3⟩ := H_d.out
  obtain ⟨z1, z2, z3⟩ := H_z.out
  go_wp2_with fail
  clear f1 f2 f3 d1 d2 d3 z1 z2 z3
  exact bodyPost_ret (v := .bool true) (by simp [results, Tryd.results7, go_sem]) rfl ⟨rfl, hW⟩
theorem new_calls {q x y : Nat} {w : World} (hq : q < 4294967296) (hx : x < 18446744073709551616) (hy : y < 18446744073709551616) (hT : TabHas w) :
    Calls Tryd.prog 7 #[.int .u32 (q : Int), .int .u64 (x : Int), .int .u64 (y : Int)] w (fun e w' => e = .returned (.bool true) ∧ Below w.heap.size w w') := by
  by_cases hpr : MR.Pr (q % 100000)
  · exact new_some hx hy hT hpr
  · exact new_none hx hy hT hpr
end Go.Proofs.YtfdgblmegiehnaaDoor
