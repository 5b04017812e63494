/-
  quincunxlaw06.ModCrt: its walk, where the lists are of two lengths, or long.
-/
import Derived.Test.YtbcopicoldnahaaGreatG4a
import Derived.RegionTactic
import Derived.Deep.RegionHeld3
import Derived.Deep.LoopGhost
/-! quincunxlaw06.ModCrt: its walk, where the lists are of two lengths, or long. -/
namespace Go.Proofs.YtbcopicoldnahaaGreat
open Go.RowKit
set_option linter.unusedVariables false
set_option linter.unusedSimpArgs false

set_option maxRecDepth 100000 in
set_option maxHeartbeats 4000000 in
theorem glaw_shape {A B : Option Addr} {n n' c c' : Nat} {w : World} (h6 : n ≤ 6) (h6' : n' ≤ 6) (hne : n ≠ n') :
    Calls Tryz.prog 3 #[.slice A n c, .slice B n' c'] w (TruePost w) := by
  have hneq : (((n : Nat) : Int) == ((n' : Nat) : Int)) = false := by rw [beq_eq_false_iff_ne]; omega
  go_enter Tryz.func3, Tryz.ntmps3
  go_wp2_with fail
  refine (mawake_calls w).mono ?_
  rintro e w1 ⟨rfl, B1⟩
  go_wp2_with fail
  refine (ccrt_shape hne).mono ?_
  rintro e w2 ⟨rfl, B2⟩
  obtain ⟨w3, hw3, I1, I2, z3⟩ := opent2 w2 false false none none 0 0 0 0 27 27
  have HW3 := Lib.hid hw3.symm
  have B123 := zup B1 (zup B2 z3)
  clear B1 B2 z3 hw3
  go_wp2_with fail
  rw [HW3.out]
  refine (zsign_v (Zc.none0 _).zv (by omega) (r := 0) rfl).mono ?_
  rintro e w5 ⟨rfl, B5⟩
  obtain ⟨i1, i2, i3, i4, i5⟩ := I1.below B5
  obtain ⟨j1, j2, j3, j4, j5⟩ := I2.below B5
  have B4 := B123.trans (B5.mono B123.size)
  clear B5 I1 I2 B123
  go_wp2_with fail
  refine (zsign_v (Zc.none0 _).zv (by omega) (r := 0) rfl).mono ?_
  rintro e w6 ⟨rfl, B6⟩
  have P : Hid (TruePost w (.returned (.bool true)) w6) := Lib.hid ⟨rfl, B4.trans (B6.mono B4.size)⟩
  go_wp2
  go_ret
  exact P.out
set_option maxRecDepth 100000 in
set_option maxHeartbeats 4000000 in
theorem glaw_big {A B : Option Addr} {n n' c c' : Nat} {w : World} (h6 : 6 < n ∨ 6 < n') :
    Calls Tryz.prog 3 #[.slice A n c, .slice B n' c'] w (TruePost w) := by
  by_cases h1 : 6 < n
  · go_enter Tryz.func3, Tryz.ntmps3
    go_wp2_with fail
    refine (mawake_calls w).mono ?_
    rintro e w1 ⟨rfl, B1⟩
    go_wp2_with fail
    refine (mawake_calls w1).mono ?_
    rintro e w2 ⟨rfl, B2⟩
    have P : Hid (TruePost w (.returned (.bool true)) w2) := Lib.hid ⟨rfl, zup B1 B2⟩
    go_wp2
    go_ret
    exact P.out
  · have h2 : 6 < n' := by omega
    go_enter Tryz.func3, Tryz.ntmps3
    go_wp2_with fail
    refine (mawake_calls w).mono ?_
    rintro e w1 ⟨rfl, B1⟩
    go_wp2_with fail
    refine (mawake_calls w1).mono ?_
    rintro e w2 ⟨rfl, B2⟩
    have P : Hid (TruePost w (.returned (.bool true)) w2) := Lib.hid ⟨rfl, zup B1 B2⟩
    go_wp2
    go_ret
    exact P.out
end Go.Proofs.YtbcopicoldnahaaGreat
