/-
  The walk of MulRules.
-/
import Derived.Test.YthpohkklggabpaaSame
namespace Go.Proofs.Ythpohkklggabpaa
open Go.RowKit
set_option linter.unusedVariables false

set_option maxHeartbeats 400000 in
theorem mrules_calls (A : Option Addr) (n c : Nat) (x k l : Nat) (w : World) (ha : Nv w A n c x) (hn : n ≤ 9223372036854775807) (hk : k ≤ 255) (hl : l ≤ 255) :
    Calls Try.prog 7 #[.slice A n c, .int .u8 k, .int .u8 l] w (TruePost w) := by
  have hW := Below.refl w.heap.size w
  by_cases h1 : (n : Int) ≤ 3
  · obtain ⟨q1, hq1⟩ : ∃ q : Nat, (k : Int) % 30 = (q : Int) := ⟨k % 30, by omega⟩
    obtain ⟨q2, hq2⟩ : ∃ q : Nat, (l : Int) % 30 = (q : Int) := ⟨l % 30, by omega⟩
    obtain ⟨q3, hq3⟩ : ∃ q : Nat, (q1 : Int) + (q2 : Int) = (q : Int) := ⟨q1 + q2, by omega⟩
    have r1 : q1 ≤ 29 := by omega
    have r2 : q2 ≤ 29 := by omega
    have r3 : q3 ≤ 58 := by omega
    have r4 : q3 = q1 + q2 := by omega
    have R4 := Lib.hid r4
    clear r4
    have v1 : n * q1 ≤ 87 := Nat.mul_le_mul (by omega : n ≤ 3) r1
    have v2 : n * q2 ≤ 87 := Nat.mul_le_mul (by omega : n ≤ 3) r2
    have v3 : n * q3 ≤ 174 := Nat.mul_le_mul (by omega : n ≤ 3) r3
    have V1 := Lib.hid v1
    have V2 := Lib.hid v2
    have V3 := Lib.hid v3
    clear v1 v2 v3
    go_enter Try.func7, Try.ntmps7
    go_wp2_with fail
    refine (mawake_calls _).mono ?_
    rintro e w1 ⟨rfl, B1⟩
    replace ha := ha.below B1
    replace hW := hW.trans (B1.mono hW.size)
    go_wp2_with fail
    refine (powc_v (k := q1) (K := 87) ha (by omega) (by omega) (above_words ha 3 29 (by omega) r1 (by omega)) V1.out).mono ?_
    rintro e w2 ⟨A2, n2, c2, rfl, p2, k2, B2⟩
    replace ha := ha.below B2
    replace hW := hW.trans (B2.mono hW.size)
    go_wp2_with fail
    refine (powc_v (k := q2) (K := 87) ha (by omega) (by omega) (above_words ha 3 29 (by omega) r2 (by omega)) V2.out).mono ?_
    rintro e w3 ⟨A3, n3, c3, rfl, p3, k3, B3⟩
    replace ha := ha.below B3
    replace p2 := p2.below B3
    replace hW := hW.trans (B3.mono hW.size)
    go_wp2_with fail
    refine (powc_v (k := q3) (K := 174) ha (by omega) (by omega) (above_words ha 3 58 (by omega) r3 (by omega)) V3.out).mono ?_
    rintro e w4 ⟨A4, n4, c4, rfl, p4, k4, B4⟩
    replace p2 := p2.below B4
    replace p3 := p3.below B4
    replace hW := hW.trans (B4.mono hW.size)
    go_wp2_with fail
    refine (mmulc_v p2.nv p3.nv (by omega) (by omega)).mono ?_
    rintro e w5 ⟨A5, n5, c5, rfl, p5, k5, B5⟩
    replace p4 := p4.below B5
    replace hW := hW.trans (B5.mono hW.size)
    go_wp2_with fail
    refine (cmp_same_v p5.nv p4.nv (by rw [R4.out, Nat.pow_add])).mono ?_
    rintro e w6 ⟨rfl, B6⟩
    replace hW := hW.trans (B6.mono hW.size)
    go_wp2
    go_ret
    exact ⟨rfl, hW⟩
  · go_enter Try.func7, Try.ntmps7
    go_wp2_with fail
    refine (mawake_calls _).mono ?_
    rintro e w1 ⟨rfl, B1⟩
    replace hW := hW.trans (B1.mono hW.size)
    go_wp2_with fail
    refine (mawake_calls _).mono ?_
    rintro e w2 ⟨rfl, B2⟩
    replace hW := hW.trans (B2.mono hW.size)
    go_wp2
    go_ret
    exact ⟨rfl, hW⟩
end Go.Proofs.Ythpohkklggabpaa
