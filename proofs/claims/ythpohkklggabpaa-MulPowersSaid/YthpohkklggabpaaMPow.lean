/-
  The walk of MulPowers.
-/
import Derived.Test.YthpohkklggabpaaRPow
import Derived.WalkSpells
namespace Go.Proofs.Ythpohkklggabpaa
open Go.RowKit
set_option linter.unusedVariables false

set_option maxHeartbeats 400000 in
theorem mpow_long (A : Option Addr) (n c : Nat) (k : Int) (w : World) (h1 : ¬ (n : Int) ≤ 4) (hn : n ≤ 9223372036854775807) :
    Calls Try.prog 5 #[.slice A n c, .int .i64 k] w (TruePost w) := by
  have hW := Below.refl w.heap.size w
  go_enter Try.func5, Try.ntmps5
  go_wp2_with fail
  refine (mawake_calls _).mono ?_
  rintro e w1 ⟨rfl, B1⟩
  replace hW := hW.trans (B1.mono hW.size)
  go_wp2_with fail
  refine (mawake_calls _).mono ?_
  rintro e w2 ⟨rfl, B2⟩
  replace hW := hW.trans (B2.mono hW.size)
  go_wp2
  go_ret
  exact ⟨rfl, hW⟩
set_option maxHeartbeats 400000 in
theorem mpow_neg (A : Option Addr) (n c x b : Nat) (k : Int) (w : World) (ha : Nv w A n c x) (HB : Hid (bl x = b)) (h1 : (n : Int) ≤ 4) (hk : k < 0) :
    Calls Try.prog 5 #[.slice A n c, .int .i64 k] w (TruePost w) := by
  have hW := Below.refl w.heap.size w
  have hneg : decide (0 ≤ k) = false := by simp; omega
  go_enter Try.func5, Try.ntmps5
  go_wp2_with fail
  refine (mawake_calls _).mono ?_
  rintro e w1 ⟨rfl, B1⟩
  replace ha := ha.below B1
  replace hW := hW.trans (B1.mono hW.size)
  go_wp2_with fail
  refine (from_v ha (by omega)).mono ?_
  rintro e w2 ⟨A2, n2, c2, rfl, dx, k2, B2⟩
  replace ha := ha.below B2
  replace hW := hW.trans (B2.mono hW.size)
  go_wp2_with fail
  refine (rbits_v dx (by omega)).mono ?_
  rintro e w3 ⟨rfl, B3⟩
  rw [HB.out]
  replace ha := ha.below B3
  replace dx := dx.below B3
  replace hW := hW.trans (B3.mono hW.size)
  go_wp2_with fail
  refine (pow_neg hk).mono ?_
  rintro e w4 ⟨rfl, rfl⟩
  go_wp2
  go_ret
  exact ⟨rfl, hW⟩
set_option maxHeartbeats 400000 in
theorem mpow_above (A : Option Addr) (n c x b k : Nat) (w : World) (ha : Nv w A n c x) (HB : Hid (bl x = b)) (h1 : (n : Int) ≤ 4) (hk : k ≤ 9223372036854775807) (HA : Hid (aboveB b k = true)) (hb0 : 0 < b) (hbk : 1048576 / b < k) :
    Calls Try.prog 5 #[.slice A n c, .int .i64 k] w (TruePost w) := by
  have hW := Below.refl w.heap.size w
  have b64 : b ≤ 256 := by
    have := bl_words ha.lt
    rw [HB.out] at this
    omega
  have hneg : decide (0 ≤ (k : Int)) = true := by simp
  have h0 : (((b : Nat) : Int) == 0) = false := by rw [beq_eq_false_iff_ne]; omega
  have hq : decide ((k : Int) ≤ 1048576 / (b : Int)) = false := by
    have e : ((1048576 : Int) / (b : Int)) = ((1048576 / b : Nat) : Int) := by simp
    rw [e]
    simp only [decide_eq_false_iff_not]
    omega
  go_enter Try.func5, Try.ntmps5
  go_wp2_with fail
  refine (mawake_calls _).mono ?_
  rintro e w1 ⟨rfl, B1⟩
  replace ha := ha.below B1
  replace hW := hW.trans (B1.mono hW.size)
  go_wp2_with fail
  refine (from_v ha (by omega)).mono ?_
  rintro e w2 ⟨A2, n2, c2, rfl, dx, k2, B2⟩
  replace ha := ha.below B2
  replace hW := hW.trans (B2.mono hW.size)
  go_wp2_with fail
  refine (rbits_v dx (by omega)).mono ?_
  rintro e w3 ⟨rfl, B3⟩
  rw [HB.out]
  replace ha := ha.below B3
  replace dx := dx.below B3
  replace hW := hW.trans (B3.mono hW.size)
  go_wp2_with fail
  refine (pow_above ha (by omega) hk (by rw [HB.out]; exact HA.out)).mono ?_
  rintro e w4 ⟨rfl, rfl⟩
  go_wp2
  go_ret
  exact ⟨rfl, hW⟩
set_option maxHeartbeats 400000 in
theorem mpow_yes_zero_great_one (A : Option Addr) (n c x b k : Nat) (w : World) (ha : Nv w A n c x) (HB : Hid (bl x = b)) (h1 : (n : Int) ≤ 4) (hk : k ≤ 9223372036854775807) (HA : Hid (aboveB b k = false)) (hb0 : b = 0) (hk20 : 20 < k) :
    Calls Try.prog 5 #[.slice A n c, .int .i64 k] w (TruePost w) := by
  have hW := Below.refl w.heap.size w
  have b64 : b ≤ 256 := by
    have := bl_words ha.lt
    rw [HB.out] at this
    omega
  have hneg : decide (0 ≤ (k : Int)) = true := by simp
  have h0 : (((b : Nat) : Int) == 0) = true := by rw [beq_iff_eq]; omega
  have HZ := Lib.hid hb0
  clear hb0
  have hg : decide ((20 : Int) < (k : Int)) = true := by simp; omega
  have hs : decide ((1 : Int) < (b : Int)) = false := by simp; have := HZ.out; omega
  have hxx : x ^ k = x := pow_small (bl_two (by rw [HB.out]; have := HZ.out; omega)) (by omega)
  have HXX := Lib.hid hxx
  clear hxx
  go_enter Try.func5, Try.ntmps5
  go_wp2_with fail
  refine (mawake_calls _).mono ?_
  rintro e w1 ⟨rfl, B1⟩
  replace ha := ha.below B1
  replace hW := hW.trans (B1.mono hW.size)
  go_wp2_with fail
  refine (from_v ha (by omega)).mono ?_
  rintro e w2 ⟨A2, n2, c2, rfl, dx, k2, B2⟩
  replace ha := ha.below B2
  replace hW := hW.trans (B2.mono hW.size)
  go_wp2_with fail
  refine (rbits_v dx (by omega)).mono ?_
  rintro e w3 ⟨rfl, B3⟩
  rw [HB.out]
  replace ha := ha.below B3
  replace dx := dx.below B3
  replace hW := hW.trans (B3.mono hW.size)
  go_wp2_with fail
  refine (powd_v ha (by omega) hk (by rw [HB.out]; exact HA.out)).mono ?_
  rintro e w4 ⟨A4, n4, c4, rfl, pp, B4⟩
  replace ha := ha.below B4
  replace dx := dx.below B4
  replace hW := hW.trans (B4.mono hW.size)
  go_wp2_with fail
  refine (is_v pp dx (by omega) HXX.out.symm).mono ?_
  rintro e w5 ⟨rfl, B5⟩
  replace ha := ha.below B5
  replace dx := dx.below B5
  replace pp := pp.below B5
  replace hW := hW.trans (B5.mono hW.size)
  go_wp2
  go_ret
  exact ⟨rfl, hW⟩
set_option maxHeartbeats 400000 in
theorem mpow_yes_zero_small (A : Option Addr) (n c x b k : Nat) (w : World) (ha : Nv w A n c x) (HB : Hid (bl x = b)) (h1 : (n : Int) ≤ 4) (hk : k ≤ 9223372036854775807) (HA : Hid (aboveB b k = false)) (hb0 : b = 0) (hk20 : k ≤ 20) :
    Calls Try.prog 5 #[.slice A n c, .int .i64 k] w (TruePost w) := by
  have hW := Below.refl w.heap.size w
  have b64 : b ≤ 256 := by
    have := bl_words ha.lt
    rw [HB.out] at this
    omega
  have hneg : decide (0 ≤ (k : Int)) = true := by simp
  have h0 : (((b : Nat) : Int) == 0) = true := by rw [beq_iff_eq]; omega
  have HZ := Lib.hid hb0
  clear hb0
  have hg : decide ((20 : Int) < (k : Int)) = false := by simp; omega
  go_enter Try.func5, Try.ntmps5
  go_wp2_with fail
  refine (mawake_calls _).mono ?_
  rintro e w1 ⟨rfl, B1⟩
  replace ha := ha.below B1
  replace hW := hW.trans (B1.mono hW.size)
  go_wp2_with fail
  refine (from_v ha (by omega)).mono ?_
  rintro e w2 ⟨A2, n2, c2, rfl, dx, k2, B2⟩
  replace ha := ha.below B2
  replace hW := hW.trans (B2.mono hW.size)
  go_wp2_with fail
  refine (rbits_v dx (by omega)).mono ?_
  rintro e w3 ⟨rfl, B3⟩
  rw [HB.out]
  replace ha := ha.below B3
  replace dx := dx.below B3
  replace hW := hW.trans (B3.mono hW.size)
  go_wp2_with fail
  refine (powd_v ha (by omega) hk (by rw [HB.out]; exact HA.out)).mono ?_
  rintro e w4 ⟨A4, n4, c4, rfl, pp, B4⟩
  replace ha := ha.below B4
  replace dx := dx.below B4
  replace hW := hW.trans (B4.mono hW.size)
  go_wp2_with fail
  refine (rpow_v dx (by omega) (by omega)).mono ?_
  rintro e w5 ⟨A5, n5, c5, rfl, rr, k5, B5⟩
  replace ha := ha.below B5
  replace dx := dx.below B5
  replace pp := pp.below B5
  replace hW := hW.trans (B5.mono hW.size)
  go_wp2_with fail
  refine (is_v pp rr (by have := Nat.mul_le_mul (by omega : n2 ≤ 16) hk20; omega) rfl).mono ?_
  rintro e w6 ⟨rfl, B6⟩
  replace ha := ha.below B6
  replace dx := dx.below B6
  replace pp := pp.below B6
  replace rr := rr.below B6
  replace hW := hW.trans (B6.mono hW.size)
  go_wp2
  go_ret
  exact ⟨rfl, hW⟩
set_option maxHeartbeats 400000 in
theorem mpow_yes_pos_great_one (A : Option Addr) (n c x b k : Nat) (w : World) (ha : Nv w A n c x) (HB : Hid (bl x = b)) (h1 : (n : Int) ≤ 4) (hk : k ≤ 9223372036854775807) (HA : Hid (aboveB b k = false)) (hb0 : 0 < b) (hbk : k ≤ 1048576 / b) (hk20 : 20 < k) (hb1 : b ≤ 1) :
    Calls Try.prog 5 #[.slice A n c, .int .i64 k] w (TruePost w) := by
  have hW := Below.refl w.heap.size w
  have b64 : b ≤ 256 := by
    have := bl_words ha.lt
    rw [HB.out] at this
    omega
  have hneg : decide (0 ≤ (k : Int)) = true := by simp
  have h0 : (((b : Nat) : Int) == 0) = false := by rw [beq_eq_false_iff_ne]; omega
  have hq : decide ((k : Int) ≤ 1048576 / (b : Int)) = true := by
    have e : ((1048576 : Int) / (b : Int)) = ((1048576 / b : Nat) : Int) := by simp
    rw [e]
    simp only [decide_eq_true_eq]
    omega
  have hg : decide ((20 : Int) < (k : Int)) = true := by simp; omega
  have hs : decide ((1 : Int) < (b : Int)) = false := by simp; have := hb1; omega
  have hxx : x ^ k = x := pow_small (bl_two (by rw [HB.out]; omega)) (by omega)
  have HXX := Lib.hid hxx
  clear hxx
  go_enter Try.func5, Try.ntmps5
  go_wp2_with fail
  refine (mawake_calls _).mono ?_
  rintro e w1 ⟨rfl, B1⟩
  replace ha := ha.below B1
  replace hW := hW.trans (B1.mono hW.size)
  go_wp2_with fail
  refine (from_v ha (by omega)).mono ?_
  rintro e w2 ⟨A2, n2, c2, rfl, dx, k2, B2⟩
  replace ha := ha.below B2
  replace hW := hW.trans (B2.mono hW.size)
  go_wp2_with fail
  refine (rbits_v dx (by omega)).mono ?_
  rintro e w3 ⟨rfl, B3⟩
  rw [HB.out]
  replace ha := ha.below B3
  replace dx := dx.below B3
  replace hW := hW.trans (B3.mono hW.size)
  go_wp2_with fail
  refine (powd_v ha (by omega) hk (by rw [HB.out]; exact HA.out)).mono ?_
  rintro e w4 ⟨A4, n4, c4, rfl, pp, B4⟩
  replace ha := ha.below B4
  replace dx := dx.below B4
  replace hW := hW.trans (B4.mono hW.size)
  go_wp2_with fail
  refine (is_v pp dx (by omega) HXX.out.symm).mono ?_
  rintro e w5 ⟨rfl, B5⟩
  replace ha := ha.below B5
  replace dx := dx.below B5
  replace pp := pp.below B5
  replace hW := hW.trans (B5.mono hW.size)
  go_wp2
  go_ret
  exact ⟨rfl, hW⟩
set_option maxHeartbeats 400000 in
theorem mpow_yes_pos_great_more (A : Option Addr) (n c x b k : Nat) (w : World) (ha : Nv w A n c x) (HB : Hid (bl x = b)) (h1 : (n : Int) ≤ 4) (hk : k ≤ 9223372036854775807) (HA : Hid (aboveB b k = false)) (hb0 : 0 < b) (hbk : k ≤ 1048576 / b) (hk20 : 20 < k) (hb1 : 1 < b) :
    Calls Try.prog 5 #[.slice A n c, .int .i64 k] w (TruePost w) := by
  have hW := Below.refl w.heap.size w
  have b64 : b ≤ 256 := by
    have := bl_words ha.lt
    rw [HB.out] at this
    omega
  have hneg : decide (0 ≤ (k : Int)) = true := by simp
  have h0 : (((b : Nat) : Int) == 0) = false := by rw [beq_eq_false_iff_ne]; omega
  have hq : decide ((k : Int) ≤ 1048576 / (b : Int)) = true := by
    have e : ((1048576 : Int) / (b : Int)) = ((1048576 / b : Nat) : Int) := by simp
    rw [e]
    simp only [decide_eq_true_eq]
    omega
  have hg : decide ((20 : Int) < (k : Int)) = true := by simp; omega
  have hs : decide ((1 : Int) < (b : Int)) = true := by simp; omega
  go_enter Try.func5, Try.ntmps5
  go_wp2_with fail
  refine (mawake_calls _).mono ?_
  rintro e w1 ⟨rfl, B1⟩
  replace ha := ha.below B1
  replace hW := hW.trans (B1.mono hW.size)
  go_wp2_with fail
  refine (from_v ha (by omega)).mono ?_
  rintro e w2 ⟨A2, n2, c2, rfl, dx, k2, B2⟩
  replace ha := ha.below B2
  replace hW := hW.trans (B2.mono hW.size)
  go_wp2_with fail
  refine (rbits_v dx (by omega)).mono ?_
  rintro e w3 ⟨rfl, B3⟩
  rw [HB.out]
  replace ha := ha.below B3
  replace dx := dx.below B3
  replace hW := hW.trans (B3.mono hW.size)
  go_wp2_with fail
  refine (powd_v ha (by omega) hk (by rw [HB.out]; exact HA.out)).mono ?_
  rintro e w4 ⟨A4, n4, c4, rfl, pp, B4⟩
  replace ha := ha.below B4
  replace dx := dx.below B4
  replace hW := hW.trans (B4.mono hW.size)
  go_wp2
  go_ret
  exact ⟨rfl, hW⟩
set_option maxHeartbeats 400000 in
theorem mpow_yes_pos_small (A : Option Addr) (n c x b k : Nat) (w : World) (ha : Nv w A n c x) (HB : Hid (bl x = b)) (h1 : (n : Int) ≤ 4) (hk : k ≤ 9223372036854775807) (HA : Hid (aboveB b k = false)) (hb0 : 0 < b) (hbk : k ≤ 1048576 / b) (hk20 : k ≤ 20) :
    Calls Try.prog 5 #[.slice A n c, .int .i64 k] w (TruePost w) := by
  have hW := Below.refl w.heap.size w
  have b64 : b ≤ 256 := by
    have := bl_words ha.lt
    rw [HB.out] at this
    omega
  have hneg : decide (0 ≤ (k : Int)) = true := by simp
  have h0 : (((b : Nat) : Int) == 0) = false := by rw [beq_eq_false_iff_ne]; omega
  have hq : decide ((k : Int) ≤ 1048576 / (b : Int)) = true := by
    have e : ((1048576 : Int) / (b : Int)) = ((1048576 / b : Nat) : Int) := by simp
    rw [e]
    simp only [decide_eq_true_eq]
    omega
  have hg : decide ((20 : Int) < (k : Int)) = false := by simp; omega
  go_enter Try.func5, Try.ntmps5
  go_wp2_with fail
  refine (mawake_calls _).mono ?_
  rintro e w1 ⟨rfl, B1⟩
  replace ha := ha.below B1
  replace hW := hW.trans (B1.mono hW.size)
  go_wp2_with fail
  refine (from_v ha (by omega)).mono ?_
  rintro e w2 ⟨A2, n2, c2, rfl, dx, k2, B2⟩
  replace ha := ha.below B2
  replace hW := hW.trans (B2.mono hW.size)
  go_wp2_with fail
  refine (rbits_v dx (by omega)).mono ?_
  rintro e w3 ⟨rfl, B3⟩
  rw [HB.out]
  replace ha := ha.below B3
  replace dx := dx.below B3
  replace hW := hW.trans (B3.mono hW.size)
  go_wp2_with fail
  refine (powd_v ha (by omega) hk (by rw [HB.out]; exact HA.out)).mono ?_
  rintro e w4 ⟨A4, n4, c4, rfl, pp, B4⟩
  replace ha := ha.below B4
  replace dx := dx.below B4
  replace hW := hW.trans (B4.mono hW.size)
  go_wp2_with fail
  refine (rpow_v dx (by omega) (by omega)).mono ?_
  rintro e w5 ⟨A5, n5, c5, rfl, rr, k5, B5⟩
  replace ha := ha.below B5
  replace dx := dx.below B5
  replace pp := pp.below B5
  replace hW := hW.trans (B5.mono hW.size)
  go_wp2_with fail
  refine (is_v pp rr (by have := Nat.mul_le_mul (by omega : n2 ≤ 16) hk20; omega) rfl).mono ?_
  rintro e w6 ⟨rfl, B6⟩
  replace ha := ha.below B6
  replace dx := dx.below B6
  replace pp := pp.below B6
  replace rr := rr.below B6
  replace hW := hW.trans (B6.mono hW.size)
  go_wp2
  go_ret
  exact ⟨rfl, hW⟩
theorem mpow_calls (A : Option Addr) (n c x : Nat) (k : Int) (w : World) (ha : Nv w A n c x) (hn : n ≤ 9223372036854775807) (hk : k ≤ 9223372036854775807) :
    Calls Try.prog 5 #[.slice A n c, .int .i64 k] w (TruePost w) := by
  by_cases h1 : (n : Int) ≤ 4
  · rcases Int.lt_or_le k 0 with h2 | h2
    · exact mpow_neg A n c x _ k w ha rfl h1 h2
    · obtain ⟨k, rfl⟩ := Int.eq_ofNat_of_zero_le h2
      have hk' : k ≤ 9223372036854775807 := by omega
      rcases Nat.eq_zero_or_pos (bl x) with h0 | h0
      · have hA : aboveB (bl x) k = false := by unfold aboveB; rw [h0]; simp
        by_cases h3 : k ≤ 20
        · exact mpow_yes_zero_small A n c x _ k w ha rfl h1 hk' hA h0 h3
        · exact mpow_yes_zero_great_one A n c x _ k w ha rfl h1 hk' hA h0 (by omega)
      · by_cases h4 : k ≤ 1048576 / bl x
        · have hA : aboveB (bl x) k = false := by unfold aboveB; simp only [decide_eq_false_iff_not]; omega
          by_cases h3 : k ≤ 20
          · exact mpow_yes_pos_small A n c x _ k w ha rfl h1 hk' hA h0 h4 h3
          · by_cases h5 : bl x ≤ 1
            · exact mpow_yes_pos_great_one A n c x _ k w ha rfl h1 hk' hA h0 h4 (by omega) h5
            · exact mpow_yes_pos_great_more A n c x _ k w ha rfl h1 hk' hA h0 h4 (by omega) (by omega)
        · have hA : aboveB (bl x) k = true := by unfold aboveB; simp only [decide_eq_true_eq]; omega
          exact mpow_above A n c x _ k w ha rfl h1 hk' hA h0 (by omega)
  · exact mpow_long A n c k w h1 hn
end Go.Proofs.Ythpohkklggabpaa
