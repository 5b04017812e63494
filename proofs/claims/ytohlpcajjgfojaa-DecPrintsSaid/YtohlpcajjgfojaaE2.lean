/-
  The walk of DecBack.
-/
import Derived.Test.YtohlpcajjgfojaaE1
/-! The walk of DecBack. -/
namespace Go.Proofs.Ytohlpcajjgfojaa
open Go.RowKit
set_option linter.unusedVariables false
theorem ten_words (K : Nat) : (10 : Nat) ^ (19 * K) ≤ 18446744073709551616 ^ K := by
  rw [Nat.pow_mul]; exact Nat.pow_le_pow_left (by omega) _
theorem words_ten (K : Nat) : (18446744073709551616 : Nat) ^ K ≤ 10 ^ (20 * K) := by
  rw [Nat.pow_mul]; exact Nat.pow_le_pow_left (by omega) _
theorem cv_ten {w : World} {A : Option Addr} {n c v k K : Nat} (h : Cv w A n c v) (hv : v < 10 ^ k) (hK : k ≤ 19 * K) : n ≤ K := by
  rw [← h.2.1]
  exact cn_len_of_lt _ _ _ (by omega) (Nat.lt_of_lt_of_le hv (Nat.le_trans (ten_le hK) (ten_words K)))
theorem nv_digits {w : World} {A : Option Addr} {n c v : Nat} (h : Nv w A n c v) (hn : n ≤ 900) : nd v ≤ 20000 := by
  have h1 := h.lt
  exact Nat.le_trans (nd_le (k := 20 * n + 1) (by omega) (Nat.lt_of_lt_of_le h1 (Nat.le_trans (words_ten n) (ten_le (by omega))))) (by omega)
theorem num_str {v : Nat} (h : nd v ≤ 20000) : Num (bys (str (dgs v))) := by rw [bys_str (dig_dgs v).low]; exact num_dgs h
theorem hv_str (v : Nat) : hv (bys (str (dgs v))) = v := by rw [bys_str (dig_dgs v).low, hv_dgs]
theorem str_hv {s : ByteArray} (h : Num (bys s)) : str (dgs (hv (bys s))) = s := by rw [dgs_hv h, str_bys]

set_option maxHeartbeats 1000000 in
theorem decback_calls (A : Option Addr) (n c v : Nat) (s : ByteArray) (w : World) (ha : Nv w A n c v) (hn : n ≤ 9223372036854775807) (hs : s.size ≤ 9223372036854775807) :
    Calls Try.prog 5 #[.slice A n c, .string s] w (TruePost w) := by
  have hW := Below.refl w.heap.size w
  by_cases h1 : (n : Int) ≤ 100
  · by_cases h2 : (s.size : Int) ≤ 2000
    · have hnd := nv_digits ha (by omega)
      have HN1 := Lib.hid (num_str hnd)
      have HV1 := Lib.hid (hv_str v)
      obtain ⟨s1, hs1⟩ : ∃ s1, str (dgs v) = s1 := ⟨_, rfl⟩
      rw [hs1] at HN1 HV1
      have HS1 := Lib.hid hs1
      clear hnd hs1
      by_cases hN : Num (bys s)
      all_goals
        have HN := Lib.hid hN
        clear hN
        go_enter Try.func5, Try.ntmps5
        go_wp2_with fail
        refine (wawake_calls _).mono ?_
        rintro e w1 ⟨rfl, B1⟩
        replace ha := ha.below B1
        replace hW := hW.trans (B1.mono hW.size)
        go_wp2_with fail
        refine (print_calls ha (by omega)).mono ?_
        rintro e w2 ⟨rfl, B2⟩
        rw [HS1.out]
        replace ha := ha.below B2
        replace hW := hW.trans (B2.mono hW.size)
        go_wp2_with fail
        refine (parse_yes s1 HN1.out _).mono ?_
        rw [HV1.out]
        rintro e w3 ⟨A3, n3, c3, rfl, p3, k3, B3⟩
        replace ha := ha.below B3
        replace hW := hW.trans (B3.mono hW.size)
        go_wp2_with fail
      · obtain ⟨u, hu⟩ : ∃ u, hv (bys s) = u := ⟨_, rfl⟩
        have hlt : u < 10 ^ s.size := by rw [← hu, ← bys_length]; exact hv_lt HN.out.2.2.2
        have hE : str (dgs u) = s := by rw [← hu]; exact str_hv HN.out
        have HU := Lib.hid hu
        have HL : ∀ (w : World) (A : Option Addr) (n c : Nat), Cv w A n c u → n ≤ 106 := fun _ _ _ _ h => cv_ten h hlt (by omega)
        have HE := Lib.hid hE
        have HLT := Lib.hid HL
        clear hu hlt hE HL
        refine (parse_yes s HN.out _).mono ?_
        rw [HU.out]
        rintro e w4 ⟨A4, n4, c4, rfl, p4, k4, B4⟩
        have hn4 : n4 ≤ 106 := HLT.out _ _ _ _ p4
        replace ha := ha.below B4
        replace p3 := p3.below B4
        replace hW := hW.trans (B4.mono hW.size)
        go_wp2_with fail
        refine (normc_v ha (by omega)).mono ?_
        rintro e w5 ⟨A5, n5, c5, rfl, p5, k5, B5⟩
        replace p3 := p3.below B5
        replace p4 := p4.below B5
        replace hW := hW.trans (B5.mono hW.size)
        clear ha
        go_wp2_with fail
        refine (same_v p3 p5 rfl).mono ?_
        rintro e w6 ⟨rfl, B6⟩
        replace p4 := p4.below B6
        replace hW := hW.trans (B6.mono hW.size)
        clear p3 p5
        go_wp2_with fail
        refine (print_calls p4.nv (by omega)).mono ?_
        rintro e w7 ⟨rfl, B7⟩
        rw [HE.out]
        replace hW := hW.trans (B7.mono hW.size)
        clear p4
        go_wp2
        go_ret
        exact ⟨rfl, hW⟩
      · refine (parse_no s HN.out _).mono ?_
        rintro e w4 ⟨rfl, rfl⟩
        go_wp2_with fail
        refine (normc_v ha (by omega)).mono ?_
        rintro e w5 ⟨A5, n5, c5, rfl, p5, k5, B5⟩
        replace p3 := p3.below B5
        replace hW := hW.trans (B5.mono hW.size)
        clear ha
        go_wp2_with fail
        refine (same_v p3 p5 rfl).mono ?_
        rintro e w6 ⟨rfl, B6⟩
        replace hW := hW.trans (B6.mono hW.size)
        clear p3 p5
        go_wp2
        go_ret
        exact ⟨rfl, hW⟩
    · go_enter Try.func5, Try.ntmps5
      go_wp2_with fail
      refine (wawake_calls _).mono ?_
      rintro e w1 ⟨rfl, B1⟩
      replace hW := hW.trans (B1.mono hW.size)
      go_wp2_with fail
      refine (wawake_calls _).mono ?_
      rintro e w2 ⟨rfl, B2⟩
      replace hW := hW.trans (B2.mono hW.size)
      go_wp2
      go_ret
      exact ⟨rfl, hW⟩
  · go_enter Try.func5, Try.ntmps5
    go_wp2_with fail
    refine (wawake_calls _).mono ?_
    rintro e w1 ⟨rfl, B1⟩
    replace hW := hW.trans (B1.mono hW.size)
    go_wp2_with fail
    refine (wawake_calls _).mono ?_
    rintro e w2 ⟨rfl, B2⟩
    replace hW := hW.trans (B2.mono hW.size)
    go_wp2
    go_ret
    exact ⟨rfl, hW⟩
end Go.Proofs.Ytohlpcajjgfojaa
