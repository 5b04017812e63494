/-
  The walk of DecParses.
-/
import Derived.Test.YtohlpcajjgfojaaRefD
/-! The walk of DecParses. -/
namespace Go.Proofs.Ytohlpcajjgfojaa
open Go.RowKit
set_option linter.unusedVariables false
theorem toc_v {A : Option Addr} {n c x : Nat} {w : World} (hx : Dv w A n c x) (hn : n ≤ 4398046511101) :
    Calls Try.prog 16 #[.slice A n c] w (CvPost x n w) := by
  have l1 := hx.lt
  refine (to_calls A n c _ w hx.1 hx.2.1 hn (cn_low _ _ (by omega))).mono fun _ _ h => ?_
  rw [ev_cn _ _ (by omega)] at h
  exact h.cv (Nat.lt_of_lt_of_le l1 (Nat.pow_le_pow_left (by omega) _))
set_option maxHeartbeats 1000000 in
theorem decparses_calls (s : ByteArray) (w : World) (hs : s.size ≤ 9223372036854775807) :
    Calls Try.prog 4 #[.string s] w (TruePost w) := by
  have hW := Below.refl w.heap.size w
  by_cases h1 : (s.size : Int) ≤ 300
  · by_cases hN : Num (bys s)
    · obtain ⟨v, hv1⟩ : ∃ v, hv (bys s) = v := ⟨_, rfl⟩
      have HV := Lib.hid hv1
      have HN := Lib.hid hN
      clear hN hv1
      go_enter Try.func4, Try.ntmps4
      go_wp2_with fail
      refine (wawake_calls _).mono ?_
      rintro e w1 ⟨rfl, B1⟩
      replace hW := hW.trans (B1.mono hW.size)
      go_wp2_with fail
      refine (parse_yes s HN.out _).mono ?_
      rw [HV.out]
      rintro e w3 ⟨A3, n3, c3, rfl, p3, k3, B3⟩
      replace hW := hW.trans (B3.mono hW.size)
      go_wp2_with fail
      refine (is_yes s HN.out _).mono ?_
      rintro e w' ⟨rfl, rfl⟩
      go_wp2_with fail
      refine (rparse_calls s HN.out.2.2.2 (by omega) _).mono ?_
      rw [HV.out]
      rintro e w4 ⟨A4, n4, c4, rfl, p4, k4, B4⟩
      replace p3 := p3.below B4
      replace hW := hW.trans (B4.mono hW.size)
      go_wp2_with fail
      refine (toc_v p4 (by omega)).mono ?_
      rintro e w5 ⟨A5, n5, c5, rfl, p5, k5, B5⟩
      replace p3 := p3.below B5
      replace hW := hW.trans (B5.mono hW.size)
      clear p4
      go_wp2_with fail
      refine (same_v p3 p5 rfl).mono ?_
      rintro e w6 ⟨rfl, B6⟩
      replace hW := hW.trans (B6.mono hW.size)
      clear p3 p5
      go_wp2
      go_ret
      exact ⟨rfl, hW⟩
    · have HN := Lib.hid hN
      clear hN
      go_enter Try.func4, Try.ntmps4
      go_wp2_with fail
      refine (wawake_calls _).mono ?_
      rintro e w1 ⟨rfl, B1⟩
      replace hW := hW.trans (B1.mono hW.size)
      go_wp2_with fail
      refine (parse_no s HN.out _).mono ?_
      rintro e w3 ⟨rfl, rfl⟩
      go_wp2_with fail
      refine (is_no s HN.out _).mono ?_
      rintro e w' ⟨rfl, rfl⟩
      go_wp2
      go_ret
      exact ⟨rfl, hW⟩
  · by_cases h2 : (s.size : Int) ≤ 20000
    · go_enter Try.func4, Try.ntmps4
      go_wp2_with fail
      refine (wawake_calls _).mono ?_
      rintro e w1 ⟨rfl, B1⟩
      replace hW := hW.trans (B1.mono hW.size)
      go_wp2_with fail
      refine (wawake_calls _).mono ?_
      rintro e w2 ⟨rfl, B2⟩
      replace hW := hW.trans (B2.mono hW.size)
      go_wp2
      go_ret
      exact ⟨rfl, hW⟩
    · have hN : ¬ Num (bys s) := fun h => by have := h.2.1; rw [bys_length] at this; omega
      have HN := Lib.hid hN
      clear hN
      go_enter Try.func4, Try.ntmps4
      go_wp2_with fail
      refine (wawake_calls _).mono ?_
      rintro e w1 ⟨rfl, B1⟩
      replace hW := hW.trans (B1.mono hW.size)
      go_wp2_with fail
      refine (parse_no s HN.out _).mono ?_
      rintro e w3 ⟨rfl, rfl⟩
      go_wp2_with fail
      refine (is_no s HN.out _).mono ?_
      rintro e w' ⟨rfl, rfl⟩
      go_wp2
      go_ret
      exact ⟨rfl, hW⟩
end Go.Proofs.Ytohlpcajjgfojaa
