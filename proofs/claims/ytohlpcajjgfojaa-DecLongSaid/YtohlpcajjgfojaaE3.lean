/-
  The walk of DecLong.
-/
import Derived.Test.YtohlpcajjgfojaaE2
import Derived.Laws.Concat
/-! The walk of DecLong. -/
namespace Go.Proofs.Ytohlpcajjgfojaa
open Go.RowKit
set_option linter.unusedVariables false
theorem num_longer {l : List Nat} {r : Nat} (h : Num l) (hl : l.length ≤ 300) (h0 : hv l ≠ 0) (hr : r < 10) : Num (l ++ [48 + r]) ∧ hv (l ++ [48 + r]) = 10 * hv l + r := by
  obtain ⟨h1, h2, h3, h4⟩ := h
  refine ⟨⟨by simp, by simp; omega, fun _ => ?_, h4.snoc (by omega)⟩, by rw [hv_snoc]; omega⟩
  rw [nth_append_left h1]
  rcases Nat.lt_or_ge 1 l.length with h5 | h5
  · exact h3 h5
  · intro e
    apply h0
    obtain ⟨c, rfl⟩ : ∃ c, l = [c] := by
      cases l with
      | nil => simp at h1
      | cons c m => cases m with
        | nil => exact ⟨c, rfl⟩
        | cons d m => simp at h5
    rw [nth_cons_zero] at e
    simp [hv, e]
def ten : ByteArray := { data := #[48, 49, 50, 51, 52, 53, 54, 55, 56, 57] }
theorem ten_at (r : Nat) (hr : r < 10) : bys (ten.extract r (r + 1)) = [48 + r] := by
  rw [bys_extract]
  have : bys ten = [48, 49, 50, 51, 52, 53, 54, 55, 56, 57] := rfl
  rw [this]
  rcases r with _ | _ | _ | _ | _ | _ | _ | _ | _ | _ | r <;> first | rfl | omega
set_option maxHeartbeats 1000000 in
theorem declong_calls (s : ByteArray) (d : Nat) (hd : d < 256) (w : World) (hs : s.size ≤ 9223372036854775807) :
    Calls Try.prog 7 #[.string s, .int .u8 d] w (TruePost w) := by
  have hW := Below.refl w.heap.size w
  by_cases h1 : (s.size : Int) ≤ 300
  · by_cases hN : Num (bys s)
    · obtain ⟨v, hv1⟩ : ∃ v, hv (bys s) = v := ⟨_, rfl⟩
      have hlt : v < 10 ^ s.size := by rw [← hv1, ← bys_length]; exact hv_lt hN.2.2.2
      have hnd : nd v = s.size := by rw [← hv1, nd_hv hN, bys_length]
      have HL : ∀ (w : World) (A : Option Addr) (n c : Nat), Cv w A n c v → n ≤ 16 := fun _ _ _ _ h => cv_ten h hlt (by omega)
      rcases Nat.eq_zero_or_pos v with rfl | hpos
      · have HLT := Lib.hid HL
        have HN := Lib.hid hN
        have HV := Lib.hid hv1
        have b0 : (((bl 0 : Nat) : Int) == 0) = true := rfl
        clear HL hlt hnd hv1 hN
        go_enter Try.func7, Try.ntmps7
        go_wp2_with fail
        refine (wawake_calls _).mono ?_
        rintro e w1 ⟨rfl, B1⟩
        replace hW := hW.trans (B1.mono hW.size)
        go_wp2_with fail
        refine (parse_yes s HN.out _).mono ?_
        rw [HV.out]
        rintro e w3 ⟨A3, n3, c3, rfl, p3, k3, B3⟩
        replace hW := hW.trans (B3.mono hW.size)
        go_wp2_with fail
        refine (bitsd_v p3.nv (by omega)).mono ?_
        rintro e w4 ⟨rfl, rfl⟩
        clear p3
        go_wp2
        go_ret
        exact ⟨rfl, hW⟩
      · have b0 : (((bl v : Nat) : Int) == 0) = false := by
          have : 0 < bl v := bl_lt.2 (by simpa using hpos)
          rw [beq_eq_false_iff_ne]; omega
        obtain ⟨r, hr⟩ : ∃ r, d % 10 = r := ⟨_, rfl⟩
        have hr10 : r < 10 := by omega
        obtain ⟨N1, N2⟩ := num_longer hN (by rw [bys_length]; omega) (by omega) hr10
        obtain ⟨t, ht⟩ : ∃ t, ten.extract r (r + 1) = t := ⟨_, rfl⟩
        have htb : bys t = [48 + r] := by rw [← ht]; exact ten_at r hr10
        have hts : t.size = 1 := by rw [← bys_length, htb]; rfl
        rw [← htb, ← bys_add] at N1 N2
        rw [hv1] at N2
        have hnd2 : nd (10 * v + r) = s.size + 1 := by rw [← N2, nd_hv N1, bys_length, ByteArray.size_append, hts]
        have HL2 : ∀ (w : World) (A : Option Addr) (n c : Nat), Cv w A n c (10 * v + r) → n ≤ 16 := fun _ _ _ _ h => cv_ten (k := s.size + 1) h (by rw [Nat.pow_succ]; omega) (by omega)
        have HLT := Lib.hid HL
        have HLT2 := Lib.hid HL2
        have HN := Lib.hid hN
        have HV := Lib.hid hv1
        have HN1 := Lib.hid N1
        have HN2 := Lib.hid N2
        have HT := Lib.hid ht
        have HTS := Lib.hid hts
        have HD1 := Lib.hid hnd
        have HD2 := Lib.hid hnd2
        have HR := Lib.hid hr
        have er : (d : Int) % 10 = (r : Int) := by omega
        have hsl : ∀ w' : World, (Instr.slice 9 (.string { data := #[48, 49, 50, 51, 52, 53, 54, 55, 56, 57] }) (some (.int .u8 (r : Int))) (some (.int .u8 ((r : Int) + 1))) none).run Try.prog w' = .ok (.string t) w' := fun w' => by
          rw [run_slice_string w' 9 _ _ _ _ _ Try.underlying9 (by omega) (by omega) (by show (r : Int) + 1 ≤ ((10 : Nat) : Int); omega)]
          rw [show ((r : Int)).toNat = r from by omega, show ((r : Int) + 1).toNat = r + 1 from by omega]
          exact congrArg (fun x => Result.ok (Value.string x) w') ht
        have HSL := Lib.hid hsl
        clear hsl HL HL2 hlt hnd hnd2 hv1 hN N1 N2 ht hts htb hr
        go_enter Try.func7, Try.ntmps7
        go_wp2_with fail
        refine (wawake_calls _).mono ?_
        rintro e w1 ⟨rfl, B1⟩
        replace hW := hW.trans (B1.mono hW.size)
        go_wp2_with fail
        refine (parse_yes s HN.out _).mono ?_
        rw [HV.out]
        rintro e w3 ⟨A3, n3, c3, rfl, p3, k3, B3⟩
        replace hW := hW.trans (B3.mono hW.size)
        go_wp2_with fail
        refine (bitsd_v p3.nv (by omega)).mono ?_
        rintro e w4 ⟨rfl, rfl⟩
        have hsl := HSL.out
        have hts := HTS.out
        have hsz : s.size + t.size ≤ 9223372036854775807 := by omega
        clear hts HSL
        go_wp2_with fail
        clear hsl
        refine (parse_yes (s ++ t) HN1.out _).mono ?_
        rw [HN2.out]
        rintro e w5 ⟨A5, n5, c5, rfl, p5, k5, B5⟩
        replace p3 := p3.below B5
        replace hW := hW.trans (B5.mono hW.size)
        have l3 := HLT.out _ _ _ _ p3
        have l5 := HLT2.out _ _ _ _ p5
        clear HN HN1 HN2 HT HLT HLT2
        go_wp2_with fail
        refine (muladd_v (x := 10) (y := r) p3.nv (by omega) (by omega) (by omega)).mono ?_
        rintro e w6 ⟨A6, n6, c6, rfl, p6, k6, B6⟩
        replace p3 := p3.below B6
        replace p5 := p5.below B6
        replace hW := hW.trans (B6.mono hW.size)
        go_wp2_with fail
        refine (cmp_same_v p5.nv p6.nv (by omega)).mono ?_
        rintro e w7 ⟨rfl, B7⟩
        replace p3 := p3.below B7
        replace p5 := p5.below B7
        replace hW := hW.trans (B7.mono hW.size)
        clear p6
        go_wp2_with fail
        refine (len_v p5.nv (by omega) HD2.out).mono ?_
        rintro e w8 ⟨rfl, B8⟩
        replace p3 := p3.below B8
        replace hW := hW.trans (B8.mono hW.size)
        clear p5
        go_wp2_with fail
        refine (len_v p3.nv (by omega) HD1.out).mono ?_
        rintro e w9 ⟨rfl, B9⟩
        replace p3 := p3.below B9
        replace hW := hW.trans (B9.mono hW.size)
        go_wp2_with fail
        refine (len_v p3.nv (by omega) HD1.out).mono ?_
        rintro e w10 ⟨rfl, B10⟩
        replace hW := hW.trans (B10.mono hW.size)
        clear p3
        go_wp2
        go_ret
        exact ⟨rfl, hW⟩
    · have HN := Lib.hid hN
      clear hN
      go_enter Try.func7, Try.ntmps7
      go_wp2_with fail
      refine (wawake_calls _).mono ?_
      rintro e w1 ⟨rfl, B1⟩
      replace hW := hW.trans (B1.mono hW.size)
      go_wp2_with fail
      refine (parse_no s HN.out _).mono ?_
      rintro e w3 ⟨rfl, rfl⟩
      go_wp2
      go_ret
      exact ⟨rfl, hW⟩
  · go_enter Try.func7, Try.ntmps7
    go_wp2_with fail
    refine (wawake_calls _).mono ?_
    rintro e w1 ⟨rfl, B1⟩
    replace hW := hW.trans (B1.mono hW.size)
    go_wp2_with fail
    refine (wawake_calls _).mono ?_
    rintro e w2 ⟨rfl, B2⟩
    replace hW := hW.trans (B2.mono hW.size)
    go_wp2
    go_ret
    exact ⟨rfl, hW⟩
end Go.Proofs.Ytohlpcajjgfojaa
