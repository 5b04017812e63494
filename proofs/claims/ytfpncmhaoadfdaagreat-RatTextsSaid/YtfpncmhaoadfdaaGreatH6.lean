/-
  The walk of RatTexts.
-/
import Derived.Test.YtfpncmhaoadfdaaGreatRatT
/-! The walk of RatTexts. -/
namespace Go.Proofs.YtfpncmhaoadfdaaGreat
open Go.RowKit
set_option linter.unusedVariables false
set_option linter.unusedSimpArgs false

theorem nd_small {v u K : Nat} (h : v ≤ u) (hu : u < 18446744073709551616 ^ K) (hK : K ≤ 900) : nd v ≤ 20000 :=
  Nat.le_trans (nd_le (k := 20 * K + 1) (by omega) (Nat.lt_of_le_of_lt h (Nat.lt_of_lt_of_le hu (Nat.le_trans (words_ten K) (ten_le (by omega)))))) (by omega)
theorem le_of_mul {a b c : Int} (h : a * b = c) (hb : b ≠ 0) : a.natAbs ≤ c.natAbs := by
  rw [← h, Int.natAbs_mul]
  exact Nat.le_mul_of_pos_right _ (by omega)
theorem num_le (N D : Int) : (Rat.divInt N D).num.natAbs ≤ N.natAbs := by
  by_cases h : D = 0
  · subst h; simp
  · exact le_of_mul (num_rcom h) (rcom_ne h)
theorem den_le (N D : Int) : (Rat.divInt N D).den ≤ D.natAbs + 1 := by
  by_cases h : D = 0
  · subst h; simp
  · have := le_of_mul (den_rcom (N := N) h) (rcom_ne h)
    rw [Int.natAbs_natCast] at this
    omega
theorem qparse_of {q : Rat} (h1 : nd q.num.natAbs ≤ 20000) (h2 : nd q.den ≤ 20000) (w : World) : Calls Tryz.prog 7 #[.string (qstr q)] w (QbPost q true 2048 w) := by
  have z1 := tsize (z := q.num)
  have z2 := tsize (z := (q.den : Int))
  rw [Int.natAbs_natCast] at z2
  by_cases hd : q.den = 1
  · have e : qstr q = zstr q.num := by unfold qstr; rw [if_pos hd]
    have hq : (q.num : Rat) = q := by
      have h := rnum_rden q
      rw [hd] at h
      rw [← rof_int]
      exact h
    rw [e]
    have := p_whole (s := zstr q.num) (a := zstr q.num) (b := ByteArray.empty) (N := q.num) (D := 0) (h := false) (w := w) (fun w => cut_none (by omega) (ix_none tslash)) (fun w => tparse h1 w)
    rw [hq] at this
    exact this
  · have e : qstr q = zstr q.num ++ ({ data := #[47] } : ByteArray) ++ zstr (q.den : Int) := by unfold qstr; rw [if_neg hd]
    obtain ⟨k1, k2, k3, k4⟩ := ix_at (a := zstr q.num) (b := zstr (q.den : Int)) tslash
    rw [← e] at k1 k2 k3 k4
    have hs : (qstr q).size ≤ 4611686018427387904 := by
      rw [e, ByteArray.size_append, ByteArray.size_append]
      have : ({ data := #[47] } : ByteArray).size = 1 := rfl
      omega
    have C : ∀ w : World, Calls Tryz.prog 19 #[.string (qstr q), .string { data := #[47] }] w fun e w' => e = .returned (.tuple #[.string (zstr q.num), .string (zstr (q.den : Int)), .bool true]) ∧ Below w.heap.size w w' := fun w => by
      have := cut_some (s := qstr q) (w := w) hs k1 k4
      rw [k2, k3] at this
      exact this
    have := p_frac (h := true) (w := w) C (fun w => tparse h1 w) (fun w => tparse (by rw [Int.natAbs_natCast]; exact h2) w) (by omega) (by rw [rnum_rden])
    rw [rnum_rden] at this
    exact this
/-- Of every text: a fraction is answered, of which it is the text; or none. -/
theorem qreads (s : ByteArray) (hs : s.size ≤ 200) : (∃ q, qstr q = s ∧ nd q.num.natAbs ≤ 200 ∧ nd q.den ≤ 200 ∧ ∀ w, Calls Tryz.prog 7 #[.string s] w (QbPost q true 2048 w)) ∨ ∀ w, Calls Tryz.prog 7 #[.string s] w (QbPost 0 false 1 w) := by
  obtain ⟨g1, g2⟩ := ix_range s
  by_cases hi : ix s = -1
  · rcases treads s (by omega) with ⟨z, h1, h2, h3⟩ | h3
    · refine .inl ⟨(z : Rat), ?_, ?_, ?_, fun w => p_whole (a := s) (b := ByteArray.empty) (h := false) (D := 0) (fun w => cut_none (by omega) hi) h3⟩
      · unfold qstr
        rw [if_pos (Rat.den_intCast z), Rat.num_intCast]
        exact h1
      · rw [Rat.num_intCast]; omega
      · rw [Rat.den_intCast]; decide +kernel
    · exact .inr fun w => p_no (a := s) (b := ByteArray.empty) (h := false) (N := 0) (D := 0) (fun w => cut_none (by omega) hi) h3
  · obtain ⟨i, hi⟩ : ∃ i : Nat, ix s = (i : Int) := ⟨(ix s).toNat, by omega⟩
    have hlt : i < s.size := by omega
    have C := fun w : World => cut_some (s := s) (w := w) (by omega) hi hlt
    have hj := cut_join hi hlt
    have sa : (s.extract 0 i).size ≤ 200 := by rw [ByteArray.size_extract]; omega
    have sb : (s.extract (i + 1) s.size).size ≤ 200 := by rw [ByteArray.size_extract]; omega
    generalize s.extract 0 i = a at *
    generalize s.extract (i + 1) s.size = b at *
    rcases treads a (by omega) with ⟨N, a1, a2, a3⟩ | a3
    · rcases treads b (by omega) with ⟨D, b1, b2, b3⟩ | b3
      · by_cases h1 : D = 1
        · exact .inr fun w => p_one (h := true) C a3 b3 h1
        · by_cases h2 : ((Rat.divInt N D).den : Int) = D
          · have hD : D ≠ 0 := fun e => by rw [e] at h2; simp at h2
            have hnum : (Rat.divInt N D).num = N := by
              have h := (rq_iff (q := Rat.divInt N D) hD).1 rfl
              rw [h2] at h
              exact Int.eq_of_mul_eq_mul_right hD h
            refine .inl ⟨Rat.divInt N D, ?_, ?_, ?_, fun w => p_frac (h := true) C a3 b3 h1 h2⟩
            · unfold qstr
              rw [if_neg (by omega), hnum, h2, a1, b1]
              exact hj
            · rw [hnum]; omega
            · rw [show (Rat.divInt N D).den = D.natAbs by omega]; omega
          · exact .inr fun w => p_odd (h := true) C a3 b3 h1 h2
      · exact .inr fun w => p_bad (h := true) (D := 0) C a3 b3
    · exact .inr fun w => p_no (h := true) (N := 0) (D := 0) C a3
theorem qprint_q {A B : Option Addr} {n c m d k : Nat} {s t : Bool} {p : Rat} {w : World} (ha : Qv w s A n c t B m d p) (hnk : n ≤ k) (hmk : m ≤ k) (h1 : 1 ≤ k) (hk : k ≤ 900) :
    Calls Tryz.prog 6 #[.agg #[.bool s, .slice A n c, .bool t, .slice B m d]] w (QPrPost p w) := by
  obtain ⟨N, D, a1, a2, a3⟩ := ha
  rw [← a3.out]
  exact qprint_v a1 a2 hnk hmk h1 hk
theorem zc_digits {w : World} {s : Bool} {A : Option Addr} {n c : Nat} {z : Int} (h : Zc w s A n c z) (hd : nd z.natAbs ≤ 200) : n ≤ 11 :=
  cv_ten h.1 (Nat.lt_of_lt_of_le (nd_is _).1 (ten_le hd)) (by omega)
set_option maxRecDepth 100000 in
set_option maxHeartbeats 16000000 in
theorem texts_few1 {A B : Option Addr} {n c m d : Nat} {s t : Bool} {N D : Int} {S : ByteArray} {w : World} (hn : Zv w s A n c N) (hd : Zv w t B m d D) (n9 : n ≤ 9223372036854775807) (m9 : m ≤ 9223372036854775807) (h1 : ¬ (n ≤ 5 ∧ m ≤ 5)) :
    Calls Tryz.prog 3 #[.agg #[.bool s, .slice A n c, .bool t, .slice B m d], .string S] w (TruePost w) := by
  have hW := Below.refl w.heap.size w
  obtain ⟨wp0, hwp0⟩ : ∃ x, x = w.alloc (.cells #[.bool s, .slice A n c, .bool t, .slice B m d] 27) := ⟨_, rfl⟩
  have zp0 : Below w.heap.size w wp0 := by rw [hwp0]; exact zba _ _
  have sp0 : wp0.heap.size = w.heap.size + 1 := by rw [hwp0, World.size_alloc]
  have Ia : Rb wp0 w.heap.size s A n c t B m d := by rw [hwp0]; exact Rb.new _ _ _ _ _ _ _ _ _ _
  replace hn := hn.below zp0
  replace hd := hd.below zp0
  replace hW := hW.trans (zp0.mono hW.size)
  have H_a := Lib.hid Ia
  clear Ia zp0
  have HW : Hid ((w.alloc (.cells #[.bool s, .slice A n c, .bool t, .slice B m d] 27)) = wp0) := Lib.hid (by rw [hwp0])
  have lw_a : w.heap.size ≤ w.heap.size := by omega
  clear hwp0 sp0
  have HF1 : Hid (decide (n ≤ 5 ∧ m ≤ 5) = false) := Lib.hid (decide_eq_false h1)
  clear h1
  go_enter Tryz.func3, Tryz.ntmps3
  obtain ⟨a1, a2, a3, a4, a5, a6, a7, a8, a9⟩ := H_a.out
  go_wp2_with fail
  rw [HW.out]
  clear a1 a2 a3 a4 a5 a6 a7 a8 a9
  refine (qawake_v _).mono ?_
  rintro e w21 ⟨rfl, B21⟩
  replace H_a := Lib.hid (H_a.out.below B21)
  replace hn := hn.below B21
  replace hd := hd.below B21
  replace hW := hW.trans (B21.mono hW.size)
  clear B21
  obtain ⟨a1, a2, a3, a4, a5, a6, a7, a8, a9⟩ := H_a.out
  go_wp2_with fail
  clear a1 a2 a3 a4 a5 a6 a7 a8 a9
  refine (few7_v (k := 5) (b := false) (by omega) (by omega) (by omega) HF1.out).mono ?_
  rintro e w22 ⟨rfl, B22⟩
  replace H_a := Lib.hid (H_a.out.below B22)
  replace hn := hn.below B22
  replace hd := hd.below B22
  replace hW := hW.trans (B22.mono hW.size)
  clear B22
  obtain ⟨a1, a2, a3, a4, a5, a6, a7, a8, a9⟩ := H_a.out
  go_wp2_with fail
  clear a1 a2 a3 a4 a5 a6 a7 a8 a9
  refine (qawake_v _).mono ?_
  rintro e w23 ⟨rfl, B23⟩
  replace H_a := Lib.hid (H_a.out.below B23)
  replace hn := hn.below B23
  replace hd := hd.below B23
  replace hW := hW.trans (B23.mono hW.size)
  clear B23
  go_wp2_with fail
  go_ret
  exact ⟨rfl, hW⟩
set_option maxRecDepth 100000 in
set_option maxHeartbeats 16000000 in
theorem texts_few2 {A B : Option Addr} {n c m d : Nat} {s t : Bool} {N D : Int} {S : ByteArray} {w : World} (hn : Zv w s A n c N) (hd : Zv w t B m d D) (h1 : n ≤ 5) (h2 : m ≤ 5) (h3 : 200 < S.size) (s9 : S.size ≤ 9223372036854775807) :
    Calls Tryz.prog 3 #[.agg #[.bool s, .slice A n c, .bool t, .slice B m d], .string S] w (TruePost w) := by
  have hW := Below.refl w.heap.size w
  obtain ⟨wp0, hwp0⟩ : ∃ x, x = w.alloc (.cells #[.bool s, .slice A n c, .bool t, .slice B m d] 27) := ⟨_, rfl⟩
  have zp0 : Below w.heap.size w wp0 := by rw [hwp0]; exact zba _ _
  have sp0 : wp0.heap.size = w.heap.size + 1 := by rw [hwp0, World.size_alloc]
  have Ia : Rb wp0 w.heap.size s A n c t B m d := by rw [hwp0]; exact Rb.new _ _ _ _ _ _ _ _ _ _
  replace hn := hn.below zp0
  replace hd := hd.below zp0
  replace hW := hW.trans (zp0.mono hW.size)
  have H_a := Lib.hid Ia
  clear Ia zp0
  have HW : Hid ((w.alloc (.cells #[.bool s, .slice A n c, .bool t, .slice B m d] 27)) = wp0) := Lib.hid (by rw [hwp0])
  have lw_a : w.heap.size ≤ w.heap.size := by omega
  clear hwp0 sp0
  have HF1 : Hid (decide (n ≤ 5 ∧ m ≤ 5) = true) := Lib.hid (decide_eq_true ⟨h1, h2⟩)
  go_enter Tryz.func3, Tryz.ntmps3
  obtain ⟨a1, a2, a3, a4, a5, a6, a7, a8, a9⟩ := H_a.out
  go_wp2_with fail
  rw [HW.out]
  clear a1 a2 a3 a4 a5 a6 a7 a8 a9
  refine (qawake_v _).mono ?_
  rintro e w21 ⟨rfl, B21⟩
  replace H_a := Lib.hid (H_a.out.below B21)
  replace hn := hn.below B21
  replace hd := hd.below B21
  replace hW := hW.trans (B21.mono hW.size)
  clear B21
  obtain ⟨a1, a2, a3, a4, a5, a6, a7, a8, a9⟩ := H_a.out
  go_wp2_with fail
  clear a1 a2 a3 a4 a5 a6 a7 a8 a9
  refine (few7_v (k := 5) (b := true) (by omega) (by omega) (by omega) HF1.out).mono ?_
  rintro e w22 ⟨rfl, B22⟩
  replace H_a := Lib.hid (H_a.out.below B22)
  replace hn := hn.below B22
  replace hd := hd.below B22
  replace hW := hW.trans (B22.mono hW.size)
  clear B22
  obtain ⟨a1, a2, a3, a4, a5, a6, a7, a8, a9⟩ := H_a.out
  go_wp2_with fail
  clear a1 a2 a3 a4 a5 a6 a7 a8 a9
  refine (qawake_v _).mono ?_
  rintro e w23 ⟨rfl, B23⟩
  replace H_a := Lib.hid (H_a.out.below B23)
  replace hn := hn.below B23
  replace hd := hd.below B23
  replace hW := hW.trans (B23.mono hW.size)
  clear B23
  go_wp2_with fail
  go_ret
  exact ⟨rfl, hW⟩
set_option maxRecDepth 100000 in
set_option maxHeartbeats 16000000 in
theorem texts_yes {A B : Option Addr} {n c m d : Nat} {s t : Bool} {N D : Int} {S : ByteArray} {w : World} (hn : Zv w s A n c N) (hd : Zv w t B m d D) (h1 : n ≤ 5) (h2 : m ≤ 5) (h3 : S.size ≤ 200) {q : Rat} (hq : qstr q = S) (hq1 : nd q.num.natAbs ≤ 200) (hq2 : nd q.den ≤ 200) (HP : Hid (∀ w : World, Calls Tryz.prog 7 #[.string S] w (QbPost q true 2048 w))) :
    Calls Tryz.prog 3 #[.agg #[.bool s, .slice A n c, .bool t, .slice B m d], .string S] w (TruePost w) := by
  have hW := Below.refl w.heap.size w
  obtain ⟨wp0, hwp0⟩ : ∃ x, x = w.alloc (.cells #[.bool s, .slice A n c, .bool t, .slice B m d] 27) := ⟨_, rfl⟩
  have zp0 : Below w.heap.size w wp0 := by rw [hwp0]; exact zba _ _
  have sp0 : wp0.heap.size = w.heap.size + 1 := by rw [hwp0, World.size_alloc]
  have Ia : Rb wp0 w.heap.size s A n c t B m d := by rw [hwp0]; exact Rb.new _ _ _ _ _ _ _ _ _ _
  replace hn := hn.below zp0
  replace hd := hd.below zp0
  replace hW := hW.trans (zp0.mono hW.size)
  have H_a := Lib.hid Ia
  clear Ia zp0
  have HW : Hid ((w.alloc (.cells #[.bool s, .slice A n c, .bool t, .slice B m d] 27)) = wp0) := Lib.hid (by rw [hwp0])
  have lw_a : w.heap.size ≤ w.heap.size := by omega
  clear hwp0 sp0
  have HF1 : Hid (decide (n ≤ 5 ∧ m ≤ 5) = true) := Lib.hid (decide_eq_true ⟨h1, h2⟩)
  have e1 : nd (Rat.divInt N D).num.natAbs ≤ 20000 := nd_small (K := 6) (num_le N D) (Nat.lt_of_lt_of_le hn.lt (Nat.pow_le_pow_right (by omega) (by omega))) (by omega)
  have e2 : nd (Rat.divInt N D).den ≤ 20000 := nd_small (K := 6) (den_le N D) (by have := hd.lt; have h5 : (18446744073709551616 : Nat) ^ m ≤ 18446744073709551616 ^ 5 := Nat.pow_le_pow_right (by omega) h2; have h6 : (18446744073709551616 : Nat) ^ 6 = 18446744073709551616 ^ 5 * 18446744073709551616 := Nat.pow_succ .. ; have h7 : 0 < (18446744073709551616 : Nat) ^ 5 := Nat.pow_pos (by omega); omega) (by omega)
  have HT := fun w : World => qparse_of e1 e2 w
  clear e1 e2
  obtain ⟨p, hp⟩ : ∃ p, Rat.divInt N D = p := ⟨_, rfl⟩
  have ha := Qv.mk hn hd
  rw [hp] at ha HT
  obtain ⟨S0, hS0⟩ : ∃ S, qstr p = S := ⟨_, rfl⟩
  rw [hS0] at HT
  have HTT := Lib.hid HT
  have PR0 : ∀ w : World, QPrPost p w = fun e w' => e = .returned (.string S0) ∧ Below w.heap.size w w' := fun w => by unfold QPrPost; rw [hS0]
  obtain ⟨b1, hb1⟩ : ∃ b, bl p.num.natAbs = b := ⟨_, rfl⟩
  obtain ⟨b2, hb2⟩ : ∃ b, bl p.den = b := ⟨_, rfl⟩
  have HB1 := Lib.hid hb1
  have HB2 : Hid (bl ((p.den : Int)).natAbs = b2) := Lib.hid (by rw [Int.natAbs_natCast, hb2])
  obtain ⟨b0, hb0⟩ : ∃ b, max (b1 : Int) (b2 : Int) = b := ⟨_, rfl⟩
  have HB : Hid (max (bl p.num.natAbs : Int) (bl p.den : Int) = b0) := Lib.hid (by rw [hb1, hb2, hb0])
  have HC : Hid (rsg (p - p) = 0) := Lib.hid (rsg_eq.2 (by grind))
  clear HT hp hS0 hb1 hb2
  have PR1 : ∀ w : World, QPrPost q w = fun e w' => e = .returned (.string S) ∧ Below w.heap.size w w' := fun w => by unfold QPrPost; rw [hq]
  have HQ1 := Lib.hid hq1
  have HQ2 := Lib.hid hq2
  clear hq hq1 hq2
  go_enter Tryz.func3, Tryz.ntmps3
  obtain ⟨a1, a2, a3, a4, a5, a6, a7, a8, a9⟩ := H_a.out
  go_wp2_with fail
  rw [HW.out]
  clear a1 a2 a3 a4 a5 a6 a7 a8 a9
  refine (qawake_v _).mono ?_
  rintro e w21 ⟨rfl, B21⟩
  replace H_a := Lib.hid (H_a.out.below B21)
  replace hn := hn.below B21
  replace hd := hd.below B21
  replace ha := ha.below B21
  replace hW := hW.trans (B21.mono hW.size)
  clear B21
  obtain ⟨a1, a2, a3, a4, a5, a6, a7, a8, a9⟩ := H_a.out
  go_wp2_with fail
  clear a1 a2 a3 a4 a5 a6 a7 a8 a9
  refine (few7_v (k := 5) (b := true) (by omega) (by omega) (by omega) HF1.out).mono ?_
  rintro e w22 ⟨rfl, B22⟩
  replace H_a := Lib.hid (H_a.out.below B22)
  replace hn := hn.below B22
  replace hd := hd.below B22
  replace ha := ha.below B22
  replace hW := hW.trans (B22.mono hW.size)
  clear B22
  clear hn hd
  obtain ⟨a1, a2, a3, a4, a5, a6, a7, a8, a9⟩ := H_a.out
  go_wp2_with fail
  clear a1 a2 a3 a4 a5 a6 a7 a8 a9
  refine ((PR0 _) ▸ qprint_q (k := 5) ha (by omega) (by omega) (by omega) (by omega)).mono ?_
  rintro e w23 ⟨rfl, B23⟩
  replace H_a := Lib.hid (H_a.out.below B23)
  replace ha := ha.below B23
  replace hW := hW.trans (B23.mono hW.size)
  clear B23
  obtain ⟨a1, a2, a3, a4, a5, a6, a7, a8, a9⟩ := H_a.out
  go_wp2_with fail
  clear a1 a2 a3 a4 a5 a6 a7 a8 a9
  refine (HTT.out _).mono ?_
  rintro e w24 ⟨s24, A24, n24, c24, t24, D24, m24, d24, rfl, pb, k24, l24, B24⟩
  replace H_a := Lib.hid (H_a.out.below B24)
  replace ha := ha.below B24
  replace hW := hW.trans (B24.mono hW.size)
  clear B24
  have O_a := H_a
  obtain ⟨w25, hw25⟩ : ∃ x, x = w24.alloc (.cells #[.bool s24, .slice A24 n24 c24, .bool t24, .slice D24 m24 d24] 27) := ⟨_, rfl⟩
  have z25 : Below w24.heap.size w24 w25 := by rw [hw25]; exact zba _ _
  have HW25 : Hid (w24.alloc (.cells #[.bool s24, .slice A24 n24 c24, .bool t24, .slice D24 m24 d24] 27) = w25) := Lib.hid hw25.symm
  have nn_a_ba : ¬ (w.heap.size = w24.heap.size) := by have := H_a.out.2.2.2.2.2.2.2.2; omega
  have nm_a_ba : ¬ (w24.heap.size = w.heap.size) := by omega
  have lw_ba : w.heap.size ≤ w24.heap.size := by have := hW.size; omega
  replace H_a := Lib.hid (H_a.out.below z25)
  replace ha := ha.below z25
  replace pb := pb.below z25
  replace hW := hW.trans (z25.mono hW.size)
  have H_ba : Hid (Rb w25 w24.heap.size s24 A24 n24 c24 t24 D24 m24 d24) := Lib.hid (by rw [hw25]; exact Rb.new _ _ _ _ _ _ _ _ _ _)
  clear z25 hw25
  obtain ⟨a1, a2, a3, a4, a5, a6, a7, a8, a9⟩ := O_a.out
  go_wp2_with fail
  rw [HW25.out]
  clear a1 a2 a3 a4 a5 a6 a7 a8 a9 O_a
  refine (HP.out _).mono ?_
  rintro e w26 ⟨s26, A26, n26, c26, t26, D26, m26, d26, rfl, pc, k26, l26, B26⟩
  replace H_a := Lib.hid (H_a.out.below B26)
  replace H_ba := Lib.hid (H_ba.out.below B26)
  replace ha := ha.below B26
  replace pb := pb.below B26
  replace hW := hW.trans (B26.mono hW.size)
  clear B26
  have O_a := H_a
  have O_ba := H_ba
  obtain ⟨w27, hw27⟩ : ∃ x, x = w26.alloc (.cells #[.bool s26, .slice A26 n26 c26, .bool t26, .slice D26 m26 d26] 27) := ⟨_, rfl⟩
  have z27 : Below w26.heap.size w26 w27 := by rw [hw27]; exact zba _ _
  have HW27 : Hid (w26.alloc (.cells #[.bool s26, .slice A26 n26 c26, .bool t26, .slice D26 m26 d26] 27) = w27) := Lib.hid hw27.symm
  have nn_a_ca : ¬ (w.heap.size = w26.heap.size) := by have := H_a.out.2.2.2.2.2.2.2.2; omega
  have nm_a_ca : ¬ (w26.heap.size = w.heap.size) := by omega
  have nn_ba_ca : ¬ (w24.heap.size = w26.heap.size) := by have := H_ba.out.2.2.2.2.2.2.2.2; omega
  have nm_ba_ca : ¬ (w26.heap.size = w24.heap.size) := by omega
  have lw_ca : w.heap.size ≤ w26.heap.size := by have := hW.size; omega
  replace H_a := Lib.hid (H_a.out.below z27)
  replace H_ba := Lib.hid (H_ba.out.below z27)
  replace ha := ha.below z27
  replace pb := pb.below z27
  replace pc := pc.below z27
  replace hW := hW.trans (z27.mono hW.size)
  have H_ca : Hid (Rb w27 w26.heap.size s26 A26 n26 c26 t26 D26 m26 d26) := Lib.hid (by rw [hw27]; exact Rb.new _ _ _ _ _ _ _ _ _ _)
  clear z27 hw27
  have hc1 := zc_digits pc.1 HQ1.out
  have hc2 := zc_digits pc.2 (by rw [Int.natAbs_natCast]; exact HQ2.out)
  obtain ⟨a1, a2, a3, a4, a5, a6, a7, a8, a9⟩ := O_a.out
  obtain ⟨ba1, ba2, ba3, ba4, ba5, ba6, ba7, ba8, ba9⟩ := O_ba.out
  go_wp2_with fail
  rw [HW27.out]
  clear a1 a2 a3 a4 a5 a6 a7 a8 a9 ba1 ba2 ba3 ba4 ba5 ba6 ba7 ba8 ba9 O_a O_ba
  refine (qbits_v (k := 5) ha (by omega) (by omega) (by omega) (by omega) HB.out).mono ?_
  rintro e w28 ⟨rfl, B28⟩
  replace H_a := Lib.hid (H_a.out.below B28)
  replace H_ba := Lib.hid (H_ba.out.below B28)
  replace H_ca := Lib.hid (H_ca.out.below B28)
  replace ha := ha.below B28
  replace pb := pb.below B28
  replace pc := pc.below B28
  replace hW := hW.trans (B28.mono hW.size)
  clear B28
  obtain ⟨a1, a2, a3, a4, a5, a6, a7, a8, a9⟩ := H_a.out
  obtain ⟨ba1, ba2, ba3, ba4, ba5, ba6, ba7, ba8, ba9⟩ := H_ba.out
  obtain ⟨ca1, ca2, ca3, ca4, ca5, ca6, ca7, ca8, ca9⟩ := H_ca.out
  go_wp2_with fail
  clear a1 a2 a3 a4 a5 a6 a7 a8 a9 ba1 ba2 ba3 ba4 ba5 ba6 ba7 ba8 ba9 ca1 ca2 ca3 ca4 ca5 ca6 ca7 ca8 ca9
  refine region7 [] 45 [IsK (.bool true), IsK (.bool true), IsK (.agg #[.bool s24, .slice A24 n24 c24, .bool t24, .slice D24 m24 d24]), IsK (.bool true), IsK (.bool true), IsK (.bool true), IsK (.agg #[.bool s, .slice A n c, .bool t, .slice B m d]), IsK (.agg #[.bool s24, .slice A24 n24 c24, .bool t24, .slice D24 m24 d24]), IsK (.int .i64 0), IsK (.bool true), IsK (.bool true), IsK (.bool true), IsK (.bool true), IsK (.bool true), IsK (.agg #[.bool s26, .slice A26 n26 c26, .bool t26, .slice D26 m26 d26]), IsK (.string S), IsK (.string S), IsK (.bool true), IsK (.bool true), IsK (.bool true), IsK (.agg #[.bool s26, .slice A26 n26 c26, .bool t26, .slice D26 m26 d26]), IsK (.bool true), IsK (.bool true), IsK (.bool true), IsK undef, IsK undef, IsK undef, IsK undef, IsK undef, IsK undef, IsK undef, IsK (.bool true), IsK (.bool true), IsK (.bool true), IsK (.int .i64 b0), IsK (.pointer (some ⟨w24.heap.size, 0, none⟩)), IsK (.agg #[.bool s24, .slice A24 n24 c24]), IsK (.int .i64 (b1 : Int)), IsK (.pointer (some ⟨w24.heap.size, 2, none⟩)), IsK (.agg #[.bool t24, .slice D24 m24 d24]), IsK (.int .i64 (b2 : Int)), IsK (.int .i64 b0), IsK (.bool true), IsK (.bool true), IsK (.bool true)] (fun _ _ d _ _ h => by cases d <;> exact h) (by kernel_rfl) (by kernel_rfl) (by kernel_rfl) ⟨stay_k _, stay_k _, stay_k _, stay_k _, stay_k _, stay_k _, stay_k _, stay_k _, stay_k _, stay_k _, stay_k _, stay_k _, stay_k _, stay_k _, stay_k _, stay_k _, stay_k _, stay_k _, stay_k _, stay_k _, stay_k _, stay_k _, stay_k _, stay_k _, stay_k _, stay_k _, stay_k _, stay_k _, stay_k _, stay_k _, stay_k _, stay_k _, stay_k _, stay_k _, stay_k _, stay_k _, stay_k _, stay_k _, stay_k _, stay_k _, stay_k _, stay_k _, stay_k _, stay_k _, stay_k _, trivial⟩ ?_ ?_
  · refine HopAll.cons rfl ?_ (HopAll.cons rfl ?_ (HopAll.cons rfl ?_ (HopAll.cons rfl ?_ (HopAll.cons rfl ?_ (HopAll.cons rfl ?_ (HopAll.cons rfl ?_ (HopAll.cons rfl ?_ (HopAll.cons rfl ?_ (HopAll.cons rfl ?_ (HopAll.cons rfl ?_ (HopAll.cons rfl ?_ (HopAll.cons rfl ?_ (HopAll.cons rfl ?_ (HopAll.cons rfl ?_ (HopAll.cons rfl ?_ (HopAll.cons rfl ?_ (HopAll.cons rfl ?_ (HopAll.cons rfl ?_ (HopAll.cons rfl ?_ (HopAll.cons rfl ?_ (HopAll.cons rfl ?_ (HopAll.cons rfl ?_ (HopAll.cons rfl ?_ (HopAll.cons rfl ?_ (HopAll.cons rfl ?_ (HopAll.cons rfl ?_ (HopAll.cons rfl ?_ (HopAll.cons rfl ?_ (HopAll.cons rfl ?_ (HopAll.cons rfl ?_ (HopAll.cons rfl ?_ (HopAll.cons rfl ?_ (HopAll.cons rfl ?_ (HopAll.cons rfl ?_ (HopAll.cons rfl ?_ (HopAll.cons rfl ?_ (HopAll.cons rfl ?_ (HopAll.cons rfl ?_ (HopAll.cons rfl ?_ (HopAll.cons rfl ?_ (HopAll.cons rfl ?_ (HopAll.cons rfl ?_ (HopAll.cons rfl ?_ (HopAll.cons rfl ?_ HopAll.nil))))))))))))))))))))))))))))))))))))))))))))
    · intro a w1 hB ho hp K hK
      have e7 : a.eval (.tmp 7) = (.bool true) := ho 7 (by kernel_rfl)
      refine hop_val (wanted_none rfl) ?_ (hK (.bool true) _ rfl (Below.refl _ _))
      unfold execOp; simp only [eval_const, e7]; simp [go_sem]
    · intro a w1 hB ho hp K hK
      have e38 : a.eval (.tmp 38) = (.bool true) := hp 0 38 (by kernel_rfl)
      refine hop_val (wanted_none rfl) ?_ (hK (.bool true) _ rfl (Below.refl _ _))
      unfold execOp; simp only [eval_const, e38]; simp [go_sem]
    · intro a w1 hB ho hp K hK
      have e6 : a.eval (.tmp 6) = (.pointer (some ⟨w24.heap.size, 0, none⟩)) := ho 6 (by kernel_rfl)
      obtain ⟨u1, u2, u3, u4, u5, u6, u7, u8, u9⟩ := H_ba.out.below hB
      exact hop_load (wanted_at rfl (j := 1) (d := 39) (b := true) (by kernel_rfl) (hp 1 39 (by kernel_rfl))) rfl e6 (run_ldq u1 u2 u3 u4) (hK _ _ rfl (Below.refl _ _))
    · intro a w1 hB ho hp K hK
      have e40 : a.eval (.tmp 40) = (.agg #[.bool s24, .slice A24 n24 c24, .bool t24, .slice D24 m24 d24]) := hp 2 40 (by kernel_rfl)
      refine hop_call (wanted_at rfl (j := 1) (d := 39) (b := true) (by kernel_rfl) (hp 1 39 (by kernel_rfl))) rfl (args := #[(.agg #[.bool s24, .slice A24 n24 c24, .bool t24, .slice D24 m24 d24])]) (by simp only [List.map_toArray, List.map_cons, List.map_nil, eval_const, e40]) (ent7 (by kernel_rfl) _ _) (normalr_v (pb.below hB) (by omega) (by omega)) ?_
      rintro e w2 ⟨rfl, B⟩
      exact ⟨_, rfl, hK _ _ rfl B⟩
    · intro a w1 hB ho hp K hK
      have e39 : a.eval (.tmp 39) = (.bool true) := hp 1 39 (by kernel_rfl)
      have e41 : a.eval (.tmp 41) = (.bool true) := hp 3 41 (by kernel_rfl)
      refine hop_val (wanted_none rfl) ?_ (hK (.bool true) _ rfl (Below.refl _ _))
      unfold execOp; simp only [eval_const, e39, e41]; simp [go_sem]
    · intro a w1 hB ho hp K hK
      have e42 : a.eval (.tmp 42) = (.bool true) := hp 4 42 (by kernel_rfl)
      refine hop_val (wanted_none rfl) ?_ (hK (.bool true) _ rfl (Below.refl _ _))
      unfold execOp; simp only [eval_const, e42]; simp [go_sem]
    · intro a w1 hB ho hp K hK
      have e2 : a.eval (.tmp 2) = (.pointer (some ⟨w.heap.size, 0, none⟩)) := ho 2 (by kernel_rfl)
      obtain ⟨u1, u2, u3, u4, u5, u6, u7, u8, u9⟩ := H_a.out.below hB
      exact hop_load (wanted_at rfl (j := 5) (d := 43) (b := true) (by kernel_rfl) (hp 5 43 (by kernel_rfl))) rfl e2 (run_ldq u1 u2 u3 u4) (hK _ _ rfl (Below.refl _ _))
    · intro a w1 hB ho hp K hK
      have e6 : a.eval (.tmp 6) = (.pointer (some ⟨w24.heap.size, 0, none⟩)) := ho 6 (by kernel_rfl)
      obtain ⟨u1, u2, u3, u4, u5, u6, u7, u8, u9⟩ := H_ba.out.below hB
      exact hop_load (wanted_at rfl (j := 5) (d := 43) (b := true) (by kernel_rfl) (hp 5 43 (by kernel_rfl))) rfl e6 (run_ldq u1 u2 u3 u4) (hK _ _ rfl (Below.refl _ _))
    · intro a w1 hB ho hp K hK
      have e44 : a.eval (.tmp 44) = (.agg #[.bool s, .slice A n c, .bool t, .slice B m d]) := hp 6 44 (by kernel_rfl)
      have e45 : a.eval (.tmp 45) = (.agg #[.bool s24, .slice A24 n24 c24, .bool t24, .slice D24 m24 d24]) := hp 7 45 (by kernel_rfl)
      refine hop_call (wanted_at rfl (j := 5) (d := 43) (b := true) (by kernel_rfl) (hp 5 43 (by kernel_rfl))) rfl (args := #[(.agg #[.bool s, .slice A n c, .bool t, .slice B m d]), (.agg #[.bool s24, .slice A24 n24 c24, .bool t24, .slice D24 m24 d24])]) (by simp only [List.map_toArray, List.map_cons, List.map_nil, eval_const, e44, e45]) (ent7 (by kernel_rfl) _ _) (cmp_q (ha.below hB) (pb.below hB).qv 2048 (by omega) (by omega) (by omega) (by omega) (by omega) (by omega) HC.out) ?_
      rintro e w2 ⟨rfl, B⟩
      exact ⟨_, rfl, hK _ _ rfl B⟩
    · intro a w1 hB ho hp K hK
      have e46 : a.eval (.tmp 46) = (.int .i64 0) := hp 8 46 (by kernel_rfl)
      refine hop_val (wanted_at rfl (j := 5) (d := 43) (b := true) (by kernel_rfl) (hp 5 43 (by kernel_rfl))) ?_ (hK (.bool true) _ rfl (Below.refl _ _))
      unfold execOp; simp only [eval_const, e46]; simp [go_sem]
    · intro a w1 hB ho hp K hK
      have e43 : a.eval (.tmp 43) = (.bool true) := hp 5 43 (by kernel_rfl)
      have e47 : a.eval (.tmp 47) = (.bool true) := hp 9 47 (by kernel_rfl)
      refine hop_val (wanted_none rfl) ?_ (hK (.bool true) _ rfl (Below.refl _ _))
      unfold execOp; simp only [eval_const, e43, e47]; simp [go_sem]
    · intro a w1 hB ho hp K hK
      have e48 : a.eval (.tmp 48) = (.bool true) := hp 10 48 (by kernel_rfl)
      refine hop_val (wanted_none rfl) ?_ (hK (.bool true) _ rfl (Below.refl _ _))
      unfold execOp; simp only [eval_const, e48]; simp [go_sem]
    · intro a w1 hB ho hp K hK
      have e9 : a.eval (.tmp 9) = (.bool true) := ho 9 (by kernel_rfl)
      refine hop_val (wanted_at rfl (j := 11) (d := 49) (b := true) (by kernel_rfl) (hp 11 49 (by kernel_rfl))) ?_ (hK (.bool true) _ rfl (Below.refl _ _))
      unfold execOp; simp only [eval_const, e9]; simp [go_sem]
    · intro a w1 hB ho hp K hK
      have e50 : a.eval (.tmp 50) = (.bool true) := hp 12 50 (by kernel_rfl)
      refine hop_val (wanted_at rfl (j := 11) (d := 49) (b := true) (by kernel_rfl) (hp 11 49 (by kernel_rfl))) ?_ (hK (.bool true) _ rfl (Below.refl _ _))
      unfold execOp; simp only [eval_const, e50]; simp [go_sem]
    · intro a w1 hB ho hp K hK
      have e8 : a.eval (.tmp 8) = (.pointer (some ⟨w26.heap.size, 0, none⟩)) := ho 8 (by kernel_rfl)
      obtain ⟨u1, u2, u3, u4, u5, u6, u7, u8, u9⟩ := H_ca.out.below hB
      exact hop_load (wanted_at rfl (j := 13) (d := 51) (b := true) (by kernel_rfl) (hp 13 51 (by kernel_rfl))) rfl e8 (run_ldq u1 u2 u3 u4) (hK _ _ rfl (Below.refl _ _))
    · intro a w1 hB ho hp K hK
      have e52 : a.eval (.tmp 52) = (.agg #[.bool s26, .slice A26 n26 c26, .bool t26, .slice D26 m26 d26]) := hp 14 52 (by kernel_rfl)
      refine hop_call (wanted_at rfl (j := 13) (d := 51) (b := true) (by kernel_rfl) (hp 13 51 (by kernel_rfl))) rfl (args := #[(.agg #[.bool s26, .slice A26 n26 c26, .bool t26, .slice D26 m26 d26])]) (by simp only [List.map_toArray, List.map_cons, List.map_nil, eval_const, e52]) (ent7 (by kernel_rfl) _ _) ((PR1 _) ▸ qprint_q (k := 900) (pc.below hB).qv (by omega) (by omega) (by omega) (by omega)) ?_
      rintro e w2 ⟨rfl, B⟩
      exact ⟨_, rfl, hK _ _ rfl B⟩
    · intro a w1 hB ho hp K hK
      have e1 : a.eval (.tmp 1) = (.string S) := ho 1 (by kernel_rfl)
      refine hop_val (wanted_at rfl (j := 13) (d := 51) (b := true) (by kernel_rfl) (hp 13 51 (by kernel_rfl))) ?_ (hK (.string S) _ rfl (Below.refl _ _))
      unfold execOp; simp only [eval_const, e1]; simp [go_sem]
    · intro a w1 hB ho hp K hK
      have e53 : a.eval (.tmp 53) = (.string S) := hp 15 53 (by kernel_rfl)
      have e54 : a.eval (.tmp 54) = (.string S) := hp 16 54 (by kernel_rfl)
      refine hop_val (wanted_at rfl (j := 13) (d := 51) (b := true) (by kernel_rfl) (hp 13 51 (by kernel_rfl))) ?_ (hK (.bool true) _ rfl (Below.refl _ _))
      unfold execOp; simp only [eval_const, e53, e54]; simp [go_sem]
    · intro a w1 hB ho hp K hK
      have e51 : a.eval (.tmp 51) = (.bool true) := hp 13 51 (by kernel_rfl)
      have e55 : a.eval (.tmp 55) = (.bool true) := hp 17 55 (by kernel_rfl)
      refine hop_val (wanted_at rfl (j := 11) (d := 49) (b := true) (by kernel_rfl) (hp 11 49 (by kernel_rfl))) ?_ (hK (.bool true) _ rfl (Below.refl _ _))
      unfold execOp; simp only [eval_const, e51, e55]; simp [go_sem]
    · intro a w1 hB ho hp K hK
      have e56 : a.eval (.tmp 56) = (.bool true) := hp 18 56 (by kernel_rfl)
      refine hop_val (wanted_at rfl (j := 11) (d := 49) (b := true) (by kernel_rfl) (hp 11 49 (by kernel_rfl))) ?_ (hK (.bool true) _ rfl (Below.refl _ _))
      unfold execOp; simp only [eval_const, e56]; simp [go_sem]
    · intro a w1 hB ho hp K hK
      have e8 : a.eval (.tmp 8) = (.pointer (some ⟨w26.heap.size, 0, none⟩)) := ho 8 (by kernel_rfl)
      obtain ⟨u1, u2, u3, u4, u5, u6, u7, u8, u9⟩ := H_ca.out.below hB
      exact hop_load (wanted_at rfl (j := 19) (d := 57) (b := true) (by kernel_rfl) (hp 19 57 (by kernel_rfl))) rfl e8 (run_ldq u1 u2 u3 u4) (hK _ _ rfl (Below.refl _ _))
    · intro a w1 hB ho hp K hK
      have e58 : a.eval (.tmp 58) = (.agg #[.bool s26, .slice A26 n26 c26, .bool t26, .slice D26 m26 d26]) := hp 20 58 (by kernel_rfl)
      refine hop_call (wanted_at rfl (j := 19) (d := 57) (b := true) (by kernel_rfl) (hp 19 57 (by kernel_rfl))) rfl (args := #[(.agg #[.bool s26, .slice A26 n26 c26, .bool t26, .slice D26 m26 d26])]) (by simp only [List.map_toArray, List.map_cons, List.map_nil, eval_const, e58]) (ent7 (by kernel_rfl) _ _) (normalr_v (pc.below hB) (by omega) (by omega)) ?_
      rintro e w2 ⟨rfl, B⟩
      exact ⟨_, rfl, hK _ _ rfl B⟩
    · intro a w1 hB ho hp K hK
      have e57 : a.eval (.tmp 57) = (.bool true) := hp 19 57 (by kernel_rfl)
      have e59 : a.eval (.tmp 59) = (.bool true) := hp 21 59 (by kernel_rfl)
      refine hop_val (wanted_at rfl (j := 11) (d := 49) (b := true) (by kernel_rfl) (hp 11 49 (by kernel_rfl))) ?_ (hK (.bool true) _ rfl (Below.refl _ _))
      unfold execOp; simp only [eval_const, e57, e59]; simp [go_sem]
    · intro a w1 hB ho hp K hK
      have e60 : a.eval (.tmp 60) = (.bool true) := hp 22 60 (by kernel_rfl)
      refine hop_val (wanted_at rfl (j := 11) (d := 49) (b := true) (by kernel_rfl) (hp 11 49 (by kernel_rfl))) ?_ (hK (.bool true) _ rfl (Below.refl _ _))
      unfold execOp; simp only [eval_const, e60]; simp [go_sem]
    · intro a w1 hB ho hp K hK
      exact hop_not (unwanted_at rfl (j := 23) (d := 61) (b := false) (by kernel_rfl) (hp 23 61 (by kernel_rfl)) rfl) (hK _ _ rfl (Below.refl _ _))
    · intro a w1 hB ho hp K hK
      exact hop_not (unwanted_at rfl (j := 23) (d := 61) (b := false) (by kernel_rfl) (hp 23 61 (by kernel_rfl)) rfl) (hK _ _ rfl (Below.refl _ _))
    · intro a w1 hB ho hp K hK
      exact hop_not (unwanted_at rfl (j := 23) (d := 61) (b := false) (by kernel_rfl) (hp 23 61 (by kernel_rfl)) rfl) (hK _ _ rfl (Below.refl _ _))
    · intro a w1 hB ho hp K hK
      exact hop_not (unwanted_undef rfl (j := 26) (d := 64) (b := true) (by kernel_rfl) (hp 26 64 (by kernel_rfl))) (hK _ _ rfl (Below.refl _ _))
    · intro a w1 hB ho hp K hK
      exact hop_not (unwanted_undef rfl (j := 26) (d := 64) (b := true) (by kernel_rfl) (hp 26 64 (by kernel_rfl))) (hK _ _ rfl (Below.refl _ _))
    · intro a w1 hB ho hp K hK
      exact hop_not (unwanted_undef rfl (j := 26) (d := 64) (b := true) (by kernel_rfl) (hp 26 64 (by kernel_rfl))) (hK _ _ rfl (Below.refl _ _))
    · intro a w1 hB ho hp K hK
      exact hop_not (unwanted_at rfl (j := 23) (d := 61) (b := false) (by kernel_rfl) (hp 23 61 (by kernel_rfl)) rfl) (hK _ _ rfl (Below.refl _ _))
    · intro a w1 hB ho hp K hK
      have e61 : a.eval (.tmp 61) = (.bool true) := hp 23 61 (by kernel_rfl)
      have e68 : a.eval (.tmp 68) = undef := hp 30 68 (by kernel_rfl)
      refine hop_val (wanted_at rfl (j := 11) (d := 49) (b := true) (by kernel_rfl) (hp 11 49 (by kernel_rfl))) ?_ (hK (.bool true) _ rfl (Below.refl _ _))
      unfold execOp; simp only [eval_const, e61, e68]; simp [go_sem]
    · intro a w1 hB ho hp K hK
      have e49 : a.eval (.tmp 49) = (.bool true) := hp 11 49 (by kernel_rfl)
      have e69 : a.eval (.tmp 69) = (.bool true) := hp 31 69 (by kernel_rfl)
      refine hop_val (wanted_none rfl) ?_ (hK (.bool true) _ rfl (Below.refl _ _))
      unfold execOp; simp only [eval_const, e49, e69]; simp [go_sem]
    · intro a w1 hB ho hp K hK
      have e70 : a.eval (.tmp 70) = (.bool true) := hp 32 70 (by kernel_rfl)
      refine hop_val (wanted_none rfl) ?_ (hK (.bool true) _ rfl (Below.refl _ _))
      unfold execOp; simp only [eval_const, e70]; simp [go_sem]
    · intro a w1 hB ho hp K hK
      have e10 : a.eval (.tmp 10) = (.int .i64 b0) := ho 10 (by kernel_rfl)
      refine hop_val (wanted_at rfl (j := 33) (d := 71) (b := true) (by kernel_rfl) (hp 33 71 (by kernel_rfl))) ?_ (hK (.int .i64 b0) _ rfl (Below.refl _ _))
      unfold execOp; simp only [eval_const, e10]; simp [go_sem]
    · intro a w1 hB ho hp K hK
      have e6 : a.eval (.tmp 6) = (.pointer (some ⟨w24.heap.size, 0, none⟩)) := ho 6 (by kernel_rfl)
      refine hop_val (wanted_at rfl (j := 33) (d := 71) (b := true) (by kernel_rfl) (hp 33 71 (by kernel_rfl))) ?_ (hK (.pointer (some ⟨w24.heap.size, 0, none⟩)) _ rfl (Below.refl _ _))
      unfold execOp; simp only [e6]; simp [go_sem]
    · intro a w1 hB ho hp K hK
      have e73 : a.eval (.tmp 73) = (.pointer (some ⟨w24.heap.size, 0, none⟩)) := hp 35 73 (by kernel_rfl)
      obtain ⟨u1, u2, u3, u4, u5, u6, u7, u8, u9⟩ := H_ba.out.below hB
      exact hop_load (wanted_at rfl (j := 33) (d := 71) (b := true) (by kernel_rfl) (hp 33 71 (by kernel_rfl))) rfl e73 (run_ldz u1 u2) (hK _ _ rfl (Below.refl _ _))
    · intro a w1 hB ho hp K hK
      have e74 : a.eval (.tmp 74) = (.agg #[.bool s24, .slice A24 n24 c24]) := hp 36 74 (by kernel_rfl)
      refine hop_call (wanted_at rfl (j := 33) (d := 71) (b := true) (by kernel_rfl) (hp 33 71 (by kernel_rfl))) rfl (args := #[(.agg #[.bool s24, .slice A24 n24 c24])]) (by simp only [List.map_toArray, List.map_cons, List.map_nil, eval_const, e74]) (ent7 (by kernel_rfl) _ _) (zbits_v (pb.below hB).nv (by omega) HB1.out) ?_
      rintro e w2 ⟨rfl, B⟩
      exact ⟨_, rfl, hK _ _ rfl B⟩
    · intro a w1 hB ho hp K hK
      have e6 : a.eval (.tmp 6) = (.pointer (some ⟨w24.heap.size, 0, none⟩)) := ho 6 (by kernel_rfl)
      refine hop_val (wanted_at rfl (j := 33) (d := 71) (b := true) (by kernel_rfl) (hp 33 71 (by kernel_rfl))) ?_ (hK (.pointer (some ⟨w24.heap.size, 2, none⟩)) _ rfl (Below.refl _ _))
      unfold execOp; simp only [e6]; simp [go_sem]
    · intro a w1 hB ho hp K hK
      have e76 : a.eval (.tmp 76) = (.pointer (some ⟨w24.heap.size, 2, none⟩)) := hp 38 76 (by kernel_rfl)
      obtain ⟨u1, u2, u3, u4, u5, u6, u7, u8, u9⟩ := H_ba.out.below hB
      exact hop_load (wanted_at rfl (j := 33) (d := 71) (b := true) (by kernel_rfl) (hp 33 71 (by kernel_rfl))) rfl e76 (run_ldz u3 u4) (hK _ _ rfl (Below.refl _ _))
    · intro a w1 hB ho hp K hK
      have e77 : a.eval (.tmp 77) = (.agg #[.bool t24, .slice D24 m24 d24]) := hp 39 77 (by kernel_rfl)
      refine hop_call (wanted_at rfl (j := 33) (d := 71) (b := true) (by kernel_rfl) (hp 33 71 (by kernel_rfl))) rfl (args := #[(.agg #[.bool t24, .slice D24 m24 d24])]) (by simp only [List.map_toArray, List.map_cons, List.map_nil, eval_const, e77]) (ent7 (by kernel_rfl) _ _) (zbits_v (pb.below hB).dv (by omega) HB2.out) ?_
      rintro e w2 ⟨rfl, B⟩
      exact ⟨_, rfl, hK _ _ rfl B⟩
    · intro a w1 hB ho hp K hK
      have e75 : a.eval (.tmp 75) = (.int .i64 (b1 : Int)) := hp 37 75 (by kernel_rfl)
      have e78 : a.eval (.tmp 78) = (.int .i64 (b2 : Int)) := hp 40 78 (by kernel_rfl)
      refine hop_val (wanted_at rfl (j := 33) (d := 71) (b := true) (by kernel_rfl) (hp 33 71 (by kernel_rfl))) ?_ (hK (.int .i64 b0) _ rfl (Below.refl _ _))
      unfold execOp; simp only [eval_const, resolve, Option.map_some, Option.map_none, List.map_toArray, List.map_cons, List.map_nil, e75, e78]; simp [go_sem, hb0]
    · intro a w1 hB ho hp K hK
      have e72 : a.eval (.tmp 72) = (.int .i64 b0) := hp 34 72 (by kernel_rfl)
      have e79 : a.eval (.tmp 79) = (.int .i64 b0) := hp 41 79 (by kernel_rfl)
      refine hop_val (wanted_at rfl (j := 33) (d := 71) (b := true) (by kernel_rfl) (hp 33 71 (by kernel_rfl))) ?_ (hK (.bool true) _ rfl (Below.refl _ _))
      unfold execOp; simp only [eval_const, e72, e79]; simp [go_sem]
    · intro a w1 hB ho hp K hK
      have e71 : a.eval (.tmp 71) = (.bool true) := hp 33 71 (by kernel_rfl)
      have e80 : a.eval (.tmp 80) = (.bool true) := hp 42 80 (by kernel_rfl)
      refine hop_val (wanted_none rfl) ?_ (hK (.bool true) _ rfl (Below.refl _ _))
      unfold execOp; simp only [eval_const, e71, e80]; simp [go_sem]
    · intro a w1 hB ho hp K hK
      have e81 : a.eval (.tmp 81) = (.bool true) := hp 43 81 (by kernel_rfl)
      refine hop_val (wanted_none rfl) ?_ (hK (.bool true) _ rfl (Below.refl _ _))
      unfold execOp; simp only [eval_const, e81]; simp [go_sem]
  intro w29 B29
  refine EndAll.one rfl fun vv hv => ?_
  obtain rfl : vv = (.bool true) := hv
  refine EndAll.one rfl fun vv hv => ?_
  obtain rfl : vv = (.bool true) := hv
  refine EndAll.one rfl fun vv hv => ?_
  obtain rfl : vv = (.agg #[.bool s24, .slice A24 n24 c24, .bool t24, .slice D24 m24 d24]) := hv
  refine EndAll.one rfl fun vv hv => ?_
  obtain rfl : vv = (.bool true) := hv
  refine EndAll.one rfl fun vv hv => ?_
  obtain rfl : vv = (.bool true) := hv
  refine EndAll.one rfl fun vv hv => ?_
  obtain rfl : vv = (.bool true) := hv
  refine EndAll.one rfl fun vv hv => ?_
  obtain rfl : vv = (.agg #[.bool s, .slice A n c, .bool t, .slice B m d]) := hv
  refine EndAll.one rfl fun vv hv => ?_
  obtain rfl : vv = (.agg #[.bool s24, .slice A24 n24 c24, .bool t24, .slice D24 m24 d24]) := hv
  refine EndAll.one rfl fun vv hv => ?_
  obtain rfl : vv = (.int .i64 0) := hv
  refine EndAll.one rfl fun vv hv => ?_
  obtain rfl : vv = (.bool true) := hv
  refine EndAll.one rfl fun vv hv => ?_
  obtain rfl : vv = (.bool true) := hv
  refine EndAll.one rfl fun vv hv => ?_
  obtain rfl : vv = (.bool true) := hv
  refine EndAll.one rfl fun vv hv => ?_
  obtain rfl : vv = (.bool true) := hv
  refine EndAll.one rfl fun vv hv => ?_
  obtain rfl : vv = (.bool true) := hv
  refine EndAll.one rfl fun vv hv => ?_
  obtain rfl : vv = (.agg #[.bool s26, .slice A26 n26 c26, .bool t26, .slice D26 m26 d26]) := hv
  refine EndAll.one rfl fun vv hv => ?_
  obtain rfl : vv = (.string S) := hv
  refine EndAll.one rfl fun vv hv => ?_
  obtain rfl : vv = (.string S) := hv
  refine EndAll.one rfl fun vv hv => ?_
  obtain rfl : vv = (.bool true) := hv
  refine EndAll.one rfl fun vv hv => ?_
  obtain rfl : vv = (.bool true) := hv
  refine EndAll.one rfl fun vv hv => ?_
  obtain rfl : vv = (.bool true) := hv
  refine EndAll.one rfl fun vv hv => ?_
  obtain rfl : vv = (.agg #[.bool s26, .slice A26 n26 c26, .bool t26, .slice D26 m26 d26]) := hv
  refine EndAll.one rfl fun vv hv => ?_
  obtain rfl : vv = (.bool true) := hv
  refine EndAll.one rfl fun vv hv => ?_
  obtain rfl : vv = (.bool true) := hv
  refine EndAll.one rfl fun vv hv => ?_
  obtain rfl : vv = (.bool true) := hv
  refine EndAll.one rfl fun vv hv => ?_
  obtain rfl : vv = undef := hv
  refine EndAll.one rfl fun vv hv => ?_
  obtain rfl : vv = undef := hv
  refine EndAll.one rfl fun vv hv => ?_
  obtain rfl : vv = undef := hv
  refine EndAll.one rfl fun vv hv => ?_
  obtain rfl : vv = undef := hv
  refine EndAll.one rfl fun vv hv => ?_
  obtain rfl : vv = undef := hv
  refine EndAll.one rfl fun vv hv => ?_
  obtain rfl : vv = undef := hv
  refine EndAll.one rfl fun vv hv => ?_
  obtain rfl : vv = undef := hv
  refine EndAll.one rfl fun vv hv => ?_
  obtain rfl : vv = (.bool true) := hv
  refine EndAll.one rfl fun vv hv => ?_
  obtain rfl : vv = (.bool true) := hv
  refine EndAll.one rfl fun vv hv => ?_
  obtain rfl : vv = (.bool true) := hv
  refine EndAll.one rfl fun vv hv => ?_
  obtain rfl : vv = (.int .i64 b0) := hv
  refine EndAll.one rfl fun vv hv => ?_
  obtain rfl : vv = (.pointer (some ⟨w24.heap.size, 0, none⟩)) := hv
  refine EndAll.one rfl fun vv hv => ?_
  obtain rfl : vv = (.agg #[.bool s24, .slice A24 n24 c24]) := hv
  refine EndAll.one rfl fun vv hv => ?_
  obtain rfl : vv = (.int .i64 (b1 : Int)) := hv
  refine EndAll.one rfl fun vv hv => ?_
  obtain rfl : vv = (.pointer (some ⟨w24.heap.size, 2, none⟩)) := hv
  refine EndAll.one rfl fun vv hv => ?_
  obtain rfl : vv = (.agg #[.bool t24, .slice D24 m24 d24]) := hv
  refine EndAll.one rfl fun vv hv => ?_
  obtain rfl : vv = (.int .i64 (b2 : Int)) := hv
  refine EndAll.one rfl fun vv hv => ?_
  obtain rfl : vv = (.int .i64 b0) := hv
  refine EndAll.one rfl fun vv hv => ?_
  obtain rfl : vv = (.bool true) := hv
  refine EndAll.one rfl fun vv hv => ?_
  obtain rfl : vv = (.bool true) := hv
  refine EndAll.one rfl fun vv hv => ?_
  obtain rfl : vv = (.bool true) := hv
  refine EndAll.nil (l := []) rfl ?_
  simp only [Act.put, List.setIfInBounds_toArray, List.set_cons_zero, List.set_cons_succ]
  replace H_a := Lib.hid (H_a.out.below B29)
  replace H_ba := Lib.hid (H_ba.out.below B29)
  replace H_ca := Lib.hid (H_ca.out.below B29)
  replace ha := ha.below B29
  replace pb := pb.below B29
  replace pc := pc.below B29
  replace hW := hW.trans (B29.mono hW.size)
  clear B29
  go_wp2_with fail
  go_ret
  exact ⟨rfl, hW⟩
set_option maxRecDepth 100000 in
set_option maxHeartbeats 16000000 in
theorem texts_no {A B : Option Addr} {n c m d : Nat} {s t : Bool} {N D : Int} {S : ByteArray} {w : World} (hn : Zv w s A n c N) (hd : Zv w t B m d D) (h1 : n ≤ 5) (h2 : m ≤ 5) (h3 : S.size ≤ 200) (HP : Hid (∀ w : World, Calls Tryz.prog 7 #[.string S] w (QbPost 0 false 1 w))) :
    Calls Tryz.prog 3 #[.agg #[.bool s, .slice A n c, .bool t, .slice B m d], .string S] w (TruePost w) := by
  have hW := Below.refl w.heap.size w
  obtain ⟨wp0, hwp0⟩ : ∃ x, x = w.alloc (.cells #[.bool s, .slice A n c, .bool t, .slice B m d] 27) := ⟨_, rfl⟩
  have zp0 : Below w.heap.size w wp0 := by rw [hwp0]; exact zba _ _
  have sp0 : wp0.heap.size = w.heap.size + 1 := by rw [hwp0, World.size_alloc]
  have Ia : Rb wp0 w.heap.size s A n c t B m d := by rw [hwp0]; exact Rb.new _ _ _ _ _ _ _ _ _ _
  replace hn := hn.below zp0
  replace hd := hd.below zp0
  replace hW := hW.trans (zp0.mono hW.size)
  have H_a := Lib.hid Ia
  clear Ia zp0
  have HW : Hid ((w.alloc (.cells #[.bool s, .slice A n c, .bool t, .slice B m d] 27)) = wp0) := Lib.hid (by rw [hwp0])
  have lw_a : w.heap.size ≤ w.heap.size := by omega
  clear hwp0 sp0
  have HF1 : Hid (decide (n ≤ 5 ∧ m ≤ 5) = true) := Lib.hid (decide_eq_true ⟨h1, h2⟩)
  have e1 : nd (Rat.divInt N D).num.natAbs ≤ 20000 := nd_small (K := 6) (num_le N D) (Nat.lt_of_lt_of_le hn.lt (Nat.pow_le_pow_right (by omega) (by omega))) (by omega)
  have e2 : nd (Rat.divInt N D).den ≤ 20000 := nd_small (K := 6) (den_le N D) (by have := hd.lt; have h5 : (18446744073709551616 : Nat) ^ m ≤ 18446744073709551616 ^ 5 := Nat.pow_le_pow_right (by omega) h2; have h6 : (18446744073709551616 : Nat) ^ 6 = 18446744073709551616 ^ 5 * 18446744073709551616 := Nat.pow_succ .. ; have h7 : 0 < (18446744073709551616 : Nat) ^ 5 := Nat.pow_pos (by omega); omega) (by omega)
  have HT := fun w : World => qparse_of e1 e2 w
  clear e1 e2
  obtain ⟨p, hp⟩ : ∃ p, Rat.divInt N D = p := ⟨_, rfl⟩
  have ha := Qv.mk hn hd
  rw [hp] at ha HT
  obtain ⟨S0, hS0⟩ : ∃ S, qstr p = S := ⟨_, rfl⟩
  rw [hS0] at HT
  have HTT := Lib.hid HT
  have PR0 : ∀ w : World, QPrPost p w = fun e w' => e = .returned (.string S0) ∧ Below w.heap.size w w' := fun w => by unfold QPrPost; rw [hS0]
  obtain ⟨b1, hb1⟩ : ∃ b, bl p.num.natAbs = b := ⟨_, rfl⟩
  obtain ⟨b2, hb2⟩ : ∃ b, bl p.den = b := ⟨_, rfl⟩
  have HB1 := Lib.hid hb1
  have HB2 : Hid (bl ((p.den : Int)).natAbs = b2) := Lib.hid (by rw [Int.natAbs_natCast, hb2])
  obtain ⟨b0, hb0⟩ : ∃ b, max (b1 : Int) (b2 : Int) = b := ⟨_, rfl⟩
  have HB : Hid (max (bl p.num.natAbs : Int) (bl p.den : Int) = b0) := Lib.hid (by rw [hb1, hb2, hb0])
  have HC : Hid (rsg (p - p) = 0) := Lib.hid (rsg_eq.2 (by grind))
  clear HT hp hS0 hb1 hb2
  have HS : Hid (rsg (0 : Rat) = 0) := Lib.hid rfl
  go_enter Tryz.func3, Tryz.ntmps3
  obtain ⟨a1, a2, a3, a4, a5, a6, a7, a8, a9⟩ := H_a.out
  go_wp2_with fail
  rw [HW.out]
  clear a1 a2 a3 a4 a5 a6 a7 a8 a9
  refine (qawake_v _).mono ?_
  rintro e w21 ⟨rfl, B21⟩
  replace H_a := Lib.hid (H_a.out.below B21)
  replace hn := hn.below B21
  replace hd := hd.below B21
  replace ha := ha.below B21
  replace hW := hW.trans (B21.mono hW.size)
  clear B21
  obtain ⟨a1, a2, a3, a4, a5, a6, a7, a8, a9⟩ := H_a.out
  go_wp2_with fail
  clear a1 a2 a3 a4 a5 a6 a7 a8 a9
  refine (few7_v (k := 5) (b := true) (by omega) (by omega) (by omega) HF1.out).mono ?_
  rintro e w22 ⟨rfl, B22⟩
  replace H_a := Lib.hid (H_a.out.below B22)
  replace hn := hn.below B22
  replace hd := hd.below B22
  replace ha := ha.below B22
  replace hW := hW.trans (B22.mono hW.size)
  clear B22
  clear hn hd
  obtain ⟨a1, a2, a3, a4, a5, a6, a7, a8, a9⟩ := H_a.out
  go_wp2_with fail
  clear a1 a2 a3 a4 a5 a6 a7 a8 a9
  refine ((PR0 _) ▸ qprint_q (k := 5) ha (by omega) (by omega) (by omega) (by omega)).mono ?_
  rintro e w23 ⟨rfl, B23⟩
  replace H_a := Lib.hid (H_a.out.below B23)
  replace ha := ha.below B23
  replace hW := hW.trans (B23.mono hW.size)
  clear B23
  obtain ⟨a1, a2, a3, a4, a5, a6, a7, a8, a9⟩ := H_a.out
  go_wp2_with fail
  clear a1 a2 a3 a4 a5 a6 a7 a8 a9
  refine (HTT.out _).mono ?_
  rintro e w24 ⟨s24, A24, n24, c24, t24, D24, m24, d24, rfl, pb, k24, l24, B24⟩
  replace H_a := Lib.hid (H_a.out.below B24)
  replace ha := ha.below B24
  replace hW := hW.trans (B24.mono hW.size)
  clear B24
  have O_a := H_a
  obtain ⟨w25, hw25⟩ : ∃ x, x = w24.alloc (.cells #[.bool s24, .slice A24 n24 c24, .bool t24, .slice D24 m24 d24] 27) := ⟨_, rfl⟩
  have z25 : Below w24.heap.size w24 w25 := by rw [hw25]; exact zba _ _
  have HW25 : Hid (w24.alloc (.cells #[.bool s24, .slice A24 n24 c24, .bool t24, .slice D24 m24 d24] 27) = w25) := Lib.hid hw25.symm
  have nn_a_ba : ¬ (w.heap.size = w24.heap.size) := by have := H_a.out.2.2.2.2.2.2.2.2; omega
  have nm_a_ba : ¬ (w24.heap.size = w.heap.size) := by omega
  have lw_ba : w.heap.size ≤ w24.heap.size := by have := hW.size; omega
  replace H_a := Lib.hid (H_a.out.below z25)
  replace ha := ha.below z25
  replace pb := pb.below z25
  replace hW := hW.trans (z25.mono hW.size)
  have H_ba : Hid (Rb w25 w24.heap.size s24 A24 n24 c24 t24 D24 m24 d24) := Lib.hid (by rw [hw25]; exact Rb.new _ _ _ _ _ _ _ _ _ _)
  clear z25 hw25
  obtain ⟨a1, a2, a3, a4, a5, a6, a7, a8, a9⟩ := O_a.out
  go_wp2_with fail
  rw [HW25.out]
  clear a1 a2 a3 a4 a5 a6 a7 a8 a9 O_a
  refine (HP.out _).mono ?_
  rintro e w26 ⟨s26, A26, n26, c26, t26, D26, m26, d26, rfl, pc, k26, l26, B26⟩
  replace H_a := Lib.hid (H_a.out.below B26)
  replace H_ba := Lib.hid (H_ba.out.below B26)
  replace ha := ha.below B26
  replace pb := pb.below B26
  replace hW := hW.trans (B26.mono hW.size)
  clear B26
  have O_a := H_a
  have O_ba := H_ba
  obtain ⟨w27, hw27⟩ : ∃ x, x = w26.alloc (.cells #[.bool s26, .slice A26 n26 c26, .bool t26, .slice D26 m26 d26] 27) := ⟨_, rfl⟩
  have z27 : Below w26.heap.size w26 w27 := by rw [hw27]; exact zba _ _
  have HW27 : Hid (w26.alloc (.cells #[.bool s26, .slice A26 n26 c26, .bool t26, .slice D26 m26 d26] 27) = w27) := Lib.hid hw27.symm
  have nn_a_ca : ¬ (w.heap.size = w26.heap.size) := by have := H_a.out.2.2.2.2.2.2.2.2; omega
  have nm_a_ca : ¬ (w26.heap.size = w.heap.size) := by omega
  have nn_ba_ca : ¬ (w24.heap.size = w26.heap.size) := by have := H_ba.out.2.2.2.2.2.2.2.2; omega
  have nm_ba_ca : ¬ (w26.heap.size = w24.heap.size) := by omega
  have lw_ca : w.heap.size ≤ w26.heap.size := by have := hW.size; omega
  replace H_a := Lib.hid (H_a.out.below z27)
  replace H_ba := Lib.hid (H_ba.out.below z27)
  replace ha := ha.below z27
  replace pb := pb.below z27
  replace pc := pc.below z27
  replace hW := hW.trans (z27.mono hW.size)
  have H_ca : Hid (Rb w27 w26.heap.size s26 A26 n26 c26 t26 D26 m26 d26) := Lib.hid (by rw [hw27]; exact Rb.new _ _ _ _ _ _ _ _ _ _)
  clear z27 hw27
  obtain ⟨a1, a2, a3, a4, a5, a6, a7, a8, a9⟩ := O_a.out
  obtain ⟨ba1, ba2, ba3, ba4, ba5, ba6, ba7, ba8, ba9⟩ := O_ba.out
  go_wp2_with fail
  rw [HW27.out]
  clear a1 a2 a3 a4 a5 a6 a7 a8 a9 ba1 ba2 ba3 ba4 ba5 ba6 ba7 ba8 ba9 O_a O_ba
  refine (qbits_v (k := 5) ha (by omega) (by omega) (by omega) (by omega) HB.out).mono ?_
  rintro e w28 ⟨rfl, B28⟩
  replace H_a := Lib.hid (H_a.out.below B28)
  replace H_ba := Lib.hid (H_ba.out.below B28)
  replace H_ca := Lib.hid (H_ca.out.below B28)
  replace ha := ha.below B28
  replace pb := pb.below B28
  replace pc := pc.below B28
  replace hW := hW.trans (B28.mono hW.size)
  clear B28
  obtain ⟨a1, a2, a3, a4, a5, a6, a7, a8, a9⟩ := H_a.out
  obtain ⟨ba1, ba2, ba3, ba4, ba5, ba6, ba7, ba8, ba9⟩ := H_ba.out
  obtain ⟨ca1, ca2, ca3, ca4, ca5, ca6, ca7, ca8, ca9⟩ := H_ca.out
  go_wp2_with fail
  clear a1 a2 a3 a4 a5 a6 a7 a8 a9 ba1 ba2 ba3 ba4 ba5 ba6 ba7 ba8 ba9 ca1 ca2 ca3 ca4 ca5 ca6 ca7 ca8 ca9
  refine region7 [] 45 [IsK (.bool true), IsK (.bool true), IsK (.agg #[.bool s24, .slice A24 n24 c24, .bool t24, .slice D24 m24 d24]), IsK (.bool true), IsK (.bool true), IsK (.bool true), IsK (.agg #[.bool s, .slice A n c, .bool t, .slice B m d]), IsK (.agg #[.bool s24, .slice A24 n24 c24, .bool t24, .slice D24 m24 d24]), IsK (.int .i64 0), IsK (.bool true), IsK (.bool true), IsK (.bool true), IsK (.bool false), IsK (.bool false), IsK undef, IsK undef, IsK undef, IsK undef, IsK (.bool false), IsK (.bool false), IsK undef, IsK undef, IsK (.bool false), IsK (.bool false), IsK (.bool false), IsK (.bool true), IsK (.bool true), IsK (.agg #[.bool s26, .slice A26 n26 c26, .bool t26, .slice D26 m26 d26]), IsK (.int .i64 0), IsK (.bool true), IsK (.bool true), IsK (.bool true), IsK (.bool true), IsK (.bool true), IsK (.int .i64 b0), IsK (.pointer (some ⟨w24.heap.size, 0, none⟩)), IsK (.agg #[.bool s24, .slice A24 n24 c24]), IsK (.int .i64 (b1 : Int)), IsK (.pointer (some ⟨w24.heap.size, 2, none⟩)), IsK (.agg #[.bool t24, .slice D24 m24 d24]), IsK (.int .i64 (b2 : Int)), IsK (.int .i64 b0), IsK (.bool true), IsK (.bool true), IsK (.bool true)] (fun _ _ d _ _ h => by cases d <;> exact h) (by kernel_rfl) (by kernel_rfl) (by kernel_rfl) ⟨stay_k _, stay_k _, stay_k _, stay_k _, stay_k _, stay_k _, stay_k _, stay_k _, stay_k _, stay_k _, stay_k _, stay_k _, stay_k _, stay_k _, stay_k _, stay_k _, stay_k _, stay_k _, stay_k _, stay_k _, stay_k _, stay_k _, stay_k _, stay_k _, stay_k _, stay_k _, stay_k _, stay_k _, stay_k _, stay_k _, stay_k _, stay_k _, stay_k _, stay_k _, stay_k _, stay_k _, stay_k _, stay_k _, stay_k _, stay_k _, stay_k _, stay_k _, stay_k _, stay_k _, stay_k _, trivial⟩ ?_ ?_
  · refine HopAll.cons rfl ?_ (HopAll.cons rfl ?_ (HopAll.cons rfl ?_ (HopAll.cons rfl ?_ (HopAll.cons rfl ?_ (HopAll.cons rfl ?_ (HopAll.cons rfl ?_ (HopAll.cons rfl ?_ (HopAll.cons rfl ?_ (HopAll.cons rfl ?_ (HopAll.cons rfl ?_ (HopAll.cons rfl ?_ (HopAll.cons rfl ?_ (HopAll.cons rfl ?_ (HopAll.cons rfl ?_ (HopAll.cons rfl ?_ (HopAll.cons rfl ?_ (HopAll.cons rfl ?_ (HopAll.cons rfl ?_ (HopAll.cons rfl ?_ (HopAll.cons rfl ?_ (HopAll.cons rfl ?_ (HopAll.cons rfl ?_ (HopAll.cons rfl ?_ (HopAll.cons rfl ?_ (HopAll.cons rfl ?_ (HopAll.cons rfl ?_ (HopAll.cons rfl ?_ (HopAll.cons rfl ?_ (HopAll.cons rfl ?_ (HopAll.cons rfl ?_ (HopAll.cons rfl ?_ (HopAll.cons rfl ?_ (HopAll.cons rfl ?_ (HopAll.cons rfl ?_ (HopAll.cons rfl ?_ (HopAll.cons rfl ?_ (HopAll.cons rfl ?_ (HopAll.cons rfl ?_ (HopAll.cons rfl ?_ (HopAll.cons rfl ?_ (HopAll.cons rfl ?_ (HopAll.cons rfl ?_ (HopAll.cons rfl ?_ (HopAll.cons rfl ?_ HopAll.nil))))))))))))))))))))))))))))))))))))))))))))
    · intro a w1 hB ho hp K hK
      have e7 : a.eval (.tmp 7) = (.bool true) := ho 7 (by kernel_rfl)
      refine hop_val (wanted_none rfl) ?_ (hK (.bool true) _ rfl (Below.refl _ _))
      unfold execOp; simp only [eval_const, e7]; simp [go_sem]
    · intro a w1 hB ho hp K hK
      have e38 : a.eval (.tmp 38) = (.bool true) := hp 0 38 (by kernel_rfl)
      refine hop_val (wanted_none rfl) ?_ (hK (.bool true) _ rfl (Below.refl _ _))
      unfold execOp; simp only [eval_const, e38]; simp [go_sem]
    · intro a w1 hB ho hp K hK
      have e6 : a.eval (.tmp 6) = (.pointer (some ⟨w24.heap.size, 0, none⟩)) := ho 6 (by kernel_rfl)
      obtain ⟨u1, u2, u3, u4, u5, u6, u7, u8, u9⟩ := H_ba.out.below hB
      exact hop_load (wanted_at rfl (j := 1) (d := 39) (b := true) (by kernel_rfl) (hp 1 39 (by kernel_rfl))) rfl e6 (run_ldq u1 u2 u3 u4) (hK _ _ rfl (Below.refl _ _))
    · intro a w1 hB ho hp K hK
      have e40 : a.eval (.tmp 40) = (.agg #[.bool s24, .slice A24 n24 c24, .bool t24, .slice D24 m24 d24]) := hp 2 40 (by kernel_rfl)
      refine hop_call (wanted_at rfl (j := 1) (d := 39) (b := true) (by kernel_rfl) (hp 1 39 (by kernel_rfl))) rfl (args := #[(.agg #[.bool s24, .slice A24 n24 c24, .bool t24, .slice D24 m24 d24])]) (by simp only [List.map_toArray, List.map_cons, List.map_nil, eval_const, e40]) (ent7 (by kernel_rfl) _ _) (normalr_v (pb.below hB) (by omega) (by omega)) ?_
      rintro e w2 ⟨rfl, B⟩
      exact ⟨_, rfl, hK _ _ rfl B⟩
    · intro a w1 hB ho hp K hK
      have e39 : a.eval (.tmp 39) = (.bool true) := hp 1 39 (by kernel_rfl)
      have e41 : a.eval (.tmp 41) = (.bool true) := hp 3 41 (by kernel_rfl)
      refine hop_val (wanted_none rfl) ?_ (hK (.bool true) _ rfl (Below.refl _ _))
      unfold execOp; simp only [eval_const, e39, e41]; simp [go_sem]
    · intro a w1 hB ho hp K hK
      have e42 : a.eval (.tmp 42) = (.bool true) := hp 4 42 (by kernel_rfl)
      refine hop_val (wanted_none rfl) ?_ (hK (.bool true) _ rfl (Below.refl _ _))
      unfold execOp; simp only [eval_const, e42]; simp [go_sem]
    · intro a w1 hB ho hp K hK
      have e2 : a.eval (.tmp 2) = (.pointer (some ⟨w.heap.size, 0, none⟩)) := ho 2 (by kernel_rfl)
      obtain ⟨u1, u2, u3, u4, u5, u6, u7, u8, u9⟩ := H_a.out.below hB
      exact hop_load (wanted_at rfl (j := 5) (d := 43) (b := true) (by kernel_rfl) (hp 5 43 (by kernel_rfl))) rfl e2 (run_ldq u1 u2 u3 u4) (hK _ _ rfl (Below.refl _ _))
    · intro a w1 hB ho hp K hK
      have e6 : a.eval (.tmp 6) = (.pointer (some ⟨w24.heap.size, 0, none⟩)) := ho 6 (by kernel_rfl)
      obtain ⟨u1, u2, u3, u4, u5, u6, u7, u8, u9⟩ := H_ba.out.below hB
      exact hop_load (wanted_at rfl (j := 5) (d := 43) (b := true) (by kernel_rfl) (hp 5 43 (by kernel_rfl))) rfl e6 (run_ldq u1 u2 u3 u4) (hK _ _ rfl (Below.refl _ _))
    · intro a w1 hB ho hp K hK
      have e44 : a.eval (.tmp 44) = (.agg #[.bool s, .slice A n c, .bool t, .slice B m d]) := hp 6 44 (by kernel_rfl)
      have e45 : a.eval (.tmp 45) = (.agg #[.bool s24, .slice A24 n24 c24, .bool t24, .slice D24 m24 d24]) := hp 7 45 (by kernel_rfl)
      refine hop_call (wanted_at rfl (j := 5) (d := 43) (b := true) (by kernel_rfl) (hp 5 43 (by kernel_rfl))) rfl (args := #[(.agg #[.bool s, .slice A n c, .bool t, .slice B m d]), (.agg #[.bool s24, .slice A24 n24 c24, .bool t24, .slice D24 m24 d24])]) (by simp only [List.map_toArray, List.map_cons, List.map_nil, eval_const, e44, e45]) (ent7 (by kernel_rfl) _ _) (cmp_q (ha.below hB) (pb.below hB).qv 2048 (by omega) (by omega) (by omega) (by omega) (by omega) (by omega) HC.out) ?_
      rintro e w2 ⟨rfl, B⟩
      exact ⟨_, rfl, hK _ _ rfl B⟩
    · intro a w1 hB ho hp K hK
      have e46 : a.eval (.tmp 46) = (.int .i64 0) := hp 8 46 (by kernel_rfl)
      refine hop_val (wanted_at rfl (j := 5) (d := 43) (b := true) (by kernel_rfl) (hp 5 43 (by kernel_rfl))) ?_ (hK (.bool true) _ rfl (Below.refl _ _))
      unfold execOp; simp only [eval_const, e46]; simp [go_sem]
    · intro a w1 hB ho hp K hK
      have e43 : a.eval (.tmp 43) = (.bool true) := hp 5 43 (by kernel_rfl)
      have e47 : a.eval (.tmp 47) = (.bool true) := hp 9 47 (by kernel_rfl)
      refine hop_val (wanted_none rfl) ?_ (hK (.bool true) _ rfl (Below.refl _ _))
      unfold execOp; simp only [eval_const, e43, e47]; simp [go_sem]
    · intro a w1 hB ho hp K hK
      have e48 : a.eval (.tmp 48) = (.bool true) := hp 10 48 (by kernel_rfl)
      refine hop_val (wanted_none rfl) ?_ (hK (.bool true) _ rfl (Below.refl _ _))
      unfold execOp; simp only [eval_const, e48]; simp [go_sem]
    · intro a w1 hB ho hp K hK
      have e9 : a.eval (.tmp 9) = (.bool false) := ho 9 (by kernel_rfl)
      refine hop_val (wanted_at rfl (j := 11) (d := 49) (b := true) (by kernel_rfl) (hp 11 49 (by kernel_rfl))) ?_ (hK (.bool false) _ rfl (Below.refl _ _))
      unfold execOp; simp only [eval_const, e9]; simp [go_sem]
    · intro a w1 hB ho hp K hK
      have e50 : a.eval (.tmp 50) = (.bool false) := hp 12 50 (by kernel_rfl)
      refine hop_val (wanted_at rfl (j := 11) (d := 49) (b := true) (by kernel_rfl) (hp 11 49 (by kernel_rfl))) ?_ (hK (.bool false) _ rfl (Below.refl _ _))
      unfold execOp; simp only [eval_const, e50]; simp [go_sem]
    · intro a w1 hB ho hp K hK
      exact hop_not (unwanted_at rfl (j := 13) (d := 51) (b := true) (by kernel_rfl) (hp 13 51 (by kernel_rfl)) rfl) (hK _ _ rfl (Below.refl _ _))
    · intro a w1 hB ho hp K hK
      exact hop_not (unwanted_at rfl (j := 13) (d := 51) (b := true) (by kernel_rfl) (hp 13 51 (by kernel_rfl)) rfl) (hK _ _ rfl (Below.refl _ _))
    · intro a w1 hB ho hp K hK
      exact hop_not (unwanted_at rfl (j := 13) (d := 51) (b := true) (by kernel_rfl) (hp 13 51 (by kernel_rfl)) rfl) (hK _ _ rfl (Below.refl _ _))
    · intro a w1 hB ho hp K hK
      exact hop_not (unwanted_at rfl (j := 13) (d := 51) (b := true) (by kernel_rfl) (hp 13 51 (by kernel_rfl)) rfl) (hK _ _ rfl (Below.refl _ _))
    · intro a w1 hB ho hp K hK
      have e51 : a.eval (.tmp 51) = (.bool false) := hp 13 51 (by kernel_rfl)
      have e55 : a.eval (.tmp 55) = undef := hp 17 55 (by kernel_rfl)
      refine hop_val (wanted_at rfl (j := 11) (d := 49) (b := true) (by kernel_rfl) (hp 11 49 (by kernel_rfl))) ?_ (hK (.bool false) _ rfl (Below.refl _ _))
      unfold execOp; simp only [eval_const, e51, e55]; simp [go_sem]
    · intro a w1 hB ho hp K hK
      have e56 : a.eval (.tmp 56) = (.bool false) := hp 18 56 (by kernel_rfl)
      refine hop_val (wanted_at rfl (j := 11) (d := 49) (b := true) (by kernel_rfl) (hp 11 49 (by kernel_rfl))) ?_ (hK (.bool false) _ rfl (Below.refl _ _))
      unfold execOp; simp only [eval_const, e56]; simp [go_sem]
    · intro a w1 hB ho hp K hK
      exact hop_not (unwanted_at rfl (j := 19) (d := 57) (b := true) (by kernel_rfl) (hp 19 57 (by kernel_rfl)) rfl) (hK _ _ rfl (Below.refl _ _))
    · intro a w1 hB ho hp K hK
      exact hop_not (unwanted_at rfl (j := 19) (d := 57) (b := true) (by kernel_rfl) (hp 19 57 (by kernel_rfl)) rfl) (hK _ _ rfl (Below.refl _ _))
    · intro a w1 hB ho hp K hK
      have e57 : a.eval (.tmp 57) = (.bool false) := hp 19 57 (by kernel_rfl)
      have e59 : a.eval (.tmp 59) = undef := hp 21 59 (by kernel_rfl)
      refine hop_val (wanted_at rfl (j := 11) (d := 49) (b := true) (by kernel_rfl) (hp 11 49 (by kernel_rfl))) ?_ (hK (.bool false) _ rfl (Below.refl _ _))
      unfold execOp; simp only [eval_const, e57, e59]; simp [go_sem]
    · intro a w1 hB ho hp K hK
      have e60 : a.eval (.tmp 60) = (.bool false) := hp 22 60 (by kernel_rfl)
      refine hop_val (wanted_at rfl (j := 11) (d := 49) (b := true) (by kernel_rfl) (hp 11 49 (by kernel_rfl))) ?_ (hK (.bool false) _ rfl (Below.refl _ _))
      unfold execOp; simp only [eval_const, e60]; simp [go_sem]
    · intro a w1 hB ho hp K hK
      have e9 : a.eval (.tmp 9) = (.bool false) := ho 9 (by kernel_rfl)
      refine hop_val (wanted_at rfl (j := 23) (d := 61) (b := false) (by kernel_rfl) (hp 23 61 (by kernel_rfl))) ?_ (hK (.bool false) _ rfl (Below.refl _ _))
      unfold execOp; simp only [eval_const, e9]; simp [go_sem]
    · intro a w1 hB ho hp K hK
      have e62 : a.eval (.tmp 62) = (.bool false) := hp 24 62 (by kernel_rfl)
      refine hop_val (wanted_at rfl (j := 23) (d := 61) (b := false) (by kernel_rfl) (hp 23 61 (by kernel_rfl))) ?_ (hK (.bool true) _ rfl (Below.refl _ _))
      unfold execOp; simp only [eval_const, e62]; simp [go_sem]
    · intro a w1 hB ho hp K hK
      have e63 : a.eval (.tmp 63) = (.bool true) := hp 25 63 (by kernel_rfl)
      refine hop_val (wanted_at rfl (j := 23) (d := 61) (b := false) (by kernel_rfl) (hp 23 61 (by kernel_rfl))) ?_ (hK (.bool true) _ rfl (Below.refl _ _))
      unfold execOp; simp only [eval_const, e63]; simp [go_sem]
    · intro a w1 hB ho hp K hK
      have e8 : a.eval (.tmp 8) = (.pointer (some ⟨w26.heap.size, 0, none⟩)) := ho 8 (by kernel_rfl)
      obtain ⟨u1, u2, u3, u4, u5, u6, u7, u8, u9⟩ := H_ca.out.below hB
      exact hop_load (wanted_at rfl (j := 26) (d := 64) (b := true) (by kernel_rfl) (hp 26 64 (by kernel_rfl))) rfl e8 (run_ldq u1 u2 u3 u4) (hK _ _ rfl (Below.refl _ _))
    · intro a w1 hB ho hp K hK
      have e65 : a.eval (.tmp 65) = (.agg #[.bool s26, .slice A26 n26 c26, .bool t26, .slice D26 m26 d26]) := hp 27 65 (by kernel_rfl)
      refine hop_call (wanted_at rfl (j := 26) (d := 64) (b := true) (by kernel_rfl) (hp 26 64 (by kernel_rfl))) rfl (args := #[(.agg #[.bool s26, .slice A26 n26 c26, .bool t26, .slice D26 m26 d26])]) (by simp only [List.map_toArray, List.map_cons, List.map_nil, eval_const, e65]) (ent7 (by kernel_rfl) _ _) (sign_q (pc.below hB).qv 1 (by omega) (by omega) (by omega) HS.out) ?_
      rintro e w2 ⟨rfl, B⟩
      exact ⟨_, rfl, hK _ _ rfl B⟩
    · intro a w1 hB ho hp K hK
      have e66 : a.eval (.tmp 66) = (.int .i64 0) := hp 28 66 (by kernel_rfl)
      refine hop_val (wanted_at rfl (j := 26) (d := 64) (b := true) (by kernel_rfl) (hp 26 64 (by kernel_rfl))) ?_ (hK (.bool true) _ rfl (Below.refl _ _))
      unfold execOp; simp only [eval_const, e66]; simp [go_sem]
    · intro a w1 hB ho hp K hK
      have e64 : a.eval (.tmp 64) = (.bool true) := hp 26 64 (by kernel_rfl)
      have e67 : a.eval (.tmp 67) = (.bool true) := hp 29 67 (by kernel_rfl)
      refine hop_val (wanted_at rfl (j := 23) (d := 61) (b := false) (by kernel_rfl) (hp 23 61 (by kernel_rfl))) ?_ (hK (.bool true) _ rfl (Below.refl _ _))
      unfold execOp; simp only [eval_const, e64, e67]; simp [go_sem]
    · intro a w1 hB ho hp K hK
      have e61 : a.eval (.tmp 61) = (.bool false) := hp 23 61 (by kernel_rfl)
      have e68 : a.eval (.tmp 68) = (.bool true) := hp 30 68 (by kernel_rfl)
      refine hop_val (wanted_at rfl (j := 11) (d := 49) (b := true) (by kernel_rfl) (hp 11 49 (by kernel_rfl))) ?_ (hK (.bool true) _ rfl (Below.refl _ _))
      unfold execOp; simp only [eval_const, e61, e68]; simp [go_sem]
    · intro a w1 hB ho hp K hK
      have e49 : a.eval (.tmp 49) = (.bool true) := hp 11 49 (by kernel_rfl)
      have e69 : a.eval (.tmp 69) = (.bool true) := hp 31 69 (by kernel_rfl)
      refine hop_val (wanted_none rfl) ?_ (hK (.bool true) _ rfl (Below.refl _ _))
      unfold execOp; simp only [eval_const, e49, e69]; simp [go_sem]
    · intro a w1 hB ho hp K hK
      have e70 : a.eval (.tmp 70) = (.bool true) := hp 32 70 (by kernel_rfl)
      refine hop_val (wanted_none rfl) ?_ (hK (.bool true) _ rfl (Below.refl _ _))
      unfold execOp; simp only [eval_const, e70]; simp [go_sem]
    · intro a w1 hB ho hp K hK
      have e10 : a.eval (.tmp 10) = (.int .i64 b0) := ho 10 (by kernel_rfl)
      refine hop_val (wanted_at rfl (j := 33) (d := 71) (b := true) (by kernel_rfl) (hp 33 71 (by kernel_rfl))) ?_ (hK (.int .i64 b0) _ rfl (Below.refl _ _))
      unfold execOp; simp only [eval_const, e10]; simp [go_sem]
    · intro a w1 hB ho hp K hK
      have e6 : a.eval (.tmp 6) = (.pointer (some ⟨w24.heap.size, 0, none⟩)) := ho 6 (by kernel_rfl)
      refine hop_val (wanted_at rfl (j := 33) (d := 71) (b := true) (by kernel_rfl) (hp 33 71 (by kernel_rfl))) ?_ (hK (.pointer (some ⟨w24.heap.size, 0, none⟩)) _ rfl (Below.refl _ _))
      unfold execOp; simp only [e6]; simp [go_sem]
    · intro a w1 hB ho hp K hK
      have e73 : a.eval (.tmp 73) = (.pointer (some ⟨w24.heap.size, 0, none⟩)) := hp 35 73 (by kernel_rfl)
      obtain ⟨u1, u2, u3, u4, u5, u6, u7, u8, u9⟩ := H_ba.out.below hB
      exact hop_load (wanted_at rfl (j := 33) (d := 71) (b := true) (by kernel_rfl) (hp 33 71 (by kernel_rfl))) rfl e73 (run_ldz u1 u2) (hK _ _ rfl (Below.refl _ _))
    · intro a w1 hB ho hp K hK
      have e74 : a.eval (.tmp 74) = (.agg #[.bool s24, .slice A24 n24 c24]) := hp 36 74 (by kernel_rfl)
      refine hop_call (wanted_at rfl (j := 33) (d := 71) (b := true) (by kernel_rfl) (hp 33 71 (by kernel_rfl))) rfl (args := #[(.agg #[.bool s24, .slice A24 n24 c24])]) (by simp only [List.map_toArray, List.map_cons, List.map_nil, eval_const, e74]) (ent7 (by kernel_rfl) _ _) (zbits_v (pb.below hB).nv (by omega) HB1.out) ?_
      rintro e w2 ⟨rfl, B⟩
      exact ⟨_, rfl, hK _ _ rfl B⟩
    · intro a w1 hB ho hp K hK
      have e6 : a.eval (.tmp 6) = (.pointer (some ⟨w24.heap.size, 0, none⟩)) := ho 6 (by kernel_rfl)
      refine hop_val (wanted_at rfl (j := 33) (d := 71) (b := true) (by kernel_rfl) (hp 33 71 (by kernel_rfl))) ?_ (hK (.pointer (some ⟨w24.heap.size, 2, none⟩)) _ rfl (Below.refl _ _))
      unfold execOp; simp only [e6]; simp [go_sem]
    · intro a w1 hB ho hp K hK
      have e76 : a.eval (.tmp 76) = (.pointer (some ⟨w24.heap.size, 2, none⟩)) := hp 38 76 (by kernel_rfl)
      obtain ⟨u1, u2, u3, u4, u5, u6, u7, u8, u9⟩ := H_ba.out.below hB
      exact hop_load (wanted_at rfl (j := 33) (d := 71) (b := true) (by kernel_rfl) (hp 33 71 (by kernel_rfl))) rfl e76 (run_ldz u3 u4) (hK _ _ rfl (Below.refl _ _))
    · intro a w1 hB ho hp K hK
      have e77 : a.eval (.tmp 77) = (.agg #[.bool t24, .slice D24 m24 d24]) := hp 39 77 (by kernel_rfl)
      refine hop_call (wanted_at rfl (j := 33) (d := 71) (b := true) (by kernel_rfl) (hp 33 71 (by kernel_rfl))) rfl (args := #[(.agg #[.bool t24, .slice D24 m24 d24])]) (by simp only [List.map_toArray, List.map_cons, List.map_nil, eval_const, e77]) (ent7 (by kernel_rfl) _ _) (zbits_v (pb.below hB).dv (by omega) HB2.out) ?_
      rintro e w2 ⟨rfl, B⟩
      exact ⟨_, rfl, hK _ _ rfl B⟩
    · intro a w1 hB ho hp K hK
      have e75 : a.eval (.tmp 75) = (.int .i64 (b1 : Int)) := hp 37 75 (by kernel_rfl)
      have e78 : a.eval (.tmp 78) = (.int .i64 (b2 : Int)) := hp 40 78 (by kernel_rfl)
      refine hop_val (wanted_at rfl (j := 33) (d := 71) (b := true) (by kernel_rfl) (hp 33 71 (by kernel_rfl))) ?_ (hK (.int .i64 b0) _ rfl (Below.refl _ _))
      unfold execOp; simp only [eval_const, resolve, Option.map_some, Option.map_none, List.map_toArray, List.map_cons, List.map_nil, e75, e78]; simp [go_sem, hb0]
    · intro a w1 hB ho hp K hK
      have e72 : a.eval (.tmp 72) = (.int .i64 b0) := hp 34 72 (by kernel_rfl)
      have e79 : a.eval (.tmp 79) = (.int .i64 b0) := hp 41 79 (by kernel_rfl)
      refine hop_val (wanted_at rfl (j := 33) (d := 71) (b := true) (by kernel_rfl) (hp 33 71 (by kernel_rfl))) ?_ (hK (.bool true) _ rfl (Below.refl _ _))
      unfold execOp; simp only [eval_const, e72, e79]; simp [go_sem]
    · intro a w1 hB ho hp K hK
      have e71 : a.eval (.tmp 71) = (.bool true) := hp 33 71 (by kernel_rfl)
      have e80 : a.eval (.tmp 80) = (.bool true) := hp 42 80 (by kernel_rfl)
      refine hop_val (wanted_none rfl) ?_ (hK (.bool true) _ rfl (Below.refl _ _))
      unfold execOp; simp only [eval_const, e71, e80]; simp [go_sem]
    · intro a w1 hB ho hp K hK
      have e81 : a.eval (.tmp 81) = (.bool true) := hp 43 81 (by kernel_rfl)
      refine hop_val (wanted_none rfl) ?_ (hK (.bool true) _ rfl (Below.refl _ _))
      unfold execOp; simp only [eval_const, e81]; simp [go_sem]
  intro w29 B29
  refine EndAll.one rfl fun vv hv => ?_
  obtain rfl : vv = (.bool true) := hv
  refine EndAll.one rfl fun vv hv => ?_
  obtain rfl : vv = (.bool true) := hv
  refine EndAll.one rfl fun vv hv => ?_
  obtain rfl : vv = (.agg #[.bool s24, .slice A24 n24 c24, .bool t24, .slice D24 m24 d24]) := hv
  refine EndAll.one rfl fun vv hv => ?_
  obtain rfl : vv = (.bool true) := hv
  refine EndAll.one rfl fun vv hv => ?_
  obtain rfl : vv = (.bool true) := hv
  refine EndAll.one rfl fun vv hv => ?_
  obtain rfl : vv = (.bool true) := hv
  refine EndAll.one rfl fun vv hv => ?_
  obtain rfl : vv = (.agg #[.bool s, .slice A n c, .bool t, .slice B m d]) := hv
  refine EndAll.one rfl fun vv hv => ?_
  obtain rfl : vv = (.agg #[.bool s24, .slice A24 n24 c24, .bool t24, .slice D24 m24 d24]) := hv
  refine EndAll.one rfl fun vv hv => ?_
  obtain rfl : vv = (.int .i64 0) := hv
  refine EndAll.one rfl fun vv hv => ?_
  obtain rfl : vv = (.bool true) := hv
  refine EndAll.one rfl fun vv hv => ?_
  obtain rfl : vv = (.bool true) := hv
  refine EndAll.one rfl fun vv hv => ?_
  obtain rfl : vv = (.bool true) := hv
  refine EndAll.one rfl fun vv hv => ?_
  obtain rfl : vv = (.bool false) := hv
  refine EndAll.one rfl fun vv hv => ?_
  obtain rfl : vv = (.bool false) := hv
  refine EndAll.one rfl fun vv hv => ?_
  obtain rfl : vv = undef := hv
  refine EndAll.one rfl fun vv hv => ?_
  obtain rfl : vv = undef := hv
  refine EndAll.one rfl fun vv hv => ?_
  obtain rfl : vv = undef := hv
  refine EndAll.one rfl fun vv hv => ?_
  obtain rfl : vv = undef := hv
  refine EndAll.one rfl fun vv hv => ?_
  obtain rfl : vv = (.bool false) := hv
  refine EndAll.one rfl fun vv hv => ?_
  obtain rfl : vv = (.bool false) := hv
  refine EndAll.one rfl fun vv hv => ?_
  obtain rfl : vv = undef := hv
  refine EndAll.one rfl fun vv hv => ?_
  obtain rfl : vv = undef := hv
  refine EndAll.one rfl fun vv hv => ?_
  obtain rfl : vv = (.bool false) := hv
  refine EndAll.one rfl fun vv hv => ?_
  obtain rfl : vv = (.bool false) := hv
  refine EndAll.one rfl fun vv hv => ?_
  obtain rfl : vv = (.bool false) := hv
  refine EndAll.one rfl fun vv hv => ?_
  obtain rfl : vv = (.bool true) := hv
  refine EndAll.one rfl fun vv hv => ?_
  obtain rfl : vv = (.bool true) := hv
  refine EndAll.one rfl fun vv hv => ?_
  obtain rfl : vv = (.agg #[.bool s26, .slice A26 n26 c26, .bool t26, .slice D26 m26 d26]) := hv
  refine EndAll.one rfl fun vv hv => ?_
  obtain rfl : vv = (.int .i64 0) := hv
  refine EndAll.one rfl fun vv hv => ?_
  obtain rfl : vv = (.bool true) := hv
  refine EndAll.one rfl fun vv hv => ?_
  obtain rfl : vv = (.bool true) := hv
  refine EndAll.one rfl fun vv hv => ?_
  obtain rfl : vv = (.bool true) := hv
  refine EndAll.one rfl fun vv hv => ?_
  obtain rfl : vv = (.bool true) := hv
  refine EndAll.one rfl fun vv hv => ?_
  obtain rfl : vv = (.bool true) := hv
  refine EndAll.one rfl fun vv hv => ?_
  obtain rfl : vv = (.int .i64 b0) := hv
  refine EndAll.one rfl fun vv hv => ?_
  obtain rfl : vv = (.pointer (some ⟨w24.heap.size, 0, none⟩)) := hv
  refine EndAll.one rfl fun vv hv => ?_
  obtain rfl : vv = (.agg #[.bool s24, .slice A24 n24 c24]) := hv
  refine EndAll.one rfl fun vv hv => ?_
  obtain rfl : vv = (.int .i64 (b1 : Int)) := hv
  refine EndAll.one rfl fun vv hv => ?_
  obtain rfl : vv = (.pointer (some ⟨w24.heap.size, 2, none⟩)) := hv
  refine EndAll.one rfl fun vv hv => ?_
  obtain rfl : vv = (.agg #[.bool t24, .slice D24 m24 d24]) := hv
  refine EndAll.one rfl fun vv hv => ?_
  obtain rfl : vv = (.int .i64 (b2 : Int)) := hv
  refine EndAll.one rfl fun vv hv => ?_
  obtain rfl : vv = (.int .i64 b0) := hv
  refine EndAll.one rfl fun vv hv => ?_
  obtain rfl : vv = (.bool true) := hv
  refine EndAll.one rfl fun vv hv => ?_
  obtain rfl : vv = (.bool true) := hv
  refine EndAll.one rfl fun vv hv => ?_
  obtain rfl : vv = (.bool true) := hv
  refine EndAll.nil (l := []) rfl ?_
  simp only [Act.put, List.setIfInBounds_toArray, List.set_cons_zero, List.set_cons_succ]
  replace H_a := Lib.hid (H_a.out.below B29)
  replace H_ba := Lib.hid (H_ba.out.below B29)
  replace H_ca := Lib.hid (H_ca.out.below B29)
  replace ha := ha.below B29
  replace pb := pb.below B29
  replace pc := pc.below B29
  replace hW := hW.trans (B29.mono hW.size)
  clear B29
  go_wp2_with fail
  go_ret
  exact ⟨rfl, hW⟩
set_option maxRecDepth 100000 in
set_option maxHeartbeats 16000000 in
theorem rattexts_calls (A B : Option Addr) (n c m d : Nat) (s t : Bool) (N D : Int) (S : ByteArray) (w : World) (hn : Zv w s A n c N) (hd : Zv w t B m d D) (n9 : n ≤ 9223372036854775807) (m9 : m ≤ 9223372036854775807) (s9 : S.size ≤ 9223372036854775807) :
    Calls Tryz.prog 3 #[.agg #[.bool s, .slice A n c, .bool t, .slice B m d], .string S] w (TruePost w) := by
  by_cases h1 : n ≤ 5 ∧ m ≤ 5
  · by_cases h3 : S.size ≤ 200
    · rcases qreads S h3 with ⟨q, k1, k2, k3, k4⟩ | k4
      · exact texts_yes hn hd h1.1 h1.2 h3 k1 k2 k3 (Lib.hid k4)
      · exact texts_no hn hd h1.1 h1.2 h3 (Lib.hid k4)
    · exact texts_few2 hn hd h1.1 h1.2 (by omega) s9
  · exact texts_few1 hn hd n9 m9 h1
end Go.Proofs.YtfpncmhaoadfdaaGreat
