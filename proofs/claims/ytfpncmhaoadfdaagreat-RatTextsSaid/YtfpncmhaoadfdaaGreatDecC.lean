/-
  Package dec: read, Parse, Len; quincunxlaw04.awake.
-/
import Derived.Test.YtfpncmhaoadfdaaGreatDecB
import Derived.Deep.RegionHeld3
/-! Contracts: dec.read, dec.Parse. -/
namespace Go.Proofs.YtfpncmhaoadfdaaGreat
open Go.RowKit
set_option linter.unusedVariables false

/-- dec.read, with n cuts. -/
def ReadOk (n : Nat) : Prop := ∀ (s : ByteArray) (C : Option Addr) (cc : Nat) (w : World), Dig (bys s) → s.size ≤ 1099511627776 → Hid (s.size ≤ 18 * 2 ^ n) → Cuts w C n cc →
  Calls Tryz.prog 51 #[.string s, .slice C n cc] w (CvPost (hv (bys s)) (2 ^ n) w)
theorem dig_words {l : List Nat} {n : Nat} (hd : Dig l) (hl : l.length ≤ 18 * 2 ^ n) : hv l < 18446744073709551616 ^ (2 ^ n) :=
  Nat.lt_trans (Nat.lt_of_lt_of_le (hv_lt hd) (ten_le hl)) (ten_word n)
theorem read_zero : ReadOk 0 := by
  intro s C cc w hd hs HS hC
  have hs2 : s.size ≤ 18 := HS.out
  have hw : hv (bys s) < 18446744073709551616 := by
    have := dig_words (n := 0) hd (by rw [bys_length]; exact HS.out)
    simpa using this
  clear HS
  go_enter Tryz.func51, Tryz.ntmps51
  go_wp2_with fail
  refine (rword_calls s hd hs2 _).mono ?_
  rintro e w' ⟨rfl, rfl⟩
  go_wp2_with fail
  refine (ofc_v (hv (bys s)) hw _).mono ?_
  rintro e w2 ⟨A1, n1, c1, rfl, q1, k1, B1⟩
  go_wp2
  go_ret
  exact ⟨A1, n1, c1, rfl, q1, k1, B1⟩
theorem read_step {n : Nat} (ih : ReadOk n) : ReadOk (n + 1) := by
  intro s C cc w hd hs HS hC
  obtain ⟨D, hD⟩ : ∃ D, D = 18 * 2 ^ n := ⟨_, rfl⟩
  have hm : 18 * 2 ^ (n + 1) = D + D := by rw [hD, Nat.pow_succ]; omega
  have hsz : s.size ≤ D + D := by rw [← hm]; exact HS.out
  have hD0 : 0 < D := by rw [hD]; exact Nat.mul_pos (by omega) (Nat.pow_pos (by omega))
  obtain ⟨q, rfl, hq, hn1, hn2, hcuts⟩ := hC
  have hC0 : Cuts w (some ⟨q, 0, none⟩) (n + 1) cc := ⟨q, rfl, hq, hn1, hn2, hcuts⟩
  have hC : Cuts w (some ⟨q, 0, none⟩) n cc := hC0.le (by omega)
  have hk2 := two_small (k := n) (by omega)
  have hD2 : D ≤ 18874368 := by omega
  have HD := Lib.hid hD
  have HW : Hid (hv (bys s) < 18446744073709551616 ^ (2 ^ (n + 1))) := Lib.hid (dig_words hd (by rw [bys_length]; exact HS.out))
  have u3 : n ≤ cc := by omega
  have hw64 : wrap64 (18 * 2 ^ n) = (D : Int) := by
    have e : (18 * 2 ^ n : Int) = (D : Int) := by rw [hD]; push_cast; rfl
    rw [e]; exact IntWalk.wrap64_in _ (by omega)
  clear hD hcuts HS hm
  by_cases hat : s.size ≤ D
  · clear hC0
    go_enter Tryz.func51, Tryz.ntmps51
    go_wp2_with fail
    refine (ih s _ cc _ hd hs (by rw [← HD.out]; exact Lib.hid hat) hC).mono ?_
    rintro e w2 ⟨A1, n1, c1, rfl, q1, k1, B1⟩
    have hk3 : n1 ≤ 2 ^ (n + 1) := by rw [Nat.pow_succ]; omega
    have HK := Lib.hid hk3
    clear hk3 k1 hk2
    go_wp2
    go_ret
    exact ⟨A1, n1, c1, rfl, q1, HK.out, B1⟩
  · obtain ⟨a, ha⟩ : ∃ a, s.size = a + D := ⟨s.size - D, by omega⟩
    have hi : ((s.size : Int) - (D : Int)) = (a : Int) := by omega
    have ha0 : 0 < a := by omega
    have haD : a ≤ D := by omega
    have hsa : a ≤ s.size := by omega
    have HA := Lib.hid ha
    have e1 : bys (s.extract 0 a) = (bys s).take a := by rw [bys_extract]; simp
    have e2 : bys (s.extract a s.size) = (bys s).drop a := by rw [bys_extract, List.take_of_length_le (by rw [List.length_drop, bys_length]; exact Nat.le_refl _)]
    have l1 : (s.extract 0 a).size = a := by rw [← bys_length, e1, List.length_take, bys_length]; omega
    have l2 : (s.extract a s.size).size = D := by rw [← bys_length, e2, List.length_drop, bys_length]; omega
    have hd1 : Dig (bys (s.extract 0 a)) := by rw [e1]; exact hd.take _
    have hd2 : Dig (bys (s.extract a s.size)) := by rw [e2]; exact hd.drop _
    have hs1 : (s.extract 0 a).size ≤ 1099511627776 := by omega
    have hs2 : (s.extract a s.size).size ≤ 1099511627776 := by omega
    have H1 : Hid ((s.extract 0 a).size ≤ 18 * 2 ^ n) := Lib.hid (by rw [l1, ← HD.out]; exact haD)
    have H2 : Hid ((s.extract a s.size).size ≤ 18 * 2 ^ n) := Lib.hid (by rw [l2, ← HD.out]; exact Nat.le_refl _)
    have HV : Hid (hv (bys (s.extract 0 a)) * 10 ^ (18 * 2 ^ n) + hv (bys (s.extract a s.size)) = hv (bys s)) := Lib.hid (by
      have e3 := hv_append ((bys s).take a) ((bys s).drop a)
      rw [List.take_append_drop, List.length_drop, bys_length, show s.size - a = D from by omega, HD.out] at e3
      rw [e1, e2, e3])
    clear ha e1 e2 l1 l2
    have hC1 := hC.below (below_drew w)
    have R1 := ih (s.extract 0 a) _ cc _ hd1 hs1 H1 hC1
    have R2 := fun w2 (B1 : Below w.drew.heap.size w.drew w2) => ih (s.extract a s.size) _ cc w2 hd2 hs2 H2 (hC1.below B1)
    clear hd1 hd2 hs1 hs2
    go_enter Tryz.func51, Tryz.ntmps51
    go_wp2_with fail
    go_region_held3 (fun _ => True) (exact trivial) (first
      | (go_at_call 51; (with_reducible refine R1.mono ?_); rintro e w2 ⟨A1, n1, c1, rfl, q1, k1, B1⟩)
      | (go_at_call 51; (with_reducible refine (R2 _ B1).mono ?_); rintro e w3 ⟨A2, n2, c2, rfl, q2, k2, B2⟩))
    have B3 : Below w.heap.size w w3 := (below_drew w).trans (B1.trans (B2.mono B1.size))
    obtain ⟨q', hq', hq2, _, _, hcuts⟩ := hC0.below B3
    cases hq'
    obtain ⟨B, k, d, hcell, hB, hk⟩ := hcuts n (by omega)
    have q1' := q1.below B2
    have hkk : k ≤ 1048576 := by omega
    clear hcuts hC0 hC hC1 R1 R2 q1 B1 B2 H1 H2 hq2 hk hd
    go_wp2_with fail
    refine (mmulc_v q1'.nv hB.nv (by omega) (by omega)).mono ?_
    rintro e w4 ⟨A4, n4, c4, rfl, q4, k4, B4⟩
    have q5 := q2.below B4
    replace B3 := B3.trans (B4.mono B3.size)
    clear q2 B4 hB hcell q1'
    go_wp2_with fail
    refine (addc_v q4.nv q5.nv (by omega) (by omega)).mono ?_
    rintro e w6 ⟨A6, n6, c6, rfl, q6, k6, B6⟩
    rw [HV.out] at q6
    have hlen : n6 ≤ 2 ^ (n + 1) := by rw [← q6.2.1]; exact cn_len_of_lt _ _ _ (by omega) HW.out
    replace B3 := B3.trans (B6.mono B3.size)
    have P : Hid (CvPost (hv (bys s)) (2 ^ (n + 1)) w (.returned (.slice A6 n6 c6)) w6) := Lib.hid ⟨_, _, _, rfl, q6, hlen, B3⟩
    clear q6 hlen B3 B6 q4 q5
    go_wp2
    go_ret
    exact P.out
theorem read_ok (n : Nat) : ReadOk n := by
  induction n with
  | zero => exact read_zero
  | succ n ih => exact read_step ih

/-- What dec.Parse answers of a numeral. -/
def ParPost (v : Nat) (w : World) (e : Ending) (w' : World) : Prop :=
  ∃ A n c, e = .returned (.tuple #[.slice A n c, .bool true]) ∧ Cv w' A n c v ∧ n ≤ 2048 ∧ Below w.heap.size w w'
theorem parse_yes (s : ByteArray) (h : Num (bys s)) (w : World) : Calls Tryz.prog 36 #[.string s] w (ParPost (hv (bys s)) w) := by
  have hd := h.2.2.2
  have hs : s.size ≤ 20000 := by have := h.2.1; rwa [bys_length] at this
  go_enter Tryz.func36, Tryz.ntmps36
  go_wp2_with fail
  refine (num_yes s h _).mono ?_
  rintro e w' ⟨rfl, rfl⟩
  clear h
  go_wp2_with fail
  refine (dbl_calls 18 s.size (by omega) (by omega) (by omega) _).mono ?_
  rintro e w' ⟨⟨k, rfl, d1, d2⟩, rfl⟩
  have hk := dbl_small (m := 11) (by omega) d2 (by omega)
  have D1 := Lib.hid d1
  have hk2 : 2 ^ k ≤ 2048 := Nat.pow_le_pow_right (n := 2) (j := 11) (by omega) hk
  have HK := Lib.hid hk2
  clear d1 d2 hk2
  go_wp2_with fail
  refine (powers_calls k (by omega) _).mono ?_
  rintro e w2 ⟨C, cc, rfl, hC, b2⟩
  go_wp2_with fail
  refine (read_ok k s C cc _ hd (by omega) D1 hC).mono ?_
  rintro e w3 ⟨A1, n1, c1, rfl, q1, k1, b3⟩
  have P : Hid (ParPost (hv (bys s)) w (.returned (.tuple #[.slice A1 n1 c1, .bool true])) w3) := Lib.hid ⟨_, _, _, rfl, q1, by have := HK.out; omega, b2.trans (b3.mono b2.size)⟩
  clear q1 k1 b2 b3 hC
  go_wp2
  go_ret2
  exact P.out
theorem parse_no (s : ByteArray) (h : ¬ Num (bys s)) (w : World) :
    Calls Tryz.prog 36 #[.string s] w fun e w' => e = .returned (.tuple #[.slice none 0 0, .bool false]) ∧ w = w' := by
  go_enter Tryz.func36, Tryz.ntmps36
  go_wp2_with fail
  refine (num_no s h _).mono ?_
  rintro e w' ⟨rfl, rfl⟩
  clear h
  go_wp2_with fail
  go_ret2
  exact ⟨rfl, rfl⟩
end Go.Proofs.YtfpncmhaoadfdaaGreat

/-! Contract: dec.Len. -/
namespace Go.Proofs.YtfpncmhaoadfdaaGreat
open Go.RowKit
set_option linter.unusedVariables false

/-- dec.Len, on its way: the greatest power so far, and what may still come. -/
def LnRel (w : World) (v a : Nat) (t : Nat) (s4 s5 : Value) (wr : World) : Prop :=
  ∃ (A : Option Addr) (n c k : Nat), s4 = .slice A n c ∧ s5 = .int .i64 (k : Int) ∧ Cv wr A n c (10 ^ k) ∧ n ≤ 1048576 ∧ k + a ≤ t ∧ (k = 0 ∨ 10 ^ k ≤ v) ∧ v < 10 ^ (k + a) ∧ Below w.heap.size w wr
theorem LnRel.below {w wr w' : World} {v a t : Nat} {s4 s5 : Value} (h : LnRel w v a t s4 s5 wr) (hb : Below wr.heap.size wr w') : LnRel w v a t s4 s5 w' := by
  obtain ⟨A, n, c, k, h1, h2, h3, h4, h5, h6, h7, h8⟩ := h
  exact ⟨A, n, c, k, h1, h2, h3.below hb, h4, h5, h6, h7, h8.trans (hb.mono h8.size)⟩
/-- The second loop. -/
def LmRel (w : World) (v t : Nat) (s5 s8 : Value) (wr : World) : Prop :=
  ∃ (A : Option Addr) (n c k : Nat), s8 = .slice A n c ∧ s5 = .int .i64 (k : Int) ∧ Cv wr A n c (10 ^ (k + 1)) ∧ k ≤ t ∧ (k = 0 ∨ 10 ^ k ≤ v) ∧ Below w.heap.size w wr
theorem ten_len {w : World} {A : Option Addr} {n c k : Nat} (h : Cv w A n c (10 ^ k)) : n ≤ k + 1 := by
  rw [← h.2.1]
  refine cn_len_of_lt _ _ _ (by omega) ?_
  calc 10 ^ k ≤ 18446744073709551616 ^ k := Nat.pow_le_pow_left (by omega) _
    _ < 18446744073709551616 ^ (k + 1) := Nat.pow_lt_pow_right (by omega) (by omega)
theorem ten_lt_of_le {k t v : Nat} (h : 10 ^ k ≤ v) (hv : v < 10 ^ t) : k < t := (Nat.pow_lt_pow_iff_right (a := 10) (by omega)).1 (Nat.lt_of_le_of_lt h hv)
theorem ten_mul (j d : Nat) : (10 : Nat) ^ j * 10 ^ d = 10 ^ (j + d) := (Nat.pow_add 10 j d).symm
theorem ten_next (k : Nat) : 10 ^ k * 10 + 0 = 10 ^ (k + 1) := by rw [Nat.pow_succ]; rfl
end Go.Proofs.YtfpncmhaoadfdaaGreat
