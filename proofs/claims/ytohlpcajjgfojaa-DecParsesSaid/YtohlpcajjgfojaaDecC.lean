/-
  Package dec: read, Parse, Len; quincunxlaw04.awake.
-/
import Derived.Test.YtohlpcajjgfojaaDecB
import Derived.Deep.RegionHeld3
/-! Contracts: dec.read, dec.Parse. -/
namespace Go.Proofs.Ytohlpcajjgfojaa
open Go.RowKit
set_option linter.unusedVariables false

/-- dec.read, with n cuts. -/
def ReadOk (n : Nat) : Prop := ∀ (s : ByteArray) (C : Option Addr) (cc : Nat) (w : World), Dig (bys s) → s.size ≤ 1099511627776 → Hid (s.size ≤ 18 * 2 ^ n) → Cuts w C n cc →
  Calls Try.prog 31 #[.string s, .slice C n cc] w (CvPost (hv (bys s)) (2 ^ n) w)
theorem dig_words {l : List Nat} {n : Nat} (hd : Dig l) (hl : l.length ≤ 18 * 2 ^ n) : hv l < 18446744073709551616 ^ (2 ^ n) :=
  Nat.lt_trans (Nat.lt_of_lt_of_le (hv_lt hd) (ten_le hl)) (ten_word n)
theorem read_zero : ReadOk 0 := by
  intro s C cc w hd hs HS hC
  have hs2 : s.size ≤ 18 := HS.out
  have hw : hv (bys s) < 18446744073709551616 := by
    have := dig_words (n := 0) hd (by rw [bys_length]; exact HS.out)
    simpa using this
  clear HS
  go_enter Try.func31, Try.ntmps31
  go_wp2_with fail
  refine (rword_calls s hd hs2 _).mono ?_
  rintro e w' ⟨rfl, rfl⟩
  go_wp2_with fail
  refine (ofc_v (hv (bys s)) hw _).mono ?_
  rintro e w2 ⟨A1, n1, c1, rfl, q1, k1, B1⟩
  go_wp2
  go_ret
  exact ⟨A1, n1, c1, rfl, q1, k1, B1⟩
theorem read_step {n : Nat} (ih : ReadOk n) : ReadOk (n + 1) := by
  intro s C cc w hd hs HS hC
  obtain ⟨D, hD⟩ : ∃ D, D = 18 * 2 ^ n := ⟨_, rfl⟩
  have hm : 18 * 2 ^ (n + 1) = D + D := by rw [hD, Nat.pow_succ]; omega
  have hsz : s.size ≤ D + D := by rw [← hm]; exact HS.out
  have hD0 : 0 < D := by rw [hD]; exact Nat.mul_pos (by omega) (Nat.pow_pos (by omega))
  obtain ⟨q, rfl, hq, hn1, hn2, hcuts⟩ := hC
  have hC0 : Cuts w (some ⟨q, 0, none⟩) (n + 1) cc := ⟨q, rfl, hq, hn1, hn2, hcuts⟩
  have hC : Cuts w (some ⟨q, 0, none⟩) n cc := hC0.le (by omega)
  have hk2 := two_small (k := n) (by omega)
  have hD2 : D ≤ 18874368 := by omega
  have HD := Lib.hid hD
  have HW : Hid (hv (bys s) < 18446744073709551616 ^ (2 ^ (n + 1))) := Lib.hid (dig_words hd (by rw [bys_length]; exact HS.out))
  have u3 : n ≤ cc := by omega
  have hw64 : wrap64 (18 * 2 ^ n) = (D : Int) := by
    have e : (18 * 2 ^ n : Int) = (D : Int) := by rw [hD]; push_cast; rfl
    rw [e]; exact IntWalk.wrap64_in _ (by omega)
  clear hD hcuts HS hm
  by_cases hat : s.size ≤ D
  · clear hC0
    go_enter Try.func31, Try.ntmps31
    go_wp2_with fail
    refine (ih s _ cc _ hd hs (by rw [← HD.out]; exact Lib.hid hat) hC).mono ?_
    rintro e w2 ⟨A1, n1, c1, rfl, q1, k1, B1⟩
    have hk3 : n1 ≤ 2 ^ (n + 1) := by rw [Nat.pow_succ]; omega
    have HK := Lib.hid hk3
    clear hk3 k1 hk2
    go_wp2
    go_ret
    exact ⟨A1, n1, c1, rfl, q1, HK.out, B1⟩
  · obtain ⟨a, ha⟩ : ∃ a, s.size = a + D := ⟨s.size - D, by omega⟩
    have hi : ((s.size : Int) - (D : Int)) = (a : Int) := by omega
    have ha0 : 0 < a := by omega
    have haD : a ≤ D := by omega
    have hsa : a ≤ s.size := by omega
    have HA := Lib.hid ha
    have e1 : bys (s.extract 0 a) = (bys s).take a := by rw [bys_extract]; simp
    have e2 : bys (s.extract a s.size) = (bys s).drop a := by rw [bys_extract, List.take_of_length_le (by rw [List.length_drop, bys_length]; exact Nat.le_refl _)]
    have l1 : (s.extract 0 a).size = a := by rw [← bys_length, e1, List.length_take, bys_length]; omega
    have l2 : (s.extract a s.size).size = D := by rw [← bys_length, e2, List.length_drop, bys_length]; omega
    have hd1 : Dig (bys (s.extract 0 a)) := by rw [e1]; exact hd.take _
    have hd2 : Dig (bys (s.extract a s.size)) := by rw [e2]; exact hd.drop _
    have hs1 : (s.extract 0 a).size ≤ 1099511627776 := by omega
    have hs2 : (s.extract a s.size).size ≤ 1099511627776 := by omega
    have H1 : Hid ((s.extract 0 a).size ≤ 18 * 2 ^ n) := Lib.hid (by rw [l1, ← HD.out]; exact haD)
    have H2 : Hid ((s.extract a s.size).size ≤ 18 * 2 ^ n) := Lib.hid (by rw [l2, ← HD.out]; exact Nat.le_refl _)
    have HV : Hid (hv (bys (s.extract 0 a)) * 10 ^ (18 * 2 ^ n) + hv (bys (s.extract a s.size)) = hv (bys s)) := Lib.hid (by
      have e3 := hv_append ((bys s).take a) ((bys s).drop a)
      rw [List.take_append_drop, List.length_drop, bys_length, show s.size - a = D from by omega, HD.out] at e3
      rw [e1, e2, e3])
    clear ha e1 e2 l1 l2
    have hC1 := hC.below (below_drew w)
    have R1 := ih (s.extract 0 a) _ cc _ hd1 hs1 H1 hC1
    have R2 := fun w2 (B1 : Below w.drew.heap.size w.drew w2) => ih (s.extract a s.size) _ cc w2 hd2 hs2 H2 (hC1.below B1)
    clear hd1 hd2 hs1 hs2
    go_enter Try.func31, Try.ntmps31
    go_wp2_with fail
    go_region_held3 (fun _ => True) (exact trivial) (first
      | (go_at_call 31; (with_reducible refine R1.mono ?_); rintro e w2 ⟨A1, n1, c1, rfl, q1, k1, B1⟩)
      | (go_at_call 31; (with_reducible refine (R2 _ B1).mono ?_); rintro e w3 ⟨A2, n2, c2, rfl, q2, k2, B2⟩))
    have B3 : Below w.heap.size w w3 := (below_drew w).trans (B1.trans (B2.mono B1.size))
    obtain ⟨q', hq', hq2, _, _, hcuts⟩ := hC0.below B3
    cases hq'
    obtain ⟨B, k, d, hcell, hB, hk⟩ := hcuts n (by omega)
    have q1' := q1.below B2
    have hkk : k ≤ 1048576 := by omega
    clear hcuts hC0 hC hC1 R1 R2 q1 B1 B2 H1 H2 hq2 hk hd
    go_wp2_with fail
    refine (mmulc_v q1'.nv hB.nv (by omega) (by omega)).mono ?_
    rintro e w4 ⟨A4, n4, c4, rfl, q4, k4, B4⟩
    have q5 := q2.below B4
    replace B3 := B3.trans (B4.mono B3.size)
    clear q2 B4 hB hcell q1'
    go_wp2_with fail
    refine (addc_v q4.nv q5.nv (by omega) (by omega)).mono ?_
    rintro e w6 ⟨A6, n6, c6, rfl, q6, k6, B6⟩
    rw [HV.out] at q6
    have hlen : n6 ≤ 2 ^ (n + 1) := by rw [← q6.2.1]; exact cn_len_of_lt _ _ _ (by omega) HW.out
    replace B3 := B3.trans (B6.mono B3.size)
    have P : Hid (CvPost (hv (bys s)) (2 ^ (n + 1)) w (.returned (.slice A6 n6 c6)) w6) := Lib.hid ⟨_, _, _, rfl, q6, hlen, B3⟩
    clear q6 hlen B3 B6 q4 q5
    go_wp2
    go_ret
    exact P.out
theorem read_ok (n : Nat) : ReadOk n := by
  induction n with
  | zero => exact read_zero
  | succ n ih => exact read_step ih

/-- What dec.Parse answers of a numeral. -/
def ParPost (v : Nat) (w : World) (e : Ending) (w' : World) : Prop :=
  ∃ A n c, e = .returned (.tuple #[.slice A n c, .bool true]) ∧ Cv w' A n c v ∧ n ≤ 2048 ∧ Below w.heap.size w w'
theorem parse_yes (s : ByteArray) (h : Num (bys s)) (w : World) : Calls Try.prog 13 #[.string s] w (ParPost (hv (bys s)) w) := by
  have hd := h.2.2.2
  have hs : s.size ≤ 20000 := by have := h.2.1; rwa [bys_length] at this
  go_enter Try.func13, Try.ntmps13
  go_wp2_with fail
  refine (num_yes s h _).mono ?_
  rintro e w' ⟨rfl, rfl⟩
  clear h
  go_wp2_with fail
  refine (dbl_calls 18 s.size (by omega) (by omega) (by omega) _).mono ?_
  rintro e w' ⟨⟨k, rfl, d1, d2⟩, rfl⟩
  have hk := dbl_small (m := 11) (by omega) d2 (by omega)
  have D1 := Lib.hid d1
  have hk2 : 2 ^ k ≤ 2048 := Nat.pow_le_pow_right (n := 2) (j := 11) (by omega) hk
  have HK := Lib.hid hk2
  clear d1 d2 hk2
  go_wp2_with fail
  refine (powers_calls k (by omega) _).mono ?_
  rintro e w2 ⟨C, cc, rfl, hC, b2⟩
  go_wp2_with fail
  refine (read_ok k s C cc _ hd (by omega) D1 hC).mono ?_
  rintro e w3 ⟨A1, n1, c1, rfl, q1, k1, b3⟩
  have P : Hid (ParPost (hv (bys s)) w (.returned (.tuple #[.slice A1 n1 c1, .bool true])) w3) := Lib.hid ⟨_, _, _, rfl, q1, by have := HK.out; omega, b2.trans (b3.mono b2.size)⟩
  clear q1 k1 b2 b3 hC
  go_wp2
  go_ret2
  exact P.out
theorem parse_no (s : ByteArray) (h : ¬ Num (bys s)) (w : World) :
    Calls Try.prog 13 #[.string s] w fun e w' => e = .returned (.tuple #[.slice none 0 0, .bool false]) ∧ w = w' := by
  go_enter Try.func13, Try.ntmps13
  go_wp2_with fail
  refine (num_no s h _).mono ?_
  rintro e w' ⟨rfl, rfl⟩
  clear h
  go_wp2_with fail
  go_ret2
  exact ⟨rfl, rfl⟩
end Go.Proofs.Ytohlpcajjgfojaa

/-! Contract: dec.Len. -/
namespace Go.Proofs.Ytohlpcajjgfojaa
open Go.RowKit
set_option linter.unusedVariables false

/-- dec.Len, on its way: the greatest power so far, and what may still come. -/
def LnRel (w : World) (v a : Nat) (t : Nat) (s4 s5 : Value) (wr : World) : Prop :=
  ∃ (A : Option Addr) (n c k : Nat), s4 = .slice A n c ∧ s5 = .int .i64 (k : Int) ∧ Cv wr A n c (10 ^ k) ∧ n ≤ 1048576 ∧ k + a ≤ t ∧ (k = 0 ∨ 10 ^ k ≤ v) ∧ v < 10 ^ (k + a) ∧ Below w.heap.size w wr
theorem LnRel.below {w wr w' : World} {v a t : Nat} {s4 s5 : Value} (h : LnRel w v a t s4 s5 wr) (hb : Below wr.heap.size wr w') : LnRel w v a t s4 s5 w' := by
  obtain ⟨A, n, c, k, h1, h2, h3, h4, h5, h6, h7, h8⟩ := h
  exact ⟨A, n, c, k, h1, h2, h3.below hb, h4, h5, h6, h7, h8.trans (hb.mono h8.size)⟩
/-- The second loop. -/
def LmRel (w : World) (v t : Nat) (s5 s8 : Value) (wr : World) : Prop :=
  ∃ (A : Option Addr) (n c k : Nat), s8 = .slice A n c ∧ s5 = .int .i64 (k : Int) ∧ Cv wr A n c (10 ^ (k + 1)) ∧ k ≤ t ∧ (k = 0 ∨ 10 ^ k ≤ v) ∧ Below w.heap.size w wr
theorem ten_len {w : World} {A : Option Addr} {n c k : Nat} (h : Cv w A n c (10 ^ k)) : n ≤ k + 1 := by
  rw [← h.2.1]
  refine cn_len_of_lt _ _ _ (by omega) ?_
  calc 10 ^ k ≤ 18446744073709551616 ^ k := Nat.pow_le_pow_left (by omega) _
    _ < 18446744073709551616 ^ (k + 1) := Nat.pow_lt_pow_right (by omega) (by omega)
theorem ten_lt_of_le {k t v : Nat} (h : 10 ^ k ≤ v) (hv : v < 10 ^ t) : k < t := (Nat.pow_lt_pow_iff_right (a := 10) (by omega)).1 (Nat.lt_of_le_of_lt h hv)
theorem ten_mul (j d : Nat) : (10 : Nat) ^ j * 10 ^ d = 10 ^ (j + d) := (Nat.pow_add 10 j d).symm
theorem ten_next (k : Nat) : 10 ^ k * 10 + 0 = 10 ^ (k + 1) := by rw [Nat.pow_succ]; rfl
set_option maxHeartbeats 1000000 in
theorem len_v {A : Option Addr} {n c v l : Nat} {w : World} (hx : Nv w A n c v) (hn : n ≤ 1024) (hl : nd v = l) :
    Calls Try.prog 12 #[.slice A n c] w fun e w' => e = .returned (.int .i64 l) ∧ Below w.heap.size w w' := by
  have HL := Lib.hid hl
  clear hl
  have hbl : bl v ≤ 65536 := by have := bl_words hx.lt; omega
  go_enter Try.func12, Try.ntmps12
  go_wp2_with fail
  refine (bitsd_v hx (by omega)).mono ?_
  rintro e w' ⟨rfl, rfl⟩
  go_wp2_with fail
  refine (dbl_calls 59 (bl v) (by omega) (by omega) (by omega) _).mono ?_
  rintro e w' ⟨⟨N, rfl, d1, d2⟩, rfl⟩
  have hN := dbl_small (m := 11) (by omega) d2 (by omega)
  have hv := bits_ten v N d1
  have hD : 18 * 2 ^ N ≤ 36864 := by have := Nat.pow_le_pow_right (n := 2) (j := 11) (by omega) hN; omega
  have HV := Lib.hid hv
  have HD := Lib.hid hD
  clear d1 d2 hv hD hbl
  go_wp2_with fail
  refine (powers_calls N (by omega) _).mono ?_
  rintro e w2 ⟨C, cc, rfl, hC, b2⟩
  go_wp2_with fail
  refine (ofc_v 1 (by omega) _).mono ?_
  rintro e w3 ⟨A3, n3, c3, rfl, q3, k3, b3⟩
  obtain ⟨q, rfl, hq, hn1, hn2, hcuts⟩ := hC.below b3
  have hC3 : Cuts w3 (some ⟨q, 0, none⟩) N cc := ⟨q, rfl, hq, hn1, hn2, hcuts⟩
  have B3 : Below w.heap.size w w3 := b2.trans (b3.mono b2.size)
  have R0 : LnRel w v (18 * 2 ^ N) 36864 (.slice A3 n3 c3) (.int .i64 0) w3 := ⟨A3, n3, c3, 0, rfl, rfl, q3, by omega, by have := HD.out; omega, .inl rfl, by rw [Nat.zero_add]; exact HV.out, B3⟩
  have HR0 := Lib.hid R0
  clear R0 q3 k3 b2 b3 hC hcuts HV HD hn1 B3
  go_wp2
  go_loopw [4, 5, 6] (fun s4 s5 i wr => ∃ k : Nat, k ≤ N ∧ i = .int .i64 ((k : Int) - 1) ∧ Hid (LnRel w v (18 * 2 ^ k) 36864 s4 s5 wr) ∧ Cuts wr (some ⟨q, 0, none⟩) N cc) (fun _ _ i _ => (intOf i + 1).toNat)
  case atStart => exact ⟨N, Nat.le_refl _, rfl, HR0, hC3⟩
  case round =>
    obtain ⟨k, hk, rfl, HR, hC⟩ := hrel
    have HC := Lib.hid hC
    clear HR0 hC3
    rcases Nat.eq_zero_or_pos k with rfl | hpos
    · obtain ⟨A4, n4, c4, j, rfl, rfl, q4, k4, j1, j2, j3, B4⟩ := HR.out
      have J2 := Lib.hid j2
      have J3 := Lib.hid j3
      have hjt : j ≤ 36864 := by omega
      have hxr := hx.below B4
      clear j2 j3 hC HC j1 HR
      go_wp2_with fail
      refine (muladd_v (x := 10) (y := 0) q4.nv (by omega) (by omega) (by omega)).mono ?_
      rintro e w5 ⟨A5, n5, c5, rfl, q5, k5, b5⟩
      rw [ten_next] at q5
      have S0 : LmRel w v (j + 18) (.int .i64 j) (.slice A5 n5 c5) w5 := ⟨A5, n5, c5, j, rfl, rfl, q5, by omega, J2.out, B4.trans (b5.mono B4.size)⟩
      have HS0 := Lib.hid S0
      have HV18 : Hid (v < 10 ^ (j + 18)) := J3
      obtain ⟨t, ht⟩ : ∃ t, j + 18 = t := ⟨_, rfl⟩
      have ht2 : t ≤ 36882 := by omega
      rw [ht] at HV18 HS0
      clear ht S0 q5 q4 J2 J3 b5 B4 hxr k5
      go_wp2
      go_loopw [5, 8] (fun s5 s8 wr => Hid (LmRel w v (t) s5 s8 wr)) (fun s5 _ _ => 36900 - (intOf s5).toNat)
      case atStart => exact HS0
      case round =>
        obtain ⟨A6, n6, c6, k, rfl, rfl, q6, k1, k2, B6⟩ := hrel.out
        have K2 := Lib.hid k2
        have hn6 := ten_len q6
        have hxr := hx.below B6
        clear k2 hrel
        go_wp2_with fail
        by_cases hle : 10 ^ (k + 1) ≤ v
        · obtain ⟨r, hr⟩ : ∃ r, cmpN (10 ^ (k + 1)) v = r := ⟨_, rfl⟩
          have hr0 : r ≤ 0 := by rw [← hr]; exact cmpN_le.2 hle
          refine (cmp_as q6.nv hxr hr).mono ?_
          rintro e w7 ⟨rfl, b7⟩
          have q7 := q6.below b7
          have hkt : k + 1 < t := ten_lt_of_le hle HV18.out
          have HLE := Lib.hid hle
          clear hle hr q6 hxr
          go_wp2_with fail
          refine (muladd_v (x := 10) (y := 0) q7.nv (by omega) (by omega) (by omega)).mono ?_
          rintro e w8 ⟨A8, n8, c8, rfl, q8, k8, b8⟩
          rw [ten_next] at q8
          have S1 : Hid (LmRel w v (t) (.int .i64 ((k + 1 : Nat) : Int)) (.slice A8 n8 c8) w8) := Lib.hid ⟨A8, n8, c8, k + 1, rfl, rfl, q8, by omega, .inr HLE.out, (B6.trans (b7.mono B6.size)).trans (b8.mono (B6.trans (b7.mono B6.size)).size)⟩
          clear q7 q8 k8 B6 b7 b8 K2
          go_wp2
          go_roundw
          case rel => exact S1
          case measure => simp [intOf]; omega
        · obtain ⟨r, hr⟩ : ∃ r, cmpN (10 ^ (k + 1)) v = r := ⟨_, rfl⟩
          have hr0 : ¬ r ≤ 0 := by rw [← hr]; exact fun h => hle (cmpN_le.1 h)
          refine (cmp_as q6.nv hxr hr).mono ?_
          rintro e w7 ⟨rfl, b7⟩
          obtain rfl : l = k + 1 := HL.out.symm.trans (nd_eq (by omega) (by omega) (K2.out.elim (fun h => .inl (by omega)) fun h => .inr h))
          have B7 := Lib.hid (B6.trans (b7.mono B6.size))
          clear hle hr q6 hxr b7 B6 HL HV18 K2
          go_wp2
          go_ret
          exact ⟨ret_int (by go_num), B7.out⟩
    · obtain ⟨i, rfl⟩ : ∃ i, k = i + 1 := ⟨k - 1, by omega⟩
      rw [show (((i + 1 : Nat) : Int) - 1) = (i : Int) from by omega]
      obtain ⟨A4, n4, c4, j, rfl, rfl, q4, k4, j1, j2, j3, B4⟩ := HR.out
      have J2 := Lib.hid j2
      have J3 := Lib.hid j3
      obtain ⟨q', hq', _, _, _, hcuts⟩ := hC
      cases hq'
      obtain ⟨B, m, d, hcell, hB, hm⟩ := hcuts i (by omega)
      have hm2 := two_small (k := i) (by omega)
      have hmm : m ≤ 1048576 := by omega
      clear j2 j3 hcuts hm hm2
      go_wp2_with fail
      refine (mmulc_v q4.nv hB.nv (by omega) (by omega)).mono ?_
      rintro e w5 ⟨A5, n5, c5, rfl, q5, k5, b5⟩
      obtain ⟨D, hD⟩ : ∃ D, D = 18 * 2 ^ i := ⟨_, rfl⟩
      have hDD : 18 * 2 ^ (i + 1) = D + D := by rw [hD, Nat.pow_succ]; omega
      rw [hDD] at j1
      rw [ten_mul, ← hD] at q5
      have hv2 : v < 10 ^ (j + (D + D)) := by rw [← hDD]; exact J3.out
      have HV2 := Lib.hid hv2
      have hn5 := ten_len q5
      have hC5 := (show Cuts wr (some ⟨q, 0, none⟩) N cc from HC.out).below b5
      have q4' := q4.below b5
      have B5 := B4.trans (b5.mono B4.size)
      have hxr := hx.below B5
      clear q4 hB hcell HR hv2 b5 B4 HC J3 k5 hDD
      go_wp2_with fail
      by_cases hle : 10 ^ (j + D) ≤ v
      · obtain ⟨r, hr⟩ : ∃ r, cmpN (10 ^ (j + D)) v = r := ⟨_, rfl⟩
        have hr0 : r ≤ 0 := by rw [← hr]; exact cmpN_le.2 hle
        refine (cmp_as q5.nv hxr hr).mono ?_
        rintro e w6 ⟨rfl, b6⟩
        have S1 : Hid (LnRel w v (18 * 2 ^ i) 36864 (.slice A5 n5 c5) (.int .i64 ((j + D : Nat) : Int)) w6) := Lib.hid ⟨A5, n5, c5, j + D, rfl, rfl, q5.below b6, by omega, by omega, .inr hle, by rw [← hD, Nat.add_assoc]; exact HV2.out, B5.trans (b6.mono B5.size)⟩
        have hC6 := Lib.hid (hC5.below b6)
        have hw64 : wrap64 (18 * 2 ^ i) = (D : Int) := by
          have e : (18 * 2 ^ i : Int) = (D : Int) := by rw [hD]; push_cast; rfl
          rw [e]; exact IntWalk.wrap64_in _ (by omega)
        have hsum : wrap64 ((j : Int) + wrap64 (18 * 2 ^ i)) = ((j + D : Nat) : Int) := by rw [hw64, IntWalk.wrap64_in _ (by omega)]; omega
        have HSUM := Lib.hid hsum
        clear hle hr q5 q4' hxr b6 B5 hC5 hD hsum hw64 j1 hn5
        go_wp2_with fail
        go_quiet (fail)
        rw [HSUM.out]
        have S2 := Lib.hid (S1.out.below (below_drewN w6 nq))
        have hC7 := Lib.hid (hC6.out.below (below_drewN w6 nq))
        clear HSUM S1 hC6
        generalize w6.drewN nq = w7 at *
        go_wp2
        go_roundw
        case rel => exact ⟨i, by omega, by go_num, S2, hC7.out⟩
        case measure => simp [intOf]
      · obtain ⟨r, hr⟩ : ∃ r, cmpN (10 ^ (j + D)) v = r := ⟨_, rfl⟩
        have hr0 : ¬ r ≤ 0 := by rw [← hr]; exact fun h => hle (cmpN_le.1 h)
        refine (cmp_as q5.nv hxr hr).mono ?_
        rintro e w6 ⟨rfl, b6⟩
        have S1 : Hid (LnRel w v (18 * 2 ^ i) 36864 (.slice A4 n4 c4) (.int .i64 (j : Int)) w6) := Lib.hid ⟨A4, n4, c4, j, rfl, rfl, q4'.below b6, by omega, by rw [← hD]; omega, J2.out, by rw [← hD]; omega, B5.trans (b6.mono B5.size)⟩
        have hC6 := Lib.hid (hC5.below b6)
        clear hle hr q5 q4' hxr b6 B5 hC5 hD
        go_wp2
        go_roundw
        case rel => exact ⟨i, by omega, by go_num, S1, hC6.out⟩
        case measure => simp [intOf]
end Go.Proofs.Ytohlpcajjgfojaa
