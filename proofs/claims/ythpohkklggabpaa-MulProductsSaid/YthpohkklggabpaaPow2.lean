/-
  Contract: mul.Pow.
-/
import Derived.Test.YthpohkklggabpaaPow1
import Derived.Outline
import Derived.Lib.RabinKarpLaws
namespace Go.Proofs.Ythpohkklggabpaa
open Go.RowKit
set_option linter.unusedVariables false

/-- Nothing and false. -/
def NonePost (w : World) (e : Ending) (w' : World) : Prop := e = .returned (.tuple #[.slice none 0 0, .bool false]) ∧ w = w'
theorem bl_words {x n : Nat} (h : x < 18446744073709551616 ^ n) : bl x ≤ 64 * n := bl_le.2 (by rw [Nat.pow_mul]; exact h)
theorem pow_neg {A : Option Addr} {n c : Nat} {k : Int} {w : World} (hk : k < 0) :
    Calls Try.prog 18 #[.slice A n c, .int .i64 k] w (NonePost w) := by
  go_enter Try.func18, Try.ntmps18
  go_wp2
  go_ret2
  exact ⟨rfl, rfl⟩
theorem pow_above {A : Option Addr} {n c x k : Nat} {w : World} (hx : Nv w A n c x) (hn : n ≤ 1099511627776) (hk : k ≤ 9223372036854775807) (h : aboveB (bl x) k = true) :
    Calls Try.prog 18 #[.slice A n c, .int .i64 k] w (NonePost w) := by
  obtain ⟨xs, h1, h2, h3, h4, h5, h6⟩ := hx
  have hb : bl x ≤ 64 * n := bl_words (by rw [← h6, ← h2]; exact ev_lt h5)
  have H2 := Lib.hid h2
  have H6 := Lib.hid h6
  have H := Lib.hid h
  clear h2 h6 h
  have hneg : decide ((k : Int) < 0) = false := by simp
  go_enter Try.func18, Try.ntmps18
  go_wp2_with fail
  refine (bits_calls A n c xs _ h1 H2.out h3 h4 h5 hn).mono ?_
  rintro e w1 ⟨rfl, rfl⟩
  rw [H6.out]
  go_wp2_with fail
  refine (above_calls (bl x) k (by omega) hk _).mono ?_
  rintro e w2 ⟨rfl, rfl⟩
  rw [H.out]
  go_wp2
  go_ret2
  exact ⟨rfl, rfl⟩

/-- A number, in new memory, and true. -/
def PowPost (v : Nat) (w : World) (e : Ending) (w' : World) : Prop :=
  ∃ A c, e = .returned (.tuple #[.slice A (cn 18446744073709551616 v).length c, .bool true]) ∧ Got w w' 45 .u64 A c (cn 18446744073709551616 v)
/-- In the loop of mul.Pow: a power. -/
def PwRel (w : World) (v : Nat) (s : Value) (wr : World) : Prop := ∃ A c, s = .slice A (cn 18446744073709551616 v).length c ∧ Got w wr 45 .u64 A c (cn 18446744073709551616 v)
theorem PwRel.of {w wr w2 : World} {v : Nat} {e : Ending} (hb : Below w.heap.size w wr) (h : NatPost v wr e w2) : ∃ s, e = .returned s ∧ PwRel w v s w2 := by
  obtain ⟨A, c, rfl, hg⟩ := h
  exact ⟨_, rfl, A, c, rfl, Got.of_own hg.1 hb.size (hb.trans (hg.2.mono hb.size))⟩
theorem PwRel.nv {w wr : World} {v K : Nat} {s : Value} (h : PwRel w v s wr) (hv : v < 18446744073709551616 ^ K) : ∃ A n c, s = .slice A n c ∧ Nv wr A n c v ∧ n ≤ K ∧ Below w.heap.size w wr := by
  obtain ⟨A, c, rfl, hg⟩ := h
  have hc := hg.cap
  exact ⟨A, _, c, rfl, ⟨_, hg.rd, rfl, hc.1, by have := hc.2; unfold maxLen at this; omega, cn_low _ _ (by omega), ev_cn _ _ (by omega)⟩, cn_len_of_lt _ _ _ (by omega) hv, hg.2⟩
theorem pw_room {x k : Nat} (h : aboveB (bl x) k = false) : ∃ K, K ≤ 1048577 ∧ ∀ m, m ≤ k → x ^ m < 18446744073709551616 ^ K := by
  rcases Nat.eq_zero_or_pos x with rfl | hx
  · refine ⟨1, by omega, fun m _ => ?_⟩
    have : 0 ^ m ≤ 1 := by
      cases m with
      | zero => simp
      | succ m => simp
    rw [Nat.pow_one]
    omega
  · have hb : 0 < bl x := by unfold bl; rw [if_neg (by omega)]; omega
    have hk : k ≤ 1048576 / bl x := by
      unfold aboveB at h
      simp at h
      have := h hb
      omega
    have hm : bl x * k ≤ 1048576 := by
      have := Nat.mul_le_mul_left (bl x) hk
      have := Nat.mul_div_le 1048576 (bl x)
      omega
    refine ⟨bl x * k + 1, by omega, fun m hmk => ?_⟩
    have h1 : x ≤ 2 ^ bl x := Nat.le_of_lt (bl_le.1 (Nat.le_refl _))
    have h2 : x ^ m ≤ (2 ^ bl x) ^ m := Nat.pow_le_pow_left h1 m
    have h3 : (2 : Nat) ^ (bl x * m) ≤ 2 ^ (bl x * k) := Nat.pow_le_pow_right (by omega) (Nat.mul_le_mul_left _ hmk)
    rw [← Nat.pow_mul] at h2
    have h4 : (2 : Nat) ^ (bl x * k) ≤ 18446744073709551616 ^ (bl x * k) := Nat.pow_le_pow_left (by omega) _
    have h5 : (18446744073709551616 : Nat) ^ (bl x * k) < 18446744073709551616 ^ (bl x * k + 1) := by
      rw [Nat.pow_succ]
      have : 0 < (18446744073709551616 : Nat) ^ (bl x * k) := Nat.pow_pos (by omega)
      omega
    omega
theorem pw_half (x k j : Nat) : x ^ (k / 2 ^ (j + 1)) * x ^ (k / 2 ^ (j + 1)) = x ^ (2 * (k / 2 ^ (j + 1))) := by rw [← Nat.pow_add, Nat.two_mul]
theorem pw_even {k j : Nat} (h : k / 2 ^ j % 2 = 0) : 2 * (k / 2 ^ (j + 1)) = k / 2 ^ j := by
  rw [Nat.pow_succ, ← Nat.div_div_eq_div_mul]
  omega
theorem pw_odd {k j : Nat} (h : k / 2 ^ j % 2 = 1) : 2 * (k / 2 ^ (j + 1)) + 1 = k / 2 ^ j := by
  rw [Nat.pow_succ, ← Nat.div_div_eq_div_mul]
  omega
theorem pw_bit {k j : Nat} (hk : k ≤ 9223372036854775807) : bits BinOp.and IntKind.i64 ((k : Int) / 2 ^ j) 1 = ((k / 2 ^ j % 2 : Nat) : Int) := by
  have e : ((k : Int) / 2 ^ j) = ((k / 2 ^ j : Nat) : Int) := by push_cast; rfl
  rw [e]
  exact and_one _ (by have := Nat.div_le_self k (2 ^ j); omega)
theorem pw_start (x k : Nat) : x ^ (k / 2 ^ bl k) = 1 := by
  have : k / 2 ^ bl k = 0 := Nat.div_eq_of_lt (bl_le.1 (Nat.le_refl _))
  rw [this, Nat.pow_zero]
set_option maxHeartbeats 400000 in
theorem pow_yes' {A : Option Addr} {n c x k K : Nat} {w : World} (hx : Nv w A n c x) (hn : n ≤ 1099511627776) (hk : k ≤ 9223372036854775807) (h : aboveB (bl x) k = false) (hK : K ≤ 1048577) (hp : ∀ m, m ≤ k → x ^ m < 18446744073709551616 ^ K) :
    Calls Try.prog 18 #[.slice A n c, .int .i64 k] w (PowPost (x ^ k) w) := by
  obtain ⟨xs, h1, h2, h3, h4, h5, h6⟩ := hx
  have hb : bl x ≤ 64 * n := bl_words (by rw [← h6, ← h2]; exact ev_lt h5)
  have hl : bl k ≤ 63 := bl_le.2 (by omega)
  have H2 := Lib.hid h2
  have H6 := Lib.hid h6
  have H := Lib.hid h
  have HP := Lib.hid hp
  clear h2 h6 h hp
  have hneg : decide ((k : Int) < 0) = false := by simp
  go_enter Try.func18, Try.ntmps18
  go_wp2_with fail
  refine (bits_calls A n c xs _ h1 H2.out h3 h4 h5 hn).mono ?_
  rintro e w1 ⟨rfl, rfl⟩
  rw [H6.out]
  go_wp2_with fail
  refine (above_calls (bl x) k (by omega) hk _).mono ?_
  rintro e w2 ⟨rfl, rfl⟩
  rw [H.out]
  go_wp2_with fail
  refine (of_calls 1 (by omega) _).mono ?_
  rintro e w1 hof
  obtain ⟨s, rfl, hs⟩ := PwRel.of (Below.refl _ _) hof
  clear hof
  go_wp2_with fail
  refine (len_calls k (by omega) _).mono ?_
  rintro e w2 ⟨rfl, rfl⟩
  go_wp2_with fail
  have hs' : PwRel w (x ^ (k / 2 ^ bl k)) s w1 := by rw [pw_start]; exact hs
  clear hs
  go_loopw [6, 7] (fun s i wr => ∃ j : Nat, j ≤ bl k ∧ i = .int .i64 ((j : Int) - 1) ∧ PwRel w (x ^ (k / 2 ^ j)) s wr) (fun _ i _ => (intOf i + 1).toNat)
  case atStart => exact ⟨bl k, Nat.le_refl _, rfl, hs'⟩
  case round =>
    clear hs'
    obtain ⟨j, hj, rfl, hs⟩ := hrel
    rcases Nat.eq_zero_or_pos j with rfl | hpos
    · obtain ⟨A1, c1, rfl, hg⟩ := hs
      have e : x ^ (k / 2 ^ 0) = x ^ k := by simp
      rw [e] at hg ⊢
      have P : Hid (PowPost (x ^ k) w (.returned (.tuple #[.slice A1 (cn 18446744073709551616 (x ^ k)).length c1, .bool true])) wr) := ⟨A1, c1, rfl, hg⟩
      clear hg e
      go_wp2
      go_ret2
      exact P.out
    · obtain ⟨j, rfl⟩ : ∃ i, j = i + 1 := ⟨j - 1, by omega⟩
      obtain ⟨A1, n1, c1, rfl, hv, hn1, hb1⟩ := hs.nv (HP.out _ (Nat.div_le_self _ _))
      clear hs
      have hj1 : (((j + 1 : Nat) : Int) - 1) = (j : Int) := by omega
      have hbit := pw_bit (k := k) (j := j) hk
      rcases Nat.mod_two_eq_zero_or_one (k / 2 ^ j) with h0 | h0
      · have e := pw_even h0
        rw [h0] at hbit
        have E := Lib.hid e
        clear e h0
        have ht : (bits BinOp.and IntKind.i64 ((k : Int) / 2 ^ j) 1 == 1) = false := by rw [hbit]; decide
        clear hbit
        go_wp2_with fail
        refine (square_calls hv (by omega)).mono ?_
        rintro e w3 hsq
        obtain ⟨s3, rfl, hs3⟩ := PwRel.of hb1 hsq
        rw [pw_half, E.out] at hs3
        clear hsq
        go_wp2
        go_roundw
        case rel => exact ⟨j, by omega, rfl, hs3⟩
        case measure => simp [intOf] <;> omega
      · have e := pw_odd h0
        rw [h0] at hbit
        have E := Lib.hid e
        clear e h0
        have ht : (bits BinOp.and IntKind.i64 ((k : Int) / 2 ^ j) 1 == 1) = true := by rw [hbit]; decide
        clear hbit
        go_wp2_with fail
        refine (square_calls hv (by omega)).mono ?_
        rintro e w3 hsq
        obtain ⟨s3, rfl, hs3⟩ := PwRel.of hb1 hsq
        rw [pw_half] at hs3
        clear hsq
        obtain ⟨A2, n2, c2, rfl, hv2, hn2, hb2⟩ := hs3.nv (HP.out _ (by have := E.out; have := Nat.div_le_self k (2 ^ j); omega))
        clear hs3
        have hx3 : Nv w3 A n c x := ⟨xs, h1.below hb2, H2.out, h3, h4, h5, H6.out⟩
        go_wp2_with fail
        refine (mmul_v hv2 hx3 (by omega) hn).mono ?_
        rintro e w4 hmu
        obtain ⟨s4, rfl, hs4⟩ := PwRel.of hb2 hmu
        rw [← Nat.pow_succ, Nat.succ_eq_add_one, E.out] at hs4
        clear hmu
        go_wp2
        go_roundw
        case rel => exact ⟨j, by omega, rfl, hs4⟩
        case measure => simp [intOf] <;> omega
theorem pow_yes {A : Option Addr} {n c x k : Nat} {w : World} (hx : Nv w A n c x) (hn : n ≤ 1099511627776) (hk : k ≤ 9223372036854775807) (h : aboveB (bl x) k = false) :
    Calls Try.prog 18 #[.slice A n c, .int .i64 k] w (PowPost (x ^ k) w) := by
  obtain ⟨K, h1, h2⟩ := pw_room h
  exact pow_yes' hx hn hk h h1 h2
end Go.Proofs.Ythpohkklggabpaa
