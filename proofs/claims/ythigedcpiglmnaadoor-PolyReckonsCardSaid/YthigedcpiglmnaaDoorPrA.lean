/-
  Package modn: powerOfWord, looksPrime.
-/
import Derived.Test.YthigedcpiglmnaaDoorNatB
import Derived.Test.YthigedcpiglmnaaDoorMrA
import Derived.Deep.LoopGhost
/-! Contracts: modn.powerOfWord, looksPrime. -/
namespace Go.Proofs.YthigedcpiglmnaaDoor
open Go.RowKit
set_option linter.unusedVariables false
set_option linter.unusedSimpArgs false

theorem and_one {x : Nat} (hx : x < 18446744073709551616) : bits .and .u64 (x : Int) 1 = ((x % 2 : Nat) : Int) := by
  have := bit_value (u := 0) hx
  simpa using this
/-- The powers' loop. -/
def PwRest (A E m a e r : Nat) : Prop := r * a ^ e % m = A ^ E % m
theorem PwRest.even {A E m a e r : Nat} (h : PwRest A E m a e r) (he : e % 2 = 0) : PwRest A E m (a * a % m) (e / 2) r := by
  unfold PwRest at h ⊢
  rw [← h]
  have e1 : a ^ e = (a * a) ^ (e / 2) := by
    rw [← Nat.pow_two, ← Nat.pow_mul]
    congr 1
    omega
  rw [e1, Nat.mul_mod, ← Nat.pow_mod, ← Nat.mul_mod]
theorem PwRest.odd {A E m a e r : Nat} (h : PwRest A E m a e r) (he : e % 2 = 1) : PwRest A E m (a * a % m) (e / 2) (r * a % m) := by
  unfold PwRest at h ⊢
  rw [← h]
  have e1 : a ^ e = a * (a * a) ^ (e / 2) := by
    rw [← Nat.pow_two, ← Nat.pow_mul]
    have : e = 2 * (e / 2) + 1 := by omega
    conv => lhs; rw [this, Nat.pow_succ, Nat.mul_comm]
  rw [e1, Nat.mul_mod, ← Nat.pow_mod, Nat.mod_mod, ← Nat.mul_mod, Nat.mul_assoc]
theorem mul_low {a b : Nat} (ha : a < 4294967296) (hb : b < 4294967296) : a * b ≤ 18446744073709551615 := by
  have := Nat.mul_le_mul (show a ≤ 4294967295 by omega) (show b ≤ 4294967295 by omega)
  omega
set_option maxHeartbeats 2000000 in
/-- modn.powerOfWord. -/
theorem wpower_calls (a e m : Nat) (w : World) (ha : a < 4294967296) (he : e < 18446744073709551616) (hm : 2 ≤ m) (hm2 : m < 4294967296) {r : Nat} (hr : a ^ e % m = r) :
    Calls Tryd.prog 70 #[.int .u64 a, .int .u64 e, .int .u64 m] w fun en w' => en = .returned (.int .u64 (r : Int)) ∧ w = w' := by
  have H0 : Hid (PwRest a e m a e 1) := Lib.hid (by unfold PwRest; rw [Nat.one_mul])
  have HR := Lib.hid hr
  clear hr
  go_enter Tryd.func70, Tryd.ntmps70
  go_wp2
  go_loop [0, 1, 7] (fun s0 s1 s7 => ∃ b k x : Nat, s0 = .int .u64 (b : Int) ∧ s1 = .int .u64 (k : Int) ∧ s7 = .int .u64 (x : Int) ∧ b < 4294967296 ∧ k < 18446744073709551616 ∧ x < m ∧ Hid (PwRest a e m b k x)) (fun _ s1 _ => (intOf s1).toNat)
  case atStart => exact ⟨a, e, 1, rfl, rfl, rfl, ha, he, by omega, H0⟩
  case round =>
    obtain ⟨b, k, x, rfl, rfl, rfl, hb, hk, hx, HP⟩ := hrel
    rcases Nat.eq_zero_or_pos k with rfl | h0
    · have e1 : x = r := by
        have := HP.out
        unfold PwRest at this
        rw [Nat.pow_zero, Nat.mul_one, HR.out, Nat.mod_eq_of_lt hx] at this
        exact this
      clear H0 HP HR
      subst e1
      go_wp2
      go_ret
      exact ⟨rfl, rfl⟩
    · have h1 := and_one hk
      obtain ⟨p, hp⟩ : ∃ p, b * b = p := ⟨_, rfl⟩
      have hpl : p ≤ 18446744073709551615 := by rw [← hp]; exact mul_low hb hb
      have hpc : (b : Int) * (b : Int) = (p : Int) := by rw [← hp]; push_cast; rfl
      have hpm : p % m < m := Nat.mod_lt _ (by omega)
      have HPP := Lib.hid hp
      clear hp
      rcases Nat.mod_two_eq_zero_or_one k with z | z
      · rw [z] at h1
        have HN := Lib.hid (HP.out.even z)
        rw [HPP.out] at HN
        have HZ := Lib.hid z
        clear z HP
        go_wp2
        all_goals
          go_round
          case rel => exact ⟨p % m, k / 2, x, by go_num, by go_num, rfl, by omega, by omega, hx, HN⟩
          case measure => simp [intOf]; omega
      · rw [z] at h1
        obtain ⟨y, hy⟩ : ∃ y, x * b = y := ⟨_, rfl⟩
        have hyl : y ≤ 18446744073709551615 := by rw [← hy]; exact mul_low (by omega) hb
        have hyc : (x : Int) * (b : Int) = (y : Int) := by rw [← hy]; push_cast; rfl
        have HN := Lib.hid (HP.out.odd z)
        rw [HPP.out, hy] at HN
        have hym : y % m < m := Nat.mod_lt _ (by omega)
        have HZ := Lib.hid z
        clear z HP hy
        go_wp2
        all_goals
          go_round
          case rel => exact ⟨p % m, k / 2, y % m, by go_num, by go_num, by go_num, by omega, by omega, hym, HN⟩
          case measure => simp [intOf]; omega

open MR in
/-- What looksPrime answers. -/
def LpPost (p b : Nat) (w : World) (e : Ending) (w' : World) : Prop := ∃ v : Bool, e = .returned (.bool v) ∧ (v = true ↔ ∃ t d, p - 1 = 2 ^ t * d ∧ d % 2 = 1 ∧ MR.Sp p b t d) ∧ w = w'
theorem sp_only {t d t' d' : Nat} (h : 2 ^ t * d = 2 ^ t' * d') (hd : d % 2 = 1) (hd' : d' % 2 = 1) : t = t' ∧ d = d' := by
  have key : ∀ (t t' d d' : Nat), 2 ^ t * d = 2 ^ t' * d' → d % 2 = 1 → d' % 2 = 1 → t ≤ t' → t = t' := by
    intro t t' d d' h hd hd' hle
    obtain ⟨k, rfl⟩ : ∃ k, t' = t + k := ⟨t' - t, by omega⟩
    rcases Nat.eq_zero_or_pos k with z | z
    · omega
    · obtain ⟨j, rfl⟩ : ∃ j, k = j + 1 := ⟨k - 1, by omega⟩
      rw [Nat.pow_add, Nat.mul_assoc] at h
      have h1 := Nat.eq_of_mul_eq_mul_left (Nat.two_pow_pos t) h
      rw [MR.two_pow] at h1
      omega
  have e : t = t' := by
    rcases Nat.le_total t t' with z | z
    · exact key t t' d d' h hd hd' z
    · exact (key t' t d' d h.symm hd' hd z).symm
  subst e
  exact ⟨rfl, Nat.eq_of_mul_eq_mul_left (Nat.two_pow_pos t) h⟩
/-- No square so far was -1. -/
def LpRest (p b d t i x : Nat) : Prop := b ^ (2 ^ i * d) % p = x ∧ ∀ j, j < i → b ^ (2 ^ j * d) % p ≠ p - 1
theorem LpRest.next {p b d t i x : Nat} (h : LpRest p b d t i x) (hx : x ≠ p - 1) : LpRest p b d t (i + 1) (x * x % p) := by
  obtain ⟨h1, h2⟩ := h
  refine ⟨?_, fun j hj => ?_⟩
  · rw [MR.two_pow, Nat.pow_add, Nat.mul_mod, h1, ← h1]
  · by_cases e : j = i
    · rw [e, h1]; exact hx
    · exact h2 j (by omega)
theorem lp_no {n b d z y : Nat} (hz : n = 2 ^ z * d) (hd : d % 2 = 1) (hn : b ^ d % (n + 1) ≠ 1) (hl : LpRest (n + 1) b d z z y) (h : ∃ t d, n + 1 - 1 = 2 ^ t * d ∧ d % 2 = 1 ∧ MR.Sp (n + 1) b t d) : False := by
  obtain ⟨t, d', h1, h2, h3⟩ := h
  rw [Nat.add_sub_cancel, hz] at h1
  obtain ⟨rfl, rfl⟩ := sp_only h1 hd h2
  rcases h3 with h3 | ⟨i, hi, h3⟩
  · exact hn h3
  · exact hl.2 i hi h3
set_option maxHeartbeats 2000000 in
/-- modn.looksPrime. -/
theorem lp_calls (p b : Nat) (w : World) (hp : 3 ≤ p) (hp2 : p < 2147483648) (hb : 1 ≤ b) (hb2 : b ≤ 7) (hT : TabAt 0 Lib.deBruijn64tab w) :
    Calls Tryd.prog 66 #[.int .u64 p, .int .u64 b] w (LpPost p b w) := by
  obtain ⟨n, rfl⟩ : ∃ n, p = n + 1 := ⟨p - 1, by omega⟩
  have hpc : ((n + 1 : Nat) : Int) - 1 = (n : Int) := by omega
  go_enter Tryd.func66, Tryd.ntmps66
  go_wp2_with fail
  refine (tz_calls n (by omega) (by omega) _ hT).mono ?_
  rintro e w1 ⟨⟨z, m, rfl, hz, hz64⟩, rfl⟩
  obtain ⟨d, hd⟩ : ∃ d, 2 * m + 1 = d := ⟨_, rfl⟩
  have hd2 : d % 2 = 1 := by omega
  rw [hd] at hz
  have hdn : d ≤ n := by rw [hz]; exact Nat.le_mul_of_pos_left _ (Nat.two_pow_pos z)
  have hsh : (n : Int) / 2 ^ z = (d : Int) := by
    have e1 : (2 : Int) ^ z = ((2 ^ z : Nat) : Int) := by push_cast; rfl
    rw [e1, ← Int.natCast_ediv, hz, Nat.mul_div_cancel_left _ (Nat.two_pow_pos z)]
  obtain ⟨x, hx⟩ : ∃ x, b ^ d % (n + 1) = x := ⟨_, rfl⟩
  have hxl : x < n + 1 := by rw [← hx]; exact Nat.mod_lt _ (by omega)
  have HX := Lib.hid hx
  have HZ := Lib.hid hz
  have HD := Lib.hid hd2
  clear hx hz hd2 hd
  go_wp2_with fail
  refine (wpower_calls b d (n + 1) _ (by omega) (by omega) (by omega) (by omega) HX.out).mono ?_
  rintro e w2 ⟨rfl, rfl⟩
  clear hsh
  by_cases h1 : x = 1
  · have P : Hid (LpPost (n + 1) b w (.returned (.bool true)) w) := Lib.hid ⟨true, rfl, ⟨fun _ => ⟨z, d, by rw [Nat.add_sub_cancel]; exact HZ.out, HD.out, .inl (by rw [HX.out, h1])⟩, fun _ => rfl⟩, rfl⟩
    subst h1
    go_wp2_with fail
    go_ret
    exact P.out
  · have h1' : ((x : Int) == 1) = false := by rw [beq_eq_false_iff_ne]; omega
    have HN : Hid (b ^ d % (n + 1) ≠ 1) := Lib.hid (by rw [HX.out]; exact h1)
    have hL : Hid (LpRest (n + 1) b d z 0 x) := Lib.hid ⟨by rw [Nat.pow_zero, Nat.one_mul]; exact HX.out, fun j hj => by omega⟩
    clear h1 HX
    go_wp2_with fail
    clear h1'
    go_loop [6, 20] (fun s6 i => ∃ k y : Nat, k ≤ z ∧ i = .int .i64 (k : Int) ∧ s6 = .int .u64 (y : Int) ∧ y < n + 1 ∧ Hid (LpRest (n + 1) b d z k y)) (fun _ i => z - (intOf i).toNat)
    case atStart => exact ⟨0, x, Nat.zero_le _, rfl, rfl, hxl, hL⟩
    case round =>
      clear hL
      obtain ⟨k, y, hk, rfl, rfl, hy, HL⟩ := hrel
      by_cases hkz : k = z
      · have P : Hid (LpPost (n + 1) b w (.returned (.bool false)) w) := Lib.hid ⟨false, rfl, ⟨fun h => (by cases h), fun h => (lp_no HZ.out HD.out HN.out (hkz ▸ HL.out) h).elim⟩, rfl⟩
        subst hkz
        clear HL hk
        go_wp2
        go_ret
        exact P.out
      · have hlt : k < z := by omega
        clear hkz
        by_cases hyn : y = n
        · have P : Hid (LpPost (n + 1) b w (.returned (.bool true)) w) := Lib.hid ⟨true, rfl, ⟨fun _ => ⟨z, d, by rw [Nat.add_sub_cancel]; exact HZ.out, HD.out, .inr ⟨k, hlt, by rw [HL.out.1, hyn, Nat.add_sub_cancel]⟩⟩, fun _ => rfl⟩, rfl⟩
          subst hyn
          clear HL
          go_wp2
          go_ret
          exact P.out
        · have h2 : ((y : Int) == (n : Int)) = false := by rw [beq_eq_false_iff_ne]; omega
          obtain ⟨q, hq⟩ : ∃ q, y * y = q := ⟨_, rfl⟩
          have hql : q ≤ 18446744073709551615 := by rw [← hq]; exact mul_low (by omega) (by omega)
          have hqc : (y : Int) * (y : Int) = (q : Int) := by rw [← hq]; push_cast; rfl
          have HM := Lib.hid (HL.out.next (by rw [Nat.add_sub_cancel]; exact hyn))
          rw [hq] at HM
          have hqm : q % (n + 1) < n + 1 := Nat.mod_lt _ (by omega)
          clear hq HL hyn
          go_wp2
          go_round
          case rel => exact ⟨k + 1, q % (n + 1), by omega, by go_num, by go_num, hqm, HM⟩
          case measure => simp [intOf]; omega
end Go.Proofs.YthigedcpiglmnaaDoor
