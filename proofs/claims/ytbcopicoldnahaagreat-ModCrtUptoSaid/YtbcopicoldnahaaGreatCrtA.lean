/-
  Rests by several moduli: plain facts.
-/
import Derived.Lib.Hide
/-! Rests by several moduli: plain facts. -/
namespace Go.Proofs.YtbcopicoldnahaaGreat
set_option linter.unusedVariables false

theorem bezout (a b : Nat) : ∃ x y : Int, x * a + y * b = (Nat.gcd a b : Int) := by
  refine Nat.gcd.induction (P := fun a b => ∃ x y : Int, x * a + y * b = (Nat.gcd a b : Int)) a b ?_ ?_
  · intro n
    exact ⟨0, 1, by simp⟩
  · intro m n hm ⟨x, y, h⟩
    refine ⟨y - x * (n / m : Nat), x, ?_⟩
    rw [Nat.gcd_rec m n, ← h]
    have e : (n : Int) = m * (n / m : Nat) + (n % m : Nat) := by rw [← Int.natCast_mul, ← Int.natCast_add, Nat.div_add_mod]
    generalize hq : ((n / m : Nat) : Int) = q at *
    generalize hr : ((n % m : Nat) : Int) = r at *
    rw [e]
    grind
/-- What a gcd divides is a sum of multiples. -/
theorem gcd_sum {a c : Nat} {z : Int} (h : (Nat.gcd a c : Int) ∣ z) : ∃ s t : Int, z = s * a + t * c := by
  obtain ⟨x, y, e⟩ := bezout a c
  obtain ⟨k, rfl⟩ := h
  refine ⟨k * x, k * y, ?_⟩
  rw [← e]
  grind
theorem lcm_parts (a b : Nat) (h : 0 < Nat.gcd a b) : ∃ a' b' : Nat, a = a' * Nat.gcd a b ∧ b = b' * Nat.gcd a b ∧ Nat.gcd a' b' = 1 ∧ Nat.lcm a b = a' * b' * Nat.gcd a b := by
  refine ⟨a / Nat.gcd a b, b / Nat.gcd a b, (Nat.div_mul_cancel (Nat.gcd_dvd_left a b)).symm, (Nat.div_mul_cancel (Nat.gcd_dvd_right a b)).symm, ?_, ?_⟩
  · rw [Nat.gcd_div (Nat.gcd_dvd_left a b) (Nat.gcd_dvd_right a b), Nat.div_self h]
  · unfold Nat.lcm
    rw [Nat.mul_assoc, Nat.div_mul_cancel (Nat.gcd_dvd_right a b), Nat.mul_comm, Nat.mul_div_assoc _ (Nat.gcd_dvd_left a b), Nat.mul_comm]
/-- What both gcds divide, that of the least common multiple divides. -/
theorem gcd_lcm {a b c : Nat} {z : Int} (h0 : 0 < Nat.gcd a b) (h1 : (Nat.gcd a c : Int) ∣ z) (h2 : (Nat.gcd b c : Int) ∣ z) : (Nat.gcd (Nat.lcm a b) c : Int) ∣ z := by
  obtain ⟨a', b', ha, hb, hc, hl⟩ := lcm_parts a b h0
  obtain ⟨s, t, e1⟩ := gcd_sum h1
  obtain ⟨s', t', e2⟩ := gcd_sum h2
  obtain ⟨x, y, e3⟩ := bezout a' b'
  rw [hc] at e3
  have hL1 : (a' : Int) * (b : Int) = (Nat.lcm a b : Nat) := by
    rw [hl]; conv => lhs; rw [hb]
    push_cast
    grind
  have hL2 : (b' : Int) * (a : Int) = (Nat.lcm a b : Nat) := by
    rw [hl]; conv => lhs; rw [ha]
    push_cast
    grind
  have e : z = (x * s' + y * s) * (Nat.lcm a b : Nat) + (x * a' * t' + y * b' * t) * c := by
    generalize ((Nat.lcm a b : Nat) : Int) = L at *
    generalize (a : Int) = A at *
    generalize (b : Int) = B at *
    generalize (c : Int) = C at *
    generalize (a' : Int) = A' at *
    generalize (b' : Int) = B' at *
    have h3 : (x * A' + y * B') * z = z := by rw [e3]; simp
    have h4 : x * A' * z = x * s' * L + x * A' * t' * C := by rw [e2, ← hL1]; grind
    have h5 : y * B' * z = y * s * L + y * B' * t * C := by rw [e1, ← hL2]; grind
    rw [← h3, Int.add_mul, h4, h5]
    grind
  rw [e]
  refine Int.dvd_add ?_ ?_
  · exact Int.dvd_trans (Int.natCast_dvd_natCast.2 (Nat.gcd_dvd_left _ _)) ⟨_, Int.mul_comm _ _⟩
  · exact Int.dvd_trans (Int.natCast_dvd_natCast.2 (Nat.gcd_dvd_right _ _)) ⟨_, Int.mul_comm _ _⟩
/-- What join tells of two classes, of rest a by p and rest b by q. -/
def JoinOk (a p b q R M : Int) : Prop := 0 ≤ R ∧ R < M ∧ p ∣ R - a ∧ q ∣ R - b ∧ (∀ z : Int, M ∣ z ↔ p ∣ z ∧ q ∣ z)
/-- The number of times that the second modulus is put to its rest. -/
theorem join_ok {a p b q g X Y d P T : Int} (hp : 0 < p) (hq : 0 < q) (hg : 0 < g) (hb0 : 0 ≤ b) (hb1 : b < q) (hX : X * q + Y * p = g) (hgp : P * g = p) (hd : d * g = a - b) (hT : d * X % P = T) (hgq : g ∣ q) :
    JoinOk a p b q (b + q * T) (q * P) := by
  have hP : 0 < P := by
    apply Classical.byContradiction
    intro h
    have := Int.mul_le_mul_of_nonneg_right (show P ≤ 0 by omega) (show 0 ≤ g by omega)
    omega
  have hT0 : 0 ≤ T := by rw [← hT]; exact Int.emod_nonneg _ (by omega)
  have hT1 : T < P := by rw [← hT]; exact Int.emod_lt_of_pos _ hP
  obtain ⟨Q, hQ⟩ := hgq
  obtain ⟨k, hk⟩ : ∃ k, d * X = T + P * k := ⟨d * X / P, by have := Int.emod_add_mul_ediv (d * X) P; omega⟩
  refine ⟨?_, ?_, ?_, ?_, ?_⟩
  · have := Int.mul_nonneg (show 0 ≤ q by omega) hT0; omega
  · have := Int.mul_le_mul_of_nonneg_left (show T + 1 ≤ P by omega) (show 0 ≤ q by omega)
    rw [Int.mul_add, Int.mul_one] at this
    omega
  · refine ⟨-(d * Y) - Q * k, ?_⟩
    have e1 : q * T = q * (d * X) - q * (P * k) := by rw [hk, Int.mul_add]; omega
    have e2 : q * (d * X) = d * g - d * Y * p := by rw [← hX]; grind
    have e3 : q * (P * k) = p * (Q * k) := by rw [hQ, ← hgp]; grind
    rw [e1, e2, e3, hd]
    grind
  · exact ⟨T, by omega⟩
  · intro z
    constructor
    · intro h
      refine ⟨?_, Int.dvd_trans ⟨P, rfl⟩ h⟩
      refine Int.dvd_trans ⟨Q, ?_⟩ h
      rw [hQ, ← hgp]; grind
    · rintro ⟨⟨s, hs⟩, t, ht⟩
      -- z g = z (X q + Y p), and both parts are multiples of q P g
      have e : z * g = (q * P) * g * (s * X + t * Y) := by
        have h1 : z * g = z * X * q + z * Y * p := by rw [← hX]; grind
        have h2 : z * X * q = p * s * X * q := by rw [hs]
        have h3 : z * Y * p = q * t * Y * p := by rw [ht]
        rw [h1, h2, h3, ← hgp]
        grind
      refine ⟨s * X + t * Y, Int.eq_of_mul_eq_mul_right (show g ≠ 0 by omega) ?_⟩
      rw [e]
      grind
/-- Where join finds nothing, nothing is in both. -/
theorem join_none {a p b q g : Int} (hg : g ∣ p) (hq : g ∣ q) (h : ¬ g ∣ a - b) (z : Int) : ¬ (p ∣ z - a ∧ q ∣ z - b) := by
  rintro ⟨h1, h2⟩
  refine h ?_
  have := Int.dvd_sub (Int.dvd_trans hq h2) (Int.dvd_trans hg h1)
  rwa [show z - b - (z - a) = a - b by omega] at this
end Go.Proofs.YtbcopicoldnahaaGreat
