/-
  Plain facts of fractions.
-/
import Derived.Test.YtfpncmhaoadfdaaGreatZintD
/-! Plain facts of fractions: normal forms, signs, roundings. -/
namespace Go.Proofs.YtfpncmhaoadfdaaGreat
set_option linter.unusedVariables false

/-- What is divided out of a fraction: the greatest common divisor, with the sign of what stands below. -/
def rcom (N D : Int) : Int := if D < 0 then -((Nat.gcd N.natAbs D.natAbs : Nat) : Int) else ((Nat.gcd N.natAbs D.natAbs : Nat) : Int)
theorem rcom_ne {N D : Int} (h : D ≠ 0) : rcom N D ≠ 0 := by
  have := Nat.gcd_pos_of_pos_right N.natAbs (show 0 < D.natAbs by omega)
  unfold rcom
  split <;> omega
theorem rcom_sign {N D : Int} (h : D ≠ 0) : rcom N D = D.sign * (Nat.gcd N.natAbs D.natAbs : Nat) := by
  unfold rcom
  rcases Int.lt_trichotomy D 0 with h1 | h1 | h1
  · rw [if_pos h1, Int.sign_eq_neg_one_of_neg h1]; omega
  · exact absurd h1 h
  · rw [if_neg (by omega), Int.sign_eq_one_of_pos h1]; omega
theorem rsign_sq {D : Int} (h : D ≠ 0) : D.sign * D.sign = 1 := by
  rcases Int.lt_trichotomy D 0 with h1 | h1 | h1
  · rw [Int.sign_eq_neg_one_of_neg h1]; rfl
  · exact absurd h1 h
  · rw [Int.sign_eq_one_of_pos h1]; rfl
theorem num_rcom {N D : Int} (h : D ≠ 0) : (Rat.divInt N D).num * rcom N D = N := by
  rw [Rat.num_divInt, rcom_sign h]
  have e : D.gcd N = Nat.gcd N.natAbs D.natAbs := by rw [Int.gcd, Nat.gcd_comm]
  rw [e]
  have hd : ((Nat.gcd N.natAbs D.natAbs : Nat) : Int) ∣ D.sign * N := Int.dvd_trans (Int.dvd_trans (Int.natCast_dvd_natCast.2 (Nat.gcd_dvd_left _ _)) Int.natAbs_dvd_self) (Int.dvd_mul_left _ _)
  have h1 := Int.ediv_mul_cancel hd
  have h2 := rsign_sq h
  grind
theorem den_rcom {N D : Int} (h : D ≠ 0) : ((Rat.divInt N D).den : Int) * rcom N D = D := by
  rw [Rat.den_divInt, rcom_sign h, if_neg h]
  have e : D.gcd N = Nat.gcd N.natAbs D.natAbs := by rw [Int.gcd, Nat.gcd_comm]
  rw [e]
  have h1 := Nat.div_mul_cancel (Nat.gcd_dvd_right N.natAbs D.natAbs)
  have h2 : D.sign * D.natAbs = D := Int.sign_mul_natAbs D
  have h3 : ((D.natAbs / Nat.gcd N.natAbs D.natAbs : Nat) : Int) * (Nat.gcd N.natAbs D.natAbs : Nat) = D.natAbs := by rw [← Int.natCast_mul, h1]
  grind
theorem rq_zero (N : Int) : Rat.divInt N 0 = 0 := by simp
theorem rq_iff {q : Rat} {N D : Int} (h : D ≠ 0) : q = Rat.divInt N D ↔ q.num * D = N * q.den := by
  have h1 := Rat.num_divInt_den q
  have h2 : (q.den : Int) ≠ 0 := by have := q.den_nz; omega
  rw [← Rat.divInt_eq_divInt_iff h2 h, h1]
theorem rdivInt_div (N D : Int) : Rat.divInt N D = (N : Rat) / (D : Rat) := Rat.divInt_eq_div N D
/-- The sign of a fraction. -/
def rsg (q : Rat) : Int := q.num.sign
theorem rsg_divInt (N D : Int) : (Rat.divInt N D).num.sign = N.sign * D.sign := by
  rw [Rat.num_divInt]
  by_cases h : D = 0
  · subst h; simp
  · have hd : ((D.gcd N : Nat) : Int) ∣ D.sign * N := Int.dvd_trans (Int.gcd_dvd_right _ _) (Int.dvd_mul_left _ _)
    obtain ⟨k, hk⟩ := hd
    have hg : (0 : Int) < (D.gcd N : Nat) := by have := Int.gcd_pos_of_ne_zero_left N h; omega
    rw [hk, Int.mul_ediv_cancel_left _ (by omega)]
    have e : (D.sign * N).sign = k.sign := by rw [hk, Int.sign_mul, Int.sign_eq_one_of_pos hg, Int.one_mul]
    rw [← e, Int.sign_mul, Int.sign_sign, Int.mul_comm]
theorem rsg_zero : rsg 0 = 0 := rfl
theorem rsg_lt {q : Rat} : rsg q < 0 ↔ q < 0 := by
  unfold rsg
  rw [Rat.lt_iff]
  simp
theorem rsg_le {q : Rat} : rsg q ≤ 0 ↔ q ≤ 0 := by
  unfold rsg
  rw [Rat.le_iff]
  simp
theorem rsg_eq {q : Rat} : rsg q = 0 ↔ q = 0 := by
  unfold rsg
  rw [Int.sign_eq_zero_iff_zero, Rat.num_eq_zero]
theorem rsg_pos {q : Rat} : 0 < rsg q ↔ 0 < q := by
  unfold rsg
  rw [Rat.lt_iff]
  simp
theorem rsub_divInt {N D M E : Int} (hD : D ≠ 0) (hE : E ≠ 0) : Rat.divInt N D - Rat.divInt M E = Rat.divInt (N * E - M * D) (D * E) := by
  rw [Rat.divInt_sub_divInt _ _ hD hE]
theorem rcmp_eq {N D M E : Int} (hD : D ≠ 0) (hE : E ≠ 0) : (N * E - M * D).sign * D.sign * E.sign = rsg (Rat.divInt N D - Rat.divInt M E) := by
  rw [rsub_divInt hD hE]
  unfold rsg
  rw [rsg_divInt, Int.sign_mul, Int.mul_assoc]
theorem rquo_eq (N D M E : Int) : Rat.divInt (N * E) (D * M) = Rat.divInt N D / Rat.divInt M E := by
  rw [Rat.div_def, Rat.inv_divInt, Rat.divInt_mul_divInt]
theorem rdivInt_ne {N D : Int} (h : N ≠ 0) (k : D ≠ 0) : Rat.divInt N D ≠ 0 := by
  intro e
  have := rsg_divInt N D
  rw [e] at this
  simp at this
  have := Int.mul_eq_zero.1 this.symm
  rw [Int.sign_eq_zero_iff_zero, Int.sign_eq_zero_iff_zero] at this
  omega
/-- The floor. -/
theorem rfloor_of {a : Rat} {q : Int} (h1 : (q : Rat) ≤ a) (h2 : a < (q : Rat) + 1) : a.floor = q := by
  have k1 := Rat.le_floor_iff.2 h1
  have k2 : a.floor < q + 1 := by
    rw [Rat.floor_lt_iff]
    simpa using h2
  omega
theorem rfloor_pos {x y q : Int} (hy : 0 < y) (h1 : q * y ≤ x) (h2 : x < (q + 1) * y) : (Rat.divInt x y).floor = q := by
  have hy' : (0 : Rat) < (y : Rat) := Rat.intCast_pos.2 hy
  rw [Rat.divInt_eq_div]
  refine rfloor_of ?_ ?_
  · rw [← Rat.not_lt, Rat.div_lt_iff hy', ← Rat.intCast_mul, Rat.intCast_lt_intCast]
    omega
  · rw [Rat.div_lt_iff hy']
    have e : ((q : Rat) + 1) * (y : Rat) = (((q + 1) * y : Int) : Rat) := by rw [Rat.intCast_mul, Rat.intCast_add]; rfl
    rw [e, Rat.intCast_lt_intCast]
    exact h2
theorem rfloor_negd {x y q : Int} (hy : y < 0) (h1 : x ≤ q * y) (h2 : (q + 1) * y < x) : (Rat.divInt x y).floor = q := by
  rw [← Rat.neg_divInt_neg]
  refine rfloor_pos (by omega) ?_ ?_
  · rw [Int.mul_neg]; omega
  · rw [Int.mul_neg]; omega
/-- What is nearest. -/
def NearOk (a : Rat) (z : Int) : Prop := 2 * ((z : Rat) - a) ≤ 1 ∧ -1 < 2 * ((z : Rat) - a)
theorem rnear_pos {x y z : Int} (hy : 0 < y) (h1 : -y ≤ 2 * (x - z * y)) (h2 : 2 * (x - z * y) < y) : NearOk (Rat.divInt x y) z := by
  have hy' : (0 : Rat) < (y : Rat) := Rat.intCast_pos.2 hy
  have hy0 : (y : Rat) ≠ 0 := fun e => by rw [e] at hy'; exact absurd hy' Rat.lt_irrefl
  have e : 2 * ((z : Rat) - Rat.divInt x y) = ((2 * (z * y - x) : Int) : Rat) / (y : Rat) := by
    rw [Rat.divInt_eq_div]
    simp only [Rat.intCast_mul, Rat.intCast_sub]
    grind
  unfold NearOk
  rw [e]
  constructor
  · rw [← Rat.not_lt, Rat.lt_div_iff hy', Rat.one_mul, Rat.intCast_lt_intCast]
    omega
  · rw [Rat.lt_div_iff hy']
    have e : (-1 : Rat) * (y : Rat) = ((-y : Int) : Rat) := by rw [Rat.intCast_neg]; grind
    rw [e, Rat.intCast_lt_intCast]
    omega
theorem rnear_neg {x y z : Int} (hy : y < 0) (h1 : y ≤ -(2 * (x - z * y))) (h2 : -(2 * (x - z * y)) < -y) : NearOk (Rat.divInt x y) z := by
  rw [← Rat.neg_divInt_neg]
  refine rnear_pos (by omega) ?_ ?_
  · rw [Int.mul_neg]; omega
  · rw [Int.mul_neg]; omega

theorem rnum_rden (q : Rat) : Rat.divInt q.num q.den = q := Rat.num_divInt_den q
theorem rden_ne (q : Rat) : (q.den : Int) ≠ 0 := by have := q.den_nz; omega
theorem radd_divInt {N D M E : Int} (hD : D ≠ 0) (hE : E ≠ 0) : Rat.divInt N D + Rat.divInt M E = Rat.divInt (N * E + M * D) (D * E) := Rat.divInt_add_divInt _ _ hD hE
theorem rmul_divInt (N D M E : Int) : Rat.divInt N D * Rat.divInt M E = Rat.divInt (N * M) (D * E) := Rat.divInt_mul_divInt _ _
theorem rpow_divInt (q : Rat) (n : Nat) : Rat.divInt (q.num ^ n) ((q.den : Int) ^ n) = q ^ n := by
  have h := Rat.num_divInt_den (q ^ n)
  rw [Rat.num_pow, Rat.den_pow, Int.natCast_pow] at h
  exact h
theorem rinv_divInt (q : Rat) (n : Nat) : Rat.divInt ((q.den : Int) ^ n) (q.num ^ n) = (q⁻¹) ^ n := by
  have h := Rat.inv_divInt (q.num ^ n) ((q.den : Int) ^ n)
  rw [rpow_divInt] at h
  rw [← h]
  induction n with
  | zero => rw [Rat.pow_zero, Rat.pow_zero]; decide +kernel
  | succ n ih =>
    have h' := Rat.inv_divInt (q.num ^ n) ((q.den : Int) ^ n)
    rw [rpow_divInt] at h'
    rw [Rat.pow_succ, Rat.pow_succ, Rat.inv_mul_rev, ih h', Rat.mul_comm]
theorem rof_int (z : Int) : Rat.divInt z 1 = (z : Rat) := by
  rw [Rat.divInt_eq_div]
  have e : ((1 : Int) : Rat) = 1 := rfl
  rw [e]
  grind
/-- What a fraction counts as. -/
def cN (N D : Int) : Int := if D = 0 then 0 else N
def cD (D : Int) : Int := if D = 0 then 1 else D
theorem cD_ne (D : Int) : cD D ≠ 0 := by unfold cD; split <;> omega
theorem cq (N D : Int) : Rat.divInt (cN N D) (cD D) = Rat.divInt N D := by
  unfold cN cD
  split
  · rename_i h; subst h; simp
  · rfl
theorem rden_one {N D : Int} (hD : D ≠ 0) (h : (Rat.divInt N D).den = 1) : (Rat.divInt N D).num * D = N := by
  have := (rq_iff (q := Rat.divInt N D) hD).1 rfl
  rw [h] at this
  omega
theorem rden_not {N D : Int} (hD : D ≠ 0) (h : (Rat.divInt N D).den ≠ 1) : N.natAbs % D.natAbs ≠ 0 := by
  intro e
  apply h
  obtain ⟨z, hz⟩ := Int.natAbs_dvd_natAbs.1 (Nat.dvd_of_mod_eq_zero e)
  have : Rat.divInt N D = (z : Rat) := by
    rw [← rof_int, Rat.divInt_eq_divInt_iff hD (by omega), hz]
    simp [Int.mul_comm]
  rw [this]
  rfl
theorem sign_bounds7 (x : Int) : -1 ≤ x.sign ∧ x.sign ≤ 1 := by
  rcases Int.lt_trichotomy x 0 with h | h | h
  · rw [Int.sign_eq_neg_one_of_neg h]; omega
  · subst h; decide
  · rw [Int.sign_eq_one_of_pos h]; omega
theorem mul_bounds7 {a b : Int} (h1 : -1 ≤ a ∧ a ≤ 1) (h2 : -1 ≤ b ∧ b ≤ 1) : -1 ≤ a * b ∧ a * b ≤ 1 := by
  have e : a = -1 ∨ a = 0 ∨ a = 1 := by omega
  rcases e with rfl | rfl | rfl <;> omega
end Go.Proofs.YtfpncmhaoadfdaaGreat
