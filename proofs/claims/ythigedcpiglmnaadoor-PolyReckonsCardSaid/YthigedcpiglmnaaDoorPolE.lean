/-
  Polynomials over a field, plain facts: the product's numbers as sums, derivatives, values. No program is named here.
-/
import Derived.Test.YthigedcpiglmnaaDoorPolD
/-! Plain facts on polynomials over a field: sums of products, derivatives. -/
namespace Go.Proofs.YthigedcpiglmnaaDoor
set_option linter.unusedVariables false
set_option linter.unusedSimpArgs false

/-- The first k of the products that come to the place i. -/
def csum (a b : List Nat) (i : Nat) : Nat → Nat
  | 0 => 0
  | k + 1 => csum a b i k + nth a k * nth b (i - k)
theorem csum_cons (c : Nat) (t b : List Nat) (i : Nat) : ∀ k, k ≤ i → csum (c :: t) b (i + 1) (k + 1) = c * nth b (i + 1) + csum t b i k := by
  intro k
  induction k with
  | zero => intro _; simp [csum, nth_cons_zero]
  | succ k ih =>
    intro hk
    rw [csum, ih (by omega), csum, nth_cons_succ, show i + 1 - (k + 1) = i - k by omega]; omega
theorem nth_cvl : ∀ (a b : List Nat) (i : Nat), nth (cvl a b) i = csum a b i (i + 1)
  | [], b, i => by
    have : ∀ k, csum [] b i k = 0 := by
      intro k
      induction k with
      | zero => rfl
      | succ k ih => rw [csum, ih, nth_nil]; omega
    rw [this, cvl, nth_nil]
  | c :: t, b, i => by
    simp only [cvl, nth_addl, nth_scl]
    cases i with
    | zero => simp [csum, nth_cons_zero]
    | succ i =>
      have e1 := csum_cons c t b i i (Nat.le_refl _)
      rw [nth_cons_succ, nth_cvl t b i]
      show c * nth b (i + 1) + (csum t b i i + nth t i * nth b (i - i)) = csum (c :: t) b (i + 1) (i + 1) + nth (c :: t) (i + 1) * nth b (i + 1 - (i + 1))
      rw [e1, nth_cons_succ, Nat.sub_self, Nat.sub_self]
      omega
/-- The derivative. -/
def drl (xs : List Nat) : List Nat := (List.range (xs.length - 1)).map fun i => (i + 1) * nth xs (i + 1)
theorem drl_length (xs : List Nat) : (drl xs).length = xs.length - 1 := by simp [drl]
theorem nth_drl (xs : List Nat) (j : Nat) : nth (drl xs) j = (j + 1) * nth xs (j + 1) := by
  by_cases h : j < xs.length - 1
  · unfold drl nth
    simp [List.getD, h]
  · rw [nth_ge (by rw [drl_length]; omega), nth_ge (xs := xs) (by omega), Nat.mul_zero]
theorem drl_congr {p : Nat} {a b : List Nat} (h : Eqm p (pe a) (pe b)) : Eqm p (pe (drl a)) (pe (drl b)) := eqm_iff.2 fun i => by
  rw [nth_drl, nth_drl, Nat.mul_mod, eqm_iff.1 h (i + 1), ← Nat.mul_mod]
theorem pe_ext {a b : List Nat} (h : ∀ i, nth a i = nth b i) (x : Int) : pe a x = pe b x := by
  induction a generalizing b with
  | nil =>
    have : ∀ l : List Nat, (∀ i, nth [] i = nth l i) → pe l x = 0 := by
      intro l
      induction l with
      | nil => intro _; rfl
      | cons c t ih =>
        intro hl
        have h0 := hl 0
        rw [nth_nil, nth_cons_zero] at h0
        rw [pe_cons, ih fun i => by have := hl (i + 1); rw [nth_nil, nth_cons_succ] at this; rw [nth_nil]; exact this, ← h0]; simp
    rw [this b h, pe_nil]
  | cons c t ih =>
    cases b with
    | nil =>
      have h0 := h 0
      rw [nth_nil, nth_cons_zero] at h0
      rw [pe_cons, ih (b := []) fun i => by have := h (i + 1); rw [nth_nil, nth_cons_succ] at this; rw [nth_nil]; exact this, h0, pe_nil]; simp
    | cons d u =>
      have h0 := h 0
      rw [nth_cons_zero, nth_cons_zero] at h0
      rw [pe_cons, pe_cons, ih (b := u) fun i => by have := h (i + 1); rwa [nth_cons_succ, nth_cons_succ] at this, h0]
theorem pe_drl_cons (c : Nat) (t : List Nat) (x : Int) : pe (drl (c :: t)) x = pe t x + x * pe (drl t) x := by
  have e : pe (drl (c :: t)) x = pe (addl t (0 :: drl t)) x := pe_ext (fun i => by
    rw [nth_drl, nth_addl, nth_cons_succ]
    cases i with
    | zero => rw [nth_cons_zero]; omega
    | succ i => rw [nth_cons_succ, nth_drl, Nat.add_mul, Nat.one_mul]; omega) x
  rw [e, pe_addl, pe_cons]; simp
theorem pe_drl_addl (a b : List Nat) (x : Int) : pe (drl (addl a b)) x = pe (drl a) x + pe (drl b) x := by
  rw [← pe_addl]
  exact pe_ext (fun i => by rw [nth_drl, nth_addl, nth_addl, nth_drl, nth_drl, Nat.mul_add]) x
theorem pe_drl_scl (c : Nat) (a : List Nat) (x : Int) : pe (drl (scl c a)) x = c * pe (drl a) x := by
  rw [← pe_scl]
  exact pe_ext (fun i => by rw [nth_drl, nth_scl, nth_scl, nth_drl, Nat.mul_left_comm]) x
theorem pe_drl_nil (x : Int) : pe (drl []) x = 0 := rfl
theorem pe_drl_cvl (a b : List Nat) (x : Int) : pe (drl (cvl a b)) x = pe (drl a) x * pe b x + pe a x * pe (drl b) x := by
  induction a with
  | nil => rw [cvl, pe_drl_nil, pe_nil]; grind
  | cons c t ih => rw [cvl, pe_drl_addl, pe_drl_scl, pe_drl_cons, ih, pe_drl_cons, pe_cvl, pe_cons]; grind
theorem drl_mul {p : Nat} (a b : List Nat) : nrm p (drl (mulp p a b)) = nrm p (addl (cvl (drl a) b) (cvl a (drl b))) := by
  refine nrm_eq ((drl_congr (eqm_nrm p (cvl a b))).trans (.of fun x => ?_))
  rw [pe_drl_cvl, pe_addl, pe_cvl, pe_cvl]
theorem drl_add {p : Nat} (a b : List Nat) : nrm p (drl (amul p a b 1)) = amul p (drl a) (drl b) 1 := by
  refine nrm_eq ((drl_congr (eqm_nrm p (addl a (scl 1 b)))).trans (.of fun x => ?_))
  rw [pe_drl_addl, pe_drl_scl, pe_addl, pe_scl]
end Go.Proofs.YthigedcpiglmnaaDoor
