/-
  Polynomials over a field, plain facts: sums with a multiple, products, division with a rest, what divides, Euclid's way with a cofactor, monic multiples. No program is named here.
-/
import Derived.Test.YthigedcpiglmnaaDoorPolA
import Derived.Test.YthigedcpiglmnaaDoorGfpB
/-! Plain facts on polynomials over a field: division. -/
namespace Go.Proofs.YthigedcpiglmnaaDoor
set_option linter.unusedVariables false
set_option linter.unusedSimpArgs false

theorem unit_inv {p x : Nat} (hp : MR.Pr p) (h : x % p ≠ 0) : x * invW p x % p = 1 := by
  have h2 := hp.1
  have hd : ¬ p ∣ x := fun d => h (Nat.mod_eq_zero_of_dvd d)
  unfold invW
  rw [if_neg h, Nat.mul_mod, Nat.mod_mod, ← Nat.mul_mod, Nat.mul_comm, ← Nat.pow_succ, show (p - 2).succ = p - 1 by omega]
  exact MR.fermat hp hd
theorem pr_pos {p : Nat} (hp : MR.Pr p) : 0 < p := by have := hp.1; omega
theorem pr_mul_ne {p x y : Nat} (hp : MR.Pr p) (hx : x % p ≠ 0) (hy : y % p ≠ 0) : x * y % p ≠ 0 := fun h => by
  rcases hp.mul (Nat.dvd_of_mod_eq_zero h) with d | d
  · exact hx (Nat.mod_eq_zero_of_dvd d)
  · exact hy (Nat.mod_eq_zero_of_dvd d)
/-- a + c b. -/
def amul (p : Nat) (a b : List Nat) (c : Nat) : List Nat := nrm p (addl a (scl c b))
/-- a b. -/
def mulp (p : Nat) (a b : List Nat) : List Nat := nrm p (cvl a b)
theorem eqm_amul (p : Nat) (a b : List Nat) (c : Nat) : Eqm p (pe (amul p a b c)) (fun x => pe a x + c * pe b x) :=
  (eqm_nrm _ _).to fun x => by rw [pe_addl, pe_scl]
theorem eqm_mulp (p : Nat) (a b : List Nat) : Eqm p (pe (mulp p a b)) (fun x => pe a x * pe b x) :=
  (eqm_nrm _ _).to fun x => by rw [pe_cvl]
theorem eqm_const {p m n : Nat} (h : m % p = n % p) : Eqm p (fun _ => (m : Int)) (fun _ => (n : Int)) := by
  obtain ⟨k, hk⟩ := dvd_sub_nat.2 h
  exact ⟨fun _ => k, ply_c _, fun x => by simp only; grind⟩
theorem eqm_m1 {p : Nat} (hp : 0 < p) : Eqm p (fun _ => ((p - 1 : Nat) : Int)) (fun _ => -1) :=
  ⟨fun _ => 1, ply_c _, fun x => by simp only; omega⟩
theorem eqm_amul_sub {p : Nat} (hp : 0 < p) (a b : List Nat) : Eqm p (pe (amul p a b (p - 1))) (fun x => pe a x - pe b x) := by
  refine (eqm_amul _ _ _ _).trans ?_
  refine ((Eqm.refl p (pe a)).add ((eqm_m1 hp).left (ply_pe b))).to fun x => by grind
theorem nm_amul {p : Nat} (hp : 0 < p) (a b : List Nat) (c : Nat) : Nm p (amul p a b c) := nm_nrm hp _
theorem nm_mulp {p : Nat} (hp : 0 < p) (a b : List Nat) : Nm p (mulp p a b) := nm_nrm hp _
theorem amul_len (p : Nat) (a b : List Nat) (c : Nat) : (amul p a b c).length ≤ max a.length b.length := by
  have := nrm_le p (addl a (scl c b))
  rw [addl_length, scl_length] at this
  exact this
theorem cvl_nil (b : List Nat) : cvl [] b = [] := rfl
theorem cvl_nil' {b : List Nat} {i : Nat} : ∀ a : List Nat, b = [] → nth (cvl a b) i = 0 := by
  intro a hb
  subst hb
  induction a generalizing i with
  | nil => exact nth_nil i
  | cons c t ih =>
    simp only [cvl, nth_addl, nth_scl, nth_nil]
    cases i with
    | zero => rw [nth_cons_zero]; omega
    | succ i => rw [nth_cons_succ, ih]; omega
theorem mulp_nil (p : Nat) (b : List Nat) : mulp p [] b = [] := rfl
theorem mulp_nil' (p : Nat) (a : List Nat) : mulp p a [] = [] := nrm_nil_iff.2 fun i => by rw [cvl_nil' a rfl, Nat.zero_mod]
theorem Nm.top' {p : Nat} {xs : List Nat} (hp : 0 < p) (h : Nm p xs) (h0 : xs ≠ []) : nth xs (xs.length - 1) % p ≠ 0 := by
  rw [h.mod hp]; exact h.top h0
theorem mulp_len {p : Nat} (hp : MR.Pr p) {a b : List Nat} (ha : Nm p a) (hb : Nm p b) (a0 : a ≠ []) (b0 : b ≠ []) : (mulp p a b).length = a.length + b.length - 1 := by
  have la := List.length_pos_iff.2 a0
  have lb := List.length_pos_iff.2 b0
  refine nrm_full (fun i hi => ?_) (.inr ?_)
  · rw [nth_ge (by rw [cvl_length a0 b0]; exact hi), Nat.zero_mod]
  · rw [show a.length + b.length - 1 - 1 = a.length + b.length - 2 by omega, cvl_top a0 b0]
    exact pr_mul_ne hp (ha.top' (pr_pos hp) a0) (hb.top' (pr_pos hp) b0)
theorem mulp_top {p : Nat} (hp : MR.Pr p) {a b : List Nat} (ha : Nm p a) (hb : Nm p b) (a0 : a ≠ []) (b0 : b ≠ []) :
    nth (mulp p a b) ((mulp p a b).length - 1) = nth a (a.length - 1) * nth b (b.length - 1) % p := by
  have la := List.length_pos_iff.2 a0
  have lb := List.length_pos_iff.2 b0
  rw [mulp_len hp ha hb a0 b0]
  unfold mulp
  rw [nth_nrm, show a.length + b.length - 1 - 1 = a.length + b.length - 2 by omega, cvl_top a0 b0]
theorem mulp_ne {p : Nat} (hp : MR.Pr p) {a b : List Nat} (ha : Nm p a) (hb : Nm p b) (a0 : a ≠ []) (b0 : b ≠ []) : mulp p a b ≠ [] := fun h => by
  have la := List.length_pos_iff.2 a0
  have lb := List.length_pos_iff.2 b0
  have := mulp_len hp ha hb a0 b0
  rw [h] at this; simp at this; omega
theorem mulp_le (p : Nat) (a b : List Nat) : (mulp p a b).length ≤ a.length + b.length - 1 := by
  by_cases a0 : a = []
  · subst a0; rw [mulp_nil]; simp
  · by_cases b0 : b = []
    · subst b0; rw [mulp_nil']; simp
    · have := nrm_le p (cvl a b); rwa [cvl_length a0 b0] at this

/-- Quotient and rest. -/
structure DivSpec (p : Nat) (a b q r : List Nat) : Prop where
  nq : Nm p q
  nr : Nm p r
  lt : r.length < b.length
  eq : Eqm p (pe a) (fun x => pe q x * pe b x + pe r x)
theorem dm_uniq {p : Nat} (hp : MR.Pr p) {a b q r q' r' : List Nat} (hb : Nm p b) (h : DivSpec p a b q r) (k : DivSpec p a b q' r') : q = q' ∧ r = r' := by
  have h0 := pr_pos hp
  have b0 : b ≠ [] := fun e => by have := h.lt; rw [e] at this; simp at this
  have nd := nm_amul h0 q q' (p - 1)
  have ed := eqm_amul_sub h0 q q'
  have e1 : Eqm p (fun x => pe (amul p q q' (p - 1)) x * pe b x) (fun x => pe r' x - pe r x) := by
    refine (ed.left (ply_pe b)).trans ?_
    have := (h.eq.symm.trans k.eq).sub (Eqm.refl p (fun x => pe q' x * pe b x + pe r x))
    exact (this.by fun x => by grind).to fun x => by grind
  have hd : amul p q q' (p - 1) = [] := by
    by_cases d0 : amul p q q' (p - 1) = []
    · exact d0
    · exfalso
      have l1 := mulp_len hp nd hb d0 b0
      have : mulp p (amul p q q' (p - 1)) b = amul p r' r (p - 1) :=
        uniq h0 (nm_mulp h0 _ _) (nm_amul h0 _ _ _) ((eqm_mulp _ _ _).trans (e1.trans (eqm_amul_sub h0 r' r).symm))
      rw [this] at l1
      have l2 := amul_len p r' r (p - 1)
      have l3 := List.length_pos_iff.2 d0
      have := h.lt; have := k.lt
      omega
  rw [hd] at ed e1
  constructor
  · exact uniq h0 h.nq k.nq ((ed.symm.add (Eqm.refl p (pe q'))).by (fun x => by grind) |>.to fun x => by rw [pe_nil]; grind)
  · exact (uniq h0 k.nr h.nr ((e1.symm.add (Eqm.refl p (pe r))).by (fun x => by grind) |>.to fun x => by rw [pe_nil]; grind)).symm
theorem dm_exists {p : Nat} (hp : MR.Pr p) {b : List Nat} (hb : Nm p b) (b0 : b ≠ []) : ∀ a : List Nat, ∃ q r, DivSpec p a b q r := by
  have h0 := pr_pos hp
  have lb := List.length_pos_iff.2 b0
  intro a
  induction a with
  | nil => exact ⟨[], [], Nm.nil p, Nm.nil p, by simpa using lb, .of fun x => by simp [pe_nil]⟩
  | cons c t ih =>
    obtain ⟨q, r, h⟩ := ih
    -- the rest so far, with the next number below it
    have lc : (c :: r).length ≤ b.length := by have := h.lt; simp; omega
    obtain ⟨k, hk⟩ : ∃ k, k = nth (c :: r) (b.length - 1) * invW p (nth b (b.length - 1)) % p := ⟨_, rfl⟩
    refine ⟨nrm p (k :: q), amul p (c :: r) b (p - 1) |> fun _ => amul p (c :: r) (scl k b) (p - 1), nm_nrm h0 _, nm_amul h0 _ _ _, ?_, ?_⟩
    · have : (amul p (c :: r) (scl k b) (p - 1)).length ≤ b.length - 1 := by
        refine nrm_short fun i hi => ?_
        rw [nth_addl, nth_scl, nth_scl]
        by_cases e : i = b.length - 1
        · subst e
          have hu := unit_inv hp (hb.top' h0 b0)
          generalize nth (c :: r) (b.length - 1) = u at *
          generalize nth b (b.length - 1) = t at *
          have e1 : (k * t) % p = u % p := by
            rw [hk, Nat.mod_mul_mod, Nat.mul_assoc, Nat.mul_comm (invW p t) t, ← Nat.mul_mod_mod, hu, Nat.mul_one]
          have e2 : (u + (p - 1) * (k * t)) % p = (k * t + (p - 1) * (k * t)) % p := by rw [Nat.add_mod, ← e1, ← Nat.add_mod]
          rw [e2, show k * t + (p - 1) * (k * t) = p * (k * t) by
            have : p = (p - 1) + 1 := by omega
            generalize p - 1 = m at *; subst this; grind]
          exact Nat.mul_mod_right _ _
        · rw [nth_ge (xs := c :: r) (by omega), nth_ge (xs := b) (by omega)]
          simp
      show (amul p (c :: r) (scl k b) (p - 1)).length < b.length
      omega
    · have e1 := eqm_amul_sub h0 (c :: r) (scl k b)
      have e2 := eqm_nrm p (k :: q)
      have e3 := h.eq
      have e4 : Eqm p (fun x => pe (nrm p (k :: q)) x * pe b x + pe (amul p (c :: r) (scl k b) (p - 1)) x) (fun x => pe (k :: q) x * pe b x + (pe (c :: r) x - pe (scl k b) x)) := (e2.left (ply_pe b)).add e1
      refine Eqm.trans ?_ e4.symm
      have e5 := (Eqm.refl p (fun _ => (c : Int))).add (e3.right ply_x)
      refine (e5.by fun x => by rw [pe_cons]) |>.to fun x => ?_
      rw [pe_cons, pe_cons, pe_scl]; grind
open Classical in
/-- The quotient; nothing, where there is none. -/
noncomputable def quoP (p : Nat) (a b : List Nat) : List Nat := if h : ∃ q r, DivSpec p a b q r then h.choose else []
open Classical in
/-- The rest; nothing, where there is none. -/
noncomputable def remP (p : Nat) (a b : List Nat) : List Nat := if h : ∃ q r, DivSpec p a b q r then h.choose_spec.choose else []
theorem dm_spec {p : Nat} (hp : MR.Pr p) {a b : List Nat} (hb : Nm p b) (b0 : b ≠ []) : DivSpec p a b (quoP p a b) (remP p a b) := by
  have h := dm_exists hp hb b0 a
  unfold quoP remP
  rw [dif_pos h, dif_pos h]
  exact h.choose_spec.choose_spec
theorem dm_is {p : Nat} (hp : MR.Pr p) {a b q r : List Nat} (hb : Nm p b) (h : DivSpec p a b q r) : quoP p a b = q ∧ remP p a b = r := by
  have b0 : b ≠ [] := fun e => by have := h.lt; rw [e] at this; simp at this
  exact dm_uniq hp hb (dm_spec hp hb b0) h
theorem dmp_none {p : Nat} (a : List Nat) : quoP p a [] = [] ∧ remP p a [] = [] := by
  have h : ¬ ∃ q r, DivSpec p a [] q r := fun ⟨q, r, h⟩ => by have := h.lt; simp at this
  exact ⟨dif_neg h, dif_neg h⟩
theorem dm_congr {p : Nat} (hp : MR.Pr p) {a a' b : List Nat} (hb : Nm p b) (h : Eqm p (pe a) (pe a')) : quoP p a b = quoP p a' b ∧ remP p a b = remP p a' b := by
  by_cases b0 : b = []
  · subst b0; simp [dmp_none]
  · have s := dm_spec hp (a := a') hb b0
    exact dm_is hp hb ⟨s.nq, s.nr, s.lt, h.trans s.eq⟩
theorem quo_len {p : Nat} (hp : MR.Pr p) {a b : List Nat} (hb : Nm p b) (b0 : b ≠ []) (ha : Nm p a) : (quoP p a b).length ≤ a.length - (b.length - 1) := by
  have h0 := pr_pos hp
  have s := dm_spec hp (a := a) hb b0
  have lb := List.length_pos_iff.2 b0
  by_cases q0 : quoP p a b = []
  · rw [q0]; simp
  · have l1 := mulp_len hp s.nq hb q0 b0
    have e : mulp p (quoP p a b) b = amul p a (remP p a b) (p - 1) := by
      refine uniq h0 (nm_mulp h0 _ _) (nm_amul h0 _ _ _) ?_
      refine (eqm_mulp _ _ _).trans (Eqm.trans ?_ (eqm_amul_sub h0 _ _).symm)
      exact ((s.eq.symm.sub (Eqm.refl p (pe (remP p a b)))).by fun x => by grind)
    have l2 := amul_len p a (remP p a b) (p - 1)
    have := s.lt
    have l3 := List.length_pos_iff.2 q0
    rw [← e] at l2
    omega

/-- g divides f. -/
def Pdv (p : Nat) (g f : Int → Int) : Prop := ∃ h, Ply h ∧ Eqm p f (fun x => h x * g x)
theorem Pdv.refl (p : Nat) (g : Int → Int) : Pdv p g g := ⟨fun _ => 1, ply_c _, .of fun x => by grind⟩
theorem Pdv.zero (p : Nat) (g : Int → Int) : Pdv p g (fun _ => 0) := ⟨fun _ => 0, ply_c _, .of fun x => by grind⟩
theorem Pdv.congr {p : Nat} {g f f' : Int → Int} (h : Pdv p g f) (e : Eqm p f' f) : Pdv p g f' := by
  obtain ⟨k, hk, d⟩ := h; exact ⟨k, hk, e.trans d⟩
theorem Pdv.by {p : Nat} {g g' f : Int → Int} (h : Pdv p g f) (e : Eqm p g g') : Pdv p g' f := by
  obtain ⟨k, hk, d⟩ := h; exact ⟨k, hk, d.trans (e.right hk)⟩
theorem Pdv.trans {p : Nat} {f g h : Int → Int} (a : Pdv p f g) (b : Pdv p g h) : Pdv p f h := by
  obtain ⟨k, hk, d⟩ := a; obtain ⟨l, hl, e⟩ := b
  exact ⟨fun x => l x * k x, hl.mul hk, e.trans ((d.right hl).to fun x => by grind)⟩
theorem Pdv.add {p : Nat} {g f f' : Int → Int} (a : Pdv p g f) (b : Pdv p g f') : Pdv p g (fun x => f x + f' x) := by
  obtain ⟨k, hk, d⟩ := a; obtain ⟨l, hl, e⟩ := b
  exact ⟨fun x => k x + l x, hk.add hl, (d.add e).to fun x => by grind⟩
theorem Pdv.sub {p : Nat} {g f f' : Int → Int} (a : Pdv p g f) (b : Pdv p g f') : Pdv p g (fun x => f x - f' x) := by
  obtain ⟨k, hk, d⟩ := a; obtain ⟨l, hl, e⟩ := b
  exact ⟨fun x => k x - l x, hk.sub hl, (d.sub e).to fun x => by grind⟩
theorem Pdv.mul {p : Nat} {g f k : Int → Int} (a : Pdv p g f) (hk : Ply k) : Pdv p g (fun x => k x * f x) := by
  obtain ⟨l, hl, d⟩ := a
  exact ⟨fun x => k x * l x, hk.mul hl, (d.right hk).to fun x => by grind⟩
theorem ply_rep {p : Nat} (hp : 0 < p) {f : Int → Int} (h : Ply f) : ∃ l, Nm p l ∧ Eqm p (pe l) f := by
  obtain ⟨l, hl⟩ := h
  have key : ∀ l : List Int, Eqm p (pe (l.map fun c => (c % (p : Int)).toNat)) (pv l) := by
    intro l
    induction l with
    | nil => exact .of fun x => rfl
    | cons c t ih =>
      obtain ⟨k, hk, e⟩ := ih
      refine ⟨fun x => - (c / (p : Int)) + x * k x, (ply_c _).add (ply_x.mul hk), fun x => ?_⟩
      have e1 := e x
      have e2 : (((c % (p : Int)).toNat : Nat) : Int) = c % (p : Int) := Int.toNat_of_nonneg (Int.emod_nonneg _ (by omega))
      have e3 := Int.emod_add_mul_ediv c p
      rw [List.map_cons, pe_cons, e2, pv, e1]
      generalize c % (p : Int) = u at *; generalize c / (p : Int) = v at *
      subst e3; grind
  exact ⟨nrm p _, nm_nrm hp _, (eqm_nrm p _).trans ((key l).to fun x => (hl x).symm)⟩
end Go.Proofs.YthigedcpiglmnaaDoor
