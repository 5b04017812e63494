/-
  Polynomials over a field, plain facts: what divides as lists, monic multiples, Euclid's way with a cofactor, the least common multiple. No program is named here.
-/
import Derived.Test.YthigedcpiglmnaaDoorPolB
/-! Plain facts on polynomials over a field: common divisors. -/
namespace Go.Proofs.YthigedcpiglmnaaDoor
set_option linter.unusedVariables false
set_option linter.unusedSimpArgs false

theorem dv_zero_iff {p : Nat} (hp : 0 < p) {a : List Nat} (ha : Nm p a) (h : Pdv p (pe []) (pe a)) : a = [] := by
  obtain ⟨k, hk, e⟩ := h
  exact uniq hp ha (Nm.nil p) (e.to fun x => by rw [pe_nil]; grind)
theorem rem_nil_iff {p : Nat} (hp : MR.Pr p) {a b : List Nat} (hb : Nm p b) (b0 : b ≠ []) : remP p a b = [] ↔ Pdv p (pe b) (pe a) := by
  constructor
  · intro h
    have s := dm_spec hp (a := a) hb b0
    rw [h] at s
    exact ⟨_, ply_pe (quoP p a b), s.eq.to fun x => by rw [pe_nil]; grind⟩
  · rintro ⟨k, hk, e⟩
    obtain ⟨l, nl, el⟩ := ply_rep (pr_pos hp) hk
    have s : DivSpec p a b l [] := ⟨nl, Nm.nil p, List.length_pos_iff.2 b0, e.trans (((el.symm.left (ply_pe b))).to fun x => by rw [pe_nil]; grind)⟩
    exact (dm_is hp hb s).2
/-- The exact quotient. -/
theorem quo_of {p : Nat} (hp : MR.Pr p) {a b : List Nat} (hb : Nm p b) (b0 : b ≠ []) {k : Int → Int} (hk : Ply k) (e : Eqm p (pe a) (fun x => k x * pe b x)) : Eqm p (pe (quoP p a b)) k := by
  obtain ⟨l, nl, el⟩ := ply_rep (pr_pos hp) hk
  have s : DivSpec p a b l [] := ⟨nl, Nm.nil p, List.length_pos_iff.2 b0, e.trans (((el.symm.left (ply_pe b))).to fun x => by rw [pe_nil]; grind)⟩
  rw [(dm_is hp hb s).1]; exact el
theorem dv_len {p : Nat} (hp : MR.Pr p) {g a : List Nat} (hg : Nm p g) (ha : Nm p a) (a0 : a ≠ []) (h : Pdv p (pe g) (pe a)) : g ≠ [] ∧ (quoP p a g).length + g.length - 1 = a.length ∧ quoP p a g ≠ [] := by
  have h0 := pr_pos hp
  have g0 : g ≠ [] := fun e => a0 (dv_zero_iff h0 ha (e ▸ h))
  obtain ⟨k, hk, e⟩ := h
  have ek := quo_of hp hg g0 hk e
  have s := dm_spec hp (a := a) hg g0
  have e2 : mulp p (quoP p a g) g = a := uniq h0 (nm_mulp h0 _ _) ha ((eqm_mulp _ _ _).trans ((ek.left (ply_pe g)).trans e.symm))
  have q0 : quoP p a g ≠ [] := fun e3 => by rw [e3, mulp_nil] at e2; exact a0 e2.symm
  have := mulp_len hp s.nq hg q0 g0
  rw [e2] at this
  exact ⟨g0, this.symm, q0⟩
theorem dv_le {p : Nat} (hp : MR.Pr p) {g a : List Nat} (hg : Nm p g) (ha : Nm p a) (a0 : a ≠ []) (h : Pdv p (pe g) (pe a)) : g.length ≤ a.length := by
  have := dv_len hp hg ha a0 h
  have := List.length_pos_iff.2 this.2.2
  omega
/-- The last number of a list. -/
def lead (xs : List Nat) : Nat := nth xs (xs.length - 1)
theorem lead_nil : lead [] = 0 := rfl
theorem amul_nil (p : Nat) (a : List Nat) (c : Nat) : amul p [] a c = nrm p (scl c a) := rfl
theorem scale_len {p : Nat} (hp : MR.Pr p) {a : List Nat} {c : Nat} (ha : Nm p a) (hc : c % p ≠ 0) : (amul p [] a c).length = a.length := by
  rw [amul_nil]
  refine nrm_full (fun i hi => by rw [nth_scl, nth_ge hi]; simp) ?_
  by_cases a0 : a = []
  · subst a0; exact .inl rfl
  · exact .inr (by rw [nth_scl]; exact pr_mul_ne hp hc (ha.top' (pr_pos hp) a0))
theorem scale_le {p : Nat} (a : List Nat) (c : Nat) : (amul p [] a c).length ≤ a.length := by
  have := amul_len p [] a c; simpa using this
theorem eqm_scale (p : Nat) (a : List Nat) (c : Nat) : Eqm p (pe (amul p [] a c)) (fun x => c * pe a x) := (eqm_amul p [] a c).to fun x => by rw [pe_nil]; grind
/-- The monic multiple. -/
def mon (p : Nat) (a : List Nat) : List Nat := amul p [] a (invW p (lead (nrm p a)))
theorem invW_of_zero {p x : Nat} (h : x % p = 0) : invW p x = 0 := by unfold invW; rw [if_pos h]
theorem inv_ne {p x : Nat} (hp : MR.Pr p) (h : x % p ≠ 0) : invW p x % p ≠ 0 := fun e => by
  have h1 := unit_inv hp h
  rw [Nat.mul_mod, e, Nat.mul_zero, Nat.zero_mod] at h1
  omega
theorem mon_congr {p : Nat} {a b : List Nat} (h : nrm p a = nrm p b) : mon p a = mon p b := by
  unfold mon
  rw [h, amul_nil, amul_nil]
  refine nrm_ext fun i => ?_
  have e : nth a i % p = nth b i % p := by rw [← nth_nrm, h, nth_nrm]
  rw [nth_scl, nth_scl, Nat.mul_mod, e, ← Nat.mul_mod]
theorem mon_nrm {p : Nat} (hp : 0 < p) (a : List Nat) : mon p (nrm p a) = mon p a := mon_congr (nrm_nrm hp a)
theorem mon_nil {p : Nat} : mon p [] = [] := rfl
/-- What a monic multiple is, of a normal list that isn't 0. -/
theorem mon_is {p : Nat} (hp : MR.Pr p) {a : List Nat} (ha : Nm p a) (a0 : a ≠ []) :
    (mon p a).length = a.length ∧ lead (mon p a) = 1 ∧ Eqm p (pe (mon p a)) (fun x => (invW p (lead a) : Int) * pe a x) ∧ Eqm p (pe a) (fun x => (lead a : Int) * pe (mon p a) x) := by
  have h0 := pr_pos hp
  have hn : nrm p a = a := nrm_of h0 ha
  have ht := ha.top' h0 a0
  have hi := inv_ne hp ht
  have hu := unit_inv hp ht
  have e : mon p a = amul p [] a (invW p (lead a)) := by unfold mon; rw [hn]
  have hl := scale_len hp ha hi
  refine ⟨by rw [e]; exact hl, ?_, by rw [e]; exact eqm_scale _ _ _, ?_⟩
  · rw [e]
    unfold lead
    rw [show (amul p [] a (invW p (nth a (a.length - 1)))).length = a.length from hl, amul_nil, nth_nrm, nth_scl, Nat.mul_comm, hu]
  · rw [e]
    have e1 := (eqm_scale p a (invW p (lead a))).right (ply_c (lead a : Int))
    have e2 : Eqm p (fun x => ((lead a * invW p (lead a) : Nat) : Int) * pe a x) (fun x => ((1 : Nat) : Int) * pe a x) := (eqm_const (by rw [show lead a * invW p (lead a) % p = 1 from hu]; exact (Nat.mod_eq_of_lt hp.1).symm)).left (ply_pe a)
    exact ((e2.symm.by fun x => by simp).trans (e1.symm.by fun x => by rw [Int.natCast_mul]; grind))
theorem mon_dv {p : Nat} (hp : MR.Pr p) {a : List Nat} (ha : Nm p a) : Pdv p (pe (mon p a)) (pe a) ∧ Pdv p (pe a) (pe (mon p a)) := by
  by_cases a0 : a = []
  · subst a0; exact ⟨Pdv.refl _ _, Pdv.refl _ _⟩
  · have h := mon_is hp ha a0
    exact ⟨⟨_, ply_c _, h.2.2.2⟩, ⟨_, ply_c _, h.2.2.1⟩⟩
theorem nm_mon {p : Nat} (hp : 0 < p) (a : List Nat) : Nm p (mon p a) := nm_amul hp _ _ _
/-- 0, or 1 as the last number. -/
def Mono (a : List Nat) : Prop := a = [] ∨ lead a = 1
theorem mono_mon {p : Nat} (hp : MR.Pr p) (a : List Nat) : Mono (mon p a) := by
  rw [← mon_nrm (pr_pos hp)]
  by_cases h : nrm p a = []
  · rw [h]; exact .inl rfl
  · exact .inr (mon_is hp (nm_nrm (pr_pos hp) a) h).2.1
theorem mon_nil_iff {p : Nat} (hp : MR.Pr p) (a : List Nat) : mon p a = [] ↔ nrm p a = [] := by
  rw [← mon_nrm (pr_pos hp)]
  constructor
  · intro h
    by_cases h0 : nrm p a = []
    · exact h0
    · have := (mon_is hp (nm_nrm (pr_pos hp) a) h0).1
      rw [h] at this
      exact absurd (List.length_eq_zero_iff.1 this.symm) h0
  · intro h; rw [h]; rfl
/-- Two monic polynomials of which each is a multiple of the other by a number. -/
theorem mono_eq {p : Nat} (hp : MR.Pr p) {a b : List Nat} (ha : Nm p a) (hb : Nm p b) (ma : Mono a) (mb : Mono b) {c : Nat} (h : Eqm p (pe a) (fun x => (c : Int) * pe b x)) (h0 : b = [] → a = []) (h1 : a = [] → b = []) : a = b := by
  have hp0 := pr_pos hp
  by_cases b0 : b = []
  · rw [h0 b0, b0]
  · have a0 : a ≠ [] := fun e => b0 (h1 e)
    have la : lead a = 1 := ma.resolve_left a0
    have lb : lead b = 1 := mb.resolve_left b0
    have e : a = amul p [] b c := uniq hp0 ha (nm_amul hp0 _ _ _) (h.trans (eqm_scale _ _ _).symm)
    have hc : c % p ≠ 0 := fun hc => a0 (by
      rw [e, amul_nil]
      exact nrm_nil_iff.2 fun i => by rw [nth_scl, Nat.mul_mod, hc]; simp)
    have hl := scale_len hp hb hc
    have h2 : c % p = 1 := by
      have := la
      unfold lead at this
      rw [e, hl, amul_nil, nth_nrm, nth_scl, show nth b (b.length - 1) = 1 from lb, Nat.mul_one] at this
      exact this
    refine uniq hp0 ha hb (h.trans ?_)
    exact ((eqm_const (m := c) (n := 1) (by rw [h2]; exact (Nat.mod_eq_of_lt hp.1).symm)).left (ply_pe b)).to fun x => by simp

/-- Euclid's way, with what goes beside. -/
noncomputable def euc (p : Nat) : Nat → List Nat → List Nat → List Nat → List Nat → List Nat × List Nat
  | 0, r, _, s, _ => (r, s)
  | n + 1, r, r', s, s' => if r' = [] then (r, s) else euc p n r' (remP p r r') s' (amul p s (mulp p (quoP p r r') s') (p - 1))
theorem euc_more {p : Nat} (hp : MR.Pr p) : ∀ (n m : Nat) (r r' s s' : List Nat), Nm p r' → r'.length < n → r'.length < m → euc p n r r' s s' = euc p m r r' s s' := by
  intro n
  induction n with
  | zero => intro m r r' s s' _ h; omega
  | succ n ih =>
    intro m r r' s s' hr h1 h2
    obtain ⟨m, rfl⟩ : ∃ k, m = k + 1 := ⟨m - 1, by omega⟩
    unfold euc
    by_cases h0 : r' = []
    · rw [if_pos h0, if_pos h0]
    · rw [if_neg h0, if_neg h0]
      have sp := dm_spec hp (a := r) hr h0
      have := sp.lt
      exact ih m _ _ _ _ sp.nr (by omega) (by omega)
theorem euc_fst {p : Nat} : ∀ (n : Nat) (r r' s s' u u' : List Nat), (euc p n r r' s s').1 = (euc p n r r' u u').1 := by
  intro n
  induction n with
  | zero => intros; rfl
  | succ n ih =>
    intro r r' s s' u u'
    unfold euc
    by_cases h0 : r' = []
    · rw [if_pos h0, if_pos h0]
    · rw [if_neg h0, if_neg h0]; exact ih _ _ _ _ _ _
noncomputable def xlast (p : Nat) (r r' s s' : List Nat) : List Nat × List Nat := euc p (r'.length + 1) r r' s s'
theorem xlast_nil (p : Nat) (r s s' : List Nat) : xlast p r [] s s' = (r, s) := by unfold xlast euc; rw [if_pos rfl]
theorem xlast_step {p : Nat} (hp : MR.Pr p) {r r' s s' : List Nat} (hr : Nm p r') (h0 : r' ≠ []) : xlast p r r' s s' = xlast p r' (remP p r r') s' (amul p s (mulp p (quoP p r r') s') (p - 1)) := by
  have sp := dm_spec hp (a := r) hr h0
  have := sp.lt
  unfold xlast
  rw [euc, if_neg h0]
  exact euc_more hp _ _ _ _ _ _ sp.nr this (by omega)
theorem xlast_fst (p : Nat) (r r' s s' u u' : List Nat) : (xlast p r r' s s').1 = (xlast p r r' u u').1 := euc_fst _ _ _ _ _ _ _
/-- By the length of the rest that comes. -/
theorem xlast_ind {p : Nat} (hp : MR.Pr p) (M : List Nat → List Nat → List Nat → List Nat → Prop) (h0 : ∀ r s s', M r [] s s')
    (h1 : ∀ r r' s s', Nm p r' → r' ≠ [] → Nm p (remP p r r') → (remP p r r').length < r'.length → M r' (remP p r r') s' (amul p s (mulp p (quoP p r r') s') (p - 1)) → M r r' s s') : ∀ r r' s s', Nm p r' → M r r' s s' := by
  have key : ∀ n r r' s s', r'.length < n → Nm p r' → M r r' s s' := by
    intro n
    induction n with
    | zero => intro r r' s s' h; omega
    | succ n ih =>
      intro r r' s s' h hr
      by_cases e : r' = []
      · subst e; exact h0 r s s'
      · have sp := dm_spec hp (a := r) hr e
        have := sp.lt
        exact h1 r r' s s' hr e sp.nr this (ih _ _ _ _ (by omega) sp.nr)
  exact fun r r' s s' hr => key (r'.length + 1) r r' s s' (by omega) hr
theorem xlast_nm {p : Nat} (hp : MR.Pr p) : ∀ r r' s s', Nm p r' → Nm p r → Nm p s → Nm p s' → Nm p (xlast p r r' s s').1 ∧ Nm p (xlast p r r' s s').2 := by
  refine xlast_ind hp (fun r r' s s' => Nm p r → Nm p s → Nm p s' → Nm p (xlast p r r' s s').1 ∧ Nm p (xlast p r r' s s').2) ?_ ?_
  · intro r s s' hr hs _; rw [xlast_nil]; exact ⟨hr, hs⟩
  · intro r r' s s' hr' e nr lt ih hr hs hs'
    rw [xlast_step hp hr' e]
    exact ih hr' hs' (nm_amul (pr_pos hp) _ _ _)
/-- The last rest divides both, and what divides both divides it. -/
theorem xlast_dv {p : Nat} (hp : MR.Pr p) : ∀ r r' s s', Nm p r' → Pdv p (pe (xlast p r r' s s').1) (pe r) ∧ Pdv p (pe (xlast p r r' s s').1) (pe r') ∧ ∀ d, Pdv p d (pe r) → Pdv p d (pe r') → Pdv p d (pe (xlast p r r' s s').1) := by
  refine xlast_ind hp (fun r r' s s' => Pdv p (pe (xlast p r r' s s').1) (pe r) ∧ Pdv p (pe (xlast p r r' s s').1) (pe r') ∧ ∀ d, Pdv p d (pe r) → Pdv p d (pe r') → Pdv p d (pe (xlast p r r' s s').1)) ?_ ?_
  · intro r s s'; rw [xlast_nil]; exact ⟨Pdv.refl _ _, (Pdv.zero _ _).congr (.of fun x => pe_nil x), fun d h _ => h⟩
  · intro r r' s s' hr' e nr lt ⟨i1, i2, i3⟩
    rw [xlast_step hp hr' e]
    have sp := dm_spec hp (a := r) hr' e
    refine ⟨?_, i1, fun d h1 h2 => i3 d h2 ?_⟩
    · exact ((i1.mul (ply_pe (quoP p r r'))).add i2).congr sp.eq
    · refine (h1.sub (h2.mul (ply_pe (quoP p r r')))).congr ?_
      exact ((sp.eq.symm.sub (Eqm.refl p (fun x => pe (quoP p r r') x * pe r' x))).by fun x => by grind)
/-- What goes beside makes the last rest. -/
theorem xlast_bez {p : Nat} (hp : MR.Pr p) {a b : Int → Int} (pa : Ply a) (pb : Ply b) : ∀ r r' s s', Nm p r' → (∃ t, Ply t ∧ Eqm p (pe r) (fun x => pe s x * a x + t x * b x)) → (∃ t, Ply t ∧ Eqm p (pe r') (fun x => pe s' x * a x + t x * b x)) →
    ∃ t, Ply t ∧ Eqm p (pe (xlast p r r' s s').1) (fun x => pe (xlast p r r' s s').2 x * a x + t x * b x) := by
  refine xlast_ind hp (fun r r' s s' => (∃ t, Ply t ∧ Eqm p (pe r) (fun x => pe s x * a x + t x * b x)) → (∃ t, Ply t ∧ Eqm p (pe r') (fun x => pe s' x * a x + t x * b x)) →
    ∃ t, Ply t ∧ Eqm p (pe (xlast p r r' s s').1) (fun x => pe (xlast p r r' s s').2 x * a x + t x * b x)) ?_ ?_
  · intro r s s' h _; rw [xlast_nil]; exact h
  · intro r r' s s' hr' e nr lt ih ⟨t, pt, et⟩ ⟨u, pu, eu⟩
    rw [xlast_step hp hr' e]
    have sp := dm_spec hp (a := r) hr' e
    refine ih ⟨u, pu, eu⟩ ⟨fun x => t x - pe (quoP p r r') x * u x, pt.sub ((ply_pe _).mul pu), ?_⟩
    have e1 : Eqm p (pe (remP p r r')) (fun x => pe r x - pe (quoP p r r') x * pe r' x) :=
      ((sp.eq.symm.sub (Eqm.refl p (fun x => pe (quoP p r r') x * pe r' x))).by fun x => by grind)
    refine e1.trans ((et.sub (eu.right (ply_pe (quoP p r r')))).trans ?_)
    have e2 := eqm_amul_sub (pr_pos hp) s (mulp p (quoP p r r') s')
    have e3 := e2.trans ((Eqm.refl p (pe s)).sub (eqm_mulp p (quoP p r r') s'))
    refine Eqm.trans ?_ ((e3.symm.left pa).add (Eqm.refl p (fun x => (t x - pe (quoP p r r') x * u x) * b x)))
    exact .of fun x => by grind
/-- How long what goes beside is. -/
theorem xlast_len {p : Nat} (hp : MR.Pr p) (L : Nat) : ∀ r r' s s', Nm p r' → Nm p r → s'.length + r.length ≤ L + 1 → (s = [] ∨ s.length + r.length ≤ L) → r'.length < r.length →
    (xlast p r r' s s').2 = [] ∨ (xlast p r r' s s').2.length + (xlast p r r' s s').1.length ≤ L := by
  refine xlast_ind hp (fun r r' s s' => Nm p r → s'.length + r.length ≤ L + 1 → (s = [] ∨ s.length + r.length ≤ L) → r'.length < r.length →
    (xlast p r r' s s').2 = [] ∨ (xlast p r r' s s').2.length + (xlast p r r' s s').1.length ≤ L) ?_ ?_
  · intro r s s' _ _ h _; rw [xlast_nil]; exact h
  · intro r r' s s' hr' e nr lt ih hr h1 h2 h3
    rw [xlast_step hp hr' e]
    have le := List.length_pos_iff.2 e
    have lq := quo_len hp hr' e hr
    have l1 := mulp_le p (quoP p r r') s'
    have l2 := amul_len p s (mulp p (quoP p r r') s') (p - 1)
    refine ih hr' ?_ (.inr (by omega)) lt
    rcases h2 with rfl | h2
    · simp at l2; omega
    · omega
/-- The greatest common divisor, as Gcd tells it. -/
noncomputable def gcP (p : Nat) (a b : List Nat) : List Nat := mon p (xlast p (nrm p a) (nrm p b) [] []).1
theorem gcP_is {p : Nat} (hp : MR.Pr p) (a b : List Nat) : Nm p (gcP p a b) ∧ Mono (gcP p a b) ∧ Pdv p (pe (gcP p a b)) (pe a) ∧ Pdv p (pe (gcP p a b)) (pe b) ∧ (∀ d, Pdv p d (pe a) → Pdv p d (pe b) → Pdv p d (pe (gcP p a b))) := by
  have h0 := pr_pos hp
  have ha := nm_nrm h0 a
  have hb := nm_nrm h0 b
  have hg := (xlast_nm hp (nrm p a) (nrm p b) [] [] hb ha (Nm.nil p) (Nm.nil p)).1
  obtain ⟨d1, d2, d3⟩ := xlast_dv hp (nrm p a) (nrm p b) [] [] hb
  have hm := mon_dv hp hg
  refine ⟨nm_mon h0 _, mono_mon hp _, (hm.1.trans d1).congr (eqm_nrm p a).symm, (hm.1.trans d2).congr (eqm_nrm p b).symm, fun d k1 k2 => ?_⟩
  exact (d3 d (k1.congr (eqm_nrm p a)) (k2.congr (eqm_nrm p b))).trans hm.2
theorem gcP_nil {p : Nat} (hp : MR.Pr p) {a b : List Nat} (h : gcP p a b = []) : nrm p a = [] ∧ nrm p b = [] := by
  have h0 := pr_pos hp
  have g := gcP_is hp a b
  rw [h] at g
  exact ⟨dv_zero_iff h0 (nm_nrm h0 a) (g.2.2.1.congr (eqm_nrm p a)), dv_zero_iff h0 (nm_nrm h0 b) (g.2.2.2.1.congr (eqm_nrm p b))⟩
theorem gcP_bez {p : Nat} (hp : MR.Pr p) (a b : List Nat) : ∃ s t, Ply s ∧ Ply t ∧ Eqm p (pe (gcP p a b)) (fun x => s x * pe a x + t x * pe b x) := by
  have h0 := pr_pos hp
  have hb := nm_nrm h0 b
  obtain ⟨t, pt, et⟩ := xlast_bez hp (ply_pe (nrm p a)) (ply_pe (nrm p b)) (nrm p a) (nrm p b) [1] [] hb
    ⟨fun _ => 0, ply_c _, .of fun x => by simp [pe_cons, pe_nil]⟩ ⟨fun _ => 1, ply_c _, .of fun x => by simp [pe_nil]⟩
  have hm := (mon_dv hp (xlast_nm hp (nrm p a) (nrm p b) [] [] hb (nm_nrm h0 a) (Nm.nil p) (Nm.nil p)).1).2
  obtain ⟨k, pk, ek⟩ := hm
  unfold gcP
  rw [xlast_fst p (nrm p a) (nrm p b) [1] [] [] []] at et
  refine ⟨_, _, pk.mul (ply_pe (xlast p (nrm p a) (nrm p b) [1] []).2), pk.mul pt, ek.trans ((et.right pk).trans ?_)⟩
  refine Eqm.trans ?_ ((((eqm_nrm p a).right (pk.mul (ply_pe (xlast p (nrm p a) (nrm p b) [1] []).2)))).add ((eqm_nrm p b).right (pk.mul pt)))
  exact .of fun x => by grind
/-- Xgcd's answers. -/
noncomputable def xgs (p : Nat) (a b : List Nat) : List Nat × List Nat := xlast p (nrm p a) (nrm p b) [1] []
noncomputable def xg (p : Nat) (a b : List Nat) : List Nat := amul p [] (xgs p a b).1 (invW p (lead (xgs p a b).1))
noncomputable def xs1 (p : Nat) (a b : List Nat) : List Nat := amul p [] (xgs p a b).2 (invW p (lead (xgs p a b).1))
noncomputable def xt1 (p : Nat) (a b : List Nat) : List Nat := quoP p (amul p (xg p a b) (mulp p (nrm p (xs1 p a b)) (nrm p a)) (p - 1)) (nrm p b)
theorem nm_one {p : Nat} (hp : MR.Pr p) : Nm p [1] := nm_of (fun k hk => by
  have : k = 0 := by simp at hk; omega
  subst this; exact hp.1) (.inr (by decide))
theorem xgs_nm {p : Nat} (hp : MR.Pr p) (a b : List Nat) : Nm p (xgs p a b).1 ∧ Nm p (xgs p a b).2 :=
  xlast_nm hp _ _ _ _ (nm_nrm (pr_pos hp) b) (nm_nrm (pr_pos hp) a) (nm_one hp) (Nm.nil p)
theorem xg_gcP {p : Nat} (hp : MR.Pr p) (a b : List Nat) : xg p a b = gcP p a b := by
  unfold xg gcP mon xgs
  rw [nrm_of (pr_pos hp) (xlast_nm hp (nrm p a) (nrm p b) [] [] (nm_nrm (pr_pos hp) b) (nm_nrm (pr_pos hp) a) (Nm.nil p) (Nm.nil p)).1, xlast_fst p (nrm p a) (nrm p b) [1] [] [] []]
theorem xg_sum {p : Nat} (hp : MR.Pr p) (a b : List Nat) : Eqm p (pe (xg p a b)) (fun x => pe (xs1 p a b) x * pe (nrm p a) x + pe (xt1 p a b) x * pe (nrm p b) x) := by
  have h0 := pr_pos hp
  have hb := nm_nrm h0 b
  obtain ⟨t, pt, et⟩ := xlast_bez hp (ply_pe (nrm p a)) (ply_pe (nrm p b)) (nrm p a) (nrm p b) [1] [] hb
    ⟨fun _ => 0, ply_c _, .of fun x => by simp [pe_cons, pe_nil]⟩ ⟨fun _ => 1, ply_c _, .of fun x => by simp [pe_nil]⟩
  obtain ⟨c, hc⟩ : ∃ c, c = invW p (lead (xgs p a b).1) := ⟨_, rfl⟩
  have e1 : Eqm p (pe (xg p a b)) (fun x => pe (xs1 p a b) x * pe (nrm p a) x + ((c : Int) * t x) * pe (nrm p b) x) := by
    unfold xg xs1
    rw [← hc]
    refine (eqm_scale _ _ _).trans (((show Eqm p (pe (xgs p a b).1) _ from et).right (ply_c (c : Int))).trans ?_)
    refine Eqm.trans ?_ (((eqm_scale p (xgs p a b).2 c).symm.left (ply_pe (nrm p a))).add (Eqm.refl p (fun x => ((c : Int) * t x) * pe (nrm p b) x)))
    exact .of fun x => by unfold xgs; grind
  by_cases b0 : nrm p b = []
  · refine e1.to fun x => ?_
    rw [b0, pe_nil]; grind
  · refine e1.trans ((Eqm.refl p (fun x => pe (xs1 p a b) x * pe (nrm p a) x)).add (Eqm.left (Eqm.symm ?_) (ply_pe (nrm p b))))
    refine quo_of hp hb b0 ((ply_c (c : Int)).mul pt) ?_
    refine (eqm_amul_sub h0 _ _).trans ?_
    have e2 := (eqm_mulp p (nrm p (xs1 p a b)) (nrm p a)).trans ((eqm_nrm p (xs1 p a b)).left (ply_pe (nrm p a)))
    exact ((e1.sub e2).to fun x => by grind)
/-- How long the first cofactor is. -/
theorem xs_len {p : Nat} (hp : MR.Pr p) (a b : List Nat) : (nrm p b = [] → (xs1 p a b).length ≤ 1 ∧ xt1 p a b = []) ∧ (nrm p b ≠ [] → xs1 p a b = [] ∨ (xs1 p a b).length < (quoP p (nrm p b) (xg p a b)).length) := by
  have h0 := pr_pos hp
  have hb := nm_nrm h0 b
  have ha := nm_nrm h0 a
  constructor
  · intro b0
    constructor
    · unfold xs1 xgs
      rw [b0, xlast_nil]
      have := scale_le (p := p) [1] (invW p (lead (nrm p a)))
      simpa using this
    · unfold xt1; rw [b0]; exact (dmp_none _).1
  · intro b0
    have sp := dm_spec hp (a := nrm p a) hb b0
    have hl : (xgs p a b).2 = [] ∨ (xgs p a b).2.length + (xgs p a b).1.length ≤ (nrm p b).length := by
      unfold xgs
      rw [xlast_step hp hb b0]
      refine xlast_len hp _ _ _ _ _ sp.nr hb ?_ (.inl rfl) sp.lt
      have := amul_len p [1] (mulp p (quoP p (nrm p a) (nrm p b)) []) (p - 1)
      rw [mulp_nil'] at *; simp at this; omega
    have hd := (gcP_is hp a b).2.2.2.1
    rw [← xg_gcP hp] at hd
    have hng : Nm p (xg p a b) := nm_amul h0 _ _ _
    obtain ⟨g0, gl, q0⟩ := dv_len hp hng hb b0 (hd.congr (eqm_nrm p b))
    have lg : (xg p a b).length ≤ (xgs p a b).1.length := scale_le _ _
    have ls : (xs1 p a b).length ≤ (xgs p a b).2.length := scale_le _ _
    have lg0 := List.length_pos_iff.2 g0
    rcases hl with h | h
    · left; rw [h] at ls; exact List.length_eq_zero_iff.1 (by simpa using ls)
    · right; omega
/-- The least common multiple, as Lcm tells it. -/
noncomputable def lcP (p : Nat) (a b : List Nat) : List Nat := mon p (mulp p (nrm p (quoP p (nrm p a) (gcP p a b))) (nrm p b))
end Go.Proofs.YthigedcpiglmnaaDoor
