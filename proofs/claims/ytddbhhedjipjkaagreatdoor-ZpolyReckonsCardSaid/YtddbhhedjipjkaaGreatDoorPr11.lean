/-
  PolB PolC
-/
import Derived.Test.YtddbhhedjipjkaaGreatDoorPr09
import Derived.Test.YtddbhhedjipjkaaGreatDoorPr10

section
namespace Go.Proofs.YtddbhhedjipjkaaGreatDoor
set_option linter.unusedVariables false
set_option linter.unusedSimpArgs false
theorem unit_inv {p x : Nat} (hp : MR.Pr p) (h : x % p ≠ 0) : x * invW p x % p = 1 := by
  have h2 := hp.1
  have hd : ¬ p ∣ x := fun d => h (Nat.mod_eq_zero_of_dvd d)
  unfold invW
  rw [if_neg h, Nat.mul_mod, Nat.mod_mod, ← Nat.mul_mod, Nat.mul_comm, ← Nat.pow_succ, show (p - 2).succ = p - 1 by omega]
  exact MR.fermat hp hd
theorem pr_pos {p : Nat} (hp : MR.Pr p) : 0 < p := by have := hp.1; omega
theorem pr_mul_ne {p x y : Nat} (hp : MR.Pr p) (hx : x % p ≠ 0) (hy : y % p ≠ 0) : x * y % p ≠ 0 := fun h => by
  rcases hp.mul (Nat.dvd_of_mod_eq_zero h) with d | d
  · exact hx (Nat.mod_eq_zero_of_dvd d)
  · exact hy (Nat.mod_eq_zero_of_dvd d)
def amul (p : Nat) (a b : List Nat) (c : Nat) : List Nat := nrm p (addl a (scl c b))
def mulp (p : Nat) (a b : List Nat) : List Nat := nrm p (cvl a b)
theorem eqm_amul (p : Nat) (a b : List Nat) (c : Nat) : Eqm p (pe (amul p a b c)) (fun x => pe a x + c * pe b x) :=
  (eqm_nrm _ _).to fun x => by rw [pe_addl, pe_scl]
theorem eqm_mulp (p : Nat) (a b : List Nat) : Eqm p (pe (mulp p a b)) (fun x => pe a x * pe b x) :=
  (eqm_nrm _ _).to fun x => by rw [pe_cvl]
theorem eqm_const {p m n : Nat} (h : m % p = n % p) : Eqm p (fun _ => (m : Int)) (fun _ => (n : Int)) := by
  obtain ⟨k, hk⟩ := dvd_sub_nat.2 h
  exact ⟨fun _ => k, ply_c _, fun x => by simp only; grind⟩
theorem eqm_m1 {p : Nat} (hp : 0 < p) : Eqm p (fun _ => ((p - 1 : Nat) : Int)) (fun _ => -1) :=
  ⟨fun _ => 1, ply_c _, fun x => by simp only; omega⟩
theorem eqm_amul_sub {p : Nat} (hp : 0 < p) (a b : List Nat) : Eqm p (pe (amul p a b (p - 1))) (fun x => pe a x - pe b x) := by
  refine (eqm_amul _ _ _ _).trans ?_
  refine ((Eqm.refl p (pe a)).add ((eqm_m1 hp).left (ply_pe b))).to fun x => by grind
theorem nm_amul {p : Nat} (hp : 0 < p) (a b : List Nat) (c : Nat) : Nm p (amul p a b c) := nm_nrm hp _
theorem nm_mulp {p : Nat} (hp : 0 < p) (a b : List Nat) : Nm p (mulp p a b) := nm_nrm hp _
theorem amul_len (p : Nat) (a b : List Nat) (c : Nat) : (amul p a b c).length ≤ max a.length b.length := by
  have := nrm_le p (addl a (scl c b))
  rw [addl_length, scl_length] at this
  exact this
theorem mulp_nil (p : Nat) (b : List Nat) : mulp p [] b = [] := rfl
theorem Nm.top' {p : Nat} {xs : List Nat} (hp : 0 < p) (h : Nm p xs) (h0 : xs ≠ []) : nth xs (xs.length - 1) % p ≠ 0 := by
  rw [h.mod hp]; exact h.top h0
theorem mulp_len {p : Nat} (hp : MR.Pr p) {a b : List Nat} (ha : Nm p a) (hb : Nm p b) (a0 : a ≠ []) (b0 : b ≠ []) : (mulp p a b).length = a.length + b.length - 1 := by
  have la := List.length_pos_iff.2 a0
  have lb := List.length_pos_iff.2 b0
  refine nrm_full (fun i hi => ?_) (.inr ?_)
  · rw [nth_ge (by rw [cvl_length a0 b0]; exact hi), Nat.zero_mod]
  · rw [show a.length + b.length - 1 - 1 = a.length + b.length - 2 by omega, cvl_top a0 b0]
    exact pr_mul_ne hp (ha.top' (pr_pos hp) a0) (hb.top' (pr_pos hp) b0)
theorem mulp_ne {p : Nat} (hp : MR.Pr p) {a b : List Nat} (ha : Nm p a) (hb : Nm p b) (a0 : a ≠ []) (b0 : b ≠ []) : mulp p a b ≠ [] := fun h => by
  have la := List.length_pos_iff.2 a0
  have lb := List.length_pos_iff.2 b0
  have := mulp_len hp ha hb a0 b0
  rw [h] at this; simp at this; omega
structure DivSpec (p : Nat) (a b q r : List Nat) : Prop where
  nq : Nm p q
  nr : Nm p r
  lt : r.length < b.length
  eq : Eqm p (pe a) (fun x => pe q x * pe b x + pe r x)
theorem dm_uniq {p : Nat} (hp : MR.Pr p) {a b q r q' r' : List Nat} (hb : Nm p b) (h : DivSpec p a b q r) (k : DivSpec p a b q' r') : q = q' ∧ r = r' := by
  have h0 := pr_pos hp
  have b0 : b ≠ [] := fun e => by have := h.lt; rw [e] at this; simp at this
  have nd := nm_amul h0 q q' (p - 1)
  have ed := eqm_amul_sub h0 q q'
  have e1 : Eqm p (fun x => pe (amul p q q' (p - 1)) x * pe b x) (fun x => pe r' x - pe r x) := by
    refine (ed.left (ply_pe b)).trans ?_
    have := (h.eq.symm.trans k.eq).sub (Eqm.refl p (fun x => pe q' x * pe b x + pe r x))
    exact (this.by fun x => by grind).to fun x => by grind
  have hd : amul p q q' (p - 1) = [] := by
    by_cases d0 : amul p q q' (p - 1) = []
    · exact d0
    · exfalso
      have l1 := mulp_len hp nd hb d0 b0
      have : mulp p (amul p q q' (p - 1)) b = amul p r' r (p - 1) :=
        uniq h0 (nm_mulp h0 _ _) (nm_amul h0 _ _ _) ((eqm_mulp _ _ _).trans (e1.trans (eqm_amul_sub h0 r' r).symm))
      rw [this] at l1
      have l2 := amul_len p r' r (p - 1)
      have l3 := List.length_pos_iff.2 d0
      have := h.lt; have := k.lt
      omega
  rw [hd] at ed e1
  constructor
  · exact uniq h0 h.nq k.nq ((ed.symm.add (Eqm.refl p (pe q'))).by (fun x => by grind) |>.to fun x => by rw [pe_nil]; grind)
  · exact (uniq h0 k.nr h.nr ((e1.symm.add (Eqm.refl p (pe r))).by (fun x => by grind) |>.to fun x => by rw [pe_nil]; grind)).symm
theorem dm_exists {p : Nat} (hp : MR.Pr p) {b : List Nat} (hb : Nm p b) (b0 : b ≠ []) : ∀ a : List Nat, ∃ q r, DivSpec p a b q r := by
  have h0 := pr_pos hp
  have lb := List.length_pos_iff.2 b0
  intro a
  induction a with
  | nil => exact ⟨[], [], Nm.nil p, Nm.nil p, by simpa using lb, .of fun x => by simp [pe_nil]⟩
  | cons c t ih =>
    obtain ⟨q, r, h⟩ := ih
    have lc : (c :: r).length ≤ b.length := by have := h.lt; simp; omega
    obtain ⟨k, hk⟩ : ∃ k, k = nth (c :: r) (b.length - 1) * invW p (nth b (b.length - 1)) % p := ⟨_, rfl⟩
    refine ⟨nrm p (k :: q), amul p (c :: r) b (p - 1) |> fun _ => amul p (c :: r) (scl k b) (p - 1), nm_nrm h0 _, nm_amul h0 _ _ _, ?_, ?_⟩
    · have : (amul p (c :: r) (scl k b) (p - 1)).length ≤ b.length - 1 := by
        refine nrm_short fun i hi => ?_
        rw [nth_addl, nth_scl, nth_scl]
        by_cases e : i = b.length - 1
        · subst e
          have hu := unit_inv hp (hb.top' h0 b0)
          generalize nth (c :: r) (b.length - 1) = u at *
          generalize nth b (b.length - 1) = t at *
          have e1 : (k * t) % p = u % p := by
            rw [hk, Nat.mod_mul_mod, Nat.mul_assoc, Nat.mul_comm (invW p t) t, ← Nat.mul_mod_mod, hu, Nat.mul_one]
          have e2 : (u + (p - 1) * (k * t)) % p = (k * t + (p - 1) * (k * t)) % p := by rw [Nat.add_mod, ← e1, ← Nat.add_mod]
          rw [e2, show k * t + (p - 1) * (k * t) = p * (k * t) by
            have : p = (p - 1) + 1 := by omega
            generalize p - 1 = m at *; subst this; grind]
          exact Nat.mul_mod_right _ _
        · rw [nth_ge (xs := c :: r) (by omega), nth_ge (xs := b) (by omega)]
          simp
      show (amul p (c :: r) (scl k b) (p - 1)).length < b.length
      omega
    · have e1 := eqm_amul_sub h0 (c :: r) (scl k b)
      have e2 := eqm_nrm p (k :: q)
      have e3 := h.eq
      have e4 : Eqm p (fun x => pe (nrm p (k :: q)) x * pe b x + pe (amul p (c :: r) (scl k b) (p - 1)) x) (fun x => pe (k :: q) x * pe b x + (pe (c :: r) x - pe (scl k b) x)) := (e2.left (ply_pe b)).add e1
      refine Eqm.trans ?_ e4.symm
      have e5 := (Eqm.refl p (fun _ => (c : Int))).add (e3.right ply_x)
      refine (e5.by fun x => by rw [pe_cons]) |>.to fun x => ?_
      rw [pe_cons, pe_cons, pe_scl]; grind
open Classical in
noncomputable def quoP (p : Nat) (a b : List Nat) : List Nat := if h : ∃ q r, DivSpec p a b q r then h.choose else []
open Classical in
noncomputable def remP (p : Nat) (a b : List Nat) : List Nat := if h : ∃ q r, DivSpec p a b q r then h.choose_spec.choose else []
theorem dm_spec {p : Nat} (hp : MR.Pr p) {a b : List Nat} (hb : Nm p b) (b0 : b ≠ []) : DivSpec p a b (quoP p a b) (remP p a b) := by
  have h := dm_exists hp hb b0 a
  unfold quoP remP
  rw [dif_pos h, dif_pos h]
  exact h.choose_spec.choose_spec
theorem dm_is {p : Nat} (hp : MR.Pr p) {a b q r : List Nat} (hb : Nm p b) (h : DivSpec p a b q r) : quoP p a b = q ∧ remP p a b = r := by
  have b0 : b ≠ [] := fun e => by have := h.lt; rw [e] at this; simp at this
  exact dm_uniq hp hb (dm_spec hp hb b0) h
def Pdv (p : Nat) (g f : Int → Int) : Prop := ∃ h, Ply h ∧ Eqm p f (fun x => h x * g x)
theorem Pdv.refl (p : Nat) (g : Int → Int) : Pdv p g g := ⟨fun _ => 1, ply_c _, .of fun x => by grind⟩
theorem Pdv.zero (p : Nat) (g : Int → Int) : Pdv p g (fun _ => 0) := ⟨fun _ => 0, ply_c _, .of fun x => by grind⟩
theorem Pdv.congr {p : Nat} {g f f' : Int → Int} (h : Pdv p g f) (e : Eqm p f' f) : Pdv p g f' := by
  obtain ⟨k, hk, d⟩ := h; exact ⟨k, hk, e.trans d⟩
theorem Pdv.by {p : Nat} {g g' f : Int → Int} (h : Pdv p g f) (e : Eqm p g g') : Pdv p g' f := by
  obtain ⟨k, hk, d⟩ := h; exact ⟨k, hk, d.trans (e.right hk)⟩
theorem Pdv.trans {p : Nat} {f g h : Int → Int} (a : Pdv p f g) (b : Pdv p g h) : Pdv p f h := by
  obtain ⟨k, hk, d⟩ := a; obtain ⟨l, hl, e⟩ := b
  exact ⟨fun x => l x * k x, hl.mul hk, e.trans ((d.right hl).to fun x => by grind)⟩
theorem Pdv.add {p : Nat} {g f f' : Int → Int} (a : Pdv p g f) (b : Pdv p g f') : Pdv p g (fun x => f x + f' x) := by
  obtain ⟨k, hk, d⟩ := a; obtain ⟨l, hl, e⟩ := b
  exact ⟨fun x => k x + l x, hk.add hl, (d.add e).to fun x => by grind⟩
theorem Pdv.sub {p : Nat} {g f f' : Int → Int} (a : Pdv p g f) (b : Pdv p g f') : Pdv p g (fun x => f x - f' x) := by
  obtain ⟨k, hk, d⟩ := a; obtain ⟨l, hl, e⟩ := b
  exact ⟨fun x => k x - l x, hk.sub hl, (d.sub e).to fun x => by grind⟩
theorem Pdv.mul {p : Nat} {g f k : Int → Int} (a : Pdv p g f) (hk : Ply k) : Pdv p g (fun x => k x * f x) := by
  obtain ⟨l, hl, d⟩ := a
  exact ⟨fun x => k x * l x, hk.mul hl, (d.right hk).to fun x => by grind⟩
theorem ply_rep {p : Nat} (hp : 0 < p) {f : Int → Int} (h : Ply f) : ∃ l, Nm p l ∧ Eqm p (pe l) f := by
  obtain ⟨l, hl⟩ := h
  have key : ∀ l : List Int, Eqm p (pe (l.map fun c => (c % (p : Int)).toNat)) (pv l) := by
    intro l
    induction l with
    | nil => exact .of fun x => rfl
    | cons c t ih =>
      obtain ⟨k, hk, e⟩ := ih
      refine ⟨fun x => - (c / (p : Int)) + x * k x, (ply_c _).add (ply_x.mul hk), fun x => ?_⟩
      have e1 := e x
      have e2 : (((c % (p : Int)).toNat : Nat) : Int) = c % (p : Int) := Int.toNat_of_nonneg (Int.emod_nonneg _ (by omega))
      have e3 := Int.emod_add_mul_ediv c p
      rw [List.map_cons, pe_cons, e2, pv, e1]
      generalize c % (p : Int) = u at *; generalize c / (p : Int) = v at *
      subst e3; grind
  exact ⟨nrm p _, nm_nrm hp _, (eqm_nrm p _).trans ((key l).to fun x => (hl x).symm)⟩
end Go.Proofs.YtddbhhedjipjkaaGreatDoor
end

section
namespace Go.Proofs.YtddbhhedjipjkaaGreatDoor
set_option linter.unusedVariables false
set_option linter.unusedSimpArgs false
theorem dv_zero_iff {p : Nat} (hp : 0 < p) {a : List Nat} (ha : Nm p a) (h : Pdv p (pe []) (pe a)) : a = [] := by
  obtain ⟨k, hk, e⟩ := h
  exact uniq hp ha (Nm.nil p) (e.to fun x => by rw [pe_nil]; grind)
theorem quo_of {p : Nat} (hp : MR.Pr p) {a b : List Nat} (hb : Nm p b) (b0 : b ≠ []) {k : Int → Int} (hk : Ply k) (e : Eqm p (pe a) (fun x => k x * pe b x)) : Eqm p (pe (quoP p a b)) k := by
  obtain ⟨l, nl, el⟩ := ply_rep (pr_pos hp) hk
  have s : DivSpec p a b l [] := ⟨nl, Nm.nil p, List.length_pos_iff.2 b0, e.trans (((el.symm.left (ply_pe b))).to fun x => by rw [pe_nil]; grind)⟩
  rw [(dm_is hp hb s).1]; exact el
theorem dv_len {p : Nat} (hp : MR.Pr p) {g a : List Nat} (hg : Nm p g) (ha : Nm p a) (a0 : a ≠ []) (h : Pdv p (pe g) (pe a)) : g ≠ [] ∧ (quoP p a g).length + g.length - 1 = a.length ∧ quoP p a g ≠ [] := by
  have h0 := pr_pos hp
  have g0 : g ≠ [] := fun e => a0 (dv_zero_iff h0 ha (e ▸ h))
  obtain ⟨k, hk, e⟩ := h
  have ek := quo_of hp hg g0 hk e
  have s := dm_spec hp (a := a) hg g0
  have e2 : mulp p (quoP p a g) g = a := uniq h0 (nm_mulp h0 _ _) ha ((eqm_mulp _ _ _).trans ((ek.left (ply_pe g)).trans e.symm))
  have q0 : quoP p a g ≠ [] := fun e3 => by rw [e3, mulp_nil] at e2; exact a0 e2.symm
  have := mulp_len hp s.nq hg q0 g0
  rw [e2] at this
  exact ⟨g0, this.symm, q0⟩
theorem dv_le {p : Nat} (hp : MR.Pr p) {g a : List Nat} (hg : Nm p g) (ha : Nm p a) (a0 : a ≠ []) (h : Pdv p (pe g) (pe a)) : g.length ≤ a.length := by
  have := dv_len hp hg ha a0 h
  have := List.length_pos_iff.2 this.2.2
  omega
def lead (xs : List Nat) : Nat := nth xs (xs.length - 1)
theorem lead_nil : lead [] = 0 := rfl
theorem amul_nil (p : Nat) (a : List Nat) (c : Nat) : amul p [] a c = nrm p (scl c a) := rfl
theorem scale_len {p : Nat} (hp : MR.Pr p) {a : List Nat} {c : Nat} (ha : Nm p a) (hc : c % p ≠ 0) : (amul p [] a c).length = a.length := by
  rw [amul_nil]
  refine nrm_full (fun i hi => by rw [nth_scl, nth_ge hi]; simp) ?_
  by_cases a0 : a = []
  · subst a0; exact .inl rfl
  · exact .inr (by rw [nth_scl]; exact pr_mul_ne hp hc (ha.top' (pr_pos hp) a0))
theorem eqm_scale (p : Nat) (a : List Nat) (c : Nat) : Eqm p (pe (amul p [] a c)) (fun x => c * pe a x) := (eqm_amul p [] a c).to fun x => by rw [pe_nil]; grind
def mon (p : Nat) (a : List Nat) : List Nat := amul p [] a (invW p (lead (nrm p a)))
theorem invW_of_zero {p x : Nat} (h : x % p = 0) : invW p x = 0 := by unfold invW; rw [if_pos h]
theorem inv_ne {p x : Nat} (hp : MR.Pr p) (h : x % p ≠ 0) : invW p x % p ≠ 0 := fun e => by
  have h1 := unit_inv hp h
  rw [Nat.mul_mod, e, Nat.mul_zero, Nat.zero_mod] at h1
  omega
theorem mon_congr {p : Nat} {a b : List Nat} (h : nrm p a = nrm p b) : mon p a = mon p b := by
  unfold mon
  rw [h, amul_nil, amul_nil]
  refine nrm_ext fun i => ?_
  have e : nth a i % p = nth b i % p := by rw [← nth_nrm, h, nth_nrm]
  rw [nth_scl, nth_scl, Nat.mul_mod, e, ← Nat.mul_mod]
theorem mon_nrm {p : Nat} (hp : 0 < p) (a : List Nat) : mon p (nrm p a) = mon p a := mon_congr (nrm_nrm hp a)
theorem mon_is {p : Nat} (hp : MR.Pr p) {a : List Nat} (ha : Nm p a) (a0 : a ≠ []) :
    (mon p a).length = a.length ∧ lead (mon p a) = 1 ∧ Eqm p (pe (mon p a)) (fun x => (invW p (lead a) : Int) * pe a x) ∧ Eqm p (pe a) (fun x => (lead a : Int) * pe (mon p a) x) := by
  have h0 := pr_pos hp
  have hn : nrm p a = a := nrm_of h0 ha
  have ht := ha.top' h0 a0
  have hi := inv_ne hp ht
  have hu := unit_inv hp ht
  have e : mon p a = amul p [] a (invW p (lead a)) := by unfold mon; rw [hn]
  have hl := scale_len hp ha hi
  refine ⟨by rw [e]; exact hl, ?_, by rw [e]; exact eqm_scale _ _ _, ?_⟩
  · rw [e]
    unfold lead
    rw [show (amul p [] a (invW p (nth a (a.length - 1)))).length = a.length from hl, amul_nil, nth_nrm, nth_scl, Nat.mul_comm, hu]
  · rw [e]
    have e1 := (eqm_scale p a (invW p (lead a))).right (ply_c (lead a : Int))
    have e2 : Eqm p (fun x => ((lead a * invW p (lead a) : Nat) : Int) * pe a x) (fun x => ((1 : Nat) : Int) * pe a x) := (eqm_const (by rw [show lead a * invW p (lead a) % p = 1 from hu]; exact (Nat.mod_eq_of_lt hp.1).symm)).left (ply_pe a)
    exact ((e2.symm.by fun x => by simp).trans (e1.symm.by fun x => by rw [Int.natCast_mul]; grind))
theorem mon_dv {p : Nat} (hp : MR.Pr p) {a : List Nat} (ha : Nm p a) : Pdv p (pe (mon p a)) (pe a) ∧ Pdv p (pe a) (pe (mon p a)) := by
  by_cases a0 : a = []
  · subst a0; exact ⟨Pdv.refl _ _, Pdv.refl _ _⟩
  · have h := mon_is hp ha a0
    exact ⟨⟨_, ply_c _, h.2.2.2⟩, ⟨_, ply_c _, h.2.2.1⟩⟩
theorem nm_mon {p : Nat} (hp : 0 < p) (a : List Nat) : Nm p (mon p a) := nm_amul hp _ _ _
def Mono (a : List Nat) : Prop := a = [] ∨ lead a = 1
theorem mono_mon {p : Nat} (hp : MR.Pr p) (a : List Nat) : Mono (mon p a) := by
  rw [← mon_nrm (pr_pos hp)]
  by_cases h : nrm p a = []
  · rw [h]; exact .inl rfl
  · exact .inr (mon_is hp (nm_nrm (pr_pos hp) a) h).2.1
noncomputable def euc (p : Nat) : Nat → List Nat → List Nat → List Nat → List Nat → List Nat × List Nat
  | 0, r, _, s, _ => (r, s)
  | n + 1, r, r', s, s' => if r' = [] then (r, s) else euc p n r' (remP p r r') s' (amul p s (mulp p (quoP p r r') s') (p - 1))
theorem euc_more {p : Nat} (hp : MR.Pr p) : ∀ (n m : Nat) (r r' s s' : List Nat), Nm p r' → r'.length < n → r'.length < m → euc p n r r' s s' = euc p m r r' s s' := by
  intro n
  induction n with
  | zero => intro m r r' s s' _ h; omega
  | succ n ih =>
    intro m r r' s s' hr h1 h2
    obtain ⟨m, rfl⟩ : ∃ k, m = k + 1 := ⟨m - 1, by omega⟩
    unfold euc
    by_cases h0 : r' = []
    · rw [if_pos h0, if_pos h0]
    · rw [if_neg h0, if_neg h0]
      have sp := dm_spec hp (a := r) hr h0
      have := sp.lt
      exact ih m _ _ _ _ sp.nr (by omega) (by omega)
theorem euc_fst {p : Nat} : ∀ (n : Nat) (r r' s s' u u' : List Nat), (euc p n r r' s s').1 = (euc p n r r' u u').1 := by
  intro n
  induction n with
  | zero => intros; rfl
  | succ n ih =>
    intro r r' s s' u u'
    unfold euc
    by_cases h0 : r' = []
    · rw [if_pos h0, if_pos h0]
    · rw [if_neg h0, if_neg h0]; exact ih _ _ _ _ _ _
noncomputable def xlast (p : Nat) (r r' s s' : List Nat) : List Nat × List Nat := euc p (r'.length + 1) r r' s s'
theorem xlast_nil (p : Nat) (r s s' : List Nat) : xlast p r [] s s' = (r, s) := by unfold xlast euc; rw [if_pos rfl]
theorem xlast_step {p : Nat} (hp : MR.Pr p) {r r' s s' : List Nat} (hr : Nm p r') (h0 : r' ≠ []) : xlast p r r' s s' = xlast p r' (remP p r r') s' (amul p s (mulp p (quoP p r r') s') (p - 1)) := by
  have sp := dm_spec hp (a := r) hr h0
  have := sp.lt
  unfold xlast
  rw [euc, if_neg h0]
  exact euc_more hp _ _ _ _ _ _ sp.nr this (by omega)
theorem xlast_fst (p : Nat) (r r' s s' u u' : List Nat) : (xlast p r r' s s').1 = (xlast p r r' u u').1 := euc_fst _ _ _ _ _ _ _
theorem xlast_ind {p : Nat} (hp : MR.Pr p) (M : List Nat → List Nat → List Nat → List Nat → Prop) (h0 : ∀ r s s', M r [] s s')
    (h1 : ∀ r r' s s', Nm p r' → r' ≠ [] → Nm p (remP p r r') → (remP p r r').length < r'.length → M r' (remP p r r') s' (amul p s (mulp p (quoP p r r') s') (p - 1)) → M r r' s s') : ∀ r r' s s', Nm p r' → M r r' s s' := by
  have key : ∀ n r r' s s', r'.length < n → Nm p r' → M r r' s s' := by
    intro n
    induction n with
    | zero => intro r r' s s' h; omega
    | succ n ih =>
      intro r r' s s' h hr
      by_cases e : r' = []
      · subst e; exact h0 r s s'
      · have sp := dm_spec hp (a := r) hr e
        have := sp.lt
        exact h1 r r' s s' hr e sp.nr this (ih _ _ _ _ (by omega) sp.nr)
  exact fun r r' s s' hr => key (r'.length + 1) r r' s s' (by omega) hr
theorem xlast_nm {p : Nat} (hp : MR.Pr p) : ∀ r r' s s', Nm p r' → Nm p r → Nm p s → Nm p s' → Nm p (xlast p r r' s s').1 ∧ Nm p (xlast p r r' s s').2 := by
  refine xlast_ind hp (fun r r' s s' => Nm p r → Nm p s → Nm p s' → Nm p (xlast p r r' s s').1 ∧ Nm p (xlast p r r' s s').2) ?_ ?_
  · intro r s s' hr hs _; rw [xlast_nil]; exact ⟨hr, hs⟩
  · intro r r' s s' hr' e nr lt ih hr hs hs'
    rw [xlast_step hp hr' e]
    exact ih hr' hs' (nm_amul (pr_pos hp) _ _ _)
theorem xlast_dv {p : Nat} (hp : MR.Pr p) : ∀ r r' s s', Nm p r' → Pdv p (pe (xlast p r r' s s').1) (pe r) ∧ Pdv p (pe (xlast p r r' s s').1) (pe r') ∧ ∀ d, Pdv p d (pe r) → Pdv p d (pe r') → Pdv p d (pe (xlast p r r' s s').1) := by
  refine xlast_ind hp (fun r r' s s' => Pdv p (pe (xlast p r r' s s').1) (pe r) ∧ Pdv p (pe (xlast p r r' s s').1) (pe r') ∧ ∀ d, Pdv p d (pe r) → Pdv p d (pe r') → Pdv p d (pe (xlast p r r' s s').1)) ?_ ?_
  · intro r s s'; rw [xlast_nil]; exact ⟨Pdv.refl _ _, (Pdv.zero _ _).congr (.of fun x => pe_nil x), fun d h _ => h⟩
  · intro r r' s s' hr' e nr lt ⟨i1, i2, i3⟩
    rw [xlast_step hp hr' e]
    have sp := dm_spec hp (a := r) hr' e
    refine ⟨?_, i1, fun d h1 h2 => i3 d h2 ?_⟩
    · exact ((i1.mul (ply_pe (quoP p r r'))).add i2).congr sp.eq
    · refine (h1.sub (h2.mul (ply_pe (quoP p r r')))).congr ?_
      exact ((sp.eq.symm.sub (Eqm.refl p (fun x => pe (quoP p r r') x * pe r' x))).by fun x => by grind)
noncomputable def gcP (p : Nat) (a b : List Nat) : List Nat := mon p (xlast p (nrm p a) (nrm p b) [] []).1
theorem gcP_is {p : Nat} (hp : MR.Pr p) (a b : List Nat) : Nm p (gcP p a b) ∧ Mono (gcP p a b) ∧ Pdv p (pe (gcP p a b)) (pe a) ∧ Pdv p (pe (gcP p a b)) (pe b) ∧ (∀ d, Pdv p d (pe a) → Pdv p d (pe b) → Pdv p d (pe (gcP p a b))) := by
  have h0 := pr_pos hp
  have ha := nm_nrm h0 a
  have hb := nm_nrm h0 b
  have hg := (xlast_nm hp (nrm p a) (nrm p b) [] [] hb ha (Nm.nil p) (Nm.nil p)).1
  obtain ⟨d1, d2, d3⟩ := xlast_dv hp (nrm p a) (nrm p b) [] [] hb
  have hm := mon_dv hp hg
  refine ⟨nm_mon h0 _, mono_mon hp _, (hm.1.trans d1).congr (eqm_nrm p a).symm, (hm.1.trans d2).congr (eqm_nrm p b).symm, fun d k1 k2 => ?_⟩
  exact (d3 d (k1.congr (eqm_nrm p a)) (k2.congr (eqm_nrm p b))).trans hm.2
end Go.Proofs.YtddbhhedjipjkaaGreatDoor
end
