/-
  Polynomials over a field, plain facts: rests of products and powers. No program is named here.
-/
import Derived.Test.YthigedcpiglmnaaDoorPolC
/-! Plain facts on polynomials over a field: powers. -/
namespace Go.Proofs.YthigedcpiglmnaaDoor
set_option linter.unusedVariables false
set_option linter.unusedSimpArgs false

/-- The rest hangs on the multiple of the divisor alone. -/
theorem rem_congr {p : Nat} (hp : MR.Pr p) {a b m : List Nat} (hm : Nm p m) (m0 : m ≠ []) {k : Int → Int} (hk : Ply k) (h : Eqm p (pe a) (fun x => k x * pe m x + pe b x)) : remP p a m = remP p b m := by
  have h0 := pr_pos hp
  have s := dm_spec hp (a := b) hm m0
  obtain ⟨l, nl, el⟩ := ply_rep h0 (hk.add (ply_pe (quoP p b m)))
  have : DivSpec p a m l (remP p b m) := ⟨nl, s.nr, s.lt, h.trans (by
    refine Eqm.trans ((Eqm.refl p (fun x => k x * pe m x)).add s.eq) (Eqm.trans ?_ ((el.symm.left (ply_pe m)).add (Eqm.refl p (pe (remP p b m)))))
    exact .of fun x => by grind)⟩
  exact (dm_is hp hm this).2
theorem rem_spec {p : Nat} (hp : MR.Pr p) (a : List Nat) {m : List Nat} (hm : Nm p m) (m0 : m ≠ []) : ∃ k, Ply k ∧ Eqm p (pe a) (fun x => k x * pe m x + pe (remP p a m) x) :=
  ⟨_, ply_pe _, (dm_spec hp (a := a) hm m0).eq⟩
theorem rem_nm {p : Nat} (hp : MR.Pr p) (a : List Nat) {m : List Nat} (hm : Nm p m) (m0 : m ≠ []) : Nm p (remP p a m) := (dm_spec hp (a := a) hm m0).nr
/-- The rest of a product is that of the rests' product. -/
theorem rem_mul {p : Nat} (hp : MR.Pr p) (a b : List Nat) {m : List Nat} (hm : Nm p m) (m0 : m ≠ []) : remP p (mulp p (remP p a m) (remP p b m)) m = remP p (mulp p a b) m := by
  obtain ⟨k, hk, ek⟩ := rem_spec hp a hm m0
  obtain ⟨l, hl, el⟩ := rem_spec hp b hm m0
  symm
  refine rem_congr hp hm m0 (k := fun x => k x * pe b x + pe (remP p a m) x * l x) ((hk.mul (ply_pe b)).add ((ply_pe _).mul hl)) ?_
  refine (eqm_mulp p a b).trans ?_
  refine (ek.left (ply_pe b)).trans ?_
  refine Eqm.trans ?_ ((Eqm.refl p (fun x => (k x * pe b x + pe (remP p a m) x * l x) * pe m x)).add (eqm_mulp p (remP p a m) (remP p b m)).symm)
  have e1 := (el.right (ply_pe (remP p a m)))
  have e2 := (Eqm.refl p (fun x => k x * pe m x * pe b x)).add e1
  refine Eqm.trans ?_ (e2.trans ?_)
  · exact .of fun x => by grind
  · exact .of fun x => by grind
theorem rem_same {p : Nat} (hp : MR.Pr p) {a b m : List Nat} (hm : Nm p m) (h : Eqm p (pe a) (pe b)) : remP p a m = remP p b m := (dm_congr hp hm h).2
theorem rem_rem {p : Nat} (hp : MR.Pr p) (a : List Nat) {m : List Nat} (hm : Nm p m) (m0 : m ≠ []) : remP p (remP p a m) m = remP p a m := by
  obtain ⟨k, hk, ek⟩ := rem_spec hp a hm m0
  exact (rem_congr hp hm m0 hk ek).symm
/-- a to the n. -/
def pw (p : Nat) (a : List Nat) : Nat → List Nat
  | 0 => nrm p [1]
  | n + 1 => mulp p (pw p a n) a
theorem eqm_pw (p : Nat) (a : List Nat) : ∀ n, Eqm p (pe (pw p a n)) (fun x => pe a x ^ n)
  | 0 => (eqm_nrm p [1]).to fun x => by simp [pe_cons, pe_nil]
  | n + 1 => by
    refine (eqm_mulp p (pw p a n) a).trans (((eqm_pw p a n).left (ply_pe a)).to fun x => ?_)
    rw [Int.pow_succ]
theorem nm_pw {p : Nat} (hp : 0 < p) (a : List Nat) : ∀ n, Nm p (pw p a n)
  | 0 => nm_nrm hp _
  | n + 1 => nm_mulp hp _ _
theorem pw_add {p : Nat} (hp : 0 < p) (a : List Nat) (m n : Nat) : mulp p (pw p a m) (pw p a n) = pw p a (m + n) := by
  refine uniq hp (nm_mulp hp _ _) (nm_pw hp _ _) ?_
  refine (eqm_mulp _ _ _).trans (((eqm_pw p a m).mul (eqm_pw p a n) ((ply_pe a).pow m) (ply_pe _)).trans (Eqm.trans ?_ (eqm_pw p a (m + n)).symm))
  exact .of fun x => by rw [Int.pow_add]
theorem pw_congr {p : Nat} (hp : 0 < p) {a b : List Nat} (h : Eqm p (pe a) (pe b)) (n : Nat) : pw p a n = pw p b n := by
  induction n with
  | zero => rfl
  | succ n ih =>
    unfold pw
    rw [ih]
    exact uniq hp (nm_mulp hp _ _) (nm_mulp hp _ _) ((eqm_mulp _ _ _).trans ((h.right (ply_pe (pw p b n))).trans (eqm_mulp _ _ _).symm))
/-- A square, by rests. -/
theorem pow_even {p : Nat} (hp : MR.Pr p) (a : List Nat) {m : List Nat} (hm : Nm p m) (m0 : m ≠ []) (e : Nat) : remP p (mulp p (remP p (pw p a e) m) (remP p (pw p a e) m)) m = remP p (pw p a (2 * e)) m := by
  rw [rem_mul hp _ _ hm m0, pw_add (pr_pos hp), show e + e = 2 * e by omega]
theorem pow_odd {p : Nat} (hp : MR.Pr p) (a : List Nat) {m : List Nat} (hm : Nm p m) (m0 : m ≠ []) (e : Nat) : remP p (mulp p (remP p a m) (remP p (pw p a e) m)) m = remP p (pw p a (e + 1)) m := by
  rw [rem_mul hp _ _ hm m0]
  refine rem_same hp hm ((eqm_mulp _ _ _).trans (Eqm.trans ?_ (eqm_mulp p (pw p a e) a).symm))
  exact .of fun x => by grind
theorem pow_rem {p : Nat} (hp : MR.Pr p) (a : List Nat) {m : List Nat} (hm : Nm p m) (m0 : m ≠ []) : ∀ n, remP p (pw p (remP p a m) n) m = remP p (pw p a n) m
  | 0 => rfl
  | n + 1 => by
    unfold pw
    rw [← rem_mul hp (pw p (remP p a m) n) (remP p a m) hm m0, pow_rem hp a hm m0 n, rem_rem hp a hm m0, rem_mul hp _ _ hm m0]
/-- How long what goes beside may be, on the way. -/
def SLen (N : Nat) (r r' s s' : List Nat) : Prop := (s = [1] ∧ s' = []) ∨ (s'.length + r.length ≤ N + 1 ∧ (s = [] ∨ s.length + r.length ≤ N) ∧ r'.length < r.length)
theorem slen_step {p N : Nat} (hp : MR.Pr p) {r r' s s' : List Nat} (hr : Nm p r) (hr' : Nm p r') (e : r' ≠ []) (hN : r'.length ≤ N) (h : SLen N r r' s s') : SLen N r' (remP p r r') s' (amul p s (mulp p (quoP p r r') s') (p - 1)) := by
  have sp := dm_spec hp (a := r) hr' e
  have lt := sp.lt
  have l2 := amul_len p s (mulp p (quoP p r r') s') (p - 1)
  rcases h with ⟨rfl, rfl⟩ | ⟨h1, h2, h3⟩
  · rw [mulp_nil'] at l2 ⊢
    refine .inr ⟨?_, .inl rfl, lt⟩
    simp at l2; omega
  · have le := List.length_pos_iff.2 e
    have lq := quo_len hp hr' e hr
    have l1 := mulp_le p (quoP p r r') s'
    refine .inr ⟨?_, .inr (by omega), lt⟩
    rcases h2 with rfl | h2
    · simp at l2; omega
    · omega
theorem slen_le {N : Nat} {r r' s s' : List Nat} (h : SLen N r r' s s') : s.length ≤ N + 1 ∧ s'.length ≤ N + 1 := by
  rcases h with ⟨rfl, rfl⟩ | ⟨h1, h2, h3⟩
  · simp
  · rcases h2 with rfl | h2
    · simp; omega
    · omega
end Go.Proofs.YthigedcpiglmnaaDoor
