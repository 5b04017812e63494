/-
  Polynomials over the fields of 2, 3 and 5 elements, plain facts: what is raised to the p, and which common divisors tell that one of a degree 1 or 2 divides. No program is named here.
-/
import Derived.Test.YthigedcpiglmnaaDoorPolD
/-! Who is irreducible. -/
namespace Go.Proofs.YthigedcpiglmnaaDoor
set_option linter.unusedVariables false
set_option linter.unusedSimpArgs false

theorem pe_apd (a b : List Nat) (x : Int) : pe (a ++ b) x = pe a x + x ^ a.length * pe b x := by
  induction a with
  | nil => simp [pe_nil]
  | cons c t ih => rw [List.cons_append, pe_cons, pe_cons, ih, List.length_cons, Int.pow_succ]; grind
theorem Eqm.pow {p : Nat} {f g : Int → Int} (h : Eqm p f g) (hf : Ply f) (hg : Ply g) : ∀ n : Nat, Eqm p (fun x => f x ^ n) (fun x => g x ^ n)
  | 0 => .of fun x => by simp
  | n + 1 => ((h.pow hf hg n).mul h (hg.pow n) hf).by (fun x => Int.pow_succ _ _) |>.to fun x => (Int.pow_succ _ _).symm
/-- One of the first three primes. -/
def Few (p : Nat) : Prop := p = 2 ∨ p = 3 ∨ p = 5
theorem few_pr {p : Nat} (h : Few p) : 2 ≤ p := by rcases h with rfl | rfl | rfl <;> decide
theorem bino {p : Nat} (hp : Few p) {f g : Int → Int} (hf : Ply f) (hg : Ply g) : Eqm p (fun x => (f x + g x) ^ p) (fun x => f x ^ p + g x ^ p) := by
  rcases hp with rfl | rfl | rfl
  · exact ⟨fun x => f x * g x, hf.mul hg, fun x => by
      simp only; have : ((2 : Nat) : Int) = 2 := rfl
      rw [this]; generalize f x = F; generalize g x = G; grind⟩
  · exact ⟨fun x => f x * (f x * g x) + f x * (g x * g x), (hf.mul (hf.mul hg)).add (hf.mul (hg.mul hg)), fun x => by
      simp only; have : ((3 : Nat) : Int) = 3 := rfl
      rw [this]; generalize f x = F; generalize g x = G; grind⟩
  · exact ⟨fun x => f x ^ 4 * g x + 2 * (f x ^ 3 * g x ^ 2) + 2 * (f x ^ 2 * g x ^ 3) + f x * g x ^ 4, ((((hf.pow 4).mul hg).add (((hf.pow 3).mul (hg.pow 2)).scale 2)).add (((hf.pow 2).mul (hg.pow 3)).scale 2)).add (hf.mul (hg.pow 4)), fun x => by
      simp only; have : ((5 : Nat) : Int) = 5 := rfl
      rw [this]; generalize f x = F; generalize g x = G; grind⟩
theorem ferm {p : Nat} (hp : Few p) (c : Nat) : ∃ k : Int, (c : Int) ^ p = c + (p : Int) * k := by
  rcases hp with rfl | rfl | rfl
  · have h : ((c : Int) ^ 2 - c) % 2 = 0 := by
      have h5 : (c : Int) % 2 = 0 ∨ (c : Int) % 2 = 1 := by omega
      rcases h5 with h | h <;> simp [Int.pow_succ, Int.sub_emod, Int.mul_emod, h]
    obtain ⟨k, hk⟩ := Int.dvd_of_emod_eq_zero h
    exact ⟨k, by have : ((2 : Nat) : Int) = 2 := rfl
                 rw [this]; grind⟩
  · have h : ((c : Int) ^ 3 - c) % 3 = 0 := by
      have h5 : (c : Int) % 3 = 0 ∨ (c : Int) % 3 = 1 ∨ (c : Int) % 3 = 2 := by omega
      rcases h5 with h | h | h <;> simp [Int.pow_succ, Int.sub_emod, Int.mul_emod, h]
    obtain ⟨k, hk⟩ := Int.dvd_of_emod_eq_zero h
    exact ⟨k, by have : ((3 : Nat) : Int) = 3 := rfl
                 rw [this]; grind⟩
  · have h : ((c : Int) ^ 5 - c) % 5 = 0 := by
      have h5 : (c : Int) % 5 = 0 ∨ (c : Int) % 5 = 1 ∨ (c : Int) % 5 = 2 ∨ (c : Int) % 5 = 3 ∨ (c : Int) % 5 = 4 := by omega
      rcases h5 with h | h | h | h | h <;> simp [Int.pow_succ, Int.sub_emod, Int.mul_emod, h]
    obtain ⟨k, hk⟩ := Int.dvd_of_emod_eq_zero h
    exact ⟨k, by have : ((5 : Nat) : Int) = 5 := rfl
                 rw [this]; grind⟩
/-- A polynomial of x to the p is the polynomial to the p. -/
theorem frob {p : Nat} (hp : Few p) : ∀ r : List Nat, Eqm p (fun x => pe r (x ^ p)) (fun x => pe r x ^ p)
  | [] => .of fun x => by
      have h2 := few_pr hp
      rw [pe_nil, pe_nil, Int.zero_pow (by omega)]
  | c :: t => by
    obtain ⟨k, hk⟩ := ferm hp c
    have e1 : Eqm p (fun _ => (c : Int)) (fun _ => (c : Int) ^ p) := ⟨fun _ => -k, ply_c _, fun x => by simp only; rw [hk]; grind⟩
    have e2 := (frob hp t).right (ply_x.pow p)
    have e3 := (bino hp (ply_c (c : Int)) (ply_x.mul (ply_pe t))).symm
    refine ((e1.add e2).by fun x => by rw [pe_cons]).trans (Eqm.trans (.of fun x => ?_) (e3.to fun x => by rw [pe_cons]))
    simp only [Int.mul_pow]

/-- What x to the i becomes, by m. -/
noncomputable def imf (p : Nat) (m : List Nat) (i : Nat) : List Nat := remP p (pw p [0, 1] (p * i)) m
/-- The sum of the first k of r's numbers times what becomes of their powers. -/
noncomputable def lacc (p : Nat) (m r : List Nat) : Nat → List Nat
  | 0 => []
  | k + 1 => addl (lacc p m r k) (scl (nth r k) (imf p m k))
theorem lacc_succ (p : Nat) (m r : List Nat) (k : Nat) : lacc p m r (k + 1) = addl (lacc p m r k) (scl (nth r k) (imf p m k)) := rfl
/-- r raised to the p. -/
noncomputable def rz (p : Nat) (m r : List Nat) : List Nat := nrm p (lacc p m r r.length)
theorem pe_x (x : Int) : pe [0, 1] x = x := by rw [pe_cons, pe_cons, pe_nil]; simp
theorem imf_nm {p : Nat} (hp : MR.Pr p) {m : List Nat} (hm : Nm p m) (m0 : m ≠ []) (i : Nat) : Nm p (imf p m i) := rem_nm hp _ hm m0
theorem imf_len {p : Nat} (hp : MR.Pr p) {m : List Nat} (hm : Nm p m) (m0 : m ≠ []) (i : Nat) : (imf p m i).length < m.length := (dm_spec hp hm m0).lt
theorem imf_eq {p : Nat} (hp : MR.Pr p) {m : List Nat} (hm : Nm p m) (m0 : m ≠ []) (i : Nat) : ∃ v, Ply v ∧ Eqm p (pe (imf p m i)) (fun x => x ^ (p * i) + v x * pe m x) := by
  obtain ⟨k, hk, e⟩ := rem_spec hp (pw p [0, 1] (p * i)) hm m0
  have e1 := (eqm_pw p [0, 1] (p * i)).to fun x => by rw [pe_x]
  refine ⟨fun x => - k x, hk.neg, ?_⟩
  refine (((e.symm.trans e1).sub (Eqm.refl p (fun x => k x * pe m x))).by fun x => ?_).to fun x => ?_
  · show pe (remP p (pw p [0, 1] (p * i)) m) x = _; grind
  · grind
theorem imf_one {p : Nat} (hp : MR.Pr p) {m : List Nat} (hm : Nm p m) (m2 : 2 ≤ m.length) : imf p m 0 = [1] := by
  have h0 := pr_pos hp
  have m0 : m ≠ [] := fun e => by rw [e] at m2; simp at m2
  have s : DivSpec p (pw p [0, 1] (p * 0)) m [] [1] := ⟨Nm.nil p, nm_one hp, by simp; omega, by
    show Eqm p (pe (nrm p [1])) _
    rw [nrm_of h0 (nm_one hp)]
    exact .of fun x => by rw [pe_nil]; simp⟩
  exact (dm_is hp hm s).2
theorem imf_next {p : Nat} (hp : MR.Pr p) {m : List Nat} (hm : Nm p m) (m0 : m ≠ []) (n : Nat) : remP p (mulp p (imf p m 1) (imf p m n)) m = imf p m (n + 1) := by
  unfold imf
  rw [rem_mul hp _ _ hm m0, pw_add (pr_pos hp), show p * 1 + p * n = p * (n + 1) by rw [Nat.mul_add]; omega]
theorem lacc_eq {p : Nat} (hp : MR.Pr p) {m r : List Nat} (hm : Nm p m) (m0 : m ≠ []) : ∀ k, k ≤ r.length → ∃ u, Ply u ∧ Eqm p (pe (lacc p m r k)) (fun x => pe (r.take k) (x ^ p) + u x * pe m x)
  | 0, _ => ⟨fun _ => 0, ply_c _, .of fun x => by simp [lacc, pe_nil]⟩
  | k + 1, h => by
    obtain ⟨u, hu, eu⟩ := lacc_eq hp (r := r) hm m0 k (by omega)
    obtain ⟨v, hv, ev⟩ := imf_eq hp hm m0 k
    refine ⟨fun x => u x + nth r k * v x, hu.add (hv.scale _), ?_⟩
    have e := eu.add (ev.right (ply_c (nth r k : Int)))
    refine (e.by fun x => by rw [lacc_succ, pe_addl, pe_scl]).to fun x => ?_
    have ht : r.take (k + 1) = r.take k ++ [nth r k] := by
      rw [List.take_add_one]; congr 1
      rw [List.getElem?_eq_getElem (by omega)]
      unfold nth; simp [List.getD, List.getElem?_eq_getElem (show k < r.length by omega)]
    have hl : (r.take k).length = k := by simp; omega
    rw [ht, pe_apd, hl, pe_cons, pe_nil, Int.pow_mul]
    grind
/-- r is x to the p to the i, by m. -/
def Rs (p : Nat) (m : List Nat) (i : Nat) (r : List Nat) : Prop := Nm p r ∧ ∃ t, Ply t ∧ Eqm p (pe r) (fun x => x ^ p ^ i + t x * pe m x)
theorem rs_zero {p : Nat} (hp : MR.Pr p) (m : List Nat) : Rs p m 0 [0, 1] := by
  refine ⟨nm_of (fun k hk => ?_) (.inr (by decide)), fun _ => 0, ply_c _, .of fun x => by rw [pe_x, Nat.pow_zero, Int.pow_one]; simp⟩
  have h2 := hp.1
  have : k = 0 ∨ k = 1 := by simp at hk; omega
  rcases this with rfl | rfl
  · show 0 < p; omega
  · show 1 < p; omega
theorem rs_step {p : Nat} (hf : Few p) (hp : MR.Pr p) {m r : List Nat} (hm : Nm p m) (m0 : m ≠ []) {i : Nat} (h : Rs p m i r) : Rs p m (i + 1) (rz p m r) := by
  obtain ⟨hr, t, ht, e⟩ := h
  refine ⟨nm_nrm (pr_pos hp) _, ?_⟩
  obtain ⟨u, hu, e1⟩ := lacc_eq hp (r := r) hm m0 r.length (Nat.le_refl _)
  rw [List.take_length] at e1
  have pX : Ply fun x : Int => x ^ p ^ i := ply_x.pow _
  have pT := ht.mul (ply_pe m)
  have e3 := (frob hf r).trans ((e.pow (ply_pe r) (pX.add pT) p).trans (bino hf pX pT))
  have e4 := (eqm_nrm p (lacc p m r r.length)).trans (e1.trans (e3.add (Eqm.refl p (fun x => u x * pe m x))))
  refine ⟨fun x => t x ^ p * pe m x ^ (p - 1) + u x, ((ht.pow p).mul ((ply_pe m).pow (p - 1))).add hu, e4.to fun x => ?_⟩
  have h2 := hp.1
  have ep : pe m x ^ p = pe m x ^ (p - 1) * pe m x := by rw [← Int.pow_succ, show (p - 1).succ = p by omega]
  rw [Int.mul_pow, ep, ← Int.pow_mul, ← Nat.pow_succ]
  grind

/-- Some list of degree k, 1 at its degree, divides a. -/
def HasDv (p : Nat) (a : List Nat) (k : Nat) : Prop := ∃ b : List Nat, b.length = k + 1 ∧ Low p b ∧ nth b k = 1 ∧ Pdv p (pe b) (pe a)
theorem nm_top {p k : Nat} {b : List Nat} (hl : b.length = k + 1) (h : Low p b) (ht : nth b k = 1) : Nm p b := nm_of h (.inr (by rw [hl, Nat.add_sub_cancel, ht]; decide))
/-- Nothing divides both but numbers. -/
def Cop (p : Nat) (f g : Int → Int) : Prop := ∃ s t, Ply s ∧ Ply t ∧ Eqm p (fun _ => 1) (fun x => s x * f x + t x * g x)
theorem Cop.congr {p : Nat} {f g g' : Int → Int} (h : Cop p f g) (e : Eqm p g g') : Cop p f g' := by
  obtain ⟨s, t, hs, ht, d⟩ := h
  exact ⟨s, t, hs, ht, d.trans ((Eqm.refl p (fun x => s x * f x)).add (e.right ht))⟩
theorem Cop.mul {p : Nat} {f g g' : Int → Int} (h : Cop p f g) (k : Cop p f g') (hf : Ply f) (hg : Ply g) (hg' : Ply g') : Cop p f (fun x => g x * g' x) := by
  obtain ⟨s, t, hs, ht, d⟩ := h
  obtain ⟨s', t', hs', ht', d'⟩ := k
  refine ⟨fun x => s x * (s' x * f x) + s x * (t' x * g' x) + t x * (g x * s' x), fun x => t x * t' x, ((hs.mul (hs'.mul hf)).add (hs.mul (ht'.mul hg'))).add (ht.mul (hg.mul hs')), ht.mul ht', ?_⟩
  exact ((d.mul d' ((hs.mul hf).add (ht.mul hg)) (ply_c 1)).by fun x => by simp).to fun x => by grind
/-- A sum with a multiple of f. -/
theorem Cop.shift {p : Nat} {f g g' t : Int → Int} (h : Cop p f g) (pt : Ply t) (e : Eqm p g' (fun x => g x + t x * f x)) : Cop p f g' := by
  obtain ⟨u, v, hu, hv, d⟩ := h
  refine ⟨fun x => u x - v x * t x, v, hu.sub (hv.mul pt), hv, ?_⟩
  refine d.trans (Eqm.trans (.of fun x => ?_) ((Eqm.refl p (fun x => (u x - v x * t x) * f x)).add (e.symm.right hv)))
  grind
/-- The product of all. -/
def prodl : List (List Nat) → List Nat
  | [] => [1]
  | q :: L => cvl q (prodl L)
theorem prodl_cons (q : List Nat) (L : List (List Nat)) : prodl (q :: L) = cvl q (prodl L) := rfl
theorem cop_prod {p : Nat} {f : Int → Int} (hf : Ply f) : ∀ L : List (List Nat), (∀ q ∈ L, Cop p f (pe q)) → Cop p f (pe (prodl L))
  | [], _ => ⟨fun _ => 0, fun _ => 1, ply_c _, ply_c _, .of fun x => by simp [prodl, pe_cons, pe_nil]⟩
  | q :: L, h => by
    have h1 := (h q (by simp)).mul (cop_prod hf L fun q' hq => h q' (by simp [hq])) hf (ply_pe _) (ply_pe _)
    exact h1.congr (.of fun x => by rw [prodl_cons, pe_cvl])
theorem dv_prod {p : Nat} : ∀ (L : List (List Nat)) (q : List Nat), q ∈ L → Pdv p (pe q) (pe (prodl L))
  | [], q, h => by simp at h
  | c :: L, q, h => by
    rcases List.mem_cons.1 h with rfl | h
    · exact ⟨pe (prodl L), ply_pe _, .of fun x => by rw [prodl_cons, pe_cvl]; grind⟩
    · exact ((dv_prod L q h).mul (ply_pe c)).congr (.of fun x => by rw [prodl_cons, pe_cvl])
theorem cop_len {p : Nat} (hp : MR.Pr p) {a s : List Nat} (ha : Nm p a) (a0 : a ≠ []) (h : Cop p (pe a) (pe s)) : (gcP p a s).length = 1 := by
  have h0 := pr_pos hp
  obtain ⟨n, -, d1, d2, -⟩ := gcP_is hp a s
  obtain ⟨u, v, hu, hv, e⟩ := h
  have hd : Pdv p (pe (gcP p a s)) (pe [1]) := ((d1.mul hu).add (d2.mul hv)).congr ((e).by fun x => by rw [pe_cons, pe_nil]; simp)
  have hl := dv_le hp n (nm_one hp) (by simp) hd
  have hn : gcP p a s ≠ [] := fun e => a0 (by have := (gcP_nil hp e).1; rwa [nrm_of h0 ha] at this)
  have := List.length_pos_iff.2 hn
  simp at hl; omega
theorem cop_of {p : Nat} (hp : MR.Pr p) {a q : List Nat} {k : Nat} (hq : Nm p q) (q0 : q ≠ []) (hl : q.length ≤ k + 1) (hno : ∀ j, 1 ≤ j → j ≤ k → ¬ HasDv p a j) : Cop p (pe a) (pe q) := by
  have h0 := pr_pos hp
  obtain ⟨n, mo, d1, d2, -⟩ := gcP_is hp a q
  have hn : gcP p a q ≠ [] := fun e => q0 (by have := (gcP_nil hp e).2; rwa [nrm_of h0 hq] at this)
  have hle := dv_le hp n hq q0 d2
  have hpos := List.length_pos_iff.2 hn
  have ld : lead (gcP p a q) = 1 := mo.resolve_left hn
  have h1 : (gcP p a q).length = 1 := by
    apply Classical.byContradiction
    intro hc
    exact hno ((gcP p a q).length - 1) (by omega) (by omega) ⟨gcP p a q, by omega, n.1, ld, d1⟩
  have hg : gcP p a q = [1] := by
    obtain ⟨c, hc⟩ := List.length_eq_one_iff.1 h1
    rw [hc] at ld
    have : c = 1 := ld
    rw [hc, this]
  obtain ⟨s, t, hs, ht, e⟩ := gcP_bez hp a q
  rw [hg] at e
  exact ⟨s, t, hs, ht, e.by fun x => by rw [pe_cons, pe_nil]; simp⟩
/-- By a common divisor it is told whether one of degree k divides, if none of a lesser degree does. -/
theorem found_iff {p k : Nat} (hp : MR.Pr p) {L : List (List Nat)} (hk : 1 ≤ k) (hL : Eqm p (fun x => x ^ p ^ k - x) (pe (prodl L))) (h1 : ∀ q ∈ L, Nm p q ∧ q ≠ [] ∧ q.length ≤ k + 1)
    (h2 : ∀ b : List Nat, b.length = k + 1 → Low p b → nth b k = 1 → b ∈ L ∨ ∃ j, 1 ≤ j ∧ j < k ∧ HasDv p b j) {a r : List Nat} (ha : Nm p a) (a0 : a ≠ []) (hr : Rs p a k r) (hno : ∀ j, 1 ≤ j → j < k → ¬ HasDv p a j) :
    1 < (gcP p a (amul p r [0, 1] (p - 1))).length ↔ HasDv p a k := by
  have h0 := pr_pos hp
  obtain ⟨-, t, ht, e⟩ := hr
  have es : Eqm p (pe (amul p r [0, 1] (p - 1))) (fun x => (x ^ p ^ k - x) + t x * pe a x) :=
    (eqm_amul_sub h0 r [0, 1]).trans ((e.sub (Eqm.refl p (pe [0, 1]))).to fun x => by rw [pe_x]; grind)
  have pX : Ply fun x : Int => x ^ p ^ k - x := (ply_x.pow _).sub ply_x
  constructor
  · intro h
    apply Classical.byContradiction
    intro hc
    have hcop : ∀ q ∈ L, Cop p (pe a) (pe q) := fun q hq => by
      obtain ⟨n, q0, hl⟩ := h1 q hq
      refine cop_of hp n q0 hl fun j hj hjk => ?_
      rcases Nat.lt_or_eq_of_le hjk with h | rfl
      · exact hno j hj h
      · exact hc
    have := cop_len hp ha a0 (((cop_prod (ply_pe a) L hcop).congr hL.symm).shift ht es)
    omega
  · rintro ⟨b, hbl, hlow, htop, hdv⟩
    have nb := nm_top hbl hlow htop
    have hbL : b ∈ L := by
      rcases h2 b hbl hlow htop with h | ⟨j, hj, hjk, c, hc1, hc2, hc3, hc4⟩
      · exact h
      · exact absurd ⟨c, hc1, hc2, hc3, hc4.trans hdv⟩ (hno j hj hjk)
    have hX := (dv_prod L b hbL).congr hL
    have hs : Pdv p (pe b) (pe (amul p r [0, 1] (p - 1))) := (hX.add (hdv.mul ht)).congr es
    obtain ⟨n, -, d1, d2, d3⟩ := gcP_is hp a (amul p r [0, 1] (p - 1))
    have hn : gcP p a (amul p r [0, 1] (p - 1)) ≠ [] := fun e => a0 (by have := (gcP_nil hp e).1; rwa [nrm_of h0 ha] at this)
    have := dv_le hp nb n hn (d3 _ hdv hs)
    omega

def lin (p : Nat) : List (List Nat) := (List.range p).map fun c => [c, 1]
def quad (p : Nat) : List (List Nat) := (List.range p).flatMap fun c => (List.range p).map fun d => [c, d, 1]
def irq (p : Nat) : List (List Nat) := (quad p).filter fun b => (lin p).all fun l => (lin p).all fun l' => (cvl l l').map (· % p) != b
/-- x to the n less x. -/
def xl (p n : Nat) : List Nat := addl (shl n [1]) [0, p - 1]
theorem eqm_xl {p : Nat} (hp : 0 < p) (n : Nat) : Eqm p (fun x => x ^ n - x) (pe (xl p n)) := by
  have e := ((Eqm.refl p (fun x : Int => x ^ n)).add ((eqm_m1 hp).symm.left ply_x))
  refine (e.by fun x => ?_).to fun x => ?_
  · grind
  · unfold xl; rw [pe_addl, pe_shl, pe_cons, pe_cons, pe_cons, pe_nil]; simp [Int.mul_comm]
theorem eqm_map {p : Nat} {xs ys : List Nat} (h : xs.map (· % p) = ys.map (· % p)) : Eqm p (pe xs) (pe ys) := eqm_iff.2 fun i => by rw [← nth_map_mod, h, nth_map_mod]
set_option maxRecDepth 100000 in
theorem chk1 {p : Nat} (hf : Few p) : (xl p (p ^ 1)).map (· % p) = (prodl (lin p)).map (· % p) := by
  rcases hf with rfl | rfl | rfl <;> decide +kernel
set_option maxRecDepth 100000 in
theorem chk2 {p : Nat} (hf : Few p) : (xl p (p ^ 2)).map (· % p) = (prodl (lin p ++ irq p)).map (· % p) := by
  rcases hf with rfl | rfl | rfl <;> decide +kernel
theorem mem_lin {p : Nat} {q : List Nat} : q ∈ lin p ↔ ∃ c, c < p ∧ q = [c, 1] := by
  unfold lin; simp only [List.mem_map, List.mem_range]
  exact ⟨fun ⟨c, h, e⟩ => ⟨c, h, e.symm⟩, fun ⟨c, h, e⟩ => ⟨c, h, e.symm⟩⟩
theorem mem_quad {p : Nat} {q : List Nat} : q ∈ quad p ↔ ∃ c d, c < p ∧ d < p ∧ q = [c, d, 1] := by
  unfold quad; simp only [List.mem_flatMap, List.mem_map, List.mem_range]
  exact ⟨fun ⟨c, h, d, k, e⟩ => ⟨c, d, h, k, e.symm⟩, fun ⟨c, d, h, k, e⟩ => ⟨c, h, d, k, e.symm⟩⟩
theorem low_lin {p c : Nat} (hp : MR.Pr p) (h : c < p) : Low p [c, 1] := fun k hk => by
  have h2 := hp.1
  have : k = 0 ∨ k = 1 := by simp at hk; omega
  rcases this with rfl | rfl
  · exact h
  · show 1 < p; omega
theorem low_quad {p c d : Nat} (hp : MR.Pr p) (h : c < p) (h' : d < p) : Low p [c, d, 1] := fun k hk => by
  have h2 := hp.1
  have : k = 0 ∨ k = 1 ∨ k = 2 := by simp at hk; omega
  rcases this with rfl | rfl | rfl
  · exact h
  · exact h'
  · show 1 < p; omega
theorem lin_nm {p : Nat} (hp : MR.Pr p) {q : List Nat} (h : q ∈ lin p) : Nm p q ∧ q ≠ [] ∧ q.length ≤ 2 := by
  obtain ⟨c, hc, rfl⟩ := mem_lin.1 h
  exact ⟨nm_top (k := 1) rfl (low_lin hp hc) rfl, by simp, by simp⟩
theorem quad_nm {p : Nat} (hp : MR.Pr p) {q : List Nat} (h : q ∈ quad p) : Nm p q ∧ q ≠ [] ∧ q.length ≤ 3 := by
  obtain ⟨c, d, hc, hd, rfl⟩ := mem_quad.1 h
  exact ⟨nm_top (k := 2) rfl (low_quad hp hc hd) rfl, by simp, by simp⟩
theorem found_one {p : Nat} (hf : Few p) (hp : MR.Pr p) {a r : List Nat} (ha : Nm p a) (a0 : a ≠ []) (hr : Rs p a 1 r) : 1 < (gcP p a (amul p r [0, 1] (p - 1))).length ↔ HasDv p a 1 := by
  have h0 := pr_pos hp
  refine found_iff hp (L := lin p) (Nat.le_refl _) ((eqm_xl h0 _).trans (eqm_map (chk1 hf))) (fun q hq => lin_nm hp hq) (fun b hl hlow ht => .inl ?_) ha a0 hr (fun j h1 h2 => by omega)
  match b, hl with
  | [c, d], _ =>
    have e : d = 1 := ht
    subst e
    exact mem_lin.2 ⟨c, hlow 0 (by simp), rfl⟩
theorem found_two {p : Nat} (hf : Few p) (hp : MR.Pr p) {a r : List Nat} (ha : Nm p a) (a0 : a ≠ []) (hr : Rs p a 2 r) (hno : ¬ HasDv p a 1) : 1 < (gcP p a (amul p r [0, 1] (p - 1))).length ↔ HasDv p a 2 := by
  have h0 := pr_pos hp
  refine found_iff hp (L := lin p ++ irq p) (by omega) ((eqm_xl h0 _).trans (eqm_map (chk2 hf))) (fun q hq => ?_) (fun b hl hlow ht => ?_) ha a0 hr (fun j h1 h2 => by
    have : j = 1 := by omega
    subst this; exact hno)
  · rcases List.mem_append.1 hq with h | h
    · have := lin_nm hp h; exact ⟨this.1, this.2.1, by omega⟩
    · exact quad_nm hp (List.mem_filter.1 h).1
  · match b, hl with
    | [c, d, f], _ =>
      have e : f = 1 := ht
      subst e
      have hq : [c, d, 1] ∈ quad p := mem_quad.2 ⟨c, d, hlow 0 (by simp), hlow 1 (by simp), rfl⟩
      by_cases hi : [c, d, 1] ∈ irq p
      · exact .inl (List.mem_append.2 (.inr hi))
      · refine .inr ⟨1, Nat.le_refl _, by omega, ?_⟩
        unfold irq at hi
        rw [List.mem_filter] at hi
        have hi' : ((lin p).all fun l => (lin p).all fun l' => (cvl l l').map (· % p) != [c, d, 1]) = false := by
          cases hh : ((lin p).all fun l => (lin p).all fun l' => (cvl l l').map (· % p) != [c, d, 1]) with
          | false => rfl
          | true => exact absurd ⟨hq, hh⟩ hi
        rw [List.all_eq_false] at hi'
        obtain ⟨l, hl1, hl2⟩ := hi'
        rw [Bool.not_eq_true, List.all_eq_false] at hl2
        obtain ⟨l', hl1', hl2'⟩ := hl2
        have e : (cvl l l').map (· % p) = [c, d, 1] := by simpa using hl2'
        obtain ⟨u, hu, rfl⟩ := mem_lin.1 hl1
        refine ⟨[u, 1], rfl, low_lin hp hu, rfl, pe l', ply_pe _, ?_⟩
        have e2 : Eqm p (pe [c, d, 1]) (pe (cvl [u, 1] l')) := eqm_iff.2 fun i => by rw [← e, nth_map_mod, Nat.mod_mod]
        exact e2.to fun x => by rw [pe_cvl]; grind
end Go.Proofs.YthigedcpiglmnaaDoor
