/-
  PolA PrA
-/
import Derived.Test.YtddbhhedjipjkaaGreatDoorPr01
import Derived.Test.YtddbhhedjipjkaaGreatDoorPr08
import Derived.Test.YtddbhhedjipjkaaGreatDoorPr05
import Derived.Deep.LoopGhost

section
namespace Go.Proofs.YtddbhhedjipjkaaGreatDoor
set_option linter.unusedVariables false
set_option linter.unusedSimpArgs false
def pv : List Int → Int → Int
  | [], _ => 0
  | c :: t, x => c + x * pv t x
def ith (l : List Int) (i : Nat) : Int := l.getD i 0
theorem ith_nil (i : Nat) : ith [] i = 0 := by simp [ith]
theorem ith_zero (c : Int) (t : List Int) : ith (c :: t) 0 = c := by simp [ith]
theorem ith_succ (c : Int) (t : List Int) (i : Nat) : ith (c :: t) (i + 1) = ith t i := by simp [ith]
def addI : List Int → List Int → List Int
  | [], b => b
  | x :: a, [] => x :: a
  | x :: a, y :: b => (x + y) :: addI a b
theorem pv_addI (a b : List Int) (x : Int) : pv (addI a b) x = pv a x + pv b x := by
  induction a generalizing b with
  | nil => simp [addI, pv]
  | cons c t ih =>
    cases b with
    | nil => simp [addI, pv]
    | cons d u => simp only [addI, pv, ih u]; grind
theorem ith_addI (a b : List Int) (i : Nat) : ith (addI a b) i = ith a i + ith b i := by
  induction a generalizing b i with
  | nil => simp [addI, ith_nil]
  | cons c t ih =>
    cases b with
    | nil => simp [addI, ith_nil]
    | cons d u => cases i with
      | zero => simp [addI, ith_zero]
      | succ i => simp only [addI, ith_succ, ih u]
def mulC (c : Int) (l : List Int) : List Int := l.map (c * ·)
theorem pv_mulC (c : Int) (l : List Int) (x : Int) : pv (mulC c l) x = c * pv l x := by
  induction l with
  | nil => simp [mulC, pv]
  | cons d t ih =>
    have e : mulC c (d :: t) = (c * d) :: mulC c t := rfl
    rw [e]; simp only [pv, ih]; grind
theorem ith_mulC (c : Int) (l : List Int) (i : Nat) : ith (mulC c l) i = c * ith l i := by
  induction l generalizing i with
  | nil => simp [mulC, ith_nil]
  | cons d t ih =>
    have e : mulC c (d :: t) = (c * d) :: mulC c t := rfl
    rw [e]
    cases i with
    | zero => simp [ith_zero]
    | succ i => simp only [ith_succ, ih]
def mulI : List Int → List Int → List Int
  | [], _ => []
  | x :: a, b => addI (mulC x b) (0 :: mulI a b)
theorem pv_mulI (a b : List Int) (x : Int) : pv (mulI a b) x = pv a x * pv b x := by
  induction a with
  | nil => simp [mulI, pv]
  | cons c t ih => simp only [mulI, pv_addI, pv_mulC, pv, ih]; grind
def Ply (f : Int → Int) : Prop := ∃ l, ∀ x, f x = pv l x
theorem ply_pv (l : List Int) : Ply (pv l) := ⟨l, fun _ => rfl⟩
theorem ply_c (c : Int) : Ply fun _ => c := ⟨[c], fun x => by simp [pv]⟩
theorem ply_x : Ply fun x => x := ⟨[0, 1], fun x => by simp [pv]⟩
theorem Ply.add {f g : Int → Int} (hf : Ply f) (hg : Ply g) : Ply fun x => f x + g x := by
  obtain ⟨a, ha⟩ := hf; obtain ⟨b, hb⟩ := hg
  exact ⟨addI a b, fun x => by simp only [pv_addI, ha, hb]⟩
theorem Ply.mul {f g : Int → Int} (hf : Ply f) (hg : Ply g) : Ply fun x => f x * g x := by
  obtain ⟨a, ha⟩ := hf; obtain ⟨b, hb⟩ := hg
  exact ⟨mulI a b, fun x => by simp only [pv_mulI, ha, hb]⟩
theorem Ply.scale {f : Int → Int} (c : Int) (hf : Ply f) : Ply fun x => c * f x := (ply_c c).mul hf
theorem Ply.neg {f : Int → Int} (hf : Ply f) : Ply fun x => - f x := by
  obtain ⟨a, ha⟩ := hf
  exact ⟨mulC (-1) a, fun x => by simp only [pv_mulC, ha]; grind⟩
theorem Ply.sub {f g : Int → Int} (hf : Ply f) (hg : Ply g) : Ply fun x => f x - g x := by
  obtain ⟨a, ha⟩ := hf; obtain ⟨b, hb⟩ := hg
  exact ⟨addI a (mulC (-1) b), fun x => by simp only [pv_addI, pv_mulC, ha, hb]; grind⟩
theorem Ply.pow {f : Int → Int} (hf : Ply f) : ∀ n : Nat, Ply fun x => f x ^ n
  | 0 => by simpa using ply_c 1
  | n + 1 => by simpa [Int.pow_succ] using (hf.pow n).mul hf
theorem Ply.congr {f g : Int → Int} (hf : Ply f) (h : ∀ x, g x = f x) : Ply g := by
  obtain ⟨a, ha⟩ := hf
  exact ⟨a, fun x => by rw [h, ha]⟩
theorem pv_zero : ∀ l : List Int, (∀ x, x ≠ 0 → pv l x = 0) → ∀ i, ith l i = 0 := by
  intro l
  induction l with
  | nil => intro _ i; exact ith_nil i
  | cons c t ih =>
    intro h
    have hc : c = 0 := by
      have h1 := h ((c.natAbs : Int) + 1) (by omega)
      simp only [pv] at h1
      have hd : ((c.natAbs : Int) + 1) ∣ c := ⟨- pv t ((c.natAbs : Int) + 1), by grind⟩
      have := Int.natAbs_dvd_natAbs.2 hd
      by_cases h0 : c = 0
      · exact h0
      · have h2 := Nat.le_of_dvd (by omega) this
        omega
    subst hc
    intro i
    cases i with
    | zero => exact ith_zero _ _
    | succ i =>
      rw [ith_succ]
      refine ih (fun x hx => ?_) i
      have h1 := h x hx
      simp only [pv, Int.zero_add] at h1
      rcases Int.mul_eq_zero.1 h1 with h2 | h2
      · exact absurd h2 hx
      · exact h2
def Eqm (p : Nat) (f g : Int → Int) : Prop := ∃ k, Ply k ∧ ∀ x, f x = g x + (p : Int) * k x
theorem Eqm.of {p : Nat} {f g : Int → Int} (h : ∀ x, f x = g x) : Eqm p f g := ⟨fun _ => 0, ply_c 0, fun x => by rw [h]; simp⟩
theorem Eqm.refl (p : Nat) (f : Int → Int) : Eqm p f f := .of fun _ => rfl
theorem Eqm.symm {p : Nat} {f g : Int → Int} (h : Eqm p f g) : Eqm p g f := by
  obtain ⟨k, hk, e⟩ := h
  exact ⟨fun x => - k x, hk.neg, fun x => by simp only [e]; grind⟩
theorem Eqm.trans {p : Nat} {f g h : Int → Int} (a : Eqm p f g) (b : Eqm p g h) : Eqm p f h := by
  obtain ⟨k, hk, e⟩ := a; obtain ⟨l, hl, d⟩ := b
  exact ⟨fun x => k x + l x, hk.add hl, fun x => by simp only [e, d]; grind⟩
theorem Eqm.add {p : Nat} {f g f' g' : Int → Int} (a : Eqm p f f') (b : Eqm p g g') : Eqm p (fun x => f x + g x) (fun x => f' x + g' x) := by
  obtain ⟨k, hk, e⟩ := a; obtain ⟨l, hl, d⟩ := b
  exact ⟨fun x => k x + l x, hk.add hl, fun x => by simp only [e, d]; grind⟩
theorem Eqm.sub {p : Nat} {f g f' g' : Int → Int} (a : Eqm p f f') (b : Eqm p g g') : Eqm p (fun x => f x - g x) (fun x => f' x - g' x) := by
  obtain ⟨k, hk, e⟩ := a; obtain ⟨l, hl, d⟩ := b
  exact ⟨fun x => k x - l x, hk.sub hl, fun x => by simp only [e, d]; grind⟩
theorem Eqm.neg {p : Nat} {f f' : Int → Int} (a : Eqm p f f') : Eqm p (fun x => - f x) (fun x => - f' x) := by
  obtain ⟨k, hk, e⟩ := a
  exact ⟨fun x => - k x, hk.neg, fun x => by simp only [e]; grind⟩
theorem Eqm.mul {p : Nat} {f g f' g' : Int → Int} (a : Eqm p f f') (b : Eqm p g g') (hf : Ply f') (hg : Ply g) : Eqm p (fun x => f x * g x) (fun x => f' x * g' x) := by
  obtain ⟨k, hk, e⟩ := a; obtain ⟨l, hl, d⟩ := b
  exact ⟨fun x => k x * g x + f' x * l x, (hk.mul hg).add (hf.mul hl), fun x => by
    have e1 := e x; have d1 := d x
    generalize f x = F at *; generalize g x = G at *; generalize f' x = F' at *; generalize g' x = G' at *
    subst e1; subst d1; grind⟩
theorem Eqm.left {p : Nat} {f f' : Int → Int} (a : Eqm p f f') {g : Int → Int} (hg : Ply g) : Eqm p (fun x => f x * g x) (fun x => f' x * g x) := by
  obtain ⟨k, hk, e⟩ := a
  exact ⟨fun x => k x * g x, hk.mul hg, fun x => by simp only [e]; grind⟩
theorem Eqm.right {p : Nat} {f f' : Int → Int} (a : Eqm p f f') {g : Int → Int} (hg : Ply g) : Eqm p (fun x => g x * f x) (fun x => g x * f' x) := by
  obtain ⟨k, hk, e⟩ := a
  exact ⟨fun x => g x * k x, hg.mul hk, fun x => by simp only [e]; grind⟩
theorem Eqm.to {p : Nat} {f g h : Int → Int} (a : Eqm p f g) (b : ∀ x, g x = h x) : Eqm p f h := a.trans (.of b)
theorem Eqm.by {p : Nat} {f g h : Int → Int} (a : Eqm p g h) (b : ∀ x, f x = g x) : Eqm p f h := (Eqm.of b).trans a
theorem eqm_ith {p : Nat} {a b : List Int} (h : Eqm p (pv a) (pv b)) (i : Nat) : (p : Int) ∣ ith a i - ith b i := by
  obtain ⟨k, ⟨l, hl⟩, e⟩ := h
  have hz := pv_zero (addI a (mulC (-1) (addI b (mulC p l)))) (fun x _ => by
    have := e x; have := hl x
    rw [pv_addI, pv_mulC, pv_addI, pv_mulC]; grind) i
  rw [ith_addI, ith_mulC, ith_addI, ith_mulC] at hz
  exact ⟨ith l i, by grind⟩
theorem Eqm.of_ith {p : Nat} : ∀ {a b : List Int}, (∀ i, (p : Int) ∣ ith a i - ith b i) → Eqm p (pv a) (pv b) := by
  have key : ∀ a b : List Int, (∀ i, (p : Int) ∣ ith a i - ith b i) → ∃ l : List Int, ∀ x, pv a x = pv b x + (p : Int) * pv l x := by
    intro a
    induction a with
    | nil =>
      intro b
      induction b with
      | nil => intro _; exact ⟨[], fun x => by simp [pv]⟩
      | cons d u ih =>
        intro h
        obtain ⟨l, hl⟩ := ih fun i => by have := h (i + 1); rwa [ith_nil, ith_succ] at this; 
        obtain ⟨c, hc⟩ := h 0
        rw [ith_nil, ith_zero] at hc
        refine ⟨c :: l, fun x => ?_⟩
        have := hl x
        simp only [pv] at *; grind
    | cons d u ih =>
      intro b h
      obtain ⟨c, hc⟩ := h 0
      rw [ith_zero] at hc
      cases b with
      | nil =>
        obtain ⟨l, hl⟩ := ih [] fun i => by have := h (i + 1); rwa [ith_succ] at this
        rw [ith_nil] at hc
        refine ⟨c :: l, fun x => ?_⟩
        have := hl x
        simp only [pv] at *; grind
      | cons e v =>
        obtain ⟨l, hl⟩ := ih v fun i => by have := h (i + 1); rwa [ith_succ, ith_succ] at this
        rw [ith_zero] at hc
        refine ⟨c :: l, fun x => ?_⟩
        have := hl x
        simp only [pv] at *; grind
  intro a b h
  obtain ⟨l, hl⟩ := key a b h
  exact ⟨pv l, ply_pv l, hl⟩
def toI (xs : List Nat) : List Int := List.map (fun n : Nat => (n : Int)) xs
def pe (xs : List Nat) (x : Int) : Int := pv (toI xs) x
theorem ply_pe (xs : List Nat) : Ply (pe xs) := ⟨_, fun _ => rfl⟩
theorem pe_nil (x : Int) : pe [] x = 0 := rfl
theorem pe_cons (c : Nat) (t : List Nat) (x : Int) : pe (c :: t) x = c + x * pe t x := rfl
theorem ith_toI (xs : List Nat) (i : Nat) : ith (toI xs) i = (nth xs i : Int) := by
  induction xs generalizing i with
  | nil => simp [toI, ith_nil, nth_nil]
  | cons c t ih =>
    have e : toI (c :: t) = (c : Int) :: toI t := rfl
    rw [e]
    cases i with
    | zero => rw [ith_zero, nth_cons_zero]
    | succ i => rw [ith_succ, nth_cons_succ, ih]
theorem dvd_sub_nat {p a b : Nat} : (p : Int) ∣ (a : Int) - (b : Int) ↔ a % p = b % p := by
  have h : (a : Int) % (p : Int) = (b : Int) % (p : Int) ↔ a % p = b % p := by
    rw [← Int.natCast_emod, ← Int.natCast_emod]; omega
  rw [← h, Int.emod_eq_emod_iff_emod_sub_eq_zero]
  exact ⟨fun h => Int.emod_eq_zero_of_dvd h, fun h => Int.dvd_of_emod_eq_zero h⟩
theorem eqm_iff {p : Nat} {xs ys : List Nat} : Eqm p (pe xs) (pe ys) ↔ ∀ i, nth xs i % p = nth ys i % p := by
  constructor
  · intro h i
    have := eqm_ith h i
    rwa [ith_toI, ith_toI, dvd_sub_nat] at this
  · intro h
    refine Eqm.of_ith fun i => ?_
    rw [ith_toI, ith_toI, dvd_sub_nat]; exact h i
def nrm (p : Nat) (xs : List Nat) : List Nat := (xs.map (· % p)).take (sl (xs.map (· % p)))
def Nm (p : Nat) (xs : List Nat) : Prop := Low p xs ∧ sl xs = xs.length
theorem nth_map_mod (p : Nat) (xs : List Nat) (i : Nat) : nth (xs.map (· % p)) i = nth xs i % p := by
  induction xs generalizing i with
  | nil => simp [nth_nil]
  | cons c t ih =>
    rw [List.map_cons]
    cases i with
    | zero => rw [nth_cons_zero, nth_cons_zero]
    | succ i => rw [nth_cons_succ, nth_cons_succ, ih]
theorem nth_nrm (p : Nat) (xs : List Nat) (i : Nat) : nth (nrm p xs) i = nth xs i % p := by
  unfold nrm
  by_cases h : i < sl (xs.map (· % p))
  · rw [nth_take h, nth_map_mod]
  · rw [nth_take_ge (by omega), ← nth_map_mod, sl_zero (by omega)]
theorem sl_ext {xs ys : List Nat} (h : ∀ i, nth xs i = nth ys i) : sl xs = sl ys := by
  refine sl_eq (fun j hj => by rw [h]; exact sl_zero hj) ?_
  by_cases h0 : sl ys = 0
  · exact .inl h0
  · exact .inr (by rw [h]; exact sl_top (by omega))
theorem nrm_length (p : Nat) (xs : List Nat) : (nrm p xs).length = sl (xs.map (· % p)) := by
  unfold nrm
  have := sl_le (xs.map (· % p))
  simp at *; omega
theorem nrm_le (p : Nat) (xs : List Nat) : (nrm p xs).length ≤ xs.length := by
  rw [nrm_length]; have := sl_le (xs.map (· % p)); simpa using this
theorem nrm_ext {p : Nat} {xs ys : List Nat} (h : ∀ i, nth xs i % p = nth ys i % p) : nrm p xs = nrm p ys := by
  have hs : sl (xs.map (· % p)) = sl (ys.map (· % p)) := sl_ext fun i => by rw [nth_map_mod, nth_map_mod, h]
  refine ext_nth (by rw [nrm_length, nrm_length, hs]) fun k hk => ?_
  rw [nth_nrm, nth_nrm, h]
theorem nm_nrm {p : Nat} (hp : 0 < p) (xs : List Nat) : Nm p (nrm p xs) := by
  refine ⟨Low.of_any fun k => by rw [nth_nrm]; exact Nat.mod_lt _ hp, ?_⟩
  rw [nrm_length]
  exact sl_ext fun i => by rw [nth_nrm, nth_map_mod]
theorem Nm.nil (p : Nat) : Nm p [] := ⟨Low.nil _, rfl⟩
theorem Nm.lt {p : Nat} {xs : List Nat} (h : Nm p xs) (hp : 0 < p) (i : Nat) : nth xs i < p := h.1.any hp i
theorem Nm.mod {p : Nat} {xs : List Nat} (h : Nm p xs) (hp : 0 < p) (i : Nat) : nth xs i % p = nth xs i := Nat.mod_eq_of_lt (h.lt hp i)
theorem nm_eq {p : Nat} (hp : 0 < p) {xs ys : List Nat} (hx : Nm p xs) (hy : Nm p ys) (h : ∀ i, nth xs i % p = nth ys i % p) : xs = ys := by
  have h' : ∀ i, nth xs i = nth ys i := fun i => by have := h i; rwa [hx.mod hp, hy.mod hp] at this
  exact ext_nth (by rw [← hx.2, ← hy.2]; exact sl_ext h') fun k _ => h' k
theorem nrm_of {p : Nat} (hp : 0 < p) {xs : List Nat} (h : Nm p xs) : nrm p xs = xs :=
  nm_eq hp (nm_nrm hp xs) h fun i => by rw [nth_nrm, Nat.mod_mod]
theorem nrm_nrm {p : Nat} (hp : 0 < p) (xs : List Nat) : nrm p (nrm p xs) = nrm p xs := nrm_of hp (nm_nrm hp xs)
theorem eqm_nrm (p : Nat) (xs : List Nat) : Eqm p (pe (nrm p xs)) (pe xs) := eqm_iff.2 fun i => by rw [nth_nrm, Nat.mod_mod]
theorem nrm_eq {p : Nat} {xs ys : List Nat} (h : Eqm p (pe xs) (pe ys)) : nrm p xs = nrm p ys := nrm_ext (eqm_iff.1 h)
theorem uniq {p : Nat} (hp : 0 < p) {xs ys : List Nat} (hx : Nm p xs) (hy : Nm p ys) (h : Eqm p (pe xs) (pe ys)) : xs = ys := nm_eq hp hx hy (eqm_iff.1 h)
theorem Nm.top {p : Nat} {xs : List Nat} (h : Nm p xs) (h0 : xs ≠ []) : nth xs (xs.length - 1) ≠ 0 := by
  have hl : 0 < xs.length := List.length_pos_iff.2 h0
  have := h.2
  rw [← this]; exact sl_top (by omega)
theorem nm_of {p : Nat} {xs : List Nat} (h : Low p xs) (h0 : xs = [] ∨ nth xs (xs.length - 1) ≠ 0) : Nm p xs :=
  ⟨h, sl_eq (fun j hj => nth_ge hj) (h0.imp (fun h => by rw [h]; rfl) id)⟩
theorem nrm_short {p : Nat} {xs : List Nat} {k : Nat} (h : ∀ i, k ≤ i → nth xs i % p = 0) : (nrm p xs).length ≤ k := by
  rw [nrm_length]
  by_cases hk : sl (xs.map (· % p)) ≤ k
  · exact hk
  · have := sl_top (xs := xs.map (· % p)) (by omega)
    rw [nth_map_mod] at this
    exact absurd (h _ (by omega)) this
theorem nrm_full {p : Nat} {xs : List Nat} {k : Nat} (h : ∀ i, k ≤ i → nth xs i % p = 0) (h0 : k = 0 ∨ nth xs (k - 1) % p ≠ 0) : (nrm p xs).length = k := by
  rw [nrm_length]
  exact sl_eq (fun j hj => by rw [nth_map_mod]; exact h j hj) (h0.imp id fun h => by rwa [nth_map_mod])
def addl : List Nat → List Nat → List Nat
  | [], b => b
  | x :: a, [] => x :: a
  | x :: a, y :: b => (x + y) :: addl a b
theorem nth_addl (a b : List Nat) (i : Nat) : nth (addl a b) i = nth a i + nth b i := by
  induction a generalizing b i with
  | nil => simp [addl, nth_nil]
  | cons c t ih =>
    cases b with
    | nil => simp [addl, nth_nil]
    | cons d u => cases i with
      | zero => simp [addl, nth_cons_zero]
      | succ i => simp only [addl, nth_cons_succ, ih u]
theorem addl_length (a b : List Nat) : (addl a b).length = max a.length b.length := by
  induction a generalizing b with
  | nil => simp [addl]
  | cons c t ih =>
    cases b with
    | nil => simp [addl]
    | cons d u => simp only [addl, List.length_cons, ih u]; omega
theorem pe_addl (a b : List Nat) (x : Int) : pe (addl a b) x = pe a x + pe b x := by
  induction a generalizing b with
  | nil => simp [addl, pe_nil]
  | cons c t ih =>
    cases b with
    | nil => simp [addl, pe_nil]
    | cons d u => simp only [addl, pe_cons, ih u]; grind
def scl (c : Nat) (xs : List Nat) : List Nat := xs.map (c * ·)
theorem scl_cons (c d : Nat) (t : List Nat) : scl c (d :: t) = (c * d) :: scl c t := rfl
theorem scl_length (c : Nat) (xs : List Nat) : (scl c xs).length = xs.length := by simp [scl]
theorem nth_scl (c : Nat) (xs : List Nat) (i : Nat) : nth (scl c xs) i = c * nth xs i := by
  induction xs generalizing i with
  | nil => simp [scl, nth_nil]
  | cons d t ih =>
    rw [scl_cons]
    cases i with
    | zero => rw [nth_cons_zero, nth_cons_zero]
    | succ i => rw [nth_cons_succ, nth_cons_succ, ih]
theorem pe_scl (c : Nat) (xs : List Nat) (x : Int) : pe (scl c xs) x = c * pe xs x := by
  induction xs with
  | nil => simp [scl, pe_nil]
  | cons d t ih => rw [scl_cons]; simp only [pe_cons, ih]; grind
def shl (i : Nat) (xs : List Nat) : List Nat := List.replicate i 0 ++ xs
theorem nth_shl (i : Nat) (xs : List Nat) (j : Nat) : nth (shl i xs) j = if j < i then 0 else nth xs (j - i) := by
  unfold shl
  split
  · rw [nth_append_left (by simpa), nth_replicate]
  · rw [nth_append_right (by simp; omega)]; simp
theorem pe_shl (i : Nat) (xs : List Nat) (x : Int) : pe (shl i xs) x = x ^ i * pe xs x := by
  induction i with
  | zero => simp [shl]
  | succ i ih =>
    have e : shl (i + 1) xs = 0 :: shl i xs := by simp [shl, List.replicate_succ]
    rw [e, pe_cons, ih, Int.pow_succ]; grind
def cvl : List Nat → List Nat → List Nat
  | [], _ => []
  | c :: t, b => addl (scl c b) (0 :: cvl t b)
theorem pe_cvl (a b : List Nat) (x : Int) : pe (cvl a b) x = pe a x * pe b x := by
  induction a with
  | nil => simp [cvl, pe_nil]
  | cons c t ih => simp only [cvl, pe_addl, pe_scl, pe_cons, ih]; grind
theorem cvl_length {a b : List Nat} (ha : a ≠ []) (hb : b ≠ []) : (cvl a b).length = a.length + b.length - 1 := by
  have hb' : 0 < b.length := List.length_pos_iff.2 hb
  induction a with
  | nil => exact absurd rfl ha
  | cons c t ih =>
    simp only [cvl, addl_length, scl_length, List.length_cons]
    cases t with
    | nil => simp [cvl]; omega
    | cons d u => rw [ih (by simp)]; simp only [List.length_cons]; omega
theorem cvl_top {a b : List Nat} (ha : a ≠ []) (hb : b ≠ []) : nth (cvl a b) (a.length + b.length - 2) = nth a (a.length - 1) * nth b (b.length - 1) := by
  have hb' : 0 < b.length := List.length_pos_iff.2 hb
  induction a with
  | nil => exact absurd rfl ha
  | cons c t ih =>
    simp only [cvl, nth_addl, nth_scl, List.length_cons]
    cases t with
    | nil =>
      have e : 0 + 1 + b.length - 2 = b.length - 1 := by omega
      simp only [List.length_nil, e, cvl]
      have e2 : nth [0] (b.length - 1) = 0 := by
        cases b.length - 1 with
        | zero => rfl
        | succ k => rw [nth_cons_succ, nth_nil]
      rw [e2]; simp [nth_cons_zero]
    | cons d u =>
      have hi := ih (by simp)
      simp only [List.length_cons] at *
      have e : u.length + 1 + 1 + b.length - 2 = (u.length + 1 + b.length - 2) + 1 := by omega
      rw [e, nth_cons_succ, hi]
      have e2 : u.length + 1 + 1 - 1 = (u.length + 1 - 1) + 1 := by omega
      rw [e2, nth_cons_succ, nth_ge (xs := b) (by omega)]
      omega
end Go.Proofs.YtddbhhedjipjkaaGreatDoor
end

section
namespace Go.Proofs.YtddbhhedjipjkaaGreatDoor
open Go.RowKit
set_option linter.unusedVariables false
set_option linter.unusedSimpArgs false
theorem and_one {x : Nat} (hx : x < 18446744073709551616) : bits .and .u64 (x : Int) 1 = ((x % 2 : Nat) : Int) := by
  have := bit_value (u := 0) hx
  simpa using this
def PwRest (A E m a e r : Nat) : Prop := r * a ^ e % m = A ^ E % m
theorem PwRest.even {A E m a e r : Nat} (h : PwRest A E m a e r) (he : e % 2 = 0) : PwRest A E m (a * a % m) (e / 2) r := by
  unfold PwRest at h ⊢
  rw [← h]
  have e1 : a ^ e = (a * a) ^ (e / 2) := by
    rw [← Nat.pow_two, ← Nat.pow_mul]
    congr 1
    omega
  rw [e1, Nat.mul_mod, ← Nat.pow_mod, ← Nat.mul_mod]
theorem PwRest.odd {A E m a e r : Nat} (h : PwRest A E m a e r) (he : e % 2 = 1) : PwRest A E m (a * a % m) (e / 2) (r * a % m) := by
  unfold PwRest at h ⊢
  rw [← h]
  have e1 : a ^ e = a * (a * a) ^ (e / 2) := by
    rw [← Nat.pow_two, ← Nat.pow_mul]
    have : e = 2 * (e / 2) + 1 := by omega
    conv => lhs; rw [this, Nat.pow_succ, Nat.mul_comm]
  rw [e1, Nat.mul_mod, ← Nat.pow_mod, Nat.mod_mod, ← Nat.mul_mod, Nat.mul_assoc]
theorem mul_low {a b : Nat} (ha : a < 4294967296) (hb : b < 4294967296) : a * b ≤ 18446744073709551615 := by
  have := Nat.mul_le_mul (show a ≤ 4294967295 by omega) (show b ≤ 4294967295 by omega)
  omega
set_option maxHeartbeats 2000000 in
theorem wpower_calls (a e m : Nat) (w : World) (ha : a < 4294967296) (he : e < 18446744073709551616) (hm : 2 ≤ m) (hm2 : m < 4294967296) {r : Nat} (hr : a ^ e % m = r) :
    Calls Tryz.prog 130 #[.int .u64 a, .int .u64 e, .int .u64 m] w fun en w' => en = .returned (.int .u64 (r : Int)) ∧ w = w' := by
  have H0 : Hid (PwRest a e m a e 1) := Lib.hid (by unfold PwRest; rw [Nat.one_mul])
  have HR := Lib.hid hr
  clear hr
  go_enter Tryz.func130, Tryz.ntmps130
  go_wp2
  go_loop [0, 1, 7] (fun s0 s1 s7 => ∃ b k x : Nat, s0 = .int .u64 (b : Int) ∧ s1 = .int .u64 (k : Int) ∧ s7 = .int .u64 (x : Int) ∧ b < 4294967296 ∧ k < 18446744073709551616 ∧ x < m ∧ Hid (PwRest a e m b k x)) (fun _ s1 _ => (intOf s1).toNat)
  case atStart => exact ⟨a, e, 1, rfl, rfl, rfl, ha, he, by omega, H0⟩
  case round =>
    obtain ⟨b, k, x, rfl, rfl, rfl, hb, hk, hx, HP⟩ := hrel
    rcases Nat.eq_zero_or_pos k with rfl | h0
    · have e1 : x = r := by
        have := HP.out
        unfold PwRest at this
        rw [Nat.pow_zero, Nat.mul_one, HR.out, Nat.mod_eq_of_lt hx] at this
        exact this
      clear H0 HP HR
      subst e1
      go_wp2
      go_ret
      exact ⟨rfl, rfl⟩
    · have h1 := and_one hk
      obtain ⟨p, hp⟩ : ∃ p, b * b = p := ⟨_, rfl⟩
      have hpl : p ≤ 18446744073709551615 := by rw [← hp]; exact mul_low hb hb
      have hpc : (b : Int) * (b : Int) = (p : Int) := by rw [← hp]; push_cast; rfl
      have hpm : p % m < m := Nat.mod_lt _ (by omega)
      have HPP := Lib.hid hp
      clear hp
      rcases Nat.mod_two_eq_zero_or_one k with z | z
      · rw [z] at h1
        have HN := Lib.hid (HP.out.even z)
        rw [HPP.out] at HN
        have HZ := Lib.hid z
        clear z HP
        go_wp2
        all_goals
          go_round
          case rel => exact ⟨p % m, k / 2, x, by go_num, by go_num, rfl, by omega, by omega, hx, HN⟩
          case measure => simp [intOf]; omega
      · rw [z] at h1
        obtain ⟨y, hy⟩ : ∃ y, x * b = y := ⟨_, rfl⟩
        have hyl : y ≤ 18446744073709551615 := by rw [← hy]; exact mul_low (by omega) hb
        have hyc : (x : Int) * (b : Int) = (y : Int) := by rw [← hy]; push_cast; rfl
        have HN := Lib.hid (HP.out.odd z)
        rw [HPP.out, hy] at HN
        have hym : y % m < m := Nat.mod_lt _ (by omega)
        have HZ := Lib.hid z
        clear z HP hy
        go_wp2
        all_goals
          go_round
          case rel => exact ⟨p % m, k / 2, y % m, by go_num, by go_num, by go_num, by omega, by omega, hym, HN⟩
          case measure => simp [intOf]; omega
open MR in
def LpPost (p b : Nat) (w : World) (e : Ending) (w' : World) : Prop := ∃ v : Bool, e = .returned (.bool v) ∧ (v = true ↔ ∃ t d, p - 1 = 2 ^ t * d ∧ d % 2 = 1 ∧ MR.Sp p b t d) ∧ w = w'
theorem sp_only {t d t' d' : Nat} (h : 2 ^ t * d = 2 ^ t' * d') (hd : d % 2 = 1) (hd' : d' % 2 = 1) : t = t' ∧ d = d' := by
  have key : ∀ (t t' d d' : Nat), 2 ^ t * d = 2 ^ t' * d' → d % 2 = 1 → d' % 2 = 1 → t ≤ t' → t = t' := by
    intro t t' d d' h hd hd' hle
    obtain ⟨k, rfl⟩ : ∃ k, t' = t + k := ⟨t' - t, by omega⟩
    rcases Nat.eq_zero_or_pos k with z | z
    · omega
    · obtain ⟨j, rfl⟩ : ∃ j, k = j + 1 := ⟨k - 1, by omega⟩
      rw [Nat.pow_add, Nat.mul_assoc] at h
      have h1 := Nat.eq_of_mul_eq_mul_left (Nat.two_pow_pos t) h
      rw [MR.two_pow] at h1
      omega
  have e : t = t' := by
    rcases Nat.le_total t t' with z | z
    · exact key t t' d d' h hd hd' z
    · exact (key t' t d' d h.symm hd' hd z).symm
  subst e
  exact ⟨rfl, Nat.eq_of_mul_eq_mul_left (Nat.two_pow_pos t) h⟩
def LpRest (p b d t i x : Nat) : Prop := b ^ (2 ^ i * d) % p = x ∧ ∀ j, j < i → b ^ (2 ^ j * d) % p ≠ p - 1
theorem LpRest.next {p b d t i x : Nat} (h : LpRest p b d t i x) (hx : x ≠ p - 1) : LpRest p b d t (i + 1) (x * x % p) := by
  obtain ⟨h1, h2⟩ := h
  refine ⟨?_, fun j hj => ?_⟩
  · rw [MR.two_pow, Nat.pow_add, Nat.mul_mod, h1, ← h1]
  · by_cases e : j = i
    · rw [e, h1]; exact hx
    · exact h2 j (by omega)
theorem lp_no {n b d z y : Nat} (hz : n = 2 ^ z * d) (hd : d % 2 = 1) (hn : b ^ d % (n + 1) ≠ 1) (hl : LpRest (n + 1) b d z z y) (h : ∃ t d, n + 1 - 1 = 2 ^ t * d ∧ d % 2 = 1 ∧ MR.Sp (n + 1) b t d) : False := by
  obtain ⟨t, d', h1, h2, h3⟩ := h
  rw [Nat.add_sub_cancel, hz] at h1
  obtain ⟨rfl, rfl⟩ := sp_only h1 hd h2
  rcases h3 with h3 | ⟨i, hi, h3⟩
  · exact hn h3
  · exact hl.2 i hi h3
set_option maxHeartbeats 2000000 in
theorem lp_calls (p b : Nat) (w : World) (hp : 3 ≤ p) (hp2 : p < 2147483648) (hb : 1 ≤ b) (hb2 : b ≤ 7) (hT : TabAt 2 Lib.deBruijn64tab w) :
    Calls Tryz.prog 114 #[.int .u64 p, .int .u64 b] w (LpPost p b w) := by
  obtain ⟨n, rfl⟩ : ∃ n, p = n + 1 := ⟨p - 1, by omega⟩
  have hpc : ((n + 1 : Nat) : Int) - 1 = (n : Int) := by omega
  go_enter Tryz.func114, Tryz.ntmps114
  go_wp2_with fail
  refine (tz_calls n (by omega) (by omega) _ hT).mono ?_
  rintro e w1 ⟨⟨z, m, rfl, hz, hz64⟩, rfl⟩
  obtain ⟨d, hd⟩ : ∃ d, 2 * m + 1 = d := ⟨_, rfl⟩
  have hd2 : d % 2 = 1 := by omega
  rw [hd] at hz
  have hdn : d ≤ n := by rw [hz]; exact Nat.le_mul_of_pos_left _ (Nat.two_pow_pos z)
  have hsh : (n : Int) / 2 ^ z = (d : Int) := by
    have e1 : (2 : Int) ^ z = ((2 ^ z : Nat) : Int) := by push_cast; rfl
    rw [e1, ← Int.natCast_ediv, hz, Nat.mul_div_cancel_left _ (Nat.two_pow_pos z)]
  obtain ⟨x, hx⟩ : ∃ x, b ^ d % (n + 1) = x := ⟨_, rfl⟩
  have hxl : x < n + 1 := by rw [← hx]; exact Nat.mod_lt _ (by omega)
  have HX := Lib.hid hx
  have HZ := Lib.hid hz
  have HD := Lib.hid hd2
  clear hx hz hd2 hd
  go_wp2_with fail
  refine (wpower_calls b d (n + 1) _ (by omega) (by omega) (by omega) (by omega) HX.out).mono ?_
  rintro e w2 ⟨rfl, rfl⟩
  clear hsh
  by_cases h1 : x = 1
  · have P : Hid (LpPost (n + 1) b w (.returned (.bool true)) w) := Lib.hid ⟨true, rfl, ⟨fun _ => ⟨z, d, by rw [Nat.add_sub_cancel]; exact HZ.out, HD.out, .inl (by rw [HX.out, h1])⟩, fun _ => rfl⟩, rfl⟩
    subst h1
    go_wp2_with fail
    go_ret
    exact P.out
  · have h1' : ((x : Int) == 1) = false := by rw [beq_eq_false_iff_ne]; omega
    have HN : Hid (b ^ d % (n + 1) ≠ 1) := Lib.hid (by rw [HX.out]; exact h1)
    have hL : Hid (LpRest (n + 1) b d z 0 x) := Lib.hid ⟨by rw [Nat.pow_zero, Nat.one_mul]; exact HX.out, fun j hj => by omega⟩
    clear h1 HX
    go_wp2_with fail
    clear h1'
    go_loop [6, 20] (fun s6 i => ∃ k y : Nat, k ≤ z ∧ i = .int .i64 (k : Int) ∧ s6 = .int .u64 (y : Int) ∧ y < n + 1 ∧ Hid (LpRest (n + 1) b d z k y)) (fun _ i => z - (intOf i).toNat)
    case atStart => exact ⟨0, x, Nat.zero_le _, rfl, rfl, hxl, hL⟩
    case round =>
      clear hL
      obtain ⟨k, y, hk, rfl, rfl, hy, HL⟩ := hrel
      by_cases hkz : k = z
      · have P : Hid (LpPost (n + 1) b w (.returned (.bool false)) w) := Lib.hid ⟨false, rfl, ⟨fun h => (by cases h), fun h => (lp_no HZ.out HD.out HN.out (hkz ▸ HL.out) h).elim⟩, rfl⟩
        subst hkz
        clear HL hk
        go_wp2
        go_ret
        exact P.out
      · have hlt : k < z := by omega
        clear hkz
        by_cases hyn : y = n
        · have P : Hid (LpPost (n + 1) b w (.returned (.bool true)) w) := Lib.hid ⟨true, rfl, ⟨fun _ => ⟨z, d, by rw [Nat.add_sub_cancel]; exact HZ.out, HD.out, .inr ⟨k, hlt, by rw [HL.out.1, hyn, Nat.add_sub_cancel]⟩⟩, fun _ => rfl⟩, rfl⟩
          subst hyn
          clear HL
          go_wp2
          go_ret
          exact P.out
        · have h2 : ((y : Int) == (n : Int)) = false := by rw [beq_eq_false_iff_ne]; omega
          obtain ⟨q, hq⟩ : ∃ q, y * y = q := ⟨_, rfl⟩
          have hql : q ≤ 18446744073709551615 := by rw [← hq]; exact mul_low (by omega) (by omega)
          have hqc : (y : Int) * (y : Int) = (q : Int) := by rw [← hq]; push_cast; rfl
          have HM := Lib.hid (HL.out.next (by rw [Nat.add_sub_cancel]; exact hyn))
          rw [hq] at HM
          have hqm : q % (n + 1) < n + 1 := Nat.mod_lt _ (by omega)
          clear hq HL hyn
          go_wp2
          go_round
          case rel => exact ⟨k + 1, q % (n + 1), by omega, by go_num, by go_num, hqm, HM⟩
          case measure => simp [intOf]; omega
end Go.Proofs.YtddbhhedjipjkaaGreatDoor
end
