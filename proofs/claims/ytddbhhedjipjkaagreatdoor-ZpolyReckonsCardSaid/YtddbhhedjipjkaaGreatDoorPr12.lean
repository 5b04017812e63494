/-
  PolZ
-/
import Derived.Test.YtddbhhedjipjkaaGreatDoorPr11

namespace Go.Proofs.YtddbhhedjipjkaaGreatDoor
set_option linter.unusedVariables false
set_option linter.unusedSimpArgs false
theorem pv_nil (x : Int) : pv [] x = 0 := rfl
theorem pv_cons (c : Int) (t : List Int) (x : Int) : pv (c :: t) x = c + x * pv t x := rfl
theorem ith_ge {l : List Int} {i : Nat} (h : l.length ≤ i) : ith l i = 0 := by
  unfold ith; simp [List.getD, List.getElem?_eq_none h]
theorem pv_inj {a b : List Int} (h : ∀ x, pv a x = pv b x) (i : Nat) : ith a i = ith b i := by
  have := pv_zero (addI a (mulC (-1) b)) (fun x _ => by rw [pv_addI, pv_mulC, h]; grind) i
  rw [ith_addI, ith_mulC] at this; omega
theorem pv_ext {a b : List Int} (h : ∀ i, ith a i = ith b i) (x : Int) : pv a x = pv b x := by
  induction a generalizing b with
  | nil =>
    have : ∀ l : List Int, (∀ i, ith [] i = ith l i) → pv l x = 0 := by
      intro l
      induction l with
      | nil => intro _; rfl
      | cons c t ih =>
        intro h
        have h0 := h 0
        rw [ith_nil, ith_zero] at h0
        rw [pv_cons, ← h0, ih fun i => by have := h (i + 1); rw [ith_succ, ith_nil] at this; rw [ith_nil]; exact this]
        simp
    rw [this b h]; rfl
  | cons c t ih =>
    cases b with
    | nil =>
      have h0 := h 0
      rw [ith_nil, ith_zero] at h0
      rw [pv_cons, h0, ih (b := []) fun i => by have := h (i + 1); rw [ith_succ, ith_nil] at this; rw [ith_nil]; exact this]
      simp [pv_nil]
    | cons d u =>
      have h0 := h 0
      rw [ith_zero, ith_zero] at h0
      rw [pv_cons, pv_cons, h0, ih (b := u) fun i => by have := h (i + 1); rwa [ith_succ, ith_succ] at this]
theorem ext_ith {a b : List Int} (hl : a.length = b.length) (h : ∀ i, i < a.length → ith a i = ith b i) : a = b := by
  apply List.ext_getElem hl
  intro k h1 h2
  have := h k h1
  simpa [ith, List.getD, h1, h2] using this
def slZ (l : List Int) : Nat := sl (l.map Int.natAbs)
theorem nth_abs (l : List Int) (i : Nat) : nth (l.map Int.natAbs) i = (ith l i).natAbs := by
  induction l generalizing i with
  | nil => simp [ith_nil, nth_nil]
  | cons c t ih =>
    rw [List.map_cons]
    cases i with
    | zero => rw [nth_cons_zero, ith_zero]
    | succ i => rw [nth_cons_succ, ith_succ, ih]
theorem slZ_le (l : List Int) : slZ l ≤ l.length := by have := sl_le (l.map Int.natAbs); simpa [slZ] using this
theorem slZ_zero {l : List Int} {i : Nat} (h : slZ l ≤ i) : ith l i = 0 := by
  have := sl_zero (xs := l.map Int.natAbs) h; rw [nth_abs] at this; exact Int.natAbs_eq_zero.1 this
theorem slZ_top {l : List Int} (h : 0 < slZ l) : ith l (slZ l - 1) ≠ 0 := fun e => by
  have := sl_top (xs := l.map Int.natAbs) h; rw [nth_abs] at this; unfold slZ at e; rw [e] at this; exact this rfl
theorem slZ_eq {l : List Int} {k : Nat} (h0 : ∀ j, k ≤ j → ith l j = 0) (h1 : k = 0 ∨ ith l (k - 1) ≠ 0) : slZ l = k :=
  sl_eq (fun j hj => by rw [nth_abs, h0 j hj]; rfl) (h1.imp id fun h e => h (by rw [nth_abs] at e; exact Int.natAbs_eq_zero.1 e))
theorem slZ_ext {a b : List Int} (h : ∀ i, ith a i = ith b i) : slZ a = slZ b := by
  refine slZ_eq (fun j hj => by rw [h]; exact slZ_zero hj) ?_
  by_cases h0 : slZ b = 0
  · exact .inl h0
  · exact .inr (by rw [h]; exact slZ_top (by omega))
def nrz (l : List Int) : List Int := l.take (slZ l)
def Nz' (l : List Int) : Prop := slZ l = l.length
theorem nrz_length (l : List Int) : (nrz l).length = slZ l := by unfold nrz; have := slZ_le l; simp; omega
theorem ith_nrz (l : List Int) (i : Nat) : ith (nrz l) i = ith l i := by
  by_cases h : i < slZ l
  · have h2 := slZ_le l
    unfold nrz ith
    simp only [List.getD, List.getElem?_take_of_lt h]
  · rw [ith_ge (by rw [nrz_length]; omega), slZ_zero (by omega)]
theorem pv_nrz (l : List Int) (x : Int) : pv (nrz l) x = pv l x := pv_ext (ith_nrz l) x
theorem nz_nrz (l : List Int) : Nz' (nrz l) := by unfold Nz'; rw [nrz_length]; exact slZ_ext (ith_nrz l)
theorem nz_nil : Nz' [] := rfl
theorem uniqZ {a b : List Int} (ha : Nz' a) (hb : Nz' b) (h : ∀ i, ith a i = ith b i) : a = b := ext_ith (by rw [← ha, ← hb]; exact slZ_ext h) fun i _ => h i
theorem uniqP {a b : List Int} (ha : Nz' a) (hb : Nz' b) (h : ∀ x, pv a x = pv b x) : a = b := uniqZ ha hb (pv_inj h)
theorem nrz_of {l : List Int} (h : Nz' l) : nrz l = l := uniqZ (nz_nrz l) h (ith_nrz l)
theorem nrz_ext {a b : List Int} (h : ∀ i, ith a i = ith b i) : nrz a = nrz b := uniqZ (nz_nrz a) (nz_nrz b) fun i => by rw [ith_nrz, ith_nrz, h]
theorem nrz_eq {a b : List Int} (h : ∀ x, pv a x = pv b x) : nrz a = nrz b := nrz_ext (pv_inj h)
theorem nrz_nil_iff {l : List Int} : nrz l = [] ↔ ∀ i, ith l i = 0 := by
  constructor
  · intro h i; rw [← ith_nrz, h, ith_nil]
  · intro h; exact uniqZ (nz_nrz l) nz_nil fun i => by rw [ith_nrz, h, ith_nil]
theorem Nz'.top {l : List Int} (h : Nz' l) (h0 : l ≠ []) : ith l (l.length - 1) ≠ 0 := by
  have hl := List.length_pos_iff.2 h0
  have := h
  unfold Nz' at this
  rw [← this]; exact slZ_top (by omega)
theorem nz_of {l : List Int} (h : l = [] ∨ ith l (l.length - 1) ≠ 0) : Nz' l := slZ_eq (fun j hj => ith_ge hj) (h.imp (fun h => by rw [h]; rfl) id)
def ldz (l : List Int) : Int := ith l (l.length - 1)
theorem addI_length (a b : List Int) : (addI a b).length = max a.length b.length := by
  induction a generalizing b with
  | nil => simp [addI]
  | cons c t ih =>
    cases b with
    | nil => simp [addI]
    | cons d u => simp only [addI, List.length_cons, ih u]; omega
theorem mulC_length (c : Int) (l : List Int) : (mulC c l).length = l.length := by simp [mulC]
theorem mulI_length {a b : List Int} (ha : a ≠ []) (hb : b ≠ []) : (mulI a b).length = a.length + b.length - 1 := by
  have hb' : 0 < b.length := List.length_pos_iff.2 hb
  induction a with
  | nil => exact absurd rfl ha
  | cons c t ih =>
    simp only [mulI, addI_length, mulC_length, List.length_cons]
    cases t with
    | nil => simp [mulI]; omega
    | cons d u => rw [ih (by simp)]; simp only [List.length_cons]; omega
theorem mulI_top {a b : List Int} (ha : a ≠ []) (hb : b ≠ []) : ith (mulI a b) (a.length + b.length - 2) = ldz a * ldz b := by
  have hb' : 0 < b.length := List.length_pos_iff.2 hb
  unfold ldz
  induction a with
  | nil => exact absurd rfl ha
  | cons c t ih =>
    simp only [mulI, ith_addI, ith_mulC, List.length_cons]
    cases t with
    | nil =>
      have e : 0 + 1 + b.length - 2 = b.length - 1 := by omega
      simp only [List.length_nil, e, mulI]
      have e2 : ith [0] (b.length - 1) = 0 := by
        cases b.length - 1 with
        | zero => rfl
        | succ k => rw [ith_succ, ith_nil]
      rw [e2]; simp [ith_zero]
    | cons d u =>
      have hi := ih (by simp)
      simp only [List.length_cons] at *
      have e : u.length + 1 + 1 + b.length - 2 = (u.length + 1 + b.length - 2) + 1 := by omega
      rw [e, ith_succ, hi]
      have e2 : u.length + 1 + 1 - 1 = (u.length + 1 - 1) + 1 := by omega
      rw [e2, ith_succ, ith_ge (l := b) (by omega)]
      simp
theorem nz_mulI {a b : List Int} (ha : Nz' a) (hb : Nz' b) (a0 : a ≠ []) (b0 : b ≠ []) : Nz' (mulI a b) := by
  have la := List.length_pos_iff.2 a0
  have lb := List.length_pos_iff.2 b0
  refine nz_of (.inr ?_)
  rw [mulI_length a0 b0, show a.length + b.length - 1 - 1 = a.length + b.length - 2 by omega, mulI_top a0 b0]
  exact Int.mul_ne_zero (ha.top a0) (hb.top b0)
theorem ldz_mulI {a b : List Int} (a0 : a ≠ []) (b0 : b ≠ []) : ldz (mulI a b) = ldz a * ldz b := by
  have la := List.length_pos_iff.2 a0
  have lb := List.length_pos_iff.2 b0
  rw [← mulI_top a0 b0]; unfold ldz
  rw [mulI_length a0 b0, show a.length + b.length - 1 - 1 = a.length + b.length - 2 by omega]
theorem ply_list {f : Int → Int} (h : Ply f) : ∃ l, Nz' l ∧ ∀ x, f x = pv l x := by
  obtain ⟨l, hl⟩ := h; exact ⟨nrz l, nz_nrz l, fun x => by rw [pv_nrz, hl]⟩
def cont : List Int → Nat
  | [] => 0
  | c :: t => c.natAbs.gcd (cont t)
theorem cont_dvd : ∀ (l : List Int) (i : Nat), cont l ∣ (ith l i).natAbs
  | [], i => by rw [ith_nil]; exact Nat.dvd_zero _
  | c :: t, 0 => by rw [ith_zero]; exact Nat.gcd_dvd_left _ _
  | c :: t, i + 1 => by rw [ith_succ]; exact Nat.dvd_trans (Nat.gcd_dvd_right _ _) (cont_dvd t i)
theorem dvd_cont {d : Nat} : ∀ l : List Int, (∀ i, d ∣ (ith l i).natAbs) → d ∣ cont l
  | [], _ => Nat.dvd_zero _
  | c :: t, h => Nat.dvd_gcd (by have := h 0; rwa [ith_zero] at this) (dvd_cont t fun i => by have := h (i + 1); rwa [ith_succ] at this)
theorem cont_ext {a b : List Int} (h : ∀ i, ith a i = ith b i) : cont a = cont b :=
  Nat.dvd_antisymm (dvd_cont b fun i => by rw [← h]; exact cont_dvd a i) (dvd_cont a fun i => by rw [h]; exact cont_dvd b i)
theorem cont_zero_iff {l : List Int} : cont l = 0 ↔ ∀ i, ith l i = 0 := by
  constructor
  · intro h i
    have := cont_dvd l i
    rw [h] at this
    exact Int.natAbs_eq_zero.1 (Nat.eq_zero_of_zero_dvd this)
  · intro h
    exact Nat.eq_zero_of_zero_dvd (dvd_cont l fun i => by rw [h i]; exact Nat.dvd_zero _)
theorem cont_mulC (c : Int) : ∀ l, cont (mulC c l) = c.natAbs * cont l
  | [] => by simp [mulC, cont]
  | d :: t => by
    have e : mulC c (d :: t) = (c * d) :: mulC c t := rfl
    rw [e]; simp only [cont]
    rw [cont_mulC c t, Int.natAbs_mul, Nat.gcd_mul_left]
def divC (m : Int) (l : List Int) : List Int := l.map (· / m)
theorem ith_divC (m : Int) (l : List Int) (i : Nat) : ith (divC m l) i = ith l i / m := by
  induction l generalizing i with
  | nil => simp [divC, ith_nil]
  | cons d t ih =>
    have e : divC m (d :: t) = (d / m) :: divC m t := rfl
    rw [e]
    cases i with
    | zero => rw [ith_zero, ith_zero]
    | succ i => rw [ith_succ, ith_succ, ih]
theorem divC_back {m : Int} {l : List Int} (h : ∀ i, m ∣ ith l i) (x : Int) : pv l x = m * pv (divC m l) x := by
  rw [← pv_mulC]
  refine pv_ext (fun i => ?_) x
  rw [ith_mulC, ith_divC, Int.mul_ediv_cancel' (h i)]
theorem cont_int (l : List Int) (i : Nat) : (cont l : Int) ∣ ith l i := Int.ofNat_dvd_left.2 (cont_dvd l i)
theorem int_cont {d : Int} {l : List Int} (h : ∀ i, d ∣ ith l i) : d.natAbs ∣ cont l := dvd_cont l fun i => Int.natAbs_dvd_natAbs.2 (h i)
theorem prim_part {l : List Int} (h : cont l ≠ 0) : ∃ q : List Int, cont q = 1 ∧ ∀ x, pv l x = (cont l : Int) * pv q x := by
  refine ⟨divC (cont l) l, ?_, fun x => divC_back (cont_int l) x⟩
  have e := cont_mulC (cont l : Int) (divC (cont l) l)
  rw [cont_ext (b := l) fun i => by rw [ith_mulC, ith_divC, Int.mul_ediv_cancel' (cont_int l i)]] at e
  rw [Int.natAbs_natCast] at e
  have h0 : 0 < cont l := Nat.pos_of_ne_zero h
  have e' : cont l * 1 = cont l * cont (divC (cont l) l) := by rw [Nat.mul_one]; exact e
  exact (Nat.eq_of_mul_eq_mul_left h0 e').symm
theorem gauss_prime {p : Nat} (hp : MR.Pr p) {a b : List Int} (h : ∀ i, (p : Int) ∣ ith (mulI a b) i) : (∀ i, (p : Int) ∣ ith a i) ∨ ∀ i, (p : Int) ∣ ith b i := by
  have h0 := pr_pos hp
  obtain ⟨la, na, ea⟩ := ply_rep h0 (ply_pv a)
  obtain ⟨lb, nb, eb⟩ := ply_rep h0 (ply_pv b)
  have key : ∀ {l : List Int} {k : List Nat}, Eqm p (pe k) (pv l) → k = [] → ∀ i, (p : Int) ∣ ith l i := fun {l k} e hk i => by
    subst hk
    have := eqm_ith (a := l) (b := []) (e.symm.to fun x => rfl) i
    rwa [ith_nil, Int.sub_zero] at this
  by_cases a0 : la = []
  · exact .inl (key ea a0)
  by_cases b0 : lb = []
  · exact .inr (key eb b0)
  exfalso
  have hz : Eqm p (pv (mulI a b)) (pv []) := Eqm.of_ith fun i => by rw [ith_nil, Int.sub_zero]; exact h i
  have e1 : Eqm p (pe (mulp p la lb)) (pe []) :=
    (eqm_mulp p la lb).trans ((ea.mul eb (ply_pv a) (ply_pe lb)).trans ((hz.by fun x => (pv_mulI a b x).symm).to fun x => rfl))
  exact mulp_ne hp na nb a0 b0 (uniq h0 (nm_mulp h0 _ _) (Nm.nil p) e1)
theorem cont_prim {a b : List Int} (ha : cont a = 1) (hb : cont b = 1) : cont (mulI a b) = 1 := by
  apply Classical.byContradiction
  intro hc
  have : ∃ p, MR.Pr p ∧ p ∣ cont (mulI a b) := by
    rcases Nat.eq_zero_or_pos (cont (mulI a b)) with h | h
    · exact ⟨2, ⟨Nat.le_refl _, fun d hd => by
        have := Nat.le_of_dvd (by omega) hd
        have : d = 0 ∨ d = 1 ∨ d = 2 := by omega
        rcases this with rfl | rfl | rfl
        · simp at hd
        · exact .inl rfl
        · exact .inr rfl⟩, by rw [h]; exact Nat.dvd_zero _⟩
    · obtain ⟨p, h1, h2⟩ := MR.pr_factor (cont (mulI a b)) (by omega)
      exact ⟨p, h1, h2⟩
  obtain ⟨p, hp, hd⟩ := this
  have h2 := hp.1
  rcases gauss_prime hp (a := a) (b := b) (fun i => Int.dvd_trans (Int.natCast_dvd_natCast.2 hd) (cont_int _ i)) with h | h
  · have := int_cont h; rw [ha] at this; have := Nat.le_of_dvd (by omega) this; simp at this; omega
  · have := int_cont h; rw [hb] at this; have := Nat.le_of_dvd (by omega) this; simp at this; omega
theorem cont_mul (a b : List Int) : cont (mulI a b) = cont a * cont b := by
  by_cases ha : cont a = 0
  · rw [ha, Nat.zero_mul, cont_zero_iff]
    have := cont_zero_iff.1 ha
    exact fun i => pv_inj (a := mulI a b) (b := []) (fun x => by rw [pv_mulI, pv_ext (b := []) (fun i => by rw [this i, ith_nil]) x, pv_nil]; simp) i ▸ ith_nil i
  by_cases hb : cont b = 0
  · rw [hb, Nat.mul_zero, cont_zero_iff]
    have := cont_zero_iff.1 hb
    exact fun i => pv_inj (a := mulI a b) (b := []) (fun x => by rw [pv_mulI, pv_ext (a := b) (b := []) (fun i => by rw [this i, ith_nil]) x, pv_nil]; simp) i ▸ ith_nil i
  obtain ⟨p, hp, ep⟩ := prim_part ha
  obtain ⟨q, hq, eq⟩ := prim_part hb
  have e := pv_inj (a := mulI a b) (b := mulC ((cont a : Int) * cont b) (mulI p q)) fun x => by rw [pv_mulI, pv_mulC, pv_mulI, ep, eq]; grind
  rw [cont_ext e, cont_mulC, cont_prim hp hq, Nat.mul_one, Int.natAbs_mul, Int.natAbs_natCast, Int.natAbs_natCast]
def Zdv (g f : Int → Int) : Prop := ∃ h, Ply h ∧ ∀ x, f x = h x * g x
theorem Zdv.refl (g : Int → Int) : Zdv g g := ⟨fun _ => 1, ply_c _, fun x => by simp⟩
theorem Zdv.zero (g : Int → Int) : Zdv g (fun _ => 0) := ⟨fun _ => 0, ply_c _, fun x => by simp⟩
theorem Zdv.trans {f g h : Int → Int} (a : Zdv f g) (b : Zdv g h) : Zdv f h := by
  obtain ⟨k, hk, d⟩ := a; obtain ⟨l, hl, e⟩ := b
  exact ⟨fun x => l x * k x, hl.mul hk, fun x => by rw [e, d]; grind⟩
theorem Zdv.add {g f f' : Int → Int} (a : Zdv g f) (b : Zdv g f') : Zdv g (fun x => f x + f' x) := by
  obtain ⟨k, hk, d⟩ := a; obtain ⟨l, hl, e⟩ := b
  exact ⟨fun x => k x + l x, hk.add hl, fun x => by simp only [d, e]; grind⟩
theorem Zdv.sub {g f f' : Int → Int} (a : Zdv g f) (b : Zdv g f') : Zdv g (fun x => f x - f' x) := by
  obtain ⟨k, hk, d⟩ := a; obtain ⟨l, hl, e⟩ := b
  exact ⟨fun x => k x - l x, hk.sub hl, fun x => by simp only [d, e]; grind⟩
theorem Zdv.mul {g f k : Int → Int} (a : Zdv g f) (hk : Ply k) : Zdv g (fun x => k x * f x) := by
  obtain ⟨l, hl, d⟩ := a
  exact ⟨fun x => k x * l x, hk.mul hl, fun x => by simp only [d]; grind⟩
theorem Zdv.congr {g f f' : Int → Int} (a : Zdv g f) (h : ∀ x, f' x = f x) : Zdv g f' := by
  obtain ⟨l, hl, d⟩ := a; exact ⟨l, hl, fun x => by rw [h, d]⟩
theorem Zdv.by {g g' f : Int → Int} (a : Zdv g f) (h : ∀ x, g' x = g x) : Zdv g' f := by
  obtain ⟨l, hl, d⟩ := a; exact ⟨l, hl, fun x => by rw [d, h]⟩
theorem zdv_of_mul {b c : List Int} (hb : cont b = 1) {m : Int} (hm : m ≠ 0) (h : Zdv (pv b) (fun x => m * pv c x)) : Zdv (pv b) (pv c) := by
  obtain ⟨q, hq, e⟩ := h
  have e : ∀ x, m * pv c x = q x * pv b x := e
  obtain ⟨l, -, hl⟩ := ply_list hq
  have e1 := pv_inj (a := mulC m c) (b := mulI l b) fun x => by rw [pv_mulC, pv_mulI, e, hl]
  have e2 : m.natAbs * cont c = cont l := by
    have := cont_ext e1
    rw [cont_mulC, cont_mul, hb, Nat.mul_one] at this; exact this
  have hd : ∀ i, m ∣ ith l i := fun i => Int.natAbs_dvd.1 (Int.dvd_trans (Int.natCast_dvd_natCast.2 (e2 ▸ Nat.dvd_mul_right m.natAbs (cont c))) (cont_int l i))
  refine ⟨pv (divC m l), ply_pv _, fun x => ?_⟩
  have e3 := e x
  rw [hl, divC_back hd x] at e3
  have e4 : m * pv c x = m * (pv (divC m l) x * pv b x) := by rw [e3]; grind
  exact Int.eq_of_mul_eq_mul_left hm e4
theorem zdv_cont {a b : List Int} (h : Zdv (pv b) (pv a)) : cont b ∣ cont a := by
  obtain ⟨q, hq, e⟩ := h
  obtain ⟨l, -, hl⟩ := ply_list hq
  have e1 := cont_ext (pv_inj (a := a) (b := mulI l b) fun x => by rw [pv_mulI, e, hl])
  rw [e1, cont_mul]; exact Nat.dvd_mul_left _ _
theorem zdv_frac {b c : List Int} (hb : cont b ≠ 0) {m : Int} (hm : m ≠ 0) (h : Zdv (pv b) (fun x => m * pv c x)) (hc : cont b ∣ cont c) : Zdv (pv b) (pv c) := by
  obtain ⟨b', hb', eb⟩ := prim_part hb
  have h1 : Zdv (pv b') (fun x => m * pv c x) := Zdv.trans (g := pv b) ⟨fun _ => (cont b : Int), ply_c _, eb⟩ h
  obtain ⟨q, hq, e⟩ := zdv_of_mul hb' hm h1
  obtain ⟨l, -, hl⟩ := ply_list hq
  have e1 : cont c = cont l := by
    have := cont_ext (pv_inj (a := c) (b := mulI l b') fun x => by rw [pv_mulI, e, hl])
    rwa [cont_mul, hb', Nat.mul_one] at this
  have hd : ∀ i, (cont b : Int) ∣ ith l i := fun i => Int.dvd_trans (Int.natCast_dvd_natCast.2 (e1 ▸ hc)) (cont_int l i)
  refine ⟨pv (divC (cont b) l), ply_pv _, fun x => ?_⟩
  rw [e, hl, divC_back hd x, eb]; grind
theorem zdv_len {g f : List Int} (hg : Nz' g) (hf : Nz' f) (f0 : f ≠ []) (h : Zdv (pv g) (pv f)) : g ≠ [] ∧ ∃ l, Nz' l ∧ l ≠ [] ∧ f = mulI l g ∧ f.length + 1 = l.length + g.length ∧ ldz f = ldz l * ldz g := by
  obtain ⟨q, hq, e⟩ := h
  obtain ⟨l, nl, hl⟩ := ply_list hq
  have g0 : g ≠ [] := fun e1 => f0 (uniqP hf nz_nil fun x => by rw [e, e1, pv_nil]; simp)
  have l0 : l ≠ [] := fun e1 => f0 (uniqP hf nz_nil fun x => by rw [e, hl, e1, pv_nil]; simp)
  have ef : f = mulI l g := uniqP hf (nz_mulI nl hg l0 g0) fun x => by rw [pv_mulI, e, hl]
  have la := List.length_pos_iff.2 l0
  have lb := List.length_pos_iff.2 g0
  exact ⟨g0, l, nl, l0, ef, by rw [ef, mulI_length l0 g0]; omega, by rw [ef, ldz_mulI l0 g0]⟩
theorem zdv_le {g f : List Int} (hg : Nz' g) (hf : Nz' f) (f0 : f ≠ []) (h : Zdv (pv g) (pv f)) : g.length ≤ f.length := by
  obtain ⟨-, l, -, l0, -, e, -⟩ := zdv_len hg hf f0 h
  have := List.length_pos_iff.2 l0
  omega
theorem zdv_anti {f g : List Int} (hf : Nz' f) (hg : Nz' g) (h1 : Zdv (pv f) (pv g)) (h2 : Zdv (pv g) (pv f)) : f = g ∨ f = mulC (-1) g := by
  by_cases f0 : f = []
  · left
    by_cases g0 : g = []
    · rw [f0, g0]
    · exact absurd f0 (zdv_len hf hg g0 h1).1
  obtain ⟨g0, l, nl, l0, ef, el, ed⟩ := zdv_len hg hf f0 h2
  obtain ⟨-, k, nk, k0, eg, ek, ed'⟩ := zdv_len hf hg g0 h1
  have ll := List.length_pos_iff.2 l0
  have lk := List.length_pos_iff.2 k0
  have l1 : l.length = 1 := by omega
  obtain ⟨c, rfl⟩ := List.length_eq_one_iff.1 l1
  have hc : ldz [c] = c := rfl
  have hg' := hg.top g0
  rw [hc] at ed
  have hck : c * ldz k = 1 := by
    have : ldz g * (c * ldz k) = ldz g * 1 := by rw [ed] at ed'; rw [Int.mul_one]; conv => rhs; rw [ed']
                                                 grind
    exact Int.eq_of_mul_eq_mul_left hg' this
  have hcu : c = 1 ∨ c = -1 := by
    have := Int.natAbs_mul c (ldz k)
    rw [hck] at this
    have := Nat.eq_one_of_mul_eq_one_right this.symm
    omega
  rcases hcu with rfl | rfl
  · left; exact uniqP hf hg fun x => by rw [ef, pv_mulI, pv_cons, pv_nil]; simp
  · right
    have hn : Nz' (mulC (-1) g) := nz_of (.inr (by rw [mulC_length, ith_mulC]; have : ith g (g.length - 1) ≠ 0 := hg'; omega))
    exact uniqP hf hn fun x => by rw [ef, pv_mulI, pv_cons, pv_nil, pv_mulC]; simp
structure GcZ (a b g : List Int) : Prop where
  nm : Nz' g
  pos : g = [] ∨ 0 < ldz g
  da : Zdv (pv g) (pv a)
  db : Zdv (pv g) (pv b)
  all : ∀ d : List Int, Zdv (pv d) (pv a) → Zdv (pv d) (pv b) → Zdv (pv d) (pv g)
theorem GcZ.uniq {a b g g' : List Int} (h : GcZ a b g) (k : GcZ a b g') : g = g' := by
  rcases zdv_anti h.nm k.nm (k.all g h.da h.db) (h.all g' k.da k.db) with e | e
  · exact e
  · by_cases g0 : g' = []
    · rw [e, g0]; rfl
    · have h1 := k.pos.resolve_left g0
      have h2 : ldz g = - ldz g' := by rw [e]; unfold ldz; rw [mulC_length, ith_mulC]; omega
      rcases h.pos with h3 | h3
      · rw [h3] at e
        have := congrArg List.length e
        rw [mulC_length] at this
        exact absurd (List.length_eq_zero_iff.1 this.symm) g0
      · omega
theorem GcZ.swap {a b g : List Int} (h : GcZ a b g) : GcZ b a g := ⟨h.nm, h.pos, h.db, h.da, fun d x y => h.all d y x⟩
theorem GcZ.congr {a b a' b' g : List Int} (h : GcZ a b g) (ea : ∀ x, pv a' x = pv a x) (eb : ∀ x, pv b' x = pv b x) : GcZ a' b' g :=
  ⟨h.nm, h.pos, h.da.congr ea, h.db.congr eb, fun d x y => h.all d (x.congr fun x => (ea x).symm) (y.congr fun x => (eb x).symm)⟩
theorem gcz_zero {a b : List Int} (ha : ∀ i, ith a i = 0) (hb : ∀ i, ith b i = 0) : GcZ a b [] := by
  have za : ∀ x, pv a x = 0 := fun x => by rw [pv_ext (b := []) (fun i => by rw [ha, ith_nil]) x]; rfl
  have zb : ∀ x, pv b x = 0 := fun x => by rw [pv_ext (b := []) (fun i => by rw [hb, ith_nil]) x]; rfl
  exact ⟨nz_nil, .inl rfl, (Zdv.zero _).congr za, (Zdv.zero _).congr zb, fun d _ _ => (Zdv.zero _).congr fun x => rfl⟩
theorem GcZ.nil {a b : List Int} (h : GcZ a b []) : (∀ i, ith a i = 0) ∧ ∀ i, ith b i = 0 := by
  obtain ⟨k, -, e⟩ := h.da
  obtain ⟨l, -, d⟩ := h.db
  exact ⟨fun i => pv_inj (a := a) (b := []) (fun x => by rw [e, pv_nil]; simp) i ▸ ith_nil i, fun i => pv_inj (a := b) (b := []) (fun x => by rw [d, pv_nil]; simp) i ▸ ith_nil i⟩
theorem gcz_of {a b G : List Int} (hG : cont G = 1) (nG : Nz' G) (pG : 0 < ldz G) (h : ∀ d : List Int, cont d = 1 → ((Zdv (pv d) (pv a) ∧ Zdv (pv d) (pv b)) ↔ Zdv (pv d) (pv G))) (hc : (cont a).gcd (cont b) ≠ 0) :
    GcZ a b (mulC ((cont a).gcd (cont b)) G) := by
  have hg := (h G hG).2 (Zdv.refl _)
  have hc0 : 0 < (cont a).gcd (cont b) := Nat.pos_of_ne_zero hc
  have G0 : G ≠ [] := fun e => by rw [e] at hG; simp [cont] at hG
  have hcZ : ((((cont a).gcd (cont b) : Nat) : Int)) ≠ 0 := by omega
  have part : ∀ {l : List Int}, Zdv (pv G) (pv l) → (cont a).gcd (cont b) ∣ cont l → Zdv (pv (mulC ((cont a).gcd (cont b)) G)) (pv l) := fun {l} hd hk => by
    refine zdv_frac (m := (cont a).gcd (cont b)) (by rw [cont_mulC, hG, Int.natAbs_natCast, Nat.mul_one]; exact hc) hcZ ?_ (by rw [cont_mulC, hG]; simpa using hk)
    obtain ⟨q, hq, e⟩ := hd
    exact ⟨q, hq, fun x => by simp only [pv_mulC, e]; grind⟩
  refine ⟨nz_of (.inr ?_), .inr ?_, part hg.1 (Nat.gcd_dvd_left _ _), part hg.2 (Nat.gcd_dvd_right _ _), fun d da db => ?_⟩
  · rw [mulC_length, ith_mulC]; exact Int.mul_ne_zero hcZ (nG.top G0)
  · have h1 : (0 : Int) < (((cont a).gcd (cont b) : Nat) : Int) := by omega
    unfold ldz; rw [mulC_length, ith_mulC]; exact Int.mul_pos h1 pG
  · have hk := Nat.dvd_gcd (zdv_cont da) (zdv_cont db)
    have hd0 : cont d ≠ 0 := fun e => by rw [e] at hk; exact hc (Nat.eq_zero_of_zero_dvd hk)
    obtain ⟨d', hd', ed⟩ := prim_part hd0
    have hdd : Zdv (pv d') (pv d) := ⟨fun _ => (cont d : Int), ply_c _, ed⟩
    obtain ⟨q, hq, e⟩ := (h d' hd').1 ⟨hdd.trans da, hdd.trans db⟩
    obtain ⟨k, ek⟩ := hk
    exact ⟨fun x => (k : Int) * q x, (ply_c _).mul hq, fun x => by rw [pv_mulC, e, ed, ek]; simp only [Int.natCast_mul]; grind⟩
theorem cd_step {a b r d : List Int} {q : Int → Int} (hq : Ply q) {m : Int} (hm : m ≠ 0) (hd : cont d = 1) (e : ∀ x, m * pv a x = q x * pv b x + pv r x) : (Zdv (pv d) (pv a) ∧ Zdv (pv d) (pv b)) ↔ (Zdv (pv d) (pv b) ∧ Zdv (pv d) (pv r)) := by
  constructor
  · rintro ⟨h1, h2⟩
    exact ⟨h2, ((h1.mul (ply_c m)).sub (h2.mul hq)).congr fun x => by rw [e]; grind⟩
  · rintro ⟨h1, h2⟩
    exact ⟨zdv_of_mul hd hm (((h1.mul hq).add h2).congr e), h1⟩
theorem cd_scale {r r' d : List Int} {m : Int} (hm : m ≠ 0) (hd : cont d = 1) (e : ∀ x, pv r x = m * pv r' x) : Zdv (pv d) (pv r) ↔ Zdv (pv d) (pv r') :=
  ⟨fun h => zdv_of_mul hd hm (h.congr fun x => (e x).symm), fun h => (h.mul (ply_c m)).congr e⟩
end Go.Proofs.YtddbhhedjipjkaaGreatDoor
