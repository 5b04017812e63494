/-
  DetD MinA PivA LatB
-/
import Derived.Test.YtcdkdanfiimlkaaPk19

section
/-! Gram's determinants. -/
namespace Go.Proofs.Ytcdkdanfiimlkaa.DT
set_option linter.unusedVariables false
set_option linter.unusedSimpArgs false

theorem sum_le {n : Nat} {f g : Nat → Int} (h : ∀ k, k < n → f k ≤ g k) : sumN n f ≤ sumN n g := by
  induction n with
  | zero => exact Int.le_refl _
  | succ n ih => simp only [sumN]; have := ih fun k hk => h k (by omega); have := h n (by omega); omega
theorem sum_nonneg {n : Nat} {f : Nat → Int} (h : ∀ k, k < n → 0 ≤ f k) : 0 ≤ sumN n f := by
  have := sum_le (f := fun _ => 0) h; rwa [sum_zero fun _ _ => rfl] at this
theorem sq_nonneg (a : Int) : 0 ≤ a * a := by
  rcases Int.le_total 0 a with h | h
  · exact Int.mul_nonneg h h
  · have := Int.mul_nonneg_of_nonpos_of_nonpos h h; exact this
theorem sum_sq_zero {n : Nat} {f : Nat → Int} (h : sumN n (fun k => f k * f k) = 0) : ∀ k, k < n → f k = 0 := by
  induction n with
  | zero => intro k hk; omega
  | succ n ih =>
    simp only [sumN] at h
    have h1 : 0 ≤ sumN n fun k => f k * f k := sum_nonneg fun k _ => sq_nonneg _
    have h2 := sq_nonneg (f n)
    intro k hk
    by_cases e : k = n
    · subst e; have : f k * f k = 0 := by omega
      exact (Int.mul_eq_zero.mp this).elim id id
    · exact ih (by omega) k (by omega)
/-- A row that hangs on others: no determinant. -/
theorem det_dep {n i : Nat} (hi : i < n) (M : Mx) {d : Int} (hd : d ≠ 0) (x : Nat → Int) (k : Nat) (hk : k ≤ i) (h : ∀ j, j < n → d * M i j = sumN k fun a => x a * M a j) : det n M = 0 := by
  have e : d * det n M = det n (setr M i fun j => sumN k fun a => x a * M a j) := by
    rw [show det n M = det n (setr M i (M i)) by rw [setr_self], ← (det_alt n).smul _ d _ hi]
    exact det_ext fun a b ha hb => by
      unfold setr; split
      · exact h b hb
      · rfl
  have e2 : ∀ k, k ≤ i → det n (setr M i fun j => sumN k fun a => x a * M a j) = 0 := by
    intro k
    induction k with
    | zero => intro _; exact (det_alt n).zero M hi
    | succ k ih =>
      intro hk
      have e3 := (det_alt n).add M (i := i) (fun j => sumN k fun a => x a * M a j) (fun j => x k * M k j) hi
      simp only [sumN]
      rw [e3, ih (by omega), (det_alt n).smul _ _ _ hi, (det_alt n).same' _ (i := i) (k := k) hi (by omega) (by omega) fun j hj => by unfold setr; rw [if_pos rfl, if_neg (by omega)]]
      simp
  rw [e2 k hk] at e
  exact (Int.mul_eq_zero.mp e).resolve_left hd
/-- The products of the rows. -/
def gm (m : Nat) (B : Mx) : Mx := fun i j => sumN m fun c => B i c * B j c
theorem gm_symm (m : Nat) (B : Mx) (i j : Nat) : gm m B i j = gm m B j i := sum_ext fun c _ => Int.mul_comm _ _
/-- What of the row k, times the determinant, stands upright on those ahead of it. -/
theorem gram_up (m k : Nat) (B : Mx) (i : Nat) (hd : det k (gm m B) ≠ 0) : ∃ x w : Nat → Int, (∀ c, w c = det k (gm m B) * B i c - sumN k fun a => x a * B a c) ∧
    (∀ j, sumN m (fun c => w c * B j c) = bd k (gm m B) i j) ∧ (∀ j, bd k (gm m B) i j = det k (gm m B) * gm m B i j - sumN k fun a => x a * gm m B a j) ∧
    sumN m (fun c => w c * w c) = det k (gm m B) * bd k (gm m B) i i := by
  obtain ⟨x, hx⟩ := bd_row k (gm m B) i hd
  have h1 : ∀ (u : Nat → Int), sumN m (fun c => (det k (gm m B) * B i c - sumN k fun a => x a * B a c) * u c) = det k (gm m B) * sumN m (fun c => B i c * u c) - sumN k fun a => x a * sumN m fun c => B a c * u c := fun u => by
    rw [sum_ext (g := fun c => det k (gm m B) * (B i c * u c) - sumN k fun a => x a * (B a c * u c)) fun c _ => by
      rw [Int.sub_mul, ← sum_mul']; congr 1
      · grind
      · exact sum_ext fun a _ => by grind]
    rw [sum_sub, sum_mul, sum_comm]; congr 1
    exact sum_ext fun a _ => sum_mul _ _ _
  have h2 : ∀ j, sumN m (fun c => (det k (gm m B) * B i c - sumN k fun a => x a * B a c) * B j c) = bd k (gm m B) i j := fun j => by rw [h1, hx]; rfl
  refine ⟨x, fun c => det k (gm m B) * B i c - sumN k fun a => x a * B a c, fun c => rfl, h2, hx, ?_⟩
  rw [h1]
  have h3 : ∀ j, sumN m (fun c => B j c * (det k (gm m B) * B i c - sumN k fun a => x a * B a c)) = bd k (gm m B) i j := fun j => by
    rw [← h2]; exact sum_ext fun c _ => Int.mul_comm _ _
  rw [h3, sum_zero (n := k) fun a ha => by rw [h3, bd_col _ _ _ ha]; simp]
  omega
theorem gram_zero (m : Nat) (B : Mx) : ∀ k, det k (gm m B) = 0 → ∀ n, k ≤ n → det n (gm m B) = 0
  | 0, h, _, _ => by exact absurd h (by simp [det])
  | k + 1, h, n, hn => by
    by_cases hd : det k (gm m B) = 0
    · exact gram_zero m B k hd n (by omega)
    · obtain ⟨x, w, hw, h1, h2, h3⟩ := gram_up m k B k hd
      rw [bd_self, h, Int.mul_zero] at h3
      have h4 := sum_sq_zero h3
      refine det_dep (i := k) (by omega) (gm m B) hd x k (Nat.le_refl _) fun j hj => ?_
      have h5 := h2 j
      rw [← h1, sum_zero (n := m) fun c hc => by rw [h4 c hc]; simp] at h5
      omega
theorem gram_nonneg (m : Nat) (B : Mx) : ∀ k, 0 ≤ det k (gm m B)
  | 0 => by simp [det]
  | k + 1 => by
    have ih := gram_nonneg m B k
    by_cases hd : det k (gm m B) = 0
    · rw [gram_zero m B k hd (k + 1) (by omega)]; exact Int.le_refl _
    · obtain ⟨x, w, hw, h1, h2, h3⟩ := gram_up m k B k hd
      rw [bd_self] at h3
      have h4 : 0 ≤ det k (gm m B) * det (k + 1) (gm m B) := by rw [← h3]; exact sum_nonneg fun c _ => sq_nonneg _
      exact Int.le_of_mul_le_mul_left (a := det k (gm m B)) (by rw [Int.mul_zero]; exact h4) (by omega)
theorem gm_nonneg (m : Nat) (B : Mx) (i : Nat) : 0 ≤ gm m B i i := sum_nonneg fun c _ => sq_nonneg _
theorem gram_le (m : Nat) (B : Mx) (k : Nat) : det (k + 1) (gm m B) ≤ det k (gm m B) * gm m B k k := by
  by_cases hd : det k (gm m B) = 0
  · rw [gram_zero m B k hd (k + 1) (by omega), hd, Int.zero_mul]; exact Int.le_refl _
  · have hp : 0 < det k (gm m B) := by have := gram_nonneg m B k; omega
    obtain ⟨x, w, hw, h1, h2, h3⟩ := gram_up m k B k hd
    have h4 : ∀ j, sumN m (fun c => (sumN k fun a => x a * B a c) * B j c) = sumN k fun a => x a * gm m B a j := fun j => by
      rw [sum_ext (g := fun c => sumN k fun a => x a * (B a c * B j c)) fun c _ => by rw [← sum_mul']; exact sum_ext fun a _ => by grind]
      rw [sum_comm]; exact sum_ext fun a _ => sum_mul _ _ _
    have h5 : ∀ j, j < k → sumN k (fun a => x a * gm m B a j) = det k (gm m B) * gm m B k j := fun j hj => by
      have := h2 j; rw [bd_col _ _ _ hj] at this; omega
    have h6 : sumN m (fun c => (sumN k fun a => x a * B a c) * (sumN k fun a => x a * B a c)) = det k (gm m B) * sumN k fun a => x a * gm m B a k := by
      rw [sum_ext (g := fun c => sumN k fun b => x b * ((sumN k fun a => x a * B a c) * B b c)) fun c _ => by rw [← sum_mul]; exact sum_ext fun a _ => by grind]
      rw [sum_comm, ← sum_mul]
      refine sum_ext fun b hb => ?_
      rw [sum_mul, h4, h5 b hb, gm_symm m B k b]; grind
    have h7 : 0 ≤ det k (gm m B) * (det k (gm m B) * gm m B k k - det (k + 1) (gm m B)) := by
      have h8 := h2 k; rw [bd_self] at h8
      rw [show det k (gm m B) * gm m B k k - det (k + 1) (gm m B) = sumN k fun a => x a * gm m B a k by omega, ← h6]
      exact sum_nonneg fun c _ => sq_nonneg _
    have := Int.le_of_mul_le_mul_left (a := det k (gm m B)) (b := 0) (c := det k (gm m B) * gm m B k k - det (k + 1) (gm m B)) (by rw [Int.mul_zero]; exact h7) hp
    omega
def prodN : Nat → (Nat → Int) → Int
  | 0, _ => 1
  | n + 1, f => prodN n f * f n
theorem prod_nonneg {n : Nat} {f : Nat → Int} (h : ∀ k, k < n → 0 ≤ f k) : 0 ≤ prodN n f := by
  induction n with
  | zero => exact Int.zero_le_ofNat 1
  | succ n ih => exact Int.mul_nonneg (ih fun k hk => h k (by omega)) (h n (by omega))
theorem prod_le {n : Nat} {f g : Nat → Int} (h0 : ∀ k, k < n → 0 ≤ f k) (h : ∀ k, k < n → f k ≤ g k) : prodN n f ≤ prodN n g := by
  induction n with
  | zero => exact Int.le_refl _
  | succ n ih =>
    have h1 := h0 n (by omega); have h2 := h n (by omega)
    exact Int.mul_le_mul (ih (fun k hk => h0 k (by omega)) fun k hk => h k (by omega)) h2 h1 (prod_nonneg fun k hk => Int.le_trans (h0 k (by omega)) (h k (by omega)))
theorem prod_mul (n : Nat) (f g : Nat → Int) : prodN n (fun k => f k * g k) = prodN n f * prodN n g := by
  induction n with
  | zero => rfl
  | succ n ih => simp only [prodN, ih]; grind
theorem gram_prod (m : Nat) (B : Mx) : ∀ n, det n (gm m B) ≤ prodN n fun k => gm m B k k
  | 0 => by simp [det, prodN]
  | n + 1 => Int.le_trans (gram_le m B n) (Int.mul_le_mul_of_nonneg_right (gram_prod m B n) (gm_nonneg m B n))
theorem gram_det (n : Nat) (B : Mx) : det n (gm n B) = det n B * det n B := by
  rw [show gm n B = mul n B fun i j => B j i from rfl, det_mul, det_T]
/-- Hadamard's bound. -/
theorem hadamard (n : Nat) (B : Mx) : det n B * det n B ≤ prodN n fun i => gm n B i i := by
  rw [← gram_det]; exact gram_prod n B n
theorem abs_le_of_sq {a b : Int} (hb : 0 ≤ b) (h : a * a ≤ b * b) : (a.natAbs : Int) ≤ b := by
  rcases Int.lt_or_le b a.natAbs with h1 | h1
  · have h2 : b * b < (a.natAbs : Int) * a.natAbs := Int.lt_of_le_of_lt (Int.mul_le_mul_of_nonneg_left (Int.le_of_lt h1) hb) (Int.mul_lt_mul_of_pos_right h1 (by omega))
    rw [Int.natAbs_mul_self'] at h2; omega
  · exact h1
theorem hadamard_roots (n : Nat) (B : Mx) (r : Nat → Int) (h0 : ∀ i, i < n → 0 ≤ r i) (h : ∀ i, i < n → gm n B i i ≤ r i * r i) : ((det n B).natAbs : Int) ≤ prodN n r := by
  refine abs_le_of_sq (prod_nonneg h0) ?_
  rw [← prod_mul]
  exact Int.le_trans (hadamard n B) (prod_le (fun k _ => gm_nonneg n B k) h)
end Go.Proofs.Ytcdkdanfiimlkaa.DT
end

section
/-! Minors. -/
namespace Go.Proofs.Ytcdkdanfiimlkaa.DT
set_option linter.unusedVariables false
set_option linter.unusedSimpArgs false
variable {R C : Nat} {M N H K : Mx} {u v : Nat → Int}

/-! ### Choices are sorted -/
/-- k numbers below n, rising. -/
structure Inc (k n : Nat) (f : Nat → Nat) : Prop where
  up : ∀ i, i + 1 < k → f i < f (i + 1)
  lt : ∀ i, i < k → f i < n
def sw (i : Nat) (f : Nat → Nat) : Nat → Nat := fun a => if a = i then f (i + 1) else if a = i + 1 then f i else f a
def mu (k : Nat) (f : Nat → Nat) : Int := sumN k fun i => ((k : Int) - i) * f i
theorem mu_nonneg (k : Nat) (f : Nat → Nat) : 0 ≤ mu k f := sum_nonneg fun i hi => Int.mul_nonneg (by omega) (by omega)
theorem mu_sw {k : Nat} (f : Nat → Nat) {i : Nat} (hi : i + 1 < k) (h : f (i + 1) < f i) : mu k (sw i f) < mu k f := by
  have e : mu k f - mu k (sw i f) = (f i : Int) - f (i + 1) := by
    unfold mu
    rw [← sum_sub, sum_two (i := i) (j := i + 1) (by omega) hi fun a ha h1 h2 => by unfold sw; rw [if_neg h1, if_neg h2]; omega]
    unfold sw
    rw [if_pos rfl, if_neg (by omega), if_pos rfl]
    rw [show ((i + 1 : Nat) : Int) = i + 1 by omega]
    grind
  omega
theorem sortP {k n : Nat} (P : (Nat → Nat) → Prop) (h0 : ∀ f, Inc k n f → P f) (heq : ∀ f i, i + 1 < k → f i = f (i + 1) → P f) (hsw : ∀ f i, i + 1 < k → P (sw i f) → P f) : ∀ f : Nat → Nat, (∀ i, i < k → f i < n) → P f := by
  suffices h : ∀ (m : Nat) f, (mu k f).toNat ≤ m → (∀ i, i < k → f i < n) → P f from fun f hf => h _ f (Nat.le_refl _) hf
  intro m
  induction m with
  | zero =>
    intro f hm hf
    by_cases h1 : ∃ i, i + 1 < k ∧ f (i + 1) ≤ f i
    · obtain ⟨i, hi, hle⟩ := h1
      by_cases he : f i = f (i + 1)
      · exact heq f i hi he
      · have := mu_sw f hi (by omega); have := mu_nonneg k (sw i f); omega
    · exact h0 f ⟨fun i hi => by
        rcases Nat.lt_or_ge (f i) (f (i + 1)) with h | h
        · exact h
        · exact absurd ⟨i, hi, h⟩ h1, hf⟩
  | succ m ih =>
    intro f hm hf
    by_cases h1 : ∃ i, i + 1 < k ∧ f (i + 1) ≤ f i
    · obtain ⟨i, hi, hle⟩ := h1
      by_cases he : f i = f (i + 1)
      · exact heq f i hi he
      · refine hsw f i hi (ih (sw i f) ?_ fun a ha => ?_)
        · have := mu_sw f hi (by omega); have := mu_nonneg k (sw i f); omega
        · unfold sw; repeat' split
          · exact hf _ hi
          · exact hf _ (by omega)
          · exact hf a ha
    · exact h0 f ⟨fun i hi => by
        rcases Nat.lt_or_ge (f i) (f (i + 1)) with h | h
        · exact h
        · exact absurd ⟨i, hi, h⟩ h1, hf⟩
/-- What divides the minors of rising rows divides those of any. -/
theorem any_rows {k n : Nat} {g : Int} (M : Mx) (h : ∀ f : Nat → Nat, Inc k n f → g ∣ det k fun i j => M (f i) j) : ∀ f : Nat → Nat, (∀ i, i < k → f i < n) → g ∣ det k fun i j => M (f i) j := by
  refine sortP _ h (fun f i hi he => ?_) (fun f i hi hP => ?_)
  · rw [(det_alt k).same' _ (i := i) (k := i + 1) (by omega) hi (by omega) fun j _ => by rw [he]]
    exact Int.dvd_zero g
  · have e := (det_alt k).swap1 (fun a j => M (f a) j) (i := i) hi
    have e2 : det k (fun a j => M (sw i f a) j) = det k (setr (setr (fun a j => M (f a) j) i fun j => M (f (i + 1)) j) (i + 1) fun j => M (f i) j) := det_ext fun a j ha hj => by
      unfold sw setr
      by_cases h1 : a = i + 1
      · subst h1; rw [if_neg (by omega), if_pos rfl, if_pos rfl]
      · by_cases h2 : a = i
        · subst h2; rw [if_pos rfl, if_neg h1, if_pos rfl]
        · rw [if_neg h2, if_neg h1, if_neg h1, if_neg h2]
    rw [e2, e] at hP
    exact (Int.dvd_neg).mp hP
/-- A row that is a sum of multiples. -/
theorem AltM.rowsum {n : Nat} {D : Mx → Int} (h : AltM n D) (A : Mx) {i : Nat} (hi : i < n) (x : Nat → Int) (M : Mx) : ∀ m, D (setr A i fun j => sumN m fun l => x l * M l j) = sumN m fun l => x l * D (setr A i (M l))
  | 0 => h.zero A hi
  | m + 1 => by
    simp only [sumN]
    rw [h.add A _ _ hi, AltM.rowsum h A hi x M m, h.smul A _ _ hi]
/-- What divides all minors of rows divides those of their sums of multiples. -/
theorem mul_dvd {k : Nat} {g : Int} (X M : Mx) (h : ∀ f : Nat → Nat, (∀ i, i < k → f i < R) → g ∣ det k fun i j => M (f i) j) : g ∣ det k (mul R X M) := by
  by_cases hR : R = 0
  · subst hR
    cases k with
    | zero => have := h (fun _ => 0) (fun i hi => by omega); exact this
    | succ k =>
      have e : det (k + 1) (mul 0 X M) = det (k + 1) (setr (mul 0 X M) 0 fun _ => 0) := det_ext fun i j _ _ => by unfold setr mul; split <;> rfl
      rw [e, (det_alt (k + 1)).zero _ (by omega)]; exact Int.dvd_zero g
  suffices h2 : ∀ t, t ≤ k → ∀ f : Nat → Nat, (∀ i, i < k → f i < R) → g ∣ det k fun i j => if i < t then mul R X M i j else M (f i) j by
    have := h2 k (Nat.le_refl _) (fun _ => 0) fun _ _ => by omega
    rwa [det_ext fun i j hi hj => if_pos hi] at this
  intro t
  induction t with
  | zero => intro _ f hf; rw [det_ext fun i j hi hj => if_neg (by omega)]; exact h f hf
  | succ t ih =>
    intro ht f hf
    have e : det k (fun i j => if i < t + 1 then mul R X M i j else M (f i) j) = det k (setr (fun i j => if i < t then mul R X M i j else M (f i) j) t fun j => sumN R fun l => X t l * M l j) := det_ext fun i j hi hj => by
      unfold setr
      by_cases h1 : i = t
      · subst h1; rw [if_pos (by omega), if_pos rfl]; rfl
      · rw [if_neg h1]
        dsimp only
        by_cases h2 : i < t
        · rw [if_pos h2, if_pos (by omega)]
        · rw [if_neg h2, if_neg (by omega)]
    rw [e, (det_alt k).rowsum _ (by omega)]
    have h3 : ∀ n, n ≤ R → g ∣ sumN n fun l => X t l * det k (setr (fun i j => if i < t then mul R X M i j else M (f i) j) t (M l)) := by
      intro n
      induction n with
      | zero => intro _; exact Int.dvd_zero g
      | succ n ihn =>
        intro hn
        refine Int.dvd_add (ihn (by omega)) (Int.dvd_trans ?_ (Int.dvd_mul_left _ _))
        have h4 := ih (by omega) (fun a => if a = t then n else f a) fun i hi => by
          split
          · omega
          · exact hf i hi
        rw [det_ext (N := fun i j => if i < t then mul R X M i j else M (if i = t then n else f i) j) fun i j hi hj => by
          unfold setr
          by_cases h1 : i = t
          · subst h1; rw [if_pos rfl, if_neg (by omega), if_pos rfl]
          · rw [if_neg h1, if_neg h1]]
        exact h4
    exact h3 R (Nat.le_refl _)
/-- g divides all minors of k rows. -/
def DvAll (k R C : Nat) (g : Int) (M : Mx) : Prop := ∀ f h, Inc k R f → Inc k C h → g ∣ det k fun i j => M (f i) (h j)
theorem DvAll.mul {k S : Nat} {g : Int} (h : DvAll k R C g M) (X : Mx) : DvAll k S C g (DT.mul R X M) := fun f h2 hf hh =>
  mul_dvd (R := R) (fun i => X (f i)) (fun a b => M a (h2 b)) (any_rows (fun a b => M a (h2 b)) fun f' hf' => h f' h2 hf' hh)
theorem DvAll.ext {k : Nat} {g : Int} (h : DvAll k R C g M) (e : ∀ i j, i < R → j < C → M i j = N i j) : DvAll k R C g N := fun f h2 hf hh => by
  have := h f h2 hf hh
  rwa [det_ext fun i j hi hj => e _ _ (hf.lt i hi) (hh.lt j hj)] at this
/-! ### Triangles, diagonals -/
theorem det_tri : ∀ (n : Nat) (M : Mx), (∀ i j, i < n → j < n → j < i → M i j = 0) → det n M = prodN n fun i => M i i := by
  intro n
  induction n with
  | zero => intro M _; rfl
  | succ n ih =>
    intro M h0
    rw [det_row n M (i := n) (by omega), sum_one (i := n) (by omega) fun k hk hne => by rw [h0 n k (by omega) hk (by omega)]; simp]
    rw [show sgn (n + n) = 1 by rw [sgn_add, sgn_sq], Int.one_mul, Int.mul_comm]
    show _ = prodN n (fun i => M i i) * M n n
    congr 1
    rw [det_ext (N := M) fun i j hi hj => by unfold minor2 skip; rw [if_pos hi, if_pos hj]]
    exact ih M fun i j hi hj => h0 i j (by omega) (by omega)
theorem prod_ext {n : Nat} {f g : Nat → Int} (h : ∀ k, k < n → f k = g k) : prodN n f = prodN n g := by
  induction n with
  | zero => rfl
  | succ n ih => simp only [prodN]; rw [ih fun k hk => h k (by omega), h n (by omega)]
theorem prod_dvd {n : Nat} {f g : Nat → Int} (h : ∀ k, k < n → f k ∣ g k) : prodN n f ∣ prodN n g := by
  induction n with
  | zero => exact Int.dvd_refl _
  | succ n ih => exact Int.mul_dvd_mul (ih fun k hk => h k (by omega)) (h n (by omega))
/-- Each row's factor comes out. -/
theorem det_rows (n : Nat) (c : Nat → Int) (M : Mx) : det n (fun i j => c i * M i j) = prodN n c * det n M := by
  have e : det n (fun i j => c i * one i j) = prodN n c := by
    rw [det_tri n _ fun i j _ _ hij => by rw [one_ne (by omega)]; simp]
    exact prod_ext fun i _ => by rw [one_self, Int.mul_one]
  rw [← e, ← det_mul]
  refine det_ext fun i j hi hj => ?_
  unfold mul
  rw [sum_one (i := i) hi fun l hl hne => by dsimp only; rw [one_ne (fun e => hne e.symm)]; simp]; dsimp only; rw [one_self, Int.mul_one]
theorem Inc.ge {k n : Nat} {f : Nat → Nat} (h : Inc k n f) : ∀ i, i < k → i ≤ f i
  | 0, _ => Nat.zero_le _
  | i + 1, hi => by have := Inc.ge h i (by omega); have := h.up i hi; omega
/-- Smith's form. -/
structure Smi (R C : Nat) (d : Nat → Int) (M : Mx) : Prop where
  off : ∀ i j, i < R → j < C → i ≠ j → M i j = 0
  on : ∀ i, i < R → i < C → M i i = d i
  nonneg : ∀ i, i < R → i < C → 0 ≤ d i
  chain : ∀ i, i + 1 < R → i + 1 < C → d i ∣ d (i + 1)
theorem Smi.dvd {d : Nat → Int} (h : Smi R C d M) {i l : Nat} (hil : i ≤ l) (hR : l < R) (hC : l < C) : d i ∣ d l := by
  induction l with
  | zero => rw [show i = 0 by omega]; exact Int.dvd_refl _
  | succ l ih =>
    by_cases e : i = l + 1
    · subst e; exact Int.dvd_refl _
    · exact Int.dvd_trans (ih (by omega) (by omega) (by omega)) (h.chain l hR hC)
theorem Smi.all {d : Nat → Int} (h : Smi R C d M) {k : Nat} (hR : k ≤ R) (hC : k ≤ C) (g : Int) : DvAll k R C g M ↔ g ∣ prodN k d := by
  refine ⟨fun hg => ?_, fun hg f h2 hf hh => ?_⟩
  · have := hg (fun i => i) (fun i => i) ⟨fun _ _ => by omega, fun _ _ => by omega⟩ ⟨fun _ _ => by omega, fun _ _ => by omega⟩
    rw [det_tri k _ fun i j hi hj hij => h.off i j (by omega) (by omega) (by omega)] at this
    rwa [prod_ext fun i hi => h.on i (by omega) (by omega)] at this
  · refine Int.dvd_trans hg ?_
    rw [det_ext (N := fun i j => (if f i < C then d (f i) else 0) * if f i = h2 j then 1 else 0) fun i j hi hj => by
      by_cases e : f i = h2 j
      · have h3 := hh.lt j hj
        rw [if_pos e, if_pos (by omega), Int.mul_one, ← e, h.on _ (hf.lt i hi) (by omega)]
      · rw [if_neg e, Int.mul_zero, h.off _ _ (hf.lt i hi) (hh.lt j hj) e], det_rows]
    refine Int.dvd_trans (prod_dvd fun i hi => ?_) (Int.dvd_mul_right _ _)
    split
    · exact h.dvd (hf.ge i hi) (hf.lt i hi) (by assumption)
    · exact Int.dvd_zero _
theorem Smi.prod_nonneg {d : Nat → Int} (h : Smi R C d M) {k : Nat} (hR : k ≤ R) (hC : k ≤ C) : 0 ≤ prodN k d := DT.prod_nonneg fun i hi => h.nonneg i (by omega) (by omega)
/-! ### Pivots of rows in steps -/
/-- Columns all of which stand ahead of the row r's first number: no minor of more than r rows. -/
theorem Steps.minor_zero (h : Steps R C M) {r : Nat} {f : Nat → Nat} {k : Nat} (hr : r < k) {cols : Nat → Nat} (hf : Inc k R f) (hc : ∀ i j, r ≤ i → i < R → j < k → M i (cols j) = 0) : det k (fun i j => M (f i) (cols j)) = 0 := by
  have e := (det_alt k).zero (fun i j => M (f i) (cols j)) (i := k - 1) (by omega)
  rw [← e]
  refine det_ext fun i j hi hj => ?_
  unfold setr; split
  · rename_i h1; subst h1
    exact hc _ j (by have := hf.ge (k - 1) (by omega); omega) (hf.lt _ (by omega)) hj
  · rfl
end Go.Proofs.Ytcdkdanfiimlkaa.DT
end

section
/-! Pivots. -/
namespace Go.Proofs.Ytcdkdanfiimlkaa.DT
set_option linter.unusedVariables false
set_option linter.unusedSimpArgs false
variable {R C : Nat} {M N H K : Mx} {u v : Nat → Int}

/-- Some minor of these columns isn't 0. -/
def Som (R : Nat) (M : Mx) (k : Nat) (cols : Nat → Nat) : Prop := ∃ f, Inc k R f ∧ det k (fun i j => M (f i) (cols j)) ≠ 0
theorem Som.ext {k : Nat} {c c' : Nat → Nat} (e : ∀ j, j < k → c j = c' j) (h : Som R M k c) : Som R M k c' := by
  obtain ⟨f, hf, hd⟩ := h
  exact ⟨f, hf, by rwa [← det_ext (M := fun i j => M (f i) (c j)) fun i j _ hj => by rw [e j hj]]⟩
/-- Rows that are, times a number, sums of multiples of others have no more columns that go alone. -/
theorem Som.of {S k : Nat} {d : Int} (hd : d ≠ 0) {X : Mx} {c : Nat → Nat} (h : ∀ i j, i < R → j < k → d * M i (c j) = sumN S fun l => X i l * N l (c j)) (hs : Som R M k c) : Som S N k c := by
  obtain ⟨f, hf, hne⟩ := hs
  refine Classical.byContradiction fun hn => hne ?_
  have h1 : (0 : Int) ∣ det k (mul S (fun i => X (f i)) fun i j => N i (c j)) := mul_dvd _ _ (any_rows (fun i j => N i (c j)) fun f' hf' => by
    rw [Classical.byContradiction fun h2 => hn ⟨f', hf', h2⟩]; exact Int.dvd_refl 0)
  have h2 : det k (mul S (fun i => X (f i)) fun i j => N i (c j)) = 0 := Int.zero_dvd.mp h1
  rw [← det_ext (M := fun i j => d * M (f i) (c j)) (N := mul S (fun i => X (f i)) fun i j => N i (c j)) fun i j hi hj => h (f i) j (hf.lt i hi) hj, det_scale] at h2
  exact (Int.mul_eq_zero.mp h2).resolve_left (pow_ne hd k)
/-- The columns below c that hang on none ahead. -/
noncomputable def piv (R : Nat) (M : Mx) : Nat → List Nat
  | 0 => []
  | c + 1 => open Classical in if Som R M (piv R M c).length.succ (fun j => (piv R M c ++ [c]).getD j 0) then piv R M c ++ [c] else piv R M c
theorem piv_yes {c : Nat} (h : Som R M ((piv R M c).length + 1) fun j => (piv R M c ++ [c]).getD j 0) : piv R M (c + 1) = piv R M c ++ [c] := by
  simp only [piv]; rw [if_pos h]
theorem piv_no {c : Nat} (h : ¬ Som R M ((piv R M c).length + 1) fun j => (piv R M c ++ [c]).getD j 0) : piv R M (c + 1) = piv R M c := by
  simp only [piv]; rw [if_neg h]
theorem piv_lt : ∀ (c : Nat), ∀ x ∈ piv R M c, x < c
  | 0, x, h => by simp [piv] at h
  | c + 1, x, h => by
    by_cases hs : Som R M ((piv R M c).length + 1) fun j => (piv R M c ++ [c]).getD j 0
    · rw [piv_yes hs, List.mem_append] at h
      rcases h with h | h
      · have := piv_lt c x h; omega
      · simp at h; omega
    · rw [piv_no hs] at h; have := piv_lt c x h; omega
theorem getD_lt {l : List Nat} {c n : Nat} (h : ∀ x ∈ l, x < n) (hc : c < n) (j : Nat) : (l ++ [c]).getD j 0 < n := by
  rw [List.getD_eq_getElem?_getD]
  rcases Nat.lt_or_ge j (l ++ [c]).length with h1 | h1
  · rw [List.getElem?_eq_getElem h1, Option.getD_some]
    have := List.getElem_mem h1
    rw [List.mem_append] at this
    rcases this with h2 | h2
    · exact h _ h2
    · simp at h2; omega
  · rw [List.getElem?_eq_none h1]; simp; omega
theorem piv_len_le : ∀ c, (piv R M c).length ≤ R := by
  intro c
  induction c with
  | zero => exact Nat.zero_le _
  | succ c ih =>
    by_cases hs : Som R M ((piv R M c).length + 1) fun j => (piv R M c ++ [c]).getD j 0
    · rw [piv_yes hs, List.length_append]
      obtain ⟨f, hf, _⟩ := hs
      have h1 := hf.ge (piv R M c).length (by omega)
      have h2 := hf.lt (piv R M c).length (by omega)
      simp; omega
    · rw [piv_no hs]; exact ih
end Go.Proofs.Ytcdkdanfiimlkaa.DT
end

section
/-! Ranks, kernels. -/
namespace Go.Proofs.Ytcdkdanfiimlkaa.DT
set_option linter.unusedVariables false
set_option linter.unusedSimpArgs false
variable {R C : Nat} {M N H K : Mx} {u v : Nat → Int}

/-- The rank. -/
noncomputable def rk (R C : Nat) (M : Mx) : Nat := (piv R M C).length
theorem Inc.skip {k n : Nat} {f : Nat → Nat} (h : Inc (k + 1) n f) (m : Nat) (hm : m < k + 1) : Inc k n fun i => f (DT.skip m i) := by
  refine ⟨fun i hi => ?_, fun i hi => ?_⟩
  · unfold DT.skip
    by_cases h1 : i + 1 < m
    · rw [if_pos h1, if_pos (by omega)]; exact h.up i (by omega)
    · by_cases h2 : i < m
      · rw [if_pos h2, if_neg h1]; exact Nat.lt_trans (h.up i (by omega)) (h.up (i + 1) (by omega))
      · rw [if_neg h2, if_neg h1]; exact h.up (i + 1) (by omega)
  · unfold DT.skip; split
    · exact h.lt i (by omega)
    · exact h.lt (i + 1) (by omega)
/-! ### Left kernels -/
/-! ### A minor's multiples, the index -/
end Go.Proofs.Ytcdkdanfiimlkaa.DT
end
