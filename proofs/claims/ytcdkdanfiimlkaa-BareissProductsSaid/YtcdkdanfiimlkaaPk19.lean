/-
  DetB DetC LatA
-/
import Derived.Test.YtcdkdanfiimlkaaPk18

section
/-! Cofactors, blocks, Bareiss' step. -/
namespace Go.Proofs.Ytcdkdanfiimlkaa.DT
set_option linter.unusedVariables false
set_option linter.unusedSimpArgs false

/-- The rows' places, the row i moved to the place m. -/
def idx (i m a : Nat) : Nat := if a < m then a else if a = m then i else if a ≤ i then a - 1 else a
theorem AltM.move {n : Nat} {D : Mx → Int} (h : AltM n D) (M : Mx) {i : Nat} (hi : i < n) : ∀ m, m ≤ i → D (fun a => M (idx i 0 a)) = sgn m * D (fun a => M (idx i m a))
  | 0, _ => by simp [sgn]
  | m + 1, hm => by
    rw [AltM.move h M hi m (by omega)]
    have e := h.swap1 (fun a => M (idx i m a)) (i := m) (by omega)
    have e2 : D (fun a => M (idx i (m + 1) a)) = D (setr (setr (fun a => M (idx i m a)) m (M (idx i m (m + 1)))) (m + 1) (M (idx i m m))) := h.ext _ _ fun a j ha hj => by
      simp only [setr]
      by_cases h1 : a = m + 1
      · subst h1; rw [if_pos rfl, show idx i (m + 1) (m + 1) = i by unfold idx; simp, show idx i m m = i by unfold idx; simp]
      · rw [if_neg h1]
        by_cases h2 : a = m
        · subst h2; rw [if_pos rfl, show idx i (a + 1) a = a by unfold idx; simp, show idx i a (a + 1) = a by unfold idx; rw [if_neg (by omega), if_neg (by omega), if_pos hm]; omega]
        · rw [if_neg h2, show idx i (m + 1) a = idx i m a by unfold idx; repeat' split
                                                             all_goals first | rfl | (exfalso; omega)]
    rw [e2, e]; simp only [sgn]; grind
theorem idx_self (i a : Nat) : idx i i a = a := by
  unfold idx; repeat' split
  all_goals omega
theorem idx_zero (i a : Nat) : idx i 0 (a + 1) = skip i a := by
  unfold idx skip; repeat' split
  all_goals omega
/-- Without the row i and the column k. -/
def minor2 (M : Mx) (i k : Nat) : Mx := fun a b => M (skip i a) (skip k b)
/-- By the row i. -/
theorem det_row (n : Nat) (M : Mx) {i : Nat} (hi : i < n + 1) : det (n + 1) M = sumN (n + 1) fun k => sgn (i + k) * M i k * det n (minor2 M i k) := by
  have e := (det_alt (n + 1)).move M hi i (Nat.le_refl _)
  have e1 : det (n + 1) (fun a => M (idx i i a)) = det (n + 1) M := det_ext fun a b _ _ => by rw [idx_self]
  rw [e1] at e
  have e2 : det (n + 1) M = sgn i * det (n + 1) fun a => M (idx i 0 a) := by rw [e, ← Int.mul_assoc, sgn_sq, Int.one_mul]
  rw [e2, det_succ, ← sum_mul]
  refine sum_ext fun k hk => ?_
  have e3 : minor (fun a => M (idx i 0 a)) k = minor2 M i k := by
    funext a b; show M (idx i 0 (a + 1)) (skip k b) = M (skip i a) (skip k b); rw [idx_zero]
  rw [e3, sgn_add, show idx i 0 0 = i by unfold idx; simp]; grind
/-- The cofactor. -/
def cof (n : Nat) (M : Mx) (i k : Nat) : Int := sgn (i + k) * det n (minor2 M i k)
theorem cof_same (n : Nat) (M : Mx) {i : Nat} (hi : i < n + 1) : sumN (n + 1) (fun k => M i k * cof n M i k) = det (n + 1) M := by
  rw [det_row n M hi]; exact sum_ext fun k _ => by unfold cof; grind
theorem cof_other (n : Nat) (M : Mx) {i r : Nat} (hi : i < n + 1) (hr : r < n + 1) (hne : r ≠ i) : sumN (n + 1) (fun k => M r k * cof n M i k) = 0 := by
  have e := cof_same n (setr M i (M r)) hi
  rw [(det_alt (n + 1)).same' _ hi hr (fun e => hne e.symm) fun j _ => by unfold setr; rw [if_pos rfl, if_neg hne]] at e
  rw [← e]
  refine sum_ext fun k _ => ?_
  have e1 : minor2 (setr M i (M r)) i k = minor2 M i k := by
    funext a b; unfold minor2 setr; rw [if_neg (skip_ne i a)]
  unfold cof
  rw [e1]; unfold setr; rw [if_pos rfl]
theorem cof_T (n : Nat) (M : Mx) (i k : Nat) : cof n (fun a b => M b a) i k = cof n M k i := by
  unfold cof
  rw [Nat.add_comm i k, ← det_T n (minor2 M k i)]; rfl
/-- The same by columns. -/
theorem cof_col (n : Nat) (M : Mx) {j k : Nat} (hj : j < n + 1) (hk : k < n + 1) : sumN (n + 1) (fun a => M a j * cof n M a k) = if j = k then det (n + 1) M else 0 := by
  have e : sumN (n + 1) (fun a => M a j * cof n M a k) = sumN (n + 1) fun a => (fun a b => M b a) j a * cof n (fun a b => M b a) k a := sum_ext fun a _ => by rw [cof_T]
  rw [e]
  split
  · rename_i e; subst e; exact (cof_same n (fun a b => M b a) hj).trans (det_T _ _)
  · rename_i h; exact cof_other n (fun a b => M b a) hk hj h
/-- Each row is, times the determinant, a sum of multiples. -/
theorem cramer (k : Nat) (P : Mx) (r : Nat → Int) : ∃ x : Nat → Int, ∀ j, j < k → sumN k (fun a => x a * P a j) = det k P * r j := by
  cases k with
  | zero => exact ⟨fun _ => 0, fun j h => by omega⟩
  | succ n =>
    refine ⟨fun a => sumN (n + 1) fun k => r k * cof n P a k, fun j hj => ?_⟩
    have e : sumN (n + 1) (fun a => (sumN (n + 1) fun k => r k * cof n P a k) * P a j) = sumN (n + 1) fun k => r k * sumN (n + 1) fun a => P a j * cof n P a k := by
      rw [sum_ext (g := fun a => sumN (n + 1) fun k => r k * (P a j * cof n P a k)) fun a _ => by rw [← sum_mul']; exact sum_ext fun k _ => by grind]
      rw [sum_comm]
      exact sum_ext fun k _ => sum_mul _ _ _
    rw [e, sum_ext (g := fun k => r k * if j = k then det (n + 1) P else 0) fun k hk => by rw [cof_col n P hj hk]]
    rw [sum_one hj fun k _ hne => by rw [if_neg (fun e => hne e.symm)]; simp, if_pos rfl, Int.mul_comm]

/-! ### Blocks -/
/-- A over B, C beside A, noughts beside B. -/
def blk (k : Nat) (A C B : Mx) : Mx := fun i j => if i < k then (if j < k then A i j else C i (j - k)) else if j < k then 0 else B (i - k) (j - k)
theorem det_upper : ∀ (n : Nat) (M : Mx), (∀ i j, i < n → j < n → j < i → M i j = 0) → (∀ i, i < n → M i i = 1) → det n M = 1
  | 0, _, _, _ => rfl
  | n + 1, M, h0, h1 => by
    rw [← det_T, det_succ, sum_one (i := 0) (by omega) fun k hk hne => by rw [h0 k 0 hk (by omega) (by omega)]; simp]
    rw [det_ext (N := fun i j => M (j + 1) (i + 1)) fun i j _ _ => by unfold minor skip; simp, det_T n fun i j => M (i + 1) (j + 1), det_upper n (fun i j => M (i + 1) (j + 1)) (fun i j hi hj hij => h0 _ _ (by omega) (by omega) (by omega)) (fun i hi => h1 _ (by omega)), h1 0 (by omega)]
    rfl
theorem sum_split (k m : Nat) (f : Nat → Int) : sumN (k + m) f = sumN k f + sumN m fun l => f (k + l) := by
  induction m with
  | zero => simp [sumN]
  | succ m ih => rw [← Nat.add_assoc]; simp only [sumN, ih]; omega
theorem blk_ll {k : Nat} (A C B : Mx) {i j : Nat} (hi : i < k) (hj : j < k) : blk k A C B i j = A i j := by unfold blk; rw [if_pos hi, if_pos hj]
theorem blk_lr {k : Nat} (A C B : Mx) {i j : Nat} (hi : i < k) (hj : ¬ j < k) : blk k A C B i j = C i (j - k) := by unfold blk; rw [if_pos hi, if_neg hj]
theorem blk_rl {k : Nat} (A C B : Mx) {i j : Nat} (hi : ¬ i < k) (hj : j < k) : blk k A C B i j = 0 := by unfold blk; rw [if_neg hi, if_pos hj]
theorem blk_rr {k : Nat} (A C B : Mx) {i j : Nat} (hi : ¬ i < k) (hj : ¬ j < k) : blk k A C B i j = B (i - k) (j - k) := by unfold blk; rw [if_neg hi, if_neg hj]
theorem one_self (i : Nat) : one i i = 1 := by unfold one; rw [if_pos rfl]
theorem one_ne {i j : Nat} (h : i ≠ j) : one i j = 0 := by unfold one; rw [if_neg h]
theorem det_blk1 (k m : Nat) (C : Mx) : det (k + m) (blk k one C one) = 1 := by
  refine det_upper _ _ (fun i j hi hj hij => ?_) (fun i hi => ?_)
  · by_cases h1 : i < k
    · rw [blk_ll _ _ _ h1 (by omega)]; exact one_ne (by omega)
    · by_cases h2 : j < k
      · exact blk_rl _ _ _ h1 h2
      · rw [blk_rr _ _ _ h1 h2]; exact one_ne (by omega)
  · by_cases h1 : i < k
    · rw [blk_ll _ _ _ h1 h1]; exact one_self _
    · rw [blk_rr _ _ _ h1 h1]; exact one_self _
theorem det_blk2 (k m : Nat) (A : Mx) : det (k + m) (blk k A (fun _ _ => 0) one) = det k A := by
  have h : AltM k fun A => det (k + m) (blk k A (fun _ _ => 0) one) :=
    { ext := fun M N he => det_ext fun i j hi hj => by
        unfold blk; repeat' split
        · exact he i j (by assumption) (by assumption)
        all_goals rfl
      lin := fun M i u v c hi => by
        have e : ∀ w : Nat → Int, blk k (setr M i w) (fun _ _ => 0) one = setr (blk k M (fun _ _ => 0) one) i fun j => if j < k then w j else 0 := fun w => by
          funext a b
          by_cases h1 : a = i
          · subst h1
            by_cases h2 : b < k
            · rw [blk_ll _ _ _ hi h2]; simp only [setr, if_true, if_pos h2]
            · rw [blk_lr _ _ _ hi h2]; simp only [setr, if_true, if_neg h2]
          · simp only [blk, setr, if_neg h1]
        rw [e, e, e, ← (det_alt (k + m)).lin _ _ _ _ c (by omega)]
        congr 2
        funext j
        by_cases h2 : j < k
        · simp only [if_pos h2]
        · simp only [if_neg h2]; simp
      alt := fun M i hi he => (det_alt (k + m)).alt _ i (by omega) fun j hj => by
        by_cases h2 : j < k
        · rw [blk_ll _ _ _ (by omega) h2, blk_ll _ _ _ hi h2]; exact he j h2
        · rw [blk_lr _ _ _ (by omega) h2, blk_lr _ _ _ hi h2] }
  have := alt_det k _ h A
  rw [det_blk1, Int.mul_one] at this
  exact this
theorem det_blk3 (k m : Nat) (A C : Mx) : det (k + m) (blk k A C one) = det k A := by
  rw [← det_blk2 k m A, ← Int.one_mul (det (k + m) (blk k A (fun _ _ => 0) one)), ← det_blk1 k m C, ← det_mul]
  refine det_ext fun i j hi hj => ?_
  unfold mul
  rw [sum_split]
  by_cases h1 : i < k
  · have e1 : sumN k (fun l => blk k one C one i l * blk k A (fun _ _ => 0) one l j) = blk k A (fun _ _ => 0) one i j := by
      rw [sum_one h1 fun l hl hne => by rw [blk_ll _ _ _ h1 hl, one_ne (fun e => hne e.symm)]; simp, blk_ll _ _ _ h1 h1, one_self, Int.one_mul]
    rw [e1]
    by_cases h2 : j < k
    · rw [sum_zero fun l hl => by rw [blk_rl (i := k + l) _ _ _ (by omega) h2]; simp, blk_ll _ _ _ h1 h2, blk_ll _ _ _ h1 h2]; simp
    · rw [sum_one (i := j - k) (by omega) fun l hl hne => by rw [blk_rr (i := k + l) _ _ _ (by omega) h2, one_ne (by omega)]; simp]
      rw [blk_rr (i := k + (j - k)) _ _ _ (by omega) h2, show k + (j - k) - k = j - k by omega, one_self, show k + (j - k) = j by omega, blk_lr _ _ _ h1 h2, blk_lr _ _ _ h1 h2, blk_lr _ _ _ h1 h2]; simp
  · rw [sum_zero fun l hl => by rw [blk_rl _ _ _ h1 hl]; simp]
    rw [sum_one (i := i - k) (by omega) fun l hl hne => by rw [blk_rr _ _ _ h1 (by omega), one_ne (by omega)]; simp]
    rw [blk_rr (j := k + (i - k)) _ _ _ h1 (by omega), show k + (i - k) - k = i - k by omega, one_self, show k + (i - k) = i by omega]
    by_cases h2 : j < k
    · rw [blk_rl _ _ _ h1 h2, blk_rl _ _ _ h1 h2]; simp
    · rw [blk_rr _ _ _ h1 h2, blk_rr _ _ _ h1 h2]; simp
/-- The determinant of blocks. -/
theorem det_blk (k m : Nat) (A C B : Mx) : det (k + m) (blk k A C B) = det k A * det m B := by
  have h : AltM m fun B => det (k + m) (blk k A C B) :=
    { ext := fun M N he => det_ext fun i j hi hj => by
        by_cases h1 : i < k
        · unfold blk; simp only [if_pos h1]
        · by_cases h2 : j < k
          · rw [blk_rl _ _ _ h1 h2, blk_rl _ _ _ h1 h2]
          · rw [blk_rr _ _ _ h1 h2, blk_rr _ _ _ h1 h2]; exact he _ _ (by omega) (by omega)
      lin := fun M i u v c hi => by
        have e : ∀ w : Nat → Int, blk k A C (setr M i w) = setr (blk k A C M) (k + i) fun j => if j < k then 0 else w (j - k) := fun w => by
          funext a b
          by_cases h1 : a = k + i
          · subst h1
            by_cases h2 : b < k
            · rw [blk_rl _ _ _ (by omega) h2]; simp only [setr, if_true, if_pos h2]
            · rw [blk_rr _ _ _ (by omega) h2]; simp only [setr, if_true, if_neg h2, show k + i - k = i by omega]
          · by_cases h3 : a < k
            · simp only [blk, setr, if_neg h1, if_pos h3]
            · simp only [blk, setr, if_neg h1, if_neg h3, if_neg (show ¬ a - k = i by omega)]
        rw [e, e, e, ← (det_alt (k + m)).lin _ _ _ _ c (by omega)]
        congr 2
        funext j
        by_cases h2 : j < k
        · simp only [if_pos h2]; simp
        · simp only [if_neg h2]
      alt := fun M i hi he => (det_alt (k + m)).alt _ (k + i) (by omega) fun j hj => by
        by_cases h2 : j < k
        · rw [blk_rl _ _ _ (by omega) h2, blk_rl _ _ _ (by omega) h2]
        · rw [blk_rr _ _ _ (by omega) h2, blk_rr _ _ _ (by omega) h2, show k + i - k = i by omega, show k + i + 1 - k = i + 1 by omega]; exact he _ (by omega) }
  have := alt_det m _ h B
  rw [det_blk3] at this
  rw [this, Int.mul_comm]
end Go.Proofs.Ytcdkdanfiimlkaa.DT
end

section
/-! Bordered minors. -/
namespace Go.Proofs.Ytcdkdanfiimlkaa.DT
set_option linter.unusedVariables false
set_option linter.unusedSimpArgs false

theorem sum_sub (n : Nat) (f g : Nat → Int) : sumN n (fun k => f k - g k) = sumN n f - sumN n g := by
  induction n with
  | zero => rfl
  | succ n ih => simp only [sumN, ih]; omega
theorem det_diag (d : Int) : ∀ m, det m (fun a b => d * one a b) = d ^ m
  | 0 => by rw [Int.pow_zero]; rfl
  | m + 1 => by
    rw [det_succ, sum_one (i := 0) (by omega) fun k hk hne => by rw [one_ne (fun e => hne e.symm)]; simp]
    rw [det_ext (N := fun a b => d * one a b) fun i j _ _ => by
      show d * one (i + 1) (skip 0 j) = d * one i j
      rw [show skip 0 j = j + 1 by unfold skip; simp]
      by_cases e : i = j
      · subst e; rw [one_self, one_self]
      · rw [one_ne e, one_ne (by omega)], det_diag d m, one_self]
    show 1 * (d * 1) * d ^ m = d ^ (m + 1)
    rw [Int.pow_succ]; grind
/-- What is left of the rows below, when d times each is cleared by the rows above. -/
def rest (k : Nat) (d : Int) (G : Mx) (x : Mx) : Mx := fun t j => d * G (k + t) j - sumN k fun a => x t a * G a j
theorem schur (k m : Nat) (d : Int) (G x : Mx) (h : ∀ t j, t < m → j < k → sumN k (fun a => x t a * G a j) = d * G (k + t) j) :
    d ^ m * det (k + m) G = det k G * det m fun t s => rest k d G x t (k + s) := by
  have e1 : det (k + m) (blk k G (fun i j => G i (k + j)) fun t s => rest k d G x t (k + s)) = det (k + m) (mul (k + m) (fun i j => if i < k then one i j else if j < k then - x (i - k) j else d * one i j) G) := by
    refine det_ext fun i j hi hj => ?_
    unfold mul
    by_cases h1 : i < k
    · rw [sum_one (i := i) (by omega) fun l hl hne => by dsimp only; rw [if_pos h1, one_ne (fun e => hne e.symm)]; simp]; dsimp only; rw [if_pos h1, one_self, Int.one_mul]
      by_cases h2 : j < k
      · rw [blk_ll _ _ _ h1 h2]
      · rw [blk_lr _ _ _ h1 h2, show k + (j - k) = j by omega]
    · rw [sum_split]
      have e2 : sumN k (fun l => (if i < k then one i l else if l < k then - x (i - k) l else d * one i l) * G l j) = - sumN k fun a => x (i - k) a * G a j := by
        rw [← Int.neg_one_mul, ← sum_mul]
        exact sum_ext fun l hl => by rw [if_neg h1, if_pos hl]; grind
      have e3 : sumN m (fun l => (if i < k then one i (k + l) else if k + l < k then - x (i - k) (k + l) else d * one i (k + l)) * G (k + l) j) = d * G i j := by
        rw [sum_one (i := i - k) (by omega) fun l hl hne => by rw [if_neg h1, if_neg (by omega), one_ne (by omega)]; simp]
        rw [if_neg h1, if_neg (by omega), show k + (i - k) = i by omega, one_self, Int.mul_one]
      rw [e2, e3]
      by_cases h2 : j < k
      · rw [blk_rl _ _ _ h1 h2, h _ _ (by omega) h2, show k + (i - k) = i by omega]; omega
      · rw [blk_rr _ _ _ h1 h2]; unfold rest; rw [show k + (i - k) = i by omega, show k + (j - k) = j by omega]; omega
  rw [det_blk, det_mul, ← det_T (k + m) (fun i j => if i < k then one i j else if j < k then - x (i - k) j else d * one i j)] at e1
  rw [det_ext (M := fun i j => if j < k then one j i else if i < k then - x (j - k) i else d * one j i) (N := blk k one (fun i j => - x j i) fun i j => d * one i j) fun i j hi hj => by
    by_cases h1 : i < k
    · by_cases h2 : j < k
      · rw [blk_ll _ _ _ h1 h2, if_pos h2]; unfold one; by_cases e : i = j
        · subst e; rfl
        · rw [if_neg e, if_neg (fun e2 => e e2.symm)]
      · rw [blk_lr _ _ _ h1 h2, if_neg h2, if_pos h1]
    · by_cases h2 : j < k
      · rw [blk_rl _ _ _ h1 h2, if_pos h2, one_ne (by omega)]
      · rw [blk_rr _ _ _ h1 h2, if_neg h2, if_neg h1]; unfold one; by_cases e : i = j
        · subst e; simp
        · rw [if_neg (fun e2 => e e2.symm), if_neg (by omega)], det_blk, det_one, det_diag, Int.one_mul] at e1
  exact e1.symm
/-- The first k rows and columns, with the row i and the column j. -/
def bord (k : Nat) (G : Mx) (i j : Nat) : Mx := fun a b => G (if a < k then a else i) (if b < k then b else j)
def bd (k : Nat) (G : Mx) (i j : Nat) : Int := det (k + 1) (bord k G i j)
theorem det_bord (k : Nat) (G : Mx) (i j : Nat) : det k (bord k G i j) = det k G := det_ext fun a b ha hb => by unfold bord; rw [if_pos ha, if_pos hb]
theorem bd_rest (k : Nat) (G : Mx) (i j : Nat) (x : Nat → Int) (h : ∀ b, b < k → sumN k (fun a => x a * G a b) = det k G * G i b) :
    det k G * bd k G i j = det k G * (det k G * G i j - sumN k fun a => x a * G a j) := by
  have e := schur k 1 (det k G) (bord k G i j) (fun _ => x) fun t b ht hb => by
    rw [sum_ext (g := fun a => x a * G a b) fun a ha => by unfold bord; rw [if_pos ha, if_pos hb], h b hb]
    unfold bord; rw [if_neg (by omega), if_pos hb]
  rw [det_bord, Int.pow_succ, Int.pow_zero, Int.one_mul] at e
  rw [bd, e]; congr 1
  rw [det_succ]; simp only [sumN, sgn, det, minor]
  unfold rest
  rw [sum_ext (g := fun a => x a * G a j) fun a ha => by unfold bord; rw [if_pos ha, if_neg (by omega)]]
  unfold bord; rw [if_neg (by omega), if_neg (by omega)]; omega
/-- A row, times the minor, is a sum of multiples of the first k, and what the bordered minors tell. -/
theorem bd_row (k : Nat) (G : Mx) (i : Nat) (hd : det k G ≠ 0) : ∃ x : Nat → Int, ∀ j, bd k G i j = det k G * G i j - sumN k fun a => x a * G a j := by
  obtain ⟨x, hx⟩ := cramer k G (G i)
  exact ⟨x, fun j => Int.eq_of_mul_eq_mul_left hd (bd_rest k G i j x hx)⟩
/-- A bordered minor by a column or a row that is there already. -/
theorem bd_col (k : Nat) (G : Mx) (i : Nat) {j : Nat} (hj : j < k) : bd k G i j = 0 := by
  unfold bd
  rw [← det_T]
  exact (det_alt (k + 1)).same' _ (i := j) (k := k) (by omega) (by omega) (by omega) fun a ha => by
    unfold bord; simp [hj]
/-- Sylvester's identity. -/
theorem sylvester (k m : Nat) (G : Mx) (hd : det k G ≠ 0) : det k G ^ m * det (k + m) G = det k G * det m fun t s => bd k G (k + t) (k + s) := by
  have e : ∀ t, ∃ x : Nat → Int, (∀ b, b < k → sumN k (fun a => x a * G a b) = det k G * G (k + t) b) ∧ ∀ j, bd k G (k + t) j = det k G * G (k + t) j - sumN k fun a => x a * G a j := fun t => by
    obtain ⟨x, hx⟩ := cramer k G (G (k + t))
    exact ⟨x, hx, fun j => Int.eq_of_mul_eq_mul_left hd (bd_rest k G (k + t) j x hx)⟩
  refine (schur k m (det k G) G (fun t => (e t).choose) fun t j _ hj => (e t).choose_spec.1 j hj).trans ?_
  congr 1
  exact det_ext fun t s _ _ => ((e t).choose_spec.2 (k + s)).symm
/-- Bareiss' step. -/
theorem bareiss (k : Nat) (G : Mx) (hd : det k G ≠ 0) : det k G * det (k + 2) G = bd k G k k * bd k G (k + 1) (k + 1) - bd k G k (k + 1) * bd k G (k + 1) k := by
  have e := sylvester k 2 G hd
  refine Int.eq_of_mul_eq_mul_left hd ?_
  rw [← Int.mul_assoc, show det k G * det k G = det k G ^ 2 by rw [Int.pow_succ, Int.pow_succ, Int.pow_zero, Int.one_mul], e]; congr 1
  simp [det_succ, sumN, sgn, minor, det, skip]
  grind
/-- The step at two rows, two columns of one's own. -/
theorem bareiss_at (k : Nat) (G : Mx) (hd : det k G ≠ 0) {i j : Nat} (hi : k ≤ i) (hj : k ≤ j) : det k G * bd (k + 1) G i j = bd k G k k * bd k G i j - bd k G k j * bd k G i k := by
  have e := bareiss k (bord (k + 1) G i j)
  have e0 : det k (bord (k + 1) G i j) = det k G := det_ext fun a b ha hb => by unfold bord; rw [if_pos (by omega), if_pos (by omega)]
  rw [e0] at e
  have e1 := e hd
  unfold bd
  rw [show k + 1 + 1 = k + 2 by omega, e1]
  unfold bd
  have f : ∀ u v, det (k + 1) (bord k (bord (k + 1) G i j) u v) = det (k + 1) (bord k G (if u < k + 1 then u else i) (if v < k + 1 then v else j)) := fun u v => det_ext fun a b ha hb => by
    unfold bord
    by_cases h1 : a < k
    · by_cases h2 : b < k
      · simp only [if_pos h1, if_pos h2, if_pos (show a < k + 1 by omega), if_pos (show b < k + 1 by omega)]
      · simp only [if_pos h1, if_neg h2, if_pos (show a < k + 1 by omega)]
    · by_cases h2 : b < k
      · simp only [if_neg h1, if_pos h2, if_pos (show b < k + 1 by omega)]
      · simp only [if_neg h1, if_neg h2]
  rw [f, f, f, f]
  simp only [if_pos (show k < k + 1 by omega), if_neg (show ¬ k + 1 < k + 1 by omega)]
theorem bd_self (k : Nat) (G : Mx) : bd k G k k = det (k + 1) G := det_ext fun a b ha hb => by
  unfold bord
  rw [show (if a < k then a else k) = a by split <;> omega, show (if b < k then b else k) = b by split <;> omega]

/-! ### Ranks -/
/-- A product through fewer than n is without a determinant. -/
theorem det_thin {n k : Nat} (hk : k < n) (X R : Mx) : det n (fun i j => sumN k fun a => X i a * R a j) = 0 := by
  have e : det n (fun i j => sumN k fun a => X i a * R a j) = det n (mul n (fun i a => if a < k then X i a else 0) R) := det_ext fun i j hi hj => by
    unfold mul
    rw [show n = k + (n - k) by omega, sum_split, sum_zero (n := n - k) fun l hl => by dsimp only; rw [if_neg (by omega)]; simp]
    rw [Int.add_zero]
    exact sum_ext fun a ha => by dsimp only; rw [if_pos ha]
  rw [e, det_mul, ← det_T]
  have e2 := (det_alt n).zero (fun i j => if i < k then X j i else 0) (i := n - 1) (by omega)
  rw [det_ext (N := setr (fun i j => if i < k then X j i else 0) (n - 1) fun _ => 0) fun i j hi hj => by
    unfold setr
    by_cases h : i = n - 1
    · rw [if_pos h, if_neg (by omega)]
    · rw [if_neg h], e2, Int.zero_mul]
theorem det_scale (d : Int) (M : Mx) (n : Nat) : det n (fun i j => d * M i j) = d ^ n * det n M := by
  rw [← det_diag, ← det_mul]
  refine det_ext fun i j hi hj => ?_
  unfold mul
  rw [sum_one (i := i) hi fun l hl hne => by dsimp only; rw [one_ne (fun e => hne e.symm)]; simp]; dsimp only; rw [one_self, Int.mul_one]
theorem pow_ne {d : Int} (h : d ≠ 0) : ∀ n : Nat, d ^ n ≠ 0
  | 0 => by simp
  | n + 1 => by rw [Int.pow_succ]; exact Int.mul_ne_zero (pow_ne h n) h
/-- Rows that are, times d, sums of multiples of k rows, have no greater minor. -/
theorem det_hang {n k : Nat} (hk : k < n) {d : Int} (hd : d ≠ 0) (M X R : Mx) (h : ∀ i j, i < n → j < n → d * M i j = sumN k fun a => X i a * R a j) : det n M = 0 := by
  have e : d ^ n * det n M = 0 := by
    rw [← det_scale, det_ext h]; exact det_thin hk X R
  exact (Int.mul_eq_zero.mp e).resolve_left (pow_ne hd n)
end Go.Proofs.Ytcdkdanfiimlkaa.DT
end

section
/-! Lattices, Hermite's form. -/
namespace Go.Proofs.Ytcdkdanfiimlkaa.DT
set_option linter.unusedVariables false
set_option linter.unusedSimpArgs false

variable {R C : Nat} {M N H K : Mx} {u v : Nat → Int}
/-- The place of the first number that isn't 0; C: none. -/
def fst : Nat → (Nat → Int) → Nat
  | 0, _ => 0
  | C + 1, u => if fst C u < C then fst C u else if u C = 0 then C + 1 else C
/-! ### Sums of multiples -/
def Lat (R C : Nat) (M : Mx) (v : Nat → Int) : Prop := ∃ x : Nat → Int, ∀ j, j < C → v j = sumN R fun i => x i * M i j
theorem Lat.row (R C : Nat) (M : Mx) {i : Nat} (hi : i < R) : Lat R C M (M i) :=
  ⟨fun a => if a = i then 1 else 0, fun j _ => by
    rw [sum_one hi fun l _ hne => by dsimp only; rw [if_neg hne]; simp]; dsimp only; rw [if_pos rfl, Int.one_mul]⟩
theorem Lat.zero (R C : Nat) (M : Mx) : Lat R C M fun _ => 0 := ⟨fun _ => 0, fun j _ => (sum_zero fun _ _ => by simp).symm⟩
theorem Lat.add (h : Lat R C M u) (h2 : Lat R C M v) : Lat R C M fun j => u j + v j := by
  obtain ⟨x, hx⟩ := h; obtain ⟨y, hy⟩ := h2
  exact ⟨fun i => x i + y i, fun j hj => by
    dsimp only; rw [hx j hj, hy j hj, ← sum_add]; exact sum_ext fun i _ => by grind⟩
theorem Lat.smul (h : Lat R C M u) (c : Int) : Lat R C M fun j => c * u j := by
  obtain ⟨x, hx⟩ := h
  exact ⟨fun i => c * x i, fun j hj => by dsimp only; rw [hx j hj, ← sum_mul]; exact sum_ext fun i _ => by grind⟩
theorem Lat.sub (h : Lat R C M u) (h2 : Lat R C M v) : Lat R C M fun j => u j - v j := by
  obtain ⟨x, hx⟩ := h; obtain ⟨y, hy⟩ := h2
  exact ⟨fun i => x i - y i, fun j hj => by
    dsimp only; rw [hx j hj, hy j hj, ← sum_sub]; exact sum_ext fun i _ => by grind⟩
theorem Lat.ext (h : Lat R C M u) (e : ∀ j, j < C → v j = u j) : Lat R C M v := by
  obtain ⟨x, hx⟩ := h; exact ⟨x, fun j hj => (e j hj).trans (hx j hj)⟩
theorem Lat.mul {R S C : Nat} (X M : Mx) {i : Nat} : Lat R C M (mul R X M i) := ⟨X i, fun j _ => rfl⟩

/-! ### Unimodular -/
/-! ### Hermite's form -/
structure Herm (R C : Nat) (M : Mx) : Prop where
  up : ∀ i, i + 1 < R → fst C (M (i + 1)) < C → fst C (M i) < fst C (M (i + 1))
  pos : ∀ i, i < R → fst C (M i) < C → 0 < M i (fst C (M i))
  red : ∀ i, i < R → fst C (M i) < C → ∀ r, r < i → 0 ≤ M r (fst C (M i)) ∧ M r (fst C (M i)) < M i (fst C (M i))
/-- Rows in steps: the first numbers that aren't 0 go to the right. -/
def Steps (R C : Nat) (M : Mx) : Prop := ∀ i l, i < l → l < R → fst C (M l) < C → fst C (M i) < fst C (M l)
theorem Steps.inj (h : Steps R C M) {i l : Nat} (hi : i < R) (hl : l < R) (hC : fst C (M i) < C) (e : fst C (M i) = fst C (M l)) : i = l := by
  rcases Nat.lt_trichotomy i l with h1 | h1 | h1
  · have := h i l h1 hl (by omega); omega
  · exact h1
  · have := h l i h1 hi hC; omega
end Go.Proofs.Ytcdkdanfiimlkaa.DT
end
