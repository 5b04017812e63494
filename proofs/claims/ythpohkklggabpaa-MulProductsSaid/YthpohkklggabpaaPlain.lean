/-
  Plain facts on naturals as lists of digits to any base (no program is named here): a list's number, the canonical list of a number, its significant length, order, and the steps of carrying loops.
-/
import Derived.WalkKit
import Derived.Lib.Hide
namespace Go.Proofs.Ythpohkklggabpaa

/-- The number of a list of digits, the least first. -/
def ev (b : Nat) : List Nat → Nat
  | [] => 0
  | x :: xs => x + b * ev b xs

/-- A digit; 0 behind the last one. -/
def nth (xs : List Nat) (k : Nat) : Nat := xs.getD k 0

/-- The number of the first k digits. -/
def pre (b : Nat) (xs : List Nat) (k : Nat) : Nat := ev b (xs.take k)

/-- All digits are below the base. -/
def Low (b : Nat) (xs : List Nat) : Prop := ∀ k, k < xs.length → nth xs k < b

/-- The significant length. -/
def sl : List Nat → Nat
  | [] => 0
  | x :: xs => if sl xs = 0 then (if x = 0 then 0 else 1) else sl xs + 1

/-- The canonical digits of a number, by fuel. -/
def cnf (b : Nat) : Nat → Nat → List Nat
  | 0, _ => []
  | f + 1, n => if n = 0 then [] else n % b :: cnf b f (n / b)

/-- The canonical digits of a number. -/
def cn (b n : Nat) : List Nat := cnf b n n

theorem nth_cons_zero (x : Nat) (xs : List Nat) : nth (x :: xs) 0 = x := by simp [nth]
theorem nth_cons_succ (x : Nat) (xs : List Nat) (k : Nat) : nth (x :: xs) (k + 1) = nth xs k := by simp [nth]
theorem nth_ge {xs : List Nat} {k : Nat} (h : xs.length ≤ k) : nth xs k = 0 := by simp [nth, List.getD, List.getElem?_eq_none h]
theorem nth_getElem {xs : List Nat} {k : Nat} (h : k < xs.length) : xs[k] = nth xs k := by simp [nth, List.getD, h]
theorem nth_getElem? {xs : List Nat} {k : Nat} (h : k < xs.length) : xs[k]? = some (nth xs k) := by simp [nth, List.getD, h]
theorem nth_nil (k : Nat) : nth [] k = 0 := by simp [nth]
theorem nth_append_left {xs ys : List Nat} {k : Nat} (h : k < xs.length) : nth (xs ++ ys) k = nth xs k := by simp [nth, List.getD, List.getElem?_append_left h]
theorem nth_append_right {xs ys : List Nat} {k : Nat} (h : xs.length ≤ k) : nth (xs ++ ys) k = nth ys (k - xs.length) := by simp [nth, List.getD, List.getElem?_append_right h]
theorem nth_take {xs : List Nat} {n k : Nat} (h : k < n) : nth (xs.take n) k = nth xs k := by simp [nth, List.getD, h]
theorem nth_take_ge {xs : List Nat} {n k : Nat} (h : n ≤ k) : nth (xs.take n) k = 0 := nth_ge (by simp; omega)
theorem nth_drop (xs : List Nat) (n k : Nat) : nth (xs.drop n) k = nth xs (n + k) := by simp [nth, List.getD, List.getElem?_drop]
theorem nth_replicate (n k : Nat) : nth (List.replicate n 0) k = 0 := by
  by_cases h : k < n
  · simp [nth, List.getD, h]
  · exact nth_ge (by simp; omega)
theorem nth_set_eq {xs : List Nat} {k v : Nat} (h : k < xs.length) : nth (xs.set k v) k = v := by simp [nth, List.getD, h]
theorem nth_set_ne {xs : List Nat} {k j v : Nat} (h : k ≠ j) : nth (xs.set k v) j = nth xs j := by simp [nth, List.getD, h]
theorem nth_snoc (xs : List Nat) (x : Nat) : nth (xs ++ [x]) xs.length = x := by rw [nth_append_right (Nat.le_refl _)]; simp [nth]
theorem ext_nth {xs ys : List Nat} (hl : xs.length = ys.length) (h : ∀ k, k < xs.length → nth xs k = nth ys k) : xs = ys := by
  apply List.ext_getElem hl
  intro k h1 h2
  rw [nth_getElem h1, nth_getElem h2]; exact h k h1

theorem ev_nil (b : Nat) : ev b [] = 0 := rfl
theorem ev_append (b : Nat) (xs ys : List Nat) : ev b (xs ++ ys) = ev b xs + b ^ xs.length * ev b ys := by
  induction xs with
  | nil => simp [ev]
  | cons x xs ih => simp only [List.cons_append, ev, ih, List.length_cons, Nat.pow_succ]; grind
theorem ev_snoc (b : Nat) (xs : List Nat) (x : Nat) : ev b (xs ++ [x]) = ev b xs + b ^ xs.length * x := by
  rw [ev_append]; simp [ev]
theorem ev_replicate (b n : Nat) : ev b (List.replicate n 0) = 0 := by
  induction n with
  | zero => rfl
  | succ n ih => simp [List.replicate_succ, ev, ih]
theorem take_succ_nth {xs : List Nat} {k : Nat} (h : k < xs.length) : xs.take (k + 1) = xs.take k ++ [nth xs k] := by
  rw [List.take_succ_eq_append_getElem h, nth_getElem h]
theorem pre_zero (b : Nat) (xs : List Nat) : pre b xs 0 = 0 := by simp [pre, ev]
theorem pre_succ (b : Nat) (xs : List Nat) (k : Nat) : pre b xs (k + 1) = pre b xs k + b ^ k * nth xs k := by
  unfold pre
  by_cases h : k < xs.length
  · rw [take_succ_nth h, ev_snoc, List.length_take, Nat.min_eq_left (by omega)]
  · rw [nth_ge (by omega), List.take_of_length_le (by omega), List.take_of_length_le (by omega)]; simp
theorem pre_ge (b : Nat) {xs : List Nat} {k : Nat} (h : xs.length ≤ k) : pre b xs k = ev b xs := by unfold pre; rw [List.take_of_length_le h]
theorem pre_len (b : Nat) (xs : List Nat) : pre b xs xs.length = ev b xs := pre_ge b (Nat.le_refl _)
theorem ev_split (b : Nat) (xs : List Nat) (k : Nat) (h : k ≤ xs.length) : ev b xs = pre b xs k + b ^ k * ev b (xs.drop k) := by
  have := ev_append b (xs.take k) (xs.drop k)
  rw [List.take_append_drop] at this
  rw [this]; unfold pre; simp [Nat.min_eq_left h]

theorem Low.nil (b : Nat) : Low b [] := fun k h => by simp at h
theorem Low.take {b : Nat} {xs : List Nat} (h : Low b xs) (k : Nat) : Low b (xs.take k) := fun j hj => by
  have hj' : j < k ∧ j < xs.length := by simp at hj; omega
  rw [nth_take hj'.1]; exact h j hj'.2
theorem Low.drop {b : Nat} {xs : List Nat} (h : Low b xs) (k : Nat) : Low b (xs.drop k) := fun j hj => by
  rw [nth_drop]; exact h _ (by simp at hj; omega)
theorem Low.tail {b x : Nat} {xs : List Nat} (h : Low b (x :: xs)) : Low b xs := fun j hj => by
  have := h (j + 1) (by simpa using hj); rwa [nth_cons_succ] at this
theorem Low.head {b x : Nat} {xs : List Nat} (h : Low b (x :: xs)) : x < b := by
  have := h 0 (by simp); rwa [nth_cons_zero] at this
theorem Low.snoc {b x : Nat} {xs : List Nat} (h : Low b xs) (hx : x < b) : Low b (xs ++ [x]) := fun j hj => by
  simp at hj
  by_cases hlt : j < xs.length
  · rw [nth_append_left hlt]; exact h j hlt
  · obtain rfl : j = xs.length := by omega
    rw [nth_snoc]; exact hx
theorem Low.any {b : Nat} {xs : List Nat} (h : Low b xs) (hb : 0 < b) (k : Nat) : nth xs k < b := by
  by_cases hk : k < xs.length
  · exact h k hk
  · rw [nth_ge (by omega)]; exact hb
theorem Low.of_any {b : Nat} {xs : List Nat} (h : ∀ k, nth xs k < b) : Low b xs := fun k _ => h k
theorem Low.replicate (b n : Nat) (hb : 0 < b) : Low b (List.replicate n 0) := fun k _ => by rw [nth_replicate]; exact hb
theorem Low.cons {b x : Nat} {xs : List Nat} (h : Low b xs) (hx : x < b) : Low b (x :: xs) := fun j hj => by
  cases j with
  | zero => rw [nth_cons_zero]; exact hx
  | succ j => rw [nth_cons_succ]; exact h j (by simpa using hj)
theorem ev_lt {b : Nat} {xs : List Nat} (h : Low b xs) : ev b xs < b ^ xs.length := by
  induction xs with
  | nil => simp [ev]
  | cons x xs ih =>
    have h1 := ih h.tail
    have h2 := h.head
    simp only [ev, List.length_cons, Nat.pow_succ]
    have : b * (ev b xs + 1) ≤ b * b ^ xs.length := Nat.mul_le_mul_left _ h1
    have e : b ^ xs.length * b = b * b ^ xs.length := Nat.mul_comm _ _
    have e2 : b * (ev b xs + 1) = b * ev b xs + b := Nat.mul_succ _ _
    omega
theorem pre_lt {b : Nat} {xs : List Nat} (h : Low b xs) (hb : 0 < b) (k : Nat) : pre b xs k < b ^ k := by
  have h1 := ev_lt (h.take k)
  have h2 : b ^ (xs.take k).length ≤ b ^ k := Nat.pow_le_pow_right hb (by simp; omega)
  unfold pre; omega

/-! ### the significant length -/
theorem sl_le (xs : List Nat) : sl xs ≤ xs.length := by
  induction xs with
  | nil => simp [sl]
  | cons x xs ih =>
    simp only [sl, List.length_cons]
    repeat' split
    all_goals omega
theorem sl_zero {xs : List Nat} {k : Nat} (h : sl xs ≤ k) : nth xs k = 0 := by
  induction xs generalizing k with
  | nil => exact nth_nil k
  | cons x xs ih =>
    cases k with
    | zero =>
      rw [nth_cons_zero]
      by_cases h0 : sl xs = 0
      · by_cases hx : x = 0
        · exact hx
        · simp [sl, h0, hx] at h
      · simp [sl, h0] at h
    | succ k => rw [nth_cons_succ]; apply ih; simp only [sl] at h; split at h <;> omega
theorem sl_top {xs : List Nat} (h : 0 < sl xs) : nth xs (sl xs - 1) ≠ 0 := by
  induction xs with
  | nil => simp [sl] at h
  | cons x xs ih =>
    by_cases h0 : sl xs = 0
    · by_cases hx : x = 0
      · simp [sl, h0, hx] at h
      · simp [sl, h0, hx, nth_cons_zero]
    · have e : sl (x :: xs) = sl xs + 1 := by simp [sl, h0]
      rw [e, Nat.add_sub_cancel]
      have := ih (by omega)
      obtain ⟨m, hm⟩ : ∃ m, sl xs = m + 1 := ⟨sl xs - 1, by omega⟩
      rw [hm, nth_cons_succ]; rw [hm, Nat.add_sub_cancel] at this; exact this
theorem sl_eq {xs : List Nat} {k : Nat} (h0 : ∀ j, k ≤ j → nth xs j = 0) (h1 : k = 0 ∨ nth xs (k - 1) ≠ 0) : sl xs = k := by
  rcases Nat.lt_trichotomy (sl xs) k with h | h | h
  · rcases h1 with h1 | h1
    · omega
    · exact absurd (sl_zero (by omega)) h1
  · exact h
  · exact absurd (h0 (sl xs - 1) (by omega)) (sl_top (by omega))
theorem ev_take_sl (b : Nat) (xs : List Nat) : ev b (xs.take (sl xs)) = ev b xs := by
  induction xs with
  | nil => simp
  | cons x xs ih =>
    by_cases h0 : sl xs = 0
    · rw [h0] at ih
      by_cases hx : x = 0
      · have e : sl (x :: xs) = 0 := by simp [sl, h0, hx]
        rw [e]; simp only [List.take_zero, ev] at ih ⊢; rw [← ih, hx]; simp
      · have e : sl (x :: xs) = 1 := by simp [sl, h0, hx]
        rw [e]; simp only [List.take_succ_cons, List.take_zero, ev] at ih ⊢; rw [← ih]
    · have e : sl (x :: xs) = sl xs + 1 := by simp [sl, h0]
      rw [e, List.take_succ_cons]; simp only [ev, ih]

/-! ### canonical digits -/
theorem cnf_mono (b : Nat) (hb : 2 ≤ b) : ∀ (f g n : Nat), n ≤ f → n ≤ g → cnf b f n = cnf b g n := by
  intro f
  induction f with
  | zero =>
    intro g n hf hg
    obtain rfl : n = 0 := by omega
    cases g <;> simp [cnf]
  | succ f ih =>
    intro g n hf hg
    cases g with
    | zero => obtain rfl : n = 0 := by omega
              simp [cnf]
    | succ g =>
      simp only [cnf]
      by_cases h : n = 0
      · simp [h]
      · have hd : n / b < n := Nat.div_lt_self (by omega) (by omega)
        rw [if_neg h, if_neg h, ih g (n / b) (by omega) (by omega)]
theorem cn_zero (b : Nat) : cn b 0 = [] := rfl
theorem cn_pos (b n : Nat) (hb : 2 ≤ b) (h : 0 < n) : cn b n = n % b :: cn b (n / b) := by
  unfold cn
  obtain ⟨m, rfl⟩ : ∃ m, n = m + 1 := ⟨n - 1, by omega⟩
  have hd : (m + 1) / b < m + 1 := Nat.div_lt_self (by omega) (by omega)
  rw [cnf, if_neg (by omega), cnf_mono b hb m ((m + 1) / b) ((m + 1) / b) (by omega) (Nat.le_refl _)]
theorem ev_cn (b n : Nat) (hb : 2 ≤ b) : ev b (cn b n) = n := by
  induction n using Nat.strongRecOn with
  | _ n ih =>
    by_cases h : n = 0
    · subst h; simp [cn_zero, ev]
    · have hd : n / b < n := Nat.div_lt_self (by omega) (by omega)
      rw [cn_pos b n hb (by omega), ev, ih _ hd]
      have := Nat.div_add_mod n b
      omega
theorem cn_low (b n : Nat) (hb : 2 ≤ b) : Low b (cn b n) := by
  induction n using Nat.strongRecOn with
  | _ n ih =>
    by_cases h : n = 0
    · subst h; exact Low.nil b
    · rw [cn_pos b n hb (by omega)]
      exact (ih _ (Nat.div_lt_self (by omega) (by omega))).cons (Nat.mod_lt _ (by omega))
theorem cn_ev (b : Nat) (hb : 2 ≤ b) (xs : List Nat) (h : Low b xs) : cn b (ev b xs) = xs.take (sl xs) := by
  induction xs with
  | nil => simp [ev, cn_zero]
  | cons x xs ih =>
    have hx := h.head
    have ih := ih h.tail
    by_cases hz : ev b (x :: xs) = 0
    · rw [hz, cn_zero]
      have h1 : x = 0 ∧ b * ev b xs = 0 := by simp only [ev] at hz; omega
      have h2 : ev b xs = 0 := by
        rcases Nat.mul_eq_zero.1 h1.2 with h | h
        · omega
        · exact h
      rw [h2, cn_zero] at ih
      have h3 : sl xs = 0 := by
        have := congrArg List.length ih
        have := sl_le xs
        simp at *; omega
      simp [sl, h3, h1.1]
    · rw [cn_pos b _ hb (by omega)]
      have e1 : ev b (x :: xs) % b = x := by simp only [ev]; rw [Nat.add_mul_mod_self_left, Nat.mod_eq_of_lt hx]
      have e2 : ev b (x :: xs) / b = ev b xs := by simp only [ev]; rw [Nat.add_mul_div_left _ _ (by omega), Nat.div_eq_of_lt hx]; omega
      rw [e1, e2, ih]
      by_cases h0 : sl xs = 0
      · have hx0 : x ≠ 0 := by
          intro hx0
          apply hz
          have := ev_take_sl b xs
          rw [h0] at this
          simp only [ev, List.take_zero] at this ⊢
          rw [← this, hx0]; simp
        simp [sl, h0, hx0]
      · simp [sl, h0]
theorem sl_cn (b n : Nat) (hb : 2 ≤ b) : sl (cn b n) = (cn b n).length := by
  have h := cn_ev b hb (cn b n) (cn_low b n hb)
  rw [ev_cn b n hb] at h
  have := congrArg List.length h
  have := sl_le (cn b n)
  simp at *; omega
theorem cn_of_norm (b : Nat) (hb : 2 ≤ b) {xs : List Nat} (h : Low b xs) (hn : sl xs = xs.length) : cn b (ev b xs) = xs := by
  rw [cn_ev b hb xs h, hn, List.take_length]
theorem sl_len (b : Nat) (hb : 2 ≤ b) {xs : List Nat} (h : Low b xs) : sl xs = (cn b (ev b xs)).length := by
  rw [cn_ev b hb xs h]; have := sl_le xs; simp; omega
theorem cn_nil_iff (b n : Nat) (hb : 2 ≤ b) : (cn b n).length = 0 ↔ n = 0 := by
  constructor
  · intro h
    by_cases hn : n = 0
    · exact hn
    · rw [cn_pos b n hb (by omega)] at h; simp at h
  · rintro rfl; rfl
theorem cn_len_lt (b n : Nat) (hb : 2 ≤ b) : n < b ^ (cn b n).length := by
  have := ev_lt (cn_low b n hb); rwa [ev_cn b n hb] at this
theorem cn_len_le (b n : Nat) (hb : 2 ≤ b) (h : 0 < n) : b ^ ((cn b n).length - 1) ≤ n := by
  have hl : 0 < (cn b n).length := by
    rcases Nat.eq_zero_or_pos (cn b n).length with h0 | h0
    · have := (cn_nil_iff b n hb).1 h0; omega
    · exact h0
  have ht := sl_top (xs := cn b n) (by rw [sl_cn b n hb]; exact hl)
  rw [sl_cn b n hb] at ht
  have hp := pre_succ b (cn b n) ((cn b n).length - 1)
  rw [Nat.sub_add_cancel hl, pre_len, ev_cn b n hb] at hp
  have : b ^ ((cn b n).length - 1) * 1 ≤ b ^ ((cn b n).length - 1) * nth (cn b n) ((cn b n).length - 1) := Nat.mul_le_mul_left _ (by omega)
  omega
theorem cn_len_of_lt (b n k : Nat) (hb : 2 ≤ b) (h : n < b ^ k) : (cn b n).length ≤ k := by
  by_cases hn : n = 0
  · subst hn; simp [cn_zero]
  · have h1 := cn_len_le b n hb (by omega)
    have h2 : b ^ ((cn b n).length - 1) < b ^ k := by omega
    have := (Nat.pow_lt_pow_iff_right (by omega : 1 < b)).1 h2
    omega
theorem cn_len_mono (b m n : Nat) (hb : 2 ≤ b) (h : m ≤ n) : (cn b m).length ≤ (cn b n).length :=
  cn_len_of_lt b m _ hb (Nat.lt_of_le_of_lt h (cn_len_lt b n hb))
theorem lt_of_len (b m n : Nat) (hb : 2 ≤ b) (h : (cn b m).length < (cn b n).length) : m < n := by
  rcases Nat.lt_or_ge m n with h1 | h1
  · exact h1
  · have := cn_len_mono b n m hb h1; omega

/-! ### order -/
/-- -1, 0 or 1. -/
def cmpN (m n : Nat) : Int := if m < n then -1 else if m = n then 0 else 1
theorem cmpN_lt {m n : Nat} (h : m < n) : cmpN m n = -1 := by simp [cmpN, h]
theorem cmpN_gt {m n : Nat} (h : n < m) : cmpN m n = 1 := by unfold cmpN; rw [if_neg (by omega), if_neg (by omega)]
theorem cmpN_eq {m n : Nat} (h : m = n) : cmpN m n = 0 := by subst h; simp [cmpN]

theorem lt_of_digit {b : Nat} {xs ys : List Nat} {i n : Nat} (hx : Low b xs) (hb : 0 < b) (hi : i < n) (hup : ∀ j, i < j → j < n → nth xs j = nth ys j) (h : nth xs i < nth ys i) : pre b xs n < pre b ys n := by
  obtain ⟨d, rfl⟩ : ∃ d, n = i + 1 + d := ⟨n - (i + 1), by omega⟩
  induction d with
  | zero =>
    rw [Nat.add_zero, pre_succ, pre_succ]
    have := pre_lt hx hb i
    have h2 : b ^ i * (nth xs i + 1) ≤ b ^ i * nth ys i := Nat.mul_le_mul_left _ h
    have h3 : b ^ i * (nth xs i + 1) = b ^ i * nth xs i + b ^ i := Nat.mul_succ _ _
    omega
  | succ d ih =>
    have h1 := ih (by omega) (fun j h1 h2 => hup j h1 (by omega))
    rw [← Nat.add_assoc, pre_succ, pre_succ, hup (i + 1 + d) (by omega) (by omega)]
    omega
theorem eq_of_digits {b : Nat} {xs ys : List Nat} {n : Nat} (h : ∀ j, j < n → nth xs j = nth ys j) : pre b xs n = pre b ys n := by
  induction n with
  | zero => rw [pre_zero, pre_zero]
  | succ n ih => rw [pre_succ, pre_succ, ih (fun j hj => h j (by omega)), h n (by omega)]

theorem set_end (zs : List Nat) (r v : Nat) : (zs ++ List.replicate (r + 1) 0).set zs.length v = (zs ++ [v]) ++ List.replicate r 0 := by
  rw [List.set_append_right _ _ (Nat.le_refl _)]
  simp [List.replicate_succ]
theorem Low.front {b : Nat} {xs : List Nat} (h : Low b xs) (n : Nat) : Low b (xs.take n) := h.take n
theorem Low.append {b : Nat} {xs ys : List Nat} (h : Low b xs) (k : Low b ys) : Low b (xs ++ ys) := fun j hj => by
  by_cases hlt : j < xs.length
  · rw [nth_append_left hlt]; exact h j hlt
  · rw [nth_append_right (by omega)]; exact k _ (by simp at hj; omega)

/-! ### carrying -/
/-- One step of a loop that adds digit by digit. -/
theorem carry_step {b k Z X Y s c c' x y : Nat} (hZ : Z + b ^ k * c = X + Y) (h : s + b * c' = x + y + c) : Z + b ^ k * s + b ^ (k + 1) * c' = X + b ^ k * x + (Y + b ^ k * y) := by
  rw [Nat.pow_succ]; grind
/-- One step of a loop that subtracts digit by digit. -/
theorem borrow_step {b k Z X Y s c c' x y : Nat} (hZ : Z + Y = X + b ^ k * c) (h : s + y + c = x + b * c') : Z + b ^ k * s + (Y + b ^ k * y) = X + b ^ k * x + b ^ (k + 1) * c' := by
  rw [Nat.pow_succ]; grind

/-- Digits that are being added: k of them done. -/
def Adding (b : Nat) (xs ys zs : List Nat) (k c : Nat) : Prop :=
  zs.length = k ∧ Low b zs ∧ c ≤ 1 ∧ ev b zs + b ^ k * c = pre b xs k + pre b ys k
theorem Adding.start (b : Nat) (xs ys : List Nat) : Adding b xs ys [] 0 0 := ⟨rfl, Low.nil b, by omega, by simp [ev, pre_zero]⟩
theorem Adding.step {b : Nat} {xs ys zs : List Nat} {k c : Nat} (hb : 2 ≤ b) (lx : Low b xs) (ly : Low b ys) (h : Adding b xs ys zs k c) :
    Adding b xs ys (zs ++ [(nth xs k + nth ys k + c) % b]) (k + 1) ((nth xs k + nth ys k + c) / b) := by
  obtain ⟨h1, h2, h3, h4⟩ := h
  have hx := lx.any (by omega) k
  have hy := ly.any (by omega) k
  refine ⟨by simp [h1], h2.snoc (Nat.mod_lt _ (by omega)), ?_, ?_⟩
  · have : (nth xs k + nth ys k + c) / b < 2 := (Nat.div_lt_iff_lt_mul (by omega)).2 (by omega)
    omega
  · rw [ev_snoc, pre_succ, pre_succ, h1]
    exact carry_step h4 (Nat.mod_add_div _ _)
theorem Adding.stop {b : Nat} {xs ys zs : List Nat} {k c : Nat} (hb : 2 ≤ b) (h : Adding b xs ys zs k c) (hx : xs.length ≤ k) (hy : ys.length ≤ k) :
    Low b (zs ++ [c]) ∧ ev b (zs ++ [c]) = ev b xs + ev b ys ∧ (zs ++ [c]).length = k + 1 := by
  obtain ⟨h1, h2, h3, h4⟩ := h
  rw [pre_ge b hx, pre_ge b hy] at h4
  exact ⟨h2.snoc (by omega), by rw [ev_snoc, h1]; exact h4, by simp [h1]⟩

/-- A product of a word that is being added: k words are done. -/
def Muling (b : Nat) (ms xs zs : List Nat) (x k c : Nat) : Prop :=
  zs.length = k ∧ Low b zs ∧ c < b ∧ ev b zs + b ^ k * c = pre b ms k + pre b xs k * x
theorem Muling.start {b : Nat} (hb : 0 < b) (ms xs : List Nat) (x : Nat) : Muling b ms xs [] x 0 0 := ⟨rfl, Low.nil b, hb, by simp [ev, pre_zero]⟩
theorem Muling.step {b : Nat} {ms xs zs : List Nat} {x k c s c' : Nat} (h : Muling b ms xs zs x k c) (hs : s < b) (hc : c' < b) (he : s + b * c' = nth ms k + nth xs k * x + c) :
    Muling b ms xs (zs ++ [s]) x (k + 1) c' := by
  obtain ⟨h1, h2, h3, h4⟩ := h
  refine ⟨by simp [h1], h2.snoc hs, hc, ?_⟩
  rw [ev_snoc, pre_succ, pre_succ, h1, Nat.pow_succ]
  grind
/-- A product of a word, and a word more. -/
def Scaling (b : Nat) (xs zs : List Nat) (x y k c : Nat) : Prop :=
  zs.length = k ∧ Low b zs ∧ c < b ∧ ev b zs + b ^ k * c = pre b xs k * x + y
theorem Scaling.start {b : Nat} (xs : List Nat) (x y : Nat) (hy : y < b) : Scaling b xs [] x y 0 y := ⟨rfl, Low.nil b, hy, by simp [ev, pre_zero]⟩
theorem Scaling.step {b : Nat} {xs zs : List Nat} {x y k c s c' : Nat} (h : Scaling b xs zs x y k c) (hs : s < b) (hc : c' < b) (he : s + b * c' = nth xs k * x + c) :
    Scaling b xs (zs ++ [s]) x y (k + 1) c' := by
  obtain ⟨h1, h2, h3, h4⟩ := h
  refine ⟨by simp [h1], h2.snoc hs, hc, ?_⟩
  rw [ev_snoc, pre_succ, h1, Nat.pow_succ]
  grind
theorem Scaling.stop {b : Nat} {xs zs : List Nat} {x y k c : Nat} (h : Scaling b xs zs x y k c) (hx : xs.length ≤ k) :
    Low b (zs ++ [c]) ∧ ev b (zs ++ [c]) = ev b xs * x + y ∧ (zs ++ [c]).length = k + 1 := by
  obtain ⟨h1, h2, h3, h4⟩ := h
  rw [pre_ge b hx] at h4
  exact ⟨h2.snoc h3, by rw [ev_snoc, h1]; exact h4, by simp [h1]⟩
theorem drop_nth {L : List Nat} {q : Nat} (h : q < L.length) : L.drop q = nth L q :: L.drop (q + 1) := by
  rw [List.drop_eq_getElem_cons h, nth_getElem h]
theorem set_mid {L zs : List Nat} {off k s : Nat} (hz : zs.length = k) (h : off + k < L.length) :
    (L.take off ++ zs ++ L.drop (off + k)).set (off + k) s = L.take off ++ (zs ++ [s]) ++ L.drop (off + (k + 1)) := by
  have hl : (L.take off ++ zs).length = off + k := by simp [hz]; omega
  have e := drop_nth h
  rw [List.set_append_right _ _ (by omega), hl, Nat.sub_self, e, List.set_cons_zero]
  simp [Nat.add_assoc]
theorem nth_mid {L zs : List Nat} {off k : Nat} (hz : zs.length = k) (h : off + k < L.length) : nth (L.take off ++ zs ++ L.drop (off + k)) (off + k) = nth L (off + k) := by
  have hl : (L.take off ++ zs).length = off + k := by simp [hz]; omega
  rw [nth_append_right (by omega), hl, Nat.sub_self, nth_drop, Nat.add_zero]
theorem length_mid {L zs : List Nat} {off k : Nat} (hz : zs.length = k) (h : off + k ≤ L.length) : (L.take off ++ zs ++ L.drop (off + k)).length = L.length := by
  simp [hz]; omega

/-- A product that is being made: i words of the second factor are done. -/
def Product (b : Nat) (xs ys Z : List Nat) (i : Nat) : Prop :=
  Z.length = xs.length + i ∧ Low b Z ∧ ev b Z = ev b xs * pre b ys i
theorem Product.start {b : Nat} (hb : 0 < b) (xs ys : List Nat) : Product b xs ys (List.replicate xs.length 0) 0 :=
  ⟨by simp, Low.replicate b _ hb, by rw [ev_replicate, pre_zero, Nat.mul_zero]⟩
theorem Product.step {b : Nat} {xs ys Z zs : List Nat} {i c r : Nat} (h : Product b xs ys Z i) (hm : Muling b ((Z ++ List.replicate r 0).drop i) xs zs (nth ys i) xs.length c) :
    Product b xs ys (Z.take i ++ zs ++ [c]) (i + 1) := by
  obtain ⟨h1, h2, h3⟩ := h
  obtain ⟨m1, m2, m3, m4⟩ := hm
  have hl : (Z.take i).length = i := by simp; omega
  have e1 : pre b ((Z ++ List.replicate r 0).drop i) xs.length = ev b (Z.drop i) := by
    rw [List.drop_append_of_le_length (by omega)]
    unfold pre
    rw [List.take_append_of_le_length (by simp; omega), List.take_of_length_le (by simp; omega)]
  have e2 := ev_split b Z i (by omega)
  rw [e1, pre_len] at m4
  refine ⟨by simp [m1]; omega, ((h2.take i).append m2).snoc m3, ?_⟩
  rw [ev_snoc, ev_append, pre_succ, List.length_append, hl, m1, Nat.pow_add]
  have e3 : ev b (Z.take i) = pre b Z i := rfl
  rw [e3]
  grind
theorem Product.stop {b : Nat} {xs ys Z : List Nat} {i : Nat} (h : Product b xs ys Z i) (hi : ys.length ≤ i) : ev b Z = ev b xs * ev b ys := by
  rw [h.2.2, pre_ge b hi]

/-- Digits that are being taken away: k of them done. -/
def Subbing (b : Nat) (xs ys zs : List Nat) (k c : Nat) : Prop :=
  zs.length = k ∧ Low b zs ∧ c ≤ 1 ∧ ev b zs + pre b ys k = pre b xs k + b ^ k * c
theorem Subbing.start (b : Nat) (xs ys : List Nat) : Subbing b xs ys [] 0 0 := ⟨rfl, Low.nil b, by omega, by simp [ev, pre_zero]⟩
theorem Subbing.step {b : Nat} {xs ys zs : List Nat} {k c s c' : Nat} (h : Subbing b xs ys zs k c) (hs : s < b) (hc : c' ≤ 1) (he : s + nth ys k + c = nth xs k + b * c') :
    Subbing b xs ys (zs ++ [s]) (k + 1) c' := by
  obtain ⟨h1, h2, h3, h4⟩ := h
  refine ⟨by simp [h1], h2.snoc hs, hc, ?_⟩
  rw [ev_snoc, pre_succ, pre_succ, h1]
  exact borrow_step h4 he
theorem Subbing.fits {b : Nat} {xs ys zs : List Nat} {k : Nat} (h : Subbing b xs ys zs k 0) (hx : xs.length ≤ k) (hy : ys.length ≤ k) :
    ev b ys ≤ ev b xs ∧ ev b zs = ev b xs - ev b ys := by
  obtain ⟨h1, h2, h3, h4⟩ := h
  rw [pre_ge b hx, pre_ge b hy] at h4
  omega
theorem Subbing.lacks {b : Nat} {xs ys zs : List Nat} {k : Nat} (h : Subbing b xs ys zs k 1) (hx : xs.length ≤ k) (hy : ys.length ≤ k) :
    ev b xs < ev b ys := by
  obtain ⟨h1, h2, h3, h4⟩ := h
  have := ev_lt h2
  rw [h1] at this
  rw [pre_ge b hx, pre_ge b hy] at h4
  omega
theorem set_end0 (zs : List Nat) (r v : Nat) : (zs ++ List.replicate (r + 1) 0).set zs.length v = (zs ++ [v]) ++ List.replicate r 0 := set_end zs r v
end Go.Proofs.Ythpohkklggabpaa
