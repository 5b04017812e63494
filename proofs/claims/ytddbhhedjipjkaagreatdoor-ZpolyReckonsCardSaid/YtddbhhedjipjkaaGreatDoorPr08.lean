/-
  MrA
-/
import Derived.KernelRfl

namespace Go.Proofs.YtddbhhedjipjkaaGreatDoor.MR
set_option linter.unusedVariables false
set_option linter.unusedSimpArgs false
def Pr (p : Nat) : Prop := 2 ≤ p ∧ ∀ d, d ∣ p → d = 1 ∨ d = p
theorem pr_factor : ∀ n : Nat, 2 ≤ n → ∃ p, Pr p ∧ p ∣ n := by
  intro n
  induction n using Nat.strongRecOn with
  | _ n ih =>
    intro h
    by_cases hp : Pr n
    · exact ⟨n, hp, Nat.dvd_refl n⟩
    · have : ∃ d, d ∣ n ∧ d ≠ 1 ∧ d ≠ n := by
        apply Classical.byContradiction
        intro hc
        refine hp ⟨h, fun d hd => ?_⟩
        by_cases h1 : d = 1
        · exact .inl h1
        · by_cases h2 : d = n
          · exact .inr h2
          · exact absurd ⟨d, hd, h1, h2⟩ hc
      obtain ⟨d, hd, h1, h2⟩ := this
      have hle := Nat.le_of_dvd (by omega) hd
      have h0 : d ≠ 0 := by intro h0; subst h0; have := Nat.eq_zero_of_zero_dvd hd; omega
      obtain ⟨p, hp', hpd⟩ := ih d (by omega) (by omega)
      exact ⟨p, hp', Nat.dvd_trans hpd hd⟩
theorem Pr.gcd {p a : Nat} (h : Pr p) (k : ¬ p ∣ a) : Nat.gcd p a = 1 := by
  rcases h.2 _ (Nat.gcd_dvd_left p a) with e | e
  · exact e
  · exact absurd (e ▸ Nat.gcd_dvd_right p a) k
theorem Pr.mul {p a b : Nat} (h : Pr p) (k : p ∣ a * b) : p ∣ a ∨ p ∣ b := by
  by_cases ha : p ∣ a
  · exact .inl ha
  · exact .inr (Nat.Coprime.dvd_of_dvd_mul_left (h.gcd ha) k)
theorem Pr.pow {p a : Nat} (h : Pr p) : ∀ k, p ∣ a ^ k → p ∣ a
  | 0, k => by rw [Nat.pow_zero] at k; have := Nat.le_of_dvd (by omega) k; have := h.1; omega
  | n + 1, k => by
    rw [Nat.pow_succ] at k
    rcases h.mul k with e | e
    · exact Pr.pow h n e
    · exact e
def prd : List Nat → Nat
  | [] => 1
  | x :: l => x * prd l
theorem prd_perm {l k : List Nat} (h : l.Perm k) : prd l = prd k := by
  induction h with
  | nil => rfl
  | cons x _ ih => simp [prd, ih]
  | swap x y l => simp only [prd]; rw [← Nat.mul_assoc, ← Nat.mul_assoc, Nat.mul_comm x y]
  | trans _ _ ih1 ih2 => rw [ih1, ih2]
theorem perm_of_sub : ∀ (l k : List Nat), l.Nodup → (∀ x ∈ l, x ∈ k) → l.length = k.length → l.Perm k
  | [], k, _, _, h => by cases k with | nil => exact .nil | cons => simp at h
  | x :: t, k, hn, hs, h => by
    have hx := hs x (by simp)
    have hp := List.perm_cons_erase hx
    refine .trans (.cons x ?_) hp.symm
    rw [List.nodup_cons] at hn
    refine perm_of_sub t (k.erase x) hn.2 ?_ ?_
    · intro y hy
      have : y ≠ x := fun e => hn.1 (e ▸ hy)
      exact (List.mem_erase_of_ne this).2 (hs y (by simp [hy]))
    · rw [List.length_erase_of_mem hx]; simp at h; omega
theorem prd_mod (p a : Nat) : ∀ l : List Nat, prd (l.map fun i => a * i % p) % p = a ^ l.length * prd l % p
  | [] => by simp [prd]
  | x :: l => by
    have ih := prd_mod p a l
    simp only [List.map_cons, prd, List.length_cons]
    rw [Nat.mul_mod, ih, Nat.mod_mod, ← Nat.mul_mod]
    congr 1
    rw [Nat.pow_succ]
    simp only [Nat.mul_assoc, Nat.mul_left_comm, Nat.mul_comm]
theorem prd_not {p : Nat} (h : Pr p) : ∀ l : List Nat, (∀ x ∈ l, ¬ p ∣ x) → ¬ p ∣ prd l
  | [], _ => fun k => by have := Nat.le_of_dvd (by simp [prd]) k; have := h.1; simp [prd] at *; omega
  | x :: l, hl => fun k => by
    rcases h.mul k with e | e
    · exact hl x (by simp) e
    · exact prd_not h l (fun y hy => hl y (by simp [hy])) e
theorem sub_dvd {p a b : Nat} (h : a % p = b % p) (hle : b ≤ a) : p ∣ a - b := by
  obtain ⟨c, rfl⟩ : ∃ c, a = b + c := ⟨a - b, by omega⟩
  rw [Nat.add_sub_cancel_left]
  have h2 := Nat.sub_mod_eq_zero_of_mod_eq h
  rw [Nat.add_sub_cancel_left] at h2
  exact Nat.dvd_of_mod_eq_zero h2
theorem inj_mul {p a i j : Nat} (h : Pr p) (ha : ¬ p ∣ a) (hi : i < p) (hj : j < p) (e : a * i % p = a * j % p) : i = j := by
  rcases Nat.le_total i j with hle | hle
  · have := sub_dvd e.symm (Nat.mul_le_mul_left a hle)
    rw [← Nat.mul_sub] at this
    rcases h.mul this with k | k
    · exact absurd k ha
    · rcases Nat.eq_zero_or_pos (j - i) with z | z
      · omega
      · have := Nat.le_of_dvd z k; omega
  · have := sub_dvd e (Nat.mul_le_mul_left a hle)
    rw [← Nat.mul_sub] at this
    rcases h.mul this with k | k
    · exact absurd k ha
    · rcases Nat.eq_zero_or_pos (i - j) with z | z
      · omega
      · have := Nat.le_of_dvd z k; omega
theorem fermat {p a : Nat} (h : Pr p) (ha : ¬ p ∣ a) : a ^ (p - 1) % p = 1 := by
  have h2 := h.1
  obtain ⟨L, hL⟩ : ∃ L, L = List.range' 1 (p - 1) := ⟨_, rfl⟩
  have hlen : L.length = p - 1 := by rw [hL]; simp
  have hmem : ∀ x, x ∈ L ↔ 1 ≤ x ∧ x < p := by intro x; rw [hL, List.mem_range'_1]; omega
  have hnd : L.Nodup := by rw [hL]; exact List.nodup_range'
  have hnot : ∀ x ∈ L, ¬ p ∣ x := fun x hx k => by have := (hmem x).1 hx; have := Nat.le_of_dvd (by omega) k; omega
  have hperm : (L.map fun i => a * i % p).Perm L := by
    refine perm_of_sub _ _ ?_ ?_ (by simp)
    · rw [List.Nodup, List.pairwise_map]
      refine List.Pairwise.imp_of_mem ?_ hnd
      intro i j hi hj hne e
      exact hne (inj_mul h ha ((hmem i).1 hi).2 ((hmem j).1 hj).2 e)
    · intro x hx
      rw [List.mem_map] at hx
      obtain ⟨i, hi, rfl⟩ := hx
      rw [hmem]
      refine ⟨?_, Nat.mod_lt _ (by omega)⟩
      rcases Nat.eq_zero_or_pos (a * i % p) with z | z
      · rcases h.mul (Nat.dvd_of_mod_eq_zero z) with k | k
        · exact absurd k ha
        · exact absurd k (hnot i hi)
      · exact z
  have e := prd_mod p a L
  rw [prd_perm hperm, hlen] at e
  have hpos : 1 ≤ a ^ (p - 1) := Nat.pow_pos (by
    rcases Nat.eq_zero_or_pos a with z | z
    · subst z; exact absurd (Nat.dvd_zero p) ha
    · exact z)
  have hd := sub_dvd e.symm (Nat.le_mul_of_pos_left _ hpos)
  rw [show a ^ (p - 1) * prd L - prd L = (a ^ (p - 1) - 1) * prd L by rw [Nat.sub_mul, Nat.one_mul]] at hd
  rcases h.mul hd with k | k
  · obtain ⟨c, hc⟩ := k
    have : a ^ (p - 1) = 1 + p * c := by omega
    rw [this, Nat.add_mul_mod_self_left]
    exact Nat.mod_eq_of_lt (by omega)
  · exact absurd k (prd_not h L hnot)
theorem two_pow {t d : Nat} : 2 ^ (t + 1) * d = 2 ^ t * d + 2 ^ t * d := by rw [Nat.pow_succ, Nat.mul_comm (2 ^ t) 2, Nat.mul_assoc, Nat.two_mul]
theorem sqrt_one {p x : Nat} (h : Pr p) (e : x * x % p = 1) : x % p = 1 ∨ x % p = p - 1 := by
  have h2 := h.1
  obtain ⟨y, hy⟩ : ∃ y, y = x % p := ⟨_, rfl⟩
  have hlt : y < p := by rw [hy]; exact Nat.mod_lt _ (by omega)
  have e2 : y * y % p = 1 := by rw [hy, ← Nat.mul_mod]; exact e
  rw [← hy]
  have hy1 : 1 ≤ y := by
    rcases Nat.eq_zero_or_pos y with z | z
    · subst z; simp at e2
    · exact z
  obtain ⟨z, rfl⟩ : ∃ z, y = z + 1 := ⟨y - 1, by omega⟩
  have hd : p ∣ (z + 1) * (z + 1) - 1 := sub_dvd (by rw [e2]; exact (Nat.mod_eq_of_lt (by omega)).symm) (Nat.mul_pos (by omega) (by omega))
  rw [show (z + 1) * (z + 1) - 1 = z * (z + 2) by rw [show (z + 1) * (z + 1) = z * (z + 2) + 1 by simp [Nat.mul_add, Nat.add_mul]; omega]; omega] at hd
  rcases h.mul hd with k | k
  · rcases Nat.eq_zero_or_pos z with h0 | h0
    · exact .inl (by omega)
    · have := Nat.le_of_dvd h0 k; omega
  · have := Nat.le_of_dvd (by omega) k
    exact .inr (by omega)
def Sp (n b t d : Nat) : Prop := b ^ d % n = 1 ∨ ∃ i, i < t ∧ b ^ (2 ^ i * d) % n = n - 1
theorem pr_sp_aux {n b d : Nat} (h : Pr n) : ∀ t, b ^ (2 ^ t * d) % n = 1 → Sp n b t d
  | 0, e => .inl (by simpa using e)
  | t + 1, e => by
    rw [two_pow, Nat.pow_add] at e
    rcases sqrt_one h e with k | k
    · rcases pr_sp_aux h t k with q | ⟨i, hi, q⟩
      · exact .inl q
      · exact .inr ⟨i, by omega, q⟩
    · exact .inr ⟨t, by omega, k⟩
theorem pr_sp {n b t d : Nat} (h : Pr n) (hb : ¬ n ∣ b) (e : n - 1 = 2 ^ t * d) : Sp n b t d := pr_sp_aux h t (by rw [← e]; exact fermat h hb)
theorem pow_one {n b x : Nat} (hn : 2 ≤ n) (h : b ^ x % n = 1) (k : Nat) : b ^ (x * k) % n = 1 := by
  rw [Nat.pow_mul, Nat.pow_mod, h, Nat.one_pow]
  exact Nat.mod_eq_of_lt (by omega)
theorem sp_fermat {n b t d : Nat} (hn : 2 ≤ n) (e : n - 1 = 2 ^ t * d) (h : Sp n b t d) : b ^ (n - 1) % n = 1 := by
  rw [e]
  rcases h with h | ⟨i, hi, h⟩
  · rw [Nat.mul_comm]; exact pow_one hn h _
  · have h2 : b ^ (2 ^ (i + 1) * d) % n = 1 := by
      rw [two_pow, Nat.pow_add, Nat.mul_mod, h]
      obtain ⟨m, rfl⟩ : ∃ m, n = m + 2 := ⟨n - 2, by omega⟩
      rw [show (m + 2 - 1) * (m + 2 - 1) = 1 + (m + 2) * m by simp [Nat.mul_add, Nat.add_mul]; omega, Nat.add_mul_mod_self_left]
      exact Nat.mod_eq_of_lt (by omega)
    obtain ⟨c, rfl⟩ : ∃ c, t = (i + 1) + c := ⟨t - (i + 1), by omega⟩
    rw [Nat.pow_add, Nat.mul_assoc, Nat.mul_comm (2 ^ c), ← Nat.mul_assoc]
    exact pow_one hn h2 _
theorem pow_gcd {p b : Nat} (hp : 2 ≤ p) : ∀ x y : Nat, b ^ x % p = 1 → b ^ y % p = 1 → b ^ (Nat.gcd x y) % p = 1 := by
  intro x y
  refine Nat.gcd.induction (P := fun x y => b ^ x % p = 1 → b ^ y % p = 1 → b ^ (Nat.gcd x y) % p = 1) x y ?_ ?_
  · intro n _ h; rwa [Nat.gcd_zero_left]
  · intro m n hm ih h1 h2
    rw [Nat.gcd_rec]
    refine ih ?_ h1
    have e : b ^ n % p = b ^ (n % m) % p := by
      have : b ^ n = b ^ (m * (n / m)) * b ^ (n % m) := by rw [← Nat.pow_add, Nat.div_add_mod]
      rw [this, Nat.mul_mod, pow_one hp h1, Nat.one_mul, Nat.mod_mod]
    rw [← e]; exact h2
theorem dvd_all {L g : Nat} (hL : 0 < L) (hg : g ∣ L) (h : ∀ r, Pr r → r ∣ L → ¬ g ∣ L / r) : g = L := by
  obtain ⟨c, hc⟩ := hg
  by_cases h1 : c = 1
  · rw [hc, h1, Nat.mul_one]
  · have h0 : c ≠ 0 := by intro k; rw [k, Nat.mul_zero] at hc; omega
    obtain ⟨r, hr, k⟩ := pr_factor c (by omega)
    obtain ⟨x, hx⟩ := k
    have hr2 := hr.1
    refine absurd ?_ (h r hr ⟨g * x, by rw [hc, hx]; simp only [Nat.mul_left_comm]⟩)
    refine ⟨x, ?_⟩
    rw [hc, hx, ← Nat.mul_assoc, Nat.mul_comm g r, Nat.mul_assoc, Nat.mul_div_cancel_left _ (by omega)]
theorem order_dvd {p L e : Nat} (hp : 2 ≤ p) (hL : 0 < L) (B : Nat → Prop) (h1 : ∀ b, B b → b ^ L % p = 1) (hw : ∀ r, Pr r → r ∣ L → ∃ b, B b ∧ b ^ (L / r) % p ≠ 1) (he : ∀ b, B b → b ^ e % p = 1) : L ∣ e := by
  have hg : Nat.gcd e L = L := by
    refine dvd_all hL (Nat.gcd_dvd_right e L) ?_
    intro r hr hd ⟨c, hc⟩
    obtain ⟨b, hb, k⟩ := hw r hr hd
    refine k ?_
    rw [hc]
    exact pow_one hp (pow_gcd hp _ _ (he b hb) (h1 b hb)) c
  rw [← hg]
  exact Nat.gcd_dvd_left e L
noncomputable def pwk (b e n : Nat) : Nat := Nat.mod (Nat.mul (Nat.pow (Nat.mod (Nat.mul (Nat.pow (Nat.mod (Nat.mul (Nat.pow (Nat.mod (Nat.pow b (Nat.div e 16777216)) n) 256) (Nat.pow b (Nat.mod (Nat.div e 65536) 256))) n) 256) (Nat.pow b (Nat.mod (Nat.div e 256) 256))) n) 256) (Nat.pow b (Nat.mod e 256))) n
theorem pwk_step (b e n : Nat) : ((b ^ (e / 256) % n) ^ 256 * b ^ (e % 256)) % n = b ^ e % n := by
  rw [Nat.mul_mod, ← Nat.pow_mod, ← Nat.mul_mod, ← Nat.pow_mul, ← Nat.pow_add, Nat.mul_comm, Nat.div_add_mod]
theorem pwk_eq (b e n : Nat) : pwk b e n = b ^ e % n := by
  show ((((b ^ (e / 16777216) % n) ^ 256 * b ^ (e / 65536 % 256)) % n) ^ 256 * b ^ (e / 256 % 256) % n) ^ 256 * b ^ (e % 256) % n = b ^ e % n
  rw [show e / 16777216 = e / 65536 / 256 by rw [Nat.div_div_eq_div_mul], pwk_step, show e / 65536 = e / 256 / 256 by rw [Nat.div_div_eq_div_mul], pwk_step, pwk_step]
noncomputable def nspr (b n f : Nat) : Nat → Bool :=
  Nat.rec (motive := fun _ => Nat → Bool) (fun _ => false) (fun _ ih e => Bool.rec (motive := fun _ => Bool) (Bool.rec (motive := fun _ => Bool) (ih (Nat.div e 2)) (Bool.rec (motive := fun _ => Bool) (true) (false) (Nat.beq (pwk b e n) 1)) (Nat.beq (Nat.mod e 2) 1)) (false) (Nat.beq (pwk b e n) (Nat.sub n 1))) f
theorem beq_f {a b : Nat} (h : a ≠ b) : Nat.beq a b = false := by
  cases e : Nat.beq a b
  · rfl
  · exact absurd (Nat.eq_of_beq_eq_true e) h
theorem beq_t {a b : Nat} (h : a = b) : Nat.beq a b = true := by subst h; exact Nat.beq_refl a
theorem nspr_succ (b n f e : Nat) : nspr b n (f + 1) e = Bool.rec (motive := fun _ => Bool) (Bool.rec (motive := fun _ => Bool) (nspr b n f (Nat.div e 2)) (Bool.rec (motive := fun _ => Bool) (true) (false) (Nat.beq (pwk b e n) 1)) (Nat.beq (Nat.mod e 2) 1)) (false) (Nat.beq (pwk b e n) (Nat.sub n 1)) := rfl
theorem nspr_ok (b n : Nat) : ∀ (f s d e : Nat), nspr b n f e = true → e = 2 ^ s * d → d % 2 = 1 → b ^ d % n ≠ 1 ∧ ∀ i, i ≤ s → b ^ (2 ^ i * d) % n ≠ n - 1
  | 0, _, _, _, h, _, _ => by simp [nspr] at h
  | f + 1, s, d, e, h, he, hd => by
    rw [nspr_succ] at h
    have hx : b ^ e % n ≠ n - 1 := by
      intro k
      have : Nat.beq (pwk b e n) (Nat.sub n 1) = true := beq_t (by rw [pwk_eq]; exact k)
      rw [this] at h
      cases h
    have hf : Nat.beq (pwk b e n) (Nat.sub n 1) = false := beq_f (by rw [pwk_eq]; exact hx)
    rw [hf] at h
    cases s with
    | zero =>
      have hed : e = d := by simpa using he
      subst hed
      have h1 : Nat.beq (Nat.mod e 2) 1 = true := beq_t hd
      rw [h1] at h
      refine ⟨fun k => ?_, fun i hi => ?_⟩
      · have : Nat.beq (pwk b e n) 1 = true := beq_t (by rw [pwk_eq]; exact k)
        rw [this] at h
        cases h
      · obtain rfl : i = 0 := by omega
        simpa using hx
    | succ s =>
      have he2 : e = 2 * (2 ^ s * d) := by rw [he, two_pow]; omega
      have h1 : Nat.beq (Nat.mod e 2) 1 = false := beq_f (by show e % 2 ≠ 1; omega)
      rw [h1] at h
      obtain ⟨k1, k2⟩ := nspr_ok b n f s d (e / 2) h (by omega) hd
      refine ⟨k1, fun i hi => ?_⟩
      by_cases hs : i = s + 1
      · rw [hs, ← he]; exact hx
      · exact k2 i (by omega)
noncomputable def notmr (n : Nat) : Bool := Bool.rec (motive := fun _ => Bool) (Bool.rec (motive := fun _ => Bool) (Bool.rec (motive := fun _ => Bool) (nspr 7 n 40 (Nat.div (Nat.sub n 1) 2)) (true) (nspr 5 n 40 (Nat.div (Nat.sub n 1) 2))) (true) (nspr 3 n 40 (Nat.div (Nat.sub n 1) 2))) (true) (nspr 2 n 40 (Nat.div (Nat.sub n 1) 2))
def Base (b : Nat) : Prop := b = 2 ∨ b = 3 ∨ b = 5 ∨ b = 7
def MrOk (n : Nat) : Prop := ∀ b, Base b → ¬ b ∣ n ∧ ∃ t d, n - 1 = 2 ^ t * d ∧ d % 2 = 1 ∧ Sp n b t d
theorem MrOk.odd {n : Nat} (h : MrOk n) : n % 2 = 1 := by
  have := (h 2 (.inl rfl)).1
  omega
theorem MrOk.fermat {n b : Nat} (h : MrOk n) (hn : 2 ≤ n) (hb : Base b) : b ^ (n - 1) % n = 1 := by
  obtain ⟨_, t, d, e, _, k⟩ := h b hb
  exact sp_fermat hn e k
theorem MrOk.not_nspr {n b : Nat} (h : MrOk n) (hn : 2 ≤ n) (hb : Base b) : nspr b n 40 ((n - 1) / 2) = false := by
  cases e : nspr b n 40 ((n - 1) / 2)
  · rfl
  · exfalso
    obtain ⟨_, t, d, he, hd, k⟩ := h b hb
    have ho := h.odd
    have hn1 : 2 ≤ n - 1 := by
      rcases Nat.eq_zero_or_pos (n - 1) with z | z
      · omega
      · omega
    cases t with
    | zero => rw [Nat.pow_zero, Nat.one_mul] at he; omega
    | succ t =>
      rw [two_pow] at he
      obtain ⟨k1, k2⟩ := nspr_ok b n 40 t d _ e (by omega) hd
      rcases k with k | ⟨i, hi, k⟩
      · exact k1 k
      · exact k2 i (by omega) k
theorem MrOk.notmr {n : Nat} (h : MrOk n) (hn : 2 ≤ n) : notmr n = false := by
  have h2 : nspr 2 n 40 (Nat.div (Nat.sub n 1) 2) = false := h.not_nspr hn (.inl rfl)
  have h3 : nspr 3 n 40 (Nat.div (Nat.sub n 1) 2) = false := h.not_nspr hn (.inr (.inl rfl))
  have h5 : nspr 5 n 40 (Nat.div (Nat.sub n 1) 2) = false := h.not_nspr hn (.inr (.inr (.inl rfl)))
  have h7 : nspr 7 n 40 (Nat.div (Nat.sub n 1) 2) = false := h.not_nspr hn (.inr (.inr (.inr rfl)))
  unfold MR.notmr
  rw [h2, h3, h5, h7]
theorem pr_small {p : Nat} (h : 2 ≤ p) (k : ∀ d, 2 ≤ d → d < p → p % d ≠ 0) : Pr p := by
  refine ⟨h, fun d hd => ?_⟩
  have hle := Nat.le_of_dvd (by omega) hd
  have h0 : d ≠ 0 := by intro h0; subst h0; have := Nat.eq_zero_of_zero_dvd hd; omega
  by_cases h1 : d = 1
  · exact .inl h1
  · by_cases h2 : d = p
    · exact .inr h2
    · exact absurd (Nat.mod_eq_zero_of_dvd hd) (k d (by omega) (by omega))
theorem pr2 : Pr 2 := pr_small (by omega) (by omega)
theorem pr3 : Pr 3 := pr_small (by omega) (fun d h1 h2 => by
  obtain rfl : d = 2 := by omega
  decide)
theorem pr5 : Pr 5 := pr_small (by omega) (fun d h1 h2 => by
  have : d = 2 ∨ d = 3 ∨ d = 4 := by omega
  rcases this with rfl | rfl | rfl <;> decide)
theorem pr7 : Pr 7 := pr_small (by omega) (fun d h1 h2 => by
  have : d = 2 ∨ d = 3 ∨ d = 4 ∨ d = 5 ∨ d = 6 := by omega
  rcases this with rfl | rfl | rfl | rfl | rfl <;> decide)
theorem gcd_one {n m : Nat} (h : ∀ p, Pr p → p ∣ n → p ∣ m → False) (h0 : n ≠ 0) : Nat.gcd n m = 1 := by
  by_cases k : Nat.gcd n m = 1
  · exact k
  · have h1 : Nat.gcd n m ≠ 0 := fun z => h0 (Nat.eq_zero_of_gcd_eq_zero_left z)
    obtain ⟨p, hp, hd⟩ := pr_factor _ (show 2 ≤ Nat.gcd n m by omega)
    exact (h p hp (Nat.dvd_trans hd (Nat.gcd_dvd_left n m)) (Nat.dvd_trans hd (Nat.gcd_dvd_right n m))).elim
theorem MrOk.gcd {n : Nat} (h : MrOk n) (hn : 2 ≤ n) : Nat.gcd n 105 = 1 := by
  refine gcd_one (fun p hp h1 h2 => ?_) (by omega)
  have e : (105 : Nat) = 3 * (5 * 7) := by decide
  rw [e] at h2
  have two : ∀ {q}, Pr q → p ∣ q → p = q := fun hq k => by
    rcases hq.2 p k with z | z
    · have := hp.1; omega
    · exact z
  rcases hp.mul h2 with k | k
  · exact (h 3 (.inr (.inl rfl))).1 (two pr3 k ▸ h1)
  · rcases hp.mul k with k | k
    · exact (h 5 (.inr (.inr (.inl rfl)))).1 (two pr5 k ▸ h1)
    · exact (h 7 (.inr (.inr (.inr rfl)))).1 (two pr7 k ▸ h1)
noncomputable def okn (n : Nat) (A B : Bool) : Bool := Bool.rec (motive := fun _ => Bool) (A) (Bool.rec (motive := fun _ => Bool) (B) (A) (notmr n)) (Nat.beq (pwk 2 (Nat.sub n 1) n) 1)
theorem okn_mr {n : Nat} (h : MrOk n) (hn : 2 ≤ n) (A B : Bool) : okn n A B = B := by
  have h1 : Nat.beq (pwk 2 (Nat.sub n 1) n) 1 = true := beq_t (by rw [pwk_eq]; exact h.fermat hn (.inl rfl))
  unfold okn
  rw [h1, h.notmr hn]
noncomputable def lin (s n0 c : Nat) : Bool :=
  Nat.rec (motive := fun _ => Bool) true (fun i ih => Bool.rec (motive := fun _ => Bool) (ih) (okn (Nat.add n0 (Nat.mul s i)) ih false) (Nat.beq (Nat.gcd (Nat.add n0 (Nat.mul s i)) 105) 1)) c
theorem lin_succ (s n0 c : Nat) : lin s n0 (c + 1) = Bool.rec (motive := fun _ => Bool) (lin s n0 c) (okn (Nat.add n0 (Nat.mul s c)) (lin s n0 c) false) (Nat.beq (Nat.gcd (Nat.add n0 (Nat.mul s c)) 105) 1) := rfl
theorem okn_and {n : Nat} {A : Bool} (h : okn n A false = true) : A = true := by
  unfold okn at h
  cases e1 : Nat.beq (pwk 2 (Nat.sub n 1) n) 1
  · rw [e1] at h; exact h
  · rw [e1] at h
    cases e2 : MR.notmr n
    · rw [e2] at h; cases h
    · rw [e2] at h; exact h
theorem lin_ok (s n0 : Nat) (h0 : 2 ≤ n0) : ∀ c, lin s n0 c = true → ∀ i, i < c → ¬ MrOk (n0 + s * i)
  | 0, _, i, hi => by omega
  | c + 1, h, i, hi => by
    rw [lin_succ] at h
    have hn : 2 ≤ n0 + s * c := by omega
    have hA : lin s n0 c = true := by
      cases e : Nat.beq (Nat.gcd (Nat.add n0 (Nat.mul s c)) 105) 1
      · rw [e] at h; exact h
      · rw [e] at h; exact okn_and h
    by_cases hic : i = c
    · subst hic
      intro hm
      have e : Nat.beq (Nat.gcd (Nat.add n0 (Nat.mul s i)) 105) 1 = true := beq_t (hm.gcd hn)
      rw [e] at h
      have h' : okn (n0 + s * i) (lin s n0 i) false = true := h
      rw [okn_mr hm hn] at h'
      cases h'
    · exact lin_ok s n0 h0 c hA i (by omega)
noncomputable def tree (s c d : Nat) : Nat → Bool :=
  Nat.rec (motive := fun _ => Nat → Bool) (fun n => lin s n c) (fun d ih n => Bool.rec (motive := fun _ => Bool) (false) (ih (Nat.add n (Nat.mul (Nat.mul s c) (Nat.pow 2 d)))) (ih n)) d
theorem tree_succ (s c d n : Nat) : tree s c (d + 1) n = Bool.rec (motive := fun _ => Bool) (false) (tree s c d (Nat.add n (Nat.mul (Nat.mul s c) (Nat.pow 2 d)))) (tree s c d n) := rfl
theorem tree_ok (s c : Nat) : ∀ (d n : Nat), 2 ≤ n → tree s c d n = true → ∀ i, i < c * 2 ^ d → ¬ MrOk (n + s * i)
  | 0, n, h0, h, i, hi => lin_ok s n h0 c h i (by simpa using hi)
  | d + 1, n, h0, h, i, hi => by
    rw [tree_succ] at h
    cases e : tree s c d n
    · rw [e] at h; cases h
    · rw [e] at h
      have h2 : tree s c d (n + s * c * 2 ^ d) = true := h
      by_cases hic : i < c * 2 ^ d
      · exact tree_ok s c d n h0 e i hic
      · obtain ⟨j, rfl⟩ : ∃ j, i = c * 2 ^ d + j := ⟨i - c * 2 ^ d, by omega⟩
        have := tree_ok s c d (n + s * c * 2 ^ d) (by omega) h2 j (by rw [Nat.pow_succ, ← Nat.mul_assoc] at hi; omega)
        rw [show n + s * (c * 2 ^ d + j) = n + s * c * 2 ^ d + s * j by rw [Nat.mul_add, ← Nat.mul_assoc, Nat.add_assoc]]
        exact this
noncomputable def wit (q L r : Nat) : Bool := Bool.rec (motive := fun _ => Bool) (true) (Bool.rec (motive := fun _ => Bool) (true) (Bool.rec (motive := fun _ => Bool) (true) (Bool.rec (motive := fun _ => Bool) (true) (false) (Nat.beq (Nat.mod (Nat.pow 7 (Nat.div L r)) q) 1)) (Nat.beq (Nat.mod (Nat.pow 5 (Nat.div L r)) q) 1)) (Nat.beq (Nat.mod (Nat.pow 3 (Nat.div L r)) q) 1)) (Nat.beq (Nat.mod (Nat.pow 2 (Nat.div L r)) q) 1)
theorem wit_ok {q L r : Nat} (h : wit q L r = true) : ∃ b, Base b ∧ b ^ (L / r) % q ≠ 1 := by
  apply Classical.byContradiction
  intro hc
  have e : ∀ b, Base b → Nat.beq (Nat.mod (Nat.pow b (Nat.div L r)) q) 1 = true := fun b hb => beq_t (by
    apply Classical.byContradiction
    intro k
    exact hc ⟨b, hb, k⟩)
  unfold wit at h
  rw [e 2 (.inl rfl), e 3 (.inr (.inl rfl)), e 5 (.inr (.inr (.inl rfl))), e 7 (.inr (.inr (.inr rfl)))] at h
  cases h
noncomputable def fchk (q L f : Nat) : Nat → Nat → Bool :=
  Nat.rec (motive := fun _ => Nat → Nat → Bool) (fun _ _ => false) (fun _ ih d m => Bool.rec (motive := fun _ => Bool) (Bool.rec (motive := fun _ => Bool) (wit q L m) (true) (Nat.beq m 1)) (Bool.rec (motive := fun _ => Bool) (ih (Nat.add (Nat.add d 1) (Nat.mod d 2)) m) (Bool.rec (motive := fun _ => Bool) (false) (ih d (Nat.div m d)) (wit q L d)) (Nat.beq (Nat.mod m d) 0)) (Nat.ble (Nat.mul d d) m)) f
theorem fchk_succ (q L f d m : Nat) : fchk q L (f + 1) d m = Bool.rec (motive := fun _ => Bool) (Bool.rec (motive := fun _ => Bool) (wit q L m) (true) (Nat.beq m 1)) (Bool.rec (motive := fun _ => Bool) (fchk q L f (Nat.add (Nat.add d 1) (Nat.mod d 2)) m) (Bool.rec (motive := fun _ => Bool) (false) (fchk q L f d (Nat.div m d)) (wit q L d)) (Nat.beq (Nat.mod m d) 0)) (Nat.ble (Nat.mul d d) m) := rfl
theorem fchk_ok (q L : Nat) : ∀ (f d m : Nat), fchk q L f d m = true → 2 ≤ d → 1 ≤ m → (∀ r, Pr r → r ∣ m → d ≤ r) → ∀ r, Pr r → r ∣ m → wit q L r = true
  | 0, d, m, h, _, _, _, _, _, _ => by simp [fchk] at h
  | f + 1, d, m, h, hd, hm, hlow, r, hr, hrm => by
    rw [fchk_succ] at h
    cases e1 : Nat.ble (Nat.mul d d) m
    · rw [e1] at h
      have hlt : m < d * d := by
        apply Classical.byContradiction
        intro k
        have : Nat.ble (Nat.mul d d) m = true := Nat.ble_eq_true_of_le (by show d * d ≤ m; omega)
        rw [this] at e1; cases e1
      have hmr : m = r := by
        obtain ⟨c, hc⟩ := hrm
        by_cases h1 : c = 1
        · rw [hc, h1, Nat.mul_one]
        · have h0 : c ≠ 0 := by intro z; rw [z, Nat.mul_zero] at hc; omega
          obtain ⟨s, hs, hsc⟩ := pr_factor c (by omega)
          have h2 := hlow s hs (hc ▸ Nat.dvd_trans hsc ⟨r, Nat.mul_comm r c⟩)
          have h3 := hlow r hr ⟨c, hc⟩
          have h4 := Nat.le_of_dvd (by omega) hsc
          have := Nat.mul_le_mul h3 (Nat.le_trans h2 h4)
          omega
      have hr1 := hr.1
      rw [beq_f (show m ≠ 1 by omega)] at h
      rw [← hmr]; exact h
    · rw [e1] at h
      by_cases hmd : m % d = 0
      · rw [show Nat.beq (Nat.mod m d) 0 = true from beq_t hmd] at h
        cases e2 : wit q L d
        · rw [e2] at h; cases h
        · rw [e2] at h
          have hm2 : m = d * (m / d) := by have := Nat.div_add_mod m d; omega
          have hpos : 1 ≤ m / d := by
            rcases Nat.eq_zero_or_pos (m / d) with z | z
            · rw [z] at hm2; omega
            · exact z
          rcases hr.mul (hm2 ▸ hrm) with k | k
          · have h1 := Nat.le_of_dvd (by omega) k
            have h2 := hlow r hr hrm
            obtain rfl : r = d := by omega
            exact e2
          · exact fchk_ok q L f d (m / d) h hd hpos (fun s hs hsd => hlow s hs (Nat.dvd_trans hsd ⟨d, by rw [Nat.mul_comm]; exact hm2⟩)) r hr k
      · rw [show Nat.beq (Nat.mod m d) 0 = false from beq_f hmd] at h
        refine fchk_ok q L f (d + 1 + d % 2) m h (by omega) hm ?_ r hr hrm
        intro s hs hsm
        have h1 := hlow s hs hsm
        have h2 : s ≠ d := fun z => hmd (Nat.mod_eq_zero_of_dvd (z ▸ hsm))
        rcases Nat.mod_two_eq_zero_or_one d with z | z
        · omega
        · by_cases h3 : s = d + 1
          · have h4 : 2 ∣ s := by omega
            rcases hs.2 2 h4 with k | k
            · omega
            · omega
          · omega
noncomputable def ordc (q L : Nat) : Bool := Bool.rec (motive := fun _ => Bool) (false) (Bool.rec (motive := fun _ => Bool) (false) (Bool.rec (motive := fun _ => Bool) (false) (Bool.rec (motive := fun _ => Bool) (false) (fchk q L 400 2 L) (Nat.beq (Nat.mod (Nat.pow 7 L) q) 1)) (Nat.beq (Nat.mod (Nat.pow 5 L) q) 1)) (Nat.beq (Nat.mod (Nat.pow 3 L) q) 1)) (Nat.beq (Nat.mod (Nat.pow 2 L) q) 1)
theorem beq_split {a b : Nat} {x : Bool} (h : Bool.rec (motive := fun _ => Bool) (false) (x) (Nat.beq a b) = true) : a = b ∧ x = true := by
  cases e : Nat.beq a b
  · rw [e] at h; cases h
  · rw [e] at h; exact ⟨Nat.eq_of_beq_eq_true e, h⟩
theorem ordc_ok {q L e : Nat} (hq : 2 ≤ q) (hL : 0 < L) (h : ordc q L = true) (he : ∀ b, Base b → b ^ e % q = 1) : L ∣ e := by
  obtain ⟨h2, h⟩ := beq_split h
  obtain ⟨h3, h⟩ := beq_split h
  obtain ⟨h5, h⟩ := beq_split h
  obtain ⟨h7, h⟩ := beq_split h
  refine order_dvd hq hL Base ?_ ?_ he
  · rintro b (rfl | rfl | rfl | rfl)
    · exact h2
    · exact h3
    · exact h5
    · exact h7
  · intro r hr hrL
    exact wit_ok (fchk_ok q L 400 2 L h (by omega) hL (fun s hs _ => hs.1) r hr hrL)
noncomputable def cand (q L : Nat) : Bool :=
  tree (Nat.mul q L) (Nat.add (Nat.div (Nat.div 2147483648 (Nat.mul q L)) (Nat.pow 2 (Nat.log2 (Nat.add (Nat.div (Nat.div 2147483648 (Nat.mul q L)) 128) 1)))) 1) (Nat.log2 (Nat.add (Nat.div (Nat.div 2147483648 (Nat.mul q L)) 128) 1)) (Nat.add q (Nat.mul q L))
theorem cand_ok {q L : Nat} (hq : 2 ≤ q) (hL : 0 < L) (h : cand q L = true) (j : Nat) (hj : q + q * L * (j + 1) < 2147483648) : ¬ MrOk (q + q * L * (j + 1)) := by
  have hs : 0 < q * L := Nat.mul_pos (by omega) hL
  have := tree_ok (q * L) _ _ _ (show 2 ≤ q + q * L by omega) h j ?_
  · rw [show q + q * L * (j + 1) = q + q * L + q * L * j by rw [Nat.mul_add, Nat.mul_one]; omega]
    exact this
  · show j < (2147483648 / (q * L) / 2 ^ Nat.log2 (2147483648 / (q * L) / 128 + 1) + 1) * 2 ^ Nat.log2 (2147483648 / (q * L) / 128 + 1)
    generalize Nat.log2 (2147483648 / (q * L) / 128 + 1) = d
    have h1 : j + 1 ≤ 2147483648 / (q * L) := by
      rw [Nat.le_div_iff_mul_le hs, Nat.mul_comm]
      omega
    have h2 := Nat.div_add_mod (2147483648 / (q * L)) (2 ^ d)
    have h3 := Nat.mod_lt (2147483648 / (q * L)) (Nat.two_pow_pos d)
    rw [Nat.add_mul, Nat.one_mul, Nat.mul_comm]
    omega
noncomputable def ap4 (q : Nat) : Bool := Bool.rec (motive := fun _ => Bool) (false) (Bool.rec (motive := fun _ => Bool) (false) (cand q (Nat.div (Nat.sub q 1) 4)) (ordc q (Nat.div (Nat.sub q 1) 4))) (Nat.beq (Nat.mod (Nat.sub q 1) 4) 0)
noncomputable def apq (q : Nat) : Bool :=
  Bool.rec (motive := fun _ => Bool) (Bool.rec (motive := fun _ => Bool) (Bool.rec (motive := fun _ => Bool) (ap4 q) (Bool.rec (motive := fun _ => Bool) (ap4 q) (cand q (Nat.div (Nat.sub q 1) 3)) (ordc q (Nat.div (Nat.sub q 1) 3))) (Nat.beq (Nat.mod (Nat.sub q 1) 3) 0)) (cand q (Nat.div (Nat.sub q 1) 2)) (ordc q (Nat.div (Nat.sub q 1) 2))) (cand q (Nat.sub q 1)) (ordc q (Nat.sub q 1))
def Ap (q : Nat) : Prop := ∀ n, q ∣ n → n ≠ q → n < 2147483648 → 2 ≤ n → ¬ MrOk n
theorem ap_of {q L : Nat} (hq : Pr q) (hL : 0 < L) (hd : L ∣ q - 1) (h1 : ordc q L = true) (h2 : cand q L = true) : Ap q := by
  intro n hn hne hlt h2n hm
  have hq2 := hq.1
  obtain ⟨k, rfl⟩ := hn
  have hk1 : k ≠ 1 := fun z => hne (by rw [z, Nat.mul_one])
  have hk0 : k ≠ 0 := fun z => by rw [z, Nat.mul_zero] at h2n; omega
  have hL1 : L ∣ q * k - 1 := ordc_ok hq2 hL h1 fun b hb => by
    have e := hm.fermat h2n hb
    have hpos : 1 ≤ b ^ (q * k - 1) := Nat.pow_pos (by rcases hb with z | z | z | z <;> omega)
    have hdv : q * k ∣ b ^ (q * k - 1) - 1 := sub_dvd (by rw [e]; exact (Nat.mod_eq_of_lt (by omega)).symm) hpos
    obtain ⟨c, hc⟩ := Nat.dvd_trans ⟨k, rfl⟩ hdv
    rw [show b ^ (q * k - 1) = 1 + q * c by omega, Nat.add_mul_mod_self_left]
    exact Nat.mod_eq_of_lt (by omega)
  have hL2 : L ∣ k - 1 := by
    have e : q * k - 1 = (q - 1) * k + (k - 1) := by
      obtain ⟨p, rfl⟩ : ∃ p, q = p + 1 := ⟨q - 1, by omega⟩
      rw [Nat.add_sub_cancel, Nat.add_mul, Nat.one_mul]
      omega
    rw [e] at hL1
    exact (Nat.dvd_add_right (Nat.dvd_trans hd ⟨k, rfl⟩)).1 hL1
  obtain ⟨j, hj⟩ := hL2
  have hj0 : j ≠ 0 := fun z => by rw [z, Nat.mul_zero] at hj; omega
  obtain ⟨i, rfl⟩ : ∃ i, j = i + 1 := ⟨j - 1, by omega⟩
  have e : q * k = q + q * L * (i + 1) := by
    rw [show k = 1 + L * (i + 1) by omega, Nat.mul_add, Nat.mul_one, Nat.mul_assoc]
  rw [e] at hm hlt
  exact cand_ok hq2 hL h2 i hlt hm
theorem ap4_ok {q : Nat} (hq : Pr q) (h3 : 5 ≤ q) (h : ap4 q = true) : Ap q := by
  unfold ap4 at h
  obtain ⟨k1, h⟩ := beq_split h
  have k2 : (q - 1) % 4 = 0 := k1
  cases e4 : ordc q (Nat.div (Nat.sub q 1) 4)
  · rw [e4] at h; cases h
  · rw [e4] at h
    exact ap_of (L := (q - 1) / 4) hq (by omega) ⟨4, by omega⟩ e4 h
theorem apq_ok {q : Nat} (hq : Pr q) (h3 : 5 ≤ q) (h : apq q = true) : Ap q := by
  unfold apq at h
  have hodd : q % 2 = 1 := by
    rcases Nat.mod_two_eq_zero_or_one q with z | z
    · rcases hq.2 2 (Nat.dvd_of_mod_eq_zero z) with k | k <;> omega
    · exact z
  cases e1 : ordc q (Nat.sub q 1)
  · rw [e1] at h
    cases e2 : ordc q (Nat.div (Nat.sub q 1) 2)
    · rw [e2] at h
      cases e3 : Nat.beq (Nat.mod (Nat.sub q 1) 3) 0
      · rw [e3] at h
        exact ap4_ok hq h3 h
      · rw [e3] at h
        have k2 : (q - 1) % 3 = 0 := Nat.eq_of_beq_eq_true e3
        cases e4 : ordc q (Nat.div (Nat.sub q 1) 3)
        · rw [e4] at h
          exact ap4_ok hq h3 h
        · rw [e4] at h
          exact ap_of (L := (q - 1) / 3) hq (by omega) ⟨3, by omega⟩ e4 h
    · rw [e2] at h
      exact ap_of (L := (q - 1) / 2) hq (by omega) ⟨2, by omega⟩ e2 h
  · rw [e1] at h
    exact ap_of (L := q - 1) hq (by omega) ⟨1, by omega⟩ e1 h
noncomputable def PR : Nat := 822891775397605193867790505717795363990583661334824624707314926098627967065375935455
theorem gcd_pr {q : Nat} (h : Pr q) (m : Nat) : Nat.gcd q m = 1 ∨ Nat.gcd q m = q := h.2 _ (Nat.gcd_dvd_left q m)
theorem pr_prd {q : Nat} (h : Pr q) : ∀ l : List Nat, q ∣ prd l → ∃ x ∈ l, q ∣ x
  | [], k => by have := Nat.le_of_dvd (by simp [prd]) k; have := h.1; simp [prd] at *; omega
  | x :: l, k => by
    rcases h.mul k with e | e
    · exact ⟨x, by simp, e⟩
    · obtain ⟨y, hy, z⟩ := pr_prd h l e
      exact ⟨y, by simp [hy], z⟩
theorem pr_eq : PR = prd [3, 5, 7, 11, 13, 17, 19, 23, 29, 31, 37, 41, 43, 47, 53, 59, 61, 67, 71, 73, 79, 83, 89, 97, 101, 103, 107, 109, 113, 127, 131, 137, 139, 149, 151, 157, 163, 167, 173, 179, 181, 191, 193, 197, 199, 211] := by decide +kernel
theorem pr_le : ∀ x ∈ ([3, 5, 7, 11, 13, 17, 19, 23, 29, 31, 37, 41, 43, 47, 53, 59, 61, 67, 71, 73, 79, 83, 89, 97, 101, 103, 107, 109, 113, 127, 131, 137, 139, 149, 151, 157, 163, 167, 173, 179, 181, 191, 193, 197, 199, 211] : List Nat), 1 ≤ x ∧ x ≤ 211 := by decide +kernel
theorem pr_co {q : Nat} (h : Pr q) (hb : 211 < q) : Nat.gcd q PR = 1 := by
  refine h.gcd fun k => ?_
  rw [pr_eq] at k
  obtain ⟨x, hx, d⟩ := pr_prd h _ k
  have h1 := pr_le x hx
  have := Nat.le_of_dvd (by omega) d
  omega
noncomputable def apRange (q0 c : Nat) : Bool :=
  Nat.rec (motive := fun _ => Bool) true (fun i ih => Bool.rec (motive := fun _ => Bool) (ih) (Bool.rec (motive := fun _ => Bool) (false) (ih) (apq (Nat.add q0 (Nat.mul 2 i)))) (Nat.beq (Nat.gcd (Nat.add q0 (Nat.mul 2 i)) PR) 1)) c
theorem apRange_succ (q0 c : Nat) : apRange q0 (c + 1) = Bool.rec (motive := fun _ => Bool) (apRange q0 c) (Bool.rec (motive := fun _ => Bool) (false) (apRange q0 c) (apq (Nat.add q0 (Nat.mul 2 c)))) (Nat.beq (Nat.gcd (Nat.add q0 (Nat.mul 2 c)) PR) 1) := rfl
theorem and_split {x y : Bool} (h : Bool.rec (motive := fun _ => Bool) (false) (y) (x) = true) : x = true ∧ y = true := by
  cases x
  · cases h
  · exact ⟨rfl, h⟩
theorem apRange_ok (q0 : Nat) (h5 : 211 < q0) : ∀ c, apRange q0 c = true → ∀ i, i < c → Pr (q0 + 2 * i) → Ap (q0 + 2 * i)
  | 0, _, i, hi, _ => by omega
  | c + 1, h, i, hi, hp => by
    rw [apRange_succ] at h
    have key : apRange q0 c = true ∧ (Pr (q0 + 2 * c) → apq (q0 + 2 * c) = true) := by
      cases e1 : Nat.beq (Nat.gcd (Nat.add q0 (Nat.mul 2 c)) PR) 1
      · rw [e1] at h
        refine ⟨h, fun hq => ?_⟩
        rw [show Nat.beq (Nat.gcd (Nat.add q0 (Nat.mul 2 c)) PR) 1 = true from beq_t (pr_co hq (show 211 < q0 + 2 * c by omega))] at e1
        cases e1
      · rw [e1] at h
        have := and_split h
        exact ⟨this.2, fun _ => this.1⟩
    by_cases hic : i = c
    · subst hic
      exact apq_ok hp (by omega) (key.2 hp)
    · exact apRange_ok q0 h5 c key.1 i (by omega) hp
noncomputable def leaf (P : Nat) : Bool := okn P true (List.elem P [11, 13, 17, 19, 23, 29, 31, 37, 41, 43, 47, 53, 59, 61, 67, 71, 73, 79, 83, 89, 97, 101, 103, 107, 109, 113, 127, 131, 137, 139, 149])
noncomputable def dj (p : Nat) (ih : Nat → Bool) (f : Nat) : Nat → Bool :=
  Nat.rec (motive := fun _ => Nat → Bool) (fun _ => false) (fun _ jh P => Bool.rec (motive := fun _ => Bool) (Bool.rec (motive := fun _ => Bool) (false) (jh (Nat.mul P p)) (ih P)) (leaf P) (Nat.ble 2147483648 (Nat.mul P p))) f
theorem dj_succ (p : Nat) (ih : Nat → Bool) (f P : Nat) : dj p ih (f + 1) P = Bool.rec (motive := fun _ => Bool) (Bool.rec (motive := fun _ => Bool) (false) (dj p ih f (Nat.mul P p)) (ih P)) (leaf P) (Nat.ble 2147483648 (Nat.mul P p)) := rfl
noncomputable def dfs (l : List Nat) : Nat → Bool :=
  List.rec (motive := fun _ => Nat → Bool) (fun P => leaf P) (fun p _ ih => dj p ih 10) l
def LeafOk (l : List Nat) (F : Nat → Bool) : Prop := ∀ P m, 1 ≤ P → F P = true → (∀ r, Pr r → r ∣ m → r ∈ l) → 1 ≤ m → P * m < 2147483648 → leaf (P * m) = true
theorem dj_ok (p : Nat) (t : List Nat) (hp : Pr p) (hs : ∀ r ∈ t, p ≤ r) (ih : LeafOk t (dfs t)) : ∀ f, LeafOk (p :: t) (dj p (dfs t) f)
  | 0, P, m, _, h, _, _, _ => by simp [dj] at h
  | f + 1, P, m, hP, h, hm, hm1, hlt => by
    rw [dj_succ] at h
    cases e : Nat.ble 2147483648 (Nat.mul P p)
    · rw [e] at h
      obtain ⟨h1, h2⟩ := and_split h
      by_cases hd : p ∣ m
      · obtain ⟨c, rfl⟩ := hd
        have hp1 := hp.1
        have hc1 : 1 ≤ c := by
          rcases Nat.eq_zero_or_pos c with z | z
          · rw [z, Nat.mul_zero] at hm1; omega
          · exact z
        have := dj_ok p t hp hs ih f (P * p) c (Nat.mul_pos hP (by omega)) h2 (fun r hr k => hm r hr (Nat.dvd_trans k ⟨p, Nat.mul_comm _ _⟩)) hc1 (by rw [Nat.mul_assoc]; exact hlt)
        rw [Nat.mul_assoc] at this
        exact this
      · exact ih P m hP h1 (fun r hr k => by
          rcases List.mem_cons.1 (hm r hr k) with z | z
          · exact absurd (z ▸ k) hd
          · exact z) hm1 hlt
    · rw [e] at h
      have hle : 2147483648 ≤ P * p := Nat.le_of_ble_eq_true e
      have h1 : m = 1 := by
        apply Classical.byContradiction
        intro hne
        obtain ⟨r, hr, k⟩ := pr_factor m (by omega)
        have h2 := Nat.le_of_dvd (by omega) k
        have h3 : p ≤ r := by
          rcases List.mem_cons.1 (hm r hr k) with z | z
          · omega
          · exact hs r z
        have := Nat.mul_le_mul_left P (Nat.le_trans h3 h2)
        omega
      rw [h1, Nat.mul_one]
      exact h
def Asc : List Nat → Prop
  | [] => True
  | p :: t => Pr p ∧ (∀ r ∈ t, p ≤ r) ∧ Asc t
theorem dfs_ok : ∀ l, Asc l → LeafOk l (dfs l)
  | [], _, P, m, _, h, hm, hm1, _ => by
    have h1 : m = 1 := by
      apply Classical.byContradiction
      intro hne
      obtain ⟨r, hr, k⟩ := pr_factor m (by omega)
      exact absurd (hm r hr k) (by simp)
    rw [h1, Nat.mul_one]
    exact h
  | p :: t, hl, P, m, hP, h, hm, hm1, hlt => dj_ok p t hl.1 hl.2.1 (dfs_ok t hl.2.2) 10 P m hP h hm hm1 hlt
def AllS : List Nat → Prop
  | [] => True
  | p :: t => dfs (p :: t) p = true ∧ AllS t
theorem smooth_ok : ∀ l, Asc l → AllS l → ∀ n, 2 ≤ n → n < 2147483648 → (∀ r, Pr r → r ∣ n → r ∈ l) → leaf n = true
  | [], _, _, n, h2, _, hr => by
    obtain ⟨p, hp, k⟩ := pr_factor n h2
    exact absurd (hr p hp k) (by simp)
  | p :: t, hl, hA, n, h2, hlt, hr => by
    by_cases hd : p ∣ n
    · obtain ⟨m, rfl⟩ := hd
      have hm1 : 1 ≤ m := by
        rcases Nat.eq_zero_or_pos m with z | z
        · rw [z, Nat.mul_zero] at h2; omega
        · exact z
      exact dfs_ok (p :: t) hl p m (by have := hl.1.1; omega) hA.1 (fun r hr' k => hr r hr' (Nat.dvd_trans k ⟨p, Nat.mul_comm _ _⟩)) hm1 hlt
    · exact smooth_ok t hl.2.2 hA.2 n h2 hlt fun r hr' k => by
        rcases List.mem_cons.1 (hr r hr' k) with z | z
        · exact absurd (z ▸ k) hd
        · exact z
theorem leaf_mr {n : Nat} (h : leaf n = true) (hm : MrOk n) (hn : 2 ≤ n) : n ∈ [11, 13, 17, 19, 23, 29, 31, 37, 41, 43, 47, 53, 59, 61, 67, 71, 73, 79, 83, 89, 97, 101, 103, 107, 109, 113, 127, 131, 137, 139, 149] := by
  unfold leaf at h
  rw [okn_mr hm hn] at h
  exact List.elem_iff.1 h
noncomputable def prodT (d : Nat) : Nat → Nat :=
  Nat.rec (motive := fun _ => Nat → Nat) (fun lo => Bool.rec (motive := fun _ => Nat) 1 (Bool.rec (motive := fun _ => Nat) (Bool.rec (motive := fun _ => Nat) 1 lo (Nat.beq (Nat.gcd lo PR) lo)) lo (Nat.beq (Nat.gcd lo PR) 1)) (Nat.ble lo 46340)) (fun d ih lo => Nat.mul (ih lo) (ih (Nat.add lo (Nat.mul 2 (Nat.pow 2 d))))) d
theorem prodT_zero (lo : Nat) : prodT 0 lo = Bool.rec (motive := fun _ => Nat) 1 (Bool.rec (motive := fun _ => Nat) (Bool.rec (motive := fun _ => Nat) 1 lo (Nat.beq (Nat.gcd lo PR) lo)) lo (Nat.beq (Nat.gcd lo PR) 1)) (Nat.ble lo 46340) := rfl
theorem prodT_succ (d lo : Nat) : prodT (d + 1) lo = prodT d lo * prodT d (lo + 2 * 2 ^ d) := rfl
theorem prodT_le {Q : Nat} (hQ : Pr Q) : ∀ d lo, Q ∣ prodT d lo → Q ≤ 46340
  | 0, lo, h => by
    have hQ1 := hQ.1
    have one : ¬ Q ∣ 1 := fun k => by have := Nat.le_of_dvd (by omega) k; omega
    rw [prodT_zero] at h
    have hlo : lo ≤ 46340 → Q ∣ lo → 1 ≤ lo → Q ≤ 46340 := fun h1 h2 h3 => Nat.le_trans (Nat.le_of_dvd h3 h2) h1
    cases e1 : Nat.ble lo 46340
    · rw [e1] at h; exact absurd h one
    · rw [e1] at h
      have hle := Nat.le_of_ble_eq_true e1
      rcases Nat.eq_zero_or_pos lo with z | z
      · subst z
        exfalso
        have e2 : Nat.beq (Nat.gcd 0 PR) 1 = false := by decide +kernel
        have e3 : Nat.beq (Nat.gcd 0 PR) 0 = false := by decide +kernel
        rw [e2, e3] at h
        exact one h
      · cases e2 : Nat.beq (Nat.gcd lo PR) 1
        · rw [e2] at h
          cases e3 : Nat.beq (Nat.gcd lo PR) lo
          · rw [e3] at h; exact absurd h one
          · rw [e3] at h; exact hlo hle h z
        · rw [e2] at h; exact hlo hle h z
  | d + 1, lo, h => by
    rw [prodT_succ] at h
    rcases hQ.mul h with k | k
    · exact prodT_le hQ d _ k
    · exact prodT_le hQ d _ k
theorem prodT_dvd {r : Nat} (hr : Pr r) (hle : r ≤ 46340) : ∀ d lo i, i < 2 ^ d → r = lo + 2 * i → r ∣ prodT d lo
  | 0, lo, i, hi, e => by
    obtain rfl : i = 0 := by simpa using hi
    obtain rfl : r = lo := by omega
    rw [prodT_zero]
    have e1 : Nat.ble r 46340 = true := Nat.ble_eq_true_of_le hle
    rw [e1]
    rcases gcd_pr hr PR with k | k
    · rw [beq_t k]; exact Nat.dvd_refl r
    · cases e2 : Nat.beq (Nat.gcd r PR) 1
      · rw [beq_t k]; exact Nat.dvd_refl r
      · exact Nat.dvd_refl r
  | d + 1, lo, i, hi, e => by
    rw [prodT_succ]
    by_cases h : i < 2 ^ d
    · exact Nat.dvd_trans (prodT_dvd hr hle d lo i h e) ⟨_, rfl⟩
    · exact Nat.dvd_trans (prodT_dvd hr hle d (lo + 2 * 2 ^ d) (i - 2 ^ d) (by rw [Nat.pow_succ] at hi; omega) (by omega)) ⟨_, Nat.mul_comm _ _⟩
noncomputable def P0 : Nat := Nat.mul 2 (prodT 15 3)
theorem P0_le {Q : Nat} (hQ : Pr Q) (h : Q ∣ P0) : Q ≤ 46340 := by
  rcases hQ.mul h with k | k
  · have := Nat.le_of_dvd (by omega) k; omega
  · exact prodT_le hQ _ _ k
theorem P0_dvd {r : Nat} (hr : Pr r) (h : r ≤ 46340) : r ∣ P0 := by
  have h2 := hr.1
  rcases Nat.mod_two_eq_zero_or_one r with z | z
  · rcases hr.2 2 (Nat.dvd_of_mod_eq_zero z) with k | k
    · omega
    · exact ⟨prodT 15 3, by rw [← k]; rfl⟩
  · have e : (2 : Nat) ^ 15 = 32768 := by decide
    exact Nat.dvd_trans (prodT_dvd hr h 15 3 ((r - 3) / 2) (by omega) (by omega)) ⟨2, Nat.mul_comm _ _⟩
noncomputable def tst (n : Nat) : Bool := Bool.rec (motive := fun _ => Bool) (notmr n) (true) (Nat.ble 2147483648 n)
theorem tst_ok {n : Nat} (h : tst n = true) (hn : 2 ≤ n) (hlt : n < 2147483648) (hm : MrOk n) : False := by
  unfold tst at h
  cases e : Nat.ble 2147483648 n
  · rw [e, hm.notmr hn] at h; cases h
  · have := Nat.le_of_ble_eq_true e; omega
noncomputable def fin2 (k h : Nat) : Bool := Bool.rec (motive := fun _ => Bool) (Bool.rec (motive := fun _ => Bool) (tst (Nat.mul k h)) (Bool.rec (motive := fun _ => Bool) (false) (Bool.rec (motive := fun _ => Bool) (Bool.rec (motive := fun _ => Bool) (false) (tst (Nat.mul k (Nat.div h 54121))) (tst (Nat.mul k 54121))) (false) (Nat.ble 2147488281 (Nat.div h 54121))) (Nat.beq h (Nat.mul 54121 (Nat.div h 54121)))) (Nat.ble 2147488281 h)) (true) (Nat.beq h 1)
noncomputable def strip (k f : Nat) : Nat → Bool :=
  Nat.rec (motive := fun _ => Nat → Bool) (fun _ => false) (fun _ ih h => Bool.rec (motive := fun _ => Bool) (ih (Nat.div h (Nat.gcd h P0))) (Bool.rec (motive := fun _ => Bool) (fin2 k (Nat.gcd (Nat.gcd h (Nat.sub (Nat.pow 5 (Nat.sub k 1)) 1)) (Nat.sub (Nat.pow 7 (Nat.sub k 1)) 1))) (true) (Nat.beq h 1)) (Nat.beq (Nat.gcd h P0) 1)) f
theorem strip_succ (k f h : Nat) : strip k (f + 1) h = Bool.rec (motive := fun _ => Bool) (strip k f (Nat.div h (Nat.gcd h P0))) (Bool.rec (motive := fun _ => Bool) (fin2 k (Nat.gcd (Nat.gcd h (Nat.sub (Nat.pow 5 (Nat.sub k 1)) 1)) (Nat.sub (Nat.pow 7 (Nat.sub k 1)) 1))) (true) (Nat.beq h 1)) (Nat.beq (Nat.gcd h P0) 1) := rfl
noncomputable def chkB (k : Nat) : Bool := Bool.rec (motive := fun _ => Bool) (true) (strip k 20 (Nat.gcd (Nat.sub (Nat.pow 2 (Nat.sub k 1)) 1) (Nat.sub (Nat.pow 3 (Nat.sub k 1)) 1))) (Nat.beq (Nat.gcd k 210) 1)
theorem big_eq {h Q : Nat} (hh : h ≠ 0) (hc : ∀ r, Pr r → r ∣ h → 46340 < r) (hQ : Pr Q) (hd : Q ∣ h) (hlt : h < 2147488281) : h = Q := by
  obtain ⟨c, rfl⟩ := hd
  by_cases h1 : c = 1
  · rw [h1, Nat.mul_one]
  · have h0 : c ≠ 0 := fun z => hh (by rw [z, Nat.mul_zero])
    obtain ⟨r, hr, k⟩ := pr_factor c (by omega)
    have h2 := hc r hr (Nat.dvd_trans k ⟨Q, Nat.mul_comm _ _⟩)
    have h3 := hc Q hQ ⟨c, rfl⟩
    have h4 := Nat.le_of_dvd (by omega) k
    have := Nat.mul_le_mul (show 46341 ≤ Q by omega) (show 46341 ≤ c by omega)
    omega
theorem fin2_ok {k h Q : Nat} (hf : fin2 k h = true) (hk : 1 ≤ k) (hh : h ≠ 0) (hc : ∀ r, Pr r → r ∣ h → 46340 < r) (hQ : Pr Q) (hd : Q ∣ h) (hlt : k * Q < 2147483648) (hm : MrOk (k * Q)) : False := by
  have hQ2 := hQ.1
  have hkQ : 2 ≤ k * Q := Nat.le_trans hQ2 (Nat.le_mul_of_pos_left _ hk)
  unfold fin2 at hf
  cases e1 : Nat.beq h 1
  · rw [e1] at hf
    cases e2 : Nat.ble 2147488281 h
    · rw [e2] at hf
      have hl : h < 2147488281 := by
        apply Classical.byContradiction
        intro z
        rw [Nat.ble_eq_true_of_le (by omega)] at e2; cases e2
      obtain rfl := big_eq hh hc hQ hd hl
      exact tst_ok hf hkQ hlt hm
    · rw [e2] at hf
      obtain ⟨e3, hf⟩ := beq_split hf
      cases e4 : Nat.ble 2147488281 (Nat.div h 54121)
      · rw [e4] at hf
        obtain ⟨h1, h2⟩ := and_split hf
        have hl : Nat.div h 54121 < 2147488281 := by
          apply Classical.byContradiction
          intro z
          rw [Nat.ble_eq_true_of_le (by omega)] at e4; cases e4
        have e5 : h = 54121 * Nat.div h 54121 := e3
        rw [e5] at hd
        rcases hQ.mul hd with z | z
        · obtain rfl := big_eq (by omega) (fun r hr y => hc r hr (by rw [e5]; exact Nat.dvd_trans y ⟨_, rfl⟩)) hQ z (by omega)
          exact tst_ok h1 hkQ hlt hm
        · have e6 := big_eq (fun y => hh (by rw [e5, y])) (fun r hr y => hc r hr (by rw [e5]; exact Nat.dvd_trans y ⟨_, Nat.mul_comm _ _⟩)) hQ z hl
          rw [show Nat.mul k (Nat.div h 54121) = k * Q by rw [e6]; rfl] at h2
          exact tst_ok h2 hkQ hlt hm
      · rw [e4] at hf; cases hf
  · have := Nat.eq_of_beq_eq_true e1
    rw [this] at hd
    have := Nat.le_of_dvd (by omega) hd
    omega
theorem strip_ok {k Q : Nat} (hk : 1 ≤ k) (hQ : Pr Q) (hb : 46340 < Q) (h5 : Q ∣ 5 ^ (k - 1) - 1) (h7 : Q ∣ 7 ^ (k - 1) - 1) (hlt : k * Q < 2147483648) (hm : MrOk (k * Q)) : ∀ f h, h ≠ 0 → Q ∣ h → strip k f h = true → False
  | 0, h, _, _, hs => by simp [strip] at hs
  | f + 1, h, hh, hd, hs => by
    rw [strip_succ] at hs
    cases e1 : Nat.beq (Nat.gcd h P0) 1
    · rw [e1] at hs
      have hg : Nat.gcd h P0 ≠ 0 := fun z => hh (Nat.eq_zero_of_gcd_eq_zero_left z)
      have e : h = Nat.gcd h P0 * (h / Nat.gcd h P0) := (Nat.mul_div_cancel' (Nat.gcd_dvd_left h P0)).symm
      refine strip_ok hk hQ hb h5 h7 hlt hm f (h / Nat.gcd h P0) ?_ ?_ hs
      · intro z; rw [z, Nat.mul_zero] at e; exact hh e
      · rw [e] at hd
        rcases hQ.mul hd with z | z
        · have := P0_le hQ (Nat.dvd_trans z (Nat.gcd_dvd_right h P0)); omega
        · exact z
    · rw [e1] at hs
      have hg : Nat.gcd h P0 = 1 := Nat.eq_of_beq_eq_true e1
      cases e2 : Nat.beq h 1
      · rw [e2] at hs
        refine fin2_ok hs hk ?_ ?_ hQ (Nat.dvd_gcd (Nat.dvd_gcd hd h5) h7) hlt hm
        · intro z
          have := Nat.eq_zero_of_gcd_eq_zero_left z
          exact hh (Nat.eq_zero_of_gcd_eq_zero_left this)
        · intro r hr y
          apply Classical.byContradiction
          intro z
          have h1 : r ∣ h := Nat.dvd_trans y (Nat.dvd_trans (Nat.gcd_dvd_left _ _) (Nat.gcd_dvd_left _ _))
          have h2 := Nat.dvd_gcd h1 (P0_dvd hr (by omega))
          rw [hg] at h2
          have := Nat.le_of_dvd (by omega) h2
          have := hr.1
          omega
      · have := Nat.eq_of_beq_eq_true e2
        rw [this] at hd
        have := Nat.le_of_dvd (by omega) hd
        omega
theorem base_dvd {b k Q : Nat} (hb : Base b) (hQ : Pr Q) (hbig : 46340 < Q) (hk : 1 ≤ k) (hm : MrOk (k * Q)) : Q ∣ b ^ (k - 1) - 1 := by
  have hQ2 := hQ.1
  have hn : 2 ≤ k * Q := Nat.le_trans hQ2 (Nat.le_mul_of_pos_left _ hk)
  have hb1 : 1 ≤ b ∧ b ≤ 7 := by rcases hb with z | z | z | z <;> omega
  have hpos : ∀ e, 1 ≤ b ^ e := fun e => Nat.pow_pos (by omega)
  have e := hm.fermat hn hb
  have hd : k * Q ∣ b ^ (k * Q - 1) - 1 := sub_dvd (by rw [e]; exact (Nat.mod_eq_of_lt (by omega)).symm) (hpos _)
  have e2 : b ^ (k * Q - 1) % Q = 1 := by
    obtain ⟨c, hc⟩ := Nat.dvd_trans ⟨k, Nat.mul_comm _ _⟩ hd
    rw [show b ^ (k * Q - 1) = 1 + Q * c by have := hpos (k * Q - 1); omega, Nat.add_mul_mod_self_left]
    exact Nat.mod_eq_of_lt (by omega)
  have hf : b ^ (Q - 1) % Q = 1 := fermat hQ fun z => by have := Nat.le_of_dvd (by omega) z; omega
  have e3 : k * Q - 1 = (Q - 1) * k + (k - 1) := by
    obtain ⟨p, rfl⟩ : ∃ p, Q = p + 1 := ⟨Q - 1, by omega⟩
    rw [Nat.add_sub_cancel, Nat.mul_add, Nat.mul_one, Nat.mul_comm]
    omega
  rw [e3, Nat.pow_add, Nat.mul_mod, pow_one hQ2 hf, Nat.one_mul, Nat.mod_mod] at e2
  exact sub_dvd (by rw [e2]; exact (Nat.mod_eq_of_lt (by omega)).symm) (hpos _)
theorem MrOk.co210 {k Q : Nat} (hm : MrOk (k * Q)) (hk : 1 ≤ k) : Nat.gcd k 210 = 1 := by
  refine gcd_one (fun p hp h1 h2 => ?_) (by omega)
  have e : (210 : Nat) = 2 * (3 * (5 * 7)) := by decide
  rw [e] at h2
  have two : ∀ {q}, Pr q → p ∣ q → p = q := fun hq k => by
    rcases hq.2 p k with z | z
    · have := hp.1; omega
    · exact z
  have h3 : p ∣ k * Q := Nat.dvd_trans h1 ⟨Q, rfl⟩
  rcases hp.mul h2 with y | y
  · exact (hm 2 (.inl rfl)).1 (two pr2 y ▸ h3)
  · rcases hp.mul y with y | y
    · exact (hm 3 (.inr (.inl rfl))).1 (two pr3 y ▸ h3)
    · rcases hp.mul y with y | y
      · exact (hm 5 (.inr (.inr (.inl rfl)))).1 (two pr5 y ▸ h3)
      · exact (hm 7 (.inr (.inr (.inr rfl)))).1 (two pr7 y ▸ h3)
theorem chkB_ok {k Q : Nat} (h : chkB k = true) (hk : 2 ≤ k) (hQ : Pr Q) (hb : 46340 < Q) (hlt : k * Q < 2147483648) (hm : MrOk (k * Q)) : False := by
  unfold chkB at h
  rw [beq_t (hm.co210 (by omega))] at h
  have h2 := base_dvd (.inl rfl) hQ hb (by omega) hm
  have h3 := base_dvd (.inr (.inl rfl)) hQ hb (by omega) hm
  have h5 := base_dvd (.inr (.inr (.inl rfl))) hQ hb (by omega) hm
  have h7 := base_dvd (.inr (.inr (.inr rfl))) hQ hb (by omega) hm
  refine strip_ok (by omega) hQ hb h5 h7 hlt hm 20 _ ?_ (Nat.dvd_gcd h2 h3) h
  intro z
  have z2 : 2 ^ (k - 1) - 1 = 0 := Nat.eq_zero_of_gcd_eq_zero_left z
  have := Nat.pow_le_pow_right (show 0 < 2 by omega) (show 1 ≤ k - 1 by omega)
  omega
noncomputable def bRange (k0 c : Nat) : Bool :=
  Nat.rec (motive := fun _ => Bool) true (fun i ih => Bool.rec (motive := fun _ => Bool) (false) (ih) (chkB (Nat.add k0 (Nat.mul 2 i)))) c
theorem bRange_succ (k0 c : Nat) : bRange k0 (c + 1) = Bool.rec (motive := fun _ => Bool) (false) (bRange k0 c) (chkB (Nat.add k0 (Nat.mul 2 c))) := rfl
theorem bRange_ok (k0 : Nat) : ∀ c, bRange k0 c = true → ∀ i, i < c → chkB (k0 + 2 * i) = true
  | 0, _, i, hi => by omega
  | c + 1, h, i, hi => by
    rw [bRange_succ] at h
    obtain ⟨h1, h2⟩ := and_split h
    by_cases e : i = c
    · subst e; exact h1
    · exact bRange_ok k0 c h2 i (by omega)
def ps : List Nat := [11, 13, 17, 19, 23, 29, 31, 37, 41, 43, 47, 53, 59, 61, 67, 71, 73, 79, 83, 89, 97, 101, 103, 107, 109, 113, 127, 131, 137, 139, 149]
theorem mr_prime (hap : ∀ q, Pr q → 150 < q → q < 46341 → Ap q) (hB : ∀ k, k % 2 = 1 → 11 ≤ k → k ≤ 46340 → chkB k = true) (hasc : Asc ps) (hS : AllS ps) (hpr : ∀ p ∈ ps, Pr p) (hall : ∀ p, Pr p → 11 ≤ p → p ≤ 150 → p ∈ ps) {n : Nat} (h2 : 2 ≤ n) (hlt : n < 2147483648) (hm : MrOk n) : Pr n := by
  apply Classical.byContradiction
  intro hn
  have h11 : ∀ p, Pr p → p ∣ n → 11 ≤ p := by
    intro p hp hd
    apply Classical.byContradiction
    intro hc
    have hp2 := hp.1
    have : p = 2 ∨ p = 3 ∨ p = 4 ∨ p = 5 ∨ p = 6 ∨ p = 7 ∨ p = 8 ∨ p = 9 ∨ p = 10 := by omega
    rcases this with z | z | z | z | z | z | z | z | z <;> subst z
    · exact (hm 2 (.inl rfl)).1 hd
    · exact (hm 3 (.inr (.inl rfl))).1 hd
    · rcases hp.2 2 ⟨2, rfl⟩ with y | y <;> omega
    · exact (hm 5 (.inr (.inr (.inl rfl)))).1 hd
    · rcases hp.2 2 ⟨3, rfl⟩ with y | y <;> omega
    · exact (hm 7 (.inr (.inr (.inr rfl)))).1 hd
    · rcases hp.2 2 ⟨4, rfl⟩ with y | y <;> omega
    · rcases hp.2 3 ⟨3, rfl⟩ with y | y <;> omega
    · rcases hp.2 2 ⟨5, rfl⟩ with y | y <;> omega
  have hsm : ∀ p, Pr p → p ∣ n → p ≤ 150 := by
    intro p hp hd
    apply Classical.byContradiction
    intro hc
    by_cases hb : p < 46341
    · exact hap p hp (by omega) hb n hd (fun z => hn (z ▸ hp)) hlt h2 hm
    · obtain ⟨k, rfl⟩ := hd
      rw [Nat.mul_comm] at hm hlt h2 hn h11
      have hk1 : k ≠ 1 := fun z => hn (by rw [z, Nat.one_mul]; exact hp)
      have hk0 : k ≠ 0 := fun z => by rw [z, Nat.zero_mul] at h2; omega
      have hkl : k ≤ 46340 := by
        apply Classical.byContradiction
        intro z
        have := Nat.mul_le_mul (show 46341 ≤ k by omega) (show 46341 ≤ p by omega)
        omega
      obtain ⟨r, hr, y⟩ := pr_factor k (by omega)
      have h1 := h11 r hr (Nat.dvd_trans y ⟨p, rfl⟩)
      have h3 := Nat.le_of_dvd (by omega) y
      have hodd : k % 2 = 1 := by
        rcases Nat.mod_two_eq_zero_or_one k with z | z
        · exact absurd (Nat.dvd_trans (Nat.dvd_of_mod_eq_zero z) ⟨p, rfl⟩) (hm 2 (.inl rfl)).1
        · exact z
      exact chkB_ok (hB k hodd (by omega) hkl) (by omega) hp (by omega) hlt hm
  have hl := smooth_ok ps hasc hS n h2 hlt fun r hr y => hall r hr (h11 r hr y) (hsm r hr y)
  exact hn (hpr n (leaf_mr hl hm h2))
end Go.Proofs.YtddbhhedjipjkaaGreatDoor.MR
