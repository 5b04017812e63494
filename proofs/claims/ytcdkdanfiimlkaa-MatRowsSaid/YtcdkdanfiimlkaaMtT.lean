/-
  A step on rows, by what it is of; the law MatRows.
-/
import Derived.Test.YtcdkdanfiimlkaaMtS
/-! The law's walk: a step on rows is a product. -/
namespace Go.Proofs.Ytcdkdanfiimlkaa
open Go.RowKit
set_option linter.unusedVariables false
set_option linter.unusedSimpArgs false

theorem dot_row {G G' F : Nat → Nat → Int} {a a' b : Nat} : ∀ {n}, (∀ t, t < n → G a t = G' a' t) → dot G F a b n = dot G' F a' b n
  | 0, _ => rfl
  | n + 1, h => by
    show dot G F a b n + G a n * F n b = dot G' F a' b n + G' a' n * F n b
    rw [dot_row (fun t ht => h t (by omega)), h n (by omega)]
def unitF : Nat → Nat → Int := fun i j => if i = j then 1 else 0
theorem dot_unit (F : Nat → Nat → Int) (a b : Nat) : ∀ n, dot unitF F a b n = if a < n then F a b else 0
  | 0 => by simp [dot]
  | n + 1 => by
    show dot unitF F a b n + unitF a n * F n b = _
    rw [dot_unit F a b n]
    unfold unitF
    by_cases h : a = n
    · subst h; simp
    · rw [if_neg h]
      by_cases h2 : a < n
      · rw [if_pos h2, if_pos (by omega)]; simp
      · rw [if_neg h2, if_neg (by omega)]; simp
theorem dot_mix {G I F : Nat → Nat → Int} {a p b : Nat} {z : Int} (h : ∀ t, G a t = I a t + z * I p t) : ∀ n, dot G F a b n = dot I F a b n + z * dot I F p b n
  | 0 => by simp [dot]
  | n + 1 => by
    show dot G F a b n + G a n * F n b = (dot I F a b n + I a n * F n b) + z * (dot I F p b n + I p n * F n b)
    rw [dot_mix h n, h n]; grind
theorem dot_less {G I F : Nat → Nat → Int} {a b : Nat} (h : ∀ t, G a t = -I a t) : ∀ n, dot G F a b n = -dot I F a b n
  | 0 => by simp [dot]
  | n + 1 => by
    show dot G F a b n + G a n * F n b = -(dot I F a b n + I a n * F n b)
    rw [dot_less h n, h n]; grind
/-- What a step makes of a matrix. -/
def stF (j : Int) (i p : Nat) (z : Int) (F : Nat → Nat → Int) : Nat → Nat → Int := fun a b => if j = 0 then (if a = i then F p b else if a = p then F i b else F a b) else if j = 1 then (if a = i then F a b + z * F p b else F a b) else (if a = i then -F a b else F a b)
/-- The step's rows are there. -/
def thr (j r x y : Int) : Prop := 0 ≤ x ∧ x < r ∧ (j = 2 ∨ (0 ≤ y ∧ y < r)) ∧ (j ≠ 1 ∨ x ≠ y)
theorem st_dot {j : Int} {i p r : Nat} {z : Int} {F : Nat → Nat → Int} {a b : Nat} (hj : j = 0 ∨ j = 1 ∨ j = 2) (hi : i < r) (hp : j = 2 ∨ p < r) (ha : a < r) : dot (stF j i p z unitF) F a b r = stF j i p z F a b := by
  have U : ∀ a', a' < r → dot unitF F a' b r = F a' b := fun a' h => by rw [dot_unit, if_pos h]
  rcases hj with rfl | rfl | rfl
  · have hp : p < r := by omega
    unfold stF
    simp only [if_true]
    by_cases h1 : a = i
    · subst h1; simp only [if_true]
      rw [← U p hp]
      exact dot_row fun t _ => by simp
    · by_cases h2 : a = p
      · subst h2; simp only [if_neg h1, if_true]
        rw [← U i hi]
        exact dot_row fun t _ => by simp [h1]
      · simp only [if_neg h1, if_neg h2]
        rw [← U a ha]
        exact dot_row fun t _ => by simp [h1, h2]
  · have hp : p < r := by omega
    unfold stF
    simp only [if_neg (show ¬ (1 : Int) = 0 by decide), if_true]
    by_cases h1 : a = i
    · subst h1; simp only [if_true]
      rw [dot_mix (I := unitF) (p := p) (z := z) (fun t => by simp), U a ha, U p hp]
    · simp only [if_neg h1]
      rw [← U a ha]
      exact dot_row fun t _ => by simp [h1]
  · unfold stF
    simp only [if_neg (show ¬ (2 : Int) = 0 by decide), if_neg (show ¬ (2 : Int) = 1 by decide)]
    by_cases h1 : a = i
    · subst h1; simp only [if_true]
      rw [dot_less (I := unitF) (fun t => by simp), U a ha]
    · simp only [if_neg h1]
      rw [← U a ha]
      exact dot_row fun t _ => by simp [h1]
theorem kT_more {r c K K' : Nat} {F : Nat → Nat → Int} {w : World} (hk : K ≤ K') {E : Ending} {w' : World} (h : RetK (kT (kM true r c K F) (.k (.int .i64 0))) w E w') : RetK (kT (kM true r c K' F) (.k (.int .i64 0))) w E w' := by
  obtain ⟨u, rfl, ⟨a, b, rfl, ⟨A, n, d, rfl, hM⟩, h2⟩, hB⟩ := h
  exact ⟨_, rfl, ⟨_, _, rfl, ⟨A, n, d, rfl, hM.mono hk⟩, h2⟩, hB⟩
theorem crw_out {r x y : Int} (h : ¬ ((0 ≤ x ∧ x < r) ∧ (0 ≤ y ∧ y < r))) : crw true r [x, y] = 1 := by
  unfold crw
  rw [if_neg (by simp), if_neg]
  simp
  omega
theorem crw_out1 {r x : Int} (h : ¬ (0 ≤ x ∧ x < r)) : crw true r [x] = 1 := by
  unfold crw
  rw [if_neg (by simp), if_neg]
  simp
  omega
theorem crw_same {r x : Int} (h : 0 ≤ x ∧ x < r) : crw true r [x, x] = 0 := by
  unfold crw
  rw [if_neg (by simp), if_pos]
  simp
  omega
section
variable {r₀ c₀ u x y j : Int} {A D : Option Addr} {n d m e : Nat} {s : Bool} {w : World}
set_option maxRecDepth 100000 in
theorem do_unformed (h0 : 0 ≤ u) (hj : u % 3 = j) (hf : fmd r₀ c₀ n = false) : Calls Try.prog 30 #[.agg #[.int .i64 r₀, .int .i64 c₀, .slice A n d], .agg #[.int .u8 u, .int .i64 x, .int .i64 y, .bool s, .slice D m e]] w (RetK (noM 2) w) := by
  have h3 : u % 3 = 0 ∨ u % 3 = 1 ∨ u % 3 = 2 := by omega
  rcases h3 with h | h | h
  · exact do0_no h0 h fun w2 hB => mswap_no hf rfl (by decide)
  · exact do1_no h0 h fun w2 hB => maddrow_no hf rfl (by decide)
  · exact do2_no h0 h fun w2 hB => mnegrow_no hf rfl (by decide)
set_option maxRecDepth 100000 in
theorem do_away (h0 : 0 ≤ u) (hj : u % 3 = j) (hf : fmd r₀ c₀ n = true) (ht : ¬ thr j r₀ x y) : Calls Try.prog 30 #[.agg #[.int .i64 r₀, .int .i64 c₀, .slice A n d], .agg #[.int .u8 u, .int .i64 x, .int .i64 y, .bool s, .slice D m e]] w (RetK (noM 1) w) := by
  have h3 : u % 3 = 0 ∨ u % 3 = 1 ∨ u % 3 = 2 := by omega
  subst hj
  unfold thr at ht
  rcases h3 with h | h | h
  · exact do0_no h0 h fun w2 hB => mswap_no hf (crw_out (by omega)) (by decide)
  · by_cases hxy : (0 ≤ x ∧ x < r₀) ∧ x = y
    · obtain ⟨h1, rfl⟩ := hxy
      exact do1_no h0 h fun w2 hB => maddrow_one hf (crw_same h1)
    · exact do1_no h0 h fun w2 hB => maddrow_no hf (crw_out (by omega)) (by decide)
  · exact do2_no h0 h fun w2 hB => mnegrow_no hf (crw_out1 (by omega)) (by decide)
set_option maxRecDepth 100000 in
theorem do_there {q : Bool} {r c k : Nat} {z : Int} {F : Nat → Nat → Int} (h0 : 0 ≤ u) (hj : u % 3 = j) (ha : Mt q w r c A n d k F) (hz : Zv w s D m e z) (ht : thr j r x y) (hk : m + k ≤ 549755813888) : Calls Try.prog 30 #[.agg #[.int .i64 (r : Int), .int .i64 (c : Int), .slice A n d], .agg #[.int .u8 u, .int .i64 x, .int .i64 y, .bool s, .slice D m e]] w (RetK (kT (kM true r c (m + k + 1) (stF j x.toNat y.toNat z F)) (.k (.int .i64 0))) w) := by
  have h3 : u % 3 = 0 ∨ u % 3 = 1 ∨ u % 3 = 2 := by omega
  subst hj
  unfold thr at ht
  obtain ⟨hx0, hxr, hy, hne⟩ := ht
  obtain ⟨i, rfl⟩ := Int.eq_ofNat_of_zero_le hx0
  have hi : i < r := by omega
  rw [show ((i : Nat) : Int).toNat = i from rfl]
  rcases h3 with h | h | h
  · obtain ⟨p, rfl⟩ := Int.eq_ofNat_of_zero_le (show 0 ≤ y by omega)
    rw [show ((p : Nat) : Int).toNat = p from rfl, h]
    exact do0_yes h0 h fun w2 hB => (mswap_yes (ha.below hB) hi (by omega) (by omega)).mono fun E w' h => kT_more (by omega) h
  · obtain ⟨p, rfl⟩ := Int.eq_ofNat_of_zero_le (show 0 ≤ y by omega)
    rw [show ((p : Nat) : Int).toNat = p from rfl, h]
    exact do1_yes h0 h fun w2 hB => maddrow_yes (ha.below hB) (hz.below hB) hi (by omega) (by omega) hk
  · rw [h]
    exact do2_yes h0 h fun w2 hB => (mnegrow_yes (ha.below hB) hi (by omega)).mono fun E w' h => kT_more (by omega) h
end
end Go.Proofs.Ytcdkdanfiimlkaa
