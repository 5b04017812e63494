/-
  Products go together, and with sums and transposes.
-/
import Derived.Test.YtcdkdanfiimlkaaMtQ
/-! Plain facts on matrices as sides and numbers. -/
namespace Go.Proofs.Ytcdkdanfiimlkaa
open Go.RowKit
set_option linter.unusedVariables false
set_option linter.unusedSimpArgs false

theorem dot_add (F G H : Nat → Nat → Int) (i j : Nat) : ∀ n, dot F (fun i j => G i j + H i j) i j n = dot F G i j n + dot F H i j n
  | 0 => rfl
  | n + 1 => by
    show dot F (fun i j => G i j + H i j) i j n + F i n * (G n j + H n j) = (dot F G i j n + F i n * G n j) + (dot F H i j n + F i n * H n j)
    rw [dot_add F G H i j n]; grind
theorem dot_scale (F G : Nat → Nat → Int) (z : Int) (i j m : Nat) : ∀ n, dot F (fun t _ => G t m * z) i j n = dot F G i m n * z
  | 0 => (Int.zero_mul z).symm
  | n + 1 => by
    show dot F (fun t _ => G t m * z) i j n + F i n * (G n m * z) = (dot F G i m n + F i n * G n m) * z
    rw [dot_scale F G z i j m n]; grind
theorem dot_none (F : Nat → Nat → Int) (i j : Nat) : ∀ n, dot F (fun _ _ => 0) i j n = 0
  | 0 => rfl
  | n + 1 => by
    show dot F (fun _ _ => 0) i j n + F i n * 0 = 0
    rw [dot_none F i j n]; grind
theorem dot_congr {F F' G G' : Nat → Nat → Int} {i j : Nat} : ∀ {n}, (∀ t, t < n → F i t = F' i t) → (∀ t, t < n → G t j = G' t j) → dot F G i j n = dot F' G' i j n
  | 0, _, _ => rfl
  | n + 1, h1, h2 => by
    show dot F G i j n + F i n * G n j = dot F' G' i j n + F' i n * G' n j
    rw [dot_congr (fun t ht => h1 t (by omega)) (fun t ht => h2 t (by omega)), h1 n (by omega), h2 n (by omega)]
theorem dot_assoc (F G H : Nat → Nat → Int) (i j n : Nat) : ∀ m, dot (fun i j => dot F G i j n) H i j m = dot F (fun i j => dot G H i j m) i j n
  | 0 => (dot_none F i j n).symm
  | m + 1 => by
    show dot (fun i j => dot F G i j n) H i j m + dot F G i m n * H m j = dot F (fun t j => dot G H t j m + G t m * H m j) i j n
    rw [dot_assoc F G H i j n m, dot_add F (fun t j => dot G H t j m) (fun t j => G t m * H m j) i j n, ← dot_scale F G (H m j) i j m n]
    congr 1
    exact dot_congr (fun _ _ => rfl) (fun _ _ => rfl)
theorem dot_turn (F G : Nat → Nat → Int) (i j : Nat) : ∀ n, dot (fun i j => G j i) (fun i j => F j i) j i n = dot F G i j n
  | 0 => rfl
  | n + 1 => by
    show dot (fun i j => G j i) (fun i j => F j i) j i n + G n j * F i n = dot F G i j n + F i n * G n j
    rw [dot_turn F G i j n, Int.mul_comm]
/-- The same matrix. -/
def SP (p q : PM) : Prop := p.r = q.r ∧ p.c = q.c ∧ ∀ i j, i < p.r → j < p.c → p.F i j = q.F i j
theorem vE_or (x : Option PM) : vE x = 0 ∨ vE x = 2 := by cases x; exact .inr rfl; exact .inl rfl
theorem vE_some {x : Option PM} (h : vE x = 0) : ∃ p, x = some p := by
  cases x with
  | none => exact absurd (show (2 : Int) = 0 from h) (by decide)
  | some p => exact ⟨p, rfl⟩
theorem oMul_some {x y : Option PM} (h : vE (oMul x y) = 0) : ∃ a b, x = some a ∧ y = some b ∧ a.c = b.r ∧ oMul x y = some ⟨a.r, b.c, fun i j => dot a.F b.F i j a.c⟩ := by
  cases x with
  | none => exact absurd (show (2 : Int) = 0 from h) (by decide)
  | some a =>
    cases y with
    | none => exact absurd (show (2 : Int) = 0 from h) (by decide)
    | some b =>
      by_cases hc : a.c = b.r
      · exact ⟨a, b, rfl, rfl, hc, if_pos hc⟩
      · rw [show oMul (some a) (some b) = none from if_neg hc] at h; exact absurd (show (2 : Int) = 0 from h) (by decide)
theorem oAdd_some {x y : Option PM} (h : vE (oAdd x y) = 0) : ∃ a b, x = some a ∧ y = some b ∧ a.r = b.r ∧ a.c = b.c ∧ oAdd x y = some ⟨a.r, a.c, fun i j => a.F i j + b.F i j⟩ := by
  cases x with
  | none => exact absurd (show (2 : Int) = 0 from h) (by decide)
  | some a =>
    cases y with
    | none => exact absurd (show (2 : Int) = 0 from h) (by decide)
    | some b =>
      by_cases hc : a.r = b.r ∧ a.c = b.c
      · exact ⟨a, b, rfl, rfl, hc.1, hc.2, if_pos hc⟩
      · rw [show oAdd (some a) (some b) = none from if_neg hc] at h; exact absurd (show (2 : Int) = 0 from h) (by decide)
/-- (a b) c = a (b c). -/
theorem ring_assoc {x y z : Option PM} (h1 : vE (oMul x y) = 0) (h2 : vE (oMul y z) = 0) : vE (oMul (some (vP (oMul x y))) z) = 0 ∧ vE (oMul x (some (vP (oMul y z)))) = 0 ∧ SP (vP (oMul (some (vP (oMul x y))) z)) (vP (oMul x (some (vP (oMul y z))))) := by
  obtain ⟨a, b, rfl, rfl, hab, e1⟩ := oMul_some h1
  obtain ⟨b', c, hb, rfl, hbc, e2⟩ := oMul_some h2
  cases hb
  rw [e1, e2]
  have e3 : oMul (some (vP (some ⟨a.r, b.c, fun i j => dot a.F b.F i j a.c⟩))) (some c) = some ⟨a.r, c.c, fun i j => dot (fun i j => dot a.F b.F i j a.c) c.F i j b.c⟩ := if_pos hbc
  have e4 : oMul (some a) (some (vP (some ⟨b.r, c.c, fun i j => dot b.F c.F i j b.c⟩))) = some ⟨a.r, c.c, fun i j => dot a.F (fun i j => dot b.F c.F i j b.c) i j a.c⟩ := if_pos hab
  rw [e3, e4]
  exact ⟨rfl, rfl, rfl, rfl, fun i j _ _ => dot_assoc a.F b.F c.F i j a.c b.c⟩
/-- a (b + c) = a b + a c. -/
theorem ring_add {x y z : Option PM} (h1 : vE (oAdd y z) = 0) (h2 : vE (oMul x y) = 0) : vE (oMul x (some (vP (oAdd y z)))) = 0 ∧ vE (oMul x z) = 0 ∧ vE (oAdd (some (vP (oMul x y))) (some (vP (oMul x z)))) = 0 ∧ SP (vP (oMul x (some (vP (oAdd y z))))) (vP (oAdd (some (vP (oMul x y))) (some (vP (oMul x z))))) := by
  obtain ⟨a, b, rfl, rfl, hab, e1⟩ := oMul_some h2
  obtain ⟨b', c, hb, rfl, hr, hc, e2⟩ := oAdd_some h1
  cases hb
  rw [e1, e2]
  have e3 : oMul (some a) (some (vP (some ⟨b.r, b.c, fun i j => b.F i j + c.F i j⟩))) = some ⟨a.r, b.c, fun i j => dot a.F (fun i j => b.F i j + c.F i j) i j a.c⟩ := if_pos hab
  have e4 : oMul (some a) (some c) = some ⟨a.r, c.c, fun i j => dot a.F c.F i j a.c⟩ := if_pos (hab.trans hr)
  rw [e3, e4]
  have e5 : oAdd (some (vP (some ⟨a.r, b.c, fun i j => dot a.F b.F i j a.c⟩))) (some (vP (some ⟨a.r, c.c, fun i j => dot a.F c.F i j a.c⟩))) = some ⟨a.r, b.c, fun i j => dot a.F b.F i j a.c + dot a.F c.F i j a.c⟩ := if_pos ⟨rfl, hc⟩
  rw [e5]
  exact ⟨rfl, rfl, rfl, rfl, rfl, fun i j _ _ => dot_add a.F b.F c.F i j a.c⟩
theorem msame_sp {q q' : Bool} {p p' : PM} {n d k n' d' k' : Nat} {A A' : Option Addr} {w : World} (ha : Mt q w p.r p.c A n d k p.F) (hg : Mt q' w p'.r p'.c A' n' d' k' p'.F) (hs : SP p p') (hk : k ≤ 1099511627776) (hk' : k' ≤ 1099511627776) : Calls Try.prog 41 #[.agg #[.int .i64 (p.r : Int), .int .i64 (p.c : Int), .slice A n d], .agg #[.int .i64 (p'.r : Int), .int .i64 (p'.c : Int), .slice A' n' d']] w (RetK (.k (.bool true)) w) :=
  msame_q ha hg ⟨fun _ => hs, fun _ => rfl⟩ hk hk'
end Go.Proofs.Ytcdkdanfiimlkaa
