/-
  Package zint: Cmp, Same, Small, Pow.
-/
import Derived.Test.YtfdgblmegiehnaaDoorZintA
/-! Contracts: zint.Cmp, Same, Small, Pow. -/
namespace Go.Proofs.YtfdgblmegiehnaaDoor
open Go.RowKit
set_option linter.unusedVariables false
set_option linter.unusedSimpArgs false

/-- Two whole numbers in new memory. -/
theorem open2 (w : World) (s t : Bool) (A B : Option Addr) (n c m d : Nat) :
    ∃ w3, w3 = ((w.alloc (.cells #[.bool s, .slice A n c] 41)).alloc (.cells #[.bool t, .slice B m d] 41)) ∧
      Ib w3 w.heap.size s A n c ∧ Ib w3 (w.heap.size + 1) t B m d ∧ Below w.heap.size w w3 := by
  refine ⟨_, rfl, ?_, ?_, zba2 _ _ _⟩
  · exact (Ib.new w s A n c _).below (zba _ _)
  · have := Ib.new (w.alloc (.cells #[.bool s, .slice A n c] 41)) t B m d 41
    simpa using this
theorem sign_apart {X Y : Int} (h : X.sign ≠ Y.sign) : (X.sign - Y.sign).sign = (X - Y).sign := by
  rcases Int.lt_trichotomy X 0 with h1 | h1 | h1
  · rw [Int.sign_eq_neg_one_of_neg h1] at *
    rcases Int.lt_trichotomy Y 0 with h2 | h2 | h2
    · rw [Int.sign_eq_neg_one_of_neg h2] at h; omega
    · subst h2; simp; rw [Int.sign_eq_neg_one_of_neg h1]
    · rw [Int.sign_eq_one_of_pos h2, Int.sign_eq_neg_one_of_neg (a := X - Y) (by omega)]; rfl
  · subst h1
    rcases Int.lt_trichotomy Y 0 with h2 | h2 | h2
    · rw [Int.sign_eq_neg_one_of_neg h2, Int.sign_eq_one_of_pos (a := 0 - Y) (by omega)]; rfl
    · subst h2; simp at h
    · rw [Int.sign_eq_one_of_pos h2, Int.sign_eq_neg_one_of_neg (a := 0 - Y) (by omega)]; rfl
  · rw [Int.sign_eq_one_of_pos h1] at *
    rcases Int.lt_trichotomy Y 0 with h2 | h2 | h2
    · rw [Int.sign_eq_neg_one_of_neg h2, Int.sign_eq_one_of_pos (a := X - Y) (by omega)]; rfl
    · subst h2; simp; rw [Int.sign_eq_one_of_pos h1]
    · rw [Int.sign_eq_one_of_pos h2] at h; omega
theorem sign_neg {X : Int} (h : X.sign < 0) : X < 0 := by
  rcases Int.lt_trichotomy X 0 with h1 | h1 | h1
  · exact h1
  · subst h1; simp at h
  · rw [Int.sign_eq_one_of_pos h1] at h; omega
theorem sign_nonneg {X : Int} (h : ¬ X.sign < 0) : 0 ≤ X := by
  rcases Int.lt_trichotomy X 0 with h1 | h1 | h1
  · rw [Int.sign_eq_neg_one_of_neg h1] at h; omega
  · omega
  · omega

/-- What zint.Small answers. -/
def SmallPost (z : Int) (w : World) (e : Ending) (w' : World) : Prop :=
  (e = .returned (.tuple #[.int .i64 (if -9223372036854775808 ≤ z ∧ z ≤ 9223372036854775807 then z else 0), .bool (decide (-9223372036854775808 ≤ z ∧ z ≤ 9223372036854775807))])) ∧ Below w.heap.size w w'
theorem SmallPost.yes {z : Int} {w w' : World} (h1 : -9223372036854775808 ≤ z) (h2 : z ≤ 9223372036854775807) (hb : Below w.heap.size w w') : SmallPost z w (.returned (.tuple #[.int .i64 z, .bool true])) w' :=
  ⟨by rw [if_pos ⟨h1, h2⟩, decide_eq_true ⟨h1, h2⟩], hb⟩
theorem SmallPost.no {z : Int} {w w' : World} (h : ¬ (-9223372036854775808 ≤ z ∧ z ≤ 9223372036854775807)) (hb : Below w.heap.size w w') : SmallPost z w (.returned (.tuple #[.int .i64 0, .bool false])) w' :=
  ⟨by rw [if_neg h, decide_eq_false h], hb⟩
/-- zint.Pow: a power. -/
def ZPowPost (z : Int) (k : Nat) (w : World) (e : Ending) (w' : World) : Prop :=
  ∃ s A n c, e = .returned (.tuple #[.agg #[.bool s, .slice A n c], .bool true]) ∧ Zc w' s A n c z ∧ n ≤ k ∧ Below w.heap.size w w'
theorem zfin2 {w w2 : World} {A B : Option Addr} {n c g k m d : Nat} {s t : Bool} {z : Int} (h : Zc w2 s A n c z) (hi : Ib w2 g t B m d) (hk : n ≤ k) (hg : w.heap.size ≤ g) (hB : Below w.heap.size w w2) :
    ZPowPost z k w (.returned (.tuple #[.agg #[.bool s, .slice A n c], .bool true])) ((w2.setCell ⟨g, 0, none⟩ (.bool s)).setCell ⟨g, 1, none⟩ (.slice A n c)) :=
  ⟨s, A, n, c, rfl, h.put hi, hk, below_put hB hg⟩
/-- A whole number, and a result, in new memory. -/
theorem open1 (w : World) (s : Bool) (A : Option Addr) (n c : Nat) :
    ∃ w3, w3 = ((w.alloc (.cells #[.bool s, .slice A n c] 41)).alloc (.cells #[.bool false, .slice none 0 0] 41)) ∧
      Ib w3 w.heap.size s A n c ∧ Ib w3 (w.heap.size + 1) false none 0 0 ∧ Below w.heap.size w w3 := open2 w s false A none n c 0 0
/-- Below 0: some number and false. -/
def ZNoPost (w : World) (e : Ending) (w' : World) : Prop := e = .returned (.tuple #[.agg #[.bool false, .slice none 0 0], .bool false]) ∧ Below w.heap.size w w'
end Go.Proofs.YtfdgblmegiehnaaDoor
