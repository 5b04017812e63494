/-
  Package zint: divide, Quo, Floor, Euclid.
-/
import Derived.Test.YtfdgblmegiehnaaDoorZintB
import Derived.Test.YtfdgblmegiehnaaDoorDivE
/-! Contracts: zint.divide, Quo, Floor, Euclid. -/
namespace Go.Proofs.YtfdgblmegiehnaaDoor
open Go.RowKit
set_option linter.unusedVariables false
set_option linter.unusedSimpArgs false

/-- The quotient and the rest that divide makes: the rest has the sign u. -/
def dqv (s t u : Bool) (X Y : Nat) : Int := if X % Y ≠ 0 ∧ s ≠ u then sg (!(s == t)) (X / Y + 1) else sg (!(s == t)) (X / Y)
def drv (s u : Bool) (X Y : Nat) : Int := if X % Y ≠ 0 ∧ s ≠ u then sg u (Y - X % Y) else sg u (X % Y)
theorem dqv_eq {s t u : Bool} {X Y : Nat} (hY : 0 < Y) : dqv s t u X Y * sg t Y + drv s u X Y = sg s X := by
  have h1 := Nat.div_add_mod X Y
  have h2 := Nat.mod_lt X hY
  unfold dqv drv
  generalize X / Y = q at *
  generalize X % Y = r at *
  subst h1
  have e : ((Y * q + r : Nat) : Int) = (q : Int) * (Y : Int) + (r : Int) := by push_cast; rw [Int.mul_comm]
  by_cases h : r ≠ 0 ∧ s ≠ u
  · rw [if_pos h, if_pos h]
    have e2 : ((Y - r : Nat) : Int) = (Y : Int) - (r : Int) := by omega
    obtain ⟨_, h⟩ := h
    cases s <;> cases t <;> cases u <;> simp [sg, e, e2, Int.add_mul, Int.neg_mul, Int.mul_neg] at * <;> omega
  · rw [if_neg h, if_neg h]
    by_cases h0 : r = 0
    · subst h0
      cases s <;> cases t <;> cases u <;> simp [sg, e, Int.add_mul, Int.neg_mul, Int.mul_neg, Int.mul_comm] at *
    · have hsu : s = u := by
        by_cases h3 : s = u
        · exact h3
        · exact absurd ⟨h0, h3⟩ h
      subst hsu
      cases s <;> cases t <;> simp [sg, e, Int.add_mul, Int.neg_mul, Int.mul_neg] at * <;> omega
/-- The rest's size and sign. -/
theorem drv_lt {s u : Bool} {X Y : Nat} (hY : 0 < Y) : ∃ R, R < Y ∧ drv s u X Y = sg u R := by
  have h2 := Nat.mod_lt X hY
  unfold drv
  split
  · exact ⟨_, by omega, rfl⟩
  · exact ⟨_, h2, rfl⟩

/-- Two whole numbers are answered, and true. -/
def Z2Post (q r : Int) (kq kr : Nat) (w : World) (e : Ending) (w' : World) : Prop :=
  ∃ s A n c t B m d, e = .returned (.tuple #[.agg #[.bool s, .slice A n c], .agg #[.bool t, .slice B m d], .bool true]) ∧ Zc w' s A n c q ∧ Zc w' t B m d r ∧ n ≤ kq ∧ m ≤ kr ∧ Below w.heap.size w w'
theorem Ib.put' {w : World} {A B : Option Addr} {n c g g' m d : Nat} {s t : Bool} (h : Ib w g s A n c) (hg : g ≠ g') : Ib ((w.setCell ⟨g', 0, none⟩ (.bool t)).setCell ⟨g', 1, none⟩ (.slice B m d)) g s A n c := Ib.put (l := 0) (e := 0) (u := true) (C := none) h hg
/-- The end of a function whose results are two whole numbers that lie in memory, and true. -/
theorem zfin22 {w w2 : World} {A B C D : Option Addr} {n c m d g g' kq kr n1 c1 m1 d1 : Nat} {s t s1 t1 : Bool} {q r : Int} (hq : Zc w2 s A n c q) (hr : Zc w2 t B m d r) (hi : Ib w2 g s1 C n1 c1) (hj : Ib w2 g' t1 D m1 d1) (hne : g ≠ g') (hk : n ≤ kq) (hk' : m ≤ kr)
    (hg : w.heap.size ≤ g) (hg' : w.heap.size ≤ g') (hB : Below w.heap.size w w2) :
    Z2Post q r kq kr w (.returned (.tuple #[.agg #[.bool s, .slice A n c], .agg #[.bool t, .slice B m d], .bool true])) ((((w2.setCell ⟨g, 0, none⟩ (.bool s)).setCell ⟨g, 1, none⟩ (.slice A n c)).setCell ⟨g', 0, none⟩ (.bool t)).setCell ⟨g', 1, none⟩ (.slice B m d)) :=
  ⟨s, A, n, c, t, B, m, d, rfl, (hq.put hi).put (hj.put' (t := s) (B := A) (m := n) (d := c) (Ne.symm hne)), (hr.put hi).put (hj.put' (t := s) (B := A) (m := n) (d := c) (Ne.symm hne)), hk, hk', below_put (below_put hB hg) hg'⟩
/-- Two whole numbers, and two results, in new memory. -/
theorem open4 (w : World) (s t : Bool) (A B : Option Addr) (n c m d : Nat) :
    ∃ w3, w3 = (((w.alloc (.cells #[.bool s, .slice A n c] 41)).alloc (.cells #[.bool t, .slice B m d] 41)).alloc (.cells #[.bool false, .slice none 0 0] 41)).alloc (.cells #[.bool false, .slice none 0 0] 41) ∧
      Ib w3 w.heap.size s A n c ∧ Ib w3 (w.heap.size + 1) t B m d ∧ Ib w3 (w.heap.size + 1 + 1) false none 0 0 ∧ Ib w3 (w.heap.size + 1 + 1 + 1) false none 0 0 ∧ Below w.heap.size w w3 := by
  obtain ⟨w3, h, h1, h2, h3, h4⟩ := open3 w s t A B n c m d
  have e : w3.heap.size = w.heap.size + 1 + 1 + 1 := by rw [h]; simp
  refine ⟨w3.alloc (.cells #[.bool false, .slice none 0 0] 41), by rw [h], h1.below (zba _ _), h2.below (zba _ _), h3.below (zba _ _), ?_, zup h4 (zba _ _)⟩
  rw [← e]
  exact Ib.new _ _ _ _ _ _
theorem dqv_a {s t u : Bool} {X Y : Nat} (h : X % Y = 0) : dqv s t u X Y = sg (!(s == t)) (X / Y) ∧ drv s u X Y = sg u (X % Y) := by
  unfold dqv drv; rw [if_neg (by omega), if_neg (by omega)]; exact ⟨rfl, rfl⟩
theorem dqv_b {s t u : Bool} {X Y : Nat} (h : s = u) : dqv s t u X Y = sg (!(s == t)) (X / Y) ∧ drv s u X Y = sg u (X % Y) := by
  unfold dqv drv; rw [if_neg (fun k => k.2 h), if_neg (fun k => k.2 h)]; exact ⟨rfl, rfl⟩
theorem dqv_c {s t u : Bool} {X Y : Nat} (h0 : X % Y ≠ 0) (h : s ≠ u) : dqv s t u X Y = sg (!(s == t)) (X / Y + 1) ∧ drv s u X Y = sg u (Y - X % Y) := by
  unfold dqv drv; rw [if_pos ⟨h0, h⟩, if_pos ⟨h0, h⟩]; exact ⟨rfl, rfl⟩

/-- By 0: nothing, nothing, and false. -/
def Z2No (w : World) (e : Ending) (w' : World) : Prop := e = .returned (.tuple #[.agg #[.bool false, .slice none 0 0], .agg #[.bool false, .slice none 0 0], .bool false]) ∧ Below w.heap.size w w'
end Go.Proofs.YtfdgblmegiehnaaDoor
