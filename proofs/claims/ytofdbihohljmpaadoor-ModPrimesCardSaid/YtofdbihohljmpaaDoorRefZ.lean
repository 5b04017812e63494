/-
  The reference of layer 5: norm, From, Is, Sign, Neg, Abs, Add, Sub, Mul, Cmp.
-/
import Derived.Test.YtofdbihohljmpaaDoorZintB
import Derived.Test.YtofdbihohljmpaaDoorRefA
/-! Contracts: quincunxref05. -/
namespace Go.Proofs.YtofdbihohljmpaaDoor
open Go.RowKit
set_option linter.unusedVariables false
set_option linter.unusedSimpArgs false

/-- The struct of s and the digits (A, n, c) is the whole number z. -/
def Rz (w : World) (s : Bool) (A : Option Addr) (n c : Nat) (z : Int) : Prop := Dv w A n c z.natAbs ∧ Hid (s = decide (z < 0))
theorem Rz.below {w w' : World} {s : Bool} {A : Option Addr} {n c : Nat} {z : Int} (h : Rz w s A n c z) (hb : Below w.heap.size w w') : Rz w' s A n c z := ⟨h.1.below hb, h.2⟩
theorem sgn_eq {s : Bool} {z : Int} (h : s = decide (z < 0)) : z = sg s z.natAbs := by
  rw [h]
  by_cases hz : z < 0
  · simp [sg, hz]; omega
  · simp [sg, hz]; omega
theorem Rz.abs {w : World} {s : Bool} {A : Option Addr} {n c : Nat} {z : Int} (h : Rz w s A n c z) : Dv w A n c z.natAbs ∧ Hid (z = sg s z.natAbs) := ⟨h.1, Lib.hid (sgn_eq h.2.out)⟩
theorem Rz.up {W w : World} {s : Bool} {A : Option Addr} {n c : Nat} {z : Int} (h : Rz w s A n c z) (hb : Below w.heap.size w W) : Dv W A n c z.natAbs ∧ Hid (z = sg s z.natAbs) := (h.below hb).abs
theorem Dv.other {w : World} {A : Option Addr} {n c x : Nat} {p : Addr} {u v : Value} (h : Dv w A n c x) (hp : w.cell? p = some u) (hu : ∀ m, u ≠ .int .i64 m) : Dv (w.setCell p v) A n c x := ⟨h.1.other hp hu, h.2⟩
theorem Dv.put {w : World} {A A' B : Option Addr} {n c v g n' c' m d : Nat} {s t : Bool} (h : Dv w A n c v) (hi : Ib w g t B m d) : Dv (zput w g s A' n' c') A n c v := by
  obtain ⟨h1, h2, h3, h4, h5⟩ := hi
  refine (h.other h1 (fun m e => by cases e)).other (u := .slice B m d) ?_ (fun m e => by cases e)
  rw [World.cell?_setCell_other (h := by simp)]
  exact h2
theorem Rz.put {w : World} {A A' B : Option Addr} {n c g n' c' m d : Nat} {s s' t : Bool} {z : Int} (h : Rz w s A n c z) (hi : Ib w g t B m d) : Rz (zput w g s' A' n' c') s A n c z := ⟨h.1.put hi, h.2⟩
/-- A whole number of the reference is answered: of at most k digits. -/
def RzPost (z : Int) (k : Nat) (w : World) (e : Ending) (w' : World) : Prop :=
  ∃ s A n c, e = .returned (.agg #[.bool s, .slice A n c]) ∧ Rz w' s A n c z ∧ n ≤ k ∧ Below w.heap.size w w'
theorem rfin {w w2 : World} {A B : Option Addr} {n c g k m d : Nat} {s t : Bool} {z : Int} (h : Rz w2 s A n c z) (hi : Ib w2 g t B m d) (hk : n ≤ k) (hg : w.heap.size ≤ g) (hB : Below w.heap.size w w2) :
    RzPost z k w (.returned (.agg #[.bool s, .slice A n c])) ((w2.setCell ⟨g, 0, none⟩ (.bool s)).setCell ⟨g, 1, none⟩ (.slice A n c)) :=
  ⟨s, A, n, c, rfl, h.put hi, hk, below_put hB hg⟩
/-- A struct, and a result, in new memory. -/
theorem opent1 (w : World) (s : Bool) (A : Option Addr) (n c : Nat) (T U : TypeId) :
    ∃ w3, w3 = ((w.alloc (.cells #[.bool s, .slice A n c] T)).alloc (.cells #[.bool false, .slice none 0 0] U)) ∧
      Ib w3 w.heap.size s A n c ∧ Ib w3 (w.heap.size + 1) false none 0 0 ∧ Below w.heap.size w w3 := by
  refine ⟨_, rfl, (Ib.new w s A n c _).below (zba _ _), ?_, zba2 _ _ _⟩
  have := Ib.new (w.alloc (.cells #[.bool s, .slice A n c] T)) false none 0 0 U
  simpa using this
/-- Two structs in new memory. -/
theorem opent2 (w : World) (s t : Bool) (A B : Option Addr) (n c m d : Nat) (T U : TypeId) :
    ∃ w3, w3 = ((w.alloc (.cells #[.bool s, .slice A n c] T)).alloc (.cells #[.bool t, .slice B m d] U)) ∧
      Ib w3 w.heap.size s A n c ∧ Ib w3 (w.heap.size + 1) t B m d ∧ Below w.heap.size w w3 := by
  refine ⟨_, rfl, (Ib.new w s A n c _).below (zba _ _), ?_, zba2 _ _ _⟩
  have := Ib.new (w.alloc (.cells #[.bool s, .slice A n c] T)) t B m d U
  simpa using this
/-- Two structs, and a result, in new memory. -/
theorem opent3 (w : World) (s t : Bool) (A B : Option Addr) (n c m d : Nat) (T : TypeId) :
    ∃ w3, w3 = (((w.alloc (.cells #[.bool s, .slice A n c] T)).alloc (.cells #[.bool t, .slice B m d] T)).alloc (.cells #[.bool false, .slice none 0 0] T)) ∧
      Ib w3 w.heap.size s A n c ∧ Ib w3 (w.heap.size + 1) t B m d ∧ Ib w3 (w.heap.size + 1 + 1) false none 0 0 ∧ Below w.heap.size w w3 := by
  obtain ⟨w2, hw2, IA, IB, z⟩ := opent2 w s t A B n c m d T T
  have e1 : w2.heap.size = w.heap.size + 1 + 1 := by rw [hw2]; simp
  refine ⟨w2.alloc (.cells #[.bool false, .slice none 0 0] T), by rw [hw2], IA.below (zba _ _), IB.below (zba _ _), ?_, zup z (zba _ _)⟩
  rw [← e1]
  exact Ib.new _ _ _ _ _ _
theorem Dv.pos {w : World} {A : Option Addr} {n c v : Nat} (h : Dv w A n c v) : decide (0 < n) = decide (0 < v) := by
  have e := h.2.1
  rw [decide_eq_decide]
  constructor
  · intro h1
    rcases Nat.eq_zero_or_pos v with h2 | h2
    · rw [h2, cn_zero] at e; simp at e; omega
    · exact h2
  · intro h1
    rcases Nat.eq_zero_or_pos n with h2 | h2
    · have := (cn_nil_iff 65536 v (by omega)).1 (by omega); omega
    · exact h2
end Go.Proofs.YtofdbihohljmpaaDoor
