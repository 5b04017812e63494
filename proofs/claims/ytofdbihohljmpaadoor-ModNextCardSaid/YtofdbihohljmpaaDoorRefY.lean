/-
  The reference of layer 5: Quo, Floor, Euclid.
-/
import Derived.Test.YtofdbihohljmpaaDoorRefZ
import Derived.Test.YtofdbihohljmpaaDoorRefC
import Derived.Test.YtofdbihohljmpaaDoorZintD
/-! Contracts: quincunxref05.Quo, Floor, Euclid. -/
namespace Go.Proofs.YtofdbihohljmpaaDoor
open Go.RowKit
set_option linter.unusedVariables false
set_option linter.unusedSimpArgs false

/-- Two whole numbers of the reference are answered. -/
def R2Post (q r : Int) (kq kr : Nat) (w : World) (e : Ending) (w' : World) : Prop :=
  ∃ s A n c t B m d, e = .returned (.tuple #[.agg #[.bool s, .slice A n c], .agg #[.bool t, .slice B m d]]) ∧ Rz w' s A n c q ∧ Rz w' t B m d r ∧ n ≤ kq ∧ m ≤ kr ∧ Below w.heap.size w w'
theorem rfin22 {w w2 : World} {A B C D : Option Addr} {n c m d g g' kq kr n1 c1 m1 d1 : Nat} {s t s1 t1 : Bool} {q r : Int} (hq : Rz w2 s A n c q) (hr : Rz w2 t B m d r) (hi : Ib w2 g s1 C n1 c1) (hj : Ib w2 g' t1 D m1 d1) (hne : g ≠ g') (hk : n ≤ kq) (hk' : m ≤ kr)
    (hg : w.heap.size ≤ g) (hg' : w.heap.size ≤ g') (hB : Below w.heap.size w w2) :
    R2Post q r kq kr w (.returned (.tuple #[.agg #[.bool s, .slice A n c], .agg #[.bool t, .slice B m d]])) ((((w2.setCell ⟨g, 0, none⟩ (.bool s)).setCell ⟨g, 1, none⟩ (.slice A n c)).setCell ⟨g', 0, none⟩ (.bool t)).setCell ⟨g', 1, none⟩ (.slice B m d)) := by
  have j2 : Ib (zput w2 g s A n c) g' t1 D m1 d1 := hj.put (l := 0) (e := 0) (u := true) (C := none) (Ne.symm hne)
  exact ⟨s, A, n, c, t, B, m, d, rfl, (hq.put hi).put j2, (hr.put hi).put j2, hk, hk', below_put (below_put hB hg) hg'⟩
theorem R2Post.drew {q r : Int} {kq kr : Nat} {w w' : World} {e : Ending} (h : R2Post q r kq kr w e w') : R2Post q r kq kr w e w'.drew := by
  obtain ⟨s1, A1, n1, c1, t1, B1, m1, d1, he, p1, p2, k1, k2, hb⟩ := h
  exact ⟨s1, A1, n1, c1, t1, B1, m1, d1, he, p1.below (below_drew _), p2.below (below_drew _), k1, k2, zup hb (below_drew _)⟩
/-- Two structs, and two results, in new memory. -/
theorem opent4 (w : World) (s t : Bool) (A B : Option Addr) (n c m d : Nat) (T : TypeId) :
    ∃ w3, w3 = (((w.alloc (.cells #[.bool s, .slice A n c] T)).alloc (.cells #[.bool t, .slice B m d] T)).alloc (.cells #[.bool false, .slice none 0 0] T)).alloc (.cells #[.bool false, .slice none 0 0] T) ∧
      Ib w3 w.heap.size s A n c ∧ Ib w3 (w.heap.size + 1) t B m d ∧ Ib w3 (w.heap.size + 1 + 1) false none 0 0 ∧ Ib w3 (w.heap.size + 1 + 1 + 1) false none 0 0 ∧ Below w.heap.size w w3 := by
  obtain ⟨w3, h, h1, h2, h3, h4⟩ := opent3 w s t A B n c m d T
  have e : w3.heap.size = w.heap.size + 1 + 1 + 1 := by rw [h]; simp
  refine ⟨w3.alloc (.cells #[.bool false, .slice none 0 0] T), by rw [h], h1.below (zba _ _), h2.below (zba _ _), h3.below (zba _ _), ?_, zup h4 (zba _ _)⟩
  rw [← e]
  exact Ib.new _ _ _ _ _ _

/-- The two variables that hold the reference's numbers. -/
def TwoV (w0 : World) (x y : Int) (kx ky : Nat) (v1 v2 : Value) (wx : World) : Prop :=
  ∃ g s A n c h t B m d, v1 = .pointer (some ⟨g, 0, none⟩) ∧ v2 = .pointer (some ⟨h, 0, none⟩) ∧ w0.heap.size ≤ g ∧ w0.heap.size ≤ h ∧ g ≠ h ∧ Ib wx g s A n c ∧ Ib wx h t B m d ∧ Rz wx s A n c x ∧ Rz wx t B m d y ∧ n ≤ kx ∧ m ≤ ky ∧ Below w0.heap.size w0 wx
theorem TwoV.aa {w0 w : World} {x y : Int} {kx ky n c m d : Nat} {s t : Bool} {A B : Option Addr} {T : TypeId} (p : Rz w s A n c x) (p' : Rz w t B m d y) (q : Below w0.heap.size w0 w) (k : n ≤ kx) (k' : m ≤ ky) :
    TwoV w0 x y kx ky (.pointer (some ⟨w.heap.size, 0, none⟩)) (.pointer (some ⟨w.heap.size + 1, 0, none⟩)) ((w.alloc (.cells #[.bool s, .slice A n c] T)).alloc (.cells #[.bool t, .slice B m d] T)) := by
  obtain ⟨w', hw, I1, I2, z⟩ := opent2 w s t A B n c m d T T
  rw [← hw]
  exact ⟨_, s, A, n, c, _, t, B, m, d, rfl, rfl, q.size, Nat.le_succ_of_le q.size, by omega, I1, I2, p.below z, p'.below z, k, k', zup q z⟩
theorem TwoV.swap {w0 w : World} {x y : Int} {kx ky : Nat} {v1 v2 : Value} (h : TwoV w0 y x ky kx v2 v1 w) : TwoV w0 x y kx ky v1 v2 w := by
  obtain ⟨g, s, A, n, c, g', t, B, m, d, h1, h2, h3, h4, h5, h6, h7, h8, h9, h10, h11, h12⟩ := h
  exact ⟨g', t, B, m, d, g, s, A, n, c, h2, h1, h4, h3, Ne.symm h5, h7, h6, h9, h8, h11, h10, h12⟩
theorem size_zputv (w : World) (g : Nat) (s : Bool) (A : Option Addr) (n c : Nat) : (zput w g s A n c).heap.size = w.heap.size := by simp [zput]
theorem TwoV.pa {w0 w : World} {x y : Int} {kx ky n c m d g l e : Nat} {s t u : Bool} {A B C : Option Addr} {T : TypeId} (j : Ib w g u C l e) (hg : w0.heap.size ≤ g) (p : Rz w s A n c x) (p' : Rz w t B m d y) (q : Below w0.heap.size w0 w) (k : n ≤ kx) (k' : m ≤ ky) :
    TwoV w0 x y kx ky (.pointer (some ⟨g, 0, none⟩)) (.pointer (some ⟨w.heap.size, 0, none⟩)) (((w.setCell ⟨g, 0, none⟩ (.bool s)).setCell ⟨g, 1, none⟩ (.slice A n c)).alloc (.cells #[.bool t, .slice B m d] T)) := by
  have e := size_zputv w g s A n c
  have I := Ib.new (zput w g s A n c) t B m d T
  have z := zba (zput w g s A n c) (.cells #[.bool t, .slice B m d] T)
  have q1 := below_put (A := A) (n := n) (c := c) (s := s) q hg
  have hl := j.2.2.2.2
  refine ⟨g, s, A, n, c, w.heap.size, t, B, m, d, rfl, rfl, hg, q.size, by omega, j.own.below z, ?_, (p.put j).below z, (p'.put j).below z, k, k', zup q1 z⟩
  rw [e] at I
  exact I
theorem TwoV.pp {w0 w : World} {x y : Int} {kx ky n c m d g l e g' l' e' : Nat} {s t u u' : Bool} {A B C C' : Option Addr} (j : Ib w g u C l e) (j' : Ib w g' u' C' l' e') (hg : w0.heap.size ≤ g) (hg' : w0.heap.size ≤ g') (hne : ¬ (g = g')) (p : Rz w s A n c x) (p' : Rz w t B m d y) (q : Below w0.heap.size w0 w) (k : n ≤ kx) (k' : m ≤ ky) :
    TwoV w0 x y kx ky (.pointer (some ⟨g, 0, none⟩)) (.pointer (some ⟨g', 0, none⟩)) ((((w.setCell ⟨g, 0, none⟩ (.bool s)).setCell ⟨g, 1, none⟩ (.slice A n c)).setCell ⟨g', 0, none⟩ (.bool t)).setCell ⟨g', 1, none⟩ (.slice B m d)) := by
  have j2 : Ib (zput w g s A n c) g' u' C' l' e' := j'.put (l := 0) (e := 0) (u := true) (C := none) (Ne.symm hne)
  exact ⟨g, s, A, n, c, g', t, B, m, d, rfl, rfl, hg, hg', hne, j.own.put (l := 0) (e := 0) (u := true) (C := none) hne, j2.own, (p.put j).put j2, (p'.put j).put j2, k, k', below_put (below_put q hg) hg'⟩
theorem ib1v (w : World) (t : TypeId) : Ib ((w.alloc (.cells #[.bool false, .slice none 0 0] t)).alloc (.cells #[.bool false, .slice none 0 0] t)) w.heap.size false none 0 0 := (Ib.new w false none 0 0 t).below (zba _ _)
theorem ib2v (w : World) (t : TypeId) : Ib ((w.alloc (.cells #[.bool false, .slice none 0 0] t)).alloc (.cells #[.bool false, .slice none 0 0] t)) (w.heap.size + 1) false none 0 0 := by
  have := Ib.new (w.alloc (.cells #[.bool false, .slice none 0 0] t)) false none 0 0 t
  simpa using this
theorem ibd1v (w : World) (t : TypeId) : Ib ((w.alloc (.cells #[.bool false, .slice none 0 0] t)).alloc (.cells #[.bool false, .slice none 0 0] t)).drew w.heap.size false none 0 0 := (ib1v w t).below (below_drew _)
theorem ibd2v (w : World) (t : TypeId) : Ib ((w.alloc (.cells #[.bool false, .slice none 0 0] t)).alloc (.cells #[.bool false, .slice none 0 0] t)).drew (w.heap.size + 1) false none 0 0 := (ib2v w t).below (below_drew _)

theorem dqv_neg (s : Bool) (X Y : Nat) : dqv s true false X Y = -dqv s false false X Y := by
  unfold dqv
  cases s <;> simp [sg] <;> split <;> first | rfl | simp
end Go.Proofs.YtofdbihohljmpaaDoor
