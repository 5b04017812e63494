/-
  From the form's reading of a fraction to its value.
-/
import Derived.Test.YtcdkdanfiimlkaaZintO
/-! From the form's reading of a struct of two structs of a bool and a slice of words to its value. -/
namespace Go.Proofs.Ytcdkdanfiimlkaa
open Go.Joins Go.ChangeShapes Go.WideShapes Go.RowKit Go.Deep
section
variable {H : Type} {enc : TypeId × Value → H} {P : Program} {W : World} {base : Nat} {held : Bool}
theorem zint_cells {fuel : Nat} {t : TypeId} {g0 g1 : Field} {e : TypeId} {c0 c1 : Value} {x : DataW H × List MemPlace} (ht : P.underlying t = some (.struct #[g0, g1])) (hone : oneCellFields P #[g0, g1] = true)
    (hb : P.underlying g0.type = some .bool) (hs : P.underlying g1.type = some (.slice e)) (he : P.underlying e = some (.int .u64)) (hc : P.cellsOf e = 1)
    (h : DataW.trod enc P W base (fun _ => true) held fuel t [c0, c1] = some x) :
    ∃ (s : Bool) (A : Option Addr) (n c : Nat) (zs : List Int), c0 = .bool s ∧ c1 = .slice A n c ∧ IsRow .u64 W A n c zs := by
  obtain ⟨y0, y1, m, rfl, _, h0, h1⟩ := trod_struct2 ht h
  obtain ⟨o0, k0⟩ := hone_of hone 0 g0 rfl
  obtain ⟨o1, k1⟩ := hone_of hone 1 g1 rfl
  rw [o0, k0] at h0
  rw [o1, k1] at h1
  simp only [List.drop_zero, List.take_succ_cons, List.take_zero, List.drop_succ_cons] at h0 h1
  obtain ⟨s, hs0, _⟩ := DataW.trod_bool hb h0
  rcases open_ints hs he hc h1 with ⟨hcs, _⟩ | ⟨x, l, c, zs, hcs, _, hl, hm, hz, _, hcell, hwz⟩
  · simp at hs0 hcs
    subst hs0 hcs
    exact ⟨s, none, 0, 0, [], rfl, rfl, .inl ⟨rfl, rfl, rfl, rfl⟩⟩
  · simp at hs0 hcs
    subst hs0 hcs
    exact ⟨s, some x, l, c, zs, rfl, rfl, .inr ⟨_, rfl, hl, hm, by simpa using hz, hcell, hwz⟩⟩
theorem open_rat {r : Reach} {b0 : Nat} {t : TypeId} {f0 f1 g0 g1 : Field} {e : TypeId} {v : Value} {d : DataW H} {ps : List MemPlace} (hq : P.underlying t = some (.struct #[f0, f1])) (hC : P.cellsOf t = 4) (ho : f0.offset = 0 ∧ f1.offset = 2 ∧ P.cellsOf f0.type = 2 ∧ P.cellsOf f1.type = 2)
    (ht0 : P.underlying f0.type = some (.struct #[g0, g1])) (ht1 : P.underlying f1.type = some (.struct #[g0, g1])) (hone : oneCellFields P #[g0, g1] = true)
    (hb : P.underlying g0.type = some .bool) (hs : P.underlying g1.type = some (.slice e)) (he : P.underlying e = some (.int .u64)) (hc : P.cellsOf e = 1)
    (hv : Value.okWide P W r b0 t v) (h : DataW.Trod enc P W base (fun _ => true) held t v d ps) :
    ∃ (s : Bool) (A : Option Addr) (n c : Nat) (zs : List Int) (s' : Bool) (A' : Option Addr) (n' c' : Nat) (zs' : List Int), v = .agg #[.bool s, .slice A n c, .bool s', .slice A' n' c'] ∧ IsRow .u64 W A n c zs ∧ IsRow .u64 W A' n' c' zs' := by
  obtain ⟨cs, rfl, hsz⟩ := okWide_struct hq hv
  obtain ⟨c0, c1, c2, c3, rfl⟩ := array4 (hsz.trans hC)
  obtain ⟨fuel, hf⟩ := h
  obtain ⟨y0, y1, m, _, _, h0, h1⟩ := trod_struct2 hq hf
  obtain ⟨o0, o1, k0, k1⟩ := ho
  rw [o0, k0] at h0
  rw [o1, k1] at h1
  simp only [Value.cells, List.drop_zero, List.take_succ_cons, List.take_zero, List.drop_succ_cons] at h0 h1
  obtain ⟨s, A, n, c, zs, rfl, rfl, w0⟩ := zint_cells ht0 hone hb hs he hc h0
  obtain ⟨s', A', n', c', zs', rfl, rfl, w1⟩ := zint_cells ht1 hone hb hs he hc h1
  exact ⟨s, A, n, c, zs, s', A', n', c', zs', rfl, w0, w1⟩
end
end Go.Proofs.Ytcdkdanfiimlkaa
