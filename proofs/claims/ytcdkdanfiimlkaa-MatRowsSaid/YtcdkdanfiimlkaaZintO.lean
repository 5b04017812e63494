/-
  From the form's reading of a whole number to its value.
-/
import Derived.Test.YtcdkdanfiimlkaaNatA
import Derived.Lib.SmallJoins
import Derived.ChangeSlices
/-! From the form's reading of a struct of a bool and a slice of words to its value. -/
namespace Go.Proofs.Ytcdkdanfiimlkaa
open Go.Joins Go.ChangeShapes Go.WideShapes Go.RowKit Go.Deep
section
variable {H : Type} {enc : TypeId × Value → H} {P : Program} {W : World} {base : Nat} {held : Bool}
theorem open_zint {r : Reach} {b0 : Nat} {t : TypeId} {f0 f1 : Field} {e : TypeId} {v : Value} {d : DataW H} {ps : List MemPlace} (ht : P.underlying t = some (.struct #[f0, f1])) (hone : oneCellFields P #[f0, f1] = true) (hC : P.cellsOf t = 2)
    (hb : P.underlying f0.type = some .bool) (hs : P.underlying f1.type = some (.slice e)) (he : P.underlying e = some (.int .u64)) (hc : P.cellsOf e = 1)
    (hv : Value.okWide P W r b0 t v) (h : DataW.Trod enc P W base (fun _ => true) held t v d ps) :
    ∃ (s : Bool) (A : Option Addr) (n c : Nat) (zs : List Int), v = .agg #[.bool s, .slice A n c] ∧ IsRow .u64 W A n c zs := by
  obtain ⟨v0, v1, y0, y1, m, rfl, _, _, h0, h1⟩ := open_agg2 ht hone hC hv h
  obtain ⟨s, hs0, _⟩ := DataW.trod_bool hb h0
  rcases open_ints hs he hc h1 with ⟨hcs, _⟩ | ⟨x, l, c, zs, hcs, _, hl, hm, hz, _, hcell, hwz⟩
  · simp at hs0 hcs
    subst hs0 hcs
    exact ⟨s, none, 0, 0, [], rfl, .inl ⟨rfl, rfl, rfl, rfl⟩⟩
  · simp at hs0 hcs
    subst hs0 hcs
    exact ⟨s, some x, l, c, zs, rfl, .inr ⟨_, rfl, hl, hm, by simpa using hz, hcell, hwz⟩⟩
end
end Go.Proofs.Ytcdkdanfiimlkaa
