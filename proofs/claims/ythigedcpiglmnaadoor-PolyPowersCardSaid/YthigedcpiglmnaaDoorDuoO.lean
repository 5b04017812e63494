/-
  From the form's reading of an array of two integers to its value.
-/
import Derived.Test.YthigedcpiglmnaaDoorNatA
/-! From the form's reading of an array of two integers to its value. -/
namespace Go.Proofs.YthigedcpiglmnaaDoor
open Go.RowKit Go.ChangeShapes Go.WideShapes
section
variable {H : Type} {enc : TypeId × Value → H} {P : Program} {W : World} {base : Nat} {sp : Nat → Bool} {held : Bool}
theorem open_duo {r : Reach} {b0 : Nat} {t e : TypeId} {k : IntKind} {v : Value} {d : DataW H} {ps : List MemPlace} (ht : P.underlying t = some (.array 2 e)) (he : P.underlying e = some (.int k)) (hc : P.cellsOf e = 1) (hs : P.cellsOf t = 2)
    (hval : Value.okWide P W r b0 t v) (hd : DataW.Trod enc P W base sp held t v d ps) : ∃ a b : Int, ((Lit.int k a).wf = true ∧ (Lit.int k b).wf = true) ∧ v = .agg #[.int k a, .int k b] := by
  simp only [Value.okWide, ht] at hval
  obtain ⟨cs, rfl, h2, _⟩ := hval
  rw [hs] at h2
  obtain ⟨fuel, hf⟩ := hd
  cases fuel with
  | zero => simp [DataW.trod] at hf
  | succ m =>
    rw [DataW.trod_step] at hf
    unfold DataW.trodStep at hf
    simp only [ht, Value.cells] at hf
    rw [if_pos (by rw [hs]; simpa using h2)] at hf
    simp only [Option.map_eq_some_iff] at hf
    obtain ⟨ys, hy, _⟩ := hf
    rw [hc] at hy
    obtain ⟨x, y, hxy⟩ : ∃ x y, cs.toList = [x, y] := by
      have : cs.toList.length = 2 := by simpa using h2
      match h : cs.toList, this with
      | [x, y], _ => exact ⟨x, y, rfl⟩
    have hcs : cs = #[x, y] := by rw [← Array.toArray_toList (xs := cs), hxy]
    subst hcs
    simp [List.range_succ] at hy
    simp only [Option.bind_eq_some_iff, Option.some.injEq] at hy
    obtain ⟨y0, g0, y1, ⟨y2, g1, _⟩, _⟩ := hy
    obtain ⟨a, ea, _, wa⟩ := DataW.trod_int he g0
    obtain ⟨b, eb, _, wb⟩ := DataW.trod_int he g1
    simp at ea eb
    exact ⟨a, b, ⟨wa, wb⟩, by rw [ea, eb]⟩
end
end Go.Proofs.YthigedcpiglmnaaDoor
