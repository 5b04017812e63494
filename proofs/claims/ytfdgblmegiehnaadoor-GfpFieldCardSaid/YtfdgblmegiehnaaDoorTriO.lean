/-
  From the form's reading of three words to their values.
-/
import Derived.Test.YtfdgblmegiehnaaDoorNatA
/-! From the form's reading of an array of three words to its value. -/
namespace Go.Proofs.YtfdgblmegiehnaaDoor
open Go.RowKit Go.ChangeShapes Go.WideShapes
section
variable {H : Type} {enc : TypeId × Value → H} {P : Program} {W : World} {base : Nat} {sp : Nat → Bool} {held : Bool}
theorem open_triple {r : Reach} {b0 : Nat} {t e : TypeId} {k : IntKind} {v : Value} {d : DataW H} {ps : List MemPlace} (ht : P.underlying t = some (.array 3 e)) (he : P.underlying e = some (.int k)) (hc : P.cellsOf e = 1) (hs : P.cellsOf t = 3)
    (hval : Value.okWide P W r b0 t v) (hd : DataW.Trod enc P W base sp held t v d ps) : ∃ a b c : Int, ((Lit.int k a).wf = true ∧ (Lit.int k b).wf = true ∧ (Lit.int k c).wf = true) ∧ v = .agg #[.int k a, .int k b, .int k c] := by
  simp only [Value.okWide, ht] at hval
  obtain ⟨cs, rfl, h2, _⟩ := hval
  rw [hs] at h2
  obtain ⟨fuel, hf⟩ := hd
  cases fuel with
  | zero => simp [DataW.trod] at hf
  | succ m =>
    rw [DataW.trod_step] at hf
    unfold DataW.trodStep at hf
    simp only [ht, Value.cells] at hf
    rw [if_pos (by rw [hs]; simpa using h2)] at hf
    simp only [Option.map_eq_some_iff] at hf
    obtain ⟨ys, hy, _⟩ := hf
    rw [hc] at hy
    obtain ⟨x, y, z, hxy⟩ : ∃ x y z, cs.toList = [x, y, z] := by
      have : cs.toList.length = 3 := by simpa using h2
      match h : cs.toList, this with
      | [x, y, z], _ => exact ⟨x, y, z, rfl⟩
    have hcs : cs = #[x, y, z] := by rw [← Array.toArray_toList (xs := cs), hxy]
    subst hcs
    simp [List.range_succ] at hy
    simp only [Option.bind_eq_some_iff, Option.some.injEq] at hy
    obtain ⟨y0, g0, y1, ⟨y2, g1, y3, ⟨y4, g2, _⟩, _⟩, _⟩ := hy
    obtain ⟨a, ea, _, wa⟩ := DataW.trod_int he g0
    obtain ⟨b, eb, _, wb⟩ := DataW.trod_int he g1
    obtain ⟨c, ec, _, wc⟩ := DataW.trod_int he g2
    simp at ea eb ec
    exact ⟨a, b, c, ⟨wa, wb, wc⟩, by rw [ea, eb, ec]⟩
end
end Go.Proofs.YtfdgblmegiehnaaDoor
