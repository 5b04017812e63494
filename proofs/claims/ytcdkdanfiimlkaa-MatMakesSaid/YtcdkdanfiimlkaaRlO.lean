/-
  From the form's reading of a list of whole numbers to its values.
-/
import Derived.Test.YtcdkdanfiimlkaaRls
import Derived.Test.YtcdkdanfiimlkaaRows
import Derived.Lib.SmallJoins
import Derived.ChangeSlices
import Derived.Deep.Slices
import Derived.Deep.Fields
import Derived.Deep.Matrix
/-! From the form's reading of a list of whole numbers to its values. -/
namespace Go.Proofs.Ytcdkdanfiimlkaa
open Go.Joins Go.ChangeShapes Go.WideShapes Go.RowKit Go.Deep
set_option linter.unusedVariables false
section
variable {H : Type} {enc : TypeId × Value → H} {P : Program} {W : World} {base : Nat} {held : Bool}
theorem open_rl {t e : TypeId} {f0 f1 : Field} {q : TypeId} {A : Option Addr} {n c : Nat} {d : DataW H} {ps : List MemPlace} (ht : P.underlying t = some (.slice e)) (he : P.underlying e = some (.struct #[f0, f1])) (hone : oneCellFields P #[f0, f1] = true) (hC : P.cellsOf e = 2)
    (hb : P.underlying f0.type = some .bool) (hs : P.underlying f1.type = some (.slice q)) (hq : P.underlying q = some (.int .u64)) (hc : P.cellsOf q = 1)
    (h : DataW.Trod enc P W base (fun _ => true) held t (.slice A n c) d ps) (hlt : ∀ x ∈ ps, x.block < W.heap.size) :
    ∃ R : List Zr, RL W A n c R := by
  obtain ⟨fuel, hf⟩ := h
  rcases open_slice ht hf with ⟨hcs, hx⟩ | ⟨a, len, cap, m, n', D, Pl, hcs, hb0, hl, hm, hmm, hx, hi⟩
  · simp [Value.cells] at hcs
    obtain ⟨rfl, rfl, rfl⟩ := hcs
    exact ⟨[], rfl, Nat.le_refl _, by omega, fun h => by omega, fun x hx => (by cases hx)⟩
  · simp [Value.cells] at hcs
    obtain ⟨rfl, rfl, rfl⟩ := hcs
    simp only [if_true] at hmm
    subst hmm
    rw [hC] at hi hx
    have each : ∀ i, i < m → ∃ y : Zr, W.cell? (a.add (i * 2)) = some (.bool y.s) ∧ W.cell? ⟨(a.add (i * 2)).block, (a.add (i * 2)).off + 1, none⟩ = some (.slice y.A y.n y.c) ∧ Zv W y.s y.A y.n y.c y.z := by
      intro i him
      obtain ⟨cs', h1, h2⟩ := hi i him
      obtain ⟨_, h3, h4⟩ := World.cells?_some h1
      obtain ⟨xs, n'', _, hy, _, hlen, hg⟩ := DataW.trod_struct he h2
      obtain ⟨o0, k0⟩ := hone_of hone 0 f0 rfl
      obtain ⟨o1, k1⟩ := hone_of hone 1 f1 rfl
      match cs', h3 with
      | [v0, v1], _ =>
        match xs, hlen with
        | [y0, y1], _ =>
          have g0 := hg 0 f0 rfl
          have g1 := hg 1 f1 rfl
          rw [o0, k0] at g0
          rw [o1, k1] at g1
          simp at g0 g1
          have c0 : W.cell? (a.add (i * 2)) = some v0 := by have := h4 0 (by omega); simpa [Addr.add] using this
          have c1 : W.cell? ⟨(a.add (i * 2)).block, (a.add (i * 2)).off + 1, none⟩ = some v1 := by have := h4 1 (by omega); simpa [Addr.add] using this
          simp only [Prod.mk.injEq] at hy
          obtain ⟨s, hs0, _⟩ := DataW.trod_bool hb g0
          have hs0 : v0 = .bool s := by simpa using hs0
          subst hs0
          rcases open_ints hs hq hc g1 with ⟨hcs, hz⟩ | ⟨x, l, c, zs, hcs, _, hl', hm', hz, hdat, hcell, hwz⟩
          · have hcs : v1 = .slice none 0 0 := by simpa using hcs
            subst hcs
            obtain ⟨v, hv⟩ := (show IsRow .u64 W none 0 0 [] from .inl ⟨rfl, rfl, rfl, rfl⟩).nv
            exact ⟨⟨s, none, 0, 0, sg s v⟩, c0, c1, ⟨v, hv, Lib.hid rfl⟩⟩
          · have hcs : v1 = .slice (some x) l c := by simpa using hcs
            subst hcs
            obtain ⟨v, hv⟩ := (show IsRow .u64 W (some x) l c zs from .inr ⟨_, rfl, hl', hm', by simpa using hz, hcell, hwz⟩).nv
            exact ⟨⟨s, some x, l, c, sg s v⟩, c0, c1, ⟨v, hv, Lib.hid rfl⟩⟩
    haveI : Inhabited Zr := ⟨nzr⟩
    obtain ⟨y, hy⟩ := choose_lt each
    have hg : ∀ j, j < n → ((List.range n).map y).getD j nzr = y j := fun j hj => by simp [List.getD, hj]
    refine ⟨(List.range n).map y, by simp, (by first | omega | (simp only [maxLen] at *; omega)), (by first | omega | (simp only [maxLen] at *; omega)), fun h0 => ⟨a, rfl, ?_, fun j hj => ?_⟩, fun x hx => ?_⟩
    · have h1 := (hy 0 (by omega)).1
      have := World.block_lt_of_cell? W _ h1
      rwa [add_block] at this
    · rw [hg j hj]
      have := hy j (by omega)
      exact ⟨this.1, this.2.1⟩
    · obtain ⟨j, hj, rfl⟩ := List.mem_map.1 hx
      exact (hy j (by have := List.mem_range.1 hj; omega)).2.2
end
end Go.Proofs.Ytcdkdanfiimlkaa
