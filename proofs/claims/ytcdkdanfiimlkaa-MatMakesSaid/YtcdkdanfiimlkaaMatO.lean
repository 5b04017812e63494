/-
  From the form's reading of a matrix of whole numbers, and of a step on rows, to their values.
-/
import Derived.Test.YtcdkdanfiimlkaaRlO
import Derived.Test.YtcdkdanfiimlkaaZintO
/-! From the form's reading of matrices to their values. -/
namespace Go.Proofs.Ytcdkdanfiimlkaa
open Go.Joins Go.ChangeShapes Go.WideShapes Go.RowKit Go.Deep
set_option linter.unusedVariables false
section
variable {H : Type} {enc : TypeId × Value → H} {P : Program} {W : World} {base : Nat} {held : Bool}
theorem open_mat {r : Reach} {b0 : Nat} {t e : TypeId} {f0 f1 f2 g0 g1 : Field} {q : TypeId} {v : Value} {d : DataW H} {ps : List MemPlace} (ht : P.underlying t = some (.struct #[f0, f1, f2])) (hone : oneCellFields P #[f0, f1, f2] = true) (hC : P.cellsOf t = 3)
    (h0 : P.underlying f0.type = some (.int .i64)) (h1 : P.underlying f1.type = some (.int .i64)) (h2 : P.underlying f2.type = some (.slice e)) (he : P.underlying e = some (.struct #[g0, g1])) (hone2 : oneCellFields P #[g0, g1] = true) (hC2 : P.cellsOf e = 2)
    (hb : P.underlying g0.type = some .bool) (hs : P.underlying g1.type = some (.slice q)) (hq : P.underlying q = some (.int .u64)) (hc : P.cellsOf q = 1)
    (hv : Value.okWide P W r b0 t v) (h : DataW.Trod enc P W base (fun _ => true) held t v d ps) (hlt : ∀ x ∈ ps, x.block < W.heap.size) :
    ∃ (x y : Int) (A : Option Addr) (n c : Nat) (R : List Zr), v = .agg #[.int .i64 x, .int .i64 y, .slice A n c] ∧ RL W A n c R := by
  obtain ⟨v0, v1, v2, y0, y1, y2, m, rfl, _, hp, k0, k1, k2⟩ := open_agg3 ht hone hC hv h
  obtain ⟨x, hx, _, _⟩ := DataW.trod_int h0 k0
  obtain ⟨y, hy, _, _⟩ := DataW.trod_int h1 k1
  have hl2 : ∀ x ∈ y2.2, x.block < W.heap.size := fun x hx => hlt x (by rw [hp]; simp [hx])
  have hsl : ∃ A n c, v2 = .slice A n c := by
    rcases open_slice h2 k2 with ⟨hcs, _⟩ | ⟨a, len, cap, m, n', D, Pl, hcs, _⟩
    · exact ⟨none, 0, 0, by simpa using hcs⟩
    · exact ⟨some a, len, cap, by simpa using hcs⟩
  obtain ⟨A, n, c, rfl⟩ := hsl
  obtain ⟨R, hR⟩ := open_rl (d := y2.1) (ps := y2.2) h2 he hone2 hC2 hb hs hq hc ⟨m, by simpa [Value.cells] using k2⟩ hl2
  simp at hx hy
  subst hx hy
  exact ⟨x, y, A, n, c, R, rfl, hR⟩
end
end Go.Proofs.Ytcdkdanfiimlkaa
