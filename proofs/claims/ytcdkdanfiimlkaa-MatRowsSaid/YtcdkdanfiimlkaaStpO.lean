/-
  From the form's reading of a step on rows (a small word, two ints, a whole number) to its value.
-/
import Derived.Test.YtcdkdanfiimlkaaRatO
import Derived.Test.YtcdkdanfiimlkaaMatO
/-! From the form's reading of a struct of a byte, two ints and a whole number to its value. -/
namespace Go.Proofs.Ytcdkdanfiimlkaa
open Go.Joins Go.ChangeShapes Go.WideShapes Go.RowKit Go.Deep
set_option linter.unusedVariables false
/-- A step that came in. -/
def IsStep (w : World) (u : Int) (a : Option Addr) (len cap : Nat) (z : List Int) : Prop := 0 ≤ u ∧ IsRow .u64 w a len cap z
section
variable {H : Type} {enc : TypeId × Value → H} {P : Program} {W : World} {base : Nat} {held : Bool}
theorem arr5 {α : Type} {cs : Array α} (h : cs.size = 5) : ∃ c0 c1 c2 c3 c4, cs = #[c0, c1, c2, c3, c4] := by
  obtain ⟨xs⟩ := cs
  match xs, h with
  | [c0, c1, c2, c3, c4], _ => exact ⟨c0, c1, c2, c3, c4, rfl⟩
theorem open_step {r : Reach} {b0 : Nat} {t : TypeId} {f0 f1 f2 f3 g0 g1 : Field} {e : TypeId} {v : Value} {d : DataW H} {ps : List MemPlace} (ht : P.underlying t = some (.struct #[f0, f1, f2, f3])) (hC : P.cellsOf t = 5 ∧ f0.offset = 0 ∧ f1.offset = 1 ∧ f2.offset = 2 ∧ f3.offset = 3 ∧ P.cellsOf f0.type = 1 ∧ P.cellsOf f1.type = 1 ∧ P.cellsOf f2.type = 1 ∧ P.cellsOf f3.type = 2)
    (h0 : P.underlying f0.type = some (.int .u8)) (h1 : P.underlying f1.type = some (.int .i64)) (h2 : P.underlying f2.type = some (.int .i64)) (h3 : P.underlying f3.type = some (.struct #[g0, g1])) (hone : oneCellFields P #[g0, g1] = true)
    (hb : P.underlying g0.type = some .bool) (hs : P.underlying g1.type = some (.slice e)) (he : P.underlying e = some (.int .u64)) (hc : P.cellsOf e = 1)
    (hv : Value.okWide P W r b0 t v) (h : DataW.Trod enc P W base (fun _ => true) held t v d ps) :
    ∃ (u x y : Int) (s : Bool) (A : Option Addr) (n c : Nat) (zs : List Int), v = .agg #[.int .u8 u, .int .i64 x, .int .i64 y, .bool s, .slice A n c] ∧ IsStep W u A n c zs := by
  obtain ⟨hC, o0, o1, o2, o3, k0, k1, k2, k3⟩ := hC
  obtain ⟨cs, rfl, hsz⟩ := okWide_struct ht hv
  obtain ⟨c0, c1, c2, c3, c4, rfl⟩ := arr5 (hsz.trans hC)
  obtain ⟨fuel, hf⟩ := h
  obtain ⟨y0, y1, y2, y3, n, _, _, m0, m1, m2, m3⟩ := trod_struct4 ht hf
  rw [o0, k0] at m0
  rw [o1, k1] at m1
  rw [o2, k2] at m2
  rw [o3, k3] at m3
  simp only [Value.cells, List.drop_zero, List.take_succ_cons, List.take_zero, List.drop_succ_cons] at m0 m1 m2 m3
  obtain ⟨u, hu, _, hw⟩ := DataW.trod_int h0 m0
  obtain ⟨x, hx, _, _⟩ := DataW.trod_int h1 m1
  obtain ⟨y, hy, _, _⟩ := DataW.trod_int h2 m2
  obtain ⟨s, A, n', c', zs, rfl, rfl, w0⟩ := zint_cells h3 hone hb hs he hc m3
  simp at hu hx hy
  subst hu hx hy
  refine ⟨u, x, y, s, A, n', c', zs, rfl, ?_, w0⟩
  simp [Lit.wf, IntKind.min, IntKind.signed] at hw
  omega
end
end Go.Proofs.Ytcdkdanfiimlkaa
