/-
  A whole number is written into a variable: what stays.
-/
import Derived.Test.YtcdkdanfiimlkaaRegZ
/-! Whole numbers in variables: what stays. -/
namespace Go.Proofs.Ytcdkdanfiimlkaa
open Go.RowKit
set_option linter.unusedVariables false
set_option linter.unusedSimpArgs false

section
variable {w : World} {g g' n c n0 c0 n' c' : Nat} {s s0 s' : Bool} {A A0 A' : Option Addr}
theorem Ib.zput (h : Ib w g s A n c) (hg : g ≠ g') : Ib (zput w g' s' A' n' c') g s A n c := h.put (l := 0) (e := 0) (u := true) (C := none) hg
theorem Zc.zput {z : Int} (h : Zc w s A n c z) (hi : Ib w g s0 A0 n0 c0) : Zc (zput w g s' A' n' c') s A n c z := h.put hi
theorem Zv.zput {z : Int} (h : Zv w s A n c z) (hi : Ib w g s0 A0 n0 c0) : Zv (zput w g s' A' n' c') s A n c z := h.put hi
theorem Ib.entry {T : TypeId} (h : w.heap[g]? = some (.cells #[.bool s, .slice A n c] T)) : Ib w g s A n c :=
  ⟨cell_of_row w g 0 _ _ _ h, cell_of_row w g 1 _ _ _ h, frozen_of_row w g 0 _ _ h, frozen_of_row w g 1 _ _ h, (Array.getElem?_eq_some_iff.1 h).1⟩
end
end Go.Proofs.Ytcdkdanfiimlkaa
