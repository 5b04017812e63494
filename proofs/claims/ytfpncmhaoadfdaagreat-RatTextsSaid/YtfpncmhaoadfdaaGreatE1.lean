/-
  quincunxlaw04.awake; the walks of DecSums, DecLong, DecBack.
-/
import Derived.Test.YtfpncmhaoadfdaaGreatDecC
/-! quincunxlaw04.awake. -/
namespace Go.Proofs.YtfpncmhaoadfdaaGreat
open Go.RowKit
theorem nv_two {w : World} {t : TypeId} : Nv (w.alloc (.cells #[.int .u64 0, .int .u64 1] t)) (some ⟨w.heap.size, 0, none⟩) 2 2 18446744073709551616 := by
  have hb : Blk (w.alloc (.cells #[.int .u64 0, .int .u64 1] t)) w.heap.size t .u64 [0, 1] := heap_alloc_new w _
  exact ⟨[0, 1], hb.rd0, rfl, Nat.le_refl _, by omega, by intro k hk; simp at hk; rcases k with _ | _ | k <;> simp [nth] at *, by simp [ev]⟩
theorem print_two : str (dgs 18446744073709551616) = { data := #[49, 56, 52, 52, 54, 55, 52, 52, 48, 55, 51, 55, 48, 57, 53, 53, 49, 54, 49, 54] } := by
  unfold dgs
  rw [nd_eq (k := 20) (by omega) (by omega) (.inr (by omega))]
  rfl
end Go.Proofs.YtfpncmhaoadfdaaGreat

/-! The walk of DecSums. -/
namespace Go.Proofs.YtfpncmhaoadfdaaGreat
open Go.RowKit
set_option linter.unusedVariables false
end Go.Proofs.YtfpncmhaoadfdaaGreat
