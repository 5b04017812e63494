/-
  The reference of layer 4: numerals digit by digit.
-/
import Derived.Test.YtfpncmhaoadfdaaGreatE2
import Derived.Test.YtfpncmhaoadfdaaGreatRefC
import Derived.Test.YtfpncmhaoadfdaaGreatRefB
import Derived.Deep.RegionHeld3
/-! The reference's Parse. -/
namespace Go.Proofs.YtfpncmhaoadfdaaGreat
open Go.RowKit
set_option linter.unusedVariables false

theorem hv_pre_lt {s : ByteArray} (hd : Dig (bys s)) {k : Nat} (hk : k < s.size) : hv ((bys s).take (k + 1)) < 10 ^ (k + 1) := by
  have h1 := hv_lt (hd.take (k + 1))
  rwa [List.length_take, Nat.min_eq_left (by rw [bys_length]; omega)] at h1
/-- A slice of one number that is built. -/
theorem blk_one {w : World} {t : TypeId} {K : IntKind} (x : Nat) : Blk (w.alloc (.cells #[.int K x] t)) w.heap.size t K [x] := heap_alloc_new w _
theorem dv_ten {w : World} {t : TypeId} : Dv (w.alloc (.cells #[.int .i64 10] t)) (some ⟨w.heap.size, 0, none⟩) 1 1 10 := by
  have e : cn 65536 10 = [10] := by decide
  exact ⟨by rw [e]; exact (blk_one (K := .i64) 10).rd0, by rw [e]; rfl, Nat.le_refl _, by omega⟩
/-- One digit, trimmed. -/
theorem dv_dig {w : World} {g x : Nat} {t : TypeId} (h : Blk w g t .i64 [x]) (hx : x < 65536) : Dv w (some ⟨g, 0, none⟩) (sl [x]) 1 x := by
  have e : [x].take (sl [x]) = cn 65536 x := by
    have := cn_ev 65536 (by omega) [x] (by intro k hk; simp at hk; subst hk; simpa [nth] using hx)
    rw [← this]; simp [ev]
  have e2 : sl [x] ≤ 1 := sl_le [x]
  refine ⟨by rw [← e]; exact h.rd0.take _, by rw [← e]; simp; omega, e2, by omega⟩
theorem Blk.up {w w' : World} {g : Nat} {t : TypeId} {K : IntKind} {xs : List Nat} (h : Blk w g t K xs) (hb : Below w.heap.size w w') : Blk w' g t K xs := h.below hb h.lt
theorem blk_two {w : World} {o : Obj} {t : TypeId} {K : IntKind} (x : Nat) : Blk ((w.alloc o).alloc (.cells #[.int K x] t)) (w.heap.size + 1) t K [x] := by
  have := blk_one (w := w.alloc o) (t := t) (K := K) x
  simpa using this
theorem dv_ten2 {w : World} {o : Obj} {t : TypeId} : Dv ((w.alloc o).alloc (.cells #[.int .i64 10] t)) (some ⟨w.heap.size + 1, 0, none⟩) 1 1 10 := by
  have := dv_ten (w := w.alloc o) (t := t)
  simpa using this
theorem ba (w : World) (o : Obj) : Below w.heap.size w (w.alloc o) := (Below.refl _ _).alloc (Nat.le_refl _) o
theorem bd1 (w : World) (o : Obj) : Below w.heap.size w (w.alloc o).drew := bup' (ba w o) (below_drew _)
theorem bd2 (w : World) (o o' : Obj) : Below w.heap.size w ((w.alloc o).alloc o').drew := bup' (bup' (ba w o) (ba _ o')) (below_drew _)
theorem dvt1 {w : World} {t : TypeId} : Dv (w.alloc (.cells #[.int .i64 10] t)).drew (some ⟨w.heap.size, 0, none⟩) 1 1 10 := dv_ten.below (below_drew _)
theorem dvt2 {w : World} {o : Obj} {t : TypeId} : Dv ((w.alloc (.cells #[.int .i64 10] t)).alloc o).drew (some ⟨w.heap.size, 0, none⟩) 1 1 10 := (dv_ten.below (ba _ o)).below (below_drew _)
theorem dvt3 {w : World} {o : Obj} {t : TypeId} : Dv ((w.alloc o).alloc (.cells #[.int .i64 10] t)).drew (some ⟨w.heap.size + 1, 0, none⟩) 1 1 10 := dv_ten2.below (below_drew _)
theorem bk2 {w : World} {o : Obj} {t : TypeId} {x : Nat} : Blk ((w.alloc o).alloc (.cells #[.int .i64 x] t)).drew (w.heap.size + 1) t .i64 [x] := (blk_two x).drew
theorem bk3 {w : World} {o : Obj} {t : TypeId} {x : Nat} : Blk ((w.alloc (.cells #[.int .i64 x] t)).alloc o).drew w.heap.size t .i64 [x] := ((blk_one x).alloc o).drew

end Go.Proofs.YtfpncmhaoadfdaaGreat
