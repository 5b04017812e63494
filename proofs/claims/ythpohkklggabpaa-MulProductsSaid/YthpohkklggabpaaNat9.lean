/-
  Contract: nat.MulAdd.
-/
import Derived.Test.YthpohkklggabpaaRef6
namespace Go.Proofs.Ythpohkklggabpaa
open Go.RowKit

/-- The loop of nat.MulAdd: k words are done. -/
def ScRel (w : World) (xs : List Nat) (x y n k : Nat) (s : Value) (wr : World) : Prop :=
  ∃ (c r : Nat) (zs : List Nat), Scaling 18446744073709551616 xs zs x y k c ∧ s = .int .u64 c ∧ k + r = n ∧ Blk wr w.heap.size 45 .u64 (zs ++ List.replicate (r + 1) 0) ∧ Below w.heap.size w wr
theorem ScRel.next {w wr : World} {xs zs : List Nat} {x y n k c r d c' : Nat} {s : Value} (ha : Scaling 18446744073709551616 xs zs x y k c)
    (hn : k + (r + 1) = n) (hb : Blk wr w.heap.size 45 .u64 (zs ++ List.replicate (r + 1 + 1) 0)) (hw : Below w.heap.size w wr)
    (hd : d < 18446744073709551616) (hc : c' < 18446744073709551616) (he : d + 18446744073709551616 * c' = nth xs k * x + c) (hs : s = .int .u64 (c' : Int)) :
    ScRel w xs x y n (k + 1) s (wr.setCell ⟨w.heap.size, k, none⟩ (.int .u64 (d : Int))) := by
  have h := hb.set zs.length d
  rw [set_end, ha.1] at h
  exact ⟨_, r, _, ha.step hd hc he, hs, by omega, h, hw.setCell (Nat.le_refl _) _⟩
theorem ma_sum {p hi lo c s o : Nat} (h0 : hi * 18446744073709551616 + lo = p) (h1 : s + 18446744073709551616 * o = lo + c) : s + 18446744073709551616 * (hi + o) = p + c := by omega

end Go.Proofs.Ythpohkklggabpaa
