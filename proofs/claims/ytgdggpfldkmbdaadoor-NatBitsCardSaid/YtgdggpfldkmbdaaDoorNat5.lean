/-
  Contract: nat.Mul.
-/
import Derived.Test.YtgdggpfldkmbdaaDoorNat4
namespace Go.Proofs.YtgdggpfldkmbdaaDoor
open Go.RowKit

theorem NatPost.nil (w : World) {v : Nat} (hv : v = 0) : NatPost v w (.returned (.slice none 0 0)) w := by
  subst hv
  exact ⟨none, 0, rfl, Got.nil w _ _⟩

/-- nat.Mul, in the middle: i words of the second factor are done. -/
def MuRel (w : World) (xs ys : List Nat) (i : Nat) (wr : World) : Prop :=
  ∃ (r : Nat) (Z : List Nat), Product 18446744073709551616 xs ys Z i ∧ i + r = ys.length ∧ Blk wr w.heap.size 29 .u64 (Z ++ List.replicate r 0) ∧ Below w.heap.size w wr

theorem MuRel.next {w wr w1 : World} {xs ys Z : List Nat} {i r : Nat} {s : Value} (hp : Product 18446744073709551616 xs ys Z i) (hir : i + (r + 1) = ys.length)
    (hw : Below w.heap.size w wr)
    (ha : ApRel wr w.heap.size i (Z ++ List.replicate (r + 1) 0) xs (nth ys i) xs.length s w1) :
    ∃ c : Nat, s = .int .u64 c ∧ (∃ v, w1.cell? ⟨w.heap.size, i + xs.length, none⟩ = some v) ∧ w1.frozen? ⟨w.heap.size, i + xs.length, none⟩ = false ∧
      MuRel w xs ys (i + 1) (w1.setCell ⟨w.heap.size, i + xs.length, none⟩ (.int .u64 (c : Int))) := by
  obtain ⟨c, zs, hm, rfl, hb, hg, hz⟩ := ha
  have hzl := hm.1
  have hZl := hp.1
  have e1 : (Z ++ List.replicate (r + 1) 0).take i = Z.take i := by rw [List.take_append_of_le_length (by omega)]
  have e2 : (Z ++ List.replicate (r + 1) 0).drop (i + xs.length) = List.replicate (r + 1) 0 := by rw [List.drop_append, List.drop_eq_nil_of_le (by omega)]; simp [hZl, Nat.add_comm]
  rw [e1, e2] at hb
  have hl : (Z.take i ++ zs).length = i + xs.length := by simp [hzl]; omega
  have hs := hb.set (i + xs.length) c
  rw [← hl, set_end, hl] at hs
  have hbw : Below w.heap.size w w1 := hw.trans ⟨hg.os, hg.tape, hg.output, hg.size, fun k hk => hg.block k (by have := hw.size; omega) (by intro h; have := Option.some.inj h; omega)⟩
  refine ⟨c, rfl, ⟨_, hb.cell (by simp [hzl]; omega)⟩, hb.free _, r, _, hp.step hm, by omega, ?_, hbw.setCell (Nat.le_refl _) _⟩
  exact hs

end Go.Proofs.YtgdggpfldkmbdaaDoor
