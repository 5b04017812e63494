/-
  Contract: nat.Sub.
-/
import Derived.Test.YthpohkklggabpaaNat6
import Derived.Shelf.Spec.BitsCarry
namespace Go.Proofs.Ythpohkklggabpaa
open Go.RowKit

theorem sub64_run (x y c : Nat) (hc : c ≤ 1) (w : World) :
    (callFunc 58 #[.int .u64 x, .int .u64 y, .int .u64 c]).run Try.prog w =
      .ok (.value (.tuple #[.int .u64 (((x + 18446744073709551616 - y - c) % 18446744073709551616 : Nat) : Int), .int .u64 ((if x < y + c then 1 else 0 : Nat) : Int)])) w := by
  rw [run_callFunc_extern Try.func58 (by kernel_rfl) (by kernel_rfl) (by kernel_rfl) (e := sub64Entry) (by kernel_rfl), run_sub64 x y c hc]
  rfl
theorem sub64_pair (x y c : Nat) (hx : x < 18446744073709551616) (hy : y < 18446744073709551616) (hc : c ≤ 1) :
    ∃ s o : Nat, (∀ w, (callFunc 58 #[.int .u64 x, .int .u64 y, .int .u64 c]).run Try.prog w = .ok (.value (.tuple #[.int .u64 (s : Int), .int .u64 (o : Int)])) w) ∧
      s + y + c = x + 18446744073709551616 * o ∧ s < 18446744073709551616 ∧ o ≤ 1 := by
  refine ⟨_, _, sub64_run x y c hc, ?_, by omega, ?_⟩ <;> split <;> omega
theorem sub64_pair0 (x c : Nat) (hx : x < 18446744073709551616) (hc : c ≤ 1) :
    ∃ s o : Nat, (∀ w, (callFunc 58 #[.int .u64 x, .int .u64 0, .int .u64 c]).run Try.prog w = .ok (.value (.tuple #[.int .u64 (s : Int), .int .u64 (o : Int)])) w) ∧
      s + 0 + c = x + 18446744073709551616 * o ∧ s < 18446744073709551616 ∧ o ≤ 1 :=
  sub64_pair x 0 c hx (by omega) hc

/-- What nat.Sub answers: the difference and true, or nothing and false. -/
def SubPost (x y : Nat) (w : World) (e : Ending) (w' : World) : Prop :=
  ∃ A c zs, e = .returned (.tuple #[.slice A (List.length zs) c, .bool (decide (y ≤ x))]) ∧ Got w w' 45 .u64 A c zs ∧ zs = if y ≤ x then cn 18446744073709551616 (x - y) else []
theorem SubPost.no {x y : Nat} {w w' : World} (h : x < y) (hb : Below w.heap.size w w') : SubPost x y w (.returned (.tuple #[.slice none 0 0, .bool false])) w' :=
  ⟨none, 0, [], by rw [decide_eq_false (by omega)]; rfl, Got.nil' _ _ hb, by rw [if_neg (by omega)]⟩
theorem SubPost.yes {x y g n : Nat} {w w' : World} {zs : List Nat} (h : y ≤ x ∧ ev 18446744073709551616 zs = x - y) (hb : Blk w' g 45 .u64 zs) (hg : w.heap.size ≤ g) (hw : Below w.heap.size w w') (hn : zs.length = n) (hm : n ≤ 9223372036854775807)
    (hl : Low 18446744073709551616 zs) : SubPost x y w (.returned (.tuple #[.slice (some ⟨g, 0, none⟩) (sl zs) n, .bool true])) w' := by
  subst hn
  refine ⟨_, _, cn 18446744073709551616 (x - y), ?_, h.2 ▸ got_trim (by omega) hb hg hw hm hl, by rw [if_pos h.1]⟩
  rw [decide_eq_true h.1, sl_len _ (by omega) hl, h.2]

/-- The loops of nat.Sub: k words are done. -/
def SubRel (w : World) (xs ys : List Nat) (n k : Nat) (s : Value) (wr : World) : Prop :=
  ∃ (c r : Nat) (zs : List Nat), Subbing 18446744073709551616 xs ys zs k c ∧ s = .int .u64 c ∧ k + r = n ∧ Blk wr w.heap.size 45 .u64 (zs ++ List.replicate r 0) ∧ Below w.heap.size w wr
theorem SubRel.next {w wr : World} {xs ys zs : List Nat} {n k c r d c' : Nat} {s : Value} (ha : Subbing 18446744073709551616 xs ys zs k c)
    (hn : k + (r + 1) = n) (hb : Blk wr w.heap.size 45 .u64 (zs ++ List.replicate (r + 1) 0)) (hw : Below w.heap.size w wr)
    (hd : d < 18446744073709551616) (hc : c' ≤ 1) (he : d + nth ys k + c = nth xs k + 18446744073709551616 * c') (hs : s = .int .u64 (c' : Int)) :
    SubRel w xs ys n (k + 1) s (wr.setCell ⟨w.heap.size, k, none⟩ (.int .u64 (d : Int))) := by
  have h := hb.set zs.length d
  rw [set_end, ha.1] at h
  exact ⟨_, r, _, ha.step hd hc he, hs, by omega, h, hw.setCell (Nat.le_refl _) _⟩

end Go.Proofs.Ythpohkklggabpaa
