/-
  Contracts: math/bits.Mul64, nat.addProduct.
-/
import Derived.Test.YtgdggpfldkmbdaaDoorNat3
import Derived.Shelf.Bits.Mul64
namespace Go.Proofs
open Go.Shelf
end Go.Proofs
namespace Go.Proofs.YtgdggpfldkmbdaaDoor
open Go.RowKit

/-- Both words of a product. -/
def MulPost (x y : Nat) (w : World) (e : Ending) (w' : World) : Prop :=
  ∃ hi lo : Nat, e = .returned (.tuple #[.int .u64 (hi : Int), .int .u64 (lo : Int)]) ∧ hi * 18446744073709551616 + lo = x * y ∧ hi ≤ 18446744073709551614 ∧ lo < 18446744073709551616 ∧ w = w'
theorem add64_pair (x y c : Nat) (hx : x < 18446744073709551616) (hy : y < 18446744073709551616) (hc : c ≤ 1) :
    ∃ s o : Nat, (∀ w, (callFunc 25 #[.int .u64 x, .int .u64 y, .int .u64 c]).run Tryd.prog w = .ok (.value (.tuple #[.int .u64 (s : Int), .int .u64 (o : Int)])) w) ∧
      s + 18446744073709551616 * o = x + y + c ∧ s < 18446744073709551616 ∧ o ≤ 1 :=
  ⟨(x + y + c) % 18446744073709551616, (x + y + c) / 18446744073709551616, add64_run x y c hc, by omega, by omega, by omega⟩
theorem add64_two (x y : Nat) (hx : x < 18446744073709551616) (hy : y < 18446744073709551616) :
    ∃ s o : Nat, (∀ w, (callFunc 25 #[.int .u64 x, .int .u64 y, .int .u64 0]).run Tryd.prog w = .ok (.value (.tuple #[.int .u64 (s : Int), .int .u64 (o : Int)])) w) ∧
      s + 18446744073709551616 * o = x + y ∧ s < 18446744073709551616 ∧ o ≤ 1 :=
  add64_pair x y 0 hx hy (by omega)

theorem grown_set {w wr : World} {g : Nat} (h : w.grownBy wr (some g)) (j : Nat) (u : Value) : w.grownBy (wr.setCell ⟨g, j, none⟩ u) (some g) :=
  ⟨h.os, h.tape, h.output, by simpa using h.size, fun k hk hne => (Below.heap_setCell wr ⟨g, j, none⟩ u k (fun e => hne (by simp [e]))).trans (h.block k hk hne)⟩
theorem grown_trans {a b c : World} {r : Option Nat} (h : a.grownBy b r) (k : b.grownBy c r) : a.grownBy c r :=
  ⟨k.os.trans h.os, k.tape.trans h.tape, k.output.trans h.output, Nat.le_trans h.size k.size, fun i hi hne => (k.block i (Nat.lt_of_lt_of_le hi h.size) hne).trans (h.block i hi hne)⟩

/-- nat.addProduct, in the middle: k words are done. -/
def ApRel (w : World) (g off : Nat) (L xs : List Nat) (x k : Nat) (s : Value) (wr : World) : Prop :=
  ∃ (c : Nat) (zs : List Nat), Muling 18446744073709551616 (L.drop off) xs zs x k c ∧ s = .int .u64 c ∧ Blk wr g 29 .u64 (L.take off ++ zs ++ L.drop (off + k)) ∧ w.grownBy wr (some g) ∧ wr.heap.size = w.heap.size
/-- What nat.addProduct leaves. -/
def ApPost (w : World) (g off : Nat) (L xs : List Nat) (x n : Nat) (e : Ending) (w' : World) : Prop :=
  ∃ s, e = .returned s ∧ ApRel w g off L xs x n s w'

theorem ap_sum {m p hi lo c s1 o1 s2 o2 : Nat} (h0 : hi * 18446744073709551616 + lo = p) (h1 : s1 + 18446744073709551616 * o1 = lo + c) (h2 : s2 + 18446744073709551616 * o2 = m + s1) :
    s2 + 18446744073709551616 * (hi + o1 + o2) = m + p + c := by omega
theorem ap_low {m a b hi lo c s1 o1 s2 o2 : Nat} (ha : a < 18446744073709551616) (hb : b < 18446744073709551616) (hm : m < 18446744073709551616) (hc : c < 18446744073709551616)
    (h0 : hi * 18446744073709551616 + lo = a * b) (h1 : s1 + 18446744073709551616 * o1 = lo + c) (h2 : s2 + 18446744073709551616 * o2 = m + s1) : hi + o1 + o2 < 18446744073709551616 := by
  have h3 : a * b ≤ 18446744073709551615 * 18446744073709551615 := Nat.mul_le_mul (by omega) (by omega)
  omega

theorem ApRel.next {w wr : World} {g off k c s2 c' : Nat} {L xs zs : List Nat} {x : Nat} {s : Value} (hm : Muling 18446744073709551616 (L.drop off) xs zs x k c)
    (hbk : Blk wr g 29 .u64 (L.take off ++ zs ++ L.drop (off + k))) (hg : w.grownBy wr (some g)) (hz : wr.heap.size = w.heap.size) (hk : off + k < L.length)
    (h2 : s2 < 18446744073709551616) (hc : c' < 18446744073709551616) (he : s2 + 18446744073709551616 * c' = nth L (off + k) + nth xs k * x + c) (hs : s = .int .u64 (c' : Int)) :
    ApRel w g off L xs x (k + 1) s (wr.setCell ⟨g, off + k, none⟩ (.int .u64 (s2 : Int))) := by
  have h := hbk.set (off + k) s2
  rw [set_mid hm.1 hk] at h
  exact ⟨c', _, hm.step h2 hc (by rw [nth_drop]; exact he), hs, h, grown_set hg _ _, by simpa using hz⟩

end Go.Proofs.YtgdggpfldkmbdaaDoor
