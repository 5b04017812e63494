/-
  Contract: nat.Cmp.
-/
import Derived.Test.YtgdggpfldkmbdaaDoorNat1
namespace Go.Proofs.YtgdggpfldkmbdaaDoor
open Go.RowKit

/-- The digits from k to n are the same. -/
def Sm (xs ys : List Nat) (k n : Nat) : Prop := ∀ j, k ≤ j → j < n → nth xs j = nth ys j

theorem cmp_len {b : Nat} {xs ys : List Nat} (hb : 2 ≤ b) (hx : Low b xs) (hy : Low b ys) (h : sl xs < sl ys) : ev b xs < ev b ys :=
  lt_of_len b _ _ hb (by rw [← sl_len b hb hx, ← sl_len b hb hy]; exact h)
theorem pre_sl (b : Nat) (xs : List Nat) : pre b xs (sl xs) = ev b xs := ev_take_sl b xs
theorem cmp_digit {b : Nat} {xs ys : List Nat} {m : Nat} (hb : 2 ≤ b) (hx : Low b xs) (he : sl xs = sl ys) (hm : m < sl xs) (hs : Sm xs ys (m + 1) (sl xs)) (h : nth xs m < nth ys m) : ev b xs < ev b ys := by
  rw [← pre_sl b xs, ← pre_sl b ys, ← he]
  exact lt_of_digit hx (by omega) hm (fun j h1 h2 => hs j (by omega) h2) h
theorem cmp_same {b : Nat} {xs ys : List Nat} (he : sl xs = sl ys) (hs : Sm xs ys 0 (sl xs)) : ev b xs = ev b ys := by
  rw [← pre_sl b xs, ← pre_sl b ys, ← he]
  exact eq_of_digits (fun j hj => hs j (by omega) hj)

end Go.Proofs.YtgdggpfldkmbdaaDoor
