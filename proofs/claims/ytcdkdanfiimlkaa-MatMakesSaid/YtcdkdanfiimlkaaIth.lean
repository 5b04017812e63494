/-
  The numbers of a list, by their places. No program is named here.
-/
import Init
/-! The numbers of a list. -/
namespace Go.Proofs.Ytcdkdanfiimlkaa
/-- A number of a list; 0 behind the last one. -/
def ith (l : List Int) (i : Nat) : Int := l.getD i 0
theorem ith_nil (i : Nat) : ith [] i = 0 := by simp [ith]
theorem ith_zero (c : Int) (t : List Int) : ith (c :: t) 0 = c := by simp [ith]
theorem ith_succ (c : Int) (t : List Int) (i : Nat) : ith (c :: t) (i + 1) = ith t i := by simp [ith]
theorem ith_ge {l : List Int} {i : Nat} (h : l.length ≤ i) : ith l i = 0 := by
  unfold ith; simp [List.getD, List.getElem?_eq_none h]
end Go.Proofs.Ytcdkdanfiimlkaa
