/-
  Package zint: Exact, Round; quincunxlaw05.awake and few.
-/
import Derived.Test.YtfdgblmegiehnaaDoorZintC
import Derived.Deep.QuietTactic
import Derived.BigQuiet
/-! Contracts: zint.Exact, Round; quincunxlaw05.awake, few. -/
namespace Go.Proofs.YtfdgblmegiehnaaDoor
open Go.RowKit
set_option linter.unusedVariables false
set_option linter.unusedSimpArgs false

theorem exact_val {s t : Bool} {X Y : Nat} {x y q : Int} (ex : x = sg s X) (ey : y = sg t Y) (h0 : 0 < Y) (hq : q * y = x) : X % Y = 0 ∧ sg (!(s == t)) (X / Y) = q := by
  have e1 : q.natAbs * Y = X := by
    have := congrArg Int.natAbs hq
    rwa [Int.natAbs_mul, ex, ey, sg_abs, sg_abs] at this
  have e2 : X / Y = q.natAbs := by rw [← e1]; exact Nat.mul_div_cancel _ h0
  refine ⟨by rw [← e1]; exact Nat.mul_mod_left _ _, ?_⟩
  have e3 : sg (!(s == t)) (X / Y) * y = q * y := by
    have h1 := sg_mul (!(s == t)) t (X / Y) Y
    have h2 : X / Y * Y = X := by rw [e2, e1]
    rw [h2] at h1
    rw [hq, ey, ← h1, ex]
    cases s <;> cases t <;> rfl
  have hy : y ≠ 0 := by rw [ey]; cases t <;> simp [sg] <;> omega
  exact Int.eq_of_mul_eq_mul_right hy e3
/-- The whole number z is next to x / y, the greater one of two. -/
def RoundOk (x y z : Int) : Prop := (0 < y → -y ≤ 2 * (x - z * y) ∧ 2 * (x - z * y) < y) ∧ (y < 0 → y ≤ -(2 * (x - z * y)) ∧ -(2 * (x - z * y)) < -y)
theorem round_lo {x y q : Int} {t : Bool} {R Y : Nat} (ey : y = sg t Y) (hY : 0 < Y) (e : q * y + sg t R = x) (hR : R < Y) (h : R * 2 < Y) : RoundOk x y q := by
  have e2 : x - q * y = sg t R := by omega
  unfold RoundOk
  rw [e2]
  cases t <;> simp [sg] at ey ⊢ <;> omega
theorem round_hi {x y q : Int} {t : Bool} {R Y : Nat} (ey : y = sg t Y) (hY : 0 < Y) (e : q * y + sg t R = x) (hR : R < Y) (h : Y ≤ R * 2) : RoundOk x y (q + 1) := by
  have e2 : x - (q + 1) * y = sg t R - y := by rw [Int.add_mul]; omega
  unfold RoundOk
  rw [e2]
  cases t <;> simp [sg] at ey ⊢ <;> omega
/-- What zint.Round answers. -/
def RdPost (x y : Int) (k : Nat) (w : World) (e : Ending) (w' : World) : Prop := ∃ z, RoundOk x y z ∧ ZPowPost z k w e w'

end Go.Proofs.YtfdgblmegiehnaaDoor

/-! What a law's variable holds behind a region that draws its order, and that makes the variable. -/
namespace Go.Proofs.YtfdgblmegiehnaaDoor
open Go.RowKit
/-- The slot v points to a whole number z in memory that is new since w0. -/
def VarCut (w0 : World) (z : Int) (k : Nat) (v : Value) (wx : World) : Prop :=
  ∃ g s A n c, v = .pointer (some ⟨g, 0, none⟩) ∧ w0.heap.size ≤ g ∧ Ib wx g s A n c ∧ Zc wx s A n c z ∧ n ≤ k ∧ Below w0.heap.size w0 wx
theorem VarCut.put {w0 w : World} {z : Int} {k g n c m d : Nat} {s t : Bool} {A B : Option Addr} (j : Ib w g t B m d) (p : Zc w s A n c z) (q : Below w0.heap.size w0 w) (hg : w0.heap.size ≤ g) (hk : n ≤ k) :
    VarCut w0 z k (.pointer (some ⟨g, 0, none⟩)) ((w.setCell ⟨g, 0, none⟩ (.bool s)).setCell ⟨g, 1, none⟩ (.slice A n c)) :=
  ⟨g, s, A, n, c, rfl, hg, j.own, p.put j, hk, below_put q hg⟩
theorem VarCut.new {w0 w : World} {z : Int} {k n c : Nat} {s : Bool} {A : Option Addr} {t : TypeId} (p : Zc w s A n c z) (q : Below w0.heap.size w0 w) (hk : n ≤ k) :
    VarCut w0 z k (.pointer (some ⟨w.heap.size, 0, none⟩)) (w.alloc (.cells #[.bool s, .slice A n c] t)) :=
  ⟨_, s, A, n, c, rfl, q.size, Ib.new _ _ _ _ _ _, p.below (zba _ _), hk, zup q (zba _ _)⟩
theorem zbd (w : World) (o : Obj) : Below w.heap.size w (w.alloc o).drew := zup (zba w o) (below_drew _)
theorem zbd2 (w : World) (o p : Obj) : Below w.heap.size w ((w.alloc o).alloc p).drew := zup (zba2 w o p) (below_drew _)
theorem Ib.newd (w : World) (s : Bool) (A : Option Addr) (n c : Nat) (t : TypeId) : Ib (w.alloc (.cells #[.bool s, .slice A n c] t)).drew w.heap.size s A n c := (Ib.new w s A n c t).below (below_drew _)
end Go.Proofs.YtfdgblmegiehnaaDoor
