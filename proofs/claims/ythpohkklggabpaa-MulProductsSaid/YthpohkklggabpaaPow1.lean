/-
  Contracts: mul.Square, mul.aboveMaxBits, math/bits.Len, mul.Pow.
-/
import Derived.Test.YthpohkklggabpaaKar5
import Derived.Test.YthpohkklggabpaaBits2
import Derived.BigQuiet
import Derived.Deep.QuietTactic
namespace Go.Proofs.Ythpohkklggabpaa
open Go.RowKit
set_option linter.unusedVariables false

theorem square_calls {A : Option Addr} {n c x : Nat} {w : World} (hx : Nv w A n c x) (hn : n ≤ 1099511627776) :
    Calls Try.prog 14 #[.slice A n c] w (NatPost (x * x) w) := by
  go_enter Try.func14, Try.ntmps14
  go_wp2_with fail
  refine (mmul_v hx hx hn hn).mono ?_
  rintro e w1 ⟨A1, c1, rfl, hg⟩
  go_wp2
  go_ret
  exact ⟨A1, c1, rfl, hg⟩

/-- n times the size is above MaxBits. -/
def aboveB (s n : Nat) : Bool := decide (0 < s ∧ 1048576 / s < n)
theorem above_calls (s n : Nat) (hs : s ≤ 9223372036854775807) (hn : n ≤ 9223372036854775807) (w : World) :
    Calls Try.prog 34 #[.int .i64 s, .int .i64 n] w fun e w' => e = .returned (.bool (aboveB s n)) ∧ w = w' := by
  rcases Nat.eq_zero_or_pos s with rfl | h
  · go_enter Try.func34, Try.ntmps34
    go_wp2
    go_ret
    exact ⟨rfl, rfl⟩
  · have hd : aboveB s n = decide (((1048576 : Int) / (s : Int)) < (n : Int)) := by
      unfold aboveB
      rw [Bool.eq_iff_iff]
      simp only [decide_eq_true_eq]
      have : ((1048576 : Int) / (s : Int)) = ((1048576 / s : Nat) : Int) := by simp
      rw [this]
      omega
    have HD := Lib.hid hd
    clear hd
    have h0 : (((s : Nat) : Int) == 0) = false := by rw [beq_eq_false_iff_ne]; omega
    have h1 : decide ((0 : Int) < (s : Int)) = true := by simpa using h
    go_enter Try.func34, Try.ntmps34
    go_wp2
    go_ret
    exact ⟨by rw [HD.out]; rfl, rfl⟩

theorem len_calls (n : Nat) (hn : n < 18446744073709551616) (w : World) :
    Calls Try.prog 36 #[.int .u64 n] w fun e w' => e = .returned (.int .i64 (bl n)) ∧ w = w' := by
  go_enter Try.func36, Try.ntmps36
  go_wp2_with fail
  refine (len64_calls _ hn _).mono ?_
  rintro e w' ⟨rfl, rfl⟩
  go_wp2
  go_ret
  exact ⟨rfl, rfl⟩
end Go.Proofs.Ythpohkklggabpaa
