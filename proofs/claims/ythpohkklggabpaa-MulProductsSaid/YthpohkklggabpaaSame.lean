/-
  Contracts by value for package mul; quincunxlaw02.awake; the walks of MulSame and MulRules.
-/
import Derived.Test.YthpohkklggabpaaPow2
import Derived.Test.YthpohkklggabpaaVal
import Derived.Test.YthpohkklggabpaaRow
namespace Go.Proofs.Ythpohkklggabpaa
open Go.RowKit
set_option linter.unusedVariables false

theorem mmulc_v {A B : Option Addr} {n m c d x y : Nat} {w : World} (hx : Nv w A n c x) (hy : Nv w B m d y) (hn : n ≤ 1099511627776) (hm : m ≤ 1099511627776) :
    Calls Try.prog 12 #[.slice A n c, .slice B m d] w (CvPost (x * y) (n + m) w) :=
  (mmul_v hx hy hn hm).mono fun _ _ h => h.cv (by
    have l1 := hx.lt
    have l2 := hy.lt
    rw [Nat.pow_add]
    exact Nat.mul_lt_mul'' l1 l2)
theorem squarec_v {A : Option Addr} {n c x : Nat} {w : World} (hx : Nv w A n c x) (hn : n ≤ 1099511627776) :
    Calls Try.prog 14 #[.slice A n c] w (CvPost (x * x) (n + n) w) :=
  (square_calls hx hn).mono fun _ _ h => h.cv (by
    have l1 := hx.lt
    rw [Nat.pow_add]
    exact Nat.mul_lt_mul'' l1 l1)
/-- A power, and true. -/
def PowCv (v k : Nat) (w : World) (e : Ending) (w' : World) : Prop :=
  ∃ A n c, e = .returned (.tuple #[.slice A n c, .bool true]) ∧ Cv w' A n c v ∧ n ≤ k ∧ Below w.heap.size w w'
theorem powc_v {A : Option Addr} {n c x k K : Nat} {w : World} (hx : Nv w A n c x) (hn : n ≤ 1099511627776) (hk : k ≤ 9223372036854775807) (h : aboveB (bl x) k = false) (hK : n * k ≤ K) :
    Calls Try.prog 18 #[.slice A n c, .int .i64 k] w (PowCv (x ^ k) (K + 1) w) := by
  refine (pow_yes hx hn hk h).mono ?_
  rintro e w' ⟨A', c', rfl, hg⟩
  have hc := hg.cap
  have h1 : x ^ k ≤ (18446744073709551616 ^ n) ^ k := Nat.pow_le_pow_left (Nat.le_of_lt hx.lt) k
  rw [← Nat.pow_mul] at h1
  have h2 : (18446744073709551616 : Nat) ^ (n * k) ≤ 18446744073709551616 ^ K := pow_big hK
  have h3 : (18446744073709551616 : Nat) ^ K < 18446744073709551616 ^ (K + 1) := by
    rw [Nat.pow_succ]
    have : 0 < (18446744073709551616 : Nat) ^ K := Nat.pow_pos (by omega)
    omega
  exact ⟨A', _, c', rfl, ⟨hg.rd, rfl, hc.1, by have := hc.2; unfold maxLen at this; omega⟩, cn_len_of_lt _ _ _ (by omega) (by omega), hg.2⟩
theorem same_v {A B : Option Addr} {n m c d x y : Nat} {w : World} (hx : Cv w A n c x) (hy : Cv w B m d y) (h : x = y) :
    Calls Try.prog 15 #[.slice A n c, .slice B m d] w (TruePost w) := by
  subst h
  exact same_calls A B n m c d _ _ w hx.1 hy.1 hx.2.1 hy.2.1 (by have := hx.2.2; omega) rfl

theorem above_small {s k : Nat} (h : s * k ≤ 1048576) : aboveB s k = false := by
  unfold aboveB
  simp only [decide_eq_false_iff_not]
  rintro ⟨h1, h2⟩
  have h3 : 1048576 < s * k := by
    have := (Nat.div_lt_iff_lt_mul h1).1 h2
    rwa [Nat.mul_comm] at this
  omega
theorem bl_three : bl 3 = 2 := by decide

set_option maxHeartbeats 400000 in
theorem mawake_calls (w : World) : Calls Try.prog 9 #[] w (TruePost w) := by
  have hW := Below.refl w.heap.size w
  go_enter Try.func9, Try.ntmps9
  go_wp2_with fail
  refine (of_v 3 (by omega) _).mono ?_
  rintro e w1 ⟨A1, n1, c1, rfl, h1, k1, B1, -⟩
  replace hW := hW.trans (B1.mono hW.size)
  go_wp2_with fail
  refine (powc_v (k := 4) (K := 4) h1 (by omega) (by omega) (above_small (by rw [bl_three]; omega)) (by omega)).mono ?_
  rintro e w2 ⟨A2, n2, c2, rfl, h2, k2, B2⟩
  replace hW := hW.trans (B2.mono hW.size)
  go_wp2_with fail
  refine (of_v 81 (by omega) _).mono ?_
  rintro e w3 ⟨A3, n3, c3, rfl, h3, k3, B3, -⟩
  replace h2 := h2.below B3
  replace hW := hW.trans (B3.mono hW.size)
  go_wp2_with fail
  refine (cmp_same_v h2.nv h3 (by decide)).mono ?_
  rintro e w4 ⟨rfl, B4⟩
  replace hW := hW.trans (B4.mono hW.size)
  go_wp2
  go_ret
  exact ⟨rfl, hW⟩

set_option maxHeartbeats 400000 in
theorem msame_calls (A B : Option Addr) (n m c d : Nat) (x y : Nat) (w : World) (ha : Nv w A n c x) (hb : Nv w B m d y) (hn : n ≤ 9223372036854775807) (hm : m ≤ 9223372036854775807) :
    Calls Try.prog 4 #[.slice A n c, .slice B m d] w (TruePost w) := by
  have hW := Below.refl w.heap.size w
  by_cases h1 : (n : Int) ≤ 100
  · by_cases h2 : (m : Int) ≤ 100
    · go_enter Try.func4, Try.ntmps4
      go_wp2_with fail
      refine (mawake_calls _).mono ?_
      rintro e w1 ⟨rfl, B1⟩
      replace ha := ha.below B1
      replace hb := hb.below B1
      replace hW := hW.trans (B1.mono hW.size)
      go_wp2_with fail
      refine (mmulc_v ha hb (by omega) (by omega)).mono ?_
      rintro e w2 ⟨A2, n2, c2, rfl, p2, k2, B2⟩
      replace ha := ha.below B2
      replace hb := hb.below B2
      replace hW := hW.trans (B2.mono hW.size)
      go_wp2_with fail
      refine (mulc_v ha hb (by omega) (by omega)).mono ?_
      rintro e w3 ⟨A3, n3, c3, rfl, p3, k3, B3⟩
      replace ha := ha.below B3
      replace hb := hb.below B3
      replace p2 := p2.below B3
      replace hW := hW.trans (B3.mono hW.size)
      go_wp2_with fail
      refine (same_v p2 p3 rfl).mono ?_
      rintro e w4 ⟨rfl, B4⟩
      replace ha := ha.below B4
      replace hb := hb.below B4
      replace hW := hW.trans (B4.mono hW.size)
      clear p2 p3
      go_wp2_with fail
      refine (mmulc_v hb ha (by omega) (by omega)).mono ?_
      rintro e w5 ⟨A5, n5, c5, rfl, p5, k5, B5⟩
      replace ha := ha.below B5
      replace hb := hb.below B5
      replace hW := hW.trans (B5.mono hW.size)
      go_wp2_with fail
      refine (mulc_v ha hb (by omega) (by omega)).mono ?_
      rintro e w6 ⟨A6, n6, c6, rfl, p6, k6, B6⟩
      replace p5 := p5.below B6
      replace hW := hW.trans (B6.mono hW.size)
      go_wp2_with fail
      refine (same_v p5 p6 (Nat.mul_comm _ _)).mono ?_
      rintro e w7 ⟨rfl, B7⟩
      replace hW := hW.trans (B7.mono hW.size)
      go_wp2
      go_ret
      exact ⟨rfl, hW⟩
    · go_enter Try.func4, Try.ntmps4
      go_wp2_with fail
      refine (mawake_calls _).mono ?_
      rintro e w1 ⟨rfl, B1⟩
      replace hW := hW.trans (B1.mono hW.size)
      go_wp2_with fail
      refine (mawake_calls _).mono ?_
      rintro e w2 ⟨rfl, B2⟩
      replace hW := hW.trans (B2.mono hW.size)
      go_wp2
      go_ret
      exact ⟨rfl, hW⟩
  · go_enter Try.func4, Try.ntmps4
    go_wp2_with fail
    refine (mawake_calls _).mono ?_
    rintro e w1 ⟨rfl, B1⟩
    replace hW := hW.trans (B1.mono hW.size)
    go_wp2_with fail
    refine (mawake_calls _).mono ?_
    rintro e w2 ⟨rfl, B2⟩
    replace hW := hW.trans (B2.mono hW.size)
    go_wp2
    go_ret
    exact ⟨rfl, hW⟩
end Go.Proofs.Ythpohkklggabpaa
