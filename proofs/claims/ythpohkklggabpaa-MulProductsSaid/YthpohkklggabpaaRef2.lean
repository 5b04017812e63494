/-
  The reference of layer 1: From, the digits of words.
-/
import Derived.Test.YthpohkklggabpaaRef1
namespace Go.Proofs.Ythpohkklggabpaa
open Go.RowKit

/-- The digits of i words, and k digits of the next one, of which x is left. -/
def Splits (xs D : List Nat) (i k x : Nat) : Prop :=
  D.length = 4 * i + k ∧ Low 65536 D ∧ ev 65536 D + 65536 ^ (4 * i + k) * x = pre 18446744073709551616 xs i + 18446744073709551616 ^ i * nth xs i ∧ x = nth xs i / 65536 ^ k
def Splat (xs D : List Nat) (i : Nat) : Prop := D.length = 4 * i ∧ Low 65536 D ∧ ev 65536 D = pre 18446744073709551616 xs i
theorem pow_word (i : Nat) : (18446744073709551616 : Nat) ^ i = 65536 ^ (4 * i) := by
  rw [Nat.pow_mul]
theorem Splat.start (xs : List Nat) : Splat xs [] 0 := ⟨rfl, Low.nil _, by simp [ev, pre_zero]⟩
theorem Splat.begin {xs D : List Nat} {i : Nat} (h : Splat xs D i) : Splits xs D i 0 (nth xs i) := by
  obtain ⟨h1, h2, h3⟩ := h
  exact ⟨by omega, h2, by rw [h3, Nat.add_zero, pow_word], by simp⟩
theorem Splits.step {xs D : List Nat} {i k x : Nat} (h : Splits xs D i k x) : Splits xs (D ++ [x % 65536]) i (k + 1) (x / 65536) := by
  obtain ⟨h1, h2, h3, h4⟩ := h
  refine ⟨by simp [h1]; omega, h2.snoc (by omega), ?_, ?_⟩
  · rw [ev_snoc, h1, ← h3, ← Nat.add_assoc (4 * i) k 1, Nat.pow_succ]
    have e := Nat.mod_add_div x 65536
    generalize x % 65536 = r at *
    generalize x / 65536 = q at *
    generalize 65536 ^ (4 * i + k) = p
    subst e
    grind
  · rw [h4, Nat.div_div_eq_div_mul, Nat.pow_succ]
theorem Splits.stop {xs D : List Nat} {i x : Nat} (hx : nth xs i < 18446744073709551616) (h : Splits xs D i 4 x) : Splat xs D (i + 1) := by
  obtain ⟨h1, h2, h3, h4⟩ := h
  have h0 : x = 0 := by rw [h4]; exact Nat.div_eq_of_lt (by simpa using hx)
  subst h0
  exact ⟨by omega, h2, by rw [pre_succ]; simpa using h3⟩

set_option maxHeartbeats 400000 in
theorem from_calls (A : Option Addr) (n c : Nat) (xs : List Nat) (w : World) (hr : Rd w .u64 A xs) (hn : xs.length = n) (bn : n ≤ 1099511627775) (lx : Low 18446744073709551616 xs) :
    Calls Try.prog 10 #[.slice A n c] w (DgPost (ev 18446744073709551616 xs) w) := by
  have HN := Lib.hid hn
  clear hn
  go_enter Try.func10, Try.ntmps10
  go_wp2
  go_loopw [3, 4] (fun v i wr => ∃ (k : Nat) (D : List Nat), k ≤ n ∧ i = .int .i64 k ∧ Splat xs D k ∧ OwnV w wr 3 .i64 v D) (fun _ i _ => n - (intOf i).toNat)
  case atStart => exact ⟨0, [], Nat.zero_le _, rfl, Splat.start _, OwnV.nil _ _ _⟩
  case round =>
    obtain ⟨i, D, hi, rfl, hs, ho⟩ := hrel
    by_cases hlt : i < n
    · obtain ⟨ad, rfl, _, hcell⟩ := (hr.below ho.2).at (k := i) (by have := HN.out; omega)
      have hS := Lib.hid hs
      clear hs
      obtain ⟨wo, rfl⟩ : ∃ wo : World, wo = wr := ⟨_, rfl⟩
      go_wp2
      go_loopw [3, 5, 6] (fun v x k wr => ∃ (j y : Nat) (E : List Nat), j ≤ 4 ∧ k = .int .i64 j ∧ x = .int .u64 y ∧ Splits xs E i j y ∧ OwnV w wr 3 .i64 v E) (fun _ _ k _ => 4 - (intOf k).toNat)
      case atStart => exact ⟨0, nth xs i, D, by omega, rfl, rfl, hS.out.begin, ho⟩
      case round =>
        clear ho
        obtain ⟨j, y, E, hj, rfl, rfl, hsp, ho⟩ := hrel
        by_cases hlt2 : j < 4
        · have hSp := Lib.hid hsp
          have hy : y < 18446744073709551616 := by have := hsp.2.2.2; have h2 := lx.any (by omega) i; have := Nat.div_le_self (nth xs i) (65536 ^ j); omega
          have hl : E.length ≤ 4398046511104 := by have := hsp.1; omega
          clear hsp
          go_wp2_with (at_builtin; refine wpList_app1 w wr rfl _ _ _ rfl 3 .i64 Try.underlying25 info_i64 _ E (by rfl) ho _ (y % 65536) (by omega) (by rfl) hl ?_)
          intro v1 w1 ho1
          clear ho
          go_wp2
          go_roundw
          case rel => exact ⟨j + 1, y / 65536, E ++ [y % 65536], by omega, by go_num, by go_num, hSp.out.step, ho1⟩
          case measure => simp [intOf]; omega
        · obtain rfl : j = 4 := by omega
          have hst := Splits.stop (lx.any (by omega) i) hsp
          have hSt := Lib.hid hst
          clear hsp hst hlt2
          go_wp2
          go_roundw
          case rel => exact ⟨i + 1, E, by omega, by go_num, hSt.out, ho⟩
          case measure => simp [intOf]; omega
    · obtain rfl : i = n := by omega
      have e : ev 65536 D = ev 18446744073709551616 xs := by rw [hs.2.2, ← HN.out, pre_len]
      have E := Lib.hid e
      have hl := hs.2.1
      clear hs e hlt
      go_wp2_with fail
      refine (rtrim_end ho hl E.out).mono ?_
      rintro e w' ⟨⟨A1, c1, rfl, hg⟩, rfl⟩
      go_wp2
      go_ret
      exact ⟨A1, c1, rfl, hg⟩
end Go.Proofs.Ythpohkklggabpaa
