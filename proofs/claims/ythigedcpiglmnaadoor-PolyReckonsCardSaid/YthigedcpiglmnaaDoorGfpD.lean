/-
  The reference's Mul by doubling.
-/
import Derived.Test.YthigedcpiglmnaaDoorGfpC
/-! The reference's product. -/
namespace Go.Proofs.YthigedcpiglmnaaDoor
open Go.RowKit
set_option linter.unusedVariables false
set_option linter.unusedSimpArgs false

theorem dbl_step {x y p k : Nat} (hp : 0 < p) : 2 * (x * (y / 2 ^ (k + 1)) % p) % p = x * (2 * (y / 2 ^ (k + 1))) % p := by
  rw [Nat.mul_mod, Nat.mod_mod, ← Nat.mul_mod]
  congr 1
  rw [← Nat.mul_assoc, ← Nat.mul_assoc, Nat.mul_comm 2 x]
theorem below_drew8 (w : World) (q : Nat) : Below w.heap.size w (w.drewN q) := ⟨rfl, rfl, rfl, Nat.le_refl _, fun _ _ => rfl⟩
theorem half_pow (y k : Nat) : y / 2 ^ (k + 1) = y / 2 ^ k / 2 := by rw [Nat.pow_succ, Nat.div_div_eq_div_mul]
set_option maxHeartbeats 4000000 in
/-- quincunxref08.Mul. -/
theorem rmul8_calls {a b p r : Nat} (ha : a < 18446744073709551616) (hb : b < 18446744073709551616) (h2 : 2 ≤ p) (h : p < 2147483648) (hr : a * b % p = r) (w : World) :
    Calls Tryd.prog 47 #[.int .u64 (a : Int), .int .u64 (b : Int), .int .u64 (p : Int)] w (UPost r w) := by
  obtain ⟨x, hx⟩ : ∃ x, a % p = x := ⟨_, rfl⟩
  obtain ⟨y, hy⟩ : ∃ y, b % p = y := ⟨_, rfl⟩
  have lx : x < p := hx ▸ Nat.mod_lt _ (by omega)
  have ly : y < p := hy ▸ Nat.mod_lt _ (by omega)
  have HR : Hid (x * y % p = r) := Lib.hid (by rw [← hr, ← hx, ← hy, ← Nat.mul_mod])
  have e1 : (a : Int) % (p : Int) = (x : Int) := by rw [← Int.natCast_emod, hx]
  have e2 : (b : Int) % (p : Int) = (y : Int) := by rw [← Int.natCast_emod, hy]
  have H0 : Hid (x * (y / 2 ^ 32) % p = 0) := Lib.hid (by rw [Nat.div_eq_of_lt (by omega)]; simp)
  clear hx hy hr
  go_enter Tryd.func47, Tryd.ntmps47
  go_wp2_with fail
  go_quiet (fail)
  go_wp2_with fail
  go_loop [9, 10] (fun s9 s10 => ∃ k z : Nat, k ≤ 32 ∧ s10 = .int .i64 ((k : Int) - 1) ∧ s9 = .int .u64 (z : Int) ∧ z < p ∧ Hid (x * (y / 2 ^ k) % p = z)) (fun _ s10 => (intOf s10 + 1).toNat)
  case atStart => exact ⟨32, 0, by omega, rfl, rfl, by omega, H0⟩
  case round =>
    clear H0
    obtain ⟨k, z, hk, rfl, rfl, hz, HZ⟩ := hrel
    rcases k with _ | k
    · have e : z = r := by
        have := HZ.out
        rw [Nat.pow_zero, Nat.div_one, HR.out] at this
        exact this.symm
      subst e
      clear HZ HR
      go_wp2_with fail
      go_ret
      exact ⟨rfl, below_drew8 w nq⟩
    · rw [show ((k + 1 : Nat) : Int) - 1 = (k : Int) by omega]
      have hd := dbl_step (x := x) (y := y) (p := p) (k := k) (by omega)
      rw [HZ.out, half_pow] at hd
      obtain ⟨q, hq⟩ : ∃ q, y / 2 ^ k = q := ⟨_, rfl⟩
      have hqc : (y : Int) / 2 ^ k = (q : Int) := by rw [← hq]; push_cast; rfl
      obtain ⟨D, hD⟩ : ∃ D, 2 * z % p = D := ⟨_, rfl⟩
      have hDc : 2 * (z : Int) % (p : Int) = (D : Int) := by rw [← hD]; push_cast; rfl
      have lD : D < p := hD ▸ Nat.mod_lt _ (by omega)
      rw [hq, hD] at hd
      rcases Nat.mod_two_eq_zero_or_one q with e | e
      · have HN : Hid (x * (y / 2 ^ k) % p = D) := Lib.hid (by rw [hq, hd, show 2 * (q / 2) = q by omega])
        have t1 : (q : Int).tmod 2 = 0 := by rw [Int.tmod_eq_emod_of_nonneg (by omega)]; omega
        clear hq hD hd HZ e
        go_wp2_with fail
        go_round
        case rel => exact ⟨k, D, by omega, rfl, by first | rfl | rw [hDc], lD, HN⟩
        case measure => simp [intOf] <;> omega
      · obtain ⟨E, hE⟩ : ∃ E, (D + x) % p = E := ⟨_, rfl⟩
        have lE : E < p := hE ▸ Nat.mod_lt _ (by omega)
        have HN : Hid (x * (y / 2 ^ k) % p = E) := Lib.hid (by
          rw [hq, ← hE, hd]
          conv => lhs; rw [show q = 2 * (q / 2) + 1 by omega, Nat.mul_add, Nat.mul_one]
          rw [Nat.mod_add_mod])
        have t1 : (q : Int).tmod 2 = 1 := by rw [Int.tmod_eq_emod_of_nonneg (by omega)]; omega
        have hEc : ((D : Int) + (x : Int)) % (p : Int) = (E : Int) := by rw [← hE]; push_cast; rfl
        clear hq hD hd HZ e hE
        go_wp2_with fail
        go_round
        case rel => exact ⟨k, E, by omega, rfl, by rw [hEc], lE, HN⟩
        case measure => simp [intOf] <;> omega
end Go.Proofs.YthigedcpiglmnaaDoor
