/-
  The reference of layer 2: Pow; the walk of MulPowers.
-/
import Derived.Test.YthpohkklggabpaaSame
import Derived.Test.YthpohkklggabpaaRefB
namespace Go.Proofs.Ythpohkklggabpaa
open Go.RowKit
set_option linter.unusedVariables false

theorem cn_one (b : Nat) (hb : 2 ≤ b) : cn b 1 = [1] := by
  rw [cn_pos _ _ hb (by omega), Nat.mod_eq_of_lt (by omega), Nat.div_eq_of_lt (by omega), cn_zero]
/-- A slice of the digit 1 alone, just made. -/
theorem dv_one (w : World) (t : TypeId) : Dv (w.alloc (.cells #[.int .i64 1] t)) (some ⟨w.heap.size, 0, none⟩) 1 1 1 := by
  have hb : Blk (w.alloc (.cells #[.int .i64 1] t)) w.heap.size t .i64 [1] := heap_alloc_new w _
  have e := cn_one 65536 (by omega)
  refine ⟨?_, by rw [e]; rfl, Nat.le_refl _, by omega⟩
  rw [e]
  exact hb.rd0
/-- In the loop: a power of digits. -/
def RpRel (w : World) (v k : Nat) (s : Value) (wr : World) : Prop := ∃ A n c, s = .slice A n c ∧ Dv wr A n c v ∧ n ≤ k ∧ Below w.heap.size w wr
set_option maxHeartbeats 400000 in
theorem rpow_v {A : Option Addr} {n c x k : Nat} {w : World} (hx : Dv w A n c x) (hn : n ≤ 1048576) (hk : k ≤ 1024) :
    Calls Try.prog 19 #[.slice A n c, .int .i64 k] w (DvPost (x ^ k) (1 + n * k) w) := by
  have hm : ∀ i, i ≤ k → 1 + n * i ≤ 1099511627776 := fun i hi => by
    have := Nat.mul_le_mul hn (Nat.le_trans hi hk)
    omega
  have HM := Lib.hid hm
  clear hm
  go_enter Try.func19, Try.ntmps19
  go_wp2
  go_loopw [5, 6] (fun s i wr => ∃ j : Nat, j ≤ k ∧ i = .int .i64 j ∧ RpRel w (x ^ j) (1 + n * j) s wr) (fun _ i _ => k - (intOf i).toNat)
  case atStart => exact ⟨0, by omega, rfl, _, _, _, rfl, by rw [Nat.pow_zero]; exact dv_one w _, by omega, (Below.refl _ _).alloc (Nat.le_refl _) _⟩
  case round =>
    obtain ⟨j, hj, rfl, A1, n1, c1, rfl, hd, hn1, hb⟩ := hrel
    by_cases hlt : j < k
    · have l1 := HM.out j hj
      go_wp2_with fail
      refine (rmul_v hd (hx.below hb) (by omega) (by omega)).mono ?_
      rintro e w2 ⟨A2, n2, c2, rfl, h2, k2, b2⟩
      have R : Hid (RpRel w (x ^ (j + 1)) (1 + n * (j + 1)) (.slice A2 n2 c2) w2) := ⟨A2, n2, c2, rfl, by rw [Nat.pow_succ]; exact h2, by rw [Nat.mul_succ]; omega, hb.trans (b2.mono hb.size)⟩
      clear h2 b2 l1
      go_wp2
      go_roundw
      case rel => exact ⟨j + 1, by omega, by go_num, R.out⟩
      case measure => simp [intOf]; omega
    · obtain rfl : j = k := by omega
      have P : Hid (DvPost (x ^ j) (1 + n * j) w (.returned (.slice A1 n1 c1)) wr) := ⟨A1, n1, c1, rfl, hd, hn1, hb⟩
      clear hd hn1 hb
      go_wp2
      go_ret
      exact P.out

/-- A power, and true: as long as it is. -/
def PowCv' (v : Nat) (w : World) (e : Ending) (w' : World) : Prop :=
  ∃ A n c, e = .returned (.tuple #[.slice A n c, .bool true]) ∧ Cv w' A n c v ∧ Below w.heap.size w w'
theorem powd_v {A : Option Addr} {n c x k : Nat} {w : World} (hx : Nv w A n c x) (hn : n ≤ 1099511627776) (hk : k ≤ 9223372036854775807) (h : aboveB (bl x) k = false) :
    Calls Try.prog 18 #[.slice A n c, .int .i64 k] w (PowCv' (x ^ k) w) := by
  refine (pow_yes hx hn hk h).mono ?_
  rintro e w' ⟨A', c', rfl, hg⟩
  have hc := hg.cap
  exact ⟨A', _, c', rfl, ⟨hg.rd, rfl, hc.1, by have := hc.2; unfold maxLen at this; omega⟩, hg.2⟩
theorem bl_two {x : Nat} (h : bl x ≤ 1) : x ≤ 1 := by have := bl_le.1 h; omega
theorem pow_small {x k : Nat} (h : x ≤ 1) (hk : 0 < k) : x ^ k = x := by
  rcases Nat.eq_zero_or_pos x with rfl | hx
  · obtain ⟨j, rfl⟩ : ∃ j, k = j + 1 := ⟨k - 1, by omega⟩
    simp
  · obtain rfl : x = 1 := by omega
    simp
end Go.Proofs.Ythpohkklggabpaa
