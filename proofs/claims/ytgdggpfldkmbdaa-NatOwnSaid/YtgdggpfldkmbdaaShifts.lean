/-
  For every input quincunxlaw01.NatShifts returns true and leaves what was there as it was: the walk.
-/
import Derived.Test.YtgdggpfldkmbdaaRef9
namespace Go.Proofs.Ytgdggpfldkmbdaa
open Go.RowKit

def TwoCv (v k : Nat) (w : World) (e : Ending) (w' : World) : Prop :=
  ∃ A n c, e = .returned (.tuple #[.slice A n c, .bool true]) ∧ Cv w' A n c v ∧ n ≤ k ∧ Below w.heap.size w w'
theorem TwoPost.cv {v k : Nat} {w w' : World} {e : Ending} (h : TwoPost v w e w') (hk : v < 18446744073709551616 ^ k) : TwoCv v k w e w' := by
  obtain ⟨A, c, rfl, hg⟩ := h
  have hc := hg.cap
  exact ⟨A, _, c, rfl, ⟨hg.rd, rfl, hc.1, by have := hc.2; unfold maxLen at this; omega⟩, cn_len_of_lt _ _ _ (by omega) hk, hg.2⟩
theorem Cv.zero {w : World} {A : Option Addr} {n c v : Nat} (h : Cv w A n c v) (hv : v = 0) : n = 0 := by
  subst hv
  exact h.2.1.symm
theorem shl_v {A : Option Addr} {n c x k : Nat} {w : World} (hx : Nv w A n c x) (hn : n ≤ 1099511627776) (hk : k ≤ 1048576) :
    Calls Try.prog 23 #[.slice A n c, .int .i64 k] w (TwoCv (x * 2 ^ k) (n + k / 64 + 1) w) := by
  have l1 := hx.lt
  obtain ⟨xs, h1, h2, h3, h4, h5, rfl⟩ := hx
  refine (shl_calls A n c xs k (k / 64) (k % 64) w h1 h2 h3 h4 h5 hn hk (by omega) (by omega)).mono fun _ _ h => h.cv ?_
  have e1 : (2 : Nat) ^ k ≤ 2 ^ (64 * (k / 64) + 64) := Nat.pow_le_pow_right (by omega) (by omega)
  have e2 : (2 : Nat) ^ (64 * (k / 64) + 64) = 18446744073709551616 ^ (k / 64 + 1) := by rw [show 64 * (k / 64) + 64 = 64 * (k / 64 + 1) from by omega, Nat.pow_mul]
  rw [Nat.add_assoc, Nat.pow_add, ← e2]
  exact Nat.lt_of_lt_of_le (Nat.mul_lt_mul_of_pos_right l1 (Nat.pow_pos (by omega))) (Nat.mul_le_mul_left _ e1)
theorem shr_v {A : Option Addr} {n c x k : Nat} {w : World} (hx : Nv w A n c x) (hn : n ≤ 1099511627776) (hk : k ≤ 9223372036854775807) :
    Calls Try.prog 24 #[.slice A n c, .int .i64 k] w (TwoCv (x / 2 ^ k) n w) := by
  have l1 := hx.lt
  obtain ⟨xs, h1, h2, h3, h4, h5, rfl⟩ := hx
  exact (shr_calls A n c xs k (k / 64) (k % 64) w h1 h2 h3 h4 h5 hn hk (by omega) (by omega)).mono fun _ _ h => h.cv (Nat.lt_of_le_of_lt (Nat.div_le_self _ _) l1)
theorem shr_no (A : Option Addr) (n c : Nat) (k : Int) (w : World) (h : k < 0) :
    Calls Try.prog 24 #[.slice A n c, .int .i64 k] w fun e w' => e = .returned (.tuple #[.slice none 0 0, .bool false]) ∧ w = w' := by
  go_enter Try.func24, Try.ntmps24
  go_wp2
  go_ret2
  exact ⟨rfl, rfl⟩
theorem twice_v {A : Option Addr} {n c x k : Nat} {w : World} (hx : Dv w A n c x) (hn : n ≤ 1099511627776) (hk : k ≤ 1048576) :
    Calls Try.prog 25 #[.slice A n c, .int .i64 k] w (DvPost (x * 2 ^ k) (n + k / 16 + 1) w) := by
  have l1 := hx.lt
  refine (twice_calls A n c k (k / 16) (k % 16) _ w hx.1 hx.2.1 hn (cn_low _ _ (by omega)) hk (by omega) (by omega)).mono fun e w' h => ?_
  rw [ev_cn _ _ (by omega)] at h
  refine h.dv ?_
  have e1 : (2 : Nat) ^ k ≤ 2 ^ (16 * (k / 16) + 16) := Nat.pow_le_pow_right (by omega) (by omega)
  have e2 : (2 : Nat) ^ (16 * (k / 16) + 16) = 65536 ^ (k / 16 + 1) := by rw [show 16 * (k / 16) + 16 = 16 * (k / 16 + 1) from by omega, Nat.pow_mul]
  rw [Nat.add_assoc, Nat.pow_add, ← e2]
  exact Nat.lt_of_lt_of_le (Nat.mul_lt_mul_of_pos_right l1 (Nat.pow_pos (by omega))) (Nat.mul_le_mul_left _ e1)
theorem rhalf_v {A : Option Addr} {n c x k : Nat} {w : World} (hx : Dv w A n c x) (hn : n ≤ 1099511627776) (hk : k ≤ 9223372036854775807) :
    Calls Try.prog 26 #[.slice A n c, .int .i64 k] w (DvPost (x / 2 ^ k) n w) := by
  have l1 := hx.lt
  refine (rhalf_calls A n c k (k / 16) (k % 16) _ w hx.1 hx.2.1 hx.2.2.1 hn (cn_low _ _ (by omega)) hk (by omega) (by omega)).mono fun e w' h => ?_
  rw [ev_cn _ _ (by omega)] at h
  exact h.dv (Nat.lt_of_le_of_lt (Nat.div_le_self _ _) l1)
theorem shr_big {x n k : Nat} (hx : x < 18446744073709551616 ^ n) (hn : n ≤ 20) (hk : 1048576 < k) : x / 2 ^ k = 0 := by
  have e : (18446744073709551616 : Nat) ^ n = 2 ^ (64 * n) := by rw [Nat.pow_mul]
  rw [e] at hx
  exact Nat.div_eq_of_lt (Nat.lt_of_lt_of_le hx (Nat.pow_le_pow_right (by omega) (by omega)))

set_option maxHeartbeats 1000000 in
theorem shifts_yes (A : Option Addr) (n c x k : Nat) (w : World) (ha : Nv w A n c x) (h1 : n ≤ 20) (h2 : k ≤ 2000) :
    Calls Try.prog 5 #[.slice A n c, .int .i64 k] w (TruePost w) := by
  have hW := Below.refl w.heap.size w
  go_enter Try.func5, Try.ntmps5
  go_wp2_with fail
  refine (awake_calls _).mono ?_
  rintro e w1 ⟨rfl, B1⟩
  replace ha := ha.below B1
  replace hW := hW.trans (B1.mono hW.size)
  go_wp2_with fail
  refine (from_v ha (by omega)).mono ?_
  rintro e w2 ⟨A2, n2, c2, rfl, dx, k2, B2⟩
  replace ha := ha.below B2
  replace hW := hW.trans (B2.mono hW.size)
  go_wp2_with fail
  refine (shl_v ha (by omega) (by omega)).mono ?_
  rintro e w3 ⟨A3, n3, c3, rfl, up, k3, B3⟩
  replace ha := ha.below B3
  replace dx := dx.below B3
  replace hW := hW.trans (B3.mono hW.size)
  go_wp2_with fail
  refine (shr_v ha (by omega) (by omega)).mono ?_
  rintro e w4 ⟨A4, n4, c4, rfl, dw, k4, B4⟩
  replace ha := ha.below B4
  replace dx := dx.below B4
  replace up := up.below B4
  replace hW := hW.trans (B4.mono hW.size)
  go_wp2_with fail
  refine (twice_v dx (by omega) (by omega)).mono ?_
  rintro e w5 ⟨A5, n5, c5, rfl, t1, k5, B5⟩
  replace ha := ha.below B5
  replace dx := dx.below B5
  replace up := up.below B5
  replace dw := dw.below B5
  replace hW := hW.trans (B5.mono hW.size)
  go_wp2_with fail
  refine (is_v up t1 (by omega) rfl).mono ?_
  rintro e w6 ⟨rfl, B6⟩
  replace ha := ha.below B6
  replace dx := dx.below B6
  replace up := up.below B6
  replace dw := dw.below B6
  replace t1 := t1.below B6
  replace hW := hW.trans (B6.mono hW.size)
  go_wp2_with fail
  refine (rhalf_v dx (by omega) (by omega)).mono ?_
  rintro e w7 ⟨A7, n7, c7, rfl, t2, k7, B7⟩
  replace ha := ha.below B7
  replace dx := dx.below B7
  replace up := up.below B7
  replace dw := dw.below B7
  replace t1 := t1.below B7
  replace hW := hW.trans (B7.mono hW.size)
  go_wp2_with fail
  refine (is_v dw t2 (by omega) rfl).mono ?_
  rintro e w8 ⟨rfl, B8⟩
  replace ha := ha.below B8
  replace dx := dx.below B8
  replace up := up.below B8
  replace dw := dw.below B8
  replace t1 := t1.below B8
  replace t2 := t2.below B8
  replace hW := hW.trans (B8.mono hW.size)
  go_wp2
  go_ret
  exact ⟨rfl, hW⟩

set_option maxHeartbeats 1000000 in
theorem shifts_big (A : Option Addr) (n c x k : Nat) (w : World) (ha : Nv w A n c x) (h1 : n ≤ 20) (h2 : 1048576 < k) (h3 : k ≤ 9223372036854775807) :
    Calls Try.prog 5 #[.slice A n c, .int .i64 k] w (TruePost w) := by
  have hW := Below.refl w.heap.size w
  go_enter Try.func5, Try.ntmps5
  go_wp2_with fail
  refine (awake_calls _).mono ?_
  rintro e w1 ⟨rfl, B1⟩
  replace ha := ha.below B1
  replace hW := hW.trans (B1.mono hW.size)
  go_wp2_with fail
  refine (from_v ha (by omega)).mono ?_
  rintro e w2 ⟨A2, n2, c2, rfl, dx, k2, B2⟩
  replace ha := ha.below B2
  replace hW := hW.trans (B2.mono hW.size)
  go_wp2_with fail
  refine (shl_no A n c _ _ (.inr (by omega))).mono ?_
  rintro e w3 ⟨rfl, rfl⟩
  go_wp2_with fail
  refine (shr_v ha (by omega) (by omega)).mono ?_
  rintro e w4 ⟨A4, n4, c4, rfl, dw, k4, B4⟩
  replace ha := ha.below B4
  replace dx := dx.below B4
  replace hW := hW.trans (B4.mono hW.size)
  have hz := dw.zero (shr_big ha.lt (by omega) (by omega))
  subst hz
  go_wp2
  go_ret
  exact ⟨rfl, hW⟩

set_option maxHeartbeats 1000000 in
theorem shifts_neg (A : Option Addr) (n c x : Nat) (k : Int) (w : World) (ha : Nv w A n c x) (h1 : n ≤ 20) (h2 : k < 0) :
    Calls Try.prog 5 #[.slice A n c, .int .i64 k] w (TruePost w) := by
  have hW := Below.refl w.heap.size w
  go_enter Try.func5, Try.ntmps5
  go_wp2_with fail
  refine (awake_calls _).mono ?_
  rintro e w1 ⟨rfl, B1⟩
  replace ha := ha.below B1
  replace hW := hW.trans (B1.mono hW.size)
  go_wp2_with fail
  refine (from_v ha (by omega)).mono ?_
  rintro e w2 ⟨A2, n2, c2, rfl, dx, k2, B2⟩
  replace ha := ha.below B2
  replace hW := hW.trans (B2.mono hW.size)
  go_wp2_with fail
  refine (shl_no A n c _ _ (.inl h2)).mono ?_
  rintro e w3 ⟨rfl, rfl⟩
  go_wp2_with fail
  refine (shr_no A n c _ _ h2).mono ?_
  rintro e w4 ⟨rfl, rfl⟩
  go_wp2
  go_ret
  exact ⟨rfl, hW⟩

theorem shifts_calls (A : Option Addr) (n c x : Nat) (k : Int) (w : World) (ha : Nv w A n c x) (hk : k ≤ 9223372036854775807) :
    Calls Try.prog 5 #[.slice A n c, .int .i64 k] w (TruePost w) := by
  by_cases h1 : n ≤ 20
  · rcases Int.lt_or_le k 0 with h2 | h2
    · exact shifts_neg A n c x k w ha h1 h2
    · obtain ⟨m, rfl⟩ := Int.eq_ofNat_of_zero_le h2
      by_cases h3 : m ≤ 2000
      · exact shifts_yes A n c x m w ha h1 h3
      · by_cases h4 : m ≤ 1048576
        · have h5 : 2000 < m := by omega
          have hW := Below.refl w.heap.size w
          clear h3
          go_enter Try.func5, Try.ntmps5
          go_wp2_with fail
          refine (awake_calls _).mono ?_
          rintro e w1 ⟨rfl, B1⟩
          replace ha := ha.below B1
          replace hW := hW.trans (B1.mono hW.size)
          go_wp2_with fail
          refine (awake_calls _).mono ?_
          rintro e w2 ⟨rfl, B2⟩
          replace ha := ha.below B2
          replace hW := hW.trans (B2.mono hW.size)
          go_wp2
          go_ret
          exact ⟨rfl, hW⟩
        · exact shifts_big A n c x m w ha h1 (by omega) (by omega)
  · have hW := Below.refl w.heap.size w
    have h5 : 20 < n := by omega
    clear h1
    go_enter Try.func5, Try.ntmps5
    go_wp2_with fail
    refine (awake_calls _).mono ?_
    rintro e w1 ⟨rfl, B1⟩
    replace ha := ha.below B1
    replace hW := hW.trans (B1.mono hW.size)
    go_wp2_with fail
    refine (awake_calls _).mono ?_
    rintro e w2 ⟨rfl, B2⟩
    replace ha := ha.below B2
    replace hW := hW.trans (B2.mono hW.size)
    go_wp2
    go_ret
    exact ⟨rfl, hW⟩
end Go.Proofs.Ytgdggpfldkmbdaa
