/-
  For quincunxlaw01.NatBits: contracts of nat.Bit, nat.Zeros.
-/
import Derived.Test.YtgdggpfldkmbdaaDoorBits2
namespace Go.Proofs.YtgdggpfldkmbdaaDoor
open Go.RowKit

theorem bit_word {xs : List Nat} (lx : Low 18446744073709551616 xs) {s u : Nat} (hu : u < 64) (hs : s < xs.length) : ev 18446744073709551616 xs / 2 ^ (64 * s + u) % 2 = nth xs s / 2 ^ u % 2 := by
  have e1 := ev_split 18446744073709551616 xs s (by omega)
  rw [drop_nth hs, ev] at e1
  have e2 := pre_lt lx (by omega) s
  rw [two_word, ← Nat.div_div_eq_div_mul]
  have e4 : ev 18446744073709551616 xs / 18446744073709551616 ^ s = nth xs s + 18446744073709551616 * ev 18446744073709551616 (xs.drop (s + 1)) := by
    rw [e1, Nat.add_mul_div_left _ _ (Nat.pow_pos (by omega)), Nat.div_eq_of_lt e2, Nat.zero_add]
  rw [e4]
  generalize ev 18446744073709551616 (xs.drop (s + 1)) = r
  have e5 : 18446744073709551616 * r = 2 ^ u * (2 * (2 ^ (63 - u) * r)) := by
    rw [split_word u hu, show 64 - u = (63 - u) + 1 from by omega, Nat.pow_succ]
    grind
  rw [e5, Nat.add_mul_div_left _ _ (Nat.pow_pos (by omega)), Nat.add_mul_mod_self_left]
theorem bit_far {xs : List Nat} (lx : Low 18446744073709551616 xs) {s u : Nat} (hs : xs.length ≤ s) : ev 18446744073709551616 xs / 2 ^ (64 * s + u) = 0 := by
  have h1 := ev_lt lx
  have h2 := pow_big hs
  rw [two_word, ← Nat.div_div_eq_div_mul, Nat.div_eq_of_lt (Nat.lt_of_lt_of_le h1 h2), Nat.zero_div]
theorem bit_value {x u : Nat} (hx : x < 18446744073709551616) : bits .and .u64 ((x : Int) / 2 ^ u) 1 = ((x / 2 ^ u % 2 : Nat) : Int) := by
  have e : (x : Int) / 2 ^ u = ((x / 2 ^ u : Nat) : Int) := by
    rw [Int.natCast_ediv, Int.natCast_pow]
    rfl
  have h4 : x / 2 ^ u ≤ x := Nat.div_le_self _ _
  have h5 := (bits_nat .u64 64 (by decide) (fun n h0 h1 => by rw [IntKind.wrap_u64]; omega) (x / 2 ^ u) 1 (by omega) (by omega)).1
  rw [e]
  refine Eq.trans h5 ?_
  rw [Nat.and_one_is_mod]

set_option maxHeartbeats 400000 in
theorem bit_calls (A : Option Addr) (n c k s u : Nat) (xs : List Nat) (w : World) (hx : Rd w .u64 A xs) (hxn : xs.length = n) (lx : Low 18446744073709551616 xs) (hk : k ≤ 9223372036854775807) (hs : (k : Int) / 64 = (s : Int)) (hu : (k : Int) % 64 = (u : Int)) :
    Calls Tryd.prog 11 #[.slice A n c, .int .i64 k] w fun e w' => e = .returned (.int .i64 ((ev 18446744073709551616 xs / 2 ^ k % 2 : Nat) : Int)) ∧ w = w' := by
  have HX := Lib.hid hxn
  have hk2 : k = 64 * s + u := by omega
  have hub : u < 64 := by omega
  by_cases h0 : n ≤ s
  · have e1 : ev 18446744073709551616 xs / 2 ^ k % 2 = 0 := by rw [hk2, bit_far lx (by omega)]
    have E1 := Lib.hid e1
    clear hxn hk2 e1
    go_enter Tryd.func11, Tryd.ntmps11
    go_wp2
    go_ret
    exact ⟨by rw [E1.out]; rfl, rfl⟩
  · have h1 : s < n := by omega
    have e1 : ev 18446744073709551616 xs / 2 ^ k % 2 = nth xs s / 2 ^ u % 2 := by rw [hk2, bit_word lx hub (by omega)]
    have E1 := Lib.hid e1
    obtain ⟨ad, rfl, _, hcell⟩ := hx.at (k := s) (by omega)
    have hv := bit_value (u := u) (lx.any (by omega) s)
    have hm : nth xs s / 2 ^ u % 2 < 2 := Nat.mod_lt _ (by omega)
    obtain ⟨y, hy⟩ : ∃ y, y = nth xs s / 2 ^ u % 2 := ⟨_, rfl⟩
    rw [← hy] at hv hm
    have HY := Lib.hid hy
    clear hxn hk2 e1 h0 hy
    go_enter Tryd.func11, Tryd.ntmps11
    go_wp2
    go_ret
    exact ⟨by rw [E1.out, ← HY.out]; first | rfl | simp [hv], rfl⟩
theorem bit_neg (A : Option Addr) (n c : Nat) (k : Int) (w : World) (hk : k < 0) :
    Calls Tryd.prog 11 #[.slice A n c, .int .i64 k] w fun e w' => e = .returned (.int .i64 0) ∧ w = w' := by
  go_enter Tryd.func11, Tryd.ntmps11
  go_wp2
  go_ret
  exact ⟨rfl, rfl⟩

/-- What nat.Zeros answers. -/
def ZerosPost (v : Nat) (w : World) (e : Ending) (w' : World) : Prop :=
  ∃ z : Nat, e = .returned (.int .i64 z) ∧ (v = 0 → z = 0) ∧ (v ≠ 0 → ∃ m, v = 2 ^ z * (2 * m + 1)) ∧ w = w'
theorem zeros_found {xs : List Nat} {i z m : Nat} (hz : ∀ j, j < i → nth xs j = 0) (hi : i < xs.length) (h : nth xs i = 2 ^ z * (2 * m + 1)) (hz64 : z < 64) :
    ev 18446744073709551616 xs ≠ 0 ∧ ∃ m', ev 18446744073709551616 xs = 2 ^ (64 * i + z) * (2 * m' + 1) := by
  have e1 := ev_split 18446744073709551616 xs i (by omega)
  rw [drop_nth hi, ev] at e1
  have e2 : pre 18446744073709551616 xs i = 0 := by
    have h2 := eq_of_digits (b := 18446744073709551616) (xs := xs) (ys := []) (n := i) (fun j hj => by rw [hz j hj, nth_nil])
    rw [h2]; simp [pre, ev]
  rw [e2, Nat.zero_add, h] at e1
  generalize ev 18446744073709551616 (xs.drop (i + 1)) = r at e1
  have e5 : 18446744073709551616 * r = 2 ^ z * (2 * (2 ^ (63 - z) * r)) := by
    rw [split_word z hz64, show 64 - z = (63 - z) + 1 from by omega, Nat.pow_succ]
    grind
  have e6 : ev 18446744073709551616 xs = 2 ^ (64 * i + z) * (2 * (m + 2 ^ (63 - z) * r) + 1) := by
    rw [e1, e5, two_word]
    generalize 2 ^ (63 - z) * r = q
    grind
  refine ⟨?_, _, e6⟩
  rw [e6]
  have hp : 0 < 2 ^ (64 * i + z) := Nat.pow_pos (by omega)
  have := Nat.mul_pos hp (show 0 < 2 * (m + 2 ^ (63 - z) * r) + 1 by omega)
  omega

set_option maxHeartbeats 400000 in
theorem zeros_calls (A : Option Addr) (n c : Nat) (xs : List Nat) (w : World) (hx : Rd w .u64 A xs) (hxn : xs.length = n) (lx : Low 18446744073709551616 xs) (bn : n ≤ 1099511627776) (hT : TabAt 0 Lib.deBruijn64tab w) :
    Calls Tryd.prog 7 #[.slice A n c] w (ZerosPost (ev 18446744073709551616 xs) w) := by
  have HX := Lib.hid hxn
  have HT := Lib.hid hT
  clear hxn hT
  go_enter Tryd.func7, Tryd.ntmps7
  go_wp2
  go_loop [7] (fun i => ∃ k : Nat, k ≤ n ∧ (∀ j, j < k → nth xs j = 0) ∧ i = .int .i64 k) (fun i => n - (intOf i).toNat)
  case atStart => exact ⟨0, Nat.zero_le _, fun j hj => by omega, rfl⟩
  case round =>
    obtain ⟨k, hk, hz, rfl⟩ := hrel
    have HZ := Lib.hid hz
    clear hz
    by_cases hlt : k < n
    · obtain ⟨ad, rfl, _, hcell⟩ := hx.at (k := k) (by have := HX.out; omega)
      have u1 := lx.any (by omega) k
      by_cases h0 : nth xs k = 0
      · have b0 : (((nth xs k : Nat) : Int) != 0) = false := by rw [bne_eq_false_iff_eq]; omega
        have HN : Hid (∀ j, j < k + 1 → nth xs j = 0) := fun j hj => by
          rcases Nat.lt_or_ge j k with h | h
          · exact HZ.out j h
          · obtain rfl : j = k := by omega
            exact h0
        clear h0
        go_wp2
        go_round
        case rel => exact ⟨k + 1, by omega, HN.out, by go_num⟩
        case measure => simp [intOf]; omega
      · have b0 : (((nth xs k : Nat) : Int) != 0) = true := by rw [bne_iff_ne]; omega
        go_wp2_with fail
        refine (tz_calls _ u1 h0 _ HT.out).mono ?_
        rintro e w' ⟨⟨z, m, rfl, hzm, hz64⟩, rfl⟩
        have hf := zeros_found HZ.out (by have := HX.out; omega) hzm hz64
        have HF := Lib.hid hf
        clear hf hzm
        go_wp2
        go_ret
        exact ⟨64 * k + z, ret_int (by omega), fun h => absurd h HF.out.1, fun _ => HF.out.2, rfl⟩
    · obtain rfl : k = n := by omega
      have e0 : ev 18446744073709551616 xs = 0 := by
        have h2 := eq_of_digits (b := 18446744073709551616) (xs := xs) (ys := []) (n := k) (fun j hj => by rw [HZ.out j hj, nth_nil])
        rw [pre_ge _ (by have := HX.out; omega)] at h2
        rw [h2]; simp [pre, ev]
      have E0 := Lib.hid e0
      clear e0 hlt
      go_wp2
      go_ret
      exact ⟨0, rfl, fun _ => rfl, fun h => absurd E0.out h, rfl⟩
end Go.Proofs.YtgdggpfldkmbdaaDoor
