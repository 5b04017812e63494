/-
  For quincunxlaw01.NatBits: contracts of nat.Word, nat.Bits, nat.Bit, nat.Zeros, and of the reference's Bits.
-/
import Derived.Test.YthpohkklggabpaaBits1
namespace Go.Proofs.Ythpohkklggabpaa
open Go.RowKit

theorem sl_one {xs : List Nat} (lx : Low 18446744073709551616 xs) : sl xs ≤ 1 ↔ ev 18446744073709551616 xs < 18446744073709551616 := by
  rw [sl_len _ (by omega) lx]
  constructor
  · intro h
    have h1 := cn_len_lt 18446744073709551616 (ev 18446744073709551616 xs) (by omega)
    have h2 := pow_big h
    rw [Nat.pow_one] at h2
    omega
  · intro h
    exact cn_len_of_lt _ _ _ (by omega) (by simpa using h)
theorem sl_split {xs : List Nat} {l : Nat} (h : sl xs = l + 1) : ev 18446744073709551616 xs = pre 18446744073709551616 xs l + 18446744073709551616 ^ l * nth xs l := by
  have := pre_sl 18446744073709551616 xs
  rw [h, pre_succ] at this
  exact this.symm

/-- What nat.Word answers. -/
def WordPost (v : Nat) (w : World) (e : Ending) (w' : World) : Prop :=
  (v < 18446744073709551616 ∧ e = .returned (.tuple #[.int .u64 (v : Int), .bool true]) ∨ 18446744073709551616 ≤ v ∧ e = .returned (.tuple #[.int .u64 0, .bool false])) ∧ w = w'
set_option maxHeartbeats 400000 in
theorem bits_calls (A : Option Addr) (n c : Nat) (xs : List Nat) (w : World) (hx : Rd w .u64 A xs) (hxn : xs.length = n) (hc : n ≤ c) (hc' : c ≤ 9223372036854775807) (lx : Low 18446744073709551616 xs) (bn : n ≤ 1099511627776) :
    Calls Try.prog 35 #[.slice A n c] w fun e w' => e = .returned (.int .i64 (bl (ev 18446744073709551616 xs))) ∧ w = w' := by
  have HX := Lib.hid hxn
  have sx : sl xs ≤ n := hxn ▸ sl_le xs
  rcases Nat.eq_zero_or_pos (sl xs) with h0 | hpos
  · have e0 := sl_zero_ev (b := 18446744073709551616) h0
    have E0 := Lib.hid e0
    have H0 := Lib.hid h0
    clear hxn e0 h0
    go_enter Try.func35, Try.ntmps35
    go_wp2_with fail
    refine (trim_calls _ _ _ xs _ hx HX.out (by omega) (by omega)).mono ?_
    rintro e w' ⟨rfl, rfl⟩
    rw [H0.out]
    go_wp2
    go_ret
    exact ⟨by rw [E0.out]; rfl, rfl⟩
  · obtain ⟨l, hl⟩ : ∃ l, sl xs = l + 1 := ⟨sl xs - 1, by omega⟩
    have ht := sl_top hpos
    rw [hl, Nat.add_sub_cancel] at ht
    have hb : bl (ev 18446744073709551616 xs) = 64 * l + bl (nth xs l) := by rw [sl_split hl]; exact bl_top (pre_lt lx (by omega) l) (by omega)
    have hln : l < n := by omega
    obtain ⟨ad, rfl, _, hcell⟩ := hx.at (k := l) (by omega)
    have u1 := lx.any (by omega) l
    have b0 : (((l + 1 : Nat) : Int) == 0) = false := by rw [beq_eq_false_iff_ne]; omega
    have b64 : bl (nth xs l) ≤ 64 := bl_le.2 (by simpa using u1)
    have HB := Lib.hid hb
    have HL := Lib.hid hl
    clear hxn hl ht hb hpos sx
    go_enter Try.func35, Try.ntmps35
    go_wp2_with fail
    refine (trim_calls _ _ _ xs _ hx HX.out (by omega) (by omega)).mono ?_
    rintro e w' ⟨rfl, rfl⟩
    rw [HL.out]
    go_wp2_with fail
    refine (len64_calls _ u1 _).mono ?_
    rintro e w' ⟨rfl, rfl⟩
    go_wp2
    go_ret
    exact ⟨by rw [HB.out]; exact ret_int (by omega), rfl⟩
end Go.Proofs.Ythpohkklggabpaa
