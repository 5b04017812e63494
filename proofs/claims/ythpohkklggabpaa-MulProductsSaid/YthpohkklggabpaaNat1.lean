/-
  Contracts: nat.trim, nat.order, nat.Of.
-/
import Derived.Test.YthpohkklggabpaaMem
import Derived.Test.YthpohkklggabpaaRows
import Derived.WalkKit
import Derived.BigQuiet
import Derived.Deep.QuietTactic
namespace Go.Proofs.Ythpohkklggabpaa
open Go.RowKit

theorem ret_int {k : IntKind} {a b : Int} (h : a = b) : Ending.returned (.int k a) = .returned (.int k b) := by rw [h]

/-- Noughts from k on. -/
def Zs (xs : List Nat) (k : Nat) : Prop := ∀ j, k ≤ j → nth xs j = 0

set_option maxHeartbeats 400000 in
theorem trim_calls (A : Option Addr) (n c : Nat) (xs : List Nat) (w : World) (hr : Rd w .u64 A xs) (hn : xs.length = n) (hc : n ≤ c) (hm : c ≤ 9223372036854775807) :
    Calls Try.prog 31 #[.slice A n c] w fun e w' => e = .returned (.slice A (sl xs) c) ∧ w = w' := by
  subst hn
  go_enter Try.func31, Try.ntmps31
  go_wp2
  go_loop [3] (fun n => ∃ k : Nat, k ≤ xs.length ∧ Zs xs k ∧ n = .int .i64 k) (fun n => (intOf n).toNat)
  case atStart => exact ⟨xs.length, Nat.le_refl _, fun j hj => nth_ge hj, rfl⟩
  case round =>
    obtain ⟨k, hk, hz, rfl⟩ := hrel
    by_cases h0 : k = 0
    · subst h0
      have e : sl xs = 0 := sl_eq hz (.inl rfl)
      have E := Lib.hid e
      clear e
      go_wp2
      go_ret
      exact ⟨by rw [E.out]; rfl, rfl⟩
    · obtain ⟨m, rfl⟩ : ∃ m, k = m + 1 := ⟨k - 1, by omega⟩
      obtain ⟨ad, rfl, _, hcell⟩ := hr.at (k := m) (by omega)
      by_cases hx : nth xs m = 0
      · rw [hx] at hcell
        have hz' : Zs xs m := fun j hj => by
          rcases Nat.eq_or_lt_of_le hj with rfl | h
          · exact hx
          · exact hz j h
        have H := Lib.hid hx
        clear hx h0
        go_wp2
        go_round
        case rel => exact ⟨m, by omega, hz', by go_num⟩
        case measure => simp [intOf]
      · have e : sl xs = m + 1 := sl_eq hz (.inr hx)
        have E := Lib.hid e
        have hb : (((nth xs m : Nat) : Int) == 0) = false := by rw [beq_eq_false_iff_ne]; omega
        clear e h0 hx
        go_wp2
        go_ret
        exact ⟨by rw [E.out]; rfl, rfl⟩

/-- What trim's words are: the canonical ones. -/
theorem trim_list {xs : List Nat} (h : Low 18446744073709551616 xs) : xs.take (sl xs) = cn 18446744073709551616 (ev 18446744073709551616 xs) := (cn_ev _ (by omega) xs h).symm

/-- nat.order. -/
theorem order_calls (b : Bool) (w : World) :
    Calls Try.prog 42 #[.bool b] w fun e w' => e = .returned (.int .i64 (if b then -1 else 1)) ∧ w = w' := by
  cases b
  · go_enter Try.func42, Try.ntmps42
    go_wp2
    go_ret
    exact ⟨rfl, rfl⟩
  · go_enter Try.func42, Try.ntmps42
    go_wp2
    go_ret
    exact ⟨rfl, rfl⟩

/-- nat.Of: behind def, for the walk. -/
def OfPost (x : Nat) (w : World) (e : Ending) (w' : World) : Prop :=
  ∃ A c, e = .returned (.slice A (cn 18446744073709551616 x).length c) ∧ Got w w' 45 .u64 A c (cn 18446744073709551616 x)
theorem of_calls (x : Nat) (hx : x < 18446744073709551616) (w : World) :
    Calls Try.prog 23 #[.int .u64 x] w (OfPost x w) := by
  go_enter Try.func23, Try.ntmps23
  have hb : Blk (w.alloc (.cells #[.int .u64 x] 45)) w.heap.size 45 .u64 [x] := heap_alloc_new w _
  go_wp2_with (go_at_call 31; refine (trim_calls _ 1 1 [x] _ hb.rd0 rfl (Nat.le_refl _) (by omega)).mono ?_; rintro e w' ⟨rfl, rfl⟩)
  go_ret
  have hl : Low 18446744073709551616 [x] := (Low.nil _).cons hx
  have hg := got_trim (by omega) hb (Nat.le_refl _) ((Below.refl _ _).alloc (Nat.le_refl _) _) (by simp) hl
  have ee : ev 18446744073709551616 [x] = x := by simp [ev]
  have es := sl_len _ (by omega) hl
  rw [ee] at hg es
  exact ⟨_, _, by rw [← es]; rfl, hg⟩
end Go.Proofs.Ythpohkklggabpaa
