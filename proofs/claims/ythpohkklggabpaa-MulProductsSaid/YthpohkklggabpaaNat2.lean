/-
  Contract: nat.Cmp.
-/
import Derived.Test.YthpohkklggabpaaNat1
namespace Go.Proofs.Ythpohkklggabpaa
open Go.RowKit

/-- The digits from k to n are the same. -/
def Sm (xs ys : List Nat) (k n : Nat) : Prop := ∀ j, k ≤ j → j < n → nth xs j = nth ys j

theorem cmp_len {b : Nat} {xs ys : List Nat} (hb : 2 ≤ b) (hx : Low b xs) (hy : Low b ys) (h : sl xs < sl ys) : ev b xs < ev b ys :=
  lt_of_len b _ _ hb (by rw [← sl_len b hb hx, ← sl_len b hb hy]; exact h)
theorem pre_sl (b : Nat) (xs : List Nat) : pre b xs (sl xs) = ev b xs := ev_take_sl b xs
theorem cmp_digit {b : Nat} {xs ys : List Nat} {m : Nat} (hb : 2 ≤ b) (hx : Low b xs) (he : sl xs = sl ys) (hm : m < sl xs) (hs : Sm xs ys (m + 1) (sl xs)) (h : nth xs m < nth ys m) : ev b xs < ev b ys := by
  rw [← pre_sl b xs, ← pre_sl b ys, ← he]
  exact lt_of_digit hx (by omega) hm (fun j h1 h2 => hs j (by omega) h2) h
theorem cmp_same {b : Nat} {xs ys : List Nat} (he : sl xs = sl ys) (hs : Sm xs ys 0 (sl xs)) : ev b xs = ev b ys := by
  rw [← pre_sl b xs, ← pre_sl b ys, ← he]
  exact eq_of_digits (fun j hj => hs j (by omega) hj)

set_option maxHeartbeats 400000 in
theorem cmp_calls (A B : Option Addr) (n m c d : Nat) (xs ys : List Nat) (w : World) (hx : Rd w .u64 A xs) (hy : Rd w .u64 B ys) (hxn : xs.length = n) (hyn : ys.length = m)
    (hc : n ≤ c) (hc' : c ≤ 9223372036854775807) (hd : m ≤ d) (hd' : d ≤ 9223372036854775807) (lx : Low 18446744073709551616 xs) (ly : Low 18446744073709551616 ys) :
    Calls Try.prog 22 #[.slice A n c, .slice B m d] w fun e w' => e = .returned (.int .i64 (cmpN (ev 18446744073709551616 xs) (ev 18446744073709551616 ys))) ∧ Sees w w' := by
  have bx : sl xs ≤ n := hxn ▸ sl_le xs
  have bY : sl ys ≤ m := hyn ▸ sl_le ys
  have HX := Lib.hid hxn
  have HY := Lib.hid hyn
  clear hxn hyn
  rcases Nat.lt_trichotomy (sl xs) (sl ys) with hlt | heq | hlt
  · have e := cmpN_lt (cmp_len (by omega) lx ly hlt)
    have E := Lib.hid e
    clear e
    have f1 : ¬ (sl xs = sl ys) := by omega
    go_enter Try.func22, Try.ntmps22
    go_wp2_with fail
    refine (trim_calls _ _ _ xs _ hx HX.out (by omega) (by omega)).mono ?_
    rintro e w' ⟨rfl, rfl⟩
    go_wp2_with fail
    refine (trim_calls _ _ _ ys _ hy HY.out (by omega) (by omega)).mono ?_
    rintro e w' ⟨rfl, rfl⟩
    go_wp2_with fail
    refine (order_calls _ _).mono ?_
    rintro e w' ⟨rfl, rfl⟩
    go_wp2
    go_ret
    exact ⟨by rw [E.out]; rfl, Sees.refl _⟩
  · have E := Lib.hid heq
    have L : ys.take (sl ys) = ys.take (sl ys) := rfl
    clear L
    have X := Lib.hid (show (sl ys : Nat) = sl xs from heq.symm)
    clear heq
    go_enter Try.func22, Try.ntmps22
    go_wp2_with fail
    refine (trim_calls _ _ _ xs _ hx HX.out (by omega) (by omega)).mono ?_
    rintro e w' ⟨rfl, rfl⟩
    go_wp2_with fail
    refine (trim_calls _ _ _ ys _ hy HY.out (by omega) (by omega)).mono ?_
    rintro e w' ⟨rfl, rfl⟩
    rw [X.out]
    go_wp2
    go_loopw [5] (fun i wr => ∃ k : Nat, k ≤ sl xs ∧ Sm xs ys k (sl xs) ∧ i = .int .i64 ((k : Int) - 1) ∧ Sees w wr) (fun i _ => (intOf i + 1).toNat)
    case atStart => exact ⟨sl xs, Nat.le_refl _, fun j h1 h2 => by omega, rfl, Sees.refl _⟩
    case round =>
      obtain ⟨k, hk, hs, rfl, hw⟩ := hrel
      rcases Nat.eq_zero_or_pos k with rfl | hpos
      · have e := cmpN_eq (cmp_same (b := 18446744073709551616) E.out hs)
        have E2 := Lib.hid e
        clear e
        go_wp2
        go_ret
        exact ⟨by rw [E2.out]; rfl, hw⟩
      · obtain ⟨i, rfl⟩ : ∃ i, k = i + 1 := ⟨k - 1, by omega⟩
        obtain ⟨ad, rfl, _, c1⟩ := (hw.rd hx).at (k := i) (by have := HX.out; omega)
        obtain ⟨ae, rfl, _, c2⟩ := (hw.rd hy).at (k := i) (by have := HY.out; have := X.out; omega)
        rw [show (((i + 1 : Nat) : Int) - 1) = (i : Int) from by omega]
        have hi : i < sl xs := by omega
        rcases Nat.lt_trichotomy (nth xs i) (nth ys i) with h1 | h1 | h1
        · have e := cmpN_lt (cmp_digit (b := 18446744073709551616) (by omega) lx E.out hi hs h1)
          have E2 := Lib.hid e
          have b1 : (((nth xs i : Nat) : Int) != ((nth ys i : Nat) : Int)) = true := by rw [bne_iff_ne]; omega
          clear e hs
          go_wp2
          go_quiet (fail)
          obtain ⟨w1, hw1⟩ : ∃ w1, w1 = wr.drewN nq := ⟨_, rfl⟩
          have hs1 : Sees w w1 := hw1 ▸ hw.more nq
          have c3 : w1.cell? (ad.add i) = some (.int .u64 (nth xs i)) := by rw [hw1]; exact c1
          have c4 : w1.cell? (ae.add i) = some (.int .u64 (nth ys i)) := by rw [hw1]; exact c2
          rw [← hw1]
          clear hw1 c1 c2 hw
          go_wp2
          go_quiet ((go_at_call 42; exact quiet_same (order_calls _ _)))
          go_wp2
          go_ret
          exact ⟨by rw [E2.out]; simp, hs1.more _⟩
        · have b1 : (((nth xs i : Nat) : Int) != ((nth ys i : Nat) : Int)) = false := by rw [bne_eq_false_iff_eq]; omega
          have hs' : Sm xs ys i (sl xs) := fun j h2 h3 => by
            rcases Nat.eq_or_lt_of_le h2 with rfl | h
            · exact h1
            · exact hs j h h3
          clear h1 hs
          go_wp2
          go_quiet (fail)
          go_wp2
          go_roundw
          case rel => exact ⟨i, by omega, hs', rfl, hw.more _⟩
          case measure => simp [intOf]
        · have hs2 : Sm ys xs (i + 1) (sl ys) := fun j h2 h3 => (hs j h2 (by have := E.out; omega)).symm
          have e := cmpN_gt (cmp_digit (b := 18446744073709551616) (by omega) ly X.out (by have := E.out; omega) hs2 h1)
          have E2 := Lib.hid e
          have b1 : (((nth xs i : Nat) : Int) != ((nth ys i : Nat) : Int)) = true := by rw [bne_iff_ne]; omega
          have b2 : ¬ (nth xs i < nth ys i) := by omega
          clear e hs hs2
          go_wp2
          go_quiet (fail)
          obtain ⟨w1, hw1⟩ : ∃ w1, w1 = wr.drewN nq := ⟨_, rfl⟩
          have hs1 : Sees w w1 := hw1 ▸ hw.more nq
          have c3 : w1.cell? (ad.add i) = some (.int .u64 (nth xs i)) := by rw [hw1]; exact c1
          have c4 : w1.cell? (ae.add i) = some (.int .u64 (nth ys i)) := by rw [hw1]; exact c2
          rw [← hw1]
          clear hw1 c1 c2 hw
          go_wp2
          go_quiet ((go_at_call 42; exact quiet_same (order_calls _ _)))
          go_wp2
          go_ret
          exact ⟨by rw [E2.out]; simp, hs1.more _⟩
  · have e := cmpN_gt (cmp_len (by omega) ly lx hlt)
    have E := Lib.hid e
    clear e
    have f1 : ¬ (sl xs = sl ys) := by omega
    have f2 : ¬ (sl xs < sl ys) := by omega
    go_enter Try.func22, Try.ntmps22
    go_wp2_with fail
    refine (trim_calls _ _ _ xs _ hx HX.out (by omega) (by omega)).mono ?_
    rintro e w' ⟨rfl, rfl⟩
    go_wp2_with fail
    refine (trim_calls _ _ _ ys _ hy HY.out (by omega) (by omega)).mono ?_
    rintro e w' ⟨rfl, rfl⟩
    go_wp2_with fail
    refine (order_calls _ _).mono ?_
    rintro e w' ⟨rfl, rfl⟩
    go_wp2
    go_ret
    exact ⟨by rw [E.out]; rfl, Sees.refl _⟩
end Go.Proofs.Ythpohkklggabpaa
