/-
  The reference of layer 1: Cmp, Sub.
-/
import Derived.Test.YtgdggpfldkmbdaaDoorRef3
namespace Go.Proofs.YtgdggpfldkmbdaaDoor
open Go.RowKit

set_option maxHeartbeats 400000 in
theorem rcmp_calls (A B : Option Addr) (n m c d : Nat) (xs ys : List Nat) (w : World) (hx : Rd w .i64 A xs) (hy : Rd w .i64 B ys) (hxn : xs.length = n) (hyn : ys.length = m)
    (hc : n ≤ c) (hc' : c ≤ 9223372036854775807) (hd : m ≤ d) (hd' : d ≤ 9223372036854775807) (lx : Low 65536 xs) (ly : Low 65536 ys) :
    Calls Tryd.prog 14 #[.slice A n c, .slice B m d] w fun e w' => e = .returned (.int .i64 (cmpN (ev 65536 xs) (ev 65536 ys))) ∧ Sees w w' := by
  have bx : sl xs ≤ n := hxn ▸ sl_le xs
  have bY : sl ys ≤ m := hyn ▸ sl_le ys
  have HX := Lib.hid hxn
  have HY := Lib.hid hyn
  clear hxn hyn
  rcases Nat.lt_trichotomy (sl xs) (sl ys) with hlt | heq | hlt
  · have e := cmpN_lt (cmp_len (by omega) lx ly hlt)
    have E := Lib.hid e
    clear e
    have f1 : ¬ (sl xs = sl ys) := by omega
    go_enter Tryd.func14, Tryd.ntmps14
    go_wp2_with fail
    refine (rtrim_calls _ _ _ xs _ hx HX.out (by omega) (by omega)).mono ?_
    rintro e w' ⟨rfl, rfl⟩
    go_wp2_with fail
    refine (rtrim_calls _ _ _ ys _ hy HY.out (by omega) (by omega)).mono ?_
    rintro e w' ⟨rfl, rfl⟩
    go_wp2
    go_ret
    exact ⟨by rw [E.out]; rfl, Sees.refl _⟩
  · have E := Lib.hid heq
    have X := Lib.hid (show (sl ys : Nat) = sl xs from heq.symm)
    clear heq
    go_enter Tryd.func14, Tryd.ntmps14
    go_wp2_with fail
    refine (rtrim_calls _ _ _ xs _ hx HX.out (by omega) (by omega)).mono ?_
    rintro e w' ⟨rfl, rfl⟩
    go_wp2_with fail
    refine (rtrim_calls _ _ _ ys _ hy HY.out (by omega) (by omega)).mono ?_
    rintro e w' ⟨rfl, rfl⟩
    rw [X.out]
    go_wp2
    go_loopw [7] (fun i wr => ∃ k : Nat, k ≤ sl xs ∧ Sm xs ys k (sl xs) ∧ i = .int .i64 ((k : Int) - 1) ∧ Sees w wr) (fun i _ => (intOf i + 1).toNat)
    case atStart => exact ⟨sl xs, Nat.le_refl _, fun j h1 h2 => by omega, rfl, Sees.refl _⟩
    case round =>
      obtain ⟨k, hk, hs, rfl, hw⟩ := hrel
      rcases Nat.eq_zero_or_pos k with rfl | hpos
      · have e := cmpN_eq (cmp_same (b := 65536) E.out hs)
        have E2 := Lib.hid e
        clear e
        go_wp2
        go_ret
        exact ⟨by rw [E2.out]; rfl, hw⟩
      · obtain ⟨i, rfl⟩ : ∃ i, k = i + 1 := ⟨k - 1, by omega⟩
        obtain ⟨ad, rfl, _, c1⟩ := (hw.rd hx).at (k := i) (by have := HX.out; omega)
        obtain ⟨ae, rfl, _, c2⟩ := (hw.rd hy).at (k := i) (by have := HY.out; have := X.out; omega)
        rw [show (((i + 1 : Nat) : Int) - 1) = (i : Int) from by omega]
        have hi : i < sl xs := by omega
        have u1 := lx.any (by omega) i
        have u2 := ly.any (by omega) i
        rcases Nat.lt_trichotomy (nth xs i) (nth ys i) with h1 | h1 | h1
        · have e := cmpN_lt (cmp_digit (b := 65536) (by omega) lx E.out hi hs h1)
          have E2 := Lib.hid e
          clear e hs
          go_wp2
          go_quiet (fail)
          go_wp2
          go_ret
          exact ⟨by rw [E2.out]; rfl, hw.more _⟩
        · have hs' : Sm xs ys i (sl xs) := fun j h2 h3 => by
            rcases Nat.eq_or_lt_of_le h2 with rfl | h
            · exact h1
            · exact hs j h h3
          have b1 : ¬ (nth xs i < nth ys i) := by omega
          have b2 : ¬ (nth ys i < nth xs i) := by omega
          clear h1 hs
          go_wp2
          go_quiet (fail)
          obtain ⟨w1, hw1⟩ : ∃ w1, w1 = wr.drewN nq := ⟨_, rfl⟩
          have hs1 : Sees w w1 := hw1 ▸ hw.more nq
          have c3 : w1.cell? (ad.add i) = some (.int .i64 (nth xs i)) := by rw [hw1]; exact c1
          have c4 : w1.cell? (ae.add i) = some (.int .i64 (nth ys i)) := by rw [hw1]; exact c2
          rw [← hw1]
          clear hw1 c1 c2 hw
          go_wp2
          go_quiet (fail)
          go_wp2
          go_roundw
          case rel => exact ⟨i, by omega, hs', rfl, hs1.more _⟩
          case measure => simp [intOf]
        · have hs2 : Sm ys xs (i + 1) (sl ys) := fun j h2 h3 => (hs j h2 (by have := E.out; omega)).symm
          have e := cmpN_gt (cmp_digit (b := 65536) (by omega) ly X.out (by have := E.out; omega) hs2 h1)
          have E2 := Lib.hid e
          have b2 : ¬ (nth xs i < nth ys i) := by omega
          clear e hs hs2
          go_wp2
          go_quiet (fail)
          obtain ⟨w1, hw1⟩ : ∃ w1, w1 = wr.drewN nq := ⟨_, rfl⟩
          have hs1 : Sees w w1 := hw1 ▸ hw.more nq
          have c3 : w1.cell? (ad.add i) = some (.int .i64 (nth xs i)) := by rw [hw1]; exact c1
          have c4 : w1.cell? (ae.add i) = some (.int .i64 (nth ys i)) := by rw [hw1]; exact c2
          rw [← hw1]
          clear hw1 c1 c2 hw
          go_wp2
          go_quiet (fail)
          go_wp2
          go_ret
          exact ⟨by rw [E2.out]; rfl, hs1.more _⟩
  · have e := cmpN_gt (cmp_len (by omega) ly lx hlt)
    have E := Lib.hid e
    clear e
    have f1 : ¬ (sl xs = sl ys) := by omega
    have f2 : ¬ (sl xs < sl ys) := by omega
    go_enter Tryd.func14, Tryd.ntmps14
    go_wp2_with fail
    refine (rtrim_calls _ _ _ xs _ hx HX.out (by omega) (by omega)).mono ?_
    rintro e w' ⟨rfl, rfl⟩
    go_wp2_with fail
    refine (rtrim_calls _ _ _ ys _ hy HY.out (by omega) (by omega)).mono ?_
    rintro e w' ⟨rfl, rfl⟩
    go_wp2
    go_ret
    exact ⟨by rw [E.out]; rfl, Sees.refl _⟩

/-- The digit that is left, and the borrow. -/
theorem sub_digit {x y c : Nat} (hx : x < 65536) (hy : y < 65536) (hc : c ≤ 1) :
    ((y + c ≤ x ∧ 0 ≤ (x : Int) - y - c ∧ (x : Int) - y - c = ((x - y - c : Nat) : Int)) ∨ (x < y + c ∧ (x : Int) - y - c < 0 ∧ (x : Int) - y - c + 65536 = ((x + 65536 - y - c : Nat) : Int))) := by omega

end Go.Proofs.YtgdggpfldkmbdaaDoor
