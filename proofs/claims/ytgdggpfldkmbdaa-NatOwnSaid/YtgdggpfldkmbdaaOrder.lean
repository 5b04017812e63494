/-
  For every input quincunxlaw01.NatOrder returns true and leaves what was there as it was: the walk.
-/
import Derived.Test.YtgdggpfldkmbdaaNat8
namespace Go.Proofs.Ytgdggpfldkmbdaa
open Go.RowKit

theorem cmp_as {A B : Option Addr} {n m c d x y : Nat} {r : Int} {w : World} (hx : Nv w A n c x) (hy : Nv w B m d y) (h : cmpN x y = r) :
    Calls Try.prog 14 #[.slice A n c, .slice B m d] w fun e w' => e = .returned (.int .i64 r) ∧ Below w.heap.size w w' :=
  (cmp_v hx hy).mono fun _ _ ⟨he, hw⟩ => ⟨by rw [he, h], hw.below _⟩
theorem cmpN_range (x y : Nat) : -1 ≤ cmpN x y ∧ cmpN x y ≤ 1 := by
  rcases Nat.lt_trichotomy x y with h | h | h
  · rw [cmpN_lt h]; omega
  · rw [cmpN_eq h]; omega
  · rw [cmpN_gt h]; omega
theorem cmpN_add (x y z : Nat) : cmpN (x + z) (y + z) = cmpN x y := by
  unfold cmpN
  by_cases h1 : x < y
  · rw [if_pos h1, if_pos (by omega)]
  · rw [if_neg h1, if_neg (by omega)]
    by_cases h2 : x = y
    · rw [if_pos h2, if_pos (by omega)]
    · rw [if_neg h2, if_neg (by omega)]
theorem cmpN_mul {x y z : Nat} (hz : 0 < z) : cmpN (x * z) (y * z) = cmpN x y := by
  rcases Nat.lt_trichotomy x y with h | h | h
  · rw [cmpN_lt h, cmpN_lt (Nat.mul_lt_mul_of_pos_right h hz)]
  · rw [cmpN_eq h, cmpN_eq (by rw [h])]
  · rw [cmpN_gt h, cmpN_gt (Nat.mul_lt_mul_of_pos_right h hz)]
theorem cmpN_swap (x y : Nat) : cmpN y x = - cmpN x y := by
  rcases Nat.lt_trichotomy x y with h | h | h
  · rw [cmpN_lt h, cmpN_gt h]; rfl
  · rw [cmpN_eq h, cmpN_eq h.symm]; rfl
  · rw [cmpN_gt h, cmpN_lt h]
theorem cmpN_le {x y : Nat} : cmpN x y ≤ 0 ↔ x ≤ y := by
  rcases Nat.lt_trichotomy x y with h | h | h
  · rw [cmpN_lt h]; omega
  · rw [cmpN_eq h]; omega
  · rw [cmpN_gt h]; omega

set_option maxHeartbeats 1000000 in
theorem order_few (A B C : Option Addr) (n m p c d q : Nat) (x y z : Nat) (r1 r2 r3 : Int) (w : World) (ha : Nv w A n c x) (hb : Nv w B m d y) (hc : Nv w C p q z)
    (h1 : (n : Int) ≤ 10) (h2 : (m : Int) ≤ 10) (h3 : (p : Int) ≤ 10) (E1 : Hid (cmpN x y = r1)) (E2 : Hid (cmpN y z = r2)) (E3 : Hid (cmpN x z = r3)) (E4 : Hid (cmpN (x + z) (y + z) = r1)) (E5 : Hid (cmpN y x = -r1))
    (g1 : -1 ≤ r1) (g2 : r1 ≤ 1) (hr : 0 < r1 ∨ (r1 ≤ 0 ∧ 0 < r2) ∨ (r1 ≤ 0 ∧ r2 ≤ 0 ∧ r3 ≤ 0)) :
    Calls Try.prog 7 #[.slice A n c, .slice B m d, .slice C p q] w (TruePost w) := by
  have hW := Below.refl w.heap.size w
  rcases hr with q1 | ⟨q1, q2⟩ | ⟨q1, q2, q3⟩
  all_goals
    go_enter Try.func7, Try.ntmps7
    go_wp2_with fail
    refine (awake_calls _).mono ?_
    rintro e w1 ⟨rfl, B1⟩
    replace ha := ha.below B1
    replace hb := hb.below B1
    replace hc := hc.below B1
    replace hW := hW.trans (B1.mono hW.size)
    go_wp2_with fail
    refine (few_yes _ _ _ _ _ _ _ _ _ _ _ (by omega) (by omega) (by omega)).mono ?_
    rintro e w2 ⟨rfl, rfl⟩
    go_wp2_with fail
    refine (add_v ha hb (by omega) (by omega)).mono ?_
    rintro e w3 ⟨A3, n3, c3, rfl, t1, k3, B3, -⟩
    replace ha := ha.below B3
    replace hb := hb.below B3
    replace hc := hc.below B3
    replace hW := hW.trans (B3.mono hW.size)
    go_wp2_with fail
    refine (sub_yes t1 hb (by omega) (Nat.le_add_left _ _)).mono ?_
    rintro e w4 ⟨A4, n4, c4, rfl, t2, k4, B4⟩
    replace ha := ha.below B4
    replace hb := hb.below B4
    replace hc := hc.below B4
    replace t1 := t1.below B4
    replace hW := hW.trans (B4.mono hW.size)
    go_wp2_with fail
    clear t1
    refine (cmp_as ha hb E1.out).mono ?_
    rintro e w5 ⟨rfl, B5⟩
    replace ha := ha.below B5
    replace hb := hb.below B5
    replace hc := hc.below B5
    replace t2 := t2.below B5
    replace hW := hW.trans (B5.mono hW.size)
    go_wp2_with fail
    refine (cmp_as hb hc E2.out).mono ?_
    rintro e w6 ⟨rfl, B6⟩
    replace ha := ha.below B6
    replace hb := hb.below B6
    replace hc := hc.below B6
    replace t2 := t2.below B6
    replace hW := hW.trans (B6.mono hW.size)
    go_wp2_with fail
    refine (cmp_as ha hc E3.out).mono ?_
    rintro e w7 ⟨rfl, B7⟩
    replace ha := ha.below B7
    replace hb := hb.below B7
    replace hc := hc.below B7
    replace t2 := t2.below B7
    replace hW := hW.trans (B7.mono hW.size)
    go_wp2_with fail
    refine (cmp_same_v t2 ha (Nat.add_sub_cancel _ _)).mono ?_
    rintro e w8 ⟨rfl, B8⟩
    replace ha := ha.below B8
    replace hb := hb.below B8
    replace hc := hc.below B8
    replace t2 := t2.below B8
    replace hW := hW.trans (B8.mono hW.size)
    go_wp2_with fail
    clear t2
    refine (add_v ha hc (by omega) (by omega)).mono ?_
    rintro e w9 ⟨A9, n9, c9, rfl, t3, k9, B9, -⟩
    replace ha := ha.below B9
    replace hb := hb.below B9
    replace hc := hc.below B9
    replace hW := hW.trans (B9.mono hW.size)
    go_wp2_with fail
    refine (add_v hb hc (by omega) (by omega)).mono ?_
    rintro e w10 ⟨A10, n10, c10, rfl, t4, k10, B10, -⟩
    replace ha := ha.below B10
    replace hb := hb.below B10
    replace hc := hc.below B10
    replace t3 := t3.below B10
    replace hW := hW.trans (B10.mono hW.size)
    go_wp2_with fail
    refine (cmp_as t3 t4 (E4.out)).mono ?_
    rintro e w11 ⟨rfl, B11⟩
    replace ha := ha.below B11
    replace hb := hb.below B11
    replace hc := hc.below B11
    replace t3 := t3.below B11
    replace t4 := t4.below B11
    replace hW := hW.trans (B11.mono hW.size)
    go_wp2_with fail
    clear t3 t4
    refine (cmp_as hb ha E5.out).mono ?_
    rintro e w12 ⟨rfl, B12⟩
    replace ha := ha.below B12
    replace hb := hb.below B12
    replace hc := hc.below B12
    replace hW := hW.trans (B12.mono hW.size)
    go_wp2_with fail
    refine (norm_v hc (by omega)).mono ?_
    rintro e w13 ⟨A13, n13, c13, rfl, t5, k13, B13, en⟩
    replace ha := ha.below B13
    replace hb := hb.below B13
    replace hc := hc.below B13
    replace hW := hW.trans (B13.mono hW.size)
    by_cases hz : z = 0
    · subst hz
      obtain rfl : n13 = 0 := by rw [en.out]; rfl
      clear en t5
      go_wp2
      go_ret
      exact ⟨rfl, hW⟩
    · have E6 := Lib.hid (cmpN_mul (x := x) (y := y) (z := z) (by omega))
      have hn : 0 < n13 := Nat.pos_of_ne_zero fun h => hz ((cn_nil_iff _ _ (by omega)).1 (en.out.symm.trans h))
      have bn : (((n13 : Nat) : Int) == 0) = false := by rw [beq_eq_false_iff_ne]; omega
      clear hz en
      go_wp2_with fail
      refine (mul_v ha hc (by omega) (by omega)).mono ?_
      rintro e w14 ⟨A14, n14, c14, rfl, t6, k14, B14, -⟩
      replace ha := ha.below B14
      replace hb := hb.below B14
      replace hc := hc.below B14
      replace hW := hW.trans (B14.mono hW.size)
      go_wp2_with fail
      refine (mul_v hb hc (by omega) (by omega)).mono ?_
      rintro e w15 ⟨A15, n15, c15, rfl, t7, k15, B15, -⟩
      replace ha := ha.below B15
      replace hb := hb.below B15
      replace hc := hc.below B15
      replace t6 := t6.below B15
      replace hW := hW.trans (B15.mono hW.size)
      go_wp2_with fail
      refine (cmp_as t6 t7 (E6.out.trans E1.out)).mono ?_
      rintro e w16 ⟨rfl, B16⟩
      replace ha := ha.below B16
      replace hb := hb.below B16
      replace hc := hc.below B16
      replace t6 := t6.below B16
      replace t7 := t7.below B16
      replace hW := hW.trans (B16.mono hW.size)
      go_wp2
      go_ret
      exact ⟨rfl, hW⟩

theorem order_calls' (A B C : Option Addr) (n m p c d q : Nat) (x y z : Nat) (w : World) (ha : Nv w A n c x) (hb : Nv w B m d y) (hc : Nv w C p q z) :
    Calls Try.prog 7 #[.slice A n c, .slice B m d, .slice C p q] w (TruePost w) := by
  have hW := Below.refl w.heap.size w
  by_cases h : ((n : Int) ≤ 10 ∧ (m : Int) ≤ 10 ∧ (p : Int) ≤ 10)
  · refine order_few A B C n m p c d q x y z _ _ _ w ha hb hc h.1 h.2.1 h.2.2 rfl rfl rfl (cmpN_add x y z) (cmpN_swap x y) (cmpN_range x y).1 (cmpN_range x y).2 ?_
    have := @cmpN_le x y
    have := @cmpN_le y z
    have := @cmpN_le x z
    omega
  · go_enter Try.func7, Try.ntmps7
    go_wp2_with fail
    refine (awake_calls _).mono ?_
    rintro e w1 ⟨rfl, B1⟩
    replace hW := hW.trans (B1.mono hW.size)
    go_wp2_with fail
    refine (few_no _ _ _ _ _ _ _ _ _ _ _ h).mono ?_
    rintro e w2 ⟨rfl, rfl⟩
    clear h
    go_wp2_with fail
    refine (awake_calls _).mono ?_
    rintro e w3 ⟨rfl, B3⟩
    replace hW := hW.trans (B3.mono hW.size)
    go_wp2
    go_ret
    exact ⟨rfl, hW⟩
end Go.Proofs.Ytgdggpfldkmbdaa
