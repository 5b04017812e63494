/-
  For every input quincunxlaw01.NatRing returns true and leaves what was there as it was: the walk.
-/
import Derived.Test.YtgdggpfldkmbdaaNat6
namespace Go.Proofs.Ytgdggpfldkmbdaa
open Go.RowKit

set_option maxHeartbeats 1000000 in
theorem ring_calls (A B C : Option Addr) (n m p c d q : Nat) (x y z : Nat) (w : World) (ha : Nv w A n c x) (hb : Nv w B m d y) (hc : Nv w C p q z)
    (b1 : n ≤ 9223372036854775807) (b2 : m ≤ 9223372036854775807) (b3 : p ≤ 9223372036854775807) :
    Calls Try.prog 6 #[.slice A n c, .slice B m d, .slice C p q] w (TruePost w) := by
  have hW := Below.refl w.heap.size w
  by_cases h : ((n : Int) ≤ 10 ∧ (m : Int) ≤ 10 ∧ (p : Int) ≤ 10)
  · obtain ⟨h1, h2, h3⟩ := h
    go_enter Try.func6, Try.ntmps6
    go_wp2_with fail
    refine (awake_calls _).mono ?_
    rintro e w1 ⟨rfl, B1⟩
    replace ha := ha.below B1
    replace hb := hb.below B1
    replace hc := hc.below B1
    replace hW := hW.trans (B1.mono hW.size)
    go_wp2_with fail
    refine (few_yes _ _ _ _ _ _ _ _ _ _ _ (by omega) (by omega) (by omega)).mono ?_
    rintro e w2 ⟨rfl, rfl⟩
    go_wp2_with fail
    refine (add_v hb hc (by omega) (by omega)).mono ?_
    rintro e w3 ⟨A3, n3, c3, rfl, t1, k3, B3, -⟩
    replace ha := ha.below B3
    replace hb := hb.below B3
    replace hc := hc.below B3
    replace hW := hW.trans (B3.mono hW.size)
    go_wp2_with fail
    refine (mul_v ha t1 (by omega) (by omega)).mono ?_
    rintro e w4 ⟨A4, n4, c4, rfl, s, k4, B4, -⟩
    replace ha := ha.below B4
    replace hb := hb.below B4
    replace hc := hc.below B4
    replace t1 := t1.below B4
    replace hW := hW.trans (B4.mono hW.size)
    go_wp2_with fail
    clear t1
    refine (mul_v ha hb (by omega) (by omega)).mono ?_
    rintro e w5 ⟨A5, n5, c5, rfl, t2, k5, B5, -⟩
    replace ha := ha.below B5
    replace hb := hb.below B5
    replace hc := hc.below B5
    replace s := s.below B5
    replace hW := hW.trans (B5.mono hW.size)
    go_wp2_with fail
    refine (mul_v ha hc (by omega) (by omega)).mono ?_
    rintro e w6 ⟨A6, n6, c6, rfl, t3, k6, B6, -⟩
    replace ha := ha.below B6
    replace hb := hb.below B6
    replace hc := hc.below B6
    replace s := s.below B6
    replace t2 := t2.below B6
    replace hW := hW.trans (B6.mono hW.size)
    go_wp2_with fail
    refine (add_v t2 t3 (by omega) (by omega)).mono ?_
    rintro e w7 ⟨A7, n7, c7, rfl, t, k7, B7, -⟩
    replace ha := ha.below B7
    replace hb := hb.below B7
    replace hc := hc.below B7
    replace s := s.below B7
    replace t2 := t2.below B7
    replace t3 := t3.below B7
    replace hW := hW.trans (B7.mono hW.size)
    go_wp2_with fail
    clear t2 t3
    refine (mul_v hb hc (by omega) (by omega)).mono ?_
    rintro e w8 ⟨A8, n8, c8, rfl, t4, k8, B8, -⟩
    replace ha := ha.below B8
    replace hb := hb.below B8
    replace hc := hc.below B8
    replace s := s.below B8
    replace t := t.below B8
    replace hW := hW.trans (B8.mono hW.size)
    go_wp2_with fail
    refine (mul_v ha t4 (by omega) (by omega)).mono ?_
    rintro e w9 ⟨A9, n9, c9, rfl, u, k9, B9, -⟩
    replace ha := ha.below B9
    replace hb := hb.below B9
    replace hc := hc.below B9
    replace s := s.below B9
    replace t := t.below B9
    replace t4 := t4.below B9
    replace hW := hW.trans (B9.mono hW.size)
    go_wp2_with fail
    clear t4
    refine (mul_v ha hb (by omega) (by omega)).mono ?_
    rintro e w10 ⟨A10, n10, c10, rfl, t5, k10, B10, -⟩
    replace ha := ha.below B10
    replace hb := hb.below B10
    replace hc := hc.below B10
    replace s := s.below B10
    replace t := t.below B10
    replace u := u.below B10
    replace hW := hW.trans (B10.mono hW.size)
    go_wp2_with fail
    refine (mul_v t5 hc (by omega) (by omega)).mono ?_
    rintro e w11 ⟨A11, n11, c11, rfl, v, k11, B11, -⟩
    replace ha := ha.below B11
    replace hb := hb.below B11
    replace hc := hc.below B11
    replace s := s.below B11
    replace t := t.below B11
    replace u := u.below B11
    replace t5 := t5.below B11
    replace hW := hW.trans (B11.mono hW.size)
    go_wp2_with fail
    clear t5
    refine (add_v hb hc (by omega) (by omega)).mono ?_
    rintro e w12 ⟨A12, n12, c12, rfl, t6, k12, B12, -⟩
    replace ha := ha.below B12
    replace hb := hb.below B12
    replace hc := hc.below B12
    replace s := s.below B12
    replace t := t.below B12
    replace u := u.below B12
    replace v := v.below B12
    replace hW := hW.trans (B12.mono hW.size)
    go_wp2_with fail
    refine (add_v ha t6 (by omega) (by omega)).mono ?_
    rintro e w13 ⟨A13, n13, c13, rfl, p, k13, B13, -⟩
    replace ha := ha.below B13
    replace hb := hb.below B13
    replace hc := hc.below B13
    replace s := s.below B13
    replace t := t.below B13
    replace u := u.below B13
    replace v := v.below B13
    replace t6 := t6.below B13
    replace hW := hW.trans (B13.mono hW.size)
    go_wp2_with fail
    clear t6
    refine (add_v ha hb (by omega) (by omega)).mono ?_
    rintro e w14 ⟨A14, n14, c14, rfl, t7, k14, B14, -⟩
    replace ha := ha.below B14
    replace hb := hb.below B14
    replace hc := hc.below B14
    replace s := s.below B14
    replace t := t.below B14
    replace u := u.below B14
    replace v := v.below B14
    replace p := p.below B14
    replace hW := hW.trans (B14.mono hW.size)
    go_wp2_with fail
    refine (add_v t7 hc (by omega) (by omega)).mono ?_
    rintro e w15 ⟨A15, n15, c15, rfl, q, k15, B15, -⟩
    replace ha := ha.below B15
    replace hb := hb.below B15
    replace hc := hc.below B15
    replace s := s.below B15
    replace t := t.below B15
    replace u := u.below B15
    replace v := v.below B15
    replace p := p.below B15
    replace t7 := t7.below B15
    replace hW := hW.trans (B15.mono hW.size)
    go_wp2_with fail
    clear t7
    refine (cmp_same_v s t (by rw [Nat.mul_add])).mono ?_
    rintro e w16 ⟨rfl, B16⟩
    replace ha := ha.below B16
    replace hb := hb.below B16
    replace hc := hc.below B16
    replace s := s.below B16
    replace t := t.below B16
    replace u := u.below B16
    replace v := v.below B16
    replace p := p.below B16
    replace q := q.below B16
    replace hW := hW.trans (B16.mono hW.size)
    go_wp2_with fail
    clear s t
    refine (cmp_same_v u v (by rw [Nat.mul_assoc])).mono ?_
    rintro e w17 ⟨rfl, B17⟩
    replace ha := ha.below B17
    replace hb := hb.below B17
    replace hc := hc.below B17
    replace u := u.below B17
    replace v := v.below B17
    replace p := p.below B17
    replace q := q.below B17
    replace hW := hW.trans (B17.mono hW.size)
    go_wp2_with fail
    clear u v
    refine (cmp_same_v p q (by rw [Nat.add_assoc])).mono ?_
    rintro e w18 ⟨rfl, B18⟩
    replace ha := ha.below B18
    replace hb := hb.below B18
    replace hc := hc.below B18
    replace p := p.below B18
    replace q := q.below B18
    replace hW := hW.trans (B18.mono hW.size)
    go_wp2_with fail
    clear p q
    refine (mul_v ha hb (by omega) (by omega)).mono ?_
    rintro e w19 ⟨A19, n19, c19, rfl, t8, k19, B19, -⟩
    replace ha := ha.below B19
    replace hb := hb.below B19
    replace hc := hc.below B19
    replace hW := hW.trans (B19.mono hW.size)
    go_wp2_with fail
    refine (mul_v hb ha (by omega) (by omega)).mono ?_
    rintro e w20 ⟨A20, n20, c20, rfl, t9, k20, B20, -⟩
    replace ha := ha.below B20
    replace hb := hb.below B20
    replace hc := hc.below B20
    replace t8 := t8.below B20
    replace hW := hW.trans (B20.mono hW.size)
    go_wp2_with fail
    refine (cmp_same_v t8 t9 (by rw [Nat.mul_comm])).mono ?_
    rintro e w21 ⟨rfl, B21⟩
    replace ha := ha.below B21
    replace hb := hb.below B21
    replace hc := hc.below B21
    replace t8 := t8.below B21
    replace t9 := t9.below B21
    replace hW := hW.trans (B21.mono hW.size)
    go_wp2_with fail
    clear t8 t9
    refine (add_v ha hb (by omega) (by omega)).mono ?_
    rintro e w22 ⟨A22, n22, c22, rfl, g1, k22, B22, -⟩
    replace ha := ha.below B22
    replace hb := hb.below B22
    replace hc := hc.below B22
    replace hW := hW.trans (B22.mono hW.size)
    go_wp2_with fail
    refine (add_v hb ha (by omega) (by omega)).mono ?_
    rintro e w23 ⟨A23, n23, c23, rfl, g2, k23, B23, -⟩
    replace ha := ha.below B23
    replace hb := hb.below B23
    replace hc := hc.below B23
    replace g1 := g1.below B23
    replace hW := hW.trans (B23.mono hW.size)
    go_wp2_with fail
    refine (cmp_same_v g1 g2 (by rw [Nat.add_comm])).mono ?_
    rintro e w24 ⟨rfl, B24⟩
    replace ha := ha.below B24
    replace hb := hb.below B24
    replace hc := hc.below B24
    replace g1 := g1.below B24
    replace g2 := g2.below B24
    replace hW := hW.trans (B24.mono hW.size)
    go_wp2_with fail
    clear g1 g2
    refine (of_v 1 (by omega) _).mono ?_
    rintro e w25 ⟨A25, n25, c25, rfl, g3, k25, B25, -⟩
    replace ha := ha.below B25
    replace hb := hb.below B25
    replace hc := hc.below B25
    replace hW := hW.trans (B25.mono hW.size)
    go_wp2_with fail
    refine (mul_v ha g3 (by omega) (by omega)).mono ?_
    rintro e w26 ⟨A26, n26, c26, rfl, g4, k26, B26, -⟩
    replace ha := ha.below B26
    replace hb := hb.below B26
    replace hc := hc.below B26
    replace g3 := g3.below B26
    replace hW := hW.trans (B26.mono hW.size)
    go_wp2_with fail
    refine (cmp_same_v g4 ha (by rw [Nat.mul_one])).mono ?_
    rintro e w27 ⟨rfl, B27⟩
    replace ha := ha.below B27
    replace hb := hb.below B27
    replace hc := hc.below B27
    replace g3 := g3.below B27
    replace g4 := g4.below B27
    replace hW := hW.trans (B27.mono hW.size)
    go_wp2_with fail
    clear g3 g4
    refine (mul_v ha (Nv.nil _) (by omega) (by omega)).mono ?_
    rintro e w28 ⟨A28, n28, c28, rfl, h28, k28, B28, e28⟩
    obtain rfl : n28 = 0 := by rw [e28.out, Nat.mul_zero]; rfl
    replace hW := hW.trans (B28.mono hW.size)
    clear e28 h28
    go_wp2
    go_ret
    exact ⟨rfl, hW⟩
  · go_enter Try.func6, Try.ntmps6
    go_wp2_with fail
    refine (awake_calls _).mono ?_
    rintro e w1 ⟨rfl, B1⟩
    replace hW := hW.trans (B1.mono hW.size)
    go_wp2_with fail
    refine (few_no _ _ _ _ _ _ _ _ _ _ _ h).mono ?_
    rintro e w2 ⟨rfl, rfl⟩
    clear h
    go_wp2_with fail
    refine (awake_calls _).mono ?_
    rintro e w3 ⟨rfl, B3⟩
    replace hW := hW.trans (B3.mono hW.size)
    go_wp2
    go_ret
    exact ⟨rfl, hW⟩
end Go.Proofs.Ytgdggpfldkmbdaa
