/-
  Package zint: divide, Quo, Floor, Euclid.
-/
import Derived.Test.YtfpncmhaoadfdaaZintB
import Derived.Test.YtfpncmhaoadfdaaDivE
/-! Contracts: zint.divide, Quo, Floor, Euclid. -/
namespace Go.Proofs.Ytfpncmhaoadfdaa
open Go.RowKit
set_option linter.unusedVariables false
set_option linter.unusedSimpArgs false

/-- The quotient and the rest that divide makes: the rest has the sign u. -/
def dqv (s t u : Bool) (X Y : Nat) : Int := if X % Y ≠ 0 ∧ s ≠ u then sg (!(s == t)) (X / Y + 1) else sg (!(s == t)) (X / Y)
def drv (s u : Bool) (X Y : Nat) : Int := if X % Y ≠ 0 ∧ s ≠ u then sg u (Y - X % Y) else sg u (X % Y)
theorem dqv_eq {s t u : Bool} {X Y : Nat} (hY : 0 < Y) : dqv s t u X Y * sg t Y + drv s u X Y = sg s X := by
  have h1 := Nat.div_add_mod X Y
  have h2 := Nat.mod_lt X hY
  unfold dqv drv
  generalize X / Y = q at *
  generalize X % Y = r at *
  subst h1
  have e : ((Y * q + r : Nat) : Int) = (q : Int) * (Y : Int) + (r : Int) := by push_cast; rw [Int.mul_comm]
  by_cases h : r ≠ 0 ∧ s ≠ u
  · rw [if_pos h, if_pos h]
    have e2 : ((Y - r : Nat) : Int) = (Y : Int) - (r : Int) := by omega
    obtain ⟨_, h⟩ := h
    cases s <;> cases t <;> cases u <;> simp [sg, e, e2, Int.add_mul, Int.neg_mul, Int.mul_neg] at * <;> omega
  · rw [if_neg h, if_neg h]
    by_cases h0 : r = 0
    · subst h0
      cases s <;> cases t <;> cases u <;> simp [sg, e, Int.add_mul, Int.neg_mul, Int.mul_neg, Int.mul_comm] at *
    · have hsu : s = u := by
        by_cases h3 : s = u
        · exact h3
        · exact absurd ⟨h0, h3⟩ h
      subst hsu
      cases s <;> cases t <;> simp [sg, e, Int.add_mul, Int.neg_mul, Int.mul_neg] at * <;> omega
/-- The rest's size and sign. -/
theorem drv_lt {s u : Bool} {X Y : Nat} (hY : 0 < Y) : ∃ R, R < Y ∧ drv s u X Y = sg u R := by
  have h2 := Nat.mod_lt X hY
  unfold drv
  split
  · exact ⟨_, by omega, rfl⟩
  · exact ⟨_, h2, rfl⟩

/-- Two whole numbers are answered, and true. -/
def Z2Post (q r : Int) (kq kr : Nat) (w : World) (e : Ending) (w' : World) : Prop :=
  ∃ s A n c t B m d, e = .returned (.tuple #[.agg #[.bool s, .slice A n c], .agg #[.bool t, .slice B m d], .bool true]) ∧ Zc w' s A n c q ∧ Zc w' t B m d r ∧ n ≤ kq ∧ m ≤ kr ∧ Below w.heap.size w w'
theorem Ib.put' {w : World} {A B : Option Addr} {n c g g' m d : Nat} {s t : Bool} (h : Ib w g s A n c) (hg : g ≠ g') : Ib ((w.setCell ⟨g', 0, none⟩ (.bool t)).setCell ⟨g', 1, none⟩ (.slice B m d)) g s A n c := Ib.put (l := 0) (e := 0) (u := true) (C := none) h hg
/-- The end of a function whose results are two whole numbers that lie in memory, and true. -/
theorem zfin22 {w w2 : World} {A B C D : Option Addr} {n c m d g g' kq kr n1 c1 m1 d1 : Nat} {s t s1 t1 : Bool} {q r : Int} (hq : Zc w2 s A n c q) (hr : Zc w2 t B m d r) (hi : Ib w2 g s1 C n1 c1) (hj : Ib w2 g' t1 D m1 d1) (hne : g ≠ g') (hk : n ≤ kq) (hk' : m ≤ kr)
    (hg : w.heap.size ≤ g) (hg' : w.heap.size ≤ g') (hB : Below w.heap.size w w2) :
    Z2Post q r kq kr w (.returned (.tuple #[.agg #[.bool s, .slice A n c], .agg #[.bool t, .slice B m d], .bool true])) ((((w2.setCell ⟨g, 0, none⟩ (.bool s)).setCell ⟨g, 1, none⟩ (.slice A n c)).setCell ⟨g', 0, none⟩ (.bool t)).setCell ⟨g', 1, none⟩ (.slice B m d)) :=
  ⟨s, A, n, c, t, B, m, d, rfl, (hq.put hi).put (hj.put' (t := s) (B := A) (m := n) (d := c) (Ne.symm hne)), (hr.put hi).put (hj.put' (t := s) (B := A) (m := n) (d := c) (Ne.symm hne)), hk, hk', below_put (below_put hB hg) hg'⟩
/-- Two whole numbers, and two results, in new memory. -/
theorem open4 (w : World) (s t : Bool) (A B : Option Addr) (n c m d : Nat) :
    ∃ w3, w3 = (((w.alloc (.cells #[.bool s, .slice A n c] 25)).alloc (.cells #[.bool t, .slice B m d] 25)).alloc (.cells #[.bool false, .slice none 0 0] 25)).alloc (.cells #[.bool false, .slice none 0 0] 25) ∧
      Ib w3 w.heap.size s A n c ∧ Ib w3 (w.heap.size + 1) t B m d ∧ Ib w3 (w.heap.size + 1 + 1) false none 0 0 ∧ Ib w3 (w.heap.size + 1 + 1 + 1) false none 0 0 ∧ Below w.heap.size w w3 := by
  obtain ⟨w3, h, h1, h2, h3, h4⟩ := open3 w s t A B n c m d
  have e : w3.heap.size = w.heap.size + 1 + 1 + 1 := by rw [h]; simp
  refine ⟨w3.alloc (.cells #[.bool false, .slice none 0 0] 25), by rw [h], h1.below (zba _ _), h2.below (zba _ _), h3.below (zba _ _), ?_, zup h4 (zba _ _)⟩
  rw [← e]
  exact Ib.new _ _ _ _ _ _
theorem dqv_a {s t u : Bool} {X Y : Nat} (h : X % Y = 0) : dqv s t u X Y = sg (!(s == t)) (X / Y) ∧ drv s u X Y = sg u (X % Y) := by
  unfold dqv drv; rw [if_neg (by omega), if_neg (by omega)]; exact ⟨rfl, rfl⟩
theorem dqv_b {s t u : Bool} {X Y : Nat} (h : s = u) : dqv s t u X Y = sg (!(s == t)) (X / Y) ∧ drv s u X Y = sg u (X % Y) := by
  unfold dqv drv; rw [if_neg (fun k => k.2 h), if_neg (fun k => k.2 h)]; exact ⟨rfl, rfl⟩
theorem dqv_c {s t u : Bool} {X Y : Nat} (h0 : X % Y ≠ 0) (h : s ≠ u) : dqv s t u X Y = sg (!(s == t)) (X / Y + 1) ∧ drv s u X Y = sg u (Y - X % Y) := by
  unfold dqv drv; rw [if_pos ⟨h0, h⟩, if_pos ⟨h0, h⟩]; exact ⟨rfl, rfl⟩

set_option maxHeartbeats 1000000 in
theorem zdivide_v {A B : Option Addr} {n m c d : Nat} {s t u : Bool} {x y q r : Int} {w : World} (hx : Zv w s A n c x) (hy : Zv w t B m d y) (hn : n ≤ 549755813888) (hm : m ≤ 549755813888) (h0 : y ≠ 0)
    (hq : dqv s t u x.natAbs y.natAbs = q) (hr : drv s u x.natAbs y.natAbs = r) :
    Calls Try.prog 43 #[.agg #[.bool s, .slice A n c], .agg #[.bool t, .slice B m d], .bool u] w (Z2Post q r (n + 2) m w) := by
  obtain ⟨w3, hw3, IA, IB, I6, I7, z0⟩ := open4 w s t A B n c m d
  obtain ⟨hx1, ex⟩ := hx.up z0
  obtain ⟨hy1, ey⟩ := hy.up z0
  have hY : 0 < y.natAbs := by omega
  generalize x.natAbs = X at *
  generalize y.natAbs = Y at *
  obtain ⟨b, hb⟩ : ∃ b, (!(s == t)) = b := ⟨_, rfl⟩
  have HZ := Lib.hid z0
  have HW := Lib.hid hw3.symm
  have HA := Lib.hid IA
  have HB := Lib.hid IB
  have H6 := Lib.hid I6
  have H7 := Lib.hid I7
  have HY1 := Lib.hid hy1
  have hlt := Nat.mod_lt X hY
  clear hx hy ex ey z0 hw3 I6 I7 h0
  obtain ⟨a1, a2, a3, a4, a5⟩ := IA
  obtain ⟨b1, b2, b3, b4, b5⟩ := IB
  by_cases hmod : X % Y = 0
  · obtain ⟨e1, e2⟩ := dqv_a (s := s) (t := t) (u := u) hmod
    rw [hb] at e1
    have HQ := Lib.hid (e1.symm.trans hq)
    have HR := Lib.hid (e2.symm.trans hr)
    have HM := Lib.hid hmod
    clear e1 e2 hq hr hmod
    go_enter Try.func43, Try.ntmps43
    go_wp2_with fail
    rw [HW.out]
    refine (dm_v hx1 hy1 hn hm hY).mono ?_
    rintro e w4 ⟨A4, n4, c4, A5, n5, c5, rfl, p4, p5, k4, k5, B4⟩
    obtain ⟨u1, u2, _⟩ := HA.out.below B4
    obtain ⟨u3, u4, _⟩ := HB.out.below B4
    have hn5 : n5 = 0 := by have := p5.pos; rw [HM.out] at this; simp at this; omega
    subst hn5
    clear a1 a2 a3 a4 a5 b1 b2 b3 b4 b5 hx1 hy1
    go_wp2_with fail
    refine (signed_v p4).mono ?_
    rintro e w6 ⟨s6, A6, n6, c6, rfl, p6, k6, B6⟩
    rw [HQ.out] at p6
    have p5' := p5.below B6
    have Q6 := zup B4 B6
    clear u1 u2 u3 u4 p4 p5
    go_wp2_with fail
    refine (signed_v p5').mono ?_
    rintro e w7 ⟨s7, A7, n7, c7, rfl, p7, k7, B7⟩
    rw [HR.out] at p7
    have Q7 := zup Q6 B7
    have p6' := p6.below B7
    have J6 := H6.out.below Q7
    have J7 := H7.out.below Q7
    have P := Lib.hid (zfin22 p6' p7 J6 J7 (kq := n + 2) (kr := m) (by omega) (by omega) (by omega) (by omega) (by omega) (zup HZ.out Q7))
    obtain ⟨r1, r2, r3, r4, r5⟩ := J6
    obtain ⟨t1, t2, t3, t4, t5⟩ := J7
    clear p5' p6' p6 p7 B4 B6 B7 Q6 Q7 k4 k5 k6 k7
    go_wp2_with fail
    exact bodyPost_ret (v := .tuple #[.agg #[.bool s6, .slice A6 n6 c6], .agg #[.bool s7, .slice A7 n7 c7], .bool true]) (by simp [results, Try.results43, go_sem, r1, r2, t1, t2]) rfl P.out
  · by_cases hu : s = u
    · subst hu
      obtain ⟨e1, e2⟩ := dqv_b (s := s) (t := t) (u := s) (X := X) (Y := Y) rfl
      rw [hb] at e1
      have HQ := Lib.hid (e1.symm.trans hq)
      have HR := Lib.hid (e2.symm.trans hr)
      have q1 : (s == s) = true := by simp
      clear e1 e2 hq hr
      go_enter Try.func43, Try.ntmps43
      go_wp2_with fail
      rw [HW.out]
      refine (dm_v hx1 hy1 hn hm hY).mono ?_
      rintro e w4 ⟨A4, n4, c4, A5, n5, c5, rfl, p4, p5, k4, k5, B4⟩
      obtain ⟨u1, u2, _⟩ := HA.out.below B4
      obtain ⟨u3, u4, _⟩ := HB.out.below B4
      have hn5 : 0 < n5 := by have := p5.pos; rw [decide_eq_decide] at this; omega
      clear a1 a2 a3 a4 a5 b1 b2 b3 b4 b5 hx1 hy1
      go_wp2_with fail
      refine (signed_v p4).mono ?_
      rintro e w6 ⟨s6, A6, n6, c6, rfl, p6, k6, B6⟩
      rw [HQ.out] at p6
      have p5' := p5.below B6
      have Q6 := zup B4 B6
      clear u1 u2 u3 u4 p4 p5
      go_wp2_with fail
      refine (signed_v p5').mono ?_
      rintro e w7 ⟨s7, A7, n7, c7, rfl, p7, k7, B7⟩
      rw [HR.out] at p7
      have Q7 := zup Q6 B7
      have p6' := p6.below B7
      have J6 := H6.out.below Q7
      have J7 := H7.out.below Q7
      have P := Lib.hid (zfin22 p6' p7 J6 J7 (kq := n + 2) (kr := m) (by omega) (by omega) (by omega) (by omega) (by omega) (zup HZ.out Q7))
      obtain ⟨r1, r2, r3, r4, r5⟩ := J6
      obtain ⟨t1, t2, t3, t4, t5⟩ := J7
      clear p5' p6' p6 p7 B4 B6 B7 Q6 Q7 k4 k5 k6 k7
      go_wp2_with fail
      exact bodyPost_ret (v := .tuple #[.agg #[.bool s6, .slice A6 n6 c6], .agg #[.bool s7, .slice A7 n7 c7], .bool true]) (by simp [results, Try.results43, go_sem, r1, r2, t1, t2]) rfl P.out
    · obtain ⟨e1, e2⟩ := dqv_c (s := s) (t := t) (u := u) hmod hu
      rw [hb] at e1
      have HQ := Lib.hid (e1.symm.trans hq)
      have HR := Lib.hid (e2.symm.trans hr)
      have q1 : (s == u) = false := by cases s <;> cases u <;> simp at *
      clear e1 e2 hq hr hu
      go_enter Try.func43, Try.ntmps43
      go_wp2_with fail
      rw [HW.out]
      refine (dm_v hx1 hy1 hn hm hY).mono ?_
      rintro e w4 ⟨A4, n4, c4, A5, n5, c5, rfl, p4, p5, k4, k5, B4⟩
      obtain ⟨u1, u2, _⟩ := HA.out.below B4
      obtain ⟨u3, u4, _⟩ := HB.out.below B4
      have hn5 : 0 < n5 := by have := p5.pos; rw [decide_eq_decide] at this; omega
      clear a1 a2 a3 a4 a5 b1 b2 b3 b4 b5 hx1 hy1
      go_wp2_with fail
      refine (zofn_v 1 (by omega) _).mono ?_
      rintro e w8 ⟨A8, n8, c8, rfl, p8, k8, B8⟩
      have p4' := p4.below B8
      have p5' := p5.below B8
      have Q8 := zup B4 B8
      clear u1 u2 u3 u4 p4 p5
      go_wp2_with fail
      refine (addc_v p4'.nv p8.nv (by omega) (by omega)).mono ?_
      rintro e w9 ⟨A9, n9, c9, rfl, p9, k9, B9⟩
      have p5 := p5'.below B9
      have Q9 := zup Q8 B9
      obtain ⟨u3, u4, _⟩ := HB.out.below Q9
      have hy9 := HY1.out.below Q9
      clear p4' p8 p5' B8 Q8
      go_wp2_with fail
      refine (subc_yes hy9 p5.nv (by omega) (by omega)).mono ?_
      rintro e w10 ⟨A10, n10, c10, rfl, p10, k10, B10⟩
      have Q10 := zup Q9 B10
      have p9' := p9.below B10
      clear u3 u4 p5 p9 hy9
      obtain ⟨u1, u2, _⟩ := HA.out.below Q10
      obtain ⟨u3, u4, _⟩ := HB.out.below Q10
      go_wp2_with fail
      refine (signed_v p9').mono ?_
      rintro e w6 ⟨s6, A6, n6, c6, rfl, p6, k6, B6⟩
      rw [HQ.out] at p6
      have p10' := p10.below B6
      have Q6 := zup Q10 B6
      clear u1 u2 u3 u4 p9' p10
      go_wp2_with fail
      refine (signed_v p10').mono ?_
      rintro e w7 ⟨s7, A7, n7, c7, rfl, p7, k7, B7⟩
      rw [HR.out] at p7
      have Q7 := zup Q6 B7
      have p6' := p6.below B7
      have J6 := H6.out.below Q7
      have J7 := H7.out.below Q7
      have P := Lib.hid (zfin22 p6' p7 J6 J7 (kq := n + 2) (kr := m) (by omega) (by omega) (by omega) (by omega) (by omega) (zup HZ.out Q7))
      obtain ⟨r1, r2, r3, r4, r5⟩ := J6
      obtain ⟨t1, t2, t3, t4, t5⟩ := J7
      clear p10' p6' p6 p7 B4 B6 B7 B9 B10 Q9 Q10 Q6 Q7 k4 k5 k6 k7 k8 k9 k10
      go_wp2_with fail
      exact bodyPost_ret (v := .tuple #[.agg #[.bool s6, .slice A6 n6 c6], .agg #[.bool s7, .slice A7 n7 c7], .bool true]) (by simp [results, Try.results43, go_sem, r1, r2, t1, t2]) rfl P.out

/-- By 0: nothing, nothing, and false. -/
def Z2No (w : World) (e : Ending) (w' : World) : Prop := e = .returned (.tuple #[.agg #[.bool false, .slice none 0 0], .agg #[.bool false, .slice none 0 0], .bool false]) ∧ Below w.heap.size w w'
theorem zdivide_no {A B : Option Addr} {n m c d : Nat} {s t u : Bool} {x : Int} {w : World} (hx : Zv w s A n c x) (hy : Zv w t B m d 0) (hn : n ≤ 549755813888) (hm : m ≤ 549755813888) :
    Calls Try.prog 43 #[.agg #[.bool s, .slice A n c], .agg #[.bool t, .slice B m d], .bool u] w (Z2No w) := by
  obtain ⟨w3, hw3, IA, IB, I6, I7, z0⟩ := open4 w s t A B n c m d
  obtain ⟨hx1, ex⟩ := hx.up z0
  obtain ⟨hy1, ey⟩ := hy.up z0
  rw [show (0 : Int).natAbs = 0 from rfl] at hy1
  have HZ := Lib.hid z0
  have HW := Lib.hid hw3.symm
  have H6 := Lib.hid I6
  have H7 := Lib.hid I7
  clear hx hy ex ey z0 hw3 I6 I7
  obtain ⟨b, hb⟩ : ∃ b, (!(s == t)) = b := ⟨_, rfl⟩
  obtain ⟨a1, a2, a3, a4, a5⟩ := IA
  obtain ⟨b1, b2, b3, b4, b5⟩ := IB
  have HA := Lib.hid (And.intro a1 b1)
  go_enter Try.func43, Try.ntmps43
  go_wp2_with fail
  rw [HW.out]
  refine (dm_none hx1 hy1 hn hm).mono ?_
  rintro e w4 ⟨rfl, rfl⟩
  clear hx1 hy1
  go_wp2_with fail
  refine (signed_calls none 0 0 b false w3 (by simp)).mono ?_
  rintro e w6 ⟨rfl, B6⟩
  clear a1 a2 a3 a4 a5 b1 b2 b3 b4 b5
  go_wp2_with fail
  refine (signed_calls none 0 0 u false w6 (by simp)).mono ?_
  rintro e w7 ⟨rfl, B7⟩
  have Q7 := zup B6 B7
  have P := Lib.hid (below_put (below_put (zup HZ.out Q7) (g := w.heap.size + 1 + 1) (A := none) (n := 0) (c := 0) (s := false) (by omega)) (g := w.heap.size + 1 + 1 + 1) (A := none) (n := 0) (c := 0) (s := false) (by omega))
  obtain ⟨r1, r2, r3, r4, r5⟩ := H6.out.below Q7
  obtain ⟨t1, t2, t3, t4, t5⟩ := H7.out.below Q7
  clear B6 B7 Q7
  go_wp2_with fail
  exact bodyPost_ret (v := .tuple #[.agg #[.bool false, .slice none 0 0], .agg #[.bool false, .slice none 0 0], .bool false]) (by simp [results, Try.results43, go_sem, r1, r2, t1, t2]) rfl ⟨rfl, P.out⟩

/-- zint.Quo. -/
theorem zquo_v {A B : Option Addr} {n m c d : Nat} {s t : Bool} {x y q r : Int} {w : World} (hx : Zv w s A n c x) (hy : Zv w t B m d y) (hn : n ≤ 549755813888) (hm : m ≤ 549755813888) (h0 : y ≠ 0)
    (hq : dqv s t s x.natAbs y.natAbs = q) (hr : drv s s x.natAbs y.natAbs = r) :
    Calls Try.prog 15 #[.agg #[.bool s, .slice A n c], .agg #[.bool t, .slice B m d]] w (Z2Post q r (n + 2) m w) := by
  obtain ⟨w3, hw3, IA, IB, I6, I7, z0⟩ := open4 w s t A B n c m d
  have hX := hx.below z0
  have hY := hy.below z0
  have HZ := Lib.hid z0
  have HW := Lib.hid hw3.symm
  have H6 := Lib.hid I6
  have H7 := Lib.hid I7
  have HQ := Lib.hid hq
  have HR := Lib.hid hr
  clear hx hy z0 hw3 I6 I7 hq hr
  obtain ⟨a1, a2, a3, a4, a5⟩ := IA
  obtain ⟨b1, b2, b3, b4, b5⟩ := IB
  go_enter Try.func15, Try.ntmps15
  go_wp2_with fail
  rw [HW.out]
  refine (zdivide_v hX hY hn hm h0 HQ.out HR.out).mono ?_
  rintro e w4 ⟨s6, A6, n6, c6, s7, A7, n7, c7, rfl, p6, p7, k6, k7, B4⟩
  have J6 := H6.out.below B4
  have J7 := H7.out.below B4
  have P := Lib.hid (zfin22 p6 p7 J6 J7 (kq := n + 2) (kr := m) (by omega) (by omega) (by omega) (by omega) (by omega) (zup HZ.out B4))
  obtain ⟨r1, r2, r3, r4, r5⟩ := J6
  obtain ⟨t1, t2, t3, t4, t5⟩ := J7
  clear p6 p7 B4 hX hY a1 a2 a3 a4 a5 b1 b2 b3 b4 b5 k6 k7 h0
  go_wp2_with fail
  exact bodyPost_ret (v := .tuple #[.agg #[.bool s6, .slice A6 n6 c6], .agg #[.bool s7, .slice A7 n7 c7], .bool true]) (by simp [results, Try.results15, go_sem, r1, r2, t1, t2]) rfl P.out
theorem zquo_no {A B : Option Addr} {n m c d : Nat} {s t : Bool} {x : Int} {w : World} (hx : Zv w s A n c x) (hy : Zv w t B m d 0) (hn : n ≤ 549755813888) (hm : m ≤ 549755813888) :
    Calls Try.prog 15 #[.agg #[.bool s, .slice A n c], .agg #[.bool t, .slice B m d]] w (Z2No w) := by
  obtain ⟨w3, hw3, IA, IB, I6, I7, z0⟩ := open4 w s t A B n c m d
  have hX := hx.below z0
  have hY := hy.below z0
  have HZ := Lib.hid z0
  have HW := Lib.hid hw3.symm
  have H6 := Lib.hid I6
  have H7 := Lib.hid I7
  clear hx hy z0 hw3 I6 I7
  obtain ⟨a1, a2, a3, a4, a5⟩ := IA
  obtain ⟨b1, b2, b3, b4, b5⟩ := IB
  go_enter Try.func15, Try.ntmps15
  go_wp2_with fail
  rw [HW.out]
  refine (zdivide_no hX hY hn hm).mono ?_
  rintro e w4 ⟨rfl, B4⟩
  have P := Lib.hid (below_put (below_put (zup HZ.out B4) (g := w.heap.size + 1 + 1) (A := none) (n := 0) (c := 0) (s := false) (by omega)) (g := w.heap.size + 1 + 1 + 1) (A := none) (n := 0) (c := 0) (s := false) (by omega))
  obtain ⟨r1, r2, r3, r4, r5⟩ := H6.out.below B4
  obtain ⟨t1, t2, t3, t4, t5⟩ := H7.out.below B4
  clear B4 hX hY a1 a2 a3 a4 a5 b1 b2 b3 b4 b5
  go_wp2_with fail
  exact bodyPost_ret (v := .tuple #[.agg #[.bool false, .slice none 0 0], .agg #[.bool false, .slice none 0 0], .bool false]) (by simp [results, Try.results15, go_sem, r1, r2, t1, t2]) rfl ⟨rfl, P.out⟩

/-- zint.Floor. -/
theorem zfloor_v {A B : Option Addr} {n m c d : Nat} {s t : Bool} {x y q r : Int} {w : World} (hx : Zv w s A n c x) (hy : Zv w t B m d y) (hn : n ≤ 549755813888) (hm : m ≤ 549755813888) (h0 : y ≠ 0)
    (hq : dqv s t t x.natAbs y.natAbs = q) (hr : drv s t x.natAbs y.natAbs = r) :
    Calls Try.prog 51 #[.agg #[.bool s, .slice A n c], .agg #[.bool t, .slice B m d]] w (Z2Post q r (n + 2) m w) := by
  obtain ⟨w3, hw3, IA, IB, I6, I7, z0⟩ := open4 w s t A B n c m d
  have hX := hx.below z0
  have hY := hy.below z0
  have HZ := Lib.hid z0
  have HW := Lib.hid hw3.symm
  have H6 := Lib.hid I6
  have H7 := Lib.hid I7
  have HQ := Lib.hid hq
  have HR := Lib.hid hr
  clear hx hy z0 hw3 I6 I7 hq hr
  obtain ⟨a1, a2, a3, a4, a5⟩ := IA
  obtain ⟨b1, b2, b3, b4, b5⟩ := IB
  go_enter Try.func51, Try.ntmps51
  go_wp2_with fail
  rw [HW.out]
  refine (zdivide_v hX hY hn hm h0 HQ.out HR.out).mono ?_
  rintro e w4 ⟨s6, A6, n6, c6, s7, A7, n7, c7, rfl, p6, p7, k6, k7, B4⟩
  have J6 := H6.out.below B4
  have J7 := H7.out.below B4
  have P := Lib.hid (zfin22 p6 p7 J6 J7 (kq := n + 2) (kr := m) (by omega) (by omega) (by omega) (by omega) (by omega) (zup HZ.out B4))
  obtain ⟨r1, r2, r3, r4, r5⟩ := J6
  obtain ⟨t1, t2, t3, t4, t5⟩ := J7
  clear p6 p7 B4 hX hY a1 a2 a3 a4 a5 b1 b2 b3 b4 b5 k6 k7 h0
  go_wp2_with fail
  exact bodyPost_ret (v := .tuple #[.agg #[.bool s6, .slice A6 n6 c6], .agg #[.bool s7, .slice A7 n7 c7], .bool true]) (by simp [results, Try.results51, go_sem, r1, r2, t1, t2]) rfl P.out
theorem zfloor_no {A B : Option Addr} {n m c d : Nat} {s t : Bool} {x : Int} {w : World} (hx : Zv w s A n c x) (hy : Zv w t B m d 0) (hn : n ≤ 549755813888) (hm : m ≤ 549755813888) :
    Calls Try.prog 51 #[.agg #[.bool s, .slice A n c], .agg #[.bool t, .slice B m d]] w (Z2No w) := by
  obtain ⟨w3, hw3, IA, IB, I6, I7, z0⟩ := open4 w s t A B n c m d
  have hX := hx.below z0
  have hY := hy.below z0
  have HZ := Lib.hid z0
  have HW := Lib.hid hw3.symm
  have H6 := Lib.hid I6
  have H7 := Lib.hid I7
  clear hx hy z0 hw3 I6 I7
  obtain ⟨a1, a2, a3, a4, a5⟩ := IA
  obtain ⟨b1, b2, b3, b4, b5⟩ := IB
  go_enter Try.func51, Try.ntmps51
  go_wp2_with fail
  rw [HW.out]
  refine (zdivide_no hX hY hn hm).mono ?_
  rintro e w4 ⟨rfl, B4⟩
  have P := Lib.hid (below_put (below_put (zup HZ.out B4) (g := w.heap.size + 1 + 1) (A := none) (n := 0) (c := 0) (s := false) (by omega)) (g := w.heap.size + 1 + 1 + 1) (A := none) (n := 0) (c := 0) (s := false) (by omega))
  obtain ⟨r1, r2, r3, r4, r5⟩ := H6.out.below B4
  obtain ⟨t1, t2, t3, t4, t5⟩ := H7.out.below B4
  clear B4 hX hY a1 a2 a3 a4 a5 b1 b2 b3 b4 b5
  go_wp2_with fail
  exact bodyPost_ret (v := .tuple #[.agg #[.bool false, .slice none 0 0], .agg #[.bool false, .slice none 0 0], .bool false]) (by simp [results, Try.results51, go_sem, r1, r2, t1, t2]) rfl ⟨rfl, P.out⟩

end Go.Proofs.Ytfpncmhaoadfdaa
