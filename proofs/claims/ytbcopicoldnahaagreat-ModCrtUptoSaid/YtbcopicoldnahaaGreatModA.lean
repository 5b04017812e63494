/-
  Package modn: Mod, Inverse.
-/
import Derived.Test.YtbcopicoldnahaaGreatWayF
import Derived.Test.YtbcopicoldnahaaGreatRefY
/-! Contracts: modn.Mod, modn.Inverse. -/
namespace Go.Proofs.YtbcopicoldnahaaGreat
open Go.RowKit
set_option linter.unusedVariables false
set_option linter.unusedSimpArgs false

/-- Euclid's rest, by a number above 0. -/
theorem drv_emod {s t : Bool} {x y : Int} (hx : x = sg s x.natAbs) (hy : y = sg t y.natAbs) (h0 : 0 < y) : drv s false x.natAbs y.natAbs = x % y := by
  have hY : 0 < y.natAbs := by omega
  have e := dqv_eq (s := s) (t := t) (u := false) (X := x.natAbs) hY
  obtain ⟨R, hR, h⟩ := drv_lt (s := s) (u := false) (X := x.natAbs) hY
  rw [← hx, ← hy] at e
  rw [h] at e ⊢
  rw [sg_false] at e ⊢
  rw [← e, Int.add_comm, Int.add_mul_emod_self_right, Int.emod_eq_of_lt (by omega) (by omega)]
/-- A whole number that there isn't: 0, and false. -/
theorem zfin2no {w w2 : World} {B : Option Addr} {g m d : Nat} {t : Bool} (hi : Ib w2 g t B m d) (hg : w.heap.size ≤ g) (hB : Below w.heap.size w w2) :
    ZNoPost w (.returned (.tuple #[.agg #[.bool false, .slice none 0 0], .bool false])) ((w2.setCell ⟨g, 0, none⟩ (.bool false)).setCell ⟨g, 1, none⟩ (.slice none 0 0)) :=
  ⟨rfl, below_put (s := false) (A := none) (n := 0) (c := 0) hB hg⟩
theorem ZPowPost.more {z : Int} {k : Nat} {w w1 w2 : World} {e : Ending} (h : ZPowPost z k w e w1) (hb : Below w1.heap.size w1 w2) : ZPowPost z k w e w2 := by
  obtain ⟨s, A, n, c, h1, h2, h3, h4⟩ := h
  exact ⟨s, A, n, c, h1, h2.below hb, h3, zup h4 hb⟩
theorem ZNoPost.more {w w1 w2 : World} {e : Ending} (h : ZNoPost w e w1) (hb : Below w1.heap.size w1 w2) : ZNoPost w e w2 := ⟨h.1, zup h.2 hb⟩
/-- modn.Mod, by a number that isn't above 0. -/
theorem mod_no {A B : Option Addr} {n m c d : Nat} {s t : Bool} {x y : Int} {w : World} (hx : Zv w s A n c x) (hy : Zv w t B m d y) (hn : n ≤ 549755813888) (hm : m ≤ 549755813888) (h0 : y ≤ 0) :
    Calls Tryz.prog 29 #[.agg #[.bool s, .slice A n c], .agg #[.bool t, .slice B m d]] w (ZNoPost w) := by
  obtain ⟨w3, hw3, IA, IB, IR, z0⟩ := open3 w s t A B n c m d
  have HEX := hx.abs.2
  have HEY := hy.abs.2
  have HW := Lib.hid hw3.symm
  replace hx := hx.below z0
  replace hy := hy.below z0
  have hW := z0
  have H_a := Lib.hid IA
  have H_b := Lib.hid IB
  have H_r := Lib.hid IR
  clear hw3 IA IB IR z0
  obtain ⟨sy, hsy⟩ : ∃ r, y.sign = r := ⟨_, rfl⟩
  have hs0 : sy ≤ 0 := by
    rcases Int.lt_or_eq_of_le h0 with h | h
    · rw [← hsy, Int.sign_eq_neg_one_of_neg h]; omega
    · rw [← hsy, h]; decide
  have HSY := Lib.hid hsy
  clear hsy
  go_enter Tryz.func29, Tryz.ntmps29
  obtain ⟨a1, a2, a3, a4, a5⟩ := H_a.out
  obtain ⟨b1, b2, b3, b4, b5⟩ := H_b.out
  obtain ⟨r1, r2, r3, r4, r5⟩ := H_r.out
  go_wp2_with fail
  rw [HW.out]
  clear a1 a2 a3 a4 a5 b1 b2 b3 b4 b5 r1 r2 r3 r4 r5
  refine (zsign_v hy (by omega) HSY.out).mono ?_
  rintro e w21 ⟨rfl, B21⟩
  replace H_a := Lib.hid (H_a.out.below B21)
  replace H_b := Lib.hid (H_b.out.below B21)
  replace H_r := Lib.hid (H_r.out.below B21)
  replace hx := hx.below B21
  replace hy := hy.below B21
  replace hW := hW.trans (B21.mono hW.size)
  clear B21
  have P := Lib.hid (zfin2no (w := w) H_r.out (by omega) hW)
  obtain ⟨r1, r2, r3, r4, r5⟩ := H_r.out
  go_wp2_with fail
  exact bodyPost_ret (v := .tuple #[.agg #[.bool false, .slice none 0 0], .bool false]) (by simp [results, Tryz.results29, go_sem, r1, r2]) rfl P.out
/-- modn.Mod, by a number above 0. -/
theorem mod_yes {A B : Option Addr} {n m c d : Nat} {s t : Bool} {x y : Int} {w : World} (hx : Zv w s A n c x) (hy : Zv w t B m d y) (hn : n ≤ 549755813888) (hm : m ≤ 549755813888) (h0 : 0 < y) :
    Calls Tryz.prog 29 #[.agg #[.bool s, .slice A n c], .agg #[.bool t, .slice B m d]] w (ZPowPost (x % y) m w) := by
  obtain ⟨w3, hw3, IA, IB, IR, z0⟩ := open3 w s t A B n c m d
  have HEX := hx.abs.2
  have HEY := hy.abs.2
  have HW := Lib.hid hw3.symm
  replace hx := hx.below z0
  replace hy := hy.below z0
  have hW := z0
  have H_a := Lib.hid IA
  have H_b := Lib.hid IB
  have H_r := Lib.hid IR
  clear hw3 IA IB IR z0
  obtain ⟨q, hq⟩ : ∃ q, dqv s t false x.natAbs y.natAbs = q := ⟨_, rfl⟩
  obtain ⟨r, hr⟩ : ∃ r, x % y = r := ⟨_, rfl⟩
  have HQ := Lib.hid hq
  have HR := Lib.hid ((drv_emod HEX.out HEY.out h0).trans hr)
  have HRE := Lib.hid hr
  have HSY : Hid (y.sign = 1) := Lib.hid (Int.sign_eq_one_of_pos h0)
  clear hq hr
  rw [HRE.out]
  go_enter Tryz.func29, Tryz.ntmps29
  obtain ⟨a1, a2, a3, a4, a5⟩ := H_a.out
  obtain ⟨b1, b2, b3, b4, b5⟩ := H_b.out
  obtain ⟨r1, r2, r3, r4, r5⟩ := H_r.out
  go_wp2_with fail
  rw [HW.out]
  clear a1 a2 a3 a4 a5 b1 b2 b3 b4 b5 r1 r2 r3 r4 r5
  refine (zsign_v hy (by omega) HSY.out).mono ?_
  rintro e w21 ⟨rfl, B21⟩
  replace H_a := Lib.hid (H_a.out.below B21)
  replace H_b := Lib.hid (H_b.out.below B21)
  replace H_r := Lib.hid (H_r.out.below B21)
  replace hx := hx.below B21
  replace hy := hy.below B21
  replace hW := hW.trans (B21.mono hW.size)
  clear B21
  obtain ⟨a1, a2, a3, a4, a5⟩ := H_a.out
  obtain ⟨b1, b2, b3, b4, b5⟩ := H_b.out
  obtain ⟨r1, r2, r3, r4, r5⟩ := H_r.out
  go_wp2_with fail
  clear a1 a2 a3 a4 a5 b1 b2 b3 b4 b5 r1 r2 r3 r4 r5
  refine (zeuclid_v hx hy (by omega) (by omega) (by omega) HQ.out HR.out).mono ?_
  rintro e w22 ⟨s22, A22, n22, c22, t22, D22, m22, d22, rfl, Q, R, k22, l22, B22⟩
  replace H_a := Lib.hid (H_a.out.below B22)
  replace H_b := Lib.hid (H_b.out.below B22)
  replace H_r := Lib.hid (H_r.out.below B22)
  replace hx := hx.below B22
  replace hy := hy.below B22
  replace hW := hW.trans (B22.mono hW.size)
  clear B22
  have P := Lib.hid ((zfin2 (w := w) R H_r.out (k := m) (by omega) (by omega) hW).more (zba2 _ (.cells #[.bool s22, .slice A22 n22 c22] 27) (.cells #[.bool t22, .slice D22 m22 d22] 27)))
  have J := Lib.hid ((Ib.own (t := t22) (B := D22) (m := m22) (d := d22) H_r.out).below (zba2 _ (.cells #[.bool s22, .slice A22 n22 c22] 27) (.cells #[.bool t22, .slice D22 m22 d22] 27)))
  obtain ⟨a1, a2, a3, a4, a5⟩ := H_a.out
  obtain ⟨b1, b2, b3, b4, b5⟩ := H_b.out
  obtain ⟨r1, r2, r3, r4, r5⟩ := H_r.out
  go_wp2_with fail
  clear r1 r2 r3 r4 r5
  obtain ⟨r1, r2, r3, r4, r5⟩ := J.out
  unfold zput at r1 r2
  exact bodyPost_ret (v := .tuple #[.agg #[.bool t22, .slice D22 m22 d22], .bool true]) (by simp [results, Tryz.results29, go_sem, r1, r2]) rfl P.out
/-- Three whole numbers in new memory. -/
theorem opentr3 (w : World) (s t u : Bool) (A B C : Option Addr) (n c m d l e : Nat) :
    ∃ w3, w3 = (((w.alloc (.cells #[.bool s, .slice A n c] 27)).alloc (.cells #[.bool t, .slice B m d] 27)).alloc (.cells #[.bool u, .slice C l e] 27)) ∧
      Ib w3 w.heap.size s A n c ∧ Ib w3 (w.heap.size + 1) t B m d ∧ Ib w3 (w.heap.size + 1 + 1) u C l e ∧ Below w.heap.size w w3 := by
  obtain ⟨w2, hw2, IA, IB, z⟩ := open2 w s t A B n c m d
  have e1 : w2.heap.size = w.heap.size + 1 + 1 := by rw [hw2]; simp
  refine ⟨w2.alloc (.cells #[.bool u, .slice C l e] 27), by rw [hw2], IA.below (zba _ _), IB.below (zba _ _), ?_, zup z (zba _ _)⟩
  rw [← e1]
  exact Ib.new _ _ _ _ _ _
theorem gcd_rest (x y : Int) : Nat.gcd (x % y).natAbs y.natAbs = Nat.gcd x.natAbs y.natAbs := by
  have h := Int.gcd_sub_mul_left_left y x (x / y)
  rw [← Int.emod_def] at h
  exact h
/-- What Inverse answers where there is one. -/
def InvPost (x y : Int) (k : Nat) (w : World) (e : Ending) (w' : World) : Prop := ∃ X, ZPowPost X k w e w' ∧ Hid (0 ≤ X ∧ X < y ∧ X * x % y = 1 % y)
theorem inv_cong {x y X Y : Int} (h : X * (x % y) + Y * y = 1) : X * x % y = 1 % y := by
  rw [← h, Int.add_mul_emod_self_right, Int.mul_emod, Int.mul_emod X (x % y), Int.emod_emod]
/-- modn.Inverse, by a number that isn't above 0. -/
theorem inv_bad {A B : Option Addr} {n m c d : Nat} {s t : Bool} {x y : Int} {w : World} (hx : Zv w s A n c x) (hy : Zv w t B m d y) (hn : n ≤ 549755813888) (hm : m ≤ 68719476736) (h0 : y ≤ 0) :
    Calls Tryz.prog 14 #[.agg #[.bool s, .slice A n c], .agg #[.bool t, .slice B m d]] w (ZNoPost w) := by
  obtain ⟨w3, hw3, IA, IB, IR, z0⟩ := open3 w s t A B n c m d
  have HEX := hx.abs.2
  have HEY := hy.abs.2
  have HW := Lib.hid hw3.symm
  replace hx := hx.below z0
  replace hy := hy.below z0
  have hW := z0
  have H_a := Lib.hid IA
  have H_b := Lib.hid IB
  have H_r := Lib.hid IR
  clear hw3 IA IB IR z0
  go_enter Tryz.func14, Tryz.ntmps14
  obtain ⟨a1, a2, a3, a4, a5⟩ := H_a.out
  obtain ⟨b1, b2, b3, b4, b5⟩ := H_b.out
  obtain ⟨r1, r2, r3, r4, r5⟩ := H_r.out
  go_wp2_with fail
  rw [HW.out]
  clear a1 a2 a3 a4 a5 b1 b2 b3 b4 b5 r1 r2 r3 r4 r5
  refine (mod_no hx hy (by omega) (by omega) h0).mono ?_
  rintro e w21 ⟨rfl, B21⟩
  replace H_a := Lib.hid (H_a.out.below B21)
  replace H_b := Lib.hid (H_b.out.below B21)
  replace H_r := Lib.hid (H_r.out.below B21)
  replace hx := hx.below B21
  replace hy := hy.below B21
  replace hW := hW.trans (B21.mono hW.size)
  clear B21
  have P := Lib.hid ((zfin2no (w := w) H_r.out (by omega) hW).more (zba _ (.cells #[.bool false, .slice none 0 0] 27)))
  have J := Lib.hid ((Ib.own (t := false) (B := none) (m := 0) (d := 0) H_r.out).below (zba _ (.cells #[.bool false, .slice none 0 0] 27)))
  obtain ⟨a1, a2, a3, a4, a5⟩ := H_a.out
  obtain ⟨b1, b2, b3, b4, b5⟩ := H_b.out
  obtain ⟨r1, r2, r3, r4, r5⟩ := H_r.out
  go_wp2_with fail
  clear r1 r2 r3 r4 r5
  obtain ⟨r1, r2, r3, r4, r5⟩ := J.out
  unfold zput at r1 r2
  exact bodyPost_ret (v := .tuple #[.agg #[.bool false, .slice none 0 0], .bool false]) (by simp [results, Tryz.results14, go_sem, r1, r2]) rfl P.out
set_option maxHeartbeats 4000000 in
/-- modn.Inverse: there is none. -/
theorem inv_no {A B : Option Addr} {n m c d : Nat} {s t : Bool} {x y : Int} {w : World} (hx : Zv w s A n c x) (hy : Zv w t B m d y) (hn : n ≤ 549755813888) (hm : m ≤ 68719476736) (h0 : 0 < y) (h1 : Nat.gcd x.natAbs y.natAbs ≠ 1) :
    Calls Tryz.prog 14 #[.agg #[.bool s, .slice A n c], .agg #[.bool t, .slice B m d]] w (ZNoPost w) := by
  obtain ⟨w3, hw3, IA, IB, IR, z0⟩ := open3 w s t A B n c m d
  have HEX := hx.abs.2
  have HEY := hy.abs.2
  have HW := Lib.hid hw3.symm
  replace hx := hx.below z0
  replace hy := hy.below z0
  have hW := z0
  have H_a := Lib.hid IA
  have H_b := Lib.hid IB
  have H_r := Lib.hid IR
  clear hw3 IA IB IR z0
  have HG1 := Lib.hid h1
  clear h1
  go_enter Tryz.func14, Tryz.ntmps14
  obtain ⟨a1, a2, a3, a4, a5⟩ := H_a.out
  obtain ⟨b1, b2, b3, b4, b5⟩ := H_b.out
  obtain ⟨r1, r2, r3, r4, r5⟩ := H_r.out
  go_wp2_with fail
  rw [HW.out]
  clear a1 a2 a3 a4 a5 b1 b2 b3 b4 b5 r1 r2 r3 r4 r5
  refine (mod_yes hx hy (by omega) (by omega) h0).mono ?_
  rintro e w21 ⟨s21, A21, n21, c21, rfl, hr, k21, B21⟩
  replace H_a := Lib.hid (H_a.out.below B21)
  replace H_b := Lib.hid (H_b.out.below B21)
  replace H_r := Lib.hid (H_r.out.below B21)
  replace hx := hx.below B21
  replace hy := hy.below B21
  replace hW := hW.trans (B21.mono hW.size)
  clear B21
  have z22 := zba w21 (.cells #[.bool s21, .slice A21 n21 c21] 27)
  obtain ⟨w22, hw22⟩ : ∃ w', w' = w21.alloc (.cells #[.bool s21, .slice A21 n21 c21] 27) := ⟨_, rfl⟩
  have I22 : Ib w22 w21.heap.size s21 A21 n21 c21 := by rw [hw22]; exact Ib.new _ _ _ _ _ _
  rw [← hw22] at z22
  have HW22 := Lib.hid hw22.symm
  have O_a := H_a
  have lt_a_q : w.heap.size < w21.heap.size := H_a.out.2.2.2.2
  have O_b := H_b
  have lt_b_q : (w.heap.size + 1) < w21.heap.size := H_b.out.2.2.2.2
  have O_r := H_r
  have lt_r_q : (w.heap.size + 1 + 1) < w21.heap.size := H_r.out.2.2.2.2
  have lw_q : w.heap.size ≤ w21.heap.size := hW.size
  replace H_a := Lib.hid (H_a.out.below z22)
  replace H_b := Lib.hid (H_b.out.below z22)
  replace H_r := Lib.hid (H_r.out.below z22)
  replace hx := hx.below z22
  replace hy := hy.below z22
  replace hr := hr.below z22
  replace hW := hW.trans (z22.mono hW.size)
  have H_q := Lib.hid I22
  clear z22 hw22 I22
  obtain ⟨a1, a2, a3, a4, a5⟩ := O_a.out
  obtain ⟨b1, b2, b3, b4, b5⟩ := O_b.out
  obtain ⟨r1, r2, r3, r4, r5⟩ := O_r.out
  go_wp2_with fail
  rw [HW22.out]
  clear a1 a2 a3 a4 a5 b1 b2 b3 b4 b5 r1 r2 r3 r4 r5 O_a O_b O_r
  refine (zxgcd_yes hr.zv hy (by omega) (by omega) (by omega)).mono ?_
  rintro e w23 ⟨G, X, Y, ⟨s23, A23, n23, c23, t23, D23, m23, d23, bz23, E23, l23, f23, rfl, pg, px, py, kg, kx, ky, B23⟩, hG, hXY, hz⟩
  replace H_a := Lib.hid (H_a.out.below B23)
  replace H_b := Lib.hid (H_b.out.below B23)
  replace H_r := Lib.hid (H_r.out.below B23)
  replace H_q := Lib.hid (H_q.out.below B23)
  replace hx := hx.below B23
  replace hy := hy.below B23
  replace hr := hr.below B23
  replace hW := hW.trans (B23.mono hW.size)
  clear B23
  have hG2 := hG.out
  rw [gcd_rest] at hG2
  have hGn : ¬ (G = 1) := by have := HG1.out; omega
  have HG2 := Lib.hid hG2
  clear hG2 hG hz hXY
  obtain ⟨w24, hw24, I24, J24, K24, z24⟩ := opentr3 w23 s23 t23 bz23 A23 D23 E23 n23 c23 m23 d23 l23 f23
  have HW24 := Lib.hid hw24.symm
  have O_a := H_a
  have O_b := H_b
  have O_r := H_r
  have O_q := H_q
  replace H_a := Lib.hid (H_a.out.below z24)
  replace H_b := Lib.hid (H_b.out.below z24)
  replace H_r := Lib.hid (H_r.out.below z24)
  replace H_q := Lib.hid (H_q.out.below z24)
  replace hx := hx.below z24
  replace hy := hy.below z24
  replace hr := hr.below z24
  replace pg := pg.below z24
  replace px := px.below z24
  replace py := py.below z24
  replace hW := hW.trans (z24.mono hW.size)
  have H_g := Lib.hid I24
  have H_x := Lib.hid J24
  have H_y := Lib.hid K24
  clear z24 hw24 I24 J24 K24
  clear py hr
  obtain ⟨a1, a2, a3, a4, a5⟩ := O_a.out
  obtain ⟨b1, b2, b3, b4, b5⟩ := O_b.out
  obtain ⟨r1, r2, r3, r4, r5⟩ := O_r.out
  obtain ⟨q1, q2, q3, q4, q5⟩ := O_q.out
  go_wp2_with fail
  rw [HW24.out]
  clear a1 a2 a3 a4 a5 b1 b2 b3 b4 b5 r1 r2 r3 r4 r5 q1 q2 q3 q4 q5 O_a O_b O_r O_q
  obtain ⟨a1, a2, a3, a4, a5⟩ := H_a.out
  obtain ⟨b1, b2, b3, b4, b5⟩ := H_b.out
  obtain ⟨r1, r2, r3, r4, r5⟩ := H_r.out
  obtain ⟨q1, q2, q3, q4, q5⟩ := H_q.out
  obtain ⟨g1, g2, g3, g4, g5⟩ := H_g.out
  obtain ⟨x1, x2, x3, x4, x5⟩ := H_x.out
  obtain ⟨y1, y2, y3, y4, y5⟩ := H_y.out
  go_region_held3 (fun w' => w'.cell? ⟨w.heap.size, 0, none⟩ = some (.bool s) ∧ w'.cell? ⟨w.heap.size, 1, none⟩ = some (.slice A n c) ∧ w'.cell? ⟨(w.heap.size + 1), 0, none⟩ = some (.bool t) ∧ w'.cell? ⟨(w.heap.size + 1), 1, none⟩ = some (.slice B m d) ∧ w'.cell? ⟨(w.heap.size + 1 + 1), 0, none⟩ = some (.bool false) ∧ w'.cell? ⟨(w.heap.size + 1 + 1), 1, none⟩ = some (.slice none 0 0) ∧ w'.cell? ⟨w21.heap.size, 0, none⟩ = some (.bool s21) ∧ w'.cell? ⟨w21.heap.size, 1, none⟩ = some (.slice A21 n21 c21) ∧ w'.cell? ⟨w23.heap.size, 0, none⟩ = some (.bool s23) ∧ w'.cell? ⟨w23.heap.size, 1, none⟩ = some (.slice A23 n23 c23) ∧ w'.cell? ⟨(w23.heap.size + 1), 0, none⟩ = some (.bool t23) ∧ w'.cell? ⟨(w23.heap.size + 1), 1, none⟩ = some (.slice D23 m23 d23) ∧ w'.cell? ⟨(w23.heap.size + 1 + 1), 0, none⟩ = some (.bool bz23) ∧ w'.cell? ⟨(w23.heap.size + 1 + 1), 1, none⟩ = some (.slice E23 l23 f23)) (go_keep) (first
    | (go_at_call 9; (with_reducible refine (zof_v 1 (by omega) (by omega) _).mono ?_); rintro e w25 ⟨s25, A25, n25, c25, rfl, p25, k25, B25⟩; have Q25 := zup (below_drew _) B25; obtain ⟨ax25, ay25, af25, ag25, az25⟩ := H_a.out.below Q25; obtain ⟨bx25, by25, bf25, bg25, bz25⟩ := H_b.out.below Q25; obtain ⟨rx25, ry25, rf25, rg25, rz25⟩ := H_r.out.below Q25; obtain ⟨qx25, qy25, qf25, qg25, qz25⟩ := H_q.out.below Q25; obtain ⟨gx25, gy25, gf25, gg25, gz25⟩ := H_g.out.below Q25; obtain ⟨xx25, xy25, xf25, xg25, xz25⟩ := H_x.out.below Q25; obtain ⟨yx25, yy25, yf25, yg25, yz25⟩ := H_y.out.below Q25)
    | (go_at_call 12; (with_reducible refine (zsame_v (pg.below Q25).zv p25.zv (by omega) (by omega) (decide_eq_false hGn)).mono ?_); rintro e w26 ⟨rfl, B26⟩; have Q26 := zup Q25 B26; obtain ⟨ax26, ay26, af26, ag26, az26⟩ := H_a.out.below Q26; obtain ⟨bx26, by26, bf26, bg26, bz26⟩ := H_b.out.below Q26; obtain ⟨rx26, ry26, rf26, rg26, rz26⟩ := H_r.out.below Q26; obtain ⟨qx26, qy26, qf26, qg26, qz26⟩ := H_q.out.below Q26; obtain ⟨gx26, gy26, gf26, gg26, gz26⟩ := H_g.out.below Q26; obtain ⟨xx26, xy26, xf26, xg26, xz26⟩ := H_x.out.below Q26; obtain ⟨yx26, yy26, yf26, yg26, yz26⟩ := H_y.out.below Q26)
    | fail)
  clear a1 a2 a3 a4 a5 b1 b2 b3 b4 b5 r1 r2 r3 r4 r5 q1 q2 q3 q4 q5 g1 g2 g3 g4 g5 x1 x2 x3 x4 x5 y1 y2 y3 y4 y5 ax25 ay25 af25 ag25 az25 bx25 by25 bf25 bg25 bz25 rx25 ry25 rf25 rg25 rz25 qx25 qy25 qf25 qg25 qz25 gx25 gy25 gf25 gg25 gz25 xx25 xy25 xf25 xg25 xz25 yx25 yy25 yf25 yg25 yz25 ax26 ay26 af26 ag26 az26 bx26 by26 bf26 bg26 bz26 rx26 ry26 rf26 rg26 rz26 qx26 qy26 qf26 qg26 qz26 gx26 gy26 gf26 gg26 gz26 xx26 xy26 xf26 xg26 xz26 yx26 yy26 yf26 yg26 yz26
  replace H_a := Lib.hid (H_a.out.below Q26)
  replace H_b := Lib.hid (H_b.out.below Q26)
  replace H_r := Lib.hid (H_r.out.below Q26)
  replace H_q := Lib.hid (H_q.out.below Q26)
  replace H_g := Lib.hid (H_g.out.below Q26)
  replace H_x := Lib.hid (H_x.out.below Q26)
  replace H_y := Lib.hid (H_y.out.below Q26)
  replace hx := hx.below Q26
  replace hy := hy.below Q26
  replace pg := pg.below Q26
  replace px := px.below Q26
  replace hW := hW.trans (Q26.mono hW.size)
  clear B25 Q25 B26 Q26 p25
  have P := Lib.hid (zfin2no (w := w) H_r.out (by omega) hW)
  obtain ⟨a1, a2, a3, a4, a5⟩ := H_a.out
  obtain ⟨b1, b2, b3, b4, b5⟩ := H_b.out
  obtain ⟨r1, r2, r3, r4, r5⟩ := H_r.out
  obtain ⟨q1, q2, q3, q4, q5⟩ := H_q.out
  obtain ⟨g1, g2, g3, g4, g5⟩ := H_g.out
  obtain ⟨x1, x2, x3, x4, x5⟩ := H_x.out
  obtain ⟨y1, y2, y3, y4, y5⟩ := H_y.out
  go_wp2_with fail
  exact bodyPost_ret (v := .tuple #[.agg #[.bool false, .slice none 0 0], .bool false]) (by simp [results, Tryz.results14, go_sem, r1, r2]) rfl P.out
set_option maxHeartbeats 4000000 in
/-- modn.Inverse: there is one. -/
theorem inv_yes {A B : Option Addr} {n m c d : Nat} {s t : Bool} {x y : Int} {w : World} (hx : Zv w s A n c x) (hy : Zv w t B m d y) (hn : n ≤ 549755813888) (hm : m ≤ 68719476736) (h0 : 0 < y) (h1 : Nat.gcd x.natAbs y.natAbs = 1) :
    Calls Tryz.prog 14 #[.agg #[.bool s, .slice A n c], .agg #[.bool t, .slice B m d]] w (InvPost x y (m + m + 4) w) := by
  obtain ⟨w3, hw3, IA, IB, IR, z0⟩ := open3 w s t A B n c m d
  have HEX := hx.abs.2
  have HEY := hy.abs.2
  have HW := Lib.hid hw3.symm
  replace hx := hx.below z0
  replace hy := hy.below z0
  have hW := z0
  have H_a := Lib.hid IA
  have H_b := Lib.hid IB
  have H_r := Lib.hid IR
  clear hw3 IA IB IR z0
  have HG1 := Lib.hid h1
  clear h1
  go_enter Tryz.func14, Tryz.ntmps14
  obtain ⟨a1, a2, a3, a4, a5⟩ := H_a.out
  obtain ⟨b1, b2, b3, b4, b5⟩ := H_b.out
  obtain ⟨r1, r2, r3, r4, r5⟩ := H_r.out
  go_wp2_with fail
  rw [HW.out]
  clear a1 a2 a3 a4 a5 b1 b2 b3 b4 b5 r1 r2 r3 r4 r5
  refine (mod_yes hx hy (by omega) (by omega) h0).mono ?_
  rintro e w21 ⟨s21, A21, n21, c21, rfl, hr, k21, B21⟩
  replace H_a := Lib.hid (H_a.out.below B21)
  replace H_b := Lib.hid (H_b.out.below B21)
  replace H_r := Lib.hid (H_r.out.below B21)
  replace hx := hx.below B21
  replace hy := hy.below B21
  replace hW := hW.trans (B21.mono hW.size)
  clear B21
  have z22 := zba w21 (.cells #[.bool s21, .slice A21 n21 c21] 27)
  obtain ⟨w22, hw22⟩ : ∃ w', w' = w21.alloc (.cells #[.bool s21, .slice A21 n21 c21] 27) := ⟨_, rfl⟩
  have I22 : Ib w22 w21.heap.size s21 A21 n21 c21 := by rw [hw22]; exact Ib.new _ _ _ _ _ _
  rw [← hw22] at z22
  have HW22 := Lib.hid hw22.symm
  have O_a := H_a
  have lt_a_q : w.heap.size < w21.heap.size := H_a.out.2.2.2.2
  have O_b := H_b
  have lt_b_q : (w.heap.size + 1) < w21.heap.size := H_b.out.2.2.2.2
  have O_r := H_r
  have lt_r_q : (w.heap.size + 1 + 1) < w21.heap.size := H_r.out.2.2.2.2
  have lw_q : w.heap.size ≤ w21.heap.size := hW.size
  replace H_a := Lib.hid (H_a.out.below z22)
  replace H_b := Lib.hid (H_b.out.below z22)
  replace H_r := Lib.hid (H_r.out.below z22)
  replace hx := hx.below z22
  replace hy := hy.below z22
  replace hr := hr.below z22
  replace hW := hW.trans (z22.mono hW.size)
  have H_q := Lib.hid I22
  clear z22 hw22 I22
  obtain ⟨a1, a2, a3, a4, a5⟩ := O_a.out
  obtain ⟨b1, b2, b3, b4, b5⟩ := O_b.out
  obtain ⟨r1, r2, r3, r4, r5⟩ := O_r.out
  go_wp2_with fail
  rw [HW22.out]
  clear a1 a2 a3 a4 a5 b1 b2 b3 b4 b5 r1 r2 r3 r4 r5 O_a O_b O_r
  refine (zxgcd_yes hr.zv hy (by omega) (by omega) (by omega)).mono ?_
  rintro e w23 ⟨G, X, Y, ⟨s23, A23, n23, c23, t23, D23, m23, d23, bz23, E23, l23, f23, rfl, pg, px, py, kg, kx, ky, B23⟩, hG, hXY, hz⟩
  replace H_a := Lib.hid (H_a.out.below B23)
  replace H_b := Lib.hid (H_b.out.below B23)
  replace H_r := Lib.hid (H_r.out.below B23)
  replace H_q := Lib.hid (H_q.out.below B23)
  replace hx := hx.below B23
  replace hy := hy.below B23
  replace hr := hr.below B23
  replace hW := hW.trans (B23.mono hW.size)
  clear B23
  have hG2 := hG.out
  rw [gcd_rest] at hG2
  rw [HG1.out] at hG2
  replace hG2 : G = 1 := hG2
  obtain ⟨z, hzg, hX0, hXz⟩ := hz.out
  rw [gcd_rest, HG1.out, Nat.mul_one] at hzg
  have hXY2 := hXY.out
  rw [hG2] at hXY2
  have HX : Hid (0 ≤ X ∧ X < y ∧ X * x % y = 1 % y) := Lib.hid ⟨hX0, by omega, inv_cong hXY2⟩
  clear hzg hXY2 hz hXY hXz hX0
  have HG2 := Lib.hid hG2
  clear hG2 hG
  obtain ⟨w24, hw24, I24, J24, K24, z24⟩ := opentr3 w23 s23 t23 bz23 A23 D23 E23 n23 c23 m23 d23 l23 f23
  have HW24 := Lib.hid hw24.symm
  have O_a := H_a
  have O_b := H_b
  have O_r := H_r
  have O_q := H_q
  replace H_a := Lib.hid (H_a.out.below z24)
  replace H_b := Lib.hid (H_b.out.below z24)
  replace H_r := Lib.hid (H_r.out.below z24)
  replace H_q := Lib.hid (H_q.out.below z24)
  replace hx := hx.below z24
  replace hy := hy.below z24
  replace hr := hr.below z24
  replace pg := pg.below z24
  replace px := px.below z24
  replace py := py.below z24
  replace hW := hW.trans (z24.mono hW.size)
  have H_g := Lib.hid I24
  have H_x := Lib.hid J24
  have H_y := Lib.hid K24
  clear z24 hw24 I24 J24 K24
  clear py hr
  obtain ⟨a1, a2, a3, a4, a5⟩ := O_a.out
  obtain ⟨b1, b2, b3, b4, b5⟩ := O_b.out
  obtain ⟨r1, r2, r3, r4, r5⟩ := O_r.out
  obtain ⟨q1, q2, q3, q4, q5⟩ := O_q.out
  go_wp2_with fail
  rw [HW24.out]
  clear a1 a2 a3 a4 a5 b1 b2 b3 b4 b5 r1 r2 r3 r4 r5 q1 q2 q3 q4 q5 O_a O_b O_r O_q
  obtain ⟨a1, a2, a3, a4, a5⟩ := H_a.out
  obtain ⟨b1, b2, b3, b4, b5⟩ := H_b.out
  obtain ⟨r1, r2, r3, r4, r5⟩ := H_r.out
  obtain ⟨q1, q2, q3, q4, q5⟩ := H_q.out
  obtain ⟨g1, g2, g3, g4, g5⟩ := H_g.out
  obtain ⟨x1, x2, x3, x4, x5⟩ := H_x.out
  obtain ⟨y1, y2, y3, y4, y5⟩ := H_y.out
  go_region_held3 (fun w' => w'.cell? ⟨w.heap.size, 0, none⟩ = some (.bool s) ∧ w'.cell? ⟨w.heap.size, 1, none⟩ = some (.slice A n c) ∧ w'.cell? ⟨(w.heap.size + 1), 0, none⟩ = some (.bool t) ∧ w'.cell? ⟨(w.heap.size + 1), 1, none⟩ = some (.slice B m d) ∧ w'.cell? ⟨(w.heap.size + 1 + 1), 0, none⟩ = some (.bool false) ∧ w'.cell? ⟨(w.heap.size + 1 + 1), 1, none⟩ = some (.slice none 0 0) ∧ w'.cell? ⟨w21.heap.size, 0, none⟩ = some (.bool s21) ∧ w'.cell? ⟨w21.heap.size, 1, none⟩ = some (.slice A21 n21 c21) ∧ w'.cell? ⟨w23.heap.size, 0, none⟩ = some (.bool s23) ∧ w'.cell? ⟨w23.heap.size, 1, none⟩ = some (.slice A23 n23 c23) ∧ w'.cell? ⟨(w23.heap.size + 1), 0, none⟩ = some (.bool t23) ∧ w'.cell? ⟨(w23.heap.size + 1), 1, none⟩ = some (.slice D23 m23 d23) ∧ w'.cell? ⟨(w23.heap.size + 1 + 1), 0, none⟩ = some (.bool bz23) ∧ w'.cell? ⟨(w23.heap.size + 1 + 1), 1, none⟩ = some (.slice E23 l23 f23)) (go_keep) (first
    | (go_at_call 9; (with_reducible refine (zof_v 1 (by omega) (by omega) _).mono ?_); rintro e w25 ⟨s25, A25, n25, c25, rfl, p25, k25, B25⟩; have Q25 := zup (below_drew _) B25; obtain ⟨ax25, ay25, af25, ag25, az25⟩ := H_a.out.below Q25; obtain ⟨bx25, by25, bf25, bg25, bz25⟩ := H_b.out.below Q25; obtain ⟨rx25, ry25, rf25, rg25, rz25⟩ := H_r.out.below Q25; obtain ⟨qx25, qy25, qf25, qg25, qz25⟩ := H_q.out.below Q25; obtain ⟨gx25, gy25, gf25, gg25, gz25⟩ := H_g.out.below Q25; obtain ⟨xx25, xy25, xf25, xg25, xz25⟩ := H_x.out.below Q25; obtain ⟨yx25, yy25, yf25, yg25, yz25⟩ := H_y.out.below Q25)
    | (go_at_call 12; (with_reducible refine (zsame_yes (pg.below Q25).zv p25.zv (by omega) (by omega) HG2.out).mono ?_); rintro e w26 ⟨rfl, B26⟩; have Q26 := zup Q25 B26; obtain ⟨ax26, ay26, af26, ag26, az26⟩ := H_a.out.below Q26; obtain ⟨bx26, by26, bf26, bg26, bz26⟩ := H_b.out.below Q26; obtain ⟨rx26, ry26, rf26, rg26, rz26⟩ := H_r.out.below Q26; obtain ⟨qx26, qy26, qf26, qg26, qz26⟩ := H_q.out.below Q26; obtain ⟨gx26, gy26, gf26, gg26, gz26⟩ := H_g.out.below Q26; obtain ⟨xx26, xy26, xf26, xg26, xz26⟩ := H_x.out.below Q26; obtain ⟨yx26, yy26, yf26, yg26, yz26⟩ := H_y.out.below Q26)
    | fail)
  clear a1 a2 a3 a4 a5 b1 b2 b3 b4 b5 r1 r2 r3 r4 r5 q1 q2 q3 q4 q5 g1 g2 g3 g4 g5 x1 x2 x3 x4 x5 y1 y2 y3 y4 y5 ax25 ay25 af25 ag25 az25 bx25 by25 bf25 bg25 bz25 rx25 ry25 rf25 rg25 rz25 qx25 qy25 qf25 qg25 qz25 gx25 gy25 gf25 gg25 gz25 xx25 xy25 xf25 xg25 xz25 yx25 yy25 yf25 yg25 yz25 ax26 ay26 af26 ag26 az26 bx26 by26 bf26 bg26 bz26 rx26 ry26 rf26 rg26 rz26 qx26 qy26 qf26 qg26 qz26 gx26 gy26 gf26 gg26 gz26 xx26 xy26 xf26 xg26 xz26 yx26 yy26 yf26 yg26 yz26
  replace H_a := Lib.hid (H_a.out.below Q26)
  replace H_b := Lib.hid (H_b.out.below Q26)
  replace H_r := Lib.hid (H_r.out.below Q26)
  replace H_q := Lib.hid (H_q.out.below Q26)
  replace H_g := Lib.hid (H_g.out.below Q26)
  replace H_x := Lib.hid (H_x.out.below Q26)
  replace H_y := Lib.hid (H_y.out.below Q26)
  replace hx := hx.below Q26
  replace hy := hy.below Q26
  replace pg := pg.below Q26
  replace px := px.below Q26
  replace hW := hW.trans (Q26.mono hW.size)
  clear B25 Q25 B26 Q26 p25
  have P : Hid (InvPost x y (m + m + 4) w _ _) := Lib.hid ⟨X, zfin2 (w := w) px H_r.out (k := m + m + 4) (by omega) (by omega) hW, HX⟩
  obtain ⟨a1, a2, a3, a4, a5⟩ := H_a.out
  obtain ⟨b1, b2, b3, b4, b5⟩ := H_b.out
  obtain ⟨r1, r2, r3, r4, r5⟩ := H_r.out
  obtain ⟨q1, q2, q3, q4, q5⟩ := H_q.out
  obtain ⟨g1, g2, g3, g4, g5⟩ := H_g.out
  obtain ⟨x1, x2, x3, x4, x5⟩ := H_x.out
  obtain ⟨y1, y2, y3, y4, y5⟩ := H_y.out
  go_wp2_with fail
  exact bodyPost_ret (v := .tuple #[.agg #[.bool t23, .slice D23 m23 d23], .bool true]) (by simp [results, Tryz.results14, go_sem, r1, r2]) rfl P.out
end Go.Proofs.YtbcopicoldnahaaGreat
