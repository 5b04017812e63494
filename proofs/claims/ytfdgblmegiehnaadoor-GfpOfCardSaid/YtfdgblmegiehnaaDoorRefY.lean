/-
  The reference of layer 5: Quo, Floor, Euclid.
-/
import Derived.Test.YtfdgblmegiehnaaDoorRefZ
import Derived.Test.YtfdgblmegiehnaaDoorRefC
import Derived.Test.YtfdgblmegiehnaaDoorZintD
/-! Contracts: quincunxref05.Quo, Floor, Euclid. -/
namespace Go.Proofs.YtfdgblmegiehnaaDoor
open Go.RowKit
set_option linter.unusedVariables false
set_option linter.unusedSimpArgs false

/-- Two whole numbers of the reference are answered. -/
def R2Post (q r : Int) (kq kr : Nat) (w : World) (e : Ending) (w' : World) : Prop :=
  ∃ s A n c t B m d, e = .returned (.tuple #[.agg #[.bool s, .slice A n c], .agg #[.bool t, .slice B m d]]) ∧ Rz w' s A n c q ∧ Rz w' t B m d r ∧ n ≤ kq ∧ m ≤ kr ∧ Below w.heap.size w w'
theorem rfin22 {w w2 : World} {A B C D : Option Addr} {n c m d g g' kq kr n1 c1 m1 d1 : Nat} {s t s1 t1 : Bool} {q r : Int} (hq : Rz w2 s A n c q) (hr : Rz w2 t B m d r) (hi : Ib w2 g s1 C n1 c1) (hj : Ib w2 g' t1 D m1 d1) (hne : g ≠ g') (hk : n ≤ kq) (hk' : m ≤ kr)
    (hg : w.heap.size ≤ g) (hg' : w.heap.size ≤ g') (hB : Below w.heap.size w w2) :
    R2Post q r kq kr w (.returned (.tuple #[.agg #[.bool s, .slice A n c], .agg #[.bool t, .slice B m d]])) ((((w2.setCell ⟨g, 0, none⟩ (.bool s)).setCell ⟨g, 1, none⟩ (.slice A n c)).setCell ⟨g', 0, none⟩ (.bool t)).setCell ⟨g', 1, none⟩ (.slice B m d)) := by
  have j2 : Ib (zput w2 g s A n c) g' t1 D m1 d1 := hj.put (l := 0) (e := 0) (u := true) (C := none) (Ne.symm hne)
  exact ⟨s, A, n, c, t, B, m, d, rfl, (hq.put hi).put j2, (hr.put hi).put j2, hk, hk', below_put (below_put hB hg) hg'⟩
theorem R2Post.drew {q r : Int} {kq kr : Nat} {w w' : World} {e : Ending} (h : R2Post q r kq kr w e w') : R2Post q r kq kr w e w'.drew := by
  obtain ⟨s1, A1, n1, c1, t1, B1, m1, d1, he, p1, p2, k1, k2, hb⟩ := h
  exact ⟨s1, A1, n1, c1, t1, B1, m1, d1, he, p1.below (below_drew _), p2.below (below_drew _), k1, k2, zup hb (below_drew _)⟩
/-- Two structs, and two results, in new memory. -/
theorem opent4 (w : World) (s t : Bool) (A B : Option Addr) (n c m d : Nat) (T : TypeId) :
    ∃ w3, w3 = (((w.alloc (.cells #[.bool s, .slice A n c] T)).alloc (.cells #[.bool t, .slice B m d] T)).alloc (.cells #[.bool false, .slice none 0 0] T)).alloc (.cells #[.bool false, .slice none 0 0] T) ∧
      Ib w3 w.heap.size s A n c ∧ Ib w3 (w.heap.size + 1) t B m d ∧ Ib w3 (w.heap.size + 1 + 1) false none 0 0 ∧ Ib w3 (w.heap.size + 1 + 1 + 1) false none 0 0 ∧ Below w.heap.size w w3 := by
  obtain ⟨w3, h, h1, h2, h3, h4⟩ := opent3 w s t A B n c m d T
  have e : w3.heap.size = w.heap.size + 1 + 1 + 1 := by rw [h]; simp
  refine ⟨w3.alloc (.cells #[.bool false, .slice none 0 0] T), by rw [h], h1.below (zba _ _), h2.below (zba _ _), h3.below (zba _ _), ?_, zup h4 (zba _ _)⟩
  rw [← e]
  exact Ib.new _ _ _ _ _ _

set_option maxRecDepth 100000 in
set_option maxHeartbeats 2000000 in
/-- quincunxref05.Floor. -/
theorem rfloor_same {A B : Option Addr} {n m c d : Nat} {s t : Bool} {x y q : Int} {w : World} (hx : Rz w s A n c x) (hy : Rz w t B m d y) (hn : n ≤ 1000000) (hm : m ≤ 1000000) (h0 : y ≠ 0) (hst : (s == t) = true) (hq : sg false (x.natAbs / y.natAbs) = q) :
    Calls Tryd.prog 32 #[.agg #[.bool s, .slice A n c], .agg #[.bool t, .slice B m d]] w (R2Post q (x - q * y) (n + 1) (max n (n + 1 + m) + 1) w) := by
  obtain ⟨w3, hw3, IA, IB, IP, IQ, z0⟩ := opent4 w s t A B n c m d 60
  have HW := Lib.hid hw3.symm
  replace hx := hx.below z0
  replace hy := hy.below z0
  have hW := z0
  have H_a := Lib.hid IA
  have H_b := Lib.hid IB
  have H_p := Lib.hid IP
  have H_q := Lib.hid IQ
  have hY0 : 0 < y.natAbs := by omega
  clear hw3 IA IB IP IQ z0
  have HQ := Lib.hid hq
  clear hq h0
  go_enter Tryd.func32, Tryd.ntmps32
  obtain ⟨a1, a2, a3, a4, a5⟩ := H_a.out
  obtain ⟨b1, b2, b3, b4, b5⟩ := H_b.out
  obtain ⟨p1, p2, p3, p4, p5⟩ := H_p.out
  obtain ⟨q1, q2, q3, q4, q5⟩ := H_q.out
  go_wp2_with fail
  rw [HW.out]
  clear a1 a2 a3 a4 a5 b1 b2 b3 b4 b5 p1 p2 p3 p4 p5 q1 q2 q3 q4 q5
  refine (rdm_v hx.1 hy.1 (by omega) (by omega) hY0).mono ?_
  rintro e w21 ⟨A21, n21, c21, D21, m21, d21, rfl, dq, dr, k21, l21, B21⟩
  replace H_a := Lib.hid (H_a.out.below B21)
  replace H_b := Lib.hid (H_b.out.below B21)
  replace H_p := Lib.hid (H_p.out.below B21)
  replace H_q := Lib.hid (H_q.out.below B21)
  replace hx := hx.below B21
  replace hy := hy.below B21
  replace hW := hW.trans (B21.mono hW.size)
  clear B21
  obtain ⟨a1, a2, a3, a4, a5⟩ := H_a.out
  obtain ⟨b1, b2, b3, b4, b5⟩ := H_b.out
  obtain ⟨p1, p2, p3, p4, p5⟩ := H_p.out
  obtain ⟨q1, q2, q3, q4, q5⟩ := H_q.out
  go_wp2_with fail
  clear a1 a2 a3 a4 a5 b1 b2 b3 b4 b5 p1 p2 p3 p4 p5 q1 q2 q3 q4 q5
  refine (rnorm_v dq).mono ?_
  rintro e w22 ⟨s22, A22, n22, c22, rfl, pe, k22, B22⟩
  replace H_a := Lib.hid (H_a.out.below B22)
  replace H_b := Lib.hid (H_b.out.below B22)
  replace H_p := Lib.hid (H_p.out.below B22)
  replace H_q := Lib.hid (H_q.out.below B22)
  replace hx := hx.below B22
  replace hy := hy.below B22
  replace dq := dq.below B22
  replace hW := hW.trans (B22.mono hW.size)
  clear B22
  have hs : s22 = false := by rw [pe.2.out, sg_false]; exact decide_eq_false (Int.not_lt.mpr (Int.natCast_nonneg _))
  subst hs
  rw [HQ.out] at pe
  clear dq
  have z23 := zba w22 (.cells #[.bool false, .slice A22 n22 c22] 60)
  obtain ⟨w23, hw23⟩ : ∃ w', w' = w22.alloc (.cells #[.bool false, .slice A22 n22 c22] 60) := ⟨_, rfl⟩
  have I23 : Ib w23 w22.heap.size false A22 n22 c22 := by rw [hw23]; exact Ib.new _ _ _ _ _ _
  rw [← hw23] at z23
  have HW23 := Lib.hid hw23.symm
  have O_a := H_a
  have lt_a_e : w.heap.size < w22.heap.size := H_a.out.2.2.2.2
  have O_b := H_b
  have lt_b_e : (w.heap.size + 1) < w22.heap.size := H_b.out.2.2.2.2
  have O_p := H_p
  have lt_p_e : (w.heap.size + 1 + 1) < w22.heap.size := H_p.out.2.2.2.2
  have O_q := H_q
  have lt_q_e : (w.heap.size + 1 + 1 + 1) < w22.heap.size := H_q.out.2.2.2.2
  have lw_e : w.heap.size ≤ w22.heap.size := hW.size
  replace H_a := Lib.hid (H_a.out.below z23)
  replace H_b := Lib.hid (H_b.out.below z23)
  replace H_p := Lib.hid (H_p.out.below z23)
  replace H_q := Lib.hid (H_q.out.below z23)
  replace hx := hx.below z23
  replace hy := hy.below z23
  replace pe := pe.below z23
  replace hW := hW.trans (z23.mono hW.size)
  have H_e := Lib.hid I23
  clear z23 hw23 I23
  have neap : ¬ (w.heap.size = (w.heap.size + 1 + 1)) := by omega
  have nepa : ¬ ((w.heap.size + 1 + 1) = w.heap.size) := by omega
  have neaq : ¬ (w.heap.size = (w.heap.size + 1 + 1 + 1)) := by omega
  have neqa : ¬ ((w.heap.size + 1 + 1 + 1) = w.heap.size) := by omega
  have nebp : ¬ ((w.heap.size + 1) = (w.heap.size + 1 + 1)) := by omega
  have nepb : ¬ ((w.heap.size + 1 + 1) = (w.heap.size + 1)) := by omega
  have nebq : ¬ ((w.heap.size + 1) = (w.heap.size + 1 + 1 + 1)) := by omega
  have neqb : ¬ ((w.heap.size + 1 + 1 + 1) = (w.heap.size + 1)) := by omega
  have neep : ¬ (w22.heap.size = (w.heap.size + 1 + 1)) := by omega
  have nepe : ¬ ((w.heap.size + 1 + 1) = w22.heap.size) := by omega
  have neeq : ¬ (w22.heap.size = (w.heap.size + 1 + 1 + 1)) := by omega
  have neqe : ¬ ((w.heap.size + 1 + 1 + 1) = w22.heap.size) := by omega
  obtain ⟨a1, a2, a3, a4, a5⟩ := O_a.out
  obtain ⟨b1, b2, b3, b4, b5⟩ := O_b.out
  obtain ⟨p1, p2, p3, p4, p5⟩ := O_p.out
  obtain ⟨q1, q2, q3, q4, q5⟩ := O_q.out
  go_wp2_with fail
  rw [HW23.out]
  clear a1 a2 a3 a4 a5 b1 b2 b3 b4 b5 p1 p2 p3 p4 p5 q1 q2 q3 q4 q5 O_a O_b O_p O_q
  obtain ⟨a1, a2, a3, a4, a5⟩ := H_a.out
  obtain ⟨b1, b2, b3, b4, b5⟩ := H_b.out
  obtain ⟨p1, p2, p3, p4, p5⟩ := H_p.out
  obtain ⟨q1, q2, q3, q4, q5⟩ := H_q.out
  obtain ⟨e1, e2, e3, e4, e5⟩ := H_e.out
  go_region_held3 (fun w' => w'.cell? ⟨w.heap.size, 0, none⟩ = some (.bool s) ∧ w'.cell? ⟨w.heap.size, 1, none⟩ = some (.slice A n c) ∧ w'.cell? ⟨(w.heap.size + 1), 0, none⟩ = some (.bool t) ∧ w'.cell? ⟨(w.heap.size + 1), 1, none⟩ = some (.slice B m d) ∧ w'.cell? ⟨w22.heap.size, 0, none⟩ = some (.bool false) ∧ w'.cell? ⟨w22.heap.size, 1, none⟩ = some (.slice A22 n22 c22)) (go_keep) (first
    | (go_at_call 47; (with_reducible refine (rmul2_v (pe.below (below_drew _)) (hy.below (below_drew _)) (by omega) (by omega)).mono ?_); rintro e w24 ⟨s24, A24, n24, c24, rfl, p24, k24, B24⟩; have Q24 := zup (below_drew _) B24; obtain ⟨ax24, ay24, af24, ag24, az24⟩ := H_a.out.below Q24; obtain ⟨bx24, by24, bf24, bg24, bz24⟩ := H_b.out.below Q24; obtain ⟨px24, py24, pf24, pg24, pz24⟩ := H_p.out.below Q24; obtain ⟨qx24, qy24, qf24, qg24, qz24⟩ := H_q.out.below Q24; obtain ⟨ex24, ey24, ef24, eg24, ez24⟩ := H_e.out.below Q24)
    | (go_at_call 33; (with_reducible refine (rsub2_v (hx.below Q24) p24 (by omega) (by omega)).mono ?_); rintro e w25 ⟨s25, A25, n25, c25, rfl, p25, k25, B25⟩; have Q25 := zup Q24 B25; obtain ⟨ax25, ay25, af25, ag25, az25⟩ := H_a.out.below Q25; obtain ⟨bx25, by25, bf25, bg25, bz25⟩ := H_b.out.below Q25; obtain ⟨px25, py25, pf25, pg25, pz25⟩ := H_p.out.below Q25; obtain ⟨qx25, qy25, qf25, qg25, qz25⟩ := H_q.out.below Q25; obtain ⟨ex25, ey25, ef25, eg25, ez25⟩ := H_e.out.below Q25)
    | fail)
  clear a1 a2 a3 a4 a5 b1 b2 b3 b4 b5 p1 p2 p3 p4 p5 q1 q2 q3 q4 q5 e1 e2 e3 e4 e5 ax24 ay24 af24 ag24 az24 bx24 by24 bf24 bg24 bz24 px24 py24 pf24 pg24 pz24 qx24 qy24 qf24 qg24 qz24 ex24 ey24 ef24 eg24 ez24 ax25 ay25 af25 ag25 az25 bx25 by25 bf25 bg25 bz25 px25 py25 pf25 pg25 pz25 qx25 qy25 qf25 qg25 qz25 ex25 ey25 ef25 eg25 ez25
  replace H_a := Lib.hid (H_a.out.below Q25)
  replace H_b := Lib.hid (H_b.out.below Q25)
  replace H_p := Lib.hid (H_p.out.below Q25)
  replace H_q := Lib.hid (H_q.out.below Q25)
  replace H_e := Lib.hid (H_e.out.below Q25)
  replace hx := hx.below Q25
  replace hy := hy.below Q25
  replace pe := pe.below Q25
  replace hW := hW.trans (Q25.mono hW.size)
  have r := p25
  clear B24 Q24 B25 Q25 p24 p25
  have P := Lib.hid (rfin22 pe r H_p.out H_q.out (kq := n + 1) (kr := max n (n + 1 + m) + 1) (by omega) (by omega) (by omega) (by omega) (by omega) hW)
  obtain ⟨a1, a2, a3, a4, a5⟩ := H_a.out
  obtain ⟨b1, b2, b3, b4, b5⟩ := H_b.out
  obtain ⟨p1, p2, p3, p4, p5⟩ := H_p.out
  obtain ⟨q1, q2, q3, q4, q5⟩ := H_q.out
  obtain ⟨e1, e2, e3, e4, e5⟩ := H_e.out
  go_wp2_with fail
  exact bodyPost_ret (v := .tuple #[.agg #[.bool false, .slice A22 n22 c22], .agg #[.bool s25, .slice A25 n25 c25]]) (by simp [results, Tryd.results32, go_sem, p1, p2, q1, q2]) rfl P.out

set_option maxRecDepth 100000 in
set_option maxHeartbeats 2000000 in
/-- quincunxref05.Floor. -/
theorem rfloor_nomod {A B : Option Addr} {n m c d : Nat} {s t : Bool} {x y q : Int} {w : World} (hx : Rz w s A n c x) (hy : Rz w t B m d y) (hn : n ≤ 1000000) (hm : m ≤ 1000000) (h0 : y ≠ 0) (hst : (s == t) = false) (hmod : x.natAbs % y.natAbs = 0) (hq : sg true (x.natAbs / y.natAbs) = q) :
    Calls Tryd.prog 32 #[.agg #[.bool s, .slice A n c], .agg #[.bool t, .slice B m d]] w (R2Post q (x - q * y) (n + 2) (max n (n + 2 + m) + 1) w) := by
  obtain ⟨w3, hw3, IA, IB, IP, IQ, z0⟩ := opent4 w s t A B n c m d 60
  have HW := Lib.hid hw3.symm
  replace hx := hx.below z0
  replace hy := hy.below z0
  have hW := z0
  have H_a := Lib.hid IA
  have H_b := Lib.hid IB
  have H_p := Lib.hid IP
  have H_q := Lib.hid IQ
  have hY0 : 0 < y.natAbs := by omega
  clear hw3 IA IB IP IQ z0
  have HM := Lib.hid hmod
  clear hmod
  have HQ := Lib.hid hq
  clear hq h0
  go_enter Tryd.func32, Tryd.ntmps32
  obtain ⟨a1, a2, a3, a4, a5⟩ := H_a.out
  obtain ⟨b1, b2, b3, b4, b5⟩ := H_b.out
  obtain ⟨p1, p2, p3, p4, p5⟩ := H_p.out
  obtain ⟨q1, q2, q3, q4, q5⟩ := H_q.out
  go_wp2_with fail
  rw [HW.out]
  clear a1 a2 a3 a4 a5 b1 b2 b3 b4 b5 p1 p2 p3 p4 p5 q1 q2 q3 q4 q5
  refine (rdm_v hx.1 hy.1 (by omega) (by omega) hY0).mono ?_
  rintro e w21 ⟨A21, n21, c21, D21, m21, d21, rfl, dq, dr, k21, l21, B21⟩
  replace H_a := Lib.hid (H_a.out.below B21)
  replace H_b := Lib.hid (H_b.out.below B21)
  replace H_p := Lib.hid (H_p.out.below B21)
  replace H_q := Lib.hid (H_q.out.below B21)
  replace hx := hx.below B21
  replace hy := hy.below B21
  replace hW := hW.trans (B21.mono hW.size)
  clear B21
  have hm0 : m21 = 0 := by have := dr.pos; rw [HM.out] at this; simp at this; omega
  subst hm0
  obtain ⟨a1, a2, a3, a4, a5⟩ := H_a.out
  obtain ⟨b1, b2, b3, b4, b5⟩ := H_b.out
  obtain ⟨p1, p2, p3, p4, p5⟩ := H_p.out
  obtain ⟨q1, q2, q3, q4, q5⟩ := H_q.out
  go_wp2_with fail
  clear a1 a2 a3 a4 a5 b1 b2 b3 b4 b5 p1 p2 p3 p4 p5 q1 q2 q3 q4 q5
  refine (rnorm_v dq).mono ?_
  rintro e w22 ⟨s22, A22, n22, c22, rfl, pe, k22, B22⟩
  replace H_a := Lib.hid (H_a.out.below B22)
  replace H_b := Lib.hid (H_b.out.below B22)
  replace H_p := Lib.hid (H_p.out.below B22)
  replace H_q := Lib.hid (H_q.out.below B22)
  replace hx := hx.below B22
  replace hy := hy.below B22
  replace dq := dq.below B22
  replace dr := dr.below B22
  replace hW := hW.trans (B22.mono hW.size)
  clear B22
  clear dq dr
  rw [HQ.out] at pe
  cases s22
  · have z23 := zba w22 (.cells #[.bool false, .slice A22 n22 c22] 60)
    obtain ⟨w23, hw23⟩ : ∃ w', w' = w22.alloc (.cells #[.bool false, .slice A22 n22 c22] 60) := ⟨_, rfl⟩
    have I23 : Ib w23 w22.heap.size false A22 n22 c22 := by rw [hw23]; exact Ib.new _ _ _ _ _ _
    rw [← hw23] at z23
    have HW23 := Lib.hid hw23.symm
    have O_a := H_a
    have lt_a_e : w.heap.size < w22.heap.size := H_a.out.2.2.2.2
    have O_b := H_b
    have lt_b_e : (w.heap.size + 1) < w22.heap.size := H_b.out.2.2.2.2
    have O_p := H_p
    have lt_p_e : (w.heap.size + 1 + 1) < w22.heap.size := H_p.out.2.2.2.2
    have O_q := H_q
    have lt_q_e : (w.heap.size + 1 + 1 + 1) < w22.heap.size := H_q.out.2.2.2.2
    have lw_e : w.heap.size ≤ w22.heap.size := hW.size
    replace H_a := Lib.hid (H_a.out.below z23)
    replace H_b := Lib.hid (H_b.out.below z23)
    replace H_p := Lib.hid (H_p.out.below z23)
    replace H_q := Lib.hid (H_q.out.below z23)
    replace hx := hx.below z23
    replace hy := hy.below z23
    replace pe := pe.below z23
    replace hW := hW.trans (z23.mono hW.size)
    have H_e := Lib.hid I23
    clear z23 hw23 I23
    have neap : ¬ (w.heap.size = (w.heap.size + 1 + 1)) := by omega
    have nepa : ¬ ((w.heap.size + 1 + 1) = w.heap.size) := by omega
    have neaq : ¬ (w.heap.size = (w.heap.size + 1 + 1 + 1)) := by omega
    have neqa : ¬ ((w.heap.size + 1 + 1 + 1) = w.heap.size) := by omega
    have nebp : ¬ ((w.heap.size + 1) = (w.heap.size + 1 + 1)) := by omega
    have nepb : ¬ ((w.heap.size + 1 + 1) = (w.heap.size + 1)) := by omega
    have nebq : ¬ ((w.heap.size + 1) = (w.heap.size + 1 + 1 + 1)) := by omega
    have neqb : ¬ ((w.heap.size + 1 + 1 + 1) = (w.heap.size + 1)) := by omega
    have neep : ¬ (w22.heap.size = (w.heap.size + 1 + 1)) := by omega
    have nepe : ¬ ((w.heap.size + 1 + 1) = w22.heap.size) := by omega
    have neeq : ¬ (w22.heap.size = (w.heap.size + 1 + 1 + 1)) := by omega
    have neqe : ¬ ((w.heap.size + 1 + 1 + 1) = w22.heap.size) := by omega
    obtain ⟨a1, a2, a3, a4, a5⟩ := O_a.out
    obtain ⟨b1, b2, b3, b4, b5⟩ := O_b.out
    obtain ⟨p1, p2, p3, p4, p5⟩ := O_p.out
    obtain ⟨q1, q2, q3, q4, q5⟩ := O_q.out
    go_wp2_with fail
    rw [HW23.out]
    clear a1 a2 a3 a4 a5 b1 b2 b3 b4 b5 p1 p2 p3 p4 p5 q1 q2 q3 q4 q5 O_a O_b O_p O_q
    obtain ⟨a1, a2, a3, a4, a5⟩ := H_a.out
    obtain ⟨b1, b2, b3, b4, b5⟩ := H_b.out
    obtain ⟨p1, p2, p3, p4, p5⟩ := H_p.out
    obtain ⟨q1, q2, q3, q4, q5⟩ := H_q.out
    obtain ⟨e1, e2, e3, e4, e5⟩ := H_e.out
    go_region_held3 (fun w' => w'.cell? ⟨w.heap.size, 0, none⟩ = some (.bool s) ∧ w'.cell? ⟨w.heap.size, 1, none⟩ = some (.slice A n c) ∧ w'.cell? ⟨(w.heap.size + 1), 0, none⟩ = some (.bool t) ∧ w'.cell? ⟨(w.heap.size + 1), 1, none⟩ = some (.slice B m d) ∧ w'.cell? ⟨w22.heap.size, 0, none⟩ = some (.bool false) ∧ w'.cell? ⟨w22.heap.size, 1, none⟩ = some (.slice A22 n22 c22)) (go_keep) (first
      | (go_at_call 47; (with_reducible refine (rmul2_v (pe.below (below_drew _)) (hy.below (below_drew _)) (by omega) (by omega)).mono ?_); rintro e w24 ⟨s24, A24, n24, c24, rfl, p24, k24, B24⟩; have Q24 := zup (below_drew _) B24; obtain ⟨ax24, ay24, af24, ag24, az24⟩ := H_a.out.below Q24; obtain ⟨bx24, by24, bf24, bg24, bz24⟩ := H_b.out.below Q24; obtain ⟨px24, py24, pf24, pg24, pz24⟩ := H_p.out.below Q24; obtain ⟨qx24, qy24, qf24, qg24, qz24⟩ := H_q.out.below Q24; obtain ⟨ex24, ey24, ef24, eg24, ez24⟩ := H_e.out.below Q24)
      | (go_at_call 33; (with_reducible refine (rsub2_v (hx.below Q24) p24 (by omega) (by omega)).mono ?_); rintro e w25 ⟨s25, A25, n25, c25, rfl, p25, k25, B25⟩; have Q25 := zup Q24 B25; obtain ⟨ax25, ay25, af25, ag25, az25⟩ := H_a.out.below Q25; obtain ⟨bx25, by25, bf25, bg25, bz25⟩ := H_b.out.below Q25; obtain ⟨px25, py25, pf25, pg25, pz25⟩ := H_p.out.below Q25; obtain ⟨qx25, qy25, qf25, qg25, qz25⟩ := H_q.out.below Q25; obtain ⟨ex25, ey25, ef25, eg25, ez25⟩ := H_e.out.below Q25)
      | fail)
    clear a1 a2 a3 a4 a5 b1 b2 b3 b4 b5 p1 p2 p3 p4 p5 q1 q2 q3 q4 q5 e1 e2 e3 e4 e5 ax24 ay24 af24 ag24 az24 bx24 by24 bf24 bg24 bz24 px24 py24 pf24 pg24 pz24 qx24 qy24 qf24 qg24 qz24 ex24 ey24 ef24 eg24 ez24 ax25 ay25 af25 ag25 az25 bx25 by25 bf25 bg25 bz25 px25 py25 pf25 pg25 pz25 qx25 qy25 qf25 qg25 qz25 ex25 ey25 ef25 eg25 ez25
    replace H_a := Lib.hid (H_a.out.below Q25)
    replace H_b := Lib.hid (H_b.out.below Q25)
    replace H_p := Lib.hid (H_p.out.below Q25)
    replace H_q := Lib.hid (H_q.out.below Q25)
    replace H_e := Lib.hid (H_e.out.below Q25)
    replace hx := hx.below Q25
    replace hy := hy.below Q25
    replace pe := pe.below Q25
    replace hW := hW.trans (Q25.mono hW.size)
    have r := p25
    clear B24 Q24 B25 Q25 p24 p25
    have P := Lib.hid (rfin22 pe r H_p.out H_q.out (kq := n + 2) (kr := max n (n + 2 + m) + 1) (by omega) (by omega) (by omega) (by omega) (by omega) hW)
    obtain ⟨a1, a2, a3, a4, a5⟩ := H_a.out
    obtain ⟨b1, b2, b3, b4, b5⟩ := H_b.out
    obtain ⟨p1, p2, p3, p4, p5⟩ := H_p.out
    obtain ⟨q1, q2, q3, q4, q5⟩ := H_q.out
    obtain ⟨e1, e2, e3, e4, e5⟩ := H_e.out
    go_wp2_with fail
    exact bodyPost_ret (v := .tuple #[.agg #[.bool false, .slice A22 n22 c22], .agg #[.bool s25, .slice A25 n25 c25]]) (by simp [results, Tryd.results32, go_sem, p1, p2, q1, q2]) rfl P.out
  · have z23 := zba w22 (.cells #[.bool true, .slice A22 n22 c22] 60)
    obtain ⟨w23, hw23⟩ : ∃ w', w' = w22.alloc (.cells #[.bool true, .slice A22 n22 c22] 60) := ⟨_, rfl⟩
    have I23 : Ib w23 w22.heap.size true A22 n22 c22 := by rw [hw23]; exact Ib.new _ _ _ _ _ _
    rw [← hw23] at z23
    have HW23 := Lib.hid hw23.symm
    have O_a := H_a
    have lt_a_e : w.heap.size < w22.heap.size := H_a.out.2.2.2.2
    have O_b := H_b
    have lt_b_e : (w.heap.size + 1) < w22.heap.size := H_b.out.2.2.2.2
    have O_p := H_p
    have lt_p_e : (w.heap.size + 1 + 1) < w22.heap.size := H_p.out.2.2.2.2
    have O_q := H_q
    have lt_q_e : (w.heap.size + 1 + 1 + 1) < w22.heap.size := H_q.out.2.2.2.2
    have lw_e : w.heap.size ≤ w22.heap.size := hW.size
    replace H_a := Lib.hid (H_a.out.below z23)
    replace H_b := Lib.hid (H_b.out.below z23)
    replace H_p := Lib.hid (H_p.out.below z23)
    replace H_q := Lib.hid (H_q.out.below z23)
    replace hx := hx.below z23
    replace hy := hy.below z23
    replace pe := pe.below z23
    replace hW := hW.trans (z23.mono hW.size)
    have H_e := Lib.hid I23
    clear z23 hw23 I23
    have neap : ¬ (w.heap.size = (w.heap.size + 1 + 1)) := by omega
    have nepa : ¬ ((w.heap.size + 1 + 1) = w.heap.size) := by omega
    have neaq : ¬ (w.heap.size = (w.heap.size + 1 + 1 + 1)) := by omega
    have neqa : ¬ ((w.heap.size + 1 + 1 + 1) = w.heap.size) := by omega
    have nebp : ¬ ((w.heap.size + 1) = (w.heap.size + 1 + 1)) := by omega
    have nepb : ¬ ((w.heap.size + 1 + 1) = (w.heap.size + 1)) := by omega
    have nebq : ¬ ((w.heap.size + 1) = (w.heap.size + 1 + 1 + 1)) := by omega
    have neqb : ¬ ((w.heap.size + 1 + 1 + 1) = (w.heap.size + 1)) := by omega
    have neep : ¬ (w22.heap.size = (w.heap.size + 1 + 1)) := by omega
    have nepe : ¬ ((w.heap.size + 1 + 1) = w22.heap.size) := by omega
    have neeq : ¬ (w22.heap.size = (w.heap.size + 1 + 1 + 1)) := by omega
    have neqe : ¬ ((w.heap.size + 1 + 1 + 1) = w22.heap.size) := by omega
    obtain ⟨a1, a2, a3, a4, a5⟩ := O_a.out
    obtain ⟨b1, b2, b3, b4, b5⟩ := O_b.out
    obtain ⟨p1, p2, p3, p4, p5⟩ := O_p.out
    obtain ⟨q1, q2, q3, q4, q5⟩ := O_q.out
    go_wp2_with fail
    rw [HW23.out]
    clear a1 a2 a3 a4 a5 b1 b2 b3 b4 b5 p1 p2 p3 p4 p5 q1 q2 q3 q4 q5 O_a O_b O_p O_q
    obtain ⟨a1, a2, a3, a4, a5⟩ := H_a.out
    obtain ⟨b1, b2, b3, b4, b5⟩ := H_b.out
    obtain ⟨p1, p2, p3, p4, p5⟩ := H_p.out
    obtain ⟨q1, q2, q3, q4, q5⟩ := H_q.out
    obtain ⟨e1, e2, e3, e4, e5⟩ := H_e.out
    go_region_held3 (fun w' => w'.cell? ⟨w.heap.size, 0, none⟩ = some (.bool s) ∧ w'.cell? ⟨w.heap.size, 1, none⟩ = some (.slice A n c) ∧ w'.cell? ⟨(w.heap.size + 1), 0, none⟩ = some (.bool t) ∧ w'.cell? ⟨(w.heap.size + 1), 1, none⟩ = some (.slice B m d) ∧ w'.cell? ⟨w22.heap.size, 0, none⟩ = some (.bool true) ∧ w'.cell? ⟨w22.heap.size, 1, none⟩ = some (.slice A22 n22 c22)) (go_keep) (first
      | (go_at_call 47; (with_reducible refine (rmul2_v (pe.below (below_drew _)) (hy.below (below_drew _)) (by omega) (by omega)).mono ?_); rintro e w24 ⟨s24, A24, n24, c24, rfl, p24, k24, B24⟩; have Q24 := zup (below_drew _) B24; obtain ⟨ax24, ay24, af24, ag24, az24⟩ := H_a.out.below Q24; obtain ⟨bx24, by24, bf24, bg24, bz24⟩ := H_b.out.below Q24; obtain ⟨px24, py24, pf24, pg24, pz24⟩ := H_p.out.below Q24; obtain ⟨qx24, qy24, qf24, qg24, qz24⟩ := H_q.out.below Q24; obtain ⟨ex24, ey24, ef24, eg24, ez24⟩ := H_e.out.below Q24)
      | (go_at_call 33; (with_reducible refine (rsub2_v (hx.below Q24) p24 (by omega) (by omega)).mono ?_); rintro e w25 ⟨s25, A25, n25, c25, rfl, p25, k25, B25⟩; have Q25 := zup Q24 B25; obtain ⟨ax25, ay25, af25, ag25, az25⟩ := H_a.out.below Q25; obtain ⟨bx25, by25, bf25, bg25, bz25⟩ := H_b.out.below Q25; obtain ⟨px25, py25, pf25, pg25, pz25⟩ := H_p.out.below Q25; obtain ⟨qx25, qy25, qf25, qg25, qz25⟩ := H_q.out.below Q25; obtain ⟨ex25, ey25, ef25, eg25, ez25⟩ := H_e.out.below Q25)
      | fail)
    clear a1 a2 a3 a4 a5 b1 b2 b3 b4 b5 p1 p2 p3 p4 p5 q1 q2 q3 q4 q5 e1 e2 e3 e4 e5 ax24 ay24 af24 ag24 az24 bx24 by24 bf24 bg24 bz24 px24 py24 pf24 pg24 pz24 qx24 qy24 qf24 qg24 qz24 ex24 ey24 ef24 eg24 ez24 ax25 ay25 af25 ag25 az25 bx25 by25 bf25 bg25 bz25 px25 py25 pf25 pg25 pz25 qx25 qy25 qf25 qg25 qz25 ex25 ey25 ef25 eg25 ez25
    replace H_a := Lib.hid (H_a.out.below Q25)
    replace H_b := Lib.hid (H_b.out.below Q25)
    replace H_p := Lib.hid (H_p.out.below Q25)
    replace H_q := Lib.hid (H_q.out.below Q25)
    replace H_e := Lib.hid (H_e.out.below Q25)
    replace hx := hx.below Q25
    replace hy := hy.below Q25
    replace pe := pe.below Q25
    replace hW := hW.trans (Q25.mono hW.size)
    have r := p25
    clear B24 Q24 B25 Q25 p24 p25
    have P := Lib.hid (rfin22 pe r H_p.out H_q.out (kq := n + 2) (kr := max n (n + 2 + m) + 1) (by omega) (by omega) (by omega) (by omega) (by omega) hW)
    obtain ⟨a1, a2, a3, a4, a5⟩ := H_a.out
    obtain ⟨b1, b2, b3, b4, b5⟩ := H_b.out
    obtain ⟨p1, p2, p3, p4, p5⟩ := H_p.out
    obtain ⟨q1, q2, q3, q4, q5⟩ := H_q.out
    obtain ⟨e1, e2, e3, e4, e5⟩ := H_e.out
    go_wp2_with fail
    exact bodyPost_ret (v := .tuple #[.agg #[.bool true, .slice A22 n22 c22], .agg #[.bool s25, .slice A25 n25 c25]]) (by simp [results, Tryd.results32, go_sem, p1, p2, q1, q2]) rfl P.out

set_option maxRecDepth 100000 in
set_option maxHeartbeats 2000000 in
/-- quincunxref05.Floor. -/
theorem rfloor_mod {A B : Option Addr} {n m c d : Nat} {s t : Bool} {x y q : Int} {w : World} (hx : Rz w s A n c x) (hy : Rz w t B m d y) (hn : n ≤ 1000000) (hm : m ≤ 1000000) (h0 : y ≠ 0) (hst : (s == t) = false) (hmod : x.natAbs % y.natAbs ≠ 0) (hq : sg true (x.natAbs / y.natAbs) - 1 = q) :
    Calls Tryd.prog 32 #[.agg #[.bool s, .slice A n c], .agg #[.bool t, .slice B m d]] w (R2Post q (x - q * y) (n + 2) (max n (n + 2 + m) + 1) w) := by
  obtain ⟨w3, hw3, IA, IB, IP, IQ, z0⟩ := opent4 w s t A B n c m d 60
  have HW := Lib.hid hw3.symm
  replace hx := hx.below z0
  replace hy := hy.below z0
  have hW := z0
  have H_a := Lib.hid IA
  have H_b := Lib.hid IB
  have H_p := Lib.hid IP
  have H_q := Lib.hid IQ
  have hY0 : 0 < y.natAbs := by omega
  clear hw3 IA IB IP IQ z0
  have HQ := Lib.hid hq
  clear hq h0
  go_enter Tryd.func32, Tryd.ntmps32
  obtain ⟨a1, a2, a3, a4, a5⟩ := H_a.out
  obtain ⟨b1, b2, b3, b4, b5⟩ := H_b.out
  obtain ⟨p1, p2, p3, p4, p5⟩ := H_p.out
  obtain ⟨q1, q2, q3, q4, q5⟩ := H_q.out
  go_wp2_with fail
  rw [HW.out]
  clear a1 a2 a3 a4 a5 b1 b2 b3 b4 b5 p1 p2 p3 p4 p5 q1 q2 q3 q4 q5
  refine (rdm_v hx.1 hy.1 (by omega) (by omega) hY0).mono ?_
  rintro e w21 ⟨A21, n21, c21, D21, m21, d21, rfl, dq, dr, k21, l21, B21⟩
  replace H_a := Lib.hid (H_a.out.below B21)
  replace H_b := Lib.hid (H_b.out.below B21)
  replace H_p := Lib.hid (H_p.out.below B21)
  replace H_q := Lib.hid (H_q.out.below B21)
  replace hx := hx.below B21
  replace hy := hy.below B21
  replace hW := hW.trans (B21.mono hW.size)
  clear B21
  have hm0 : 0 < m21 := by have := dr.pos; rw [decide_eq_decide] at this; omega
  obtain ⟨a1, a2, a3, a4, a5⟩ := H_a.out
  obtain ⟨b1, b2, b3, b4, b5⟩ := H_b.out
  obtain ⟨p1, p2, p3, p4, p5⟩ := H_p.out
  obtain ⟨q1, q2, q3, q4, q5⟩ := H_q.out
  go_wp2_with fail
  clear a1 a2 a3 a4 a5 b1 b2 b3 b4 b5 p1 p2 p3 p4 p5 q1 q2 q3 q4 q5
  refine (rnorm_v dq).mono ?_
  rintro e w22 ⟨s22, A22, n22, c22, rfl, pe, k22, B22⟩
  replace H_a := Lib.hid (H_a.out.below B22)
  replace H_b := Lib.hid (H_b.out.below B22)
  replace H_p := Lib.hid (H_p.out.below B22)
  replace H_q := Lib.hid (H_q.out.below B22)
  replace hx := hx.below B22
  replace hy := hy.below B22
  replace dq := dq.below B22
  replace dr := dr.below B22
  replace hW := hW.trans (B22.mono hW.size)
  clear B22
  clear dq dr
  cases s22
  · have z23 := zba w22 (.cells #[.bool false, .slice A22 n22 c22] 60)
    obtain ⟨w23, hw23⟩ : ∃ w', w' = w22.alloc (.cells #[.bool false, .slice A22 n22 c22] 60) := ⟨_, rfl⟩
    have I23 : Ib w23 w22.heap.size false A22 n22 c22 := by rw [hw23]; exact Ib.new _ _ _ _ _ _
    rw [← hw23] at z23
    have HW23 := Lib.hid hw23.symm
    have O_a := H_a
    have lt_a_e : w.heap.size < w22.heap.size := H_a.out.2.2.2.2
    have O_b := H_b
    have lt_b_e : (w.heap.size + 1) < w22.heap.size := H_b.out.2.2.2.2
    have O_p := H_p
    have lt_p_e : (w.heap.size + 1 + 1) < w22.heap.size := H_p.out.2.2.2.2
    have O_q := H_q
    have lt_q_e : (w.heap.size + 1 + 1 + 1) < w22.heap.size := H_q.out.2.2.2.2
    have lw_e : w.heap.size ≤ w22.heap.size := hW.size
    replace H_a := Lib.hid (H_a.out.below z23)
    replace H_b := Lib.hid (H_b.out.below z23)
    replace H_p := Lib.hid (H_p.out.below z23)
    replace H_q := Lib.hid (H_q.out.below z23)
    replace hx := hx.below z23
    replace hy := hy.below z23
    replace pe := pe.below z23
    replace hW := hW.trans (z23.mono hW.size)
    have H_e := Lib.hid I23
    clear z23 hw23 I23
    have z24 := zba w23 (.cells #[.int .i64 1] 3)
    obtain ⟨w24, hw24⟩ : ∃ w', w' = w23.alloc (.cells #[.int .i64 1] 3) := ⟨_, rfl⟩
    have HW24 := Lib.hid hw24.symm
    rw [← hw24] at z24
    replace H_a := Lib.hid (H_a.out.below z24)
    replace H_b := Lib.hid (H_b.out.below z24)
    replace H_p := Lib.hid (H_p.out.below z24)
    replace H_q := Lib.hid (H_q.out.below z24)
    replace H_e := Lib.hid (H_e.out.below z24)
    replace hx := hx.below z24
    replace hy := hy.below z24
    replace pe := pe.below z24
    replace hW := hW.trans (z24.mono hW.size)
    clear z24
    have pd : Rz w24 false (some ⟨w23.heap.size, 0, none⟩) 1 1 1 := by rw [← HW24.out]; exact ⟨dv_one, Lib.hid rfl⟩
    clear hw24
    have es : w23.heap.size = w22.heap.size + 1 := by rw [← HW23.out]; simp
    rw [es] at pd
    clear es
    obtain ⟨a1, a2, a3, a4, a5⟩ := O_a.out
    obtain ⟨b1, b2, b3, b4, b5⟩ := O_b.out
    obtain ⟨p1, p2, p3, p4, p5⟩ := O_p.out
    obtain ⟨q1, q2, q3, q4, q5⟩ := O_q.out
    go_wp2_with fail
    rw [HW23.out]
    rw [HW24.out]
    clear a1 a2 a3 a4 a5 b1 b2 b3 b4 b5 p1 p2 p3 p4 p5 q1 q2 q3 q4 q5 O_a O_b O_p O_q
    refine (rsub2_v pe pd (by omega) (by omega)).mono ?_
    rintro e w25 ⟨s25, A25, n25, c25, rfl, pf, k25, B25⟩
    replace H_a := Lib.hid (H_a.out.below B25)
    replace H_b := Lib.hid (H_b.out.below B25)
    replace H_p := Lib.hid (H_p.out.below B25)
    replace H_q := Lib.hid (H_q.out.below B25)
    replace H_e := Lib.hid (H_e.out.below B25)
    replace hx := hx.below B25
    replace hy := hy.below B25
    replace pe := pe.below B25
    replace hW := hW.trans (B25.mono hW.size)
    clear B25
    clear pd
    rw [HQ.out] at pf
    clear pe
    obtain ⟨w26, hw26⟩ : ∃ w', w' = zput w25 w22.heap.size s25 A25 n25 c25 := ⟨_, rfl⟩
    have HW26 : Hid ((w25.setCell ⟨w22.heap.size, 0, none⟩ (.bool s25)).setCell ⟨w22.heap.size, 1, none⟩ (.slice A25 n25 c25) = w26) := Lib.hid hw26.symm
    have OI := H_e.out
    have O_a := H_a
    have O_b := H_b
    have O_p := H_p
    have O_q := H_q
    have O_e := H_e
    have nn_a : ¬ (w22.heap.size = w.heap.size) := by omega
    have nm_a : ¬ (w.heap.size = w22.heap.size) := by omega
    replace H_a : Hid (Ib w26 w.heap.size s A n c) := Lib.hid (by rw [hw26]; exact H_a.out.put (l := 0) (e := 0) (u := true) (C := none) nm_a)
    have nn_b : ¬ (w22.heap.size = (w.heap.size + 1)) := by omega
    have nm_b : ¬ ((w.heap.size + 1) = w22.heap.size) := by omega
    replace H_b : Hid (Ib w26 (w.heap.size + 1) t B m d) := Lib.hid (by rw [hw26]; exact H_b.out.put (l := 0) (e := 0) (u := true) (C := none) nm_b)
    have nn_p : ¬ (w22.heap.size = (w.heap.size + 1 + 1)) := by omega
    have nm_p : ¬ ((w.heap.size + 1 + 1) = w22.heap.size) := by omega
    replace H_p : Hid (Ib w26 (w.heap.size + 1 + 1) false none 0 0) := Lib.hid (by rw [hw26]; exact H_p.out.put (l := 0) (e := 0) (u := true) (C := none) nm_p)
    have nn_q : ¬ (w22.heap.size = (w.heap.size + 1 + 1 + 1)) := by omega
    have nm_q : ¬ ((w.heap.size + 1 + 1 + 1) = w22.heap.size) := by omega
    replace H_q : Hid (Ib w26 (w.heap.size + 1 + 1 + 1) false none 0 0) := Lib.hid (by rw [hw26]; exact H_q.out.put (l := 0) (e := 0) (u := true) (C := none) nm_q)
    replace H_e : Hid (Ib w26 w22.heap.size s25 A25 n25 c25) := Lib.hid (by rw [hw26]; exact OI.own)
    replace hx := hx.put (s' := s25) (A' := A25) (n' := n25) (c' := c25) OI
    rw [← hw26] at hx
    replace hy := hy.put (s' := s25) (A' := A25) (n' := n25) (c' := c25) OI
    rw [← hw26] at hy
    replace pf := pf.put (s' := s25) (A' := A25) (n' := n25) (c' := c25) OI
    rw [← hw26] at pf
    replace hW : Below w.heap.size w w26 := by rw [hw26]; exact below_put hW lw_e
    clear hw26 OI
    have pe := pf
    clear pf
    have neap : ¬ (w.heap.size = (w.heap.size + 1 + 1)) := by omega
    have nepa : ¬ ((w.heap.size + 1 + 1) = w.heap.size) := by omega
    have neaq : ¬ (w.heap.size = (w.heap.size + 1 + 1 + 1)) := by omega
    have neqa : ¬ ((w.heap.size + 1 + 1 + 1) = w.heap.size) := by omega
    have nebp : ¬ ((w.heap.size + 1) = (w.heap.size + 1 + 1)) := by omega
    have nepb : ¬ ((w.heap.size + 1 + 1) = (w.heap.size + 1)) := by omega
    have nebq : ¬ ((w.heap.size + 1) = (w.heap.size + 1 + 1 + 1)) := by omega
    have neqb : ¬ ((w.heap.size + 1 + 1 + 1) = (w.heap.size + 1)) := by omega
    have neep : ¬ (w22.heap.size = (w.heap.size + 1 + 1)) := by omega
    have nepe : ¬ ((w.heap.size + 1 + 1) = w22.heap.size) := by omega
    have neeq : ¬ (w22.heap.size = (w.heap.size + 1 + 1 + 1)) := by omega
    have neqe : ¬ ((w.heap.size + 1 + 1 + 1) = w22.heap.size) := by omega
    obtain ⟨a1, a2, a3, a4, a5⟩ := O_a.out
    obtain ⟨b1, b2, b3, b4, b5⟩ := O_b.out
    obtain ⟨p1, p2, p3, p4, p5⟩ := O_p.out
    obtain ⟨q1, q2, q3, q4, q5⟩ := O_q.out
    obtain ⟨e1, e2, e3, e4, e5⟩ := O_e.out
    go_wp2_with fail
    rw [HW26.out]
    clear a1 a2 a3 a4 a5 b1 b2 b3 b4 b5 p1 p2 p3 p4 p5 q1 q2 q3 q4 q5 e1 e2 e3 e4 e5 O_a O_b O_p O_q O_e nn_a nm_a nn_b nm_b nn_p nm_p nn_q nm_q
    obtain ⟨a1, a2, a3, a4, a5⟩ := H_a.out
    obtain ⟨b1, b2, b3, b4, b5⟩ := H_b.out
    obtain ⟨p1, p2, p3, p4, p5⟩ := H_p.out
    obtain ⟨q1, q2, q3, q4, q5⟩ := H_q.out
    obtain ⟨e1, e2, e3, e4, e5⟩ := H_e.out
    go_region_held3 (fun w' => w'.cell? ⟨w.heap.size, 0, none⟩ = some (.bool s) ∧ w'.cell? ⟨w.heap.size, 1, none⟩ = some (.slice A n c) ∧ w'.cell? ⟨(w.heap.size + 1), 0, none⟩ = some (.bool t) ∧ w'.cell? ⟨(w.heap.size + 1), 1, none⟩ = some (.slice B m d) ∧ w'.cell? ⟨w22.heap.size, 0, none⟩ = some (.bool s25) ∧ w'.cell? ⟨w22.heap.size, 1, none⟩ = some (.slice A25 n25 c25)) (go_keep) (first
      | (go_at_call 47; (with_reducible refine (rmul2_v (pe.below (below_drew _)) (hy.below (below_drew _)) (by omega) (by omega)).mono ?_); rintro e w27 ⟨s27, A27, n27, c27, rfl, p27, k27, B27⟩; have Q27 := zup (below_drew _) B27; obtain ⟨ax27, ay27, af27, ag27, az27⟩ := H_a.out.below Q27; obtain ⟨bx27, by27, bf27, bg27, bz27⟩ := H_b.out.below Q27; obtain ⟨px27, py27, pf27, pg27, pz27⟩ := H_p.out.below Q27; obtain ⟨qx27, qy27, qf27, qg27, qz27⟩ := H_q.out.below Q27; obtain ⟨ex27, ey27, ef27, eg27, ez27⟩ := H_e.out.below Q27)
      | (go_at_call 33; (with_reducible refine (rsub2_v (hx.below Q27) p27 (by omega) (by omega)).mono ?_); rintro e w28 ⟨s28, A28, n28, c28, rfl, p28, k28, B28⟩; have Q28 := zup Q27 B28; obtain ⟨ax28, ay28, af28, ag28, az28⟩ := H_a.out.below Q28; obtain ⟨bx28, by28, bf28, bg28, bz28⟩ := H_b.out.below Q28; obtain ⟨px28, py28, pf28, pg28, pz28⟩ := H_p.out.below Q28; obtain ⟨qx28, qy28, qf28, qg28, qz28⟩ := H_q.out.below Q28; obtain ⟨ex28, ey28, ef28, eg28, ez28⟩ := H_e.out.below Q28)
      | fail)
    clear a1 a2 a3 a4 a5 b1 b2 b3 b4 b5 p1 p2 p3 p4 p5 q1 q2 q3 q4 q5 e1 e2 e3 e4 e5 ax27 ay27 af27 ag27 az27 bx27 by27 bf27 bg27 bz27 px27 py27 pf27 pg27 pz27 qx27 qy27 qf27 qg27 qz27 ex27 ey27 ef27 eg27 ez27 ax28 ay28 af28 ag28 az28 bx28 by28 bf28 bg28 bz28 px28 py28 pf28 pg28 pz28 qx28 qy28 qf28 qg28 qz28 ex28 ey28 ef28 eg28 ez28
    replace H_a := Lib.hid (H_a.out.below Q28)
    replace H_b := Lib.hid (H_b.out.below Q28)
    replace H_p := Lib.hid (H_p.out.below Q28)
    replace H_q := Lib.hid (H_q.out.below Q28)
    replace H_e := Lib.hid (H_e.out.below Q28)
    replace hx := hx.below Q28
    replace hy := hy.below Q28
    replace pe := pe.below Q28
    replace hW := hW.trans (Q28.mono hW.size)
    have r := p28
    clear B27 Q27 B28 Q28 p27 p28
    have P := Lib.hid (rfin22 pe r H_p.out H_q.out (kq := n + 2) (kr := max n (n + 2 + m) + 1) (by omega) (by omega) (by omega) (by omega) (by omega) hW)
    obtain ⟨a1, a2, a3, a4, a5⟩ := H_a.out
    obtain ⟨b1, b2, b3, b4, b5⟩ := H_b.out
    obtain ⟨p1, p2, p3, p4, p5⟩ := H_p.out
    obtain ⟨q1, q2, q3, q4, q5⟩ := H_q.out
    obtain ⟨e1, e2, e3, e4, e5⟩ := H_e.out
    go_wp2_with fail
    exact bodyPost_ret (v := .tuple #[.agg #[.bool s25, .slice A25 n25 c25], .agg #[.bool s28, .slice A28 n28 c28]]) (by simp [results, Tryd.results32, go_sem, p1, p2, q1, q2]) rfl P.out
  · have z23 := zba w22 (.cells #[.bool true, .slice A22 n22 c22] 60)
    obtain ⟨w23, hw23⟩ : ∃ w', w' = w22.alloc (.cells #[.bool true, .slice A22 n22 c22] 60) := ⟨_, rfl⟩
    have I23 : Ib w23 w22.heap.size true A22 n22 c22 := by rw [hw23]; exact Ib.new _ _ _ _ _ _
    rw [← hw23] at z23
    have HW23 := Lib.hid hw23.symm
    have O_a := H_a
    have lt_a_e : w.heap.size < w22.heap.size := H_a.out.2.2.2.2
    have O_b := H_b
    have lt_b_e : (w.heap.size + 1) < w22.heap.size := H_b.out.2.2.2.2
    have O_p := H_p
    have lt_p_e : (w.heap.size + 1 + 1) < w22.heap.size := H_p.out.2.2.2.2
    have O_q := H_q
    have lt_q_e : (w.heap.size + 1 + 1 + 1) < w22.heap.size := H_q.out.2.2.2.2
    have lw_e : w.heap.size ≤ w22.heap.size := hW.size
    replace H_a := Lib.hid (H_a.out.below z23)
    replace H_b := Lib.hid (H_b.out.below z23)
    replace H_p := Lib.hid (H_p.out.below z23)
    replace H_q := Lib.hid (H_q.out.below z23)
    replace hx := hx.below z23
    replace hy := hy.below z23
    replace pe := pe.below z23
    replace hW := hW.trans (z23.mono hW.size)
    have H_e := Lib.hid I23
    clear z23 hw23 I23
    have z24 := zba w23 (.cells #[.int .i64 1] 3)
    obtain ⟨w24, hw24⟩ : ∃ w', w' = w23.alloc (.cells #[.int .i64 1] 3) := ⟨_, rfl⟩
    have HW24 := Lib.hid hw24.symm
    rw [← hw24] at z24
    replace H_a := Lib.hid (H_a.out.below z24)
    replace H_b := Lib.hid (H_b.out.below z24)
    replace H_p := Lib.hid (H_p.out.below z24)
    replace H_q := Lib.hid (H_q.out.below z24)
    replace H_e := Lib.hid (H_e.out.below z24)
    replace hx := hx.below z24
    replace hy := hy.below z24
    replace pe := pe.below z24
    replace hW := hW.trans (z24.mono hW.size)
    clear z24
    have pd : Rz w24 false (some ⟨w23.heap.size, 0, none⟩) 1 1 1 := by rw [← HW24.out]; exact ⟨dv_one, Lib.hid rfl⟩
    clear hw24
    have es : w23.heap.size = w22.heap.size + 1 := by rw [← HW23.out]; simp
    rw [es] at pd
    clear es
    obtain ⟨a1, a2, a3, a4, a5⟩ := O_a.out
    obtain ⟨b1, b2, b3, b4, b5⟩ := O_b.out
    obtain ⟨p1, p2, p3, p4, p5⟩ := O_p.out
    obtain ⟨q1, q2, q3, q4, q5⟩ := O_q.out
    go_wp2_with fail
    rw [HW23.out]
    rw [HW24.out]
    clear a1 a2 a3 a4 a5 b1 b2 b3 b4 b5 p1 p2 p3 p4 p5 q1 q2 q3 q4 q5 O_a O_b O_p O_q
    refine (rsub2_v pe pd (by omega) (by omega)).mono ?_
    rintro e w25 ⟨s25, A25, n25, c25, rfl, pf, k25, B25⟩
    replace H_a := Lib.hid (H_a.out.below B25)
    replace H_b := Lib.hid (H_b.out.below B25)
    replace H_p := Lib.hid (H_p.out.below B25)
    replace H_q := Lib.hid (H_q.out.below B25)
    replace H_e := Lib.hid (H_e.out.below B25)
    replace hx := hx.below B25
    replace hy := hy.below B25
    replace pe := pe.below B25
    replace hW := hW.trans (B25.mono hW.size)
    clear B25
    clear pd
    rw [HQ.out] at pf
    clear pe
    obtain ⟨w26, hw26⟩ : ∃ w', w' = zput w25 w22.heap.size s25 A25 n25 c25 := ⟨_, rfl⟩
    have HW26 : Hid ((w25.setCell ⟨w22.heap.size, 0, none⟩ (.bool s25)).setCell ⟨w22.heap.size, 1, none⟩ (.slice A25 n25 c25) = w26) := Lib.hid hw26.symm
    have OI := H_e.out
    have O_a := H_a
    have O_b := H_b
    have O_p := H_p
    have O_q := H_q
    have O_e := H_e
    have nn_a : ¬ (w22.heap.size = w.heap.size) := by omega
    have nm_a : ¬ (w.heap.size = w22.heap.size) := by omega
    replace H_a : Hid (Ib w26 w.heap.size s A n c) := Lib.hid (by rw [hw26]; exact H_a.out.put (l := 0) (e := 0) (u := true) (C := none) nm_a)
    have nn_b : ¬ (w22.heap.size = (w.heap.size + 1)) := by omega
    have nm_b : ¬ ((w.heap.size + 1) = w22.heap.size) := by omega
    replace H_b : Hid (Ib w26 (w.heap.size + 1) t B m d) := Lib.hid (by rw [hw26]; exact H_b.out.put (l := 0) (e := 0) (u := true) (C := none) nm_b)
    have nn_p : ¬ (w22.heap.size = (w.heap.size + 1 + 1)) := by omega
    have nm_p : ¬ ((w.heap.size + 1 + 1) = w22.heap.size) := by omega
    replace H_p : Hid (Ib w26 (w.heap.size + 1 + 1) false none 0 0) := Lib.hid (by rw [hw26]; exact H_p.out.put (l := 0) (e := 0) (u := true) (C := none) nm_p)
    have nn_q : ¬ (w22.heap.size = (w.heap.size + 1 + 1 + 1)) := by omega
    have nm_q : ¬ ((w.heap.size + 1 + 1 + 1) = w22.heap.size) := by omega
    replace H_q : Hid (Ib w26 (w.heap.size + 1 + 1 + 1) false none 0 0) := Lib.hid (by rw [hw26]; exact H_q.out.put (l := 0) (e := 0) (u := true) (C := none) nm_q)
    replace H_e : Hid (Ib w26 w22.heap.size s25 A25 n25 c25) := Lib.hid (by rw [hw26]; exact OI.own)
    replace hx := hx.put (s' := s25) (A' := A25) (n' := n25) (c' := c25) OI
    rw [← hw26] at hx
    replace hy := hy.put (s' := s25) (A' := A25) (n' := n25) (c' := c25) OI
    rw [← hw26] at hy
    replace pf := pf.put (s' := s25) (A' := A25) (n' := n25) (c' := c25) OI
    rw [← hw26] at pf
    replace hW : Below w.heap.size w w26 := by rw [hw26]; exact below_put hW lw_e
    clear hw26 OI
    have pe := pf
    clear pf
    have neap : ¬ (w.heap.size = (w.heap.size + 1 + 1)) := by omega
    have nepa : ¬ ((w.heap.size + 1 + 1) = w.heap.size) := by omega
    have neaq : ¬ (w.heap.size = (w.heap.size + 1 + 1 + 1)) := by omega
    have neqa : ¬ ((w.heap.size + 1 + 1 + 1) = w.heap.size) := by omega
    have nebp : ¬ ((w.heap.size + 1) = (w.heap.size + 1 + 1)) := by omega
    have nepb : ¬ ((w.heap.size + 1 + 1) = (w.heap.size + 1)) := by omega
    have nebq : ¬ ((w.heap.size + 1) = (w.heap.size + 1 + 1 + 1)) := by omega
    have neqb : ¬ ((w.heap.size + 1 + 1 + 1) = (w.heap.size + 1)) := by omega
    have neep : ¬ (w22.heap.size = (w.heap.size + 1 + 1)) := by omega
    have nepe : ¬ ((w.heap.size + 1 + 1) = w22.heap.size) := by omega
    have neeq : ¬ (w22.heap.size = (w.heap.size + 1 + 1 + 1)) := by omega
    have neqe : ¬ ((w.heap.size + 1 + 1 + 1) = w22.heap.size) := by omega
    obtain ⟨a1, a2, a3, a4, a5⟩ := O_a.out
    obtain ⟨b1, b2, b3, b4, b5⟩ := O_b.out
    obtain ⟨p1, p2, p3, p4, p5⟩ := O_p.out
    obtain ⟨q1, q2, q3, q4, q5⟩ := O_q.out
    obtain ⟨e1, e2, e3, e4, e5⟩ := O_e.out
    go_wp2_with fail
    rw [HW26.out]
    clear a1 a2 a3 a4 a5 b1 b2 b3 b4 b5 p1 p2 p3 p4 p5 q1 q2 q3 q4 q5 e1 e2 e3 e4 e5 O_a O_b O_p O_q O_e nn_a nm_a nn_b nm_b nn_p nm_p nn_q nm_q
    obtain ⟨a1, a2, a3, a4, a5⟩ := H_a.out
    obtain ⟨b1, b2, b3, b4, b5⟩ := H_b.out
    obtain ⟨p1, p2, p3, p4, p5⟩ := H_p.out
    obtain ⟨q1, q2, q3, q4, q5⟩ := H_q.out
    obtain ⟨e1, e2, e3, e4, e5⟩ := H_e.out
    go_region_held3 (fun w' => w'.cell? ⟨w.heap.size, 0, none⟩ = some (.bool s) ∧ w'.cell? ⟨w.heap.size, 1, none⟩ = some (.slice A n c) ∧ w'.cell? ⟨(w.heap.size + 1), 0, none⟩ = some (.bool t) ∧ w'.cell? ⟨(w.heap.size + 1), 1, none⟩ = some (.slice B m d) ∧ w'.cell? ⟨w22.heap.size, 0, none⟩ = some (.bool s25) ∧ w'.cell? ⟨w22.heap.size, 1, none⟩ = some (.slice A25 n25 c25)) (go_keep) (first
      | (go_at_call 47; (with_reducible refine (rmul2_v (pe.below (below_drew _)) (hy.below (below_drew _)) (by omega) (by omega)).mono ?_); rintro e w27 ⟨s27, A27, n27, c27, rfl, p27, k27, B27⟩; have Q27 := zup (below_drew _) B27; obtain ⟨ax27, ay27, af27, ag27, az27⟩ := H_a.out.below Q27; obtain ⟨bx27, by27, bf27, bg27, bz27⟩ := H_b.out.below Q27; obtain ⟨px27, py27, pf27, pg27, pz27⟩ := H_p.out.below Q27; obtain ⟨qx27, qy27, qf27, qg27, qz27⟩ := H_q.out.below Q27; obtain ⟨ex27, ey27, ef27, eg27, ez27⟩ := H_e.out.below Q27)
      | (go_at_call 33; (with_reducible refine (rsub2_v (hx.below Q27) p27 (by omega) (by omega)).mono ?_); rintro e w28 ⟨s28, A28, n28, c28, rfl, p28, k28, B28⟩; have Q28 := zup Q27 B28; obtain ⟨ax28, ay28, af28, ag28, az28⟩ := H_a.out.below Q28; obtain ⟨bx28, by28, bf28, bg28, bz28⟩ := H_b.out.below Q28; obtain ⟨px28, py28, pf28, pg28, pz28⟩ := H_p.out.below Q28; obtain ⟨qx28, qy28, qf28, qg28, qz28⟩ := H_q.out.below Q28; obtain ⟨ex28, ey28, ef28, eg28, ez28⟩ := H_e.out.below Q28)
      | fail)
    clear a1 a2 a3 a4 a5 b1 b2 b3 b4 b5 p1 p2 p3 p4 p5 q1 q2 q3 q4 q5 e1 e2 e3 e4 e5 ax27 ay27 af27 ag27 az27 bx27 by27 bf27 bg27 bz27 px27 py27 pf27 pg27 pz27 qx27 qy27 qf27 qg27 qz27 ex27 ey27 ef27 eg27 ez27 ax28 ay28 af28 ag28 az28 bx28 by28 bf28 bg28 bz28 px28 py28 pf28 pg28 pz28 qx28 qy28 qf28 qg28 qz28 ex28 ey28 ef28 eg28 ez28
    replace H_a := Lib.hid (H_a.out.below Q28)
    replace H_b := Lib.hid (H_b.out.below Q28)
    replace H_p := Lib.hid (H_p.out.below Q28)
    replace H_q := Lib.hid (H_q.out.below Q28)
    replace H_e := Lib.hid (H_e.out.below Q28)
    replace hx := hx.below Q28
    replace hy := hy.below Q28
    replace pe := pe.below Q28
    replace hW := hW.trans (Q28.mono hW.size)
    have r := p28
    clear B27 Q27 B28 Q28 p27 p28
    have P := Lib.hid (rfin22 pe r H_p.out H_q.out (kq := n + 2) (kr := max n (n + 2 + m) + 1) (by omega) (by omega) (by omega) (by omega) (by omega) hW)
    obtain ⟨a1, a2, a3, a4, a5⟩ := H_a.out
    obtain ⟨b1, b2, b3, b4, b5⟩ := H_b.out
    obtain ⟨p1, p2, p3, p4, p5⟩ := H_p.out
    obtain ⟨q1, q2, q3, q4, q5⟩ := H_q.out
    obtain ⟨e1, e2, e3, e4, e5⟩ := H_e.out
    go_wp2_with fail
    exact bodyPost_ret (v := .tuple #[.agg #[.bool s25, .slice A25 n25 c25], .agg #[.bool s28, .slice A28 n28 c28]]) (by simp [results, Tryd.results32, go_sem, p1, p2, q1, q2]) rfl P.out

theorem rfloor_v {A B : Option Addr} {n m c d : Nat} {s t : Bool} {x y q : Int} {w : World} (hx : Rz w s A n c x) (hy : Rz w t B m d y) (hn : n ≤ 1000000) (hm : m ≤ 1000000) (h0 : y ≠ 0) (hq : dqv s t t x.natAbs y.natAbs = q) :
    Calls Tryd.prog 32 #[.agg #[.bool s, .slice A n c], .agg #[.bool t, .slice B m d]] w (R2Post q (x - q * y) (n + 2) (max n (n + 2 + m) + 1) w) := by
  have up : ∀ k k', k ≤ n + 2 → k' ≤ max n (n + 2 + m) + 1 → ∀ e w', R2Post q (x - q * y) k k' w e w' → R2Post q (x - q * y) (n + 2) (max n (n + 2 + m) + 1) w e w' := by
    rintro k k' h1 h2 e w' ⟨s1, A1, n1, c1, t1, B1, m1, d1, he, p1, p2, k1, k2, hb⟩
    exact ⟨s1, A1, n1, c1, t1, B1, m1, d1, he, p1, p2, by omega, by omega, hb⟩
  cases hst : (s == t)
  · by_cases hmod : x.natAbs % y.natAbs = 0
    · refine rfloor_nomod hx hy hn hm h0 hst hmod ?_
      rw [← hq, (dqv_a hmod).1, hst]; rfl
    · refine rfloor_mod hx hy hn hm h0 hst hmod ?_
      have hst' : s ≠ t := by cases s <;> cases t <;> simp at *
      rw [← hq, (dqv_c hmod hst').1, hst]
      simp [sg]; omega
  · refine (rfloor_same hx hy hn hm h0 hst ?_).mono (up _ _ (by omega) (by omega))
    have hst' : s = t := by simpa using hst
    rw [← hq, (dqv_b hst').1, hst]; rfl

/-- The two variables that hold the reference's numbers. -/
def TwoV (w0 : World) (x y : Int) (kx ky : Nat) (v1 v2 : Value) (wx : World) : Prop :=
  ∃ g s A n c h t B m d, v1 = .pointer (some ⟨g, 0, none⟩) ∧ v2 = .pointer (some ⟨h, 0, none⟩) ∧ w0.heap.size ≤ g ∧ w0.heap.size ≤ h ∧ g ≠ h ∧ Ib wx g s A n c ∧ Ib wx h t B m d ∧ Rz wx s A n c x ∧ Rz wx t B m d y ∧ n ≤ kx ∧ m ≤ ky ∧ Below w0.heap.size w0 wx
theorem TwoV.aa {w0 w : World} {x y : Int} {kx ky n c m d : Nat} {s t : Bool} {A B : Option Addr} {T : TypeId} (p : Rz w s A n c x) (p' : Rz w t B m d y) (q : Below w0.heap.size w0 w) (k : n ≤ kx) (k' : m ≤ ky) :
    TwoV w0 x y kx ky (.pointer (some ⟨w.heap.size, 0, none⟩)) (.pointer (some ⟨w.heap.size + 1, 0, none⟩)) ((w.alloc (.cells #[.bool s, .slice A n c] T)).alloc (.cells #[.bool t, .slice B m d] T)) := by
  obtain ⟨w', hw, I1, I2, z⟩ := opent2 w s t A B n c m d T T
  rw [← hw]
  exact ⟨_, s, A, n, c, _, t, B, m, d, rfl, rfl, q.size, Nat.le_succ_of_le q.size, by omega, I1, I2, p.below z, p'.below z, k, k', zup q z⟩
theorem TwoV.swap {w0 w : World} {x y : Int} {kx ky : Nat} {v1 v2 : Value} (h : TwoV w0 y x ky kx v2 v1 w) : TwoV w0 x y kx ky v1 v2 w := by
  obtain ⟨g, s, A, n, c, g', t, B, m, d, h1, h2, h3, h4, h5, h6, h7, h8, h9, h10, h11, h12⟩ := h
  exact ⟨g', t, B, m, d, g, s, A, n, c, h2, h1, h4, h3, Ne.symm h5, h7, h6, h9, h8, h11, h10, h12⟩
theorem size_zputv (w : World) (g : Nat) (s : Bool) (A : Option Addr) (n c : Nat) : (zput w g s A n c).heap.size = w.heap.size := by simp [zput]
theorem TwoV.pa {w0 w : World} {x y : Int} {kx ky n c m d g l e : Nat} {s t u : Bool} {A B C : Option Addr} {T : TypeId} (j : Ib w g u C l e) (hg : w0.heap.size ≤ g) (p : Rz w s A n c x) (p' : Rz w t B m d y) (q : Below w0.heap.size w0 w) (k : n ≤ kx) (k' : m ≤ ky) :
    TwoV w0 x y kx ky (.pointer (some ⟨g, 0, none⟩)) (.pointer (some ⟨w.heap.size, 0, none⟩)) (((w.setCell ⟨g, 0, none⟩ (.bool s)).setCell ⟨g, 1, none⟩ (.slice A n c)).alloc (.cells #[.bool t, .slice B m d] T)) := by
  have e := size_zputv w g s A n c
  have I := Ib.new (zput w g s A n c) t B m d T
  have z := zba (zput w g s A n c) (.cells #[.bool t, .slice B m d] T)
  have q1 := below_put (A := A) (n := n) (c := c) (s := s) q hg
  have hl := j.2.2.2.2
  refine ⟨g, s, A, n, c, w.heap.size, t, B, m, d, rfl, rfl, hg, q.size, by omega, j.own.below z, ?_, (p.put j).below z, (p'.put j).below z, k, k', zup q1 z⟩
  rw [e] at I
  exact I
theorem TwoV.pp {w0 w : World} {x y : Int} {kx ky n c m d g l e g' l' e' : Nat} {s t u u' : Bool} {A B C C' : Option Addr} (j : Ib w g u C l e) (j' : Ib w g' u' C' l' e') (hg : w0.heap.size ≤ g) (hg' : w0.heap.size ≤ g') (hne : ¬ (g = g')) (p : Rz w s A n c x) (p' : Rz w t B m d y) (q : Below w0.heap.size w0 w) (k : n ≤ kx) (k' : m ≤ ky) :
    TwoV w0 x y kx ky (.pointer (some ⟨g, 0, none⟩)) (.pointer (some ⟨g', 0, none⟩)) ((((w.setCell ⟨g, 0, none⟩ (.bool s)).setCell ⟨g, 1, none⟩ (.slice A n c)).setCell ⟨g', 0, none⟩ (.bool t)).setCell ⟨g', 1, none⟩ (.slice B m d)) := by
  have j2 : Ib (zput w g s A n c) g' u' C' l' e' := j'.put (l := 0) (e := 0) (u := true) (C := none) (Ne.symm hne)
  exact ⟨g, s, A, n, c, g', t, B, m, d, rfl, rfl, hg, hg', hne, j.own.put (l := 0) (e := 0) (u := true) (C := none) hne, j2.own, (p.put j).put j2, (p'.put j).put j2, k, k', below_put (below_put q hg) hg'⟩
theorem ib1v (w : World) (t : TypeId) : Ib ((w.alloc (.cells #[.bool false, .slice none 0 0] t)).alloc (.cells #[.bool false, .slice none 0 0] t)) w.heap.size false none 0 0 := (Ib.new w false none 0 0 t).below (zba _ _)
theorem ib2v (w : World) (t : TypeId) : Ib ((w.alloc (.cells #[.bool false, .slice none 0 0] t)).alloc (.cells #[.bool false, .slice none 0 0] t)) (w.heap.size + 1) false none 0 0 := by
  have := Ib.new (w.alloc (.cells #[.bool false, .slice none 0 0] t)) false none 0 0 t
  simpa using this
theorem ibd1v (w : World) (t : TypeId) : Ib ((w.alloc (.cells #[.bool false, .slice none 0 0] t)).alloc (.cells #[.bool false, .slice none 0 0] t)).drew w.heap.size false none 0 0 := (ib1v w t).below (below_drew _)
theorem ibd2v (w : World) (t : TypeId) : Ib ((w.alloc (.cells #[.bool false, .slice none 0 0] t)).alloc (.cells #[.bool false, .slice none 0 0] t)).drew (w.heap.size + 1) false none 0 0 := (ib2v w t).below (below_drew _)

theorem dqv_neg (s : Bool) (X Y : Nat) : dqv s true false X Y = -dqv s false false X Y := by
  unfold dqv
  cases s <;> simp [sg] <;> split <;> first | rfl | simp
end Go.Proofs.YtfdgblmegiehnaaDoor
