/-
  Package zint: Xgcd.
-/
import Derived.Test.YtbcopicoldnahaaGreatWayE
import Derived.BigRegion
/-! Contract: zint.Xgcd. -/
namespace Go.Proofs.YtbcopicoldnahaaGreat
open Go.RowKit
set_option linter.unusedVariables false
set_option linter.unusedSimpArgs false

/-- Two whole numbers, and three results, in new memory. -/
theorem open5 (w : World) (s t : Bool) (A B : Option Addr) (n c m d : Nat) :
    ∃ w3, w3 = ((((w.alloc (.cells #[.bool s, .slice A n c] 27)).alloc (.cells #[.bool t, .slice B m d] 27)).alloc (.cells #[.bool false, .slice none 0 0] 27)).alloc (.cells #[.bool false, .slice none 0 0] 27)).alloc (.cells #[.bool false, .slice none 0 0] 27) ∧
      Ib w3 w.heap.size s A n c ∧ Ib w3 (w.heap.size + 1) t B m d ∧ Ib w3 (w.heap.size + 1 + 1) false none 0 0 ∧ Ib w3 (w.heap.size + 1 + 1 + 1) false none 0 0 ∧ Ib w3 (w.heap.size + 1 + 1 + 1 + 1) false none 0 0 ∧ Below w.heap.size w w3 := by
  obtain ⟨w3, h, h1, h2, h3, h4, h5⟩ := open4 w s t A B n c m d
  have e : w3.heap.size = w.heap.size + 1 + 1 + 1 + 1 := by rw [h]; simp
  refine ⟨w3.alloc (.cells #[.bool false, .slice none 0 0] 27), by rw [h], h1.below (zba _ _), h2.below (zba _ _), h3.below (zba _ _), h4.below (zba _ _), ?_, zup h5 (zba _ _)⟩
  rw [← e]
  exact Ib.new _ _ _ _ _ _
/-- Three whole numbers are answered. -/
def Z3Post (x y z : Int) (kx ky kz : Nat) (w : World) (e : Ending) (w' : World) : Prop :=
  ∃ s A n c t B m d u C l f, e = .returned (.tuple #[.agg #[.bool s, .slice A n c], .agg #[.bool t, .slice B m d], .agg #[.bool u, .slice C l f]]) ∧ Zc w' s A n c x ∧ Zc w' t B m d y ∧ Zc w' u C l f z ∧ n ≤ kx ∧ m ≤ ky ∧ l ≤ kz ∧ Below w.heap.size w w'
theorem Z3Post.drew {x y z : Int} {kx ky kz : Nat} {w w' : World} {e : Ending} (h : Z3Post x y z kx ky kz w e w') : Z3Post x y z kx ky kz w e w'.drew := by
  obtain ⟨s, A, n, c, t, B, m, d, u, C, l, f, h1, h2, h3, h4, h5, h6, h7, h8⟩ := h
  exact ⟨s, A, n, c, t, B, m, d, u, C, l, f, h1, h2.below (below_drew _), h3.below (below_drew _), h4.below (below_drew _), h5, h6, h7, h8.drew⟩
theorem zfin3 {w w2 : World} {A B C A' B' C' : Option Addr} {n c m d l f g g' g'' kx ky kz n1 c1 m1 d1 l1 f1 : Nat} {s t u s1 t1 u1 : Bool} {x y z : Int} (hx : Zc w2 s A n c x) (hy : Zc w2 t B m d y) (hz : Zc w2 u C l f z) (hi : Ib w2 g s1 A' n1 c1) (hj : Ib w2 g' t1 B' m1 d1) (hk : Ib w2 g'' u1 C' l1 f1)
    (n1 : g ≠ g') (n2 : g ≠ g'') (n3 : g' ≠ g'') (h1 : n ≤ kx) (h2 : m ≤ ky) (h3 : l ≤ kz) (hg : w.heap.size ≤ g) (hg' : w.heap.size ≤ g') (hg'' : w.heap.size ≤ g'') (hB : Below w.heap.size w w2) :
    Z3Post x y z kx ky kz w (.returned (.tuple #[.agg #[.bool s, .slice A n c], .agg #[.bool t, .slice B m d], .agg #[.bool u, .slice C l f]]))
      ((((((w2.setCell ⟨g, 0, none⟩ (.bool s)).setCell ⟨g, 1, none⟩ (.slice A n c)).setCell ⟨g', 0, none⟩ (.bool t)).setCell ⟨g', 1, none⟩ (.slice B m d)).setCell ⟨g'', 0, none⟩ (.bool u)).setCell ⟨g'', 1, none⟩ (.slice C l f)) := by
  have J := hj.put' (t := s) (B := A) (m := n) (d := c) (Ne.symm n1)
  have K := (hk.put' (t := s) (B := A) (m := n) (d := c) (Ne.symm n2)).put' (t := t) (B := B) (m := m) (d := d) (Ne.symm n3)
  exact ⟨s, A, n, c, t, B, m, d, u, C, l, f, rfl, ((hx.put hi).put J).put K, ((hy.put hi).put J).put K, ((hz.put hi).put J).put K, h1, h2, h3, below_put (below_put (below_put hB hg) hg') hg''⟩
theorem Zc.none0 (w : World) : Zc w false none 0 0 0 := ⟨⟨Rd.nil _ _ _, rfl, Nat.le_refl _, by omega⟩, Lib.hid rfl⟩
set_option maxRecDepth 100000 in
set_option maxHeartbeats 4000000 in
/-- zint.Xgcd, of any number and 0. -/
theorem zxgcd_no {A B : Option Addr} {n m c d : Nat} {s t : Bool} {x r : Int} {w : World} (hx : Zv w s A n c x) (hy : Zv w t B m d 0) (hn : n ≤ 68719476736) (hm : m ≤ 68719476736) (hr : x.sign = r) (hr1 : -1 ≤ r) (hr2 : r ≤ 1) :
    Calls Tryz.prog 30 #[.agg #[.bool s, .slice A n c], .agg #[.bool t, .slice B m d]] w (Z3Post (x.natAbs : Int) r 0 n 1 0 w) := by
  obtain ⟨w3, hw3, IA, IB, I4, I5, I6, z0⟩ := open5 w s t A B n c m d
  have hX := hx.below z0
  have hY := hy.below z0
  have HZ := Lib.hid z0
  have HW := Lib.hid hw3.symm
  have HA := Lib.hid IA
  have H4 := Lib.hid I4
  have H5 := Lib.hid I5
  have H6 := Lib.hid I6
  have HR := Lib.hid hr
  clear hx hy z0 hw3 I4 I5 I6 hr
  obtain ⟨a1, a2, a3, a4, a5⟩ := IA
  obtain ⟨b1, b2, b3, b4, b5⟩ := IB
  go_enter Tryz.func30, Tryz.ntmps30
  go_wp2_with fail
  rw [HW.out]
  refine (zsign_v hY (by omega) (show (0 : Int).sign = 0 from rfl)).mono ?_
  rintro e w4 ⟨rfl, B4⟩
  have hX4 := hX.below B4
  have HZ4 := Lib.hid (zup HZ.out B4)
  have HA4 := Lib.hid (HA.out.below B4)
  have H44 := Lib.hid (H4.out.below B4)
  have H54 := Lib.hid (H5.out.below B4)
  have H64 := Lib.hid (H6.out.below B4)
  clear B4 a1 a2 a3 a4 a5 b1 b2 b3 b4 b5 hX hY HZ HA H4 H5 H6
  obtain ⟨a1, a2, a3, a4, a5⟩ := HA4.out
  obtain ⟨ra, rb, rc, rd, re⟩ := H44.out
  obtain ⟨sa, sb, sc, sd, se⟩ := H54.out
  obtain ⟨ta, tb, tc, td, te⟩ := H64.out
  have n1 : ¬ (w.heap.size + 1 + 1 = w.heap.size) := by omega
  have n2 : ¬ (w.heap.size + 1 + 1 + 1 = w.heap.size) := by omega
  have n3 : ¬ (w.heap.size + 1 + 1 + 1 + 1 = w.heap.size) := by omega
  go_wp2_with fail
  go_region_held3 (fun w' => w'.cell? ⟨w.heap.size, 0, none⟩ = some (.bool s) ∧ w'.cell? ⟨w.heap.size, 1, none⟩ = some (.slice A n c)) (go_keep) (first
    | (go_at_call 35; (with_reducible refine (zabs_v (hX4.below (below_drew _)) (by omega)).mono ?_); rintro e w5 ⟨s5, A5, n5, c5, rfl, p5, k5, B5⟩; have Q5 := zup (below_drew _) B5; have P5 := p5; obtain ⟨d1, d2, _⟩ := HA4.out.below Q5; obtain ⟨raQ5, rbQ5, rcQ5, rdQ5, reQ5⟩ := H44.out.below Q5; obtain ⟨saQ5, sbQ5, scQ5, sdQ5, seQ5⟩ := H54.out.below Q5; obtain ⟨taQ5, tbQ5, tcQ5, tdQ5, teQ5⟩ := H64.out.below Q5)
    | (go_at_call 35; (with_reducible refine (zabs_v (hX4.below Q6) (by omega)).mono ?_); rintro e w5 ⟨s5, A5, n5, c5, rfl, p5, k5, B5⟩; have Q5 := zup Q6 B5; have P5 := p5; obtain ⟨d1, d2, _⟩ := HA4.out.below Q5; obtain ⟨raQ5, rbQ5, rcQ5, rdQ5, reQ5⟩ := H44.out.below Q5; obtain ⟨saQ5, sbQ5, scQ5, sdQ5, seQ5⟩ := H54.out.below Q5; obtain ⟨taQ5, tbQ5, tcQ5, tdQ5, teQ5⟩ := H64.out.below Q5)
    | (go_at_call 35; (with_reducible refine (zabs_v (hX4.below Q7) (by omega)).mono ?_); rintro e w5 ⟨s5, A5, n5, c5, rfl, p5, k5, B5⟩; have Q5 := zup Q7 B5; have P5 := p5; have P7 := p7.below B5; obtain ⟨d1, d2, _⟩ := HA4.out.below Q5; obtain ⟨raQ5, rbQ5, rcQ5, rdQ5, reQ5⟩ := H44.out.below Q5; obtain ⟨saQ5, sbQ5, scQ5, sdQ5, seQ5⟩ := H54.out.below Q5; obtain ⟨taQ5, tbQ5, tcQ5, tdQ5, teQ5⟩ := H64.out.below Q5)
    | (go_at_call 6; (with_reducible refine (zsign_v (hX4.below (below_drew _)) (by omega) HR.out).mono ?_); rintro e w6 ⟨rfl, B6⟩; have Q6 := zup (below_drew _) B6; obtain ⟨e1, e2, _⟩ := HA4.out.below Q6; obtain ⟨raQ6, rbQ6, rcQ6, rdQ6, reQ6⟩ := H44.out.below Q6; obtain ⟨saQ6, sbQ6, scQ6, sdQ6, seQ6⟩ := H54.out.below Q6; obtain ⟨taQ6, tbQ6, tcQ6, tdQ6, teQ6⟩ := H64.out.below Q6)
    | (go_at_call 6; (with_reducible refine (zsign_v (hX4.below Q5) (by omega) HR.out).mono ?_); rintro e w6 ⟨rfl, B6⟩; have Q6 := zup Q5 B6; have P6 := p5.below B6; obtain ⟨e1, e2, _⟩ := HA4.out.below Q6; obtain ⟨raQ6, rbQ6, rcQ6, rdQ6, reQ6⟩ := H44.out.below Q6; obtain ⟨saQ6, sbQ6, scQ6, sdQ6, seQ6⟩ := H54.out.below Q6; obtain ⟨taQ6, tbQ6, tcQ6, tdQ6, teQ6⟩ := H64.out.below Q6)
    | (go_at_call 9; (with_reducible refine (zof_v r (by omega) (by omega) _).mono ?_); rintro e w7 ⟨s7, A7, n7, c7, rfl, p7, k7, B7⟩; have Q7 := zup Q6 B7; obtain ⟨f1, f2, _⟩ := HA4.out.below Q7; obtain ⟨raQ7, rbQ7, rcQ7, rdQ7, reQ7⟩ := H44.out.below Q7; obtain ⟨saQ7, sbQ7, scQ7, sdQ7, seQ7⟩ := H54.out.below Q7; obtain ⟨taQ7, tbQ7, tcQ7, tdQ7, teQ7⟩ := H64.out.below Q7)
    | fail)
  have P := Lib.hid (zfin3 (w := w) (P6.below B7) p7 (Zc.none0 _) (H44.out.below Q7) (H54.out.below Q7) (H64.out.below Q7) (kx := n) (ky := 1) (kz := 0) (by omega) (by omega) (by omega) (by omega) (by omega) (by omega) (by omega) (by omega) (by omega) (zup HZ4.out Q7))
  clear p5 P5 P6 p7 B5 B6 B7 Q5 Q6 Q7 k5 k7
  go_wp2_with fail
  exact bodyPost_ret (v := .tuple #[.agg #[.bool s5, .slice A5 n5 c5], .agg #[.bool s7, .slice A7 n7 c7], .agg #[.bool false, .slice none 0 0]]) (by simp [results, Tryz.results30, go_sem, raQ7, rbQ7, saQ7, sbQ7, taQ7, tbQ7]) rfl P.out

/-- What Xgcd answers, of any number and one other than 0. -/
def XgPost (x y : Int) (k : Nat) (w : World) (e : Ending) (w' : World) : Prop :=
  ∃ G X Y : Int, Z3Post G X Y k k k w e w' ∧ Hid (G = ((Nat.gcd x.natAbs y.natAbs : Nat) : Int)) ∧ Hid (X * x + Y * y = G) ∧ Hid (∃ z : Nat, z * Nat.gcd x.natAbs y.natAbs = y.natAbs ∧ 0 ≤ X ∧ X < z)
theorem xg_sign (t s : Bool) (X u : Nat) : sg (t != s) X * sg s u = sgt t * X * u := by
  cases t <;> cases s <;> simp [sg, sgt, Int.neg_mul, Int.mul_neg]
/-- The least cofactor from 0 on, and the other one. -/
theorem xg_end {x y q r : Int} {u m G X Y : Nat} {t s bb : Bool} (hbb : (t != s) = bb) (hx : x = sg s u) (hu : x.natAbs = u) (hm : y.natAbs = m) (hG : G * Y = m) (hg : G = Nat.gcd u m) (hd : (m : Int) ∣ (G : Int) - sgt t * X * u) (hq : q * (Y : Int) + r = sg bb X) :
    ∃ Z : Int, Z * y = (G : Int) - r * x := by
  have h1 : sg bb X * x = sgt t * X * u := by rw [← hbb, hx]; exact xg_sign t s X u
  have h2 : (m : Int) ∣ (Y : Int) * x := by
    obtain ⟨k, hk⟩ := Nat.gcd_dvd_left u m
    rw [← hg] at hk
    have h3 : (u : Int) ∣ x := by rw [← hu]; exact Int.natAbs_dvd_self
    obtain ⟨l, hl⟩ := h3
    refine ⟨k * l, ?_⟩
    rw [hl, ← hG, hk]
    push_cast
    grind
  have h3 : (m : Int) ∣ (G : Int) - r * x := by
    have e : (G : Int) - r * x = ((G : Int) - sgt t * X * u) + q * (Y * x) := by
      have : r = sg bb X - q * Y := by omega
      rw [this, Int.sub_mul, h1]
      grind
    rw [e]
    exact Int.dvd_add hd (Int.dvd_trans h2 ⟨q, by rw [Int.mul_comm]⟩)
  have h4 : y ∣ (m : Int) := by rw [← hm]; exact Int.dvd_natAbs_self
  obtain ⟨k, hk⟩ := Int.dvd_trans h4 h3
  exact ⟨k, by rw [hk, Int.mul_comm]⟩
theorem ibx1 (w : World) (t : TypeId) : Ib ((w.alloc (.cells #[.bool false, .slice none 0 0] t)).alloc (.cells #[.bool false, .slice none 0 0] t)).drew w.heap.size false none 0 0 := ((Ib.new w false none 0 0 t).below (zba _ _)).below (below_drew _)
theorem ibx2 (w : World) (t : TypeId) : Ib ((w.alloc (.cells #[.bool false, .slice none 0 0] t)).alloc (.cells #[.bool false, .slice none 0 0] t)).drew (w.heap.size + 1) false none 0 0 := by
  have := (Ib.new (w.alloc (.cells #[.bool false, .slice none 0 0] t)) false none 0 0 t).below (below_drew _)
  simpa using this
theorem VarCut.more {w0 w w' : World} {z : Int} {k : Nat} {v : Value} (h : VarCut w0 z k v w) (hb : Below w.heap.size w w') : VarCut w0 z k v w' := by
  obtain ⟨g, s, A, n, c, h1, h2, h3, h4, h5, h6⟩ := h
  exact ⟨g, s, A, n, c, h1, h2, h3.below hb, h4.below hb, h5, zup h6 hb⟩
/-- Both results of one call, the first of them left: the ways of memory. -/
theorem VarCut.w1 {w0 w : World} {z : Int} {k n c : Nat} {s : Bool} {A : Option Addr} {t : TypeId} (o : Obj) (p : Zc w s A n c z) (q : Below w0.heap.size w0 w) (hk : n ≤ k) :
    VarCut w0 z k (.pointer (some ⟨w.heap.size + 1, 0, none⟩)) ((w.alloc o).alloc (.cells #[.bool s, .slice A n c] t)) := by
  have := VarCut.new (t := t) (p.below (zba w o)) (zup q (zba w o)) hk
  simpa using this
theorem VarCut.w3 {w0 w : World} {z : Int} {k g n c m d n' c' : Nat} {s s' u : Bool} {A B A' : Option Addr} {t : TypeId} (j : Ib w g u B m d) (p : Zc w s A n c z) (q : Below w0.heap.size w0 w) (hg : w0.heap.size ≤ g) (hk : n ≤ k) :
    VarCut w0 z k (.pointer (some ⟨w.heap.size, 0, none⟩)) (((w.setCell ⟨g, 0, none⟩ (.bool s')).setCell ⟨g, 1, none⟩ (.slice A' n' c')).alloc (.cells #[.bool s, .slice A n c] t)) := by
  have := VarCut.new (t := t) (p.put (s' := s') (A' := A') (n' := n') (c' := c') j) (below_put (s := s') (A := A') (n := n') (c := c') q hg) hk
  simpa [zput] using this
theorem VarCut.w4 {w0 w : World} {z : Int} {k g g' n c m d n' c' l e : Nat} {s s' u u' : Bool} {A B C A' : Option Addr} (j : Ib w g u B m d) (j' : Ib w g' u' C l e) (hne : g' ≠ g) (p : Zc w s A n c z) (q : Below w0.heap.size w0 w) (hg : w0.heap.size ≤ g) (hg' : w0.heap.size ≤ g') (hk : n ≤ k) :
    VarCut w0 z k (.pointer (some ⟨g', 0, none⟩)) ((((w.setCell ⟨g, 0, none⟩ (.bool s')).setCell ⟨g, 1, none⟩ (.slice A' n' c')).setCell ⟨g', 0, none⟩ (.bool s)).setCell ⟨g', 1, none⟩ (.slice A n c)) :=
  VarCut.put (j'.put' (t := s') (B := A') (m := n') (d := c') hne) (p.put (s' := s') (A' := A') (n' := n') (c' := c') j) (below_put (s := s') (A := A') (n := n') (c := c') q hg) hg' hk
set_option maxRecDepth 100000 in
set_option maxHeartbeats 8000000 in
/-- zint.Xgcd, of any number and one other than 0. -/
theorem zxgcd_yes {A B : Option Addr} {n m c d : Nat} {s t : Bool} {x y : Int} {w : World} (hx : Zv w s A n c x) (hy : Zv w t B m d y) (hn : n ≤ 68719476736) (hm : m ≤ 68719476736) (h0 : y ≠ 0) :
    Calls Tryz.prog 30 #[.agg #[.bool s, .slice A n c], .agg #[.bool t, .slice B m d]] w (XgPost x y (n + m + 4) w) := by
  obtain ⟨w3, hw3, IA, IB, I4, I5, I6, z0⟩ := open5 w s t A B n c m d
  have HW := Lib.hid hw3.symm
  have HEX := hx.abs.2
  replace hx := hx.below z0
  replace hy := hy.below z0
  have hW := z0
  have H_a := Lib.hid IA
  have H_b := Lib.hid IB
  have H_u := Lib.hid I4
  have H_v := Lib.hid I5
  have H_z := Lib.hid I6
  obtain ⟨sr, hr⟩ : ∃ r, y.sign = r := ⟨_, rfl⟩
  have hsy : (sr == 0) = false := by rw [beq_eq_false_iff_ne, ← hr]; intro h; exact h0 (Int.sign_eq_zero_iff_zero.1 h)
  have HSY := Lib.hid hr
  have hy0 : 0 < y.natAbs := by omega
  clear hw3 IA IB I4 I5 I6 z0 hr
  go_enter Tryz.func30, Tryz.ntmps30
  obtain ⟨a1, a2, a3, a4, a5⟩ := H_a.out
  obtain ⟨b1, b2, b3, b4, b5⟩ := H_b.out
  obtain ⟨u1, u2, u3, u4, u5⟩ := H_u.out
  obtain ⟨v1, v2, v3, v4, v5⟩ := H_v.out
  obtain ⟨z1, z2, z3, z4, z5⟩ := H_z.out
  go_wp2_with fail
  rw [HW.out]
  clear a1 a2 a3 a4 a5 b1 b2 b3 b4 b5 u1 u2 u3 u4 u5 v1 v2 v3 v4 v5 z1 z2 z3 z4 z5
  refine (zsign_v hy (by omega) HSY.out).mono ?_
  rintro e w21 ⟨rfl, B21⟩
  replace H_a := Lib.hid (H_a.out.below B21)
  replace H_b := Lib.hid (H_b.out.below B21)
  replace H_u := Lib.hid (H_u.out.below B21)
  replace H_v := Lib.hid (H_v.out.below B21)
  replace H_z := Lib.hid (H_z.out.below B21)
  replace hx := hx.below B21
  replace hy := hy.below B21
  replace hW := hW.trans (B21.mono hW.size)
  clear B21
  obtain ⟨a1, a2, a3, a4, a5⟩ := H_a.out
  obtain ⟨b1, b2, b3, b4, b5⟩ := H_b.out
  obtain ⟨u1, u2, u3, u4, u5⟩ := H_u.out
  obtain ⟨v1, v2, v3, v4, v5⟩ := H_v.out
  obtain ⟨z1, z2, z3, z4, z5⟩ := H_z.out
  go_wp2_with fail
  clear a1 a2 a3 a4 a5 b1 b2 b3 b4 b5 u1 u2 u3 u4 u5 v1 v2 v3 v4 v5 z1 z2 z3 z4 z5
  clear hsy
  refine (wayof_calls hx.abs.1 hy.abs.1 hn hm hy0).mono ?_
  rintro e w22 ⟨h1, N, rfl, WA, hmN, hNk, hNN, B22⟩
  have HWA := Lib.hid WA
  have HB22 := Lib.hid B22
  have hz22 := B22.size
  have HMN := Lib.hid hmN
  clear WA B22 hmN
  go_wp2_with fail
  refine (wgoon_calls w22 w21.heap.size h1 _ _ _ N _ hz22 HMN.out HWA.out).mono ?_
  rintro e w23 ⟨rfl, hE, C23⟩
  have B23 : Below w21.heap.size w21 w23 := HB22.out.trans C23
  replace H_a := Lib.hid (H_a.out.below B23)
  replace H_b := Lib.hid (H_b.out.below B23)
  replace H_u := Lib.hid (H_u.out.below B23)
  replace H_v := Lib.hid (H_v.out.below B23)
  replace H_z := Lib.hid (H_z.out.below B23)
  replace hx := hx.below B23
  replace hy := hy.below B23
  replace hW := hW.trans (B23.mono hW.size)
  clear B23 C23 HB22 HWA hz22 HMN
  obtain ⟨na, ga, gb, gx, gy, X0, Y0, tt, hWy, pG, pX, pY, hnN, HGY, HDV⟩ := hE
  obtain ⟨G, hG⟩ : ∃ G, Nat.gcd x.natAbs y.natAbs = G := ⟨_, rfl⟩
  rw [hG] at pG HGY HDV
  have HG := Lib.hid hG
  clear hG
  obtain ⟨y0, y1, y2, y3, y4, _⟩ := hWy.cells
  obtain ⟨a1, a2, a3, a4, a5⟩ := H_a.out
  obtain ⟨b1, b2, b3, b4, b5⟩ := H_b.out
  obtain ⟨u1, u2, u3, u4, u5⟩ := H_u.out
  obtain ⟨v1, v2, v3, v4, v5⟩ := H_v.out
  obtain ⟨z1, z2, z3, z4, z5⟩ := H_z.out
  go_wp2_with fail
  clear a1 a2 a3 a4 a5 b1 b2 b3 b4 b5 u1 u2 u3 u4 u5 v1 v2 v3 v4 v5 z1 z2 z3 z4 z5
  refine (signed_v (b := false) pG).mono ?_
  rintro e w24 ⟨s24, A24, n24, c24, rfl, pg, k24, B24⟩
  replace H_a := Lib.hid (H_a.out.below B24)
  replace H_b := Lib.hid (H_b.out.below B24)
  replace H_u := Lib.hid (H_u.out.below B24)
  replace H_v := Lib.hid (H_v.out.below B24)
  replace H_z := Lib.hid (H_z.out.below B24)
  replace hx := hx.below B24
  replace hy := hy.below B24
  replace hWy := hWy.below B24
  replace pX := pX.below B24
  replace pY := pY.below B24
  replace hW := hW.trans (B24.mono hW.size)
  clear B24
  clear y0 y1 y2 y3 y4 pG
  rw [show sg false G = ((G : Nat) : Int) from rfl] at pg
  have z25 := zba w24 (.cells #[.bool s24, .slice A24 n24 c24] 27)
  obtain ⟨w25, hw25⟩ : ∃ w', w' = w24.alloc (.cells #[.bool s24, .slice A24 n24 c24] 27) := ⟨_, rfl⟩
  have I25 : Ib w25 w24.heap.size s24 A24 n24 c24 := by rw [hw25]; exact Ib.new _ _ _ _ _ _
  rw [← hw25] at z25
  have HW25 := Lib.hid hw25.symm
  have O_a := H_a
  have lt_a_g : w.heap.size < w24.heap.size := H_a.out.2.2.2.2
  have O_b := H_b
  have lt_b_g : (w.heap.size + 1) < w24.heap.size := H_b.out.2.2.2.2
  have O_u := H_u
  have lt_u_g : (w.heap.size + 1 + 1) < w24.heap.size := H_u.out.2.2.2.2
  have O_v := H_v
  have lt_v_g : (w.heap.size + 1 + 1 + 1) < w24.heap.size := H_v.out.2.2.2.2
  have O_z := H_z
  have lt_z_g : (w.heap.size + 1 + 1 + 1 + 1) < w24.heap.size := H_z.out.2.2.2.2
  have lw_g : w.heap.size ≤ w24.heap.size := hW.size
  replace H_a := Lib.hid (H_a.out.below z25)
  replace H_b := Lib.hid (H_b.out.below z25)
  replace H_u := Lib.hid (H_u.out.below z25)
  replace H_v := Lib.hid (H_v.out.below z25)
  replace H_z := Lib.hid (H_z.out.below z25)
  replace hx := hx.below z25
  replace hy := hy.below z25
  replace hWy := hWy.below z25
  replace pX := pX.below z25
  replace pY := pY.below z25
  replace pg := pg.below z25
  replace hW := hW.trans (z25.mono hW.size)
  have H_g := Lib.hid I25
  clear z25 hw25 I25
  have hY0 : 0 < Y0 := by
    rcases Nat.eq_zero_or_pos Y0 with h | h
    · have := HGY.out; rw [h, Nat.mul_zero] at this; omega
    · exact h
  obtain ⟨bb, hbb⟩ : ∃ bb, (!(tt == s)) = bb := ⟨_, rfl⟩
  have HBB := Lib.hid hbb
  obtain ⟨q, hq⟩ : ∃ q, dqv bb false false X0 Y0 = q := ⟨_, rfl⟩
  obtain ⟨r, hr⟩ : ∃ r, drv bb false X0 Y0 = r := ⟨_, rfl⟩
  have hqr := dqv_eq (s := bb) (t := false) (u := false) (X := X0) hY0
  rw [hq, hr] at hqr
  have HQ := Lib.hid hq
  have HR := Lib.hid hr
  have HQR := Lib.hid hqr
  obtain ⟨Z, hZ⟩ := xg_end (r := r) (q := q) hbb HEX.out rfl rfl HGY.out HG.out.symm HDV.out (by rw [← hqr]; rfl)
  have HZ := Lib.hid hZ
  have zx : Zv w25 bb (some ⟨gx, 0, none⟩) N N (sg bb X0) := ⟨X0, pX, Lib.hid rfl⟩
  have zy : Zv w25 false (some ⟨gy, 0, none⟩) N N (Y0 : Int) := ⟨Y0, pY, Lib.hid rfl⟩
  have hy1 : (Y0 : Int) ≠ 0 := by omega
  have HQ' : Hid (dqv bb false false (sg bb X0).natAbs ((Y0 : Nat) : Int).natAbs = q) := Lib.hid (by rw [sg_abs]; exact hq)
  have HR' : Hid (drv bb false (sg bb X0).natAbs ((Y0 : Nat) : Int).natAbs = r) := Lib.hid (by rw [sg_abs]; exact hr)
  have HRR := Lib.hid hr
  clear hq hr hqr hZ hbb pX pY HQ HR
  obtain ⟨a1, a2, a3, a4, a5⟩ := O_a.out
  obtain ⟨b1, b2, b3, b4, b5⟩ := O_b.out
  obtain ⟨u1, u2, u3, u4, u5⟩ := O_u.out
  obtain ⟨v1, v2, v3, v4, v5⟩ := O_v.out
  obtain ⟨z1, z2, z3, z4, z5⟩ := O_z.out
  go_wp2_with fail
  rw [HW25.out]
  clear a1 a2 a3 a4 a5 b1 b2 b3 b4 b5 u1 u2 u3 u4 u5 v1 v2 v3 v4 v5 z1 z2 z3 z4 z5 O_a O_b O_u O_v O_z
  go_upto_region 6 with fail
  go_cut [10] (VarCut w25 r m)
  case first =>
    have hbb := HBB.out
    obtain ⟨y0, y1, y2, y3, y4, _⟩ := hWy.cells
    have hh1 := hWy.lt
    obtain ⟨a1, a2, a3, a4, a5⟩ := H_a.out
    obtain ⟨b1, b2, b3, b4, b5⟩ := H_b.out
    obtain ⟨u1, u2, u3, u4, u5⟩ := H_u.out
    obtain ⟨v1, v2, v3, v4, v5⟩ := H_v.out
    obtain ⟨z1, z2, z3, z4, z5⟩ := H_z.out
    obtain ⟨g1, g2, g3, g4, g5⟩ := H_g.out
    have an : ¬ (w25.heap.size = w.heap.size) := by omega
    have am : ¬ (w.heap.size = w25.heap.size) := by omega
    have an' : ¬ ((w25.heap.size + 1) = w.heap.size) := by omega
    have am' : ¬ (w.heap.size = (w25.heap.size + 1)) := by omega
    have bn : ¬ (w25.heap.size = (w.heap.size + 1)) := by omega
    have bm : ¬ ((w.heap.size + 1) = w25.heap.size) := by omega
    have bn' : ¬ ((w25.heap.size + 1) = (w.heap.size + 1)) := by omega
    have bm' : ¬ ((w.heap.size + 1) = (w25.heap.size + 1)) := by omega
    have un : ¬ (w25.heap.size = (w.heap.size + 1 + 1)) := by omega
    have um : ¬ ((w.heap.size + 1 + 1) = w25.heap.size) := by omega
    have un' : ¬ ((w25.heap.size + 1) = (w.heap.size + 1 + 1)) := by omega
    have um' : ¬ ((w.heap.size + 1 + 1) = (w25.heap.size + 1)) := by omega
    have vn : ¬ (w25.heap.size = (w.heap.size + 1 + 1 + 1)) := by omega
    have vm : ¬ ((w.heap.size + 1 + 1 + 1) = w25.heap.size) := by omega
    have vn' : ¬ ((w25.heap.size + 1) = (w.heap.size + 1 + 1 + 1)) := by omega
    have vm' : ¬ ((w.heap.size + 1 + 1 + 1) = (w25.heap.size + 1)) := by omega
    have zn : ¬ (w25.heap.size = (w.heap.size + 1 + 1 + 1 + 1)) := by omega
    have zm : ¬ ((w.heap.size + 1 + 1 + 1 + 1) = w25.heap.size) := by omega
    have zn' : ¬ ((w25.heap.size + 1) = (w.heap.size + 1 + 1 + 1 + 1)) := by omega
    have zm' : ¬ ((w.heap.size + 1 + 1 + 1 + 1) = (w25.heap.size + 1)) := by omega
    have gn : ¬ (w25.heap.size = w24.heap.size) := by omega
    have gm : ¬ (w24.heap.size = w25.heap.size) := by omega
    have gn' : ¬ ((w25.heap.size + 1) = w24.heap.size) := by omega
    have gm' : ¬ (w24.heap.size = (w25.heap.size + 1)) := by omega
    have hhn : ¬ (w25.heap.size = h1) := by omega
    have hhm : ¬ (h1 = w25.heap.size) := by omega
    have hhn' : ¬ ((w25.heap.size + 1) = h1) := by omega
    have hhm' : ¬ (h1 = (w25.heap.size + 1)) := by omega
    go_region_held3 (fun w' => w'.cell? ⟨w.heap.size, 0, none⟩ = some (.bool s) ∧ w'.cell? ⟨h1, 2, none⟩ = some (.slice (some ⟨gx, 0, none⟩) N N) ∧ w'.cell? ⟨h1, 3, none⟩ = some (.slice (some ⟨gy, 0, none⟩) N N) ∧ w'.cell? ⟨h1, 4, none⟩ = some (.bool tt)) (go_keep) (first
      | (go_at_call 58; (with_reducible refine (zeuclid_v (zx.below (below_drew _)) (zy.below (below_drew _)) (by omega) (by omega) hy1 HQ'.out HR'.out).mono ?_); rintro e w26 ⟨s26, A26, n26, c26, t26, D26, m26, d26, rfl, pq, pr, kq, kr, B26⟩; have Q26 := zup (below_drew _) B26; obtain ⟨_, _, v2, v3, v4, _⟩ := (hWy.below Q26).cells; have hlw := (hWy.below Q26).lt; obtain ⟨ax26, ay26, af26, ag26, az26⟩ := H_a.out.below Q26; have an26 : ¬ (w26.heap.size = w.heap.size) := (by omega); have am26 : ¬ (w.heap.size = w26.heap.size) := (by omega); have an26' : ¬ ((w26.heap.size + 1) = w.heap.size) := (by omega); have am26' : ¬ (w.heap.size = (w26.heap.size + 1)) := (by omega); obtain ⟨bx26, by26, bf26, bg26, bz26⟩ := H_b.out.below Q26; have bn26 : ¬ (w26.heap.size = (w.heap.size + 1)) := (by omega); have bm26 : ¬ ((w.heap.size + 1) = w26.heap.size) := (by omega); have bn26' : ¬ ((w26.heap.size + 1) = (w.heap.size + 1)) := (by omega); have bm26' : ¬ ((w.heap.size + 1) = (w26.heap.size + 1)) := (by omega); obtain ⟨ux26, uy26, uf26, ug26, uz26⟩ := H_u.out.below Q26; have un26 : ¬ (w26.heap.size = (w.heap.size + 1 + 1)) := (by omega); have um26 : ¬ ((w.heap.size + 1 + 1) = w26.heap.size) := (by omega); have un26' : ¬ ((w26.heap.size + 1) = (w.heap.size + 1 + 1)) := (by omega); have um26' : ¬ ((w.heap.size + 1 + 1) = (w26.heap.size + 1)) := (by omega); obtain ⟨vx26, vy26, vf26, vg26, vz26⟩ := H_v.out.below Q26; have vn26 : ¬ (w26.heap.size = (w.heap.size + 1 + 1 + 1)) := (by omega); have vm26 : ¬ ((w.heap.size + 1 + 1 + 1) = w26.heap.size) := (by omega); have vn26' : ¬ ((w26.heap.size + 1) = (w.heap.size + 1 + 1 + 1)) := (by omega); have vm26' : ¬ ((w.heap.size + 1 + 1 + 1) = (w26.heap.size + 1)) := (by omega); obtain ⟨zx26, zy26, zf26, zg26, zz26⟩ := H_z.out.below Q26; have zn26 : ¬ (w26.heap.size = (w.heap.size + 1 + 1 + 1 + 1)) := (by omega); have zm26 : ¬ ((w.heap.size + 1 + 1 + 1 + 1) = w26.heap.size) := (by omega); have zn26' : ¬ ((w26.heap.size + 1) = (w.heap.size + 1 + 1 + 1 + 1)) := (by omega); have zm26' : ¬ ((w.heap.size + 1 + 1 + 1 + 1) = (w26.heap.size + 1)) := (by omega); obtain ⟨gx26, gy26, gf26, gg26, gz26⟩ := H_g.out.below Q26; have gn26 : ¬ (w26.heap.size = w24.heap.size) := (by omega); have gm26 : ¬ (w24.heap.size = w26.heap.size) := (by omega); have gn26' : ¬ ((w26.heap.size + 1) = w24.heap.size) := (by omega); have gm26' : ¬ (w24.heap.size = (w26.heap.size + 1)) := (by omega); have hhn26 : ¬ (w26.heap.size = h1) := (by omega); have hhm26 : ¬ (h1 = w26.heap.size) := (by omega); have hhn26' : ¬ ((w26.heap.size + 1) = h1) := (by omega); have hhm26' : ¬ (h1 = (w26.heap.size + 1)) := (by omega))
      | (go_at_call 58; (with_reducible refine (zeuclid_v (zx.below (zbd _ _)) (zy.below (zbd _ _)) (by omega) (by omega) hy1 HQ'.out HR'.out).mono ?_); rintro e w26 ⟨s26, A26, n26, c26, t26, D26, m26, d26, rfl, pq, pr, kq, kr, B26⟩; have Q26 := zup (zbd _ _) B26; obtain ⟨_, _, v2, v3, v4, _⟩ := (hWy.below Q26).cells; have hlw := (hWy.below Q26).lt; obtain ⟨ax26, ay26, af26, ag26, az26⟩ := H_a.out.below Q26; have an26 : ¬ (w26.heap.size = w.heap.size) := (by omega); have am26 : ¬ (w.heap.size = w26.heap.size) := (by omega); have an26' : ¬ ((w26.heap.size + 1) = w.heap.size) := (by omega); have am26' : ¬ (w.heap.size = (w26.heap.size + 1)) := (by omega); obtain ⟨bx26, by26, bf26, bg26, bz26⟩ := H_b.out.below Q26; have bn26 : ¬ (w26.heap.size = (w.heap.size + 1)) := (by omega); have bm26 : ¬ ((w.heap.size + 1) = w26.heap.size) := (by omega); have bn26' : ¬ ((w26.heap.size + 1) = (w.heap.size + 1)) := (by omega); have bm26' : ¬ ((w.heap.size + 1) = (w26.heap.size + 1)) := (by omega); obtain ⟨ux26, uy26, uf26, ug26, uz26⟩ := H_u.out.below Q26; have un26 : ¬ (w26.heap.size = (w.heap.size + 1 + 1)) := (by omega); have um26 : ¬ ((w.heap.size + 1 + 1) = w26.heap.size) := (by omega); have un26' : ¬ ((w26.heap.size + 1) = (w.heap.size + 1 + 1)) := (by omega); have um26' : ¬ ((w.heap.size + 1 + 1) = (w26.heap.size + 1)) := (by omega); obtain ⟨vx26, vy26, vf26, vg26, vz26⟩ := H_v.out.below Q26; have vn26 : ¬ (w26.heap.size = (w.heap.size + 1 + 1 + 1)) := (by omega); have vm26 : ¬ ((w.heap.size + 1 + 1 + 1) = w26.heap.size) := (by omega); have vn26' : ¬ ((w26.heap.size + 1) = (w.heap.size + 1 + 1 + 1)) := (by omega); have vm26' : ¬ ((w.heap.size + 1 + 1 + 1) = (w26.heap.size + 1)) := (by omega); obtain ⟨zx26, zy26, zf26, zg26, zz26⟩ := H_z.out.below Q26; have zn26 : ¬ (w26.heap.size = (w.heap.size + 1 + 1 + 1 + 1)) := (by omega); have zm26 : ¬ ((w.heap.size + 1 + 1 + 1 + 1) = w26.heap.size) := (by omega); have zn26' : ¬ ((w26.heap.size + 1) = (w.heap.size + 1 + 1 + 1 + 1)) := (by omega); have zm26' : ¬ ((w.heap.size + 1 + 1 + 1 + 1) = (w26.heap.size + 1)) := (by omega); obtain ⟨gx26, gy26, gf26, gg26, gz26⟩ := H_g.out.below Q26; have gn26 : ¬ (w26.heap.size = w24.heap.size) := (by omega); have gm26 : ¬ (w24.heap.size = w26.heap.size) := (by omega); have gn26' : ¬ ((w26.heap.size + 1) = w24.heap.size) := (by omega); have gm26' : ¬ (w24.heap.size = (w26.heap.size + 1)) := (by omega); have hhn26 : ¬ (w26.heap.size = h1) := (by omega); have hhm26 : ¬ (h1 = w26.heap.size) := (by omega); have hhn26' : ¬ ((w26.heap.size + 1) = h1) := (by omega); have hhm26' : ¬ (h1 = (w26.heap.size + 1)) := (by omega); have Ja := (Ib.newd w25 false none 0 0 27).below B26; have ga := Nat.le_refl w25.heap.size; have Jc := Ja; obtain ⟨jx, jy, jf, jg, jz⟩ := Jc)
      | (go_at_call 58; (with_reducible refine (zeuclid_v (zx.below (zbd2 _ _ _)) (zy.below (zbd2 _ _ _)) (by omega) (by omega) hy1 HQ'.out HR'.out).mono ?_); rintro e w26 ⟨s26, A26, n26, c26, t26, D26, m26, d26, rfl, pq, pr, kq, kr, B26⟩; have Q26 := zup (zbd2 _ _ _) B26; obtain ⟨_, _, v2, v3, v4, _⟩ := (hWy.below Q26).cells; have hlw := (hWy.below Q26).lt; obtain ⟨ax26, ay26, af26, ag26, az26⟩ := H_a.out.below Q26; have an26 : ¬ (w26.heap.size = w.heap.size) := (by omega); have am26 : ¬ (w.heap.size = w26.heap.size) := (by omega); have an26' : ¬ ((w26.heap.size + 1) = w.heap.size) := (by omega); have am26' : ¬ (w.heap.size = (w26.heap.size + 1)) := (by omega); obtain ⟨bx26, by26, bf26, bg26, bz26⟩ := H_b.out.below Q26; have bn26 : ¬ (w26.heap.size = (w.heap.size + 1)) := (by omega); have bm26 : ¬ ((w.heap.size + 1) = w26.heap.size) := (by omega); have bn26' : ¬ ((w26.heap.size + 1) = (w.heap.size + 1)) := (by omega); have bm26' : ¬ ((w.heap.size + 1) = (w26.heap.size + 1)) := (by omega); obtain ⟨ux26, uy26, uf26, ug26, uz26⟩ := H_u.out.below Q26; have un26 : ¬ (w26.heap.size = (w.heap.size + 1 + 1)) := (by omega); have um26 : ¬ ((w.heap.size + 1 + 1) = w26.heap.size) := (by omega); have un26' : ¬ ((w26.heap.size + 1) = (w.heap.size + 1 + 1)) := (by omega); have um26' : ¬ ((w.heap.size + 1 + 1) = (w26.heap.size + 1)) := (by omega); obtain ⟨vx26, vy26, vf26, vg26, vz26⟩ := H_v.out.below Q26; have vn26 : ¬ (w26.heap.size = (w.heap.size + 1 + 1 + 1)) := (by omega); have vm26 : ¬ ((w.heap.size + 1 + 1 + 1) = w26.heap.size) := (by omega); have vn26' : ¬ ((w26.heap.size + 1) = (w.heap.size + 1 + 1 + 1)) := (by omega); have vm26' : ¬ ((w.heap.size + 1 + 1 + 1) = (w26.heap.size + 1)) := (by omega); obtain ⟨zx26, zy26, zf26, zg26, zz26⟩ := H_z.out.below Q26; have zn26 : ¬ (w26.heap.size = (w.heap.size + 1 + 1 + 1 + 1)) := (by omega); have zm26 : ¬ ((w.heap.size + 1 + 1 + 1 + 1) = w26.heap.size) := (by omega); have zn26' : ¬ ((w26.heap.size + 1) = (w.heap.size + 1 + 1 + 1 + 1)) := (by omega); have zm26' : ¬ ((w.heap.size + 1 + 1 + 1 + 1) = (w26.heap.size + 1)) := (by omega); obtain ⟨gx26, gy26, gf26, gg26, gz26⟩ := H_g.out.below Q26; have gn26 : ¬ (w26.heap.size = w24.heap.size) := (by omega); have gm26 : ¬ (w24.heap.size = w26.heap.size) := (by omega); have gn26' : ¬ ((w26.heap.size + 1) = w24.heap.size) := (by omega); have gm26' : ¬ (w24.heap.size = (w26.heap.size + 1)) := (by omega); have hhn26 : ¬ (w26.heap.size = h1) := (by omega); have hhm26 : ¬ (h1 = w26.heap.size) := (by omega); have hhn26' : ¬ ((w26.heap.size + 1) = h1) := (by omega); have hhm26' : ¬ (h1 = (w26.heap.size + 1)) := (by omega); have Ja := (ibx1 w25 27).below B26; have Jb := (ibx2 w25 27).below B26; have ga := Nat.le_refl w25.heap.size; have gb := Nat.le_succ w25.heap.size; have Jc := Ja; obtain ⟨jx, jy, jf, jg, jz⟩ := Jc; have Jd := Jb; obtain ⟨jx2, jy2, jf2, jg2, jz2⟩ := Jd; have nab : ¬ (w25.heap.size = w25.heap.size + 1) := (by omega); have nba : ¬ (w25.heap.size + 1 = w25.heap.size) := (by omega))
      | fail)
    all_goals
      go_wp2_with fail
      go_meet
      first
        | (with_reducible exact VarCut.w4 (w0 := w25) (z := r) (k := m) Ja Jb (by omega) pr Q26 (by omega) (by omega) (by omega))
        | (with_reducible exact VarCut.w4 (w0 := w25) (z := r) (k := m) Jb Ja (by omega) pr Q26 (by omega) (by omega) (by omega))
        | (with_reducible exact VarCut.w3 (w0 := w25) (z := r) (k := m) Ja pr Q26 (by omega) (by omega))
        | (with_reducible exact (VarCut.put (w0 := w25) (z := r) (k := m) Ja pr Q26 (by omega) (by omega)).more (zba _ _))
        | (with_reducible exact VarCut.w1 (w0 := w25) (z := r) (k := m) _ pr Q26 (by omega))
        | (with_reducible exact (VarCut.new (w0 := w25) (z := r) (k := m) pr Q26 (by omega)).more (zba _ _))
  case rest =>
    clear zx zy hWy
    obtain ⟨g27, s27, A27, n27, c27, rfl, hg27, I27, p27, k27, B27⟩ := hcut
    obtain ⟨w27, hw27⟩ : ∃ x, x = wc := ⟨_, rfl⟩
    subst hw27
    have lt_a_x : w.heap.size < g27 := Nat.lt_of_lt_of_le H_a.out.2.2.2.2 hg27
    have lt_b_x : (w.heap.size + 1) < g27 := Nat.lt_of_lt_of_le H_b.out.2.2.2.2 hg27
    have lt_u_x : (w.heap.size + 1 + 1) < g27 := Nat.lt_of_lt_of_le H_u.out.2.2.2.2 hg27
    have lt_v_x : (w.heap.size + 1 + 1 + 1) < g27 := Nat.lt_of_lt_of_le H_v.out.2.2.2.2 hg27
    have lt_z_x : (w.heap.size + 1 + 1 + 1 + 1) < g27 := Nat.lt_of_lt_of_le H_z.out.2.2.2.2 hg27
    have lt_g_x : w24.heap.size < g27 := Nat.lt_of_lt_of_le H_g.out.2.2.2.2 hg27
    have lw_x : w.heap.size ≤ g27 := Nat.le_trans hW.size hg27
    replace H_a := Lib.hid (H_a.out.below B27)
    replace H_b := Lib.hid (H_b.out.below B27)
    replace H_u := Lib.hid (H_u.out.below B27)
    replace H_v := Lib.hid (H_v.out.below B27)
    replace H_z := Lib.hid (H_z.out.below B27)
    replace H_g := Lib.hid (H_g.out.below B27)
    replace hx := hx.below B27
    replace hy := hy.below B27
    replace pg := pg.below B27
    replace hW := hW.trans (B27.mono hW.size)
    have H_x := Lib.hid I27
    clear B27 I27 hg27
    have px := p27
    clear p27
    have hzy := HZ.out
    have HZ2 : Hid (Z * y = ((G : Nat) : Int) - r * x) := Lib.hid hzy
    clear hzy
    obtain ⟨a1, a2, a3, a4, a5⟩ := H_a.out
    obtain ⟨b1, b2, b3, b4, b5⟩ := H_b.out
    obtain ⟨u1, u2, u3, u4, u5⟩ := H_u.out
    obtain ⟨v1, v2, v3, v4, v5⟩ := H_v.out
    obtain ⟨z1, z2, z3, z4, z5⟩ := H_z.out
    obtain ⟨g1, g2, g3, g4, g5⟩ := H_g.out
    obtain ⟨x1, x2, x3, x4, x5⟩ := H_x.out
    go_wp2_with fail
    clear a1 a2 a3 a4 a5 b1 b2 b3 b4 b5 u1 u2 u3 u4 u5 v1 v2 v3 v4 v5 z1 z2 z3 z4 z5 g1 g2 g3 g4 g5 x1 x2 x3 x4 x5
    go_upto_region 7 with fail
    go_cut [12] (VarCut w27 Z (n + m + 4))
    case first =>
      obtain ⟨a1, a2, a3, a4, a5⟩ := H_a.out
      obtain ⟨b1, b2, b3, b4, b5⟩ := H_b.out
      obtain ⟨u1, u2, u3, u4, u5⟩ := H_u.out
      obtain ⟨v1, v2, v3, v4, v5⟩ := H_v.out
      obtain ⟨z1, z2, z3, z4, z5⟩ := H_z.out
      obtain ⟨g1, g2, g3, g4, g5⟩ := H_g.out
      obtain ⟨x1, x2, x3, x4, x5⟩ := H_x.out
      have an : ¬ (w27.heap.size = w.heap.size) := by omega
      have am : ¬ (w.heap.size = w27.heap.size) := by omega
      have bn : ¬ (w27.heap.size = (w.heap.size + 1)) := by omega
      have bm : ¬ ((w.heap.size + 1) = w27.heap.size) := by omega
      have un : ¬ (w27.heap.size = (w.heap.size + 1 + 1)) := by omega
      have um : ¬ ((w.heap.size + 1 + 1) = w27.heap.size) := by omega
      have vn : ¬ (w27.heap.size = (w.heap.size + 1 + 1 + 1)) := by omega
      have vm : ¬ ((w.heap.size + 1 + 1 + 1) = w27.heap.size) := by omega
      have zn : ¬ (w27.heap.size = (w.heap.size + 1 + 1 + 1 + 1)) := by omega
      have zm : ¬ ((w.heap.size + 1 + 1 + 1 + 1) = w27.heap.size) := by omega
      have gn : ¬ (w27.heap.size = w24.heap.size) := by omega
      have gm : ¬ (w24.heap.size = w27.heap.size) := by omega
      have xn : ¬ (w27.heap.size = g27) := by omega
      have xm : ¬ (g27 = w27.heap.size) := by omega
      go_region_held3 (fun w' => w'.cell? ⟨w.heap.size, 0, none⟩ = some (.bool s) ∧ w'.cell? ⟨w.heap.size, 1, none⟩ = some (.slice A n c) ∧ w'.cell? ⟨(w.heap.size + 1), 0, none⟩ = some (.bool t) ∧ w'.cell? ⟨(w.heap.size + 1), 1, none⟩ = some (.slice B m d) ∧ w'.cell? ⟨(w.heap.size + 1 + 1), 0, none⟩ = some (.bool false) ∧ w'.cell? ⟨(w.heap.size + 1 + 1), 1, none⟩ = some (.slice none 0 0) ∧ w'.cell? ⟨(w.heap.size + 1 + 1 + 1), 0, none⟩ = some (.bool false) ∧ w'.cell? ⟨(w.heap.size + 1 + 1 + 1), 1, none⟩ = some (.slice none 0 0) ∧ w'.cell? ⟨(w.heap.size + 1 + 1 + 1 + 1), 0, none⟩ = some (.bool false) ∧ w'.cell? ⟨(w.heap.size + 1 + 1 + 1 + 1), 1, none⟩ = some (.slice none 0 0) ∧ w'.cell? ⟨w24.heap.size, 0, none⟩ = some (.bool s24) ∧ w'.cell? ⟨w24.heap.size, 1, none⟩ = some (.slice A24 n24 c24) ∧ w'.cell? ⟨g27, 0, none⟩ = some (.bool s27) ∧ w'.cell? ⟨g27, 1, none⟩ = some (.slice A27 n27 c27)) (go_keep) (first
        | (go_at_call 11; (with_reducible refine (zmul_v (px.below (below_drew _)).zv (hx.below (below_drew _)) (by omega) (by omega)).mono ?_); rintro e w28 ⟨s28, A28, n28, c28, rfl, p28, k28, B28⟩; have Q28 := zup (below_drew _) B28; obtain ⟨ax28, ay28, af28, ag28, az28⟩ := H_a.out.below Q28; have an28 : ¬ (w28.heap.size = w.heap.size) := (by omega); have am28 : ¬ (w.heap.size = w28.heap.size) := (by omega); obtain ⟨bx28, by28, bf28, bg28, bz28⟩ := H_b.out.below Q28; have bn28 : ¬ (w28.heap.size = (w.heap.size + 1)) := (by omega); have bm28 : ¬ ((w.heap.size + 1) = w28.heap.size) := (by omega); obtain ⟨ux28, uy28, uf28, ug28, uz28⟩ := H_u.out.below Q28; have un28 : ¬ (w28.heap.size = (w.heap.size + 1 + 1)) := (by omega); have um28 : ¬ ((w.heap.size + 1 + 1) = w28.heap.size) := (by omega); obtain ⟨vx28, vy28, vf28, vg28, vz28⟩ := H_v.out.below Q28; have vn28 : ¬ (w28.heap.size = (w.heap.size + 1 + 1 + 1)) := (by omega); have vm28 : ¬ ((w.heap.size + 1 + 1 + 1) = w28.heap.size) := (by omega); obtain ⟨zx28, zy28, zf28, zg28, zz28⟩ := H_z.out.below Q28; have zn28 : ¬ (w28.heap.size = (w.heap.size + 1 + 1 + 1 + 1)) := (by omega); have zm28 : ¬ ((w.heap.size + 1 + 1 + 1 + 1) = w28.heap.size) := (by omega); obtain ⟨gx28, gy28, gf28, gg28, gz28⟩ := H_g.out.below Q28; have gn28 : ¬ (w28.heap.size = w24.heap.size) := (by omega); have gm28 : ¬ (w24.heap.size = w28.heap.size) := (by omega); obtain ⟨xx28, xy28, xf28, xg28, xz28⟩ := H_x.out.below Q28; have xn28 : ¬ (w28.heap.size = g27) := (by omega); have xm28 : ¬ (g27 = w28.heap.size) := (by omega))
        | (go_at_call 11; (with_reducible refine (zmul_v (px.below (zbd _ _)).zv (hx.below (zbd _ _)) (by omega) (by omega)).mono ?_); rintro e w28 ⟨s28, A28, n28, c28, rfl, p28, k28, B28⟩; have Q28 := zup (zbd _ _) B28; have J28 := (Ib.newd w27 false none 0 0 27).below B28; have g28 := Nat.le_refl w27.heap.size; obtain ⟨ax28, ay28, af28, ag28, az28⟩ := H_a.out.below Q28; have an28 : ¬ (w28.heap.size = w.heap.size) := (by omega); have am28 : ¬ (w.heap.size = w28.heap.size) := (by omega); obtain ⟨bx28, by28, bf28, bg28, bz28⟩ := H_b.out.below Q28; have bn28 : ¬ (w28.heap.size = (w.heap.size + 1)) := (by omega); have bm28 : ¬ ((w.heap.size + 1) = w28.heap.size) := (by omega); obtain ⟨ux28, uy28, uf28, ug28, uz28⟩ := H_u.out.below Q28; have un28 : ¬ (w28.heap.size = (w.heap.size + 1 + 1)) := (by omega); have um28 : ¬ ((w.heap.size + 1 + 1) = w28.heap.size) := (by omega); obtain ⟨vx28, vy28, vf28, vg28, vz28⟩ := H_v.out.below Q28; have vn28 : ¬ (w28.heap.size = (w.heap.size + 1 + 1 + 1)) := (by omega); have vm28 : ¬ ((w.heap.size + 1 + 1 + 1) = w28.heap.size) := (by omega); obtain ⟨zx28, zy28, zf28, zg28, zz28⟩ := H_z.out.below Q28; have zn28 : ¬ (w28.heap.size = (w.heap.size + 1 + 1 + 1 + 1)) := (by omega); have zm28 : ¬ ((w.heap.size + 1 + 1 + 1 + 1) = w28.heap.size) := (by omega); obtain ⟨gx28, gy28, gf28, gg28, gz28⟩ := H_g.out.below Q28; have gn28 : ¬ (w28.heap.size = w24.heap.size) := (by omega); have gm28 : ¬ (w24.heap.size = w28.heap.size) := (by omega); obtain ⟨xx28, xy28, xf28, xg28, xz28⟩ := H_x.out.below Q28; have xn28 : ¬ (w28.heap.size = g27) := (by omega); have xm28 : ¬ (g27 = w28.heap.size) := (by omega); have Jc28 := J28; obtain ⟨jx28, jy28, jf28, jg28, jz28⟩ := Jc28)
        | (go_at_call 61; (with_reducible refine (zsub_v (pg.below Q28).zv p28.zv (by omega) (by omega)).mono ?_); rintro e w29 ⟨s29, A29, n29, c29, rfl, p29, k29, B29⟩; have Q29 := zup Q28 B29; have R29 := B29; have J29 := J28.below B29; have g29 := g28; obtain ⟨ax29, ay29, af29, ag29, az29⟩ := H_a.out.below Q29; have an29 : ¬ (w29.heap.size = w.heap.size) := (by omega); have am29 : ¬ (w.heap.size = w29.heap.size) := (by omega); obtain ⟨bx29, by29, bf29, bg29, bz29⟩ := H_b.out.below Q29; have bn29 : ¬ (w29.heap.size = (w.heap.size + 1)) := (by omega); have bm29 : ¬ ((w.heap.size + 1) = w29.heap.size) := (by omega); obtain ⟨ux29, uy29, uf29, ug29, uz29⟩ := H_u.out.below Q29; have un29 : ¬ (w29.heap.size = (w.heap.size + 1 + 1)) := (by omega); have um29 : ¬ ((w.heap.size + 1 + 1) = w29.heap.size) := (by omega); obtain ⟨vx29, vy29, vf29, vg29, vz29⟩ := H_v.out.below Q29; have vn29 : ¬ (w29.heap.size = (w.heap.size + 1 + 1 + 1)) := (by omega); have vm29 : ¬ ((w.heap.size + 1 + 1 + 1) = w29.heap.size) := (by omega); obtain ⟨zx29, zy29, zf29, zg29, zz29⟩ := H_z.out.below Q29; have zn29 : ¬ (w29.heap.size = (w.heap.size + 1 + 1 + 1 + 1)) := (by omega); have zm29 : ¬ ((w.heap.size + 1 + 1 + 1 + 1) = w29.heap.size) := (by omega); obtain ⟨gx29, gy29, gf29, gg29, gz29⟩ := H_g.out.below Q29; have gn29 : ¬ (w29.heap.size = w24.heap.size) := (by omega); have gm29 : ¬ (w24.heap.size = w29.heap.size) := (by omega); obtain ⟨xx29, xy29, xf29, xg29, xz29⟩ := H_x.out.below Q29; have xn29 : ¬ (w29.heap.size = g27) := (by omega); have xm29 : ¬ (g27 = w29.heap.size) := (by omega); have Jc29 := J29; obtain ⟨jx29, jy29, jf29, jg29, jz29⟩ := Jc29)
        | (go_at_call 61; (with_reducible refine (zsub_v (pg.below Q28).zv p28.zv (by omega) (by omega)).mono ?_); rintro e w29 ⟨s29, A29, n29, c29, rfl, p29, k29, B29⟩; have Q29 := zup Q28 B29; have R29 := B29; obtain ⟨ax29, ay29, af29, ag29, az29⟩ := H_a.out.below Q29; have an29 : ¬ (w29.heap.size = w.heap.size) := (by omega); have am29 : ¬ (w.heap.size = w29.heap.size) := (by omega); obtain ⟨bx29, by29, bf29, bg29, bz29⟩ := H_b.out.below Q29; have bn29 : ¬ (w29.heap.size = (w.heap.size + 1)) := (by omega); have bm29 : ¬ ((w.heap.size + 1) = w29.heap.size) := (by omega); obtain ⟨ux29, uy29, uf29, ug29, uz29⟩ := H_u.out.below Q29; have un29 : ¬ (w29.heap.size = (w.heap.size + 1 + 1)) := (by omega); have um29 : ¬ ((w.heap.size + 1 + 1) = w29.heap.size) := (by omega); obtain ⟨vx29, vy29, vf29, vg29, vz29⟩ := H_v.out.below Q29; have vn29 : ¬ (w29.heap.size = (w.heap.size + 1 + 1 + 1)) := (by omega); have vm29 : ¬ ((w.heap.size + 1 + 1 + 1) = w29.heap.size) := (by omega); obtain ⟨zx29, zy29, zf29, zg29, zz29⟩ := H_z.out.below Q29; have zn29 : ¬ (w29.heap.size = (w.heap.size + 1 + 1 + 1 + 1)) := (by omega); have zm29 : ¬ ((w.heap.size + 1 + 1 + 1 + 1) = w29.heap.size) := (by omega); obtain ⟨gx29, gy29, gf29, gg29, gz29⟩ := H_g.out.below Q29; have gn29 : ¬ (w29.heap.size = w24.heap.size) := (by omega); have gm29 : ¬ (w24.heap.size = w29.heap.size) := (by omega); obtain ⟨xx29, xy29, xf29, xg29, xz29⟩ := H_x.out.below Q29; have xn29 : ¬ (w29.heap.size = g27) := (by omega); have xm29 : ¬ (g27 = w29.heap.size) := (by omega))
        | (go_at_call 61; (with_reducible refine (zsub_v (pg.below (zup Q28 (zba _ _))).zv (p28.below (zba _ _)).zv (by omega) (by omega)).mono ?_); rintro e w29 ⟨s29, A29, n29, c29, rfl, p29, k29, B29⟩; have Q29 := zup (zup Q28 (zba _ _)) B29; have R29 := zup (zba w28 _) B29; have J29 := (Ib.new w28 false none 0 0 27).below B29; have g29 := Q28.size; obtain ⟨ax29, ay29, af29, ag29, az29⟩ := H_a.out.below Q29; have an29 : ¬ (w29.heap.size = w.heap.size) := (by omega); have am29 : ¬ (w.heap.size = w29.heap.size) := (by omega); obtain ⟨bx29, by29, bf29, bg29, bz29⟩ := H_b.out.below Q29; have bn29 : ¬ (w29.heap.size = (w.heap.size + 1)) := (by omega); have bm29 : ¬ ((w.heap.size + 1) = w29.heap.size) := (by omega); obtain ⟨ux29, uy29, uf29, ug29, uz29⟩ := H_u.out.below Q29; have un29 : ¬ (w29.heap.size = (w.heap.size + 1 + 1)) := (by omega); have um29 : ¬ ((w.heap.size + 1 + 1) = w29.heap.size) := (by omega); obtain ⟨vx29, vy29, vf29, vg29, vz29⟩ := H_v.out.below Q29; have vn29 : ¬ (w29.heap.size = (w.heap.size + 1 + 1 + 1)) := (by omega); have vm29 : ¬ ((w.heap.size + 1 + 1 + 1) = w29.heap.size) := (by omega); obtain ⟨zx29, zy29, zf29, zg29, zz29⟩ := H_z.out.below Q29; have zn29 : ¬ (w29.heap.size = (w.heap.size + 1 + 1 + 1 + 1)) := (by omega); have zm29 : ¬ ((w.heap.size + 1 + 1 + 1 + 1) = w29.heap.size) := (by omega); obtain ⟨gx29, gy29, gf29, gg29, gz29⟩ := H_g.out.below Q29; have gn29 : ¬ (w29.heap.size = w24.heap.size) := (by omega); have gm29 : ¬ (w24.heap.size = w29.heap.size) := (by omega); obtain ⟨xx29, xy29, xf29, xg29, xz29⟩ := H_x.out.below Q29; have xn29 : ¬ (w29.heap.size = g27) := (by omega); have xm29 : ¬ (g27 = w29.heap.size) := (by omega); have Jc29 := J29; obtain ⟨jx29, jy29, jf29, jg29, jz29⟩ := Jc29)
        | (go_at_call 10; (with_reducible refine (zexact_yes p29.zv (hy.below Q29) (by omega) (by omega) h0 HZ2.out).mono ?_); rintro e w30 ⟨s30, A30, n30, c30, rfl, p30, k30, B30⟩; have Q30 := zup Q29 B30; have R30 := B30; have J30 := J29.below B30; have g30 := g29; obtain ⟨ax30, ay30, af30, ag30, az30⟩ := H_a.out.below Q30; have an30 : ¬ (w30.heap.size = w.heap.size) := (by omega); have am30 : ¬ (w.heap.size = w30.heap.size) := (by omega); obtain ⟨bx30, by30, bf30, bg30, bz30⟩ := H_b.out.below Q30; have bn30 : ¬ (w30.heap.size = (w.heap.size + 1)) := (by omega); have bm30 : ¬ ((w.heap.size + 1) = w30.heap.size) := (by omega); obtain ⟨ux30, uy30, uf30, ug30, uz30⟩ := H_u.out.below Q30; have un30 : ¬ (w30.heap.size = (w.heap.size + 1 + 1)) := (by omega); have um30 : ¬ ((w.heap.size + 1 + 1) = w30.heap.size) := (by omega); obtain ⟨vx30, vy30, vf30, vg30, vz30⟩ := H_v.out.below Q30; have vn30 : ¬ (w30.heap.size = (w.heap.size + 1 + 1 + 1)) := (by omega); have vm30 : ¬ ((w.heap.size + 1 + 1 + 1) = w30.heap.size) := (by omega); obtain ⟨zx30, zy30, zf30, zg30, zz30⟩ := H_z.out.below Q30; have zn30 : ¬ (w30.heap.size = (w.heap.size + 1 + 1 + 1 + 1)) := (by omega); have zm30 : ¬ ((w.heap.size + 1 + 1 + 1 + 1) = w30.heap.size) := (by omega); obtain ⟨gx30, gy30, gf30, gg30, gz30⟩ := H_g.out.below Q30; have gn30 : ¬ (w30.heap.size = w24.heap.size) := (by omega); have gm30 : ¬ (w24.heap.size = w30.heap.size) := (by omega); obtain ⟨xx30, xy30, xf30, xg30, xz30⟩ := H_x.out.below Q30; have xn30 : ¬ (w30.heap.size = g27) := (by omega); have xm30 : ¬ (g27 = w30.heap.size) := (by omega); have Jc30 := J30; obtain ⟨jx30, jy30, jf30, jg30, jz30⟩ := Jc30)
        | (go_at_call 10; (with_reducible refine (zexact_yes p29.zv (hy.below Q29) (by omega) (by omega) h0 HZ2.out).mono ?_); rintro e w30 ⟨s30, A30, n30, c30, rfl, p30, k30, B30⟩; have Q30 := zup Q29 B30; have R30 := B30; obtain ⟨ax30, ay30, af30, ag30, az30⟩ := H_a.out.below Q30; have an30 : ¬ (w30.heap.size = w.heap.size) := (by omega); have am30 : ¬ (w.heap.size = w30.heap.size) := (by omega); obtain ⟨bx30, by30, bf30, bg30, bz30⟩ := H_b.out.below Q30; have bn30 : ¬ (w30.heap.size = (w.heap.size + 1)) := (by omega); have bm30 : ¬ ((w.heap.size + 1) = w30.heap.size) := (by omega); obtain ⟨ux30, uy30, uf30, ug30, uz30⟩ := H_u.out.below Q30; have un30 : ¬ (w30.heap.size = (w.heap.size + 1 + 1)) := (by omega); have um30 : ¬ ((w.heap.size + 1 + 1) = w30.heap.size) := (by omega); obtain ⟨vx30, vy30, vf30, vg30, vz30⟩ := H_v.out.below Q30; have vn30 : ¬ (w30.heap.size = (w.heap.size + 1 + 1 + 1)) := (by omega); have vm30 : ¬ ((w.heap.size + 1 + 1 + 1) = w30.heap.size) := (by omega); obtain ⟨zx30, zy30, zf30, zg30, zz30⟩ := H_z.out.below Q30; have zn30 : ¬ (w30.heap.size = (w.heap.size + 1 + 1 + 1 + 1)) := (by omega); have zm30 : ¬ ((w.heap.size + 1 + 1 + 1 + 1) = w30.heap.size) := (by omega); obtain ⟨gx30, gy30, gf30, gg30, gz30⟩ := H_g.out.below Q30; have gn30 : ¬ (w30.heap.size = w24.heap.size) := (by omega); have gm30 : ¬ (w24.heap.size = w30.heap.size) := (by omega); obtain ⟨xx30, xy30, xf30, xg30, xz30⟩ := H_x.out.below Q30; have xn30 : ¬ (w30.heap.size = g27) := (by omega); have xm30 : ¬ (g27 = w30.heap.size) := (by omega))
        | (go_at_call 10; (with_reducible refine (zexact_yes (p29.below (zba _ _)).zv (hy.below (zup Q29 (zba _ _))) (by omega) (by omega) h0 HZ2.out).mono ?_); rintro e w30 ⟨s30, A30, n30, c30, rfl, p30, k30, B30⟩; have Q30 := zup (zup Q29 (zba _ _)) B30; have R30 := zup (zba w29 _) B30; have J30 := (Ib.new w29 false none 0 0 27).below B30; have g30 := Q29.size; obtain ⟨ax30, ay30, af30, ag30, az30⟩ := H_a.out.below Q30; have an30 : ¬ (w30.heap.size = w.heap.size) := (by omega); have am30 : ¬ (w.heap.size = w30.heap.size) := (by omega); obtain ⟨bx30, by30, bf30, bg30, bz30⟩ := H_b.out.below Q30; have bn30 : ¬ (w30.heap.size = (w.heap.size + 1)) := (by omega); have bm30 : ¬ ((w.heap.size + 1) = w30.heap.size) := (by omega); obtain ⟨ux30, uy30, uf30, ug30, uz30⟩ := H_u.out.below Q30; have un30 : ¬ (w30.heap.size = (w.heap.size + 1 + 1)) := (by omega); have um30 : ¬ ((w.heap.size + 1 + 1) = w30.heap.size) := (by omega); obtain ⟨vx30, vy30, vf30, vg30, vz30⟩ := H_v.out.below Q30; have vn30 : ¬ (w30.heap.size = (w.heap.size + 1 + 1 + 1)) := (by omega); have vm30 : ¬ ((w.heap.size + 1 + 1 + 1) = w30.heap.size) := (by omega); obtain ⟨zx30, zy30, zf30, zg30, zz30⟩ := H_z.out.below Q30; have zn30 : ¬ (w30.heap.size = (w.heap.size + 1 + 1 + 1 + 1)) := (by omega); have zm30 : ¬ ((w.heap.size + 1 + 1 + 1 + 1) = w30.heap.size) := (by omega); obtain ⟨gx30, gy30, gf30, gg30, gz30⟩ := H_g.out.below Q30; have gn30 : ¬ (w30.heap.size = w24.heap.size) := (by omega); have gm30 : ¬ (w24.heap.size = w30.heap.size) := (by omega); obtain ⟨xx30, xy30, xf30, xg30, xz30⟩ := H_x.out.below Q30; have xn30 : ¬ (w30.heap.size = g27) := (by omega); have xm30 : ¬ (g27 = w30.heap.size) := (by omega); have Jc30 := J30; obtain ⟨jx30, jy30, jf30, jg30, jz30⟩ := Jc30)
        | fail)
      all_goals
        first
        | have P := Lib.hid (VarCut.put (w0 := w27) (z := Z) (k := (n + m + 4)) J30 p30 Q30 g30 (by omega))
        | have P := Lib.hid (VarCut.new (w0 := w27) (z := Z) (k := (n + m + 4)) (t := 27) p30 Q30 (by omega))
        go_wp2_with fail
        go_meet
        exact P.out
    case rest =>
      obtain ⟨g31, s31, A31, n31, c31, rfl, hg31, I31, p31, k31, B31⟩ := hcut
      obtain ⟨w31, hw31⟩ : ∃ x, x = wc := ⟨_, rfl⟩
      subst hw31
      have lt_a_e : w.heap.size < g31 := Nat.lt_of_lt_of_le H_a.out.2.2.2.2 hg31
      have lt_b_e : (w.heap.size + 1) < g31 := Nat.lt_of_lt_of_le H_b.out.2.2.2.2 hg31
      have lt_u_e : (w.heap.size + 1 + 1) < g31 := Nat.lt_of_lt_of_le H_u.out.2.2.2.2 hg31
      have lt_v_e : (w.heap.size + 1 + 1 + 1) < g31 := Nat.lt_of_lt_of_le H_v.out.2.2.2.2 hg31
      have lt_z_e : (w.heap.size + 1 + 1 + 1 + 1) < g31 := Nat.lt_of_lt_of_le H_z.out.2.2.2.2 hg31
      have lt_g_e : w24.heap.size < g31 := Nat.lt_of_lt_of_le H_g.out.2.2.2.2 hg31
      have lt_x_e : g27 < g31 := Nat.lt_of_lt_of_le H_x.out.2.2.2.2 hg31
      have lw_e : w.heap.size ≤ g31 := Nat.le_trans hW.size hg31
      replace H_a := Lib.hid (H_a.out.below B31)
      replace H_b := Lib.hid (H_b.out.below B31)
      replace H_u := Lib.hid (H_u.out.below B31)
      replace H_v := Lib.hid (H_v.out.below B31)
      replace H_z := Lib.hid (H_z.out.below B31)
      replace H_g := Lib.hid (H_g.out.below B31)
      replace H_x := Lib.hid (H_x.out.below B31)
      replace hx := hx.below B31
      replace hy := hy.below B31
      replace pg := pg.below B31
      replace px := px.below B31
      replace hW := hW.trans (B31.mono hW.size)
      have H_e := Lib.hid I31
      clear B31 I31 hg31
      have pz := p31
      clear p31
      clear hx hy
      clear H_a H_b
      obtain ⟨u1, u2, u3, u4, u5⟩ := H_u.out
      obtain ⟨v1, v2, v3, v4, v5⟩ := H_v.out
      obtain ⟨z1, z2, z3, z4, z5⟩ := H_z.out
      obtain ⟨g1, g2, g3, g4, g5⟩ := H_g.out
      obtain ⟨x1, x2, x3, x4, x5⟩ := H_x.out
      obtain ⟨e1, e2, e3, e4, e5⟩ := H_e.out
      go_wp2_with fail
      clear u1 u2 u3 u4 u5 v1 v2 v3 v4 v5 z1 z2 z3 z4 z5 g1 g2 g3 g4 g5 x1 x2 x3 x4 x5 e1 e2 e3 e4 e5
      obtain ⟨u1, u2, u3, u4, u5⟩ := H_u.out
      obtain ⟨v1, v2, v3, v4, v5⟩ := H_v.out
      obtain ⟨z1, z2, z3, z4, z5⟩ := H_z.out
      obtain ⟨g1, g2, g3, g4, g5⟩ := H_g.out
      obtain ⟨x1, x2, x3, x4, x5⟩ := H_x.out
      obtain ⟨e1, e2, e3, e4, e5⟩ := H_e.out
      have qgu : ¬ (w24.heap.size = (w.heap.size + 1 + 1)) := by omega
      have qug : ¬ ((w.heap.size + 1 + 1) = w24.heap.size) := by omega
      have qgv : ¬ (w24.heap.size = (w.heap.size + 1 + 1 + 1)) := by omega
      have qvg : ¬ ((w.heap.size + 1 + 1 + 1) = w24.heap.size) := by omega
      have qgz : ¬ (w24.heap.size = (w.heap.size + 1 + 1 + 1 + 1)) := by omega
      have qzg : ¬ ((w.heap.size + 1 + 1 + 1 + 1) = w24.heap.size) := by omega
      have qxu : ¬ (g27 = (w.heap.size + 1 + 1)) := by omega
      have qux : ¬ ((w.heap.size + 1 + 1) = g27) := by omega
      have qxv : ¬ (g27 = (w.heap.size + 1 + 1 + 1)) := by omega
      have qvx : ¬ ((w.heap.size + 1 + 1 + 1) = g27) := by omega
      have qxz : ¬ (g27 = (w.heap.size + 1 + 1 + 1 + 1)) := by omega
      have qzx : ¬ ((w.heap.size + 1 + 1 + 1 + 1) = g27) := by omega
      have qeu : ¬ (g31 = (w.heap.size + 1 + 1)) := by omega
      have que : ¬ ((w.heap.size + 1 + 1) = g31) := by omega
      have qev : ¬ (g31 = (w.heap.size + 1 + 1 + 1)) := by omega
      have qve : ¬ ((w.heap.size + 1 + 1 + 1) = g31) := by omega
      have qez : ¬ (g31 = (w.heap.size + 1 + 1 + 1 + 1)) := by omega
      have qze : ¬ ((w.heap.size + 1 + 1 + 1 + 1) = g31) := by omega
      go_region
      all_goals
        have P0 := Z3Post.drew (zfin3 (w := w) pg px pz H_u.out H_v.out H_z.out (kx := n + m + 4) (ky := n + m + 4) (kz := n + m + 4) (by omega) (by omega) (by omega) (by omega) (by omega) (by omega) (by omega) (by omega) (by omega) hW)
        have hrs := drv_lt (s := bb) (u := false) (X := X0) hY0
        have hrr : ∃ z : Nat, z * Nat.gcd x.natAbs y.natAbs = y.natAbs ∧ 0 ≤ r ∧ r < z := by
          obtain ⟨R, hR, hR2⟩ := hrs
          have := HRR.out
          rw [hR2] at this
          refine ⟨Y0, by rw [HG.out, Nat.mul_comm]; exact HGY.out, ?_, ?_⟩
          · rw [← this]; simp [sg]
          · rw [← this]; simp [sg]; omega
        have P : Hid (XgPost x y (n + m + 4) w _ _) := Lib.hid ⟨_, r, Z, P0, Lib.hid (by rw [HG.out]), Lib.hid (by have := HZ2.out; omega), Lib.hid hrr⟩
        clear P0 hrs hrr
        go_wp2_with fail
        refine bodyPost_ret (v := .tuple #[.agg #[.bool s24, .slice A24 n24 c24], .agg #[.bool s27, .slice A27 n27 c27], .agg #[.bool s31, .slice A31 n31 c31]]) (by simp [results, Tryz.results30, go_sem, u1, u2, v1, v2, z1, z2]) rfl ?_
        with_reducible exact P.out
end Go.Proofs.YtbcopicoldnahaaGreat
