/-
  The reference of layer 6: Congruent, Within.
-/
import Derived.Test.YtfdgblmegiehnaaDoorRefY
/-! Contracts: quincunxref06.Congruent, Within. -/
namespace Go.Proofs.YtfdgblmegiehnaaDoor
open Go.RowKit
set_option linter.unusedVariables false
set_option linter.unusedSimpArgs false

/-- A truth is answered; what was there is as it was. -/
def BPost (b : Bool) (w : World) (e : Ending) (w' : World) : Prop := e = .returned (.bool b) ∧ Below w.heap.size w w'
theorem openi3 (w : World) (s t u : Bool) (A B C : Option Addr) (n c m d l e : Nat) :
    ∃ w3, w3 = (((w.alloc (.cells #[.bool s, .slice A n c] 41)).alloc (.cells #[.bool t, .slice B m d] 41)).alloc (.cells #[.bool u, .slice C l e] 41)) ∧
      Ib w3 w.heap.size s A n c ∧ Ib w3 (w.heap.size + 1) t B m d ∧ Ib w3 (w.heap.size + 1 + 1) u C l e ∧ Below w.heap.size w w3 := by
  obtain ⟨w2, hw2, IA, IB, z⟩ := open2 w s t A B n c m d
  have e1 : w2.heap.size = w.heap.size + 1 + 1 := by rw [hw2]; simp
  refine ⟨w2.alloc (.cells #[.bool u, .slice C l e] 41), by rw [hw2], IA.below (zba _ _), IB.below (zba _ _), ?_, zup z (zba _ _)⟩
  rw [← e1]
  exact Ib.new _ _ _ _ _ _
/-- The rest that the reference tells, by any number but 0. -/
def Cong (a b m : Int) : Prop := m ∣ a - b
theorem rest_dvd {x y q : Int} {s t : Bool} (hx : x = sg s x.natAbs) (hy : y = sg t y.natAbs) (h0 : y ≠ 0) (hq : dqv s t t x.natAbs y.natAbs = q) : (x - q * y).sign = 0 ↔ y ∣ x := by
  have hY : 0 < y.natAbs := by omega
  have e := dqv_eq (s := s) (t := t) (u := t) (X := x.natAbs) hY
  obtain ⟨R, hR, h⟩ := drv_lt (s := s) (u := t) (X := x.natAbs) hY
  rw [hq, ← hx, ← hy, h] at e
  rw [Int.sign_eq_zero_iff_zero]
  constructor
  · intro h1
    exact ⟨q, by rw [Int.mul_comm]; omega⟩
  · intro h1
    have h2 : y ∣ x - q * y := Int.dvd_sub h1 ⟨q, Int.mul_comm _ _⟩
    have h3 : x - q * y = sg t R := by omega
    rw [h3] at h2 ⊢
    have h4 := Int.natAbs_dvd_natAbs.2 h2
    rw [sg_abs] at h4
    rcases Nat.eq_zero_or_pos R with h5 | h5
    · rw [h5]; cases t <;> rfl
    · exact absurd (Nat.le_of_dvd h5 h4) (by omega)
theorem sgn_bit {sr : Int} {P : Prop} [Decidable P] {b : Bool} (h : sr = 0 ↔ P) (hb : decide P = b) : (sr == 0) = b := by
  rw [← hb]
  rcases Int.decEq sr 0 with k | k
  · rw [beq_eq_false_iff_ne.2 k, decide_eq_false (fun q => k (h.2 q))]
  · rw [k, decide_eq_true (h.1 k)]; rfl

/-- The two variables of Congruent: a quotient and its rest. -/
def CgV (w0 : World) (x y : Int) (v1 v2 : Value) (wx : World) : Prop := ∃ q, ((x - q * y).sign = 0 ↔ y ∣ x) ∧ TwoV w0 q (x - q * y) 10000 20000 v1 v2 wx
theorem CgV.mk {w0 wx : World} {x y q : Int} {v1 v2 : Value} (h : (x - q * y).sign = 0 ↔ y ∣ x) (k : TwoV w0 q (x - q * y) 10000 20000 v1 v2 wx) : CgV w0 x y v1 v2 wx := ⟨q, h, k⟩
set_option maxRecDepth 100000 in
set_option maxHeartbeats 16000000 in
/-- quincunxref06.Congruent, by a number other than 0. -/
theorem rcong_v {A B C : Option Addr} {n m l c d e' : Nat} {s t u b : Bool} {x y z : Int} {w : World} (hx : Zv w s A n c x) (hy : Zv w t B m d y) (hz : Zv w u C l e' z) (hn : n ≤ 1000) (hm : m ≤ 1000) (hl : l ≤ 1000) (h0 : z ≠ 0) (hb : decide (z ∣ x - y) = b) :
    Calls Tryd.prog 22 #[.agg #[.bool s, .slice A n c], .agg #[.bool t, .slice B m d], .agg #[.bool u, .slice C l e']] w (BPost b w) := by
  obtain ⟨w3, hw3, IA, IB, IC, z0⟩ := openi3 w s t u A B C n c m d l e'
  have HW := Lib.hid hw3.symm
  replace hx := hx.below z0
  replace hy := hy.below z0
  replace hz := hz.below z0
  have hW := z0
  have H_a := Lib.hid IA
  have H_b := Lib.hid IB
  have H_c := Lib.hid IC
  have HB := Lib.hid hb
  clear hw3 IA IB IC z0 hb
  go_enter Tryd.func22, Tryd.ntmps22
  obtain ⟨a1, a2, a3, a4, a5⟩ := H_a.out
  obtain ⟨b1, b2, b3, b4, b5⟩ := H_b.out
  obtain ⟨c1, c2, c3, c4, c5⟩ := H_c.out
  go_wp2_with fail
  rw [HW.out]
  clear a1 a2 a3 a4 a5 b1 b2 b3 b4 b5 c1 c2 c3 c4 c5
  go_upto_region 1 with fail
  go_cut [7, 8] (CgV w3 (x - y) z)
  case first =>
    obtain ⟨a1, a2, a3, a4, a5⟩ := H_a.out
    obtain ⟨b1, b2, b3, b4, b5⟩ := H_b.out
    obtain ⟨c1, c2, c3, c4, c5⟩ := H_c.out
    have an : ¬ (w3.heap.size = w.heap.size) := by omega
    have am : ¬ (w.heap.size = w3.heap.size) := by omega
    have an' : ¬ ((w3.heap.size + 1) = w.heap.size) := by omega
    have am' : ¬ (w.heap.size = (w3.heap.size + 1)) := by omega
    have bn : ¬ (w3.heap.size = (w.heap.size + 1)) := by omega
    have bm : ¬ ((w.heap.size + 1) = w3.heap.size) := by omega
    have bn' : ¬ ((w3.heap.size + 1) = (w.heap.size + 1)) := by omega
    have bm' : ¬ ((w.heap.size + 1) = (w3.heap.size + 1)) := by omega
    have cn : ¬ (w3.heap.size = (w.heap.size + 1 + 1)) := by omega
    have cm : ¬ ((w.heap.size + 1 + 1) = w3.heap.size) := by omega
    have cn' : ¬ ((w3.heap.size + 1) = (w.heap.size + 1 + 1)) := by omega
    have cm' : ¬ ((w.heap.size + 1 + 1) = (w3.heap.size + 1)) := by omega
    go_region_held3 (fun w' => w'.cell? ⟨w.heap.size, 0, none⟩ = some (.bool s) ∧ w'.cell? ⟨w.heap.size, 1, none⟩ = some (.slice A n c) ∧ w'.cell? ⟨(w.heap.size + 1), 0, none⟩ = some (.bool t) ∧ w'.cell? ⟨(w.heap.size + 1), 1, none⟩ = some (.slice B m d) ∧ w'.cell? ⟨(w.heap.size + 1 + 1), 0, none⟩ = some (.bool u) ∧ w'.cell? ⟨(w.heap.size + 1 + 1), 1, none⟩ = some (.slice C l e')) (go_keep) (first
      | (go_at_call 34; (with_reducible refine (rfrom_v (hx.below (by first | exact below_drew _ | exact zbd _ _ | exact zbd2 _ _ _)) (by omega)).mono ?_); rintro e w21 ⟨s21, A21, n21, c21, rfl, p21, k21, B21⟩; have R21 : Below w3.heap.size w3 w21 := zup (by first | exact below_drew _ | exact zbd _ _ | exact zbd2 _ _ _) B21; have Q21 : Below w3.heap.size w3 w21 := R21; (first | (have Ja21 := (ibd1v w3 60).below B21; have Jb21 := (ibd2v w3 60).below B21; have G21 := Nat.le_refl w3.heap.size) | (have Jc21 := (Ib.newd w3 false none 0 0 60).below B21; have G21 := Nat.le_refl w3.heap.size; have y21 := Jc21.2.2.2.2) | skip); obtain ⟨ax21, ay21, af21, ag21, az21⟩ := H_a.out.below Q21; have an21 : ¬ (w21.heap.size = w.heap.size) := (by omega); have am21 : ¬ (w.heap.size = w21.heap.size) := (by omega); have an21' : ¬ ((w21.heap.size + 1) = w.heap.size) := (by omega); have am21' : ¬ (w.heap.size = (w21.heap.size + 1)) := (by omega); obtain ⟨bx21, by21, bf21, bg21, bz21⟩ := H_b.out.below Q21; have bn21 : ¬ (w21.heap.size = (w.heap.size + 1)) := (by omega); have bm21 : ¬ ((w.heap.size + 1) = w21.heap.size) := (by omega); have bn21' : ¬ ((w21.heap.size + 1) = (w.heap.size + 1)) := (by omega); have bm21' : ¬ ((w.heap.size + 1) = (w21.heap.size + 1)) := (by omega); obtain ⟨cx21, cy21, cf21, cg21, cz21⟩ := H_c.out.below Q21; have cn21 : ¬ (w21.heap.size = (w.heap.size + 1 + 1)) := (by omega); have cm21 : ¬ ((w.heap.size + 1 + 1) = w21.heap.size) := (by omega); have cn21' : ¬ ((w21.heap.size + 1) = (w.heap.size + 1 + 1)) := (by omega); have cm21' : ¬ ((w.heap.size + 1 + 1) = (w21.heap.size + 1)) := (by omega); have z21 := R21.size)
      | (go_at_call 34; (with_reducible refine (rfrom_v (hy.below (zup Q21 (by first | exact Below.refl _ _ | exact zba _ _ | exact zba2 _ _ _))) (by omega)).mono ?_); rintro e w22 ⟨s22, A22, n22, c22, rfl, p22, k22, B22⟩; have R22 : Below w21.heap.size w21 w22 := zup (by first | exact Below.refl _ _ | exact zba _ _ | exact zba2 _ _ _) B22; have Q22 : Below w3.heap.size w3 w22 := zup Q21 R22; (first | (have Ja22 := (ib1v w21 60).below B22; have Jb22 := (ib2v w21 60).below B22; have G22 := Q21.size) | (have Jc22 := (Ib.new w21 false none 0 0 60).below B22; have G22 := Q21.size; have y22 := Jc22.2.2.2.2) | skip); (try replace Ja21 := Ja21.below R22); (try replace Jb21 := Jb21.below R22); (try replace Jc21 := Jc21.below R22); obtain ⟨ax22, ay22, af22, ag22, az22⟩ := H_a.out.below Q22; have an22 : ¬ (w22.heap.size = w.heap.size) := (by omega); have am22 : ¬ (w.heap.size = w22.heap.size) := (by omega); have an22' : ¬ ((w22.heap.size + 1) = w.heap.size) := (by omega); have am22' : ¬ (w.heap.size = (w22.heap.size + 1)) := (by omega); obtain ⟨bx22, by22, bf22, bg22, bz22⟩ := H_b.out.below Q22; have bn22 : ¬ (w22.heap.size = (w.heap.size + 1)) := (by omega); have bm22 : ¬ ((w.heap.size + 1) = w22.heap.size) := (by omega); have bn22' : ¬ ((w22.heap.size + 1) = (w.heap.size + 1)) := (by omega); have bm22' : ¬ ((w.heap.size + 1) = (w22.heap.size + 1)) := (by omega); obtain ⟨cx22, cy22, cf22, cg22, cz22⟩ := H_c.out.below Q22; have cn22 : ¬ (w22.heap.size = (w.heap.size + 1 + 1)) := (by omega); have cm22 : ¬ ((w.heap.size + 1 + 1) = w22.heap.size) := (by omega); have cn22' : ¬ ((w22.heap.size + 1) = (w.heap.size + 1 + 1)) := (by omega); have cm22' : ¬ ((w.heap.size + 1 + 1) = (w22.heap.size + 1)) := (by omega); have z22 := R22.size)
      | (go_at_call 33; (with_reducible refine (rsub2_v (p21.below (zup R22 (by first | exact Below.refl _ _ | exact zba _ _ | exact zba2 _ _ _))) (p22.below (by first | exact Below.refl _ _ | exact zba _ _ | exact zba2 _ _ _)) (by omega) (by omega)).mono ?_); rintro e w23 ⟨s23, A23, n23, c23, rfl, p23, k23, B23⟩; have R23 : Below w22.heap.size w22 w23 := zup (by first | exact Below.refl _ _ | exact zba _ _ | exact zba2 _ _ _) B23; have Q23 : Below w3.heap.size w3 w23 := zup Q22 R23; (first | (have Ja23 := (ib1v w22 60).below B23; have Jb23 := (ib2v w22 60).below B23; have G23 := Q22.size) | (have Jc23 := (Ib.new w22 false none 0 0 60).below B23; have G23 := Q22.size; have y23 := Jc23.2.2.2.2) | skip); (try replace Ja21 := Ja21.below R23); (try replace Jb21 := Jb21.below R23); (try replace Jc21 := Jc21.below R23); (try replace Ja22 := Ja22.below R23); (try replace Jb22 := Jb22.below R23); (try replace Jc22 := Jc22.below R23); obtain ⟨ax23, ay23, af23, ag23, az23⟩ := H_a.out.below Q23; have an23 : ¬ (w23.heap.size = w.heap.size) := (by omega); have am23 : ¬ (w.heap.size = w23.heap.size) := (by omega); have an23' : ¬ ((w23.heap.size + 1) = w.heap.size) := (by omega); have am23' : ¬ (w.heap.size = (w23.heap.size + 1)) := (by omega); obtain ⟨bx23, by23, bf23, bg23, bz23⟩ := H_b.out.below Q23; have bn23 : ¬ (w23.heap.size = (w.heap.size + 1)) := (by omega); have bm23 : ¬ ((w.heap.size + 1) = w23.heap.size) := (by omega); have bn23' : ¬ ((w23.heap.size + 1) = (w.heap.size + 1)) := (by omega); have bm23' : ¬ ((w.heap.size + 1) = (w23.heap.size + 1)) := (by omega); obtain ⟨cx23, cy23, cf23, cg23, cz23⟩ := H_c.out.below Q23; have cn23 : ¬ (w23.heap.size = (w.heap.size + 1 + 1)) := (by omega); have cm23 : ¬ ((w.heap.size + 1 + 1) = w23.heap.size) := (by omega); have cn23' : ¬ ((w23.heap.size + 1) = (w.heap.size + 1 + 1)) := (by omega); have cm23' : ¬ ((w.heap.size + 1 + 1) = (w23.heap.size + 1)) := (by omega); have z23 := R23.size)
      | (go_at_call 34; (with_reducible refine (rfrom_v (hz.below (zup Q23 (by first | exact Below.refl _ _ | exact zba _ _ | exact zba2 _ _ _))) (by omega)).mono ?_); rintro e w24 ⟨s24, A24, n24, c24, rfl, p24, k24, B24⟩; have R24 : Below w23.heap.size w23 w24 := zup (by first | exact Below.refl _ _ | exact zba _ _ | exact zba2 _ _ _) B24; have Q24 : Below w3.heap.size w3 w24 := zup Q23 R24; (first | (have Ja24 := (ib1v w23 60).below B24; have Jb24 := (ib2v w23 60).below B24; have G24 := Q23.size) | (have Jc24 := (Ib.new w23 false none 0 0 60).below B24; have G24 := Q23.size; have y24 := Jc24.2.2.2.2) | skip); (try replace Ja21 := Ja21.below R24); (try replace Jb21 := Jb21.below R24); (try replace Jc21 := Jc21.below R24); (try replace Ja22 := Ja22.below R24); (try replace Jb22 := Jb22.below R24); (try replace Jc22 := Jc22.below R24); (try replace Ja23 := Ja23.below R24); (try replace Jb23 := Jb23.below R24); (try replace Jc23 := Jc23.below R24); obtain ⟨ax24, ay24, af24, ag24, az24⟩ := H_a.out.below Q24; have an24 : ¬ (w24.heap.size = w.heap.size) := (by omega); have am24 : ¬ (w.heap.size = w24.heap.size) := (by omega); have an24' : ¬ ((w24.heap.size + 1) = w.heap.size) := (by omega); have am24' : ¬ (w.heap.size = (w24.heap.size + 1)) := (by omega); obtain ⟨bx24, by24, bf24, bg24, bz24⟩ := H_b.out.below Q24; have bn24 : ¬ (w24.heap.size = (w.heap.size + 1)) := (by omega); have bm24 : ¬ ((w.heap.size + 1) = w24.heap.size) := (by omega); have bn24' : ¬ ((w24.heap.size + 1) = (w.heap.size + 1)) := (by omega); have bm24' : ¬ ((w.heap.size + 1) = (w24.heap.size + 1)) := (by omega); obtain ⟨cx24, cy24, cf24, cg24, cz24⟩ := H_c.out.below Q24; have cn24 : ¬ (w24.heap.size = (w.heap.size + 1 + 1)) := (by omega); have cm24 : ¬ ((w.heap.size + 1 + 1) = w24.heap.size) := (by omega); have cn24' : ¬ ((w24.heap.size + 1) = (w.heap.size + 1 + 1)) := (by omega); have cm24' : ¬ ((w.heap.size + 1 + 1) = (w24.heap.size + 1)) := (by omega); have z24 := R24.size)
      | (go_at_call 32; (with_reducible refine (rfloor_v (p23.below (zup R24 (by first | exact Below.refl _ _ | exact zba _ _ | exact zba2 _ _ _))) (p24.below (by first | exact Below.refl _ _ | exact zba _ _ | exact zba2 _ _ _)) (by omega) (by omega) h0 rfl).mono ?_); rintro e w25 ⟨s25, A25, n25, c25, t25, D25, m25, d25, rfl, p25, rs25, k25, l25, B25⟩; have R25 : Below w24.heap.size w24 w25 := zup (by first | exact Below.refl _ _ | exact zba _ _ | exact zba2 _ _ _) B25; have Q25 : Below w3.heap.size w3 w25 := zup Q24 R25; (first | (have Ja25 := (ib1v w24 60).below B25; have Jb25 := (ib2v w24 60).below B25; have G25 := Q24.size) | (have Jc25 := (Ib.new w24 false none 0 0 60).below B25; have G25 := Q24.size; have y25 := Jc25.2.2.2.2) | skip); (try replace Ja21 := Ja21.below R25); (try replace Jb21 := Jb21.below R25); (try replace Jc21 := Jc21.below R25); (try replace Ja22 := Ja22.below R25); (try replace Jb22 := Jb22.below R25); (try replace Jc22 := Jc22.below R25); (try replace Ja23 := Ja23.below R25); (try replace Jb23 := Jb23.below R25); (try replace Jc23 := Jc23.below R25); (try replace Ja24 := Ja24.below R25); (try replace Jb24 := Jb24.below R25); (try replace Jc24 := Jc24.below R25); obtain ⟨ax25, ay25, af25, ag25, az25⟩ := H_a.out.below Q25; have an25 : ¬ (w25.heap.size = w.heap.size) := (by omega); have am25 : ¬ (w.heap.size = w25.heap.size) := (by omega); have an25' : ¬ ((w25.heap.size + 1) = w.heap.size) := (by omega); have am25' : ¬ (w.heap.size = (w25.heap.size + 1)) := (by omega); obtain ⟨bx25, by25, bf25, bg25, bz25⟩ := H_b.out.below Q25; have bn25 : ¬ (w25.heap.size = (w.heap.size + 1)) := (by omega); have bm25 : ¬ ((w.heap.size + 1) = w25.heap.size) := (by omega); have bn25' : ¬ ((w25.heap.size + 1) = (w.heap.size + 1)) := (by omega); have bm25' : ¬ ((w.heap.size + 1) = (w25.heap.size + 1)) := (by omega); obtain ⟨cx25, cy25, cf25, cg25, cz25⟩ := H_c.out.below Q25; have cn25 : ¬ (w25.heap.size = (w.heap.size + 1 + 1)) := (by omega); have cm25 : ¬ ((w.heap.size + 1 + 1) = w25.heap.size) := (by omega); have cn25' : ¬ ((w25.heap.size + 1) = (w.heap.size + 1 + 1)) := (by omega); have cm25' : ¬ ((w.heap.size + 1 + 1) = (w25.heap.size + 1)) := (by omega); have z25 := R25.size; (try (have J_ := Jb21; have nab0 : ¬ (w3.heap.size = w3.heap.size + 1) := (by omega); have nba0 : ¬ (w3.heap.size + 1 = w3.heap.size) := (by omega))); (try (have J_ := Jc21; have J__ := Jc22; have n0_1 : ¬ (w3.heap.size = w21.heap.size) := (by omega); have m0_1 : ¬ (w21.heap.size = w3.heap.size) := (by omega))); (try (have J_ := Jc21; have J__ := Jc23; have n0_2 : ¬ (w3.heap.size = w22.heap.size) := (by omega); have m0_2 : ¬ (w22.heap.size = w3.heap.size) := (by omega))); (try (have J_ := Jc21; have J__ := Jc24; have n0_3 : ¬ (w3.heap.size = w23.heap.size) := (by omega); have m0_3 : ¬ (w23.heap.size = w3.heap.size) := (by omega))); (try (have J_ := Jc21; have J__ := Jc25; have n0_4 : ¬ (w3.heap.size = w24.heap.size) := (by omega); have m0_4 : ¬ (w24.heap.size = w3.heap.size) := (by omega))); (try (have J_ := Jb22; have nab1 : ¬ (w21.heap.size = w21.heap.size + 1) := (by omega); have nba1 : ¬ (w21.heap.size + 1 = w21.heap.size) := (by omega))); (try (have J_ := Jc22; have J__ := Jc23; have n1_2 : ¬ (w21.heap.size = w22.heap.size) := (by omega); have m1_2 : ¬ (w22.heap.size = w21.heap.size) := (by omega))); (try (have J_ := Jc22; have J__ := Jc24; have n1_3 : ¬ (w21.heap.size = w23.heap.size) := (by omega); have m1_3 : ¬ (w23.heap.size = w21.heap.size) := (by omega))); (try (have J_ := Jc22; have J__ := Jc25; have n1_4 : ¬ (w21.heap.size = w24.heap.size) := (by omega); have m1_4 : ¬ (w24.heap.size = w21.heap.size) := (by omega))); (try (have J_ := Jb23; have nab2 : ¬ (w22.heap.size = w22.heap.size + 1) := (by omega); have nba2 : ¬ (w22.heap.size + 1 = w22.heap.size) := (by omega))); (try (have J_ := Jc23; have J__ := Jc24; have n2_3 : ¬ (w22.heap.size = w23.heap.size) := (by omega); have m2_3 : ¬ (w23.heap.size = w22.heap.size) := (by omega))); (try (have J_ := Jc23; have J__ := Jc25; have n2_4 : ¬ (w22.heap.size = w24.heap.size) := (by omega); have m2_4 : ¬ (w24.heap.size = w22.heap.size) := (by omega))); (try (have J_ := Jb24; have nab3 : ¬ (w23.heap.size = w23.heap.size + 1) := (by omega); have nba3 : ¬ (w23.heap.size + 1 = w23.heap.size) := (by omega))); (try (have J_ := Jc24; have J__ := Jc25; have n3_4 : ¬ (w23.heap.size = w24.heap.size) := (by omega); have m3_4 : ¬ (w24.heap.size = w23.heap.size) := (by omega))); (try (have J_ := Jb25; have nab4 : ¬ (w24.heap.size = w24.heap.size + 1) := (by omega); have nba4 : ¬ (w24.heap.size + 1 = w24.heap.size) := (by omega))); (try (have J_ := Ja21; obtain ⟨j1a0, j2a0, j3a0, j4a0, j5a0⟩ := J_)); (try (have J_ := Jb21; obtain ⟨j1b0, j2b0, j3b0, j4b0, j5b0⟩ := J_)); (try (have J_ := Jc21; obtain ⟨j1c0, j2c0, j3c0, j4c0, j5c0⟩ := J_)); (try (have J_ := Ja22; obtain ⟨j1a1, j2a1, j3a1, j4a1, j5a1⟩ := J_)); (try (have J_ := Jb22; obtain ⟨j1b1, j2b1, j3b1, j4b1, j5b1⟩ := J_)); (try (have J_ := Jc22; obtain ⟨j1c1, j2c1, j3c1, j4c1, j5c1⟩ := J_)); (try (have J_ := Ja23; obtain ⟨j1a2, j2a2, j3a2, j4a2, j5a2⟩ := J_)); (try (have J_ := Jb23; obtain ⟨j1b2, j2b2, j3b2, j4b2, j5b2⟩ := J_)); (try (have J_ := Jc23; obtain ⟨j1c2, j2c2, j3c2, j4c2, j5c2⟩ := J_)); (try (have J_ := Ja24; obtain ⟨j1a3, j2a3, j3a3, j4a3, j5a3⟩ := J_)); (try (have J_ := Jb24; obtain ⟨j1b3, j2b3, j3b3, j4b3, j5b3⟩ := J_)); (try (have J_ := Jc24; obtain ⟨j1c3, j2c3, j3c3, j4c3, j5c3⟩ := J_)); (try (have J_ := Ja25; obtain ⟨j1a4, j2a4, j3a4, j4a4, j5a4⟩ := J_)); (try (have J_ := Jb25; obtain ⟨j1b4, j2b4, j3b4, j4b4, j5b4⟩ := J_)); (try (have J_ := Jc25; obtain ⟨j1c4, j2c4, j3c4, j4c4, j5c4⟩ := J_)))
      | fail)
    all_goals
      go_wp2_with fail
      go_meet
      first
        | with_reducible exact CgV.mk (rest_dvd p23.abs.2.out p24.abs.2.out h0 rfl) (TwoV.aa (w0 := w3) (T := 60) p25 rs25 Q25 (by omega) (by omega))
        | with_reducible exact CgV.mk (rest_dvd p23.abs.2.out p24.abs.2.out h0 rfl) ((TwoV.aa (w0 := w3) (T := 60) rs25 p25 Q25 (by omega) (by omega)).swap)
        | with_reducible exact CgV.mk (rest_dvd p23.abs.2.out p24.abs.2.out h0 rfl) (TwoV.pa (w0 := w3) (T := 60) Jc21 G21 p25 rs25 Q25 (by omega) (by omega))
        | with_reducible exact CgV.mk (rest_dvd p23.abs.2.out p24.abs.2.out h0 rfl) ((TwoV.pa (w0 := w3) (T := 60) Jc21 G21 rs25 p25 Q25 (by omega) (by omega)).swap)
        | with_reducible exact CgV.mk (rest_dvd p23.abs.2.out p24.abs.2.out h0 rfl) (TwoV.pa (w0 := w3) (T := 60) Jc22 G22 p25 rs25 Q25 (by omega) (by omega))
        | with_reducible exact CgV.mk (rest_dvd p23.abs.2.out p24.abs.2.out h0 rfl) ((TwoV.pa (w0 := w3) (T := 60) Jc22 G22 rs25 p25 Q25 (by omega) (by omega)).swap)
        | with_reducible exact CgV.mk (rest_dvd p23.abs.2.out p24.abs.2.out h0 rfl) (TwoV.pa (w0 := w3) (T := 60) Jc23 G23 p25 rs25 Q25 (by omega) (by omega))
        | with_reducible exact CgV.mk (rest_dvd p23.abs.2.out p24.abs.2.out h0 rfl) ((TwoV.pa (w0 := w3) (T := 60) Jc23 G23 rs25 p25 Q25 (by omega) (by omega)).swap)
        | with_reducible exact CgV.mk (rest_dvd p23.abs.2.out p24.abs.2.out h0 rfl) (TwoV.pa (w0 := w3) (T := 60) Jc24 G24 p25 rs25 Q25 (by omega) (by omega))
        | with_reducible exact CgV.mk (rest_dvd p23.abs.2.out p24.abs.2.out h0 rfl) ((TwoV.pa (w0 := w3) (T := 60) Jc24 G24 rs25 p25 Q25 (by omega) (by omega)).swap)
        | with_reducible exact CgV.mk (rest_dvd p23.abs.2.out p24.abs.2.out h0 rfl) (TwoV.pa (w0 := w3) (T := 60) Jc25 G25 p25 rs25 Q25 (by omega) (by omega))
        | with_reducible exact CgV.mk (rest_dvd p23.abs.2.out p24.abs.2.out h0 rfl) ((TwoV.pa (w0 := w3) (T := 60) Jc25 G25 rs25 p25 Q25 (by omega) (by omega)).swap)
        | with_reducible exact CgV.mk (rest_dvd p23.abs.2.out p24.abs.2.out h0 rfl) (TwoV.pp (w0 := w3) Ja21 Jb21 G21 (Nat.le_succ_of_le G21) (by omega) p25 rs25 Q25 (by omega) (by omega))
        | with_reducible exact CgV.mk (rest_dvd p23.abs.2.out p24.abs.2.out h0 rfl) (TwoV.pp (w0 := w3) Jb21 Ja21 (Nat.le_succ_of_le G21) G21 (by omega) p25 rs25 Q25 (by omega) (by omega))
        | with_reducible exact CgV.mk (rest_dvd p23.abs.2.out p24.abs.2.out h0 rfl) (TwoV.pp (w0 := w3) Jc21 Jc22 G21 G22 (by omega) p25 rs25 Q25 (by omega) (by omega))
        | with_reducible exact CgV.mk (rest_dvd p23.abs.2.out p24.abs.2.out h0 rfl) (TwoV.pp (w0 := w3) Jc22 Jc21 G22 G21 (by omega) p25 rs25 Q25 (by omega) (by omega))
        | with_reducible exact CgV.mk (rest_dvd p23.abs.2.out p24.abs.2.out h0 rfl) (TwoV.pp (w0 := w3) Jc21 Jc23 G21 G23 (by omega) p25 rs25 Q25 (by omega) (by omega))
        | with_reducible exact CgV.mk (rest_dvd p23.abs.2.out p24.abs.2.out h0 rfl) (TwoV.pp (w0 := w3) Jc23 Jc21 G23 G21 (by omega) p25 rs25 Q25 (by omega) (by omega))
        | with_reducible exact CgV.mk (rest_dvd p23.abs.2.out p24.abs.2.out h0 rfl) (TwoV.pp (w0 := w3) Jc21 Jc24 G21 G24 (by omega) p25 rs25 Q25 (by omega) (by omega))
        | with_reducible exact CgV.mk (rest_dvd p23.abs.2.out p24.abs.2.out h0 rfl) (TwoV.pp (w0 := w3) Jc24 Jc21 G24 G21 (by omega) p25 rs25 Q25 (by omega) (by omega))
        | with_reducible exact CgV.mk (rest_dvd p23.abs.2.out p24.abs.2.out h0 rfl) (TwoV.pp (w0 := w3) Jc21 Jc25 G21 G25 (by omega) p25 rs25 Q25 (by omega) (by omega))
        | with_reducible exact CgV.mk (rest_dvd p23.abs.2.out p24.abs.2.out h0 rfl) (TwoV.pp (w0 := w3) Jc25 Jc21 G25 G21 (by omega) p25 rs25 Q25 (by omega) (by omega))
        | with_reducible exact CgV.mk (rest_dvd p23.abs.2.out p24.abs.2.out h0 rfl) (TwoV.pp (w0 := w3) Ja22 Jb22 G22 (Nat.le_succ_of_le G22) (by omega) p25 rs25 Q25 (by omega) (by omega))
        | with_reducible exact CgV.mk (rest_dvd p23.abs.2.out p24.abs.2.out h0 rfl) (TwoV.pp (w0 := w3) Jb22 Ja22 (Nat.le_succ_of_le G22) G22 (by omega) p25 rs25 Q25 (by omega) (by omega))
        | with_reducible exact CgV.mk (rest_dvd p23.abs.2.out p24.abs.2.out h0 rfl) (TwoV.pp (w0 := w3) Jc22 Jc23 G22 G23 (by omega) p25 rs25 Q25 (by omega) (by omega))
        | with_reducible exact CgV.mk (rest_dvd p23.abs.2.out p24.abs.2.out h0 rfl) (TwoV.pp (w0 := w3) Jc23 Jc22 G23 G22 (by omega) p25 rs25 Q25 (by omega) (by omega))
        | with_reducible exact CgV.mk (rest_dvd p23.abs.2.out p24.abs.2.out h0 rfl) (TwoV.pp (w0 := w3) Jc22 Jc24 G22 G24 (by omega) p25 rs25 Q25 (by omega) (by omega))
        | with_reducible exact CgV.mk (rest_dvd p23.abs.2.out p24.abs.2.out h0 rfl) (TwoV.pp (w0 := w3) Jc24 Jc22 G24 G22 (by omega) p25 rs25 Q25 (by omega) (by omega))
        | with_reducible exact CgV.mk (rest_dvd p23.abs.2.out p24.abs.2.out h0 rfl) (TwoV.pp (w0 := w3) Jc22 Jc25 G22 G25 (by omega) p25 rs25 Q25 (by omega) (by omega))
        | with_reducible exact CgV.mk (rest_dvd p23.abs.2.out p24.abs.2.out h0 rfl) (TwoV.pp (w0 := w3) Jc25 Jc22 G25 G22 (by omega) p25 rs25 Q25 (by omega) (by omega))
        | with_reducible exact CgV.mk (rest_dvd p23.abs.2.out p24.abs.2.out h0 rfl) (TwoV.pp (w0 := w3) Ja23 Jb23 G23 (Nat.le_succ_of_le G23) (by omega) p25 rs25 Q25 (by omega) (by omega))
        | with_reducible exact CgV.mk (rest_dvd p23.abs.2.out p24.abs.2.out h0 rfl) (TwoV.pp (w0 := w3) Jb23 Ja23 (Nat.le_succ_of_le G23) G23 (by omega) p25 rs25 Q25 (by omega) (by omega))
        | with_reducible exact CgV.mk (rest_dvd p23.abs.2.out p24.abs.2.out h0 rfl) (TwoV.pp (w0 := w3) Jc23 Jc24 G23 G24 (by omega) p25 rs25 Q25 (by omega) (by omega))
        | with_reducible exact CgV.mk (rest_dvd p23.abs.2.out p24.abs.2.out h0 rfl) (TwoV.pp (w0 := w3) Jc24 Jc23 G24 G23 (by omega) p25 rs25 Q25 (by omega) (by omega))
        | with_reducible exact CgV.mk (rest_dvd p23.abs.2.out p24.abs.2.out h0 rfl) (TwoV.pp (w0 := w3) Jc23 Jc25 G23 G25 (by omega) p25 rs25 Q25 (by omega) (by omega))
        | with_reducible exact CgV.mk (rest_dvd p23.abs.2.out p24.abs.2.out h0 rfl) (TwoV.pp (w0 := w3) Jc25 Jc23 G25 G23 (by omega) p25 rs25 Q25 (by omega) (by omega))
        | with_reducible exact CgV.mk (rest_dvd p23.abs.2.out p24.abs.2.out h0 rfl) (TwoV.pp (w0 := w3) Ja24 Jb24 G24 (Nat.le_succ_of_le G24) (by omega) p25 rs25 Q25 (by omega) (by omega))
        | with_reducible exact CgV.mk (rest_dvd p23.abs.2.out p24.abs.2.out h0 rfl) (TwoV.pp (w0 := w3) Jb24 Ja24 (Nat.le_succ_of_le G24) G24 (by omega) p25 rs25 Q25 (by omega) (by omega))
        | with_reducible exact CgV.mk (rest_dvd p23.abs.2.out p24.abs.2.out h0 rfl) (TwoV.pp (w0 := w3) Jc24 Jc25 G24 G25 (by omega) p25 rs25 Q25 (by omega) (by omega))
        | with_reducible exact CgV.mk (rest_dvd p23.abs.2.out p24.abs.2.out h0 rfl) (TwoV.pp (w0 := w3) Jc25 Jc24 G25 G24 (by omega) p25 rs25 Q25 (by omega) (by omega))
        | with_reducible exact CgV.mk (rest_dvd p23.abs.2.out p24.abs.2.out h0 rfl) (TwoV.pp (w0 := w3) Ja25 Jb25 G25 (Nat.le_succ_of_le G25) (by omega) p25 rs25 Q25 (by omega) (by omega))
        | with_reducible exact CgV.mk (rest_dvd p23.abs.2.out p24.abs.2.out h0 rfl) (TwoV.pp (w0 := w3) Jb25 Ja25 (Nat.le_succ_of_le G25) G25 (by omega) p25 rs25 Q25 (by omega) (by omega))
        | fail
  case rest =>
    obtain ⟨Q, hQ, g26, s26, A26, n26, c26, f26, t26, D26, m26, d26, rfl, rfl, hg26, hf26, hne26, I26, J26, p26, r26, k26, l26, B26⟩ := hcut
    obtain ⟨w26, hw26⟩ : ∃ x, x = wc := ⟨_, rfl⟩
    subst hw26
    replace H_a := Lib.hid (H_a.out.below B26)
    replace H_b := Lib.hid (H_b.out.below B26)
    replace H_c := Lib.hid (H_c.out.below B26)
    replace hx := hx.below B26
    replace hy := hy.below B26
    replace hz := hz.below B26
    replace hW := hW.trans (B26.mono hW.size)
    have H_q := Lib.hid I26
    have H_r := Lib.hid J26
    clear I26 J26
    obtain ⟨sr, hsr⟩ : ∃ r, (x - y - Q * z).sign = r := ⟨_, rfl⟩
    rw [hsr] at hQ
    have HSR := Lib.hid hsr
    have hbb := sgn_bit hQ HB.out
    clear hsr hQ
    obtain ⟨a1, a2, a3, a4, a5⟩ := H_a.out
    obtain ⟨b1, b2, b3, b4, b5⟩ := H_b.out
    obtain ⟨c1, c2, c3, c4, c5⟩ := H_c.out
    obtain ⟨q1, q2, q3, q4, q5⟩ := H_q.out
    obtain ⟨r1, r2, r3, r4, r5⟩ := H_r.out
    go_wp2_with fail
    refine (rsign_v r26 HSR.out).mono ?_
    rintro e w50 ⟨rfl, B50⟩
    have P := Lib.hid (hW.trans (B50.mono hW.size))
    clear a1 a2 a3 a4 a5 b1 b2 b3 b4 b5 c1 c2 c3 c4 c5 q1 q2 q3 q4 q5 r1 r2 r3 r4 r5
    go_wp2_with fail
    go_ret
    exact ⟨rfl, P.out⟩
end Go.Proofs.YtfdgblmegiehnaaDoor
