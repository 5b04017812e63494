/-
  The reference of layer 6: Common.
-/
import Derived.Test.YtofdbihohljmpaaModC
/-! Contract: quincunxref06.Common. -/
namespace Go.Proofs.Ytofdbihohljmpaa
open Go.RowKit
set_option linter.unusedVariables false
set_option linter.unusedSimpArgs false

/-- The divisions that are left: the greater number first, and less of both each time. -/
def CoAt (K x y k : Nat) : Prop := (k = 0 ∨ y ≤ x) ∧ x * y * 2 ^ (k - 1) < 2 ^ (K + K)
theorem CoAt.lt {K x y k : Nat} (h : CoAt K x y k) (hK : K ≤ 256) (hy : 0 < y) : k < 2000 := by
  obtain ⟨h1, h2⟩ := h
  rcases h1 with h1 | h1
  · omega
  · have h3 : 1 ≤ x * y := Nat.mul_pos (by omega) hy
    have h4 : 2 ^ (k - 1) < 2 ^ (K + K) := Nat.lt_of_le_of_lt (Nat.le_mul_of_pos_left _ h3) h2
    have := (Nat.pow_lt_pow_iff_right (show 1 < 2 by omega)).1 h4
    omega
theorem CoAt.next {K x y k : Nat} (h : CoAt K x y k) (hy : 0 < y) : CoAt K y (x % y) (k + 1) := by
  obtain ⟨h1, h2⟩ := h
  have hr : x % y < y := Nat.mod_lt _ hy
  refine ⟨.inr (by omega), ?_⟩
  rw [Nat.add_sub_cancel]
  rcases Nat.eq_zero_or_pos k with z | z
  · subst z
    simp only [Nat.zero_sub, Nat.pow_zero, Nat.mul_one] at h2 ⊢
    have := Nat.mul_le_mul_left y (Nat.mod_le x y)
    rw [Nat.mul_comm x y] at h2
    exact Nat.lt_of_le_of_lt this h2
  · have h3 : y ≤ x := by rcases h1 with h | h <;> omega
    obtain ⟨j, rfl⟩ : ∃ j, k = j + 1 := ⟨k - 1, by omega⟩
    rw [Nat.add_sub_cancel] at h2
    have hq : 1 ≤ x / y := (Nat.le_div_iff_mul_le hy).2 (by omega)
    have h4 : 2 * (x % y) ≤ x := by
      have h5 := Nat.div_add_mod x y
      have := Nat.mul_le_mul_left y hq
      omega
    have h6 : y * (x % y) * 2 ≤ x * y := by
      rw [Nat.mul_assoc, Nat.mul_comm x y]
      exact Nat.mul_le_mul_left y (by omega)
    rw [Nat.pow_succ, Nat.mul_comm (2 ^ j) 2, ← Nat.mul_assoc]
    exact Nat.lt_of_le_of_lt (Nat.mul_le_mul_right _ h6) h2
theorem CoAt.start {K x y : Nat} (hx : x < 2 ^ K) (hy : y < 2 ^ K) : CoAt K x y 0 := by
  refine ⟨.inl rfl, ?_⟩
  simp only [Nat.zero_sub, Nat.pow_zero, Nat.mul_one]
  rw [Nat.pow_add]
  exact Nat.mul_lt_mul'' hx hy
theorem words4 {n v : Nat} (h : v < 18446744073709551616 ^ n) (hn : n ≤ 4) : v < 2 ^ 256 :=
  Nat.lt_of_lt_of_le h (by rw [show (2 : Nat) ^ 256 = 18446744073709551616 ^ 4 by decide]; exact Nat.pow_le_pow_right (by omega) hn)
theorem Rz.len {w : World} {s : Bool} {A : Option Addr} {n c : Nat} {z : Int} (h : Rz w s A n c z) (hz : z.natAbs < 2 ^ 256) : n ≤ 16 := by
  have e := h.1.2.1
  rw [← e]
  exact cn_len_of_lt _ _ _ (by omega) (by rw [show (65536 : Nat) ^ 16 = 2 ^ 256 by decide]; exact hz)
/-- What Common's loop holds. -/
def CmAt (w : World) (g h : Nat) (G k : Nat) (wr : World) : Prop :=
  ∃ (x y : Nat) (s : Bool) (A : Option Addr) (n c : Nat) (t : Bool) (B : Option Addr) (m d : Nat), Ib wr g s A n c ∧ Ib wr h t B m d ∧ Rz wr s A n c (x : Int) ∧ Rz wr t B m d (y : Int) ∧ n ≤ 16 ∧ m ≤ 16 ∧ Hid (x < 2 ^ 256 ∧ y < 2 ^ 256) ∧ Hid (Nat.gcd x y = G) ∧ Hid (CoAt 256 x y k) ∧ g ≠ h ∧ w.heap.size ≤ g ∧ w.heap.size ≤ h ∧ Below w.heap.size w wr
theorem CmAt.below {w wr w1 : World} {g h G k : Nat} (H : CmAt w g h G k wr) (hb : Below wr.heap.size wr w1) : CmAt w g h G k w1 := by
  obtain ⟨x, y, s, A, n, c, t, B, m, d, I, J, px, py, hn, hm, h2, hG, hC, hne, hg, hh, hW⟩ := H
  exact ⟨x, y, s, A, n, c, t, B, m, d, I.below hb, J.below hb, px.below hb, py.below hb, hn, hm, h2, hG, hC, hne, hg, hh, hW.trans (hb.mono hW.size)⟩
theorem cm_bit {x : Nat} {b : Bool} (hb : x = 1 ↔ b = false) : (!(((x : Int) - 1).sign == 0)) = b := by
  by_cases h : x = 1
  · rw [hb.1 h, h]; rfl
  · have k : ((x : Int) - 1).sign ≠ 0 := fun k => by have := Int.sign_eq_zero_iff_zero.1 k; omega
    rw [beq_eq_false_iff_ne.2 k]
    cases b
    · exact absurd (hb.2 rfl) h
    · rfl
theorem floor_nat {s t : Bool} {x y : Nat} {q : Int} (hx : (x : Int) = sg s x) (hy : (y : Int) = sg t y) (h0 : 0 < y) (hq : dqv s t t x y = q) : (x : Int) - q * (y : Int) = ((x % y : Nat) : Int) := by
  have e := dqv_eq (s := s) (t := t) (u := t) (X := x) h0
  have ht : t = false := by
    cases t
    · rfl
    · simp [sg] at hy; omega
  obtain ⟨R, hR, h⟩ := drv_lt (s := s) (u := t) (X := x) h0
  rw [hq, ← hx, ← hy, h, ht, sg_false] at e
  have e2 : (x : Int) % (y : Int) = (R : Int) := by
    rw [← e, Int.add_comm, Int.add_mul_emod_self_right, Int.emod_eq_of_lt (by omega) (by omega)]
  push_cast
  omega
/-- The rest is written. -/
theorem CmAt.next {w wr w1 : World} {g h G k : Nat} {x y : Nat} {s t t1 : Bool} {A B B1 : Option Addr} {n c m d m1 d1 : Nat} (I : Ib wr g s A n c) (J : Ib wr h t B m d) (hy : Rz wr t B m d (y : Int)) (hm : m ≤ 16) (hne : g ≠ h) (hg : w.heap.size ≤ g) (hh : w.heap.size ≤ h) (hB : Below w.heap.size w wr)
    (hb : Below wr.heap.size wr w1) (pr : Rz w1 t1 B1 m1 d1 ((x % y : Nat) : Int)) (hm1 : m1 ≤ 16) (h2 : x < 2 ^ 256 ∧ y < 2 ^ 256) (hG : Nat.gcd x y = G) (hC : CoAt 256 x y k) (h0 : 0 < y) :
    CmAt w g h G (k + 1) ((((w1.setCell ⟨g, 0, none⟩ (.bool t)).setCell ⟨g, 1, none⟩ (.slice B m d)).setCell ⟨h, 0, none⟩ (.bool t1)).setCell ⟨h, 1, none⟩ (.slice B1 m1 d1)) := by
  have I1 := I.below hb
  have J1 := J.below hb
  have J2 : Ib (zput w1 g t B m d) h t B m d := J1.put (l := 0) (e := 0) (u := true) (C := none) (Ne.symm hne)
  refine ⟨y, x % y, t, B, m, d, t1, B1, m1, d1, I1.own.put (l := 0) (e := 0) (u := true) (C := none) hne, J2.own, ((hy.below hb).put I1).put J2, (pr.put I1).put J2, hm, hm1, Lib.hid ⟨h2.2, Nat.lt_of_le_of_lt (Nat.mod_le _ _) h2.1⟩, Lib.hid ?_, Lib.hid (hC.next h0), hne, hg, hh, below_put (below_put (hB.trans (hb.mono hB.size)) hg) hh⟩
  rw [← hG, Nat.gcd_comm x y, Nat.gcd_rec y x, Nat.gcd_comm (x % y) y]

set_option maxRecDepth 100000 in
set_option maxHeartbeats 16000000 in
/-- quincunxref06.Common, of numbers of four words. -/
theorem rcommon_v {A B : Option Addr} {n m c d : Nat} {s t b : Bool} {x y : Int} {w : World} (hx : Zv w s A n c x) (hy : Zv w t B m d y) (hn : n ≤ 4) (hm : m ≤ 4) (hb : Nat.gcd x.natAbs y.natAbs = 1 ↔ b = false) :
    Calls Try.prog 12 #[.agg #[.bool s, .slice A n c], .agg #[.bool t, .slice B m d]] w (BPost b w) := by
  have hx2 := words4 hx.lt hn
  have hy2 := words4 hy.lt hm
  have HX2 := Lib.hid hx2
  have HY2 := Lib.hid hy2
  clear hx2 hy2
  obtain ⟨w3, hw3, IA, IB, z0⟩ := open2 w s t A B n c m d
  have HW := Lib.hid hw3.symm
  replace hx := hx.below z0
  replace hy := hy.below z0
  have hW := z0
  have h3w := z0.size
  have H_a := Lib.hid IA
  have H_b := Lib.hid IB
  have HB := Lib.hid hb
  clear hw3 IA IB z0 hb
  go_enter Try.func12, Try.ntmps12
  obtain ⟨a1, a2, a3, a4, a5⟩ := H_a.out
  obtain ⟨b1, b2, b3, b4, b5⟩ := H_b.out
  go_wp2_with fail
  rw [HW.out]
  clear a1 a2 a3 a4 a5 b1 b2 b3 b4 b5
  go_upto_region 1 with fail
  go_cut [5, 6] (TwoV w3 (x.natAbs : Int) (y.natAbs : Int) 16 16)
  case first =>
    obtain ⟨a1, a2, a3, a4, a5⟩ := H_a.out
    obtain ⟨b1, b2, b3, b4, b5⟩ := H_b.out
    have an : ¬ (w3.heap.size = w.heap.size) := by omega
    have am : ¬ (w.heap.size = w3.heap.size) := by omega
    have an' : ¬ ((w3.heap.size + 1) = w.heap.size) := by omega
    have am' : ¬ (w.heap.size = (w3.heap.size + 1)) := by omega
    have bn : ¬ (w3.heap.size = (w.heap.size + 1)) := by omega
    have bm : ¬ ((w.heap.size + 1) = w3.heap.size) := by omega
    have bn' : ¬ ((w3.heap.size + 1) = (w.heap.size + 1)) := by omega
    have bm' : ¬ ((w.heap.size + 1) = (w3.heap.size + 1)) := by omega
    go_region_held3 (fun w' => w'.cell? ⟨w.heap.size, 0, none⟩ = some (.bool s) ∧ w'.cell? ⟨w.heap.size, 1, none⟩ = some (.slice A n c) ∧ w'.cell? ⟨(w.heap.size + 1), 0, none⟩ = some (.bool t) ∧ w'.cell? ⟨(w.heap.size + 1), 1, none⟩ = some (.slice B m d)) (go_keep) (first
      | (go_at_call 21; (with_reducible refine (rfrom_v (hx.below (by first | exact below_drew _ | exact zbd _ _ | exact zbd2 _ _ _)) (by omega)).mono ?_); rintro e w21 ⟨s21, A21, n21, c21, rfl, p21, k21, B21⟩; have R21 : Below w3.heap.size w3 w21 := zup (by first | exact below_drew _ | exact zbd _ _ | exact zbd2 _ _ _) B21; have Q21 : Below w3.heap.size w3 w21 := R21; (first | (have Ja21 := (ibd1v w3 46).below B21; have Jb21 := (ibd2v w3 46).below B21; have G21 := Nat.le_refl w3.heap.size) | (have Jc21 := (Ib.newd w3 false none 0 0 46).below B21; have G21 := Nat.le_refl w3.heap.size; have y21 := Jc21.2.2.2.2) | skip); obtain ⟨ax21, ay21, af21, ag21, az21⟩ := H_a.out.below Q21; have an21 : ¬ (w21.heap.size = w.heap.size) := (by omega); have am21 : ¬ (w.heap.size = w21.heap.size) := (by omega); have an21' : ¬ ((w21.heap.size + 1) = w.heap.size) := (by omega); have am21' : ¬ (w.heap.size = (w21.heap.size + 1)) := (by omega); obtain ⟨bx21, by21, bf21, bg21, bz21⟩ := H_b.out.below Q21; have bn21 : ¬ (w21.heap.size = (w.heap.size + 1)) := (by omega); have bm21 : ¬ ((w.heap.size + 1) = w21.heap.size) := (by omega); have bn21' : ¬ ((w21.heap.size + 1) = (w.heap.size + 1)) := (by omega); have bm21' : ¬ ((w.heap.size + 1) = (w21.heap.size + 1)) := (by omega); have z21 := R21.size)
      | (go_at_call 26; (with_reducible refine (rabs_v (p21.below (by first | exact Below.refl _ _ | exact zba _ _ | exact zba2 _ _ _))).mono ?_); rintro e w22 ⟨s22, A22, n22, c22, rfl, p22, k22, B22⟩; have R22 : Below w21.heap.size w21 w22 := zup (by first | exact Below.refl _ _ | exact zba _ _ | exact zba2 _ _ _) B22; have Q22 : Below w3.heap.size w3 w22 := zup Q21 R22; (first | (have Ja22 := (ib1v w21 46).below B22; have Jb22 := (ib2v w21 46).below B22; have G22 := Q21.size) | (have Jc22 := (Ib.new w21 false none 0 0 46).below B22; have G22 := Q21.size; have y22 := Jc22.2.2.2.2) | skip); (try replace Ja21 := Ja21.below R22); (try replace Jb21 := Jb21.below R22); (try replace Jc21 := Jc21.below R22); obtain ⟨ax22, ay22, af22, ag22, az22⟩ := H_a.out.below Q22; have an22 : ¬ (w22.heap.size = w.heap.size) := (by omega); have am22 : ¬ (w.heap.size = w22.heap.size) := (by omega); have an22' : ¬ ((w22.heap.size + 1) = w.heap.size) := (by omega); have am22' : ¬ (w.heap.size = (w22.heap.size + 1)) := (by omega); obtain ⟨bx22, by22, bf22, bg22, bz22⟩ := H_b.out.below Q22; have bn22 : ¬ (w22.heap.size = (w.heap.size + 1)) := (by omega); have bm22 : ¬ ((w.heap.size + 1) = w22.heap.size) := (by omega); have bn22' : ¬ ((w22.heap.size + 1) = (w.heap.size + 1)) := (by omega); have bm22' : ¬ ((w.heap.size + 1) = (w22.heap.size + 1)) := (by omega); have z22 := R22.size)
      | (go_at_call 21; (with_reducible refine (rfrom_v (hy.below (zup Q22 (by first | exact Below.refl _ _ | exact zba _ _ | exact zba2 _ _ _))) (by omega)).mono ?_); rintro e w23 ⟨s23, A23, n23, c23, rfl, p23, k23, B23⟩; have R23 : Below w22.heap.size w22 w23 := zup (by first | exact Below.refl _ _ | exact zba _ _ | exact zba2 _ _ _) B23; have Q23 : Below w3.heap.size w3 w23 := zup Q22 R23; (first | (have Ja23 := (ib1v w22 46).below B23; have Jb23 := (ib2v w22 46).below B23; have G23 := Q22.size) | (have Jc23 := (Ib.new w22 false none 0 0 46).below B23; have G23 := Q22.size; have y23 := Jc23.2.2.2.2) | skip); (try replace Ja21 := Ja21.below R23); (try replace Jb21 := Jb21.below R23); (try replace Jc21 := Jc21.below R23); (try replace Ja22 := Ja22.below R23); (try replace Jb22 := Jb22.below R23); (try replace Jc22 := Jc22.below R23); obtain ⟨ax23, ay23, af23, ag23, az23⟩ := H_a.out.below Q23; have an23 : ¬ (w23.heap.size = w.heap.size) := (by omega); have am23 : ¬ (w.heap.size = w23.heap.size) := (by omega); have an23' : ¬ ((w23.heap.size + 1) = w.heap.size) := (by omega); have am23' : ¬ (w.heap.size = (w23.heap.size + 1)) := (by omega); obtain ⟨bx23, by23, bf23, bg23, bz23⟩ := H_b.out.below Q23; have bn23 : ¬ (w23.heap.size = (w.heap.size + 1)) := (by omega); have bm23 : ¬ ((w.heap.size + 1) = w23.heap.size) := (by omega); have bn23' : ¬ ((w23.heap.size + 1) = (w.heap.size + 1)) := (by omega); have bm23' : ¬ ((w.heap.size + 1) = (w23.heap.size + 1)) := (by omega); have z23 := R23.size)
      | (go_at_call 26; (with_reducible refine (rabs_v (p23.below (by first | exact Below.refl _ _ | exact zba _ _ | exact zba2 _ _ _))).mono ?_); rintro e w24 ⟨s24, A24, n24, c24, rfl, p24, k24, B24⟩; have R24 : Below w23.heap.size w23 w24 := zup (by first | exact Below.refl _ _ | exact zba _ _ | exact zba2 _ _ _) B24; have Q24 : Below w3.heap.size w3 w24 := zup Q23 R24; (first | (have Ja24 := (ib1v w23 46).below B24; have Jb24 := (ib2v w23 46).below B24; have G24 := Q23.size) | (have Jc24 := (Ib.new w23 false none 0 0 46).below B24; have G24 := Q23.size; have y24 := Jc24.2.2.2.2) | skip); (try replace Ja21 := Ja21.below R24); (try replace Jb21 := Jb21.below R24); (try replace Jc21 := Jc21.below R24); (try replace Ja22 := Ja22.below R24); (try replace Jb22 := Jb22.below R24); (try replace Jc22 := Jc22.below R24); (try replace Ja23 := Ja23.below R24); (try replace Jb23 := Jb23.below R24); (try replace Jc23 := Jc23.below R24); obtain ⟨ax24, ay24, af24, ag24, az24⟩ := H_a.out.below Q24; have an24 : ¬ (w24.heap.size = w.heap.size) := (by omega); have am24 : ¬ (w.heap.size = w24.heap.size) := (by omega); have an24' : ¬ ((w24.heap.size + 1) = w.heap.size) := (by omega); have am24' : ¬ (w.heap.size = (w24.heap.size + 1)) := (by omega); obtain ⟨bx24, by24, bf24, bg24, bz24⟩ := H_b.out.below Q24; have bn24 : ¬ (w24.heap.size = (w.heap.size + 1)) := (by omega); have bm24 : ¬ ((w.heap.size + 1) = w24.heap.size) := (by omega); have bn24' : ¬ ((w24.heap.size + 1) = (w.heap.size + 1)) := (by omega); have bm24' : ¬ ((w.heap.size + 1) = (w24.heap.size + 1)) := (by omega); have z24 := R24.size; (try (have J_ := Jb21; have nab0 : ¬ (w3.heap.size = w3.heap.size + 1) := (by omega); have nba0 : ¬ (w3.heap.size + 1 = w3.heap.size) := (by omega))); (try (have J_ := Jc21; have J__ := Jc22; have n0_1 : ¬ (w3.heap.size = w21.heap.size) := (by omega); have m0_1 : ¬ (w21.heap.size = w3.heap.size) := (by omega))); (try (have J_ := Jc21; have J__ := Jc23; have n0_2 : ¬ (w3.heap.size = w22.heap.size) := (by omega); have m0_2 : ¬ (w22.heap.size = w3.heap.size) := (by omega))); (try (have J_ := Jc21; have J__ := Jc24; have n0_3 : ¬ (w3.heap.size = w23.heap.size) := (by omega); have m0_3 : ¬ (w23.heap.size = w3.heap.size) := (by omega))); (try (have J_ := Jb22; have nab1 : ¬ (w21.heap.size = w21.heap.size + 1) := (by omega); have nba1 : ¬ (w21.heap.size + 1 = w21.heap.size) := (by omega))); (try (have J_ := Jc22; have J__ := Jc23; have n1_2 : ¬ (w21.heap.size = w22.heap.size) := (by omega); have m1_2 : ¬ (w22.heap.size = w21.heap.size) := (by omega))); (try (have J_ := Jc22; have J__ := Jc24; have n1_3 : ¬ (w21.heap.size = w23.heap.size) := (by omega); have m1_3 : ¬ (w23.heap.size = w21.heap.size) := (by omega))); (try (have J_ := Jb23; have nab2 : ¬ (w22.heap.size = w22.heap.size + 1) := (by omega); have nba2 : ¬ (w22.heap.size + 1 = w22.heap.size) := (by omega))); (try (have J_ := Jc23; have J__ := Jc24; have n2_3 : ¬ (w22.heap.size = w23.heap.size) := (by omega); have m2_3 : ¬ (w23.heap.size = w22.heap.size) := (by omega))); (try (have J_ := Jb24; have nab3 : ¬ (w23.heap.size = w23.heap.size + 1) := (by omega); have nba3 : ¬ (w23.heap.size + 1 = w23.heap.size) := (by omega))); (try (have J_ := Ja21; obtain ⟨j1a0, j2a0, j3a0, j4a0, j5a0⟩ := J_)); (try (have J_ := Jb21; obtain ⟨j1b0, j2b0, j3b0, j4b0, j5b0⟩ := J_)); (try (have J_ := Jc21; obtain ⟨j1c0, j2c0, j3c0, j4c0, j5c0⟩ := J_)); (try (have J_ := Ja22; obtain ⟨j1a1, j2a1, j3a1, j4a1, j5a1⟩ := J_)); (try (have J_ := Jb22; obtain ⟨j1b1, j2b1, j3b1, j4b1, j5b1⟩ := J_)); (try (have J_ := Jc22; obtain ⟨j1c1, j2c1, j3c1, j4c1, j5c1⟩ := J_)); (try (have J_ := Ja23; obtain ⟨j1a2, j2a2, j3a2, j4a2, j5a2⟩ := J_)); (try (have J_ := Jb23; obtain ⟨j1b2, j2b2, j3b2, j4b2, j5b2⟩ := J_)); (try (have J_ := Jc23; obtain ⟨j1c2, j2c2, j3c2, j4c2, j5c2⟩ := J_)); (try (have J_ := Ja24; obtain ⟨j1a3, j2a3, j3a3, j4a3, j5a3⟩ := J_)); (try (have J_ := Jb24; obtain ⟨j1b3, j2b3, j3b3, j4b3, j5b3⟩ := J_)); (try (have J_ := Jc24; obtain ⟨j1c3, j2c3, j3c3, j4c3, j5c3⟩ := J_)))
      | fail)
    all_goals
      go_wp2_with fail
      go_meet
      first
        | with_reducible exact TwoV.aa (w0 := w3) (T := 46) (p22.below (zup R23 R24)) p24 Q24 (by omega) (by omega)
        | with_reducible exact (TwoV.aa (w0 := w3) (T := 46) p24 (p22.below (zup R23 R24)) Q24 (by omega) (by omega)).swap
        | with_reducible exact TwoV.pa (w0 := w3) (T := 46) Jc21 G21 (p22.below (zup R23 R24)) p24 Q24 (by omega) (by omega)
        | with_reducible exact (TwoV.pa (w0 := w3) (T := 46) Jc21 G21 p24 (p22.below (zup R23 R24)) Q24 (by omega) (by omega)).swap
        | with_reducible exact TwoV.pa (w0 := w3) (T := 46) Jc22 G22 (p22.below (zup R23 R24)) p24 Q24 (by omega) (by omega)
        | with_reducible exact (TwoV.pa (w0 := w3) (T := 46) Jc22 G22 p24 (p22.below (zup R23 R24)) Q24 (by omega) (by omega)).swap
        | with_reducible exact TwoV.pa (w0 := w3) (T := 46) Jc23 G23 (p22.below (zup R23 R24)) p24 Q24 (by omega) (by omega)
        | with_reducible exact (TwoV.pa (w0 := w3) (T := 46) Jc23 G23 p24 (p22.below (zup R23 R24)) Q24 (by omega) (by omega)).swap
        | with_reducible exact TwoV.pa (w0 := w3) (T := 46) Jc24 G24 (p22.below (zup R23 R24)) p24 Q24 (by omega) (by omega)
        | with_reducible exact (TwoV.pa (w0 := w3) (T := 46) Jc24 G24 p24 (p22.below (zup R23 R24)) Q24 (by omega) (by omega)).swap
        | with_reducible exact TwoV.pp (w0 := w3) Ja21 Jb21 G21 (Nat.le_succ_of_le G21) (by omega) (p22.below (zup R23 R24)) p24 Q24 (by omega) (by omega)
        | with_reducible exact TwoV.pp (w0 := w3) Jb21 Ja21 (Nat.le_succ_of_le G21) G21 (by omega) (p22.below (zup R23 R24)) p24 Q24 (by omega) (by omega)
        | with_reducible exact TwoV.pp (w0 := w3) Jc21 Jc22 G21 G22 (by omega) (p22.below (zup R23 R24)) p24 Q24 (by omega) (by omega)
        | with_reducible exact TwoV.pp (w0 := w3) Jc22 Jc21 G22 G21 (by omega) (p22.below (zup R23 R24)) p24 Q24 (by omega) (by omega)
        | with_reducible exact TwoV.pp (w0 := w3) Jc21 Jc23 G21 G23 (by omega) (p22.below (zup R23 R24)) p24 Q24 (by omega) (by omega)
        | with_reducible exact TwoV.pp (w0 := w3) Jc23 Jc21 G23 G21 (by omega) (p22.below (zup R23 R24)) p24 Q24 (by omega) (by omega)
        | with_reducible exact TwoV.pp (w0 := w3) Jc21 Jc24 G21 G24 (by omega) (p22.below (zup R23 R24)) p24 Q24 (by omega) (by omega)
        | with_reducible exact TwoV.pp (w0 := w3) Jc24 Jc21 G24 G21 (by omega) (p22.below (zup R23 R24)) p24 Q24 (by omega) (by omega)
        | with_reducible exact TwoV.pp (w0 := w3) Ja22 Jb22 G22 (Nat.le_succ_of_le G22) (by omega) (p22.below (zup R23 R24)) p24 Q24 (by omega) (by omega)
        | with_reducible exact TwoV.pp (w0 := w3) Jb22 Ja22 (Nat.le_succ_of_le G22) G22 (by omega) (p22.below (zup R23 R24)) p24 Q24 (by omega) (by omega)
        | with_reducible exact TwoV.pp (w0 := w3) Jc22 Jc23 G22 G23 (by omega) (p22.below (zup R23 R24)) p24 Q24 (by omega) (by omega)
        | with_reducible exact TwoV.pp (w0 := w3) Jc23 Jc22 G23 G22 (by omega) (p22.below (zup R23 R24)) p24 Q24 (by omega) (by omega)
        | with_reducible exact TwoV.pp (w0 := w3) Jc22 Jc24 G22 G24 (by omega) (p22.below (zup R23 R24)) p24 Q24 (by omega) (by omega)
        | with_reducible exact TwoV.pp (w0 := w3) Jc24 Jc22 G24 G22 (by omega) (p22.below (zup R23 R24)) p24 Q24 (by omega) (by omega)
        | with_reducible exact TwoV.pp (w0 := w3) Ja23 Jb23 G23 (Nat.le_succ_of_le G23) (by omega) (p22.below (zup R23 R24)) p24 Q24 (by omega) (by omega)
        | with_reducible exact TwoV.pp (w0 := w3) Jb23 Ja23 (Nat.le_succ_of_le G23) G23 (by omega) (p22.below (zup R23 R24)) p24 Q24 (by omega) (by omega)
        | with_reducible exact TwoV.pp (w0 := w3) Jc23 Jc24 G23 G24 (by omega) (p22.below (zup R23 R24)) p24 Q24 (by omega) (by omega)
        | with_reducible exact TwoV.pp (w0 := w3) Jc24 Jc23 G24 G23 (by omega) (p22.below (zup R23 R24)) p24 Q24 (by omega) (by omega)
        | with_reducible exact TwoV.pp (w0 := w3) Ja24 Jb24 G24 (Nat.le_succ_of_le G24) (by omega) (p22.below (zup R23 R24)) p24 Q24 (by omega) (by omega)
        | with_reducible exact TwoV.pp (w0 := w3) Jb24 Ja24 (Nat.le_succ_of_le G24) G24 (by omega) (p22.below (zup R23 R24)) p24 Q24 (by omega) (by omega)
        | fail
  case rest =>
    obtain ⟨g25, s25, A25, n25, c25, f25, t25, D25, m25, d25, rfl, rfl, hg25, hf25, hne25, I25, J25, p25, r25, k25, l25, B25⟩ := hcut
    obtain ⟨w25, hw25⟩ : ∃ x, x = wc := ⟨_, rfl⟩
    subst hw25
    replace H_a := Lib.hid (H_a.out.below B25)
    replace H_b := Lib.hid (H_b.out.below B25)
    replace hx := hx.below B25
    replace hy := hy.below B25
    replace hW := hW.trans (B25.mono hW.size)
    have H_x := Lib.hid I25
    have H_y := Lib.hid J25
    clear I25 J25
    have lwx : w.heap.size ≤ g25 := Nat.le_trans (by omega) hg25
    have lwy : w.heap.size ≤ f25 := Nat.le_trans (by omega) hf25
    have H0 : Hid (CmAt w g25 f25 (Nat.gcd x.natAbs y.natAbs) 0 w25) := Lib.hid ⟨x.natAbs, y.natAbs, s25, A25, n25, c25, t25, D25, m25, d25, H_x.out, H_y.out, p25, r25, k25, l25, Lib.hid ⟨HX2.out, HY2.out⟩, Lib.hid rfl, Lib.hid (CoAt.start HX2.out HY2.out), hne25, lwx, lwy, hW⟩
    obtain ⟨G, hG⟩ : ∃ G, Nat.gcd x.natAbs y.natAbs = G := ⟨_, rfl⟩
    rw [hG] at H0 HB
    clear HX2 HY2 hx hy p25 r25 H_a H_b H_x H_y hW B25 hG
    go_wp2_with fail
    go_loopw [7] (fun i wr => ∃ k : Nat, k ≤ 2000 ∧ i = .int .i64 (k : Int) ∧ CmAt w g25 f25 G k wr) (fun i _ => 2000 - (intOf i).toNat)
    case atStart => exact ⟨0, by omega, rfl, H0.out⟩
    case round =>
    clear H0
    obtain ⟨k, hk, rfl, x, y, s1, A1, n1, c1, t1, B1, m1, d1, IX, IY, px, py, hn1, hm1, h2, hG, hC, hne, hgx, hgy, hW⟩ := hrel
    have H_x := Lib.hid IX
    have H_y := Lib.hid IY
    clear IX IY
    have hne2 := Ne.symm hne
    obtain ⟨sy, hsy⟩ : ∃ r, (y : Int).sign = r := ⟨_, rfl⟩
    have HSY := Lib.hid hsy
    rcases Nat.eq_zero_or_pos y with rfl | h0
    · obtain rfl : sy = 0 := by rw [← hsy]; rfl
      have hxG : x = G := by have := hG.out; rwa [Nat.gcd_zero_right] at this
      obtain ⟨r, hr⟩ : ∃ r, ((x : Int) - 1).sign = r := ⟨_, rfl⟩
      have HR := Lib.hid hr
      have HBB : Hid ((r != 0) = b) := Lib.hid (by rw [← hr]; exact cm_bit (by rw [hxG]; exact HB.out))
      clear hsy hxG hr hC hG h2
      by_cases hk2 : k < 2000
      · have bk : decide (k < 2000) = true := decide_eq_true hk2
        have bk2 : decide ((k : Int) < 2000) = true := decide_eq_true (by omega)
        obtain ⟨x1, x2, x3, x4, x5⟩ := H_x.out
        obtain ⟨y1, y2, y3, y4, y5⟩ := H_y.out
        go_wp2_with fail
        clear x1 x2 x3 x4 x5 y1 y2 y3 y4 y5
        refine (rsign_v py HSY.out).mono ?_
        rintro e w61 ⟨rfl, B61⟩
        replace H_x := Lib.hid (H_x.out.below B61)
        replace H_y := Lib.hid (H_y.out.below B61)
        replace px := px.below B61
        replace py := py.below B61
        replace hW := hW.trans (B61.mono hW.size)
        clear B61
        obtain ⟨x1, x2, x3, x4, x5⟩ := H_x.out
        obtain ⟨y1, y2, y3, y4, y5⟩ := H_y.out
        go_wp2_with fail
        clear x1 x2 x3 x4 x5 y1 y2 y3 y4 y5
        obtain ⟨x1, x2, x3, x4, x5⟩ := H_x.out
        obtain ⟨y1, y2, y3, y4, y5⟩ := H_y.out
        go_region_held3 (fun w' => w'.cell? ⟨g25, 0, none⟩ = some (.bool s1) ∧ w'.cell? ⟨g25, 1, none⟩ = some (.slice A1 n1 c1) ∧ w'.cell? ⟨f25, 0, none⟩ = some (.bool t1) ∧ w'.cell? ⟨f25, 1, none⟩ = some (.slice B1 m1 d1)) (go_keep) (first
          | (go_at_call 14; (with_reducible refine (zof_v 1 (by omega) (by omega) _).mono ?_); rintro e w62 ⟨s62, A62, n62, c62, rfl, p62, k62, B62⟩; have Q62 := zup (below_drew _) B62; obtain ⟨xx62, xy62, xf62, xg62, xz62⟩ := H_x.out.below Q62; obtain ⟨yx62, yy62, yf62, yg62, yz62⟩ := H_y.out.below Q62)
          | (go_at_call 21; (with_reducible refine (rfrom_v p62.zv (by omega)).mono ?_); rintro e w63 ⟨s63, A63, n63, c63, rfl, p63, k63, B63⟩; have Q63 := zup Q62 B63; obtain ⟨xx63, xy63, xf63, xg63, xz63⟩ := H_x.out.below Q63; obtain ⟨yx63, yy63, yf63, yg63, yz63⟩ := H_y.out.below Q63)
          | (go_at_call 23; (with_reducible refine (rcmp2_v (px.below Q63) p63 (by omega) (by omega) HR.out).mono ?_); rintro e w64 ⟨rfl, B64⟩; have Q64 := zup Q63 B64; obtain ⟨xx64, xy64, xf64, xg64, xz64⟩ := H_x.out.below Q64; obtain ⟨yx64, yy64, yf64, yg64, yz64⟩ := H_y.out.below Q64)
          | fail)
        clear x1 x2 x3 x4 x5 y1 y2 y3 y4 y5 xx62 xy62 xf62 xg62 xz62 yx62 yy62 yf62 yg62 yz62 xx63 xy63 xf63 xg63 xz63 yx63 yy63 yf63 yg63 yz63 xx64 xy64 xf64 xg64 xz64 yx64 yy64 yf64 yg64 yz64
        replace H_x := Lib.hid (H_x.out.below Q64)
        replace H_y := Lib.hid (H_y.out.below Q64)
        replace px := px.below Q64
        replace py := py.below Q64
        replace hW := hW.trans (Q64.mono hW.size)
        clear B62 Q62 B63 Q63 B64 Q64 p62 p63
        go_wp2_with fail
        go_ret
        exact ⟨congrArg (fun v => Ending.returned (.bool v)) HBB.out, hW⟩
      · obtain rfl : k = 2000 := by omega
        obtain ⟨x1, x2, x3, x4, x5⟩ := H_x.out
        obtain ⟨y1, y2, y3, y4, y5⟩ := H_y.out
        go_wp2_with fail
        clear x1 x2 x3 x4 x5 y1 y2 y3 y4 y5
        obtain ⟨x1, x2, x3, x4, x5⟩ := H_x.out
        obtain ⟨y1, y2, y3, y4, y5⟩ := H_y.out
        go_region_held3 (fun w' => w'.cell? ⟨g25, 0, none⟩ = some (.bool s1) ∧ w'.cell? ⟨g25, 1, none⟩ = some (.slice A1 n1 c1) ∧ w'.cell? ⟨f25, 0, none⟩ = some (.bool t1) ∧ w'.cell? ⟨f25, 1, none⟩ = some (.slice B1 m1 d1)) (go_keep) (first
          | (go_at_call 14; (with_reducible refine (zof_v 1 (by omega) (by omega) _).mono ?_); rintro e w61 ⟨s61, A61, n61, c61, rfl, p61, k61, B61⟩; have Q61 := zup (below_drew _) B61; obtain ⟨xx61, xy61, xf61, xg61, xz61⟩ := H_x.out.below Q61; obtain ⟨yx61, yy61, yf61, yg61, yz61⟩ := H_y.out.below Q61)
          | (go_at_call 21; (with_reducible refine (rfrom_v p61.zv (by omega)).mono ?_); rintro e w62 ⟨s62, A62, n62, c62, rfl, p62, k62, B62⟩; have Q62 := zup Q61 B62; obtain ⟨xx62, xy62, xf62, xg62, xz62⟩ := H_x.out.below Q62; obtain ⟨yx62, yy62, yf62, yg62, yz62⟩ := H_y.out.below Q62)
          | (go_at_call 23; (with_reducible refine (rcmp2_v (px.below Q62) p62 (by omega) (by omega) HR.out).mono ?_); rintro e w63 ⟨rfl, B63⟩; have Q63 := zup Q62 B63; obtain ⟨xx63, xy63, xf63, xg63, xz63⟩ := H_x.out.below Q63; obtain ⟨yx63, yy63, yf63, yg63, yz63⟩ := H_y.out.below Q63)
          | fail)
        clear x1 x2 x3 x4 x5 y1 y2 y3 y4 y5 xx61 xy61 xf61 xg61 xz61 yx61 yy61 yf61 yg61 yz61 xx62 xy62 xf62 xg62 xz62 yx62 yy62 yf62 yg62 yz62 xx63 xy63 xf63 xg63 xz63 yx63 yy63 yf63 yg63 yz63
        replace H_x := Lib.hid (H_x.out.below Q63)
        replace H_y := Lib.hid (H_y.out.below Q63)
        replace px := px.below Q63
        replace py := py.below Q63
        replace hW := hW.trans (Q63.mono hW.size)
        clear B61 Q61 B62 Q62 B63 Q63 p61 p62
        go_wp2_with fail
        go_ret
        exact ⟨congrArg (fun v => Ending.returned (.bool v)) HBB.out, hW⟩
    · have hk2 := hC.out.lt (by omega) h0
      obtain rfl : sy = 1 := by rw [← hsy]; exact Int.sign_eq_one_of_pos (by omega)
      clear hsy
      have bk2 : decide ((k : Int) < 2000) = true := decide_eq_true (by omega)
      obtain ⟨x1, x2, x3, x4, x5⟩ := H_x.out
      obtain ⟨y1, y2, y3, y4, y5⟩ := H_y.out
      go_wp2_with fail
      clear x1 x2 x3 x4 x5 y1 y2 y3 y4 y5
      refine (rsign_v py HSY.out).mono ?_
      rintro e w101 ⟨rfl, B101⟩
      replace H_x := Lib.hid (H_x.out.below B101)
      replace H_y := Lib.hid (H_y.out.below B101)
      replace px := px.below B101
      replace py := py.below B101
      replace hW := hW.trans (B101.mono hW.size)
      clear B101
      have IXo := H_x
      have IYo := H_y
      have py0 := py
      have hW0 := Lib.hid hW
      obtain ⟨q, hq⟩ : ∃ q, dqv s1 t1 t1 ((x : Nat) : Int).natAbs ((y : Nat) : Int).natAbs = q := ⟨_, rfl⟩
      have HQ := Lib.hid hq
      have HE := Lib.hid (floor_nat (x := x) (y := y) (q := q) (by have := px.abs.2.out; rwa [Int.natAbs_natCast] at this) (by have := py.abs.2.out; rwa [Int.natAbs_natCast] at this) h0 (by rw [Int.natAbs_natCast, Int.natAbs_natCast] at hq; exact hq))
      clear hq
      obtain ⟨x1, x2, x3, x4, x5⟩ := H_x.out
      obtain ⟨y1, y2, y3, y4, y5⟩ := H_y.out
      go_wp2_with fail
      clear x1 x2 x3 x4 x5 y1 y2 y3 y4 y5
      refine (rfloor_v px py (by omega) (by omega) (by omega) HQ.out).mono ?_
      rintro e w102 ⟨s102, A102, n102, c102, t102, D102, m102, d102, rfl, Q, R, k102, l102, B102⟩
      have B0 := Lib.hid B102
      replace H_x := Lib.hid (H_x.out.below B102)
      replace H_y := Lib.hid (H_y.out.below B102)
      replace px := px.below B102
      replace py := py.below B102
      replace hW := hW.trans (B102.mono hW.size)
      clear B102
      rw [HE.out] at R
      have hlr : m102 ≤ 16 := R.len (by rw [Int.natAbs_natCast]; exact Nat.lt_of_le_of_lt (Nat.mod_le _ _) h2.out.1)
      have P := Lib.hid ((CmAt.next (w := w) (k := k) (G := G) (w1 := w102) IXo.out IYo.out py0 hm1 hne hgx hgy hW0.out B0.out R hlr h2.out hG.out hC.out h0).below (zba2 _ (.cells #[.bool s102, .slice A102 n102 c102] 46) (.cells #[.bool t102, .slice D102 m102 d102] 46)))
      clear HE hlr h2 hG hC R Q px py0 IXo IYo hW0 B0 HQ
      obtain ⟨x1, x2, x3, x4, x5⟩ := H_x.out
      obtain ⟨y1, y2, y3, y4, y5⟩ := H_y.out
      go_wp2_with fail
      go_roundw
      case rel => exact ⟨k + 1, by omega, by go_num, P.out⟩
      case measure => simp [intOf]; omega
end Go.Proofs.Ytofdbihohljmpaa
