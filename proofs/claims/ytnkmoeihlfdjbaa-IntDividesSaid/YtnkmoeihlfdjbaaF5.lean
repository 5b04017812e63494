/-
  The walk of IntDivides.
-/
import Derived.Test.YtnkmoeihlfdjbaaZintD
import Derived.Test.YtnkmoeihlfdjbaaRefY
/-! The walk of IntDivides. -/
namespace Go.Proofs.Ytnkmoeihlfdjbaa
open Go.RowKit
set_option linter.unusedVariables false
set_option linter.unusedSimpArgs false

theorem Zc.zero (w : World) : Zc w false none 0 0 0 := ⟨⟨Rd.nil _ _ _, rfl, Nat.le_refl _, by omega⟩, Lib.hid rfl⟩
theorem Rz.zero (w : World) : Rz w false none 0 0 0 := ⟨Dv.nil w, Lib.hid rfl⟩
theorem Rz.zv' {w : World} {s : Bool} {A : Option Addr} {n c : Nat} {z : Int} (h : Rz w s A n c z) : s = decide (z < 0) := h.2.out
theorem dqv_sign {s s' t u u' : Bool} {X Y : Nat} (hs : X = 0 ∨ s = s') (hu : X = 0 ∨ u = u') : dqv s t u X Y = dqv s' t u' X Y := by
  rcases Nat.eq_zero_or_pos X with h | h
  · subst h
    unfold dqv
    simp [sg]
  · rcases hs with h1 | h1
    · omega
    · rcases hu with h2 | h2
      · omega
      · rw [h1, h2]
theorem drv_sign {s s' u u' : Bool} {X Y : Nat} (hs : X = 0 ∨ s = s') (hu : X = 0 ∨ u = u') : drv s u X Y = drv s' u' X Y := by
  rcases Nat.eq_zero_or_pos X with h | h
  · subst h
    unfold drv
    simp [sg]
  · rcases hs with h1 | h1
    · omega
    · rcases hu with h2 | h2
      · omega
      · rw [h1, h2]
/-- The sign as it is written, and the number's: the same, but of 0. -/
theorem sign_as {s : Bool} {z : Int} (h : z = sg s z.natAbs) : z.natAbs = 0 ∨ s = decide (z < 0) := by
  rcases Nat.eq_zero_or_pos z.natAbs with h0 | h0
  · exact .inl h0
  · refine .inr ?_
    cases s
    · simp [sg] at h; rw [decide_eq_false (by omega)]
    · simp [sg] at h; rw [decide_eq_true (by omega)]

set_option maxRecDepth 100000 in
set_option maxHeartbeats 4000000 in
theorem idiv_zero {A B : Option Addr} {n m c d : Nat} {s t : Bool} {x y : Int} {w : World} (hx : Zv w s A n c x) (hy : Zv w t B m d y) (h1 : n ≤ 10) (h2 : m ≤ 10) (h0 : y = 0) :
    Calls Try.prog 4 #[.agg #[.bool s, .slice A n c], .agg #[.bool t, .slice B m d]] w (TruePost w) := by
  obtain ⟨w3, hw3, IA, IB, z0⟩ := open2 w s t A B n c m d
  have HW := Lib.hid hw3.symm
  have HEX := hx.abs.2
  have HEY := hy.abs.2
  replace hx := hx.below z0
  replace hy := hy.below z0
  have hW := z0
  have H_a := Lib.hid IA
  have H_b := Lib.hid IB
  clear hw3 IA IB z0
  subst h0
  go_enter Try.func4, Try.ntmps4
  obtain ⟨a1, a2, a3, a4, a5⟩ := H_a.out
  obtain ⟨b1, b2, b3, b4, b5⟩ := H_b.out
  go_wp2_with fail
  rw [HW.out]
  clear a1 a2 a3 a4 a5 b1 b2 b3 b4 b5
  refine (zawake_calls _).mono ?_
  rintro e w21 ⟨rfl, B21⟩
  replace H_a := Lib.hid (H_a.out.below B21)
  replace H_b := Lib.hid (H_b.out.below B21)
  replace hx := hx.below B21
  replace hy := hy.below B21
  replace hW := hW.trans (B21.mono hW.size)
  clear B21
  obtain ⟨a1, a2, a3, a4, a5⟩ := H_a.out
  obtain ⟨b1, b2, b3, b4, b5⟩ := H_b.out
  go_wp2_with fail
  clear a1 a2 a3 a4 a5 b1 b2 b3 b4 b5
  refine (zfew_v (k := 10) (b := true) (by omega) (by omega) (by omega) (by omega) (by rw [decide_eq_true_iff]; omega)).mono ?_
  rintro e w22 ⟨rfl, B22⟩
  replace H_a := Lib.hid (H_a.out.below B22)
  replace H_b := Lib.hid (H_b.out.below B22)
  replace hx := hx.below B22
  replace hy := hy.below B22
  replace hW := hW.trans (B22.mono hW.size)
  clear B22
  obtain ⟨a1, a2, a3, a4, a5⟩ := H_a.out
  obtain ⟨b1, b2, b3, b4, b5⟩ := H_b.out
  go_wp2_with fail
  clear a1 a2 a3 a4 a5 b1 b2 b3 b4 b5
  go_upto_region 3 with fail
  go_cut [5, 6] (TwoV w22 x 0 48 48)
  case first =>
    obtain ⟨a1, a2, a3, a4, a5⟩ := H_a.out
    obtain ⟨b1, b2, b3, b4, b5⟩ := H_b.out
    have an : ¬ (w22.heap.size = w.heap.size) := by omega
    have am : ¬ (w.heap.size = w22.heap.size) := by omega
    have an' : ¬ ((w22.heap.size + 1) = w.heap.size) := by omega
    have am' : ¬ (w.heap.size = (w22.heap.size + 1)) := by omega
    have bn : ¬ (w22.heap.size = (w.heap.size + 1)) := by omega
    have bm : ¬ ((w.heap.size + 1) = w22.heap.size) := by omega
    have bn' : ¬ ((w22.heap.size + 1) = (w.heap.size + 1)) := by omega
    have bm' : ¬ ((w.heap.size + 1) = (w22.heap.size + 1)) := by omega
    go_region_held3 (fun w' => w'.cell? ⟨w.heap.size, 0, none⟩ = some (.bool s) ∧ w'.cell? ⟨w.heap.size, 1, none⟩ = some (.slice A n c) ∧ w'.cell? ⟨(w.heap.size + 1), 0, none⟩ = some (.bool t) ∧ w'.cell? ⟨(w.heap.size + 1), 1, none⟩ = some (.slice B m d)) (go_keep) (first
      | (go_at_call 13; (with_reducible refine (rfrom_v (hx.below (below_drew _)) (by omega)).mono ?_); rintro e w23 ⟨s23, A23, n23, c23, rfl, p23, k23, B23⟩; have Q23 := zup (below_drew _) B23; obtain ⟨ax23, ay23, af23, ag23, az23⟩ := H_a.out.below Q23; have an23 : ¬ (w23.heap.size = w.heap.size) := (by omega); have am23 : ¬ (w.heap.size = w23.heap.size) := (by omega); have an23' : ¬ ((w23.heap.size + 1) = w.heap.size) := (by omega); have am23' : ¬ (w.heap.size = (w23.heap.size + 1)) := (by omega); obtain ⟨bx23, by23, bf23, bg23, bz23⟩ := H_b.out.below Q23; have bn23 : ¬ (w23.heap.size = (w.heap.size + 1)) := (by omega); have bm23 : ¬ ((w.heap.size + 1) = w23.heap.size) := (by omega); have bn23' : ¬ ((w23.heap.size + 1) = (w.heap.size + 1)) := (by omega); have bm23' : ¬ ((w.heap.size + 1) = (w23.heap.size + 1)) := (by omega))
      | (go_at_call 13; (with_reducible refine (rfrom_v (hx.below (zbd _ _)) (by omega)).mono ?_); rintro e w23 ⟨s23, A23, n23, c23, rfl, p23, k23, B23⟩; have Q23 := zup (zbd _ _) B23; obtain ⟨ax23, ay23, af23, ag23, az23⟩ := H_a.out.below Q23; have an23 : ¬ (w23.heap.size = w.heap.size) := (by omega); have am23 : ¬ (w.heap.size = w23.heap.size) := (by omega); have an23' : ¬ ((w23.heap.size + 1) = w.heap.size) := (by omega); have am23' : ¬ (w.heap.size = (w23.heap.size + 1)) := (by omega); obtain ⟨bx23, by23, bf23, bg23, bz23⟩ := H_b.out.below Q23; have bn23 : ¬ (w23.heap.size = (w.heap.size + 1)) := (by omega); have bm23 : ¬ ((w.heap.size + 1) = w23.heap.size) := (by omega); have bn23' : ¬ ((w23.heap.size + 1) = (w.heap.size + 1)) := (by omega); have bm23' : ¬ ((w.heap.size + 1) = (w23.heap.size + 1)) := (by omega); have Ja := (Ib.newd w22 false none 0 0 30).below B23; have ga := Nat.le_refl w22.heap.size; have Jc := Ja; obtain ⟨jx23a, jy23a, jf23a, jg23a, jz23a⟩ := Jc)
      | (go_at_call 13; (with_reducible refine (rfrom_v (hx.below (zbd2 _ _ _)) (by omega)).mono ?_); rintro e w23 ⟨s23, A23, n23, c23, rfl, p23, k23, B23⟩; have Q23 := zup (zbd2 _ _ _) B23; obtain ⟨ax23, ay23, af23, ag23, az23⟩ := H_a.out.below Q23; have an23 : ¬ (w23.heap.size = w.heap.size) := (by omega); have am23 : ¬ (w.heap.size = w23.heap.size) := (by omega); have an23' : ¬ ((w23.heap.size + 1) = w.heap.size) := (by omega); have am23' : ¬ (w.heap.size = (w23.heap.size + 1)) := (by omega); obtain ⟨bx23, by23, bf23, bg23, bz23⟩ := H_b.out.below Q23; have bn23 : ¬ (w23.heap.size = (w.heap.size + 1)) := (by omega); have bm23 : ¬ ((w.heap.size + 1) = w23.heap.size) := (by omega); have bn23' : ¬ ((w23.heap.size + 1) = (w.heap.size + 1)) := (by omega); have bm23' : ¬ ((w.heap.size + 1) = (w23.heap.size + 1)) := (by omega); have Ja := (ibd1v w22 30).below B23; have ga := Nat.le_refl w22.heap.size; have Jb := (ibd2v w22 30).below B23; have gb := Nat.le_succ w22.heap.size; have nab : ¬ (w22.heap.size = w22.heap.size + 1) := (by omega); have nba : ¬ (w22.heap.size + 1 = w22.heap.size) := (by omega); have Jc := Ja; obtain ⟨jx23a, jy23a, jf23a, jg23a, jz23a⟩ := Jc; have Jc := Jb; obtain ⟨jx23b, jy23b, jf23b, jg23b, jz23b⟩ := Jc)
      | (go_at_call 13; (with_reducible refine (rfrom_v (hy.below Q23) (by omega)).mono ?_); rintro e w24 ⟨s24, A24, n24, c24, rfl, p24, k24, B24⟩; have Q24 := zup Q23 B24; have J1 := (Ja).below B24; have J2 := (Jb).below B24; have g1 := ga; have g2 := gb; have n12 := nab; have n21 := nba; have pp := (p23).below B24; obtain ⟨ax24, ay24, af24, ag24, az24⟩ := H_a.out.below Q24; have an24 : ¬ (w24.heap.size = w.heap.size) := (by omega); have am24 : ¬ (w.heap.size = w24.heap.size) := (by omega); have an24' : ¬ ((w24.heap.size + 1) = w.heap.size) := (by omega); have am24' : ¬ (w.heap.size = (w24.heap.size + 1)) := (by omega); obtain ⟨bx24, by24, bf24, bg24, bz24⟩ := H_b.out.below Q24; have bn24 : ¬ (w24.heap.size = (w.heap.size + 1)) := (by omega); have bm24 : ¬ ((w.heap.size + 1) = w24.heap.size) := (by omega); have bn24' : ¬ ((w24.heap.size + 1) = (w.heap.size + 1)) := (by omega); have bm24' : ¬ ((w.heap.size + 1) = (w24.heap.size + 1)) := (by omega); have Jc := J1; obtain ⟨jx241, jy241, jf241, jg241, jz241⟩ := Jc; have Jc := J2; obtain ⟨jx242, jy242, jf242, jg242, jz242⟩ := Jc)
      | (go_at_call 13; (with_reducible refine (rfrom_v (hy.below (zup Q23 (zba _ _))) (by omega)).mono ?_); rintro e w24 ⟨s24, A24, n24, c24, rfl, p24, k24, B24⟩; have Q24 := zup (zup Q23 (zba _ _)) B24; have J1 := ((Ja).below (zba _ _)).below B24; have g1 := ga; have pp := ((p23).below (zba _ _)).below B24; have J2 := (Ib.new w23 false none 0 0 30).below B24; have g2 := Q23.size; have n12 : ¬ (w22.heap.size = w23.heap.size) := (by have := Ja.2.2.2.2; omega); have n21 : ¬ (w23.heap.size = w22.heap.size) := (by have := Ja.2.2.2.2; omega); obtain ⟨ax24, ay24, af24, ag24, az24⟩ := H_a.out.below Q24; have an24 : ¬ (w24.heap.size = w.heap.size) := (by omega); have am24 : ¬ (w.heap.size = w24.heap.size) := (by omega); have an24' : ¬ ((w24.heap.size + 1) = w.heap.size) := (by omega); have am24' : ¬ (w.heap.size = (w24.heap.size + 1)) := (by omega); obtain ⟨bx24, by24, bf24, bg24, bz24⟩ := H_b.out.below Q24; have bn24 : ¬ (w24.heap.size = (w.heap.size + 1)) := (by omega); have bm24 : ¬ ((w.heap.size + 1) = w24.heap.size) := (by omega); have bn24' : ¬ ((w24.heap.size + 1) = (w.heap.size + 1)) := (by omega); have bm24' : ¬ ((w.heap.size + 1) = (w24.heap.size + 1)) := (by omega); have Jc := J1; obtain ⟨jx241, jy241, jf241, jg241, jz241⟩ := Jc; have Jc := J2; obtain ⟨jx242, jy242, jf242, jg242, jz242⟩ := Jc)
      | (go_at_call 13; (with_reducible refine (rfrom_v (hy.below Q23) (by omega)).mono ?_); rintro e w24 ⟨s24, A24, n24, c24, rfl, p24, k24, B24⟩; have Q24 := zup Q23 B24; have J1 := (Ja).below B24; have g1 := ga; have pp := (p23).below B24; obtain ⟨ax24, ay24, af24, ag24, az24⟩ := H_a.out.below Q24; have an24 : ¬ (w24.heap.size = w.heap.size) := (by omega); have am24 : ¬ (w.heap.size = w24.heap.size) := (by omega); have an24' : ¬ ((w24.heap.size + 1) = w.heap.size) := (by omega); have am24' : ¬ (w.heap.size = (w24.heap.size + 1)) := (by omega); obtain ⟨bx24, by24, bf24, bg24, bz24⟩ := H_b.out.below Q24; have bn24 : ¬ (w24.heap.size = (w.heap.size + 1)) := (by omega); have bm24 : ¬ ((w.heap.size + 1) = w24.heap.size) := (by omega); have bn24' : ¬ ((w24.heap.size + 1) = (w.heap.size + 1)) := (by omega); have bm24' : ¬ ((w.heap.size + 1) = (w24.heap.size + 1)) := (by omega); have Jc := J1; obtain ⟨jx241, jy241, jf241, jg241, jz241⟩ := Jc)
      | (go_at_call 13; (with_reducible refine (rfrom_v (hy.below (zup Q23 (zba2 _ _ _))) (by omega)).mono ?_); rintro e w24 ⟨s24, A24, n24, c24, rfl, p24, k24, B24⟩; have Q24 := zup (zup Q23 (zba2 _ _ _)) B24; have J0 : Nat := 0; have pp := ((p23).below (zba2 _ _ _)).below B24; have J1 := (ib1v w23 30).below B24; have g1 := Q23.size; have J2 := (ib2v w23 30).below B24; have g2 := Nat.le_succ_of_le Q23.size; have n12 : ¬ (w23.heap.size = w23.heap.size + 1) := (by omega); have n21 : ¬ (w23.heap.size + 1 = w23.heap.size) := (by omega); obtain ⟨ax24, ay24, af24, ag24, az24⟩ := H_a.out.below Q24; have an24 : ¬ (w24.heap.size = w.heap.size) := (by omega); have am24 : ¬ (w.heap.size = w24.heap.size) := (by omega); have an24' : ¬ ((w24.heap.size + 1) = w.heap.size) := (by omega); have am24' : ¬ (w.heap.size = (w24.heap.size + 1)) := (by omega); obtain ⟨bx24, by24, bf24, bg24, bz24⟩ := H_b.out.below Q24; have bn24 : ¬ (w24.heap.size = (w.heap.size + 1)) := (by omega); have bm24 : ¬ ((w.heap.size + 1) = w24.heap.size) := (by omega); have bn24' : ¬ ((w24.heap.size + 1) = (w.heap.size + 1)) := (by omega); have bm24' : ¬ ((w.heap.size + 1) = (w24.heap.size + 1)) := (by omega); have Jc := J1; obtain ⟨jx241, jy241, jf241, jg241, jz241⟩ := Jc; have Jc := J2; obtain ⟨jx242, jy242, jf242, jg242, jz242⟩ := Jc)
      | (go_at_call 13; (with_reducible refine (rfrom_v (hy.below (zup Q23 (zba _ _))) (by omega)).mono ?_); rintro e w24 ⟨s24, A24, n24, c24, rfl, p24, k24, B24⟩; have Q24 := zup (zup Q23 (zba _ _)) B24; have J0 : Nat := 0; have pp := ((p23).below (zba _ _)).below B24; have J1 := (Ib.new w23 false none 0 0 30).below B24; have g1 := Q23.size; obtain ⟨ax24, ay24, af24, ag24, az24⟩ := H_a.out.below Q24; have an24 : ¬ (w24.heap.size = w.heap.size) := (by omega); have am24 : ¬ (w.heap.size = w24.heap.size) := (by omega); have an24' : ¬ ((w24.heap.size + 1) = w.heap.size) := (by omega); have am24' : ¬ (w.heap.size = (w24.heap.size + 1)) := (by omega); obtain ⟨bx24, by24, bf24, bg24, bz24⟩ := H_b.out.below Q24; have bn24 : ¬ (w24.heap.size = (w.heap.size + 1)) := (by omega); have bm24 : ¬ ((w.heap.size + 1) = w24.heap.size) := (by omega); have bn24' : ¬ ((w24.heap.size + 1) = (w.heap.size + 1)) := (by omega); have bm24' : ¬ ((w.heap.size + 1) = (w24.heap.size + 1)) := (by omega); have Jc := J1; obtain ⟨jx241, jy241, jf241, jg241, jz241⟩ := Jc)
      | (go_at_call 13; (with_reducible refine (rfrom_v (hy.below Q23) (by omega)).mono ?_); rintro e w24 ⟨s24, A24, n24, c24, rfl, p24, k24, B24⟩; have Q24 := zup Q23 B24; have J0 : Nat := 0; have pp := (p23).below B24; obtain ⟨ax24, ay24, af24, ag24, az24⟩ := H_a.out.below Q24; have an24 : ¬ (w24.heap.size = w.heap.size) := (by omega); have am24 : ¬ (w.heap.size = w24.heap.size) := (by omega); have an24' : ¬ ((w24.heap.size + 1) = w.heap.size) := (by omega); have am24' : ¬ (w.heap.size = (w24.heap.size + 1)) := (by omega); obtain ⟨bx24, by24, bf24, bg24, bz24⟩ := H_b.out.below Q24; have bn24 : ¬ (w24.heap.size = (w.heap.size + 1)) := (by omega); have bm24 : ¬ ((w.heap.size + 1) = w24.heap.size) := (by omega); have bn24' : ¬ ((w24.heap.size + 1) = (w.heap.size + 1)) := (by omega); have bm24' : ¬ ((w.heap.size + 1) = (w24.heap.size + 1)) := (by omega))
      | fail)
    all_goals
      first
        | have P := Lib.hid (TwoV.pp (w0 := w22) (x := x) (y := 0) (kx := 48) (ky := 48) J1 J2 g1 g2 n12 pp p24 Q24 (by omega) (by omega)); have P' := Lib.hid (TwoV.pp (w0 := w22) (x := x) (y := 0) (kx := 48) (ky := 48) J2 J1 g2 g1 n21 pp p24 Q24 (by omega) (by omega))
        | have P := Lib.hid (TwoV.pa (w0 := w22) (x := x) (y := 0) (kx := 48) (ky := 48) (T := 30) J1 g1 pp p24 Q24 (by omega) (by omega)); have P' := Lib.hid (TwoV.pa (w0 := w22) (x := 0) (y := x) (kx := 48) (ky := 48) (T := 30) J1 g1 p24 pp Q24 (by omega) (by omega)).swap
        | have P := Lib.hid (TwoV.aa (w0 := w22) (x := x) (y := 0) (kx := 48) (ky := 48) (T := 30) pp p24 Q24 (by omega) (by omega)); have P' := Lib.hid (TwoV.aa (w0 := w22) (x := 0) (y := x) (kx := 48) (ky := 48) (T := 30) p24 pp Q24 (by omega) (by omega)).swap
      go_wp2_with fail
      go_meet
      first
        | exact P.out
        | exact P'.out
  case rest =>
    obtain ⟨g25, s25, A25, n25, c25, f25, t25, D25, m25, d25, rfl, rfl, hg25, hf25, hne25, I25, J25, p25, r25, k25, l25, B25⟩ := hcut
    obtain ⟨w25, hw25⟩ : ∃ x, x = wc := ⟨_, rfl⟩
    subst hw25
    have lt_a_x : w.heap.size < g25 := Nat.lt_of_lt_of_le H_a.out.2.2.2.2 hg25
    have lt_b_x : (w.heap.size + 1) < g25 := Nat.lt_of_lt_of_le H_b.out.2.2.2.2 hg25
    have lw_x : w.heap.size ≤ g25 := Nat.le_trans hW.size hg25
    have lt_a_y : w.heap.size < f25 := Nat.lt_of_lt_of_le H_a.out.2.2.2.2 hf25
    have lt_b_y : (w.heap.size + 1) < f25 := Nat.lt_of_lt_of_le H_b.out.2.2.2.2 hf25
    have lw_y : w.heap.size ≤ f25 := Nat.le_trans hW.size hf25
    replace H_a := Lib.hid (H_a.out.below B25)
    replace H_b := Lib.hid (H_b.out.below B25)
    replace hx := hx.below B25
    replace hy := hy.below B25
    replace hW := hW.trans (B25.mono hW.size)
    have H_x := Lib.hid I25
    have H_y := Lib.hid J25
    clear B25 I25 J25 hg25 hf25
    have px := p25
    have py := r25
    clear p25 r25
    obtain ⟨a1, a2, a3, a4, a5⟩ := H_a.out
    obtain ⟨b1, b2, b3, b4, b5⟩ := H_b.out
    go_wp2_with fail
    clear a1 a2 a3 a4 a5 b1 b2 b3 b4 b5
    refine (zquo_no hx hy (by omega) (by omega)).mono ?_
    rintro e w26 ⟨rfl, B26⟩
    replace H_a := Lib.hid (H_a.out.below B26)
    replace H_b := Lib.hid (H_b.out.below B26)
    replace H_x := Lib.hid (H_x.out.below B26)
    replace H_y := Lib.hid (H_y.out.below B26)
    replace hx := hx.below B26
    replace hy := hy.below B26
    replace px := px.below B26
    replace py := py.below B26
    replace hW := hW.trans (B26.mono hW.size)
    clear B26
    obtain ⟨w27, hw27, I27, J27, z27⟩ := opent2 w26 false false none none 0 0 0 0 25 25
    have HW27 := Lib.hid hw27.symm
    have O_a := H_a
    have O_b := H_b
    have O_x := H_x
    have O_y := H_y
    replace H_a := Lib.hid (H_a.out.below z27)
    replace H_b := Lib.hid (H_b.out.below z27)
    replace H_x := Lib.hid (H_x.out.below z27)
    replace H_y := Lib.hid (H_y.out.below z27)
    replace hx := hx.below z27
    replace hy := hy.below z27
    replace px := px.below z27
    replace py := py.below z27
    replace hW := hW.trans (z27.mono hW.size)
    have H_qa := Lib.hid I27
    have H_ra := Lib.hid J27
    clear z27 hw27 I27 J27
    obtain ⟨a1, a2, a3, a4, a5⟩ := O_a.out
    obtain ⟨b1, b2, b3, b4, b5⟩ := O_b.out
    go_wp2_with fail
    rw [HW27.out]
    clear a1 a2 a3 a4 a5 b1 b2 b3 b4 b5 O_a O_b O_x O_y
    refine (zfloor_no hx hy (by omega) (by omega)).mono ?_
    rintro e w28 ⟨rfl, B28⟩
    replace H_a := Lib.hid (H_a.out.below B28)
    replace H_b := Lib.hid (H_b.out.below B28)
    replace H_x := Lib.hid (H_x.out.below B28)
    replace H_y := Lib.hid (H_y.out.below B28)
    replace H_qa := Lib.hid (H_qa.out.below B28)
    replace H_ra := Lib.hid (H_ra.out.below B28)
    replace hx := hx.below B28
    replace hy := hy.below B28
    replace px := px.below B28
    replace py := py.below B28
    replace hW := hW.trans (B28.mono hW.size)
    clear B28
    obtain ⟨w29, hw29, I29, J29, z29⟩ := opent2 w28 false false none none 0 0 0 0 25 25
    have HW29 := Lib.hid hw29.symm
    have O_a := H_a
    have O_b := H_b
    have O_x := H_x
    have O_y := H_y
    have O_qa := H_qa
    have O_ra := H_ra
    replace H_a := Lib.hid (H_a.out.below z29)
    replace H_b := Lib.hid (H_b.out.below z29)
    replace H_x := Lib.hid (H_x.out.below z29)
    replace H_y := Lib.hid (H_y.out.below z29)
    replace H_qa := Lib.hid (H_qa.out.below z29)
    replace H_ra := Lib.hid (H_ra.out.below z29)
    replace hx := hx.below z29
    replace hy := hy.below z29
    replace px := px.below z29
    replace py := py.below z29
    replace hW := hW.trans (z29.mono hW.size)
    have H_qb := Lib.hid I29
    have H_rb := Lib.hid J29
    clear z29 hw29 I29 J29
    obtain ⟨a1, a2, a3, a4, a5⟩ := O_a.out
    obtain ⟨b1, b2, b3, b4, b5⟩ := O_b.out
    go_wp2_with fail
    rw [HW29.out]
    clear a1 a2 a3 a4 a5 b1 b2 b3 b4 b5 O_a O_b O_x O_y O_qa O_ra
    refine (zeuclid_no hx hy (by omega) (by omega)).mono ?_
    rintro e w30 ⟨rfl, B30⟩
    replace H_a := Lib.hid (H_a.out.below B30)
    replace H_b := Lib.hid (H_b.out.below B30)
    replace H_x := Lib.hid (H_x.out.below B30)
    replace H_y := Lib.hid (H_y.out.below B30)
    replace H_qa := Lib.hid (H_qa.out.below B30)
    replace H_ra := Lib.hid (H_ra.out.below B30)
    replace H_qb := Lib.hid (H_qb.out.below B30)
    replace H_rb := Lib.hid (H_rb.out.below B30)
    replace hx := hx.below B30
    replace hy := hy.below B30
    replace px := px.below B30
    replace py := py.below B30
    replace hW := hW.trans (B30.mono hW.size)
    clear B30
    obtain ⟨w31, hw31, I31, J31, z31⟩ := opent2 w30 false false none none 0 0 0 0 25 25
    have HW31 := Lib.hid hw31.symm
    have O_a := H_a
    have O_b := H_b
    have O_x := H_x
    have O_y := H_y
    have O_qa := H_qa
    have O_ra := H_ra
    have O_qb := H_qb
    have O_rb := H_rb
    replace H_a := Lib.hid (H_a.out.below z31)
    replace H_b := Lib.hid (H_b.out.below z31)
    replace H_x := Lib.hid (H_x.out.below z31)
    replace H_y := Lib.hid (H_y.out.below z31)
    replace H_qa := Lib.hid (H_qa.out.below z31)
    replace H_ra := Lib.hid (H_ra.out.below z31)
    replace H_qb := Lib.hid (H_qb.out.below z31)
    replace H_rb := Lib.hid (H_rb.out.below z31)
    replace hx := hx.below z31
    replace hy := hy.below z31
    replace px := px.below z31
    replace py := py.below z31
    replace hW := hW.trans (z31.mono hW.size)
    have H_qc := Lib.hid I31
    have H_rc := Lib.hid J31
    clear z31 hw31 I31 J31
    obtain ⟨a1, a2, a3, a4, a5⟩ := O_a.out
    obtain ⟨b1, b2, b3, b4, b5⟩ := O_b.out
    go_wp2_with fail
    rw [HW31.out]
    clear a1 a2 a3 a4 a5 b1 b2 b3 b4 b5 O_a O_b O_x O_y O_qa O_ra O_qb O_rb
    refine (zexact_false hx hy (by omega) (by omega) (.inl rfl)).mono ?_
    rintro e w32 ⟨rfl, B32⟩
    replace H_a := Lib.hid (H_a.out.below B32)
    replace H_b := Lib.hid (H_b.out.below B32)
    replace H_x := Lib.hid (H_x.out.below B32)
    replace H_y := Lib.hid (H_y.out.below B32)
    replace H_qa := Lib.hid (H_qa.out.below B32)
    replace H_ra := Lib.hid (H_ra.out.below B32)
    replace H_qb := Lib.hid (H_qb.out.below B32)
    replace H_rb := Lib.hid (H_rb.out.below B32)
    replace H_qc := Lib.hid (H_qc.out.below B32)
    replace H_rc := Lib.hid (H_rc.out.below B32)
    replace hx := hx.below B32
    replace hy := hy.below B32
    replace px := px.below B32
    replace py := py.below B32
    replace hW := hW.trans (B32.mono hW.size)
    clear B32
    have z33 := zba w32 (.cells #[.bool false, .slice none 0 0] 25)
    obtain ⟨w33, hw33⟩ : ∃ w', w' = w32.alloc (.cells #[.bool false, .slice none 0 0] 25) := ⟨_, rfl⟩
    have I33 : Ib w33 w32.heap.size false none 0 0 := by rw [hw33]; exact Ib.new _ _ _ _ _ _
    rw [← hw33] at z33
    have HW33 := Lib.hid hw33.symm
    have O_a := H_a
    have O_b := H_b
    have O_x := H_x
    have O_y := H_y
    have O_qa := H_qa
    have O_ra := H_ra
    have O_qb := H_qb
    have O_rb := H_rb
    have O_qc := H_qc
    have O_rc := H_rc
    replace H_a := Lib.hid (H_a.out.below z33)
    replace H_b := Lib.hid (H_b.out.below z33)
    replace H_x := Lib.hid (H_x.out.below z33)
    replace H_y := Lib.hid (H_y.out.below z33)
    replace H_qa := Lib.hid (H_qa.out.below z33)
    replace H_ra := Lib.hid (H_ra.out.below z33)
    replace H_qb := Lib.hid (H_qb.out.below z33)
    replace H_rb := Lib.hid (H_rb.out.below z33)
    replace H_qc := Lib.hid (H_qc.out.below z33)
    replace H_rc := Lib.hid (H_rc.out.below z33)
    replace hx := hx.below z33
    replace hy := hy.below z33
    replace px := px.below z33
    replace py := py.below z33
    replace hW := hW.trans (z33.mono hW.size)
    have H_ea := Lib.hid I33
    clear z33 hw33 I33
    have z34 := zba w33 (.cells #[.bool false, .slice none 0 0] 30)
    obtain ⟨w34, hw34⟩ : ∃ w', w' = w33.alloc (.cells #[.bool false, .slice none 0 0] 30) := ⟨_, rfl⟩
    have e34 : w33.heap.size = w32.heap.size + 1 := by rw [← HW33.out]; simp
    have I34 : Ib w34 (w32.heap.size + 1) false none 0 0 := by rw [← e34, hw34]; exact Ib.new _ _ _ _ _ _
    clear e34
    rw [← hw34] at z34
    have HW34 := Lib.hid hw34.symm
    replace H_a := Lib.hid (H_a.out.below z34)
    replace H_b := Lib.hid (H_b.out.below z34)
    replace H_x := Lib.hid (H_x.out.below z34)
    replace H_y := Lib.hid (H_y.out.below z34)
    replace H_qa := Lib.hid (H_qa.out.below z34)
    replace H_ra := Lib.hid (H_ra.out.below z34)
    replace H_qb := Lib.hid (H_qb.out.below z34)
    replace H_rb := Lib.hid (H_rb.out.below z34)
    replace H_qc := Lib.hid (H_qc.out.below z34)
    replace H_rc := Lib.hid (H_rc.out.below z34)
    replace H_ea := Lib.hid (H_ea.out.below z34)
    replace hx := hx.below z34
    replace hy := hy.below z34
    replace px := px.below z34
    replace py := py.below z34
    replace hW := hW.trans (z34.mono hW.size)
    have H_za := Lib.hid I34
    clear z34 hw34 I34
    obtain ⟨y1, y2, y3, y4, y5⟩ := O_y.out
    go_wp2_with fail
    rw [HW33.out]
    rw [HW34.out]
    clear y1 y2 y3 y4 y5 O_a O_b O_x O_y O_qa O_ra O_qb O_rb O_qc O_rc
    refine (rsign_v (r := 0) py rfl).mono ?_
    rintro e w35 ⟨rfl, B35⟩
    replace H_a := Lib.hid (H_a.out.below B35)
    replace H_b := Lib.hid (H_b.out.below B35)
    replace H_x := Lib.hid (H_x.out.below B35)
    replace H_y := Lib.hid (H_y.out.below B35)
    replace H_qa := Lib.hid (H_qa.out.below B35)
    replace H_ra := Lib.hid (H_ra.out.below B35)
    replace H_qb := Lib.hid (H_qb.out.below B35)
    replace H_rb := Lib.hid (H_rb.out.below B35)
    replace H_qc := Lib.hid (H_qc.out.below B35)
    replace H_rc := Lib.hid (H_rc.out.below B35)
    replace H_ea := Lib.hid (H_ea.out.below B35)
    replace H_za := Lib.hid (H_za.out.below B35)
    replace hx := hx.below B35
    replace hy := hy.below B35
    replace px := px.below B35
    replace py := py.below B35
    replace hW := hW.trans (B35.mono hW.size)
    clear B35
    obtain ⟨qa1, qa2, qa3, qa4, qa5⟩ := H_qa.out
    obtain ⟨za1, za2, za3, za4, za5⟩ := H_za.out
    go_wp2_with fail
    clear qa1 qa2 qa3 qa4 qa5 za1 za2 za3 za4 za5
    refine (ris_v (Zc.zero _) (Rz.zero _) (by omega) rfl).mono ?_
    rintro e w36 ⟨rfl, B36⟩
    replace H_a := Lib.hid (H_a.out.below B36)
    replace H_b := Lib.hid (H_b.out.below B36)
    replace H_x := Lib.hid (H_x.out.below B36)
    replace H_y := Lib.hid (H_y.out.below B36)
    replace H_qa := Lib.hid (H_qa.out.below B36)
    replace H_ra := Lib.hid (H_ra.out.below B36)
    replace H_qb := Lib.hid (H_qb.out.below B36)
    replace H_rb := Lib.hid (H_rb.out.below B36)
    replace H_qc := Lib.hid (H_qc.out.below B36)
    replace H_rc := Lib.hid (H_rc.out.below B36)
    replace H_ea := Lib.hid (H_ea.out.below B36)
    replace H_za := Lib.hid (H_za.out.below B36)
    replace hx := hx.below B36
    replace hy := hy.below B36
    replace px := px.below B36
    replace py := py.below B36
    replace hW := hW.trans (B36.mono hW.size)
    clear B36
    obtain ⟨rb1, rb2, rb3, rb4, rb5⟩ := H_rb.out
    obtain ⟨za1, za2, za3, za4, za5⟩ := H_za.out
    go_wp2_with fail
    clear rb1 rb2 rb3 rb4 rb5 za1 za2 za3 za4 za5
    refine (ris_v (Zc.zero _) (Rz.zero _) (by omega) rfl).mono ?_
    rintro e w37 ⟨rfl, B37⟩
    replace H_a := Lib.hid (H_a.out.below B37)
    replace H_b := Lib.hid (H_b.out.below B37)
    replace H_x := Lib.hid (H_x.out.below B37)
    replace H_y := Lib.hid (H_y.out.below B37)
    replace H_qa := Lib.hid (H_qa.out.below B37)
    replace H_ra := Lib.hid (H_ra.out.below B37)
    replace H_qb := Lib.hid (H_qb.out.below B37)
    replace H_rb := Lib.hid (H_rb.out.below B37)
    replace H_qc := Lib.hid (H_qc.out.below B37)
    replace H_rc := Lib.hid (H_rc.out.below B37)
    replace H_ea := Lib.hid (H_ea.out.below B37)
    replace H_za := Lib.hid (H_za.out.below B37)
    replace hx := hx.below B37
    replace hy := hy.below B37
    replace px := px.below B37
    replace py := py.below B37
    replace hW := hW.trans (B37.mono hW.size)
    clear B37
    obtain ⟨qc1, qc2, qc3, qc4, qc5⟩ := H_qc.out
    obtain ⟨za1, za2, za3, za4, za5⟩ := H_za.out
    go_wp2_with fail
    clear qc1 qc2 qc3 qc4 qc5 za1 za2 za3 za4 za5
    refine (ris_v (Zc.zero _) (Rz.zero _) (by omega) rfl).mono ?_
    rintro e w38 ⟨rfl, B38⟩
    replace H_a := Lib.hid (H_a.out.below B38)
    replace H_b := Lib.hid (H_b.out.below B38)
    replace H_x := Lib.hid (H_x.out.below B38)
    replace H_y := Lib.hid (H_y.out.below B38)
    replace H_qa := Lib.hid (H_qa.out.below B38)
    replace H_ra := Lib.hid (H_ra.out.below B38)
    replace H_qb := Lib.hid (H_qb.out.below B38)
    replace H_rb := Lib.hid (H_rb.out.below B38)
    replace H_qc := Lib.hid (H_qc.out.below B38)
    replace H_rc := Lib.hid (H_rc.out.below B38)
    replace H_ea := Lib.hid (H_ea.out.below B38)
    replace H_za := Lib.hid (H_za.out.below B38)
    replace hx := hx.below B38
    replace hy := hy.below B38
    replace px := px.below B38
    replace py := py.below B38
    replace hW := hW.trans (B38.mono hW.size)
    clear B38
    obtain ⟨ea1, ea2, ea3, ea4, ea5⟩ := H_ea.out
    obtain ⟨za1, za2, za3, za4, za5⟩ := H_za.out
    go_wp2_with fail
    clear ea1 ea2 ea3 ea4 ea5 za1 za2 za3 za4 za5
    refine (ris_v (Zc.zero _) (Rz.zero _) (by omega) rfl).mono ?_
    rintro e w39 ⟨rfl, B39⟩
    replace H_a := Lib.hid (H_a.out.below B39)
    replace H_b := Lib.hid (H_b.out.below B39)
    replace H_x := Lib.hid (H_x.out.below B39)
    replace H_y := Lib.hid (H_y.out.below B39)
    replace H_qa := Lib.hid (H_qa.out.below B39)
    replace H_ra := Lib.hid (H_ra.out.below B39)
    replace H_qb := Lib.hid (H_qb.out.below B39)
    replace H_rb := Lib.hid (H_rb.out.below B39)
    replace H_qc := Lib.hid (H_qc.out.below B39)
    replace H_rc := Lib.hid (H_rc.out.below B39)
    replace H_ea := Lib.hid (H_ea.out.below B39)
    replace H_za := Lib.hid (H_za.out.below B39)
    replace hx := hx.below B39
    replace hy := hy.below B39
    replace px := px.below B39
    replace py := py.below B39
    replace hW := hW.trans (B39.mono hW.size)
    clear B39
    go_wp2_with fail
    go_ret
    exact ⟨rfl, hW⟩

set_option maxRecDepth 100000 in
set_option maxHeartbeats 4000000 in
theorem idiv_rest {A B : Option Addr} {n m c d : Nat} {s t : Bool} {x y : Int} {w : World} (hx : Zv w s A n c x) (hy : Zv w t B m d y) (h1 : n ≤ 10) (h2 : m ≤ 10) (h0 : y ≠ 0) (hmod : x.natAbs % y.natAbs ≠ 0) :
    Calls Try.prog 4 #[.agg #[.bool s, .slice A n c], .agg #[.bool t, .slice B m d]] w (TruePost w) := by
  obtain ⟨w3, hw3, IA, IB, z0⟩ := open2 w s t A B n c m d
  have HW := Lib.hid hw3.symm
  have HEX := hx.abs.2
  have HEY := hy.abs.2
  replace hx := hx.below z0
  replace hy := hy.below z0
  have hW := z0
  have H_a := Lib.hid IA
  have H_b := Lib.hid IB
  clear hw3 IA IB z0
  obtain ⟨q1, hq1⟩ : ∃ q, dqv s t s x.natAbs y.natAbs = q := ⟨_, rfl⟩
  obtain ⟨q2, hq2⟩ : ∃ q, dqv s t t x.natAbs y.natAbs = q := ⟨_, rfl⟩
  obtain ⟨q3, hq3⟩ : ∃ q, dqv s t false x.natAbs y.natAbs = q := ⟨_, rfl⟩
  have hY0 : 0 < y.natAbs := by omega
  have rest : ∀ u q, dqv s t u x.natAbs y.natAbs = q → drv s u x.natAbs y.natAbs = x - q * y := by
    intro u q h
    have := dqv_eq (s := s) (t := t) (u := u) (X := x.natAbs) hY0
    rw [h, ← HEX.out, ← HEY.out] at this
    omega
  have HR1 := Lib.hid (rest _ _ hq1)
  have HR2 := Lib.hid (rest _ _ hq2)
  have HR3 := Lib.hid (rest _ _ hq3)
  have hr0 : x - q1 * y ≠ 0 := by
    rw [← HR1.out]
    rw [(dqv_b (s := s) (t := t) (u := s) rfl).2]
    cases s <;> simp [sg] <;> omega
  obtain ⟨rr, hrr⟩ : ∃ r, (x - q1 * y).sign = r := ⟨_, rfl⟩
  have HRR := Lib.hid hrr
  have hrn : (rr == 0) = false := by rw [beq_eq_false_iff_ne, ← hrr]; intro h; exact hr0 (Int.sign_eq_zero_iff_zero.1 h)
  have hrn2 : (rr != 0) = true := by rw [bne_iff_ne, ← hrr]; intro h; exact hr0 (Int.sign_eq_zero_iff_zero.1 h)
  have HRN := Lib.hid hrn
  have HRN2 := Lib.hid hrn2
  clear hrn2
  have hex : q1 * y + (x - q1 * y) = x := by omega
  have HEXQ := Lib.hid (show True from trivial)
  have sx := sign_as HEX.out
  have sy := sign_as HEY.out
  have SX := Lib.hid sx
  have SY := Lib.hid sy
  obtain ⟨sgy, hsgy⟩ : ∃ r, y.sign = r := ⟨_, rfl⟩
  have hsy : (sgy == 0) = false := by rw [beq_eq_false_iff_ne, ← hsgy]; intro h; exact h0 (Int.sign_eq_zero_iff_zero.1 h)
  have HSGY := Lib.hid hsgy
  have HSY := Lib.hid hsy
  have HQ1 := Lib.hid hq1
  have HQ2 := Lib.hid hq2
  have HQ3 := Lib.hid hq3
  have HMOD := Lib.hid hmod
  clear hq1 hq2 hq3 rest hr0 hrr hrn hex sx sy hsgy hsy hmod
  go_enter Try.func4, Try.ntmps4
  obtain ⟨a1, a2, a3, a4, a5⟩ := H_a.out
  obtain ⟨b1, b2, b3, b4, b5⟩ := H_b.out
  go_wp2_with fail
  rw [HW.out]
  clear a1 a2 a3 a4 a5 b1 b2 b3 b4 b5
  refine (zawake_calls _).mono ?_
  rintro e w21 ⟨rfl, B21⟩
  replace H_a := Lib.hid (H_a.out.below B21)
  replace H_b := Lib.hid (H_b.out.below B21)
  replace hx := hx.below B21
  replace hy := hy.below B21
  replace hW := hW.trans (B21.mono hW.size)
  clear B21
  obtain ⟨a1, a2, a3, a4, a5⟩ := H_a.out
  obtain ⟨b1, b2, b3, b4, b5⟩ := H_b.out
  go_wp2_with fail
  clear a1 a2 a3 a4 a5 b1 b2 b3 b4 b5
  refine (zfew_v (k := 10) (b := true) (by omega) (by omega) (by omega) (by omega) (by rw [decide_eq_true_iff]; omega)).mono ?_
  rintro e w22 ⟨rfl, B22⟩
  replace H_a := Lib.hid (H_a.out.below B22)
  replace H_b := Lib.hid (H_b.out.below B22)
  replace hx := hx.below B22
  replace hy := hy.below B22
  replace hW := hW.trans (B22.mono hW.size)
  clear B22
  obtain ⟨a1, a2, a3, a4, a5⟩ := H_a.out
  obtain ⟨b1, b2, b3, b4, b5⟩ := H_b.out
  go_wp2_with fail
  clear a1 a2 a3 a4 a5 b1 b2 b3 b4 b5
  go_upto_region 3 with fail
  go_cut [5, 6] (TwoV w22 x y 48 48)
  case first =>
    obtain ⟨a1, a2, a3, a4, a5⟩ := H_a.out
    obtain ⟨b1, b2, b3, b4, b5⟩ := H_b.out
    have an : ¬ (w22.heap.size = w.heap.size) := by omega
    have am : ¬ (w.heap.size = w22.heap.size) := by omega
    have an' : ¬ ((w22.heap.size + 1) = w.heap.size) := by omega
    have am' : ¬ (w.heap.size = (w22.heap.size + 1)) := by omega
    have bn : ¬ (w22.heap.size = (w.heap.size + 1)) := by omega
    have bm : ¬ ((w.heap.size + 1) = w22.heap.size) := by omega
    have bn' : ¬ ((w22.heap.size + 1) = (w.heap.size + 1)) := by omega
    have bm' : ¬ ((w.heap.size + 1) = (w22.heap.size + 1)) := by omega
    go_region_held3 (fun w' => w'.cell? ⟨w.heap.size, 0, none⟩ = some (.bool s) ∧ w'.cell? ⟨w.heap.size, 1, none⟩ = some (.slice A n c) ∧ w'.cell? ⟨(w.heap.size + 1), 0, none⟩ = some (.bool t) ∧ w'.cell? ⟨(w.heap.size + 1), 1, none⟩ = some (.slice B m d)) (go_keep) (first
      | (go_at_call 13; (with_reducible refine (rfrom_v (hx.below (below_drew _)) (by omega)).mono ?_); rintro e w23 ⟨s23, A23, n23, c23, rfl, p23, k23, B23⟩; have Q23 := zup (below_drew _) B23; obtain ⟨ax23, ay23, af23, ag23, az23⟩ := H_a.out.below Q23; have an23 : ¬ (w23.heap.size = w.heap.size) := (by omega); have am23 : ¬ (w.heap.size = w23.heap.size) := (by omega); have an23' : ¬ ((w23.heap.size + 1) = w.heap.size) := (by omega); have am23' : ¬ (w.heap.size = (w23.heap.size + 1)) := (by omega); obtain ⟨bx23, by23, bf23, bg23, bz23⟩ := H_b.out.below Q23; have bn23 : ¬ (w23.heap.size = (w.heap.size + 1)) := (by omega); have bm23 : ¬ ((w.heap.size + 1) = w23.heap.size) := (by omega); have bn23' : ¬ ((w23.heap.size + 1) = (w.heap.size + 1)) := (by omega); have bm23' : ¬ ((w.heap.size + 1) = (w23.heap.size + 1)) := (by omega))
      | (go_at_call 13; (with_reducible refine (rfrom_v (hx.below (zbd _ _)) (by omega)).mono ?_); rintro e w23 ⟨s23, A23, n23, c23, rfl, p23, k23, B23⟩; have Q23 := zup (zbd _ _) B23; obtain ⟨ax23, ay23, af23, ag23, az23⟩ := H_a.out.below Q23; have an23 : ¬ (w23.heap.size = w.heap.size) := (by omega); have am23 : ¬ (w.heap.size = w23.heap.size) := (by omega); have an23' : ¬ ((w23.heap.size + 1) = w.heap.size) := (by omega); have am23' : ¬ (w.heap.size = (w23.heap.size + 1)) := (by omega); obtain ⟨bx23, by23, bf23, bg23, bz23⟩ := H_b.out.below Q23; have bn23 : ¬ (w23.heap.size = (w.heap.size + 1)) := (by omega); have bm23 : ¬ ((w.heap.size + 1) = w23.heap.size) := (by omega); have bn23' : ¬ ((w23.heap.size + 1) = (w.heap.size + 1)) := (by omega); have bm23' : ¬ ((w.heap.size + 1) = (w23.heap.size + 1)) := (by omega); have Ja := (Ib.newd w22 false none 0 0 30).below B23; have ga := Nat.le_refl w22.heap.size; have Jc := Ja; obtain ⟨jx23a, jy23a, jf23a, jg23a, jz23a⟩ := Jc)
      | (go_at_call 13; (with_reducible refine (rfrom_v (hx.below (zbd2 _ _ _)) (by omega)).mono ?_); rintro e w23 ⟨s23, A23, n23, c23, rfl, p23, k23, B23⟩; have Q23 := zup (zbd2 _ _ _) B23; obtain ⟨ax23, ay23, af23, ag23, az23⟩ := H_a.out.below Q23; have an23 : ¬ (w23.heap.size = w.heap.size) := (by omega); have am23 : ¬ (w.heap.size = w23.heap.size) := (by omega); have an23' : ¬ ((w23.heap.size + 1) = w.heap.size) := (by omega); have am23' : ¬ (w.heap.size = (w23.heap.size + 1)) := (by omega); obtain ⟨bx23, by23, bf23, bg23, bz23⟩ := H_b.out.below Q23; have bn23 : ¬ (w23.heap.size = (w.heap.size + 1)) := (by omega); have bm23 : ¬ ((w.heap.size + 1) = w23.heap.size) := (by omega); have bn23' : ¬ ((w23.heap.size + 1) = (w.heap.size + 1)) := (by omega); have bm23' : ¬ ((w.heap.size + 1) = (w23.heap.size + 1)) := (by omega); have Ja := (ibd1v w22 30).below B23; have ga := Nat.le_refl w22.heap.size; have Jb := (ibd2v w22 30).below B23; have gb := Nat.le_succ w22.heap.size; have nab : ¬ (w22.heap.size = w22.heap.size + 1) := (by omega); have nba : ¬ (w22.heap.size + 1 = w22.heap.size) := (by omega); have Jc := Ja; obtain ⟨jx23a, jy23a, jf23a, jg23a, jz23a⟩ := Jc; have Jc := Jb; obtain ⟨jx23b, jy23b, jf23b, jg23b, jz23b⟩ := Jc)
      | (go_at_call 13; (with_reducible refine (rfrom_v (hy.below Q23) (by omega)).mono ?_); rintro e w24 ⟨s24, A24, n24, c24, rfl, p24, k24, B24⟩; have Q24 := zup Q23 B24; have J1 := (Ja).below B24; have J2 := (Jb).below B24; have g1 := ga; have g2 := gb; have n12 := nab; have n21 := nba; have pp := (p23).below B24; obtain ⟨ax24, ay24, af24, ag24, az24⟩ := H_a.out.below Q24; have an24 : ¬ (w24.heap.size = w.heap.size) := (by omega); have am24 : ¬ (w.heap.size = w24.heap.size) := (by omega); have an24' : ¬ ((w24.heap.size + 1) = w.heap.size) := (by omega); have am24' : ¬ (w.heap.size = (w24.heap.size + 1)) := (by omega); obtain ⟨bx24, by24, bf24, bg24, bz24⟩ := H_b.out.below Q24; have bn24 : ¬ (w24.heap.size = (w.heap.size + 1)) := (by omega); have bm24 : ¬ ((w.heap.size + 1) = w24.heap.size) := (by omega); have bn24' : ¬ ((w24.heap.size + 1) = (w.heap.size + 1)) := (by omega); have bm24' : ¬ ((w.heap.size + 1) = (w24.heap.size + 1)) := (by omega); have Jc := J1; obtain ⟨jx241, jy241, jf241, jg241, jz241⟩ := Jc; have Jc := J2; obtain ⟨jx242, jy242, jf242, jg242, jz242⟩ := Jc)
      | (go_at_call 13; (with_reducible refine (rfrom_v (hy.below (zup Q23 (zba _ _))) (by omega)).mono ?_); rintro e w24 ⟨s24, A24, n24, c24, rfl, p24, k24, B24⟩; have Q24 := zup (zup Q23 (zba _ _)) B24; have J1 := ((Ja).below (zba _ _)).below B24; have g1 := ga; have pp := ((p23).below (zba _ _)).below B24; have J2 := (Ib.new w23 false none 0 0 30).below B24; have g2 := Q23.size; have n12 : ¬ (w22.heap.size = w23.heap.size) := (by have := Ja.2.2.2.2; omega); have n21 : ¬ (w23.heap.size = w22.heap.size) := (by have := Ja.2.2.2.2; omega); obtain ⟨ax24, ay24, af24, ag24, az24⟩ := H_a.out.below Q24; have an24 : ¬ (w24.heap.size = w.heap.size) := (by omega); have am24 : ¬ (w.heap.size = w24.heap.size) := (by omega); have an24' : ¬ ((w24.heap.size + 1) = w.heap.size) := (by omega); have am24' : ¬ (w.heap.size = (w24.heap.size + 1)) := (by omega); obtain ⟨bx24, by24, bf24, bg24, bz24⟩ := H_b.out.below Q24; have bn24 : ¬ (w24.heap.size = (w.heap.size + 1)) := (by omega); have bm24 : ¬ ((w.heap.size + 1) = w24.heap.size) := (by omega); have bn24' : ¬ ((w24.heap.size + 1) = (w.heap.size + 1)) := (by omega); have bm24' : ¬ ((w.heap.size + 1) = (w24.heap.size + 1)) := (by omega); have Jc := J1; obtain ⟨jx241, jy241, jf241, jg241, jz241⟩ := Jc; have Jc := J2; obtain ⟨jx242, jy242, jf242, jg242, jz242⟩ := Jc)
      | (go_at_call 13; (with_reducible refine (rfrom_v (hy.below Q23) (by omega)).mono ?_); rintro e w24 ⟨s24, A24, n24, c24, rfl, p24, k24, B24⟩; have Q24 := zup Q23 B24; have J1 := (Ja).below B24; have g1 := ga; have pp := (p23).below B24; obtain ⟨ax24, ay24, af24, ag24, az24⟩ := H_a.out.below Q24; have an24 : ¬ (w24.heap.size = w.heap.size) := (by omega); have am24 : ¬ (w.heap.size = w24.heap.size) := (by omega); have an24' : ¬ ((w24.heap.size + 1) = w.heap.size) := (by omega); have am24' : ¬ (w.heap.size = (w24.heap.size + 1)) := (by omega); obtain ⟨bx24, by24, bf24, bg24, bz24⟩ := H_b.out.below Q24; have bn24 : ¬ (w24.heap.size = (w.heap.size + 1)) := (by omega); have bm24 : ¬ ((w.heap.size + 1) = w24.heap.size) := (by omega); have bn24' : ¬ ((w24.heap.size + 1) = (w.heap.size + 1)) := (by omega); have bm24' : ¬ ((w.heap.size + 1) = (w24.heap.size + 1)) := (by omega); have Jc := J1; obtain ⟨jx241, jy241, jf241, jg241, jz241⟩ := Jc)
      | (go_at_call 13; (with_reducible refine (rfrom_v (hy.below (zup Q23 (zba2 _ _ _))) (by omega)).mono ?_); rintro e w24 ⟨s24, A24, n24, c24, rfl, p24, k24, B24⟩; have Q24 := zup (zup Q23 (zba2 _ _ _)) B24; have J0 : Nat := 0; have pp := ((p23).below (zba2 _ _ _)).below B24; have J1 := (ib1v w23 30).below B24; have g1 := Q23.size; have J2 := (ib2v w23 30).below B24; have g2 := Nat.le_succ_of_le Q23.size; have n12 : ¬ (w23.heap.size = w23.heap.size + 1) := (by omega); have n21 : ¬ (w23.heap.size + 1 = w23.heap.size) := (by omega); obtain ⟨ax24, ay24, af24, ag24, az24⟩ := H_a.out.below Q24; have an24 : ¬ (w24.heap.size = w.heap.size) := (by omega); have am24 : ¬ (w.heap.size = w24.heap.size) := (by omega); have an24' : ¬ ((w24.heap.size + 1) = w.heap.size) := (by omega); have am24' : ¬ (w.heap.size = (w24.heap.size + 1)) := (by omega); obtain ⟨bx24, by24, bf24, bg24, bz24⟩ := H_b.out.below Q24; have bn24 : ¬ (w24.heap.size = (w.heap.size + 1)) := (by omega); have bm24 : ¬ ((w.heap.size + 1) = w24.heap.size) := (by omega); have bn24' : ¬ ((w24.heap.size + 1) = (w.heap.size + 1)) := (by omega); have bm24' : ¬ ((w.heap.size + 1) = (w24.heap.size + 1)) := (by omega); have Jc := J1; obtain ⟨jx241, jy241, jf241, jg241, jz241⟩ := Jc; have Jc := J2; obtain ⟨jx242, jy242, jf242, jg242, jz242⟩ := Jc)
      | (go_at_call 13; (with_reducible refine (rfrom_v (hy.below (zup Q23 (zba _ _))) (by omega)).mono ?_); rintro e w24 ⟨s24, A24, n24, c24, rfl, p24, k24, B24⟩; have Q24 := zup (zup Q23 (zba _ _)) B24; have J0 : Nat := 0; have pp := ((p23).below (zba _ _)).below B24; have J1 := (Ib.new w23 false none 0 0 30).below B24; have g1 := Q23.size; obtain ⟨ax24, ay24, af24, ag24, az24⟩ := H_a.out.below Q24; have an24 : ¬ (w24.heap.size = w.heap.size) := (by omega); have am24 : ¬ (w.heap.size = w24.heap.size) := (by omega); have an24' : ¬ ((w24.heap.size + 1) = w.heap.size) := (by omega); have am24' : ¬ (w.heap.size = (w24.heap.size + 1)) := (by omega); obtain ⟨bx24, by24, bf24, bg24, bz24⟩ := H_b.out.below Q24; have bn24 : ¬ (w24.heap.size = (w.heap.size + 1)) := (by omega); have bm24 : ¬ ((w.heap.size + 1) = w24.heap.size) := (by omega); have bn24' : ¬ ((w24.heap.size + 1) = (w.heap.size + 1)) := (by omega); have bm24' : ¬ ((w.heap.size + 1) = (w24.heap.size + 1)) := (by omega); have Jc := J1; obtain ⟨jx241, jy241, jf241, jg241, jz241⟩ := Jc)
      | (go_at_call 13; (with_reducible refine (rfrom_v (hy.below Q23) (by omega)).mono ?_); rintro e w24 ⟨s24, A24, n24, c24, rfl, p24, k24, B24⟩; have Q24 := zup Q23 B24; have J0 : Nat := 0; have pp := (p23).below B24; obtain ⟨ax24, ay24, af24, ag24, az24⟩ := H_a.out.below Q24; have an24 : ¬ (w24.heap.size = w.heap.size) := (by omega); have am24 : ¬ (w.heap.size = w24.heap.size) := (by omega); have an24' : ¬ ((w24.heap.size + 1) = w.heap.size) := (by omega); have am24' : ¬ (w.heap.size = (w24.heap.size + 1)) := (by omega); obtain ⟨bx24, by24, bf24, bg24, bz24⟩ := H_b.out.below Q24; have bn24 : ¬ (w24.heap.size = (w.heap.size + 1)) := (by omega); have bm24 : ¬ ((w.heap.size + 1) = w24.heap.size) := (by omega); have bn24' : ¬ ((w24.heap.size + 1) = (w.heap.size + 1)) := (by omega); have bm24' : ¬ ((w.heap.size + 1) = (w24.heap.size + 1)) := (by omega))
      | fail)
    all_goals
      first
        | have P := Lib.hid (TwoV.pp (w0 := w22) (x := x) (y := y) (kx := 48) (ky := 48) J1 J2 g1 g2 n12 pp p24 Q24 (by omega) (by omega)); have P' := Lib.hid (TwoV.pp (w0 := w22) (x := x) (y := y) (kx := 48) (ky := 48) J2 J1 g2 g1 n21 pp p24 Q24 (by omega) (by omega))
        | have P := Lib.hid (TwoV.pa (w0 := w22) (x := x) (y := y) (kx := 48) (ky := 48) (T := 30) J1 g1 pp p24 Q24 (by omega) (by omega)); have P' := Lib.hid (TwoV.pa (w0 := w22) (x := y) (y := x) (kx := 48) (ky := 48) (T := 30) J1 g1 p24 pp Q24 (by omega) (by omega)).swap
        | have P := Lib.hid (TwoV.aa (w0 := w22) (x := x) (y := y) (kx := 48) (ky := 48) (T := 30) pp p24 Q24 (by omega) (by omega)); have P' := Lib.hid (TwoV.aa (w0 := w22) (x := y) (y := x) (kx := 48) (ky := 48) (T := 30) p24 pp Q24 (by omega) (by omega)).swap
      go_wp2_with fail
      go_meet
      first
        | exact P.out
        | exact P'.out
  case rest =>
    obtain ⟨g25, s25, A25, n25, c25, f25, t25, D25, m25, d25, rfl, rfl, hg25, hf25, hne25, I25, J25, p25, r25, k25, l25, B25⟩ := hcut
    obtain ⟨w25, hw25⟩ : ∃ x, x = wc := ⟨_, rfl⟩
    subst hw25
    have lt_a_x : w.heap.size < g25 := Nat.lt_of_lt_of_le H_a.out.2.2.2.2 hg25
    have lt_b_x : (w.heap.size + 1) < g25 := Nat.lt_of_lt_of_le H_b.out.2.2.2.2 hg25
    have lw_x : w.heap.size ≤ g25 := Nat.le_trans hW.size hg25
    have lt_a_y : w.heap.size < f25 := Nat.lt_of_lt_of_le H_a.out.2.2.2.2 hf25
    have lt_b_y : (w.heap.size + 1) < f25 := Nat.lt_of_lt_of_le H_b.out.2.2.2.2 hf25
    have lw_y : w.heap.size ≤ f25 := Nat.le_trans hW.size hf25
    replace H_a := Lib.hid (H_a.out.below B25)
    replace H_b := Lib.hid (H_b.out.below B25)
    replace hx := hx.below B25
    replace hy := hy.below B25
    replace hW := hW.trans (B25.mono hW.size)
    have H_x := Lib.hid I25
    have H_y := Lib.hid J25
    clear B25 I25 J25 hg25 hf25
    have px := p25
    have py := r25
    clear p25 r25
    have ht : t = t25 := by
      have h := SY.out
      rw [← py.2.out] at h
      rcases h with h | h
      · omega
      · exact h
    have hs : x.natAbs = 0 ∨ s25 = s := by
      have h := SX.out
      rw [← px.2.out] at h
      rcases h with h | h
      · exact .inl h
      · exact .inr h.symm
    have HC1 := Lib.hid (show sg (!(s25 == t25)) (x.natAbs / y.natAbs) = q1 by rw [← (dqv_b (s := s25) (t := t25) (u := s25) rfl).1, ← ht, dqv_sign hs hs]; exact HQ1.out)
    have HC2 := Lib.hid (show dqv s25 t25 t25 x.natAbs y.natAbs = q2 by rw [← ht, dqv_sign (u' := t) hs (.inr rfl)]; exact HQ2.out)
    have HC3 := Lib.hid (show dqv s25 t25 false x.natAbs y.natAbs = q3 by rw [← ht, dqv_sign (u' := false) hs (.inr rfl)]; exact HQ3.out)
    clear ht hs
    obtain ⟨a1, a2, a3, a4, a5⟩ := H_a.out
    obtain ⟨b1, b2, b3, b4, b5⟩ := H_b.out
    go_wp2_with fail
    clear a1 a2 a3 a4 a5 b1 b2 b3 b4 b5
    refine (zquo_v (q := q1) (r := x - q1 * y) hx hy (by omega) (by omega) h0 HQ1.out HR1.out).mono ?_
    rintro e w26 ⟨s26, A26, n26, c26, t26, D26, m26, d26, rfl, zq1, zr1, k26, l26, B26⟩
    replace H_a := Lib.hid (H_a.out.below B26)
    replace H_b := Lib.hid (H_b.out.below B26)
    replace H_x := Lib.hid (H_x.out.below B26)
    replace H_y := Lib.hid (H_y.out.below B26)
    replace hx := hx.below B26
    replace hy := hy.below B26
    replace px := px.below B26
    replace py := py.below B26
    replace hW := hW.trans (B26.mono hW.size)
    clear B26
    obtain ⟨w27, hw27, I27, J27, z27⟩ := opent2 w26 s26 t26 A26 D26 n26 c26 m26 d26 25 25
    have HW27 := Lib.hid hw27.symm
    have O_a := H_a
    have O_b := H_b
    have O_x := H_x
    have O_y := H_y
    replace H_a := Lib.hid (H_a.out.below z27)
    replace H_b := Lib.hid (H_b.out.below z27)
    replace H_x := Lib.hid (H_x.out.below z27)
    replace H_y := Lib.hid (H_y.out.below z27)
    replace hx := hx.below z27
    replace hy := hy.below z27
    replace px := px.below z27
    replace py := py.below z27
    replace zq1 := zq1.below z27
    replace zr1 := zr1.below z27
    replace hW := hW.trans (z27.mono hW.size)
    have H_qa := Lib.hid I27
    have H_ra := Lib.hid J27
    clear z27 hw27 I27 J27
    obtain ⟨a1, a2, a3, a4, a5⟩ := O_a.out
    obtain ⟨b1, b2, b3, b4, b5⟩ := O_b.out
    go_wp2_with fail
    rw [HW27.out]
    clear a1 a2 a3 a4 a5 b1 b2 b3 b4 b5 O_a O_b O_x O_y
    refine (zfloor_v (q := q2) (r := x - q2 * y) hx hy (by omega) (by omega) h0 HQ2.out HR2.out).mono ?_
    rintro e w28 ⟨s28, A28, n28, c28, t28, D28, m28, d28, rfl, zq2, zr2, k28, l28, B28⟩
    replace H_a := Lib.hid (H_a.out.below B28)
    replace H_b := Lib.hid (H_b.out.below B28)
    replace H_x := Lib.hid (H_x.out.below B28)
    replace H_y := Lib.hid (H_y.out.below B28)
    replace H_qa := Lib.hid (H_qa.out.below B28)
    replace H_ra := Lib.hid (H_ra.out.below B28)
    replace hx := hx.below B28
    replace hy := hy.below B28
    replace px := px.below B28
    replace py := py.below B28
    replace zq1 := zq1.below B28
    replace zr1 := zr1.below B28
    replace hW := hW.trans (B28.mono hW.size)
    clear B28
    obtain ⟨w29, hw29, I29, J29, z29⟩ := opent2 w28 s28 t28 A28 D28 n28 c28 m28 d28 25 25
    have HW29 := Lib.hid hw29.symm
    have O_a := H_a
    have O_b := H_b
    have O_x := H_x
    have O_y := H_y
    have O_qa := H_qa
    have O_ra := H_ra
    replace H_a := Lib.hid (H_a.out.below z29)
    replace H_b := Lib.hid (H_b.out.below z29)
    replace H_x := Lib.hid (H_x.out.below z29)
    replace H_y := Lib.hid (H_y.out.below z29)
    replace H_qa := Lib.hid (H_qa.out.below z29)
    replace H_ra := Lib.hid (H_ra.out.below z29)
    replace hx := hx.below z29
    replace hy := hy.below z29
    replace px := px.below z29
    replace py := py.below z29
    replace zq1 := zq1.below z29
    replace zr1 := zr1.below z29
    replace zq2 := zq2.below z29
    replace zr2 := zr2.below z29
    replace hW := hW.trans (z29.mono hW.size)
    have H_qb := Lib.hid I29
    have H_rb := Lib.hid J29
    clear z29 hw29 I29 J29
    obtain ⟨a1, a2, a3, a4, a5⟩ := O_a.out
    obtain ⟨b1, b2, b3, b4, b5⟩ := O_b.out
    go_wp2_with fail
    rw [HW29.out]
    clear a1 a2 a3 a4 a5 b1 b2 b3 b4 b5 O_a O_b O_x O_y O_qa O_ra
    refine (zeuclid_v (q := q3) (r := x - q3 * y) hx hy (by omega) (by omega) h0 HQ3.out HR3.out).mono ?_
    rintro e w30 ⟨s30, A30, n30, c30, t30, D30, m30, d30, rfl, zq3, zr3, k30, l30, B30⟩
    replace H_a := Lib.hid (H_a.out.below B30)
    replace H_b := Lib.hid (H_b.out.below B30)
    replace H_x := Lib.hid (H_x.out.below B30)
    replace H_y := Lib.hid (H_y.out.below B30)
    replace H_qa := Lib.hid (H_qa.out.below B30)
    replace H_ra := Lib.hid (H_ra.out.below B30)
    replace H_qb := Lib.hid (H_qb.out.below B30)
    replace H_rb := Lib.hid (H_rb.out.below B30)
    replace hx := hx.below B30
    replace hy := hy.below B30
    replace px := px.below B30
    replace py := py.below B30
    replace zq1 := zq1.below B30
    replace zr1 := zr1.below B30
    replace zq2 := zq2.below B30
    replace zr2 := zr2.below B30
    replace hW := hW.trans (B30.mono hW.size)
    clear B30
    obtain ⟨w31, hw31, I31, J31, z31⟩ := opent2 w30 s30 t30 A30 D30 n30 c30 m30 d30 25 25
    have HW31 := Lib.hid hw31.symm
    have O_a := H_a
    have O_b := H_b
    have O_x := H_x
    have O_y := H_y
    have O_qa := H_qa
    have O_ra := H_ra
    have O_qb := H_qb
    have O_rb := H_rb
    replace H_a := Lib.hid (H_a.out.below z31)
    replace H_b := Lib.hid (H_b.out.below z31)
    replace H_x := Lib.hid (H_x.out.below z31)
    replace H_y := Lib.hid (H_y.out.below z31)
    replace H_qa := Lib.hid (H_qa.out.below z31)
    replace H_ra := Lib.hid (H_ra.out.below z31)
    replace H_qb := Lib.hid (H_qb.out.below z31)
    replace H_rb := Lib.hid (H_rb.out.below z31)
    replace hx := hx.below z31
    replace hy := hy.below z31
    replace px := px.below z31
    replace py := py.below z31
    replace zq1 := zq1.below z31
    replace zr1 := zr1.below z31
    replace zq2 := zq2.below z31
    replace zr2 := zr2.below z31
    replace zq3 := zq3.below z31
    replace zr3 := zr3.below z31
    replace hW := hW.trans (z31.mono hW.size)
    have H_qc := Lib.hid I31
    have H_rc := Lib.hid J31
    clear z31 hw31 I31 J31
    obtain ⟨a1, a2, a3, a4, a5⟩ := O_a.out
    obtain ⟨b1, b2, b3, b4, b5⟩ := O_b.out
    go_wp2_with fail
    rw [HW31.out]
    clear a1 a2 a3 a4 a5 b1 b2 b3 b4 b5 O_a O_b O_x O_y O_qa O_ra O_qb O_rb
    refine (zexact_false hx hy (by omega) (by omega) (.inr HMOD.out)).mono ?_
    rintro e w32 ⟨rfl, B32⟩
    replace H_a := Lib.hid (H_a.out.below B32)
    replace H_b := Lib.hid (H_b.out.below B32)
    replace H_x := Lib.hid (H_x.out.below B32)
    replace H_y := Lib.hid (H_y.out.below B32)
    replace H_qa := Lib.hid (H_qa.out.below B32)
    replace H_ra := Lib.hid (H_ra.out.below B32)
    replace H_qb := Lib.hid (H_qb.out.below B32)
    replace H_rb := Lib.hid (H_rb.out.below B32)
    replace H_qc := Lib.hid (H_qc.out.below B32)
    replace H_rc := Lib.hid (H_rc.out.below B32)
    replace hx := hx.below B32
    replace hy := hy.below B32
    replace px := px.below B32
    replace py := py.below B32
    replace zq1 := zq1.below B32
    replace zr1 := zr1.below B32
    replace zq2 := zq2.below B32
    replace zr2 := zr2.below B32
    replace zq3 := zq3.below B32
    replace zr3 := zr3.below B32
    replace hW := hW.trans (B32.mono hW.size)
    clear B32
    clear hx hy
    clear H_a H_b
    have z33 := zba w32 (.cells #[.bool false, .slice none 0 0] 25)
    obtain ⟨w33, hw33⟩ : ∃ w', w' = w32.alloc (.cells #[.bool false, .slice none 0 0] 25) := ⟨_, rfl⟩
    have I33 : Ib w33 w32.heap.size false none 0 0 := by rw [hw33]; exact Ib.new _ _ _ _ _ _
    rw [← hw33] at z33
    have HW33 := Lib.hid hw33.symm
    have O_x := H_x
    have O_y := H_y
    have O_qa := H_qa
    have O_ra := H_ra
    have O_qb := H_qb
    have O_rb := H_rb
    have O_qc := H_qc
    have O_rc := H_rc
    replace H_x := Lib.hid (H_x.out.below z33)
    replace H_y := Lib.hid (H_y.out.below z33)
    replace H_qa := Lib.hid (H_qa.out.below z33)
    replace H_ra := Lib.hid (H_ra.out.below z33)
    replace H_qb := Lib.hid (H_qb.out.below z33)
    replace H_rb := Lib.hid (H_rb.out.below z33)
    replace H_qc := Lib.hid (H_qc.out.below z33)
    replace H_rc := Lib.hid (H_rc.out.below z33)
    replace px := px.below z33
    replace py := py.below z33
    replace zq1 := zq1.below z33
    replace zr1 := zr1.below z33
    replace zq2 := zq2.below z33
    replace zr2 := zr2.below z33
    replace zq3 := zq3.below z33
    replace zr3 := zr3.below z33
    replace hW := hW.trans (z33.mono hW.size)
    have H_ea := Lib.hid I33
    clear z33 hw33 I33
    have z34 := zba w33 (.cells #[.bool false, .slice none 0 0] 30)
    obtain ⟨w34, hw34⟩ : ∃ w', w' = w33.alloc (.cells #[.bool false, .slice none 0 0] 30) := ⟨_, rfl⟩
    have e34 : w33.heap.size = w32.heap.size + 1 := by rw [← HW33.out]; simp
    have I34 : Ib w34 (w32.heap.size + 1) false none 0 0 := by rw [← e34, hw34]; exact Ib.new _ _ _ _ _ _
    clear e34
    rw [← hw34] at z34
    have HW34 := Lib.hid hw34.symm
    replace H_x := Lib.hid (H_x.out.below z34)
    replace H_y := Lib.hid (H_y.out.below z34)
    replace H_qa := Lib.hid (H_qa.out.below z34)
    replace H_ra := Lib.hid (H_ra.out.below z34)
    replace H_qb := Lib.hid (H_qb.out.below z34)
    replace H_rb := Lib.hid (H_rb.out.below z34)
    replace H_qc := Lib.hid (H_qc.out.below z34)
    replace H_rc := Lib.hid (H_rc.out.below z34)
    replace H_ea := Lib.hid (H_ea.out.below z34)
    replace px := px.below z34
    replace py := py.below z34
    replace zq1 := zq1.below z34
    replace zr1 := zr1.below z34
    replace zq2 := zq2.below z34
    replace zr2 := zr2.below z34
    replace zq3 := zq3.below z34
    replace zr3 := zr3.below z34
    replace hW := hW.trans (z34.mono hW.size)
    have H_za := Lib.hid I34
    clear z34 hw34 I34
    obtain ⟨y1, y2, y3, y4, y5⟩ := O_y.out
    go_wp2_with fail
    rw [HW33.out]
    rw [HW34.out]
    clear y1 y2 y3 y4 y5 O_x O_y O_qa O_ra O_qb O_rb O_qc O_rc
    refine (rsign_v py HSGY.out).mono ?_
    rintro e w35 ⟨rfl, B35⟩
    replace H_x := Lib.hid (H_x.out.below B35)
    replace H_y := Lib.hid (H_y.out.below B35)
    replace H_qa := Lib.hid (H_qa.out.below B35)
    replace H_ra := Lib.hid (H_ra.out.below B35)
    replace H_qb := Lib.hid (H_qb.out.below B35)
    replace H_rb := Lib.hid (H_rb.out.below B35)
    replace H_qc := Lib.hid (H_qc.out.below B35)
    replace H_rc := Lib.hid (H_rc.out.below B35)
    replace H_ea := Lib.hid (H_ea.out.below B35)
    replace H_za := Lib.hid (H_za.out.below B35)
    replace px := px.below B35
    replace py := py.below B35
    replace zq1 := zq1.below B35
    replace zr1 := zr1.below B35
    replace zq2 := zq2.below B35
    replace zr2 := zr2.below B35
    replace zq3 := zq3.below B35
    replace zr3 := zr3.below B35
    replace hW := hW.trans (B35.mono hW.size)
    clear B35
    have hsy := HSY.out
    obtain ⟨x1, x2, x3, x4, x5⟩ := H_x.out
    obtain ⟨y1, y2, y3, y4, y5⟩ := H_y.out
    go_wp2_with fail
    clear x1 x2 x3 x4 x5 y1 y2 y3 y4 y5
    refine (rquo_v px py (by omega) (by omega) h0 HC1.out).mono ?_
    rintro e w36 ⟨s36, A36, n36, c36, t36, D36, m36, d36, rfl, rq1, rr1, k36, l36, B36⟩
    replace H_x := Lib.hid (H_x.out.below B36)
    replace H_y := Lib.hid (H_y.out.below B36)
    replace H_qa := Lib.hid (H_qa.out.below B36)
    replace H_ra := Lib.hid (H_ra.out.below B36)
    replace H_qb := Lib.hid (H_qb.out.below B36)
    replace H_rb := Lib.hid (H_rb.out.below B36)
    replace H_qc := Lib.hid (H_qc.out.below B36)
    replace H_rc := Lib.hid (H_rc.out.below B36)
    replace H_ea := Lib.hid (H_ea.out.below B36)
    replace H_za := Lib.hid (H_za.out.below B36)
    replace px := px.below B36
    replace py := py.below B36
    replace zq1 := zq1.below B36
    replace zr1 := zr1.below B36
    replace zq2 := zq2.below B36
    replace zr2 := zr2.below B36
    replace zq3 := zq3.below B36
    replace zr3 := zr3.below B36
    replace hW := hW.trans (B36.mono hW.size)
    clear B36
    clear hsy
    obtain ⟨w37, hw37, I37, J37, z37⟩ := opent2 w36 s36 t36 A36 D36 n36 c36 m36 d36 30 30
    have HW37 := Lib.hid hw37.symm
    have O_x := H_x
    have O_y := H_y
    have O_qa := H_qa
    have O_ra := H_ra
    have O_qb := H_qb
    have O_rb := H_rb
    have O_qc := H_qc
    have O_rc := H_rc
    have O_ea := H_ea
    have O_za := H_za
    replace H_x := Lib.hid (H_x.out.below z37)
    replace H_y := Lib.hid (H_y.out.below z37)
    replace H_qa := Lib.hid (H_qa.out.below z37)
    replace H_ra := Lib.hid (H_ra.out.below z37)
    replace H_qb := Lib.hid (H_qb.out.below z37)
    replace H_rb := Lib.hid (H_rb.out.below z37)
    replace H_qc := Lib.hid (H_qc.out.below z37)
    replace H_rc := Lib.hid (H_rc.out.below z37)
    replace H_ea := Lib.hid (H_ea.out.below z37)
    replace H_za := Lib.hid (H_za.out.below z37)
    replace px := px.below z37
    replace py := py.below z37
    replace zq1 := zq1.below z37
    replace zr1 := zr1.below z37
    replace zq2 := zq2.below z37
    replace zr2 := zr2.below z37
    replace zq3 := zq3.below z37
    replace zr3 := zr3.below z37
    replace rq1 := rq1.below z37
    replace rr1 := rr1.below z37
    replace hW := hW.trans (z37.mono hW.size)
    have H_ca := Lib.hid I37
    have H_da := Lib.hid J37
    clear z37 hw37 I37 J37
    obtain ⟨x1, x2, x3, x4, x5⟩ := O_x.out
    obtain ⟨y1, y2, y3, y4, y5⟩ := O_y.out
    go_wp2_with fail
    rw [HW37.out]
    clear x1 x2 x3 x4 x5 y1 y2 y3 y4 y5 O_x O_y O_qa O_ra O_qb O_rb O_qc O_rc O_ea O_za
    refine (rfloor_v px py (by omega) (by omega) h0 HC2.out).mono ?_
    rintro e w38 ⟨s38, A38, n38, c38, t38, D38, m38, d38, rfl, rq2, rr2, k38, l38, B38⟩
    replace H_x := Lib.hid (H_x.out.below B38)
    replace H_y := Lib.hid (H_y.out.below B38)
    replace H_qa := Lib.hid (H_qa.out.below B38)
    replace H_ra := Lib.hid (H_ra.out.below B38)
    replace H_qb := Lib.hid (H_qb.out.below B38)
    replace H_rb := Lib.hid (H_rb.out.below B38)
    replace H_qc := Lib.hid (H_qc.out.below B38)
    replace H_rc := Lib.hid (H_rc.out.below B38)
    replace H_ea := Lib.hid (H_ea.out.below B38)
    replace H_za := Lib.hid (H_za.out.below B38)
    replace H_ca := Lib.hid (H_ca.out.below B38)
    replace H_da := Lib.hid (H_da.out.below B38)
    replace px := px.below B38
    replace py := py.below B38
    replace zq1 := zq1.below B38
    replace zr1 := zr1.below B38
    replace zq2 := zq2.below B38
    replace zr2 := zr2.below B38
    replace zq3 := zq3.below B38
    replace zr3 := zr3.below B38
    replace rq1 := rq1.below B38
    replace rr1 := rr1.below B38
    replace hW := hW.trans (B38.mono hW.size)
    clear B38
    obtain ⟨w39, hw39, I39, J39, z39⟩ := opent2 w38 s38 t38 A38 D38 n38 c38 m38 d38 30 30
    have HW39 := Lib.hid hw39.symm
    have O_x := H_x
    have O_y := H_y
    have O_qa := H_qa
    have O_ra := H_ra
    have O_qb := H_qb
    have O_rb := H_rb
    have O_qc := H_qc
    have O_rc := H_rc
    have O_ea := H_ea
    have O_za := H_za
    have O_ca := H_ca
    have O_da := H_da
    replace H_x := Lib.hid (H_x.out.below z39)
    replace H_y := Lib.hid (H_y.out.below z39)
    replace H_qa := Lib.hid (H_qa.out.below z39)
    replace H_ra := Lib.hid (H_ra.out.below z39)
    replace H_qb := Lib.hid (H_qb.out.below z39)
    replace H_rb := Lib.hid (H_rb.out.below z39)
    replace H_qc := Lib.hid (H_qc.out.below z39)
    replace H_rc := Lib.hid (H_rc.out.below z39)
    replace H_ea := Lib.hid (H_ea.out.below z39)
    replace H_za := Lib.hid (H_za.out.below z39)
    replace H_ca := Lib.hid (H_ca.out.below z39)
    replace H_da := Lib.hid (H_da.out.below z39)
    replace px := px.below z39
    replace py := py.below z39
    replace zq1 := zq1.below z39
    replace zr1 := zr1.below z39
    replace zq2 := zq2.below z39
    replace zr2 := zr2.below z39
    replace zq3 := zq3.below z39
    replace zr3 := zr3.below z39
    replace rq1 := rq1.below z39
    replace rr1 := rr1.below z39
    replace rq2 := rq2.below z39
    replace rr2 := rr2.below z39
    replace hW := hW.trans (z39.mono hW.size)
    have H_cb := Lib.hid I39
    have H_db := Lib.hid J39
    clear z39 hw39 I39 J39
    obtain ⟨x1, x2, x3, x4, x5⟩ := O_x.out
    obtain ⟨y1, y2, y3, y4, y5⟩ := O_y.out
    go_wp2_with fail
    rw [HW39.out]
    clear x1 x2 x3 x4 x5 y1 y2 y3 y4 y5 O_x O_y O_qa O_ra O_qb O_rb O_qc O_rc O_ea O_za O_ca O_da
    refine (reuclid_v px py (by omega) (by omega) h0 HC3.out).mono ?_
    rintro e w40 ⟨s40, A40, n40, c40, t40, D40, m40, d40, rfl, rq3, rr3, k40, l40, B40⟩
    replace H_x := Lib.hid (H_x.out.below B40)
    replace H_y := Lib.hid (H_y.out.below B40)
    replace H_qa := Lib.hid (H_qa.out.below B40)
    replace H_ra := Lib.hid (H_ra.out.below B40)
    replace H_qb := Lib.hid (H_qb.out.below B40)
    replace H_rb := Lib.hid (H_rb.out.below B40)
    replace H_qc := Lib.hid (H_qc.out.below B40)
    replace H_rc := Lib.hid (H_rc.out.below B40)
    replace H_ea := Lib.hid (H_ea.out.below B40)
    replace H_za := Lib.hid (H_za.out.below B40)
    replace H_ca := Lib.hid (H_ca.out.below B40)
    replace H_da := Lib.hid (H_da.out.below B40)
    replace H_cb := Lib.hid (H_cb.out.below B40)
    replace H_db := Lib.hid (H_db.out.below B40)
    replace px := px.below B40
    replace py := py.below B40
    replace zq1 := zq1.below B40
    replace zr1 := zr1.below B40
    replace zq2 := zq2.below B40
    replace zr2 := zr2.below B40
    replace zq3 := zq3.below B40
    replace zr3 := zr3.below B40
    replace rq1 := rq1.below B40
    replace rr1 := rr1.below B40
    replace rq2 := rq2.below B40
    replace rr2 := rr2.below B40
    replace hW := hW.trans (B40.mono hW.size)
    clear B40
    obtain ⟨w41, hw41, I41, J41, z41⟩ := opent2 w40 s40 t40 A40 D40 n40 c40 m40 d40 30 30
    have HW41 := Lib.hid hw41.symm
    have O_x := H_x
    have O_y := H_y
    have O_qa := H_qa
    have O_ra := H_ra
    have O_qb := H_qb
    have O_rb := H_rb
    have O_qc := H_qc
    have O_rc := H_rc
    have O_ea := H_ea
    have O_za := H_za
    have O_ca := H_ca
    have O_da := H_da
    have O_cb := H_cb
    have O_db := H_db
    replace H_x := Lib.hid (H_x.out.below z41)
    replace H_y := Lib.hid (H_y.out.below z41)
    replace H_qa := Lib.hid (H_qa.out.below z41)
    replace H_ra := Lib.hid (H_ra.out.below z41)
    replace H_qb := Lib.hid (H_qb.out.below z41)
    replace H_rb := Lib.hid (H_rb.out.below z41)
    replace H_qc := Lib.hid (H_qc.out.below z41)
    replace H_rc := Lib.hid (H_rc.out.below z41)
    replace H_ea := Lib.hid (H_ea.out.below z41)
    replace H_za := Lib.hid (H_za.out.below z41)
    replace H_ca := Lib.hid (H_ca.out.below z41)
    replace H_da := Lib.hid (H_da.out.below z41)
    replace H_cb := Lib.hid (H_cb.out.below z41)
    replace H_db := Lib.hid (H_db.out.below z41)
    replace px := px.below z41
    replace py := py.below z41
    replace zq1 := zq1.below z41
    replace zr1 := zr1.below z41
    replace zq2 := zq2.below z41
    replace zr2 := zr2.below z41
    replace zq3 := zq3.below z41
    replace zr3 := zr3.below z41
    replace rq1 := rq1.below z41
    replace rr1 := rr1.below z41
    replace rq2 := rq2.below z41
    replace rr2 := rr2.below z41
    replace rq3 := rq3.below z41
    replace rr3 := rr3.below z41
    replace hW := hW.trans (z41.mono hW.size)
    have H_cc := Lib.hid I41
    have H_dc := Lib.hid J41
    clear z41 hw41 I41 J41
    clear px py
    obtain ⟨qa1, qa2, qa3, qa4, qa5⟩ := O_qa.out
    obtain ⟨ca1, ca2, ca3, ca4, ca5⟩ := O_ca.out
    go_wp2_with fail
    rw [HW41.out]
    clear qa1 qa2 qa3 qa4 qa5 ca1 ca2 ca3 ca4 ca5 O_x O_y O_qa O_ra O_qb O_rb O_qc O_rc O_ea O_za O_ca O_da O_cb O_db
    refine (ris_v zq1 rq1 (by omega) rfl).mono ?_
    rintro e w42 ⟨rfl, B42⟩
    replace H_x := Lib.hid (H_x.out.below B42)
    replace H_y := Lib.hid (H_y.out.below B42)
    replace H_qa := Lib.hid (H_qa.out.below B42)
    replace H_ra := Lib.hid (H_ra.out.below B42)
    replace H_qb := Lib.hid (H_qb.out.below B42)
    replace H_rb := Lib.hid (H_rb.out.below B42)
    replace H_qc := Lib.hid (H_qc.out.below B42)
    replace H_rc := Lib.hid (H_rc.out.below B42)
    replace H_ea := Lib.hid (H_ea.out.below B42)
    replace H_za := Lib.hid (H_za.out.below B42)
    replace H_ca := Lib.hid (H_ca.out.below B42)
    replace H_da := Lib.hid (H_da.out.below B42)
    replace H_cb := Lib.hid (H_cb.out.below B42)
    replace H_db := Lib.hid (H_db.out.below B42)
    replace H_cc := Lib.hid (H_cc.out.below B42)
    replace H_dc := Lib.hid (H_dc.out.below B42)
    replace zq1 := zq1.below B42
    replace zr1 := zr1.below B42
    replace zq2 := zq2.below B42
    replace zr2 := zr2.below B42
    replace zq3 := zq3.below B42
    replace zr3 := zr3.below B42
    replace rq1 := rq1.below B42
    replace rr1 := rr1.below B42
    replace rq2 := rq2.below B42
    replace rr2 := rr2.below B42
    replace rq3 := rq3.below B42
    replace rr3 := rr3.below B42
    replace hW := hW.trans (B42.mono hW.size)
    clear B42
    obtain ⟨ra1, ra2, ra3, ra4, ra5⟩ := H_ra.out
    obtain ⟨da1, da2, da3, da4, da5⟩ := H_da.out
    go_wp2_with fail
    clear ra1 ra2 ra3 ra4 ra5 da1 da2 da3 da4 da5
    refine (ris_v zr1 rr1 (by omega) rfl).mono ?_
    rintro e w43 ⟨rfl, B43⟩
    replace H_x := Lib.hid (H_x.out.below B43)
    replace H_y := Lib.hid (H_y.out.below B43)
    replace H_qa := Lib.hid (H_qa.out.below B43)
    replace H_ra := Lib.hid (H_ra.out.below B43)
    replace H_qb := Lib.hid (H_qb.out.below B43)
    replace H_rb := Lib.hid (H_rb.out.below B43)
    replace H_qc := Lib.hid (H_qc.out.below B43)
    replace H_rc := Lib.hid (H_rc.out.below B43)
    replace H_ea := Lib.hid (H_ea.out.below B43)
    replace H_za := Lib.hid (H_za.out.below B43)
    replace H_ca := Lib.hid (H_ca.out.below B43)
    replace H_da := Lib.hid (H_da.out.below B43)
    replace H_cb := Lib.hid (H_cb.out.below B43)
    replace H_db := Lib.hid (H_db.out.below B43)
    replace H_cc := Lib.hid (H_cc.out.below B43)
    replace H_dc := Lib.hid (H_dc.out.below B43)
    replace zq1 := zq1.below B43
    replace zr1 := zr1.below B43
    replace zq2 := zq2.below B43
    replace zr2 := zr2.below B43
    replace zq3 := zq3.below B43
    replace zr3 := zr3.below B43
    replace rq1 := rq1.below B43
    replace rr1 := rr1.below B43
    replace rq2 := rq2.below B43
    replace rr2 := rr2.below B43
    replace rq3 := rq3.below B43
    replace rr3 := rr3.below B43
    replace hW := hW.trans (B43.mono hW.size)
    clear B43
    obtain ⟨qb1, qb2, qb3, qb4, qb5⟩ := H_qb.out
    obtain ⟨cb1, cb2, cb3, cb4, cb5⟩ := H_cb.out
    go_wp2_with fail
    clear qb1 qb2 qb3 qb4 qb5 cb1 cb2 cb3 cb4 cb5
    refine (ris_v zq2 rq2 (by omega) rfl).mono ?_
    rintro e w44 ⟨rfl, B44⟩
    replace H_x := Lib.hid (H_x.out.below B44)
    replace H_y := Lib.hid (H_y.out.below B44)
    replace H_qa := Lib.hid (H_qa.out.below B44)
    replace H_ra := Lib.hid (H_ra.out.below B44)
    replace H_qb := Lib.hid (H_qb.out.below B44)
    replace H_rb := Lib.hid (H_rb.out.below B44)
    replace H_qc := Lib.hid (H_qc.out.below B44)
    replace H_rc := Lib.hid (H_rc.out.below B44)
    replace H_ea := Lib.hid (H_ea.out.below B44)
    replace H_za := Lib.hid (H_za.out.below B44)
    replace H_ca := Lib.hid (H_ca.out.below B44)
    replace H_da := Lib.hid (H_da.out.below B44)
    replace H_cb := Lib.hid (H_cb.out.below B44)
    replace H_db := Lib.hid (H_db.out.below B44)
    replace H_cc := Lib.hid (H_cc.out.below B44)
    replace H_dc := Lib.hid (H_dc.out.below B44)
    replace zq1 := zq1.below B44
    replace zr1 := zr1.below B44
    replace zq2 := zq2.below B44
    replace zr2 := zr2.below B44
    replace zq3 := zq3.below B44
    replace zr3 := zr3.below B44
    replace rq1 := rq1.below B44
    replace rr1 := rr1.below B44
    replace rq2 := rq2.below B44
    replace rr2 := rr2.below B44
    replace rq3 := rq3.below B44
    replace rr3 := rr3.below B44
    replace hW := hW.trans (B44.mono hW.size)
    clear B44
    obtain ⟨rb1, rb2, rb3, rb4, rb5⟩ := H_rb.out
    obtain ⟨db1, db2, db3, db4, db5⟩ := H_db.out
    go_wp2_with fail
    clear rb1 rb2 rb3 rb4 rb5 db1 db2 db3 db4 db5
    refine (ris_v zr2 rr2 (by omega) rfl).mono ?_
    rintro e w45 ⟨rfl, B45⟩
    replace H_x := Lib.hid (H_x.out.below B45)
    replace H_y := Lib.hid (H_y.out.below B45)
    replace H_qa := Lib.hid (H_qa.out.below B45)
    replace H_ra := Lib.hid (H_ra.out.below B45)
    replace H_qb := Lib.hid (H_qb.out.below B45)
    replace H_rb := Lib.hid (H_rb.out.below B45)
    replace H_qc := Lib.hid (H_qc.out.below B45)
    replace H_rc := Lib.hid (H_rc.out.below B45)
    replace H_ea := Lib.hid (H_ea.out.below B45)
    replace H_za := Lib.hid (H_za.out.below B45)
    replace H_ca := Lib.hid (H_ca.out.below B45)
    replace H_da := Lib.hid (H_da.out.below B45)
    replace H_cb := Lib.hid (H_cb.out.below B45)
    replace H_db := Lib.hid (H_db.out.below B45)
    replace H_cc := Lib.hid (H_cc.out.below B45)
    replace H_dc := Lib.hid (H_dc.out.below B45)
    replace zq1 := zq1.below B45
    replace zr1 := zr1.below B45
    replace zq2 := zq2.below B45
    replace zr2 := zr2.below B45
    replace zq3 := zq3.below B45
    replace zr3 := zr3.below B45
    replace rq1 := rq1.below B45
    replace rr1 := rr1.below B45
    replace rq2 := rq2.below B45
    replace rr2 := rr2.below B45
    replace rq3 := rq3.below B45
    replace rr3 := rr3.below B45
    replace hW := hW.trans (B45.mono hW.size)
    clear B45
    obtain ⟨qc1, qc2, qc3, qc4, qc5⟩ := H_qc.out
    obtain ⟨cc1, cc2, cc3, cc4, cc5⟩ := H_cc.out
    go_wp2_with fail
    clear qc1 qc2 qc3 qc4 qc5 cc1 cc2 cc3 cc4 cc5
    refine (ris_v zq3 rq3 (by omega) rfl).mono ?_
    rintro e w46 ⟨rfl, B46⟩
    replace H_x := Lib.hid (H_x.out.below B46)
    replace H_y := Lib.hid (H_y.out.below B46)
    replace H_qa := Lib.hid (H_qa.out.below B46)
    replace H_ra := Lib.hid (H_ra.out.below B46)
    replace H_qb := Lib.hid (H_qb.out.below B46)
    replace H_rb := Lib.hid (H_rb.out.below B46)
    replace H_qc := Lib.hid (H_qc.out.below B46)
    replace H_rc := Lib.hid (H_rc.out.below B46)
    replace H_ea := Lib.hid (H_ea.out.below B46)
    replace H_za := Lib.hid (H_za.out.below B46)
    replace H_ca := Lib.hid (H_ca.out.below B46)
    replace H_da := Lib.hid (H_da.out.below B46)
    replace H_cb := Lib.hid (H_cb.out.below B46)
    replace H_db := Lib.hid (H_db.out.below B46)
    replace H_cc := Lib.hid (H_cc.out.below B46)
    replace H_dc := Lib.hid (H_dc.out.below B46)
    replace zq1 := zq1.below B46
    replace zr1 := zr1.below B46
    replace zq2 := zq2.below B46
    replace zr2 := zr2.below B46
    replace zq3 := zq3.below B46
    replace zr3 := zr3.below B46
    replace rq1 := rq1.below B46
    replace rr1 := rr1.below B46
    replace rq2 := rq2.below B46
    replace rr2 := rr2.below B46
    replace rq3 := rq3.below B46
    replace rr3 := rr3.below B46
    replace hW := hW.trans (B46.mono hW.size)
    clear B46
    obtain ⟨rc1, rc2, rc3, rc4, rc5⟩ := H_rc.out
    obtain ⟨dc1, dc2, dc3, dc4, dc5⟩ := H_dc.out
    go_wp2_with fail
    clear rc1 rc2 rc3 rc4 rc5 dc1 dc2 dc3 dc4 dc5
    refine (ris_v zr3 rr3 (by omega) rfl).mono ?_
    rintro e w47 ⟨rfl, B47⟩
    replace H_x := Lib.hid (H_x.out.below B47)
    replace H_y := Lib.hid (H_y.out.below B47)
    replace H_qa := Lib.hid (H_qa.out.below B47)
    replace H_ra := Lib.hid (H_ra.out.below B47)
    replace H_qb := Lib.hid (H_qb.out.below B47)
    replace H_rb := Lib.hid (H_rb.out.below B47)
    replace H_qc := Lib.hid (H_qc.out.below B47)
    replace H_rc := Lib.hid (H_rc.out.below B47)
    replace H_ea := Lib.hid (H_ea.out.below B47)
    replace H_za := Lib.hid (H_za.out.below B47)
    replace H_ca := Lib.hid (H_ca.out.below B47)
    replace H_da := Lib.hid (H_da.out.below B47)
    replace H_cb := Lib.hid (H_cb.out.below B47)
    replace H_db := Lib.hid (H_db.out.below B47)
    replace H_cc := Lib.hid (H_cc.out.below B47)
    replace H_dc := Lib.hid (H_dc.out.below B47)
    replace zq1 := zq1.below B47
    replace zr1 := zr1.below B47
    replace zq2 := zq2.below B47
    replace zr2 := zr2.below B47
    replace zq3 := zq3.below B47
    replace zr3 := zr3.below B47
    replace rq1 := rq1.below B47
    replace rr1 := rr1.below B47
    replace rq2 := rq2.below B47
    replace rr2 := rr2.below B47
    replace rq3 := rq3.below B47
    replace rr3 := rr3.below B47
    replace hW := hW.trans (B47.mono hW.size)
    clear B47
    obtain ⟨da1, da2, da3, da4, da5⟩ := H_da.out
    go_wp2_with fail
    clear da1 da2 da3 da4 da5
    refine (rsign_v rr1 HRR.out).mono ?_
    rintro e w48 ⟨rfl, B48⟩
    replace H_x := Lib.hid (H_x.out.below B48)
    replace H_y := Lib.hid (H_y.out.below B48)
    replace H_qa := Lib.hid (H_qa.out.below B48)
    replace H_ra := Lib.hid (H_ra.out.below B48)
    replace H_qb := Lib.hid (H_qb.out.below B48)
    replace H_rb := Lib.hid (H_rb.out.below B48)
    replace H_qc := Lib.hid (H_qc.out.below B48)
    replace H_rc := Lib.hid (H_rc.out.below B48)
    replace H_ea := Lib.hid (H_ea.out.below B48)
    replace H_za := Lib.hid (H_za.out.below B48)
    replace H_ca := Lib.hid (H_ca.out.below B48)
    replace H_da := Lib.hid (H_da.out.below B48)
    replace H_cb := Lib.hid (H_cb.out.below B48)
    replace H_db := Lib.hid (H_db.out.below B48)
    replace H_cc := Lib.hid (H_cc.out.below B48)
    replace H_dc := Lib.hid (H_dc.out.below B48)
    replace zq1 := zq1.below B48
    replace zr1 := zr1.below B48
    replace zq2 := zq2.below B48
    replace zr2 := zr2.below B48
    replace zq3 := zq3.below B48
    replace zr3 := zr3.below B48
    replace rq1 := rq1.below B48
    replace rr1 := rr1.below B48
    replace rq2 := rq2.below B48
    replace rr2 := rr2.below B48
    replace rq3 := rq3.below B48
    replace rr3 := rr3.below B48
    replace hW := hW.trans (B48.mono hW.size)
    clear B48
    have hrn := HRN.out
    have hrn2 := HRN2.out
    obtain ⟨ea1, ea2, ea3, ea4, ea5⟩ := H_ea.out
    obtain ⟨za1, za2, za3, za4, za5⟩ := H_za.out
    go_wp2_with fail
    clear ea1 ea2 ea3 ea4 ea5 za1 za2 za3 za4 za5
    refine (ris_v (Zc.zero _) (Rz.zero _) (by omega) rfl).mono ?_
    rintro e w49 ⟨rfl, B49⟩
    replace H_x := Lib.hid (H_x.out.below B49)
    replace H_y := Lib.hid (H_y.out.below B49)
    replace H_qa := Lib.hid (H_qa.out.below B49)
    replace H_ra := Lib.hid (H_ra.out.below B49)
    replace H_qb := Lib.hid (H_qb.out.below B49)
    replace H_rb := Lib.hid (H_rb.out.below B49)
    replace H_qc := Lib.hid (H_qc.out.below B49)
    replace H_rc := Lib.hid (H_rc.out.below B49)
    replace H_ea := Lib.hid (H_ea.out.below B49)
    replace H_za := Lib.hid (H_za.out.below B49)
    replace H_ca := Lib.hid (H_ca.out.below B49)
    replace H_da := Lib.hid (H_da.out.below B49)
    replace H_cb := Lib.hid (H_cb.out.below B49)
    replace H_db := Lib.hid (H_db.out.below B49)
    replace H_cc := Lib.hid (H_cc.out.below B49)
    replace H_dc := Lib.hid (H_dc.out.below B49)
    replace zq1 := zq1.below B49
    replace zr1 := zr1.below B49
    replace zq2 := zq2.below B49
    replace zr2 := zr2.below B49
    replace zq3 := zq3.below B49
    replace zr3 := zr3.below B49
    replace rq1 := rq1.below B49
    replace rr1 := rr1.below B49
    replace rq2 := rq2.below B49
    replace rr2 := rr2.below B49
    replace rq3 := rq3.below B49
    replace rr3 := rr3.below B49
    replace hW := hW.trans (B49.mono hW.size)
    clear B49
    go_wp2_with fail
    go_ret
    exact ⟨rfl, hW⟩

set_option maxRecDepth 100000 in
set_option maxHeartbeats 4000000 in
theorem idiv_exact {A B : Option Addr} {n m c d : Nat} {s t : Bool} {x y : Int} {w : World} (hx : Zv w s A n c x) (hy : Zv w t B m d y) (h1 : n ≤ 10) (h2 : m ≤ 10) (h0 : y ≠ 0) (hmod : x.natAbs % y.natAbs = 0) :
    Calls Try.prog 4 #[.agg #[.bool s, .slice A n c], .agg #[.bool t, .slice B m d]] w (TruePost w) := by
  obtain ⟨w3, hw3, IA, IB, z0⟩ := open2 w s t A B n c m d
  have HW := Lib.hid hw3.symm
  have HEX := hx.abs.2
  have HEY := hy.abs.2
  replace hx := hx.below z0
  replace hy := hy.below z0
  have hW := z0
  have H_a := Lib.hid IA
  have H_b := Lib.hid IB
  clear hw3 IA IB z0
  obtain ⟨q1, hq1⟩ : ∃ q, dqv s t s x.natAbs y.natAbs = q := ⟨_, rfl⟩
  obtain ⟨q2, hq2⟩ : ∃ q, dqv s t t x.natAbs y.natAbs = q := ⟨_, rfl⟩
  obtain ⟨q3, hq3⟩ : ∃ q, dqv s t false x.natAbs y.natAbs = q := ⟨_, rfl⟩
  have hY0 : 0 < y.natAbs := by omega
  have rest : ∀ u q, dqv s t u x.natAbs y.natAbs = q → drv s u x.natAbs y.natAbs = x - q * y := by
    intro u q h
    have := dqv_eq (s := s) (t := t) (u := u) (X := x.natAbs) hY0
    rw [h, ← HEX.out, ← HEY.out] at this
    omega
  have HR1 := Lib.hid (rest _ _ hq1)
  have HR2 := Lib.hid (rest _ _ hq2)
  have HR3 := Lib.hid (rest _ _ hq3)
  have hr0 : x - q1 * y = 0 := by
    rw [← HR1.out]
    rw [(dqv_b (s := s) (t := t) (u := s) rfl).2]
    rw [hmod]; cases s <;> simp [sg]
  obtain ⟨rr, hrr⟩ : ∃ r, (x - q1 * y).sign = r := ⟨_, rfl⟩
  have HRR := Lib.hid hrr
  have hrn : rr = 0 := by rw [← hrr, hr0]; rfl
  have HRN := Lib.hid hrn
  have hex : q1 * y + (x - q1 * y) = x := by omega
  have HEXQ := Lib.hid (show q1 * y = x by omega)
  have sx := sign_as HEX.out
  have sy := sign_as HEY.out
  have SX := Lib.hid sx
  have SY := Lib.hid sy
  obtain ⟨sgy, hsgy⟩ : ∃ r, y.sign = r := ⟨_, rfl⟩
  have hsy : (sgy == 0) = false := by rw [beq_eq_false_iff_ne, ← hsgy]; intro h; exact h0 (Int.sign_eq_zero_iff_zero.1 h)
  have HSGY := Lib.hid hsgy
  have HSY := Lib.hid hsy
  have HQ1 := Lib.hid hq1
  have HQ2 := Lib.hid hq2
  have HQ3 := Lib.hid hq3
  have HMOD := Lib.hid hmod
  clear hq1 hq2 hq3 rest hr0 hrr hrn hex sx sy hsgy hsy hmod
  go_enter Try.func4, Try.ntmps4
  obtain ⟨a1, a2, a3, a4, a5⟩ := H_a.out
  obtain ⟨b1, b2, b3, b4, b5⟩ := H_b.out
  go_wp2_with fail
  rw [HW.out]
  clear a1 a2 a3 a4 a5 b1 b2 b3 b4 b5
  refine (zawake_calls _).mono ?_
  rintro e w21 ⟨rfl, B21⟩
  replace H_a := Lib.hid (H_a.out.below B21)
  replace H_b := Lib.hid (H_b.out.below B21)
  replace hx := hx.below B21
  replace hy := hy.below B21
  replace hW := hW.trans (B21.mono hW.size)
  clear B21
  obtain ⟨a1, a2, a3, a4, a5⟩ := H_a.out
  obtain ⟨b1, b2, b3, b4, b5⟩ := H_b.out
  go_wp2_with fail
  clear a1 a2 a3 a4 a5 b1 b2 b3 b4 b5
  refine (zfew_v (k := 10) (b := true) (by omega) (by omega) (by omega) (by omega) (by rw [decide_eq_true_iff]; omega)).mono ?_
  rintro e w22 ⟨rfl, B22⟩
  replace H_a := Lib.hid (H_a.out.below B22)
  replace H_b := Lib.hid (H_b.out.below B22)
  replace hx := hx.below B22
  replace hy := hy.below B22
  replace hW := hW.trans (B22.mono hW.size)
  clear B22
  obtain ⟨a1, a2, a3, a4, a5⟩ := H_a.out
  obtain ⟨b1, b2, b3, b4, b5⟩ := H_b.out
  go_wp2_with fail
  clear a1 a2 a3 a4 a5 b1 b2 b3 b4 b5
  go_upto_region 3 with fail
  go_cut [5, 6] (TwoV w22 x y 48 48)
  case first =>
    obtain ⟨a1, a2, a3, a4, a5⟩ := H_a.out
    obtain ⟨b1, b2, b3, b4, b5⟩ := H_b.out
    have an : ¬ (w22.heap.size = w.heap.size) := by omega
    have am : ¬ (w.heap.size = w22.heap.size) := by omega
    have an' : ¬ ((w22.heap.size + 1) = w.heap.size) := by omega
    have am' : ¬ (w.heap.size = (w22.heap.size + 1)) := by omega
    have bn : ¬ (w22.heap.size = (w.heap.size + 1)) := by omega
    have bm : ¬ ((w.heap.size + 1) = w22.heap.size) := by omega
    have bn' : ¬ ((w22.heap.size + 1) = (w.heap.size + 1)) := by omega
    have bm' : ¬ ((w.heap.size + 1) = (w22.heap.size + 1)) := by omega
    go_region_held3 (fun w' => w'.cell? ⟨w.heap.size, 0, none⟩ = some (.bool s) ∧ w'.cell? ⟨w.heap.size, 1, none⟩ = some (.slice A n c) ∧ w'.cell? ⟨(w.heap.size + 1), 0, none⟩ = some (.bool t) ∧ w'.cell? ⟨(w.heap.size + 1), 1, none⟩ = some (.slice B m d)) (go_keep) (first
      | (go_at_call 13; (with_reducible refine (rfrom_v (hx.below (below_drew _)) (by omega)).mono ?_); rintro e w23 ⟨s23, A23, n23, c23, rfl, p23, k23, B23⟩; have Q23 := zup (below_drew _) B23; obtain ⟨ax23, ay23, af23, ag23, az23⟩ := H_a.out.below Q23; have an23 : ¬ (w23.heap.size = w.heap.size) := (by omega); have am23 : ¬ (w.heap.size = w23.heap.size) := (by omega); have an23' : ¬ ((w23.heap.size + 1) = w.heap.size) := (by omega); have am23' : ¬ (w.heap.size = (w23.heap.size + 1)) := (by omega); obtain ⟨bx23, by23, bf23, bg23, bz23⟩ := H_b.out.below Q23; have bn23 : ¬ (w23.heap.size = (w.heap.size + 1)) := (by omega); have bm23 : ¬ ((w.heap.size + 1) = w23.heap.size) := (by omega); have bn23' : ¬ ((w23.heap.size + 1) = (w.heap.size + 1)) := (by omega); have bm23' : ¬ ((w.heap.size + 1) = (w23.heap.size + 1)) := (by omega))
      | (go_at_call 13; (with_reducible refine (rfrom_v (hx.below (zbd _ _)) (by omega)).mono ?_); rintro e w23 ⟨s23, A23, n23, c23, rfl, p23, k23, B23⟩; have Q23 := zup (zbd _ _) B23; obtain ⟨ax23, ay23, af23, ag23, az23⟩ := H_a.out.below Q23; have an23 : ¬ (w23.heap.size = w.heap.size) := (by omega); have am23 : ¬ (w.heap.size = w23.heap.size) := (by omega); have an23' : ¬ ((w23.heap.size + 1) = w.heap.size) := (by omega); have am23' : ¬ (w.heap.size = (w23.heap.size + 1)) := (by omega); obtain ⟨bx23, by23, bf23, bg23, bz23⟩ := H_b.out.below Q23; have bn23 : ¬ (w23.heap.size = (w.heap.size + 1)) := (by omega); have bm23 : ¬ ((w.heap.size + 1) = w23.heap.size) := (by omega); have bn23' : ¬ ((w23.heap.size + 1) = (w.heap.size + 1)) := (by omega); have bm23' : ¬ ((w.heap.size + 1) = (w23.heap.size + 1)) := (by omega); have Ja := (Ib.newd w22 false none 0 0 30).below B23; have ga := Nat.le_refl w22.heap.size; have Jc := Ja; obtain ⟨jx23a, jy23a, jf23a, jg23a, jz23a⟩ := Jc)
      | (go_at_call 13; (with_reducible refine (rfrom_v (hx.below (zbd2 _ _ _)) (by omega)).mono ?_); rintro e w23 ⟨s23, A23, n23, c23, rfl, p23, k23, B23⟩; have Q23 := zup (zbd2 _ _ _) B23; obtain ⟨ax23, ay23, af23, ag23, az23⟩ := H_a.out.below Q23; have an23 : ¬ (w23.heap.size = w.heap.size) := (by omega); have am23 : ¬ (w.heap.size = w23.heap.size) := (by omega); have an23' : ¬ ((w23.heap.size + 1) = w.heap.size) := (by omega); have am23' : ¬ (w.heap.size = (w23.heap.size + 1)) := (by omega); obtain ⟨bx23, by23, bf23, bg23, bz23⟩ := H_b.out.below Q23; have bn23 : ¬ (w23.heap.size = (w.heap.size + 1)) := (by omega); have bm23 : ¬ ((w.heap.size + 1) = w23.heap.size) := (by omega); have bn23' : ¬ ((w23.heap.size + 1) = (w.heap.size + 1)) := (by omega); have bm23' : ¬ ((w.heap.size + 1) = (w23.heap.size + 1)) := (by omega); have Ja := (ibd1v w22 30).below B23; have ga := Nat.le_refl w22.heap.size; have Jb := (ibd2v w22 30).below B23; have gb := Nat.le_succ w22.heap.size; have nab : ¬ (w22.heap.size = w22.heap.size + 1) := (by omega); have nba : ¬ (w22.heap.size + 1 = w22.heap.size) := (by omega); have Jc := Ja; obtain ⟨jx23a, jy23a, jf23a, jg23a, jz23a⟩ := Jc; have Jc := Jb; obtain ⟨jx23b, jy23b, jf23b, jg23b, jz23b⟩ := Jc)
      | (go_at_call 13; (with_reducible refine (rfrom_v (hy.below Q23) (by omega)).mono ?_); rintro e w24 ⟨s24, A24, n24, c24, rfl, p24, k24, B24⟩; have Q24 := zup Q23 B24; have J1 := (Ja).below B24; have J2 := (Jb).below B24; have g1 := ga; have g2 := gb; have n12 := nab; have n21 := nba; have pp := (p23).below B24; obtain ⟨ax24, ay24, af24, ag24, az24⟩ := H_a.out.below Q24; have an24 : ¬ (w24.heap.size = w.heap.size) := (by omega); have am24 : ¬ (w.heap.size = w24.heap.size) := (by omega); have an24' : ¬ ((w24.heap.size + 1) = w.heap.size) := (by omega); have am24' : ¬ (w.heap.size = (w24.heap.size + 1)) := (by omega); obtain ⟨bx24, by24, bf24, bg24, bz24⟩ := H_b.out.below Q24; have bn24 : ¬ (w24.heap.size = (w.heap.size + 1)) := (by omega); have bm24 : ¬ ((w.heap.size + 1) = w24.heap.size) := (by omega); have bn24' : ¬ ((w24.heap.size + 1) = (w.heap.size + 1)) := (by omega); have bm24' : ¬ ((w.heap.size + 1) = (w24.heap.size + 1)) := (by omega); have Jc := J1; obtain ⟨jx241, jy241, jf241, jg241, jz241⟩ := Jc; have Jc := J2; obtain ⟨jx242, jy242, jf242, jg242, jz242⟩ := Jc)
      | (go_at_call 13; (with_reducible refine (rfrom_v (hy.below (zup Q23 (zba _ _))) (by omega)).mono ?_); rintro e w24 ⟨s24, A24, n24, c24, rfl, p24, k24, B24⟩; have Q24 := zup (zup Q23 (zba _ _)) B24; have J1 := ((Ja).below (zba _ _)).below B24; have g1 := ga; have pp := ((p23).below (zba _ _)).below B24; have J2 := (Ib.new w23 false none 0 0 30).below B24; have g2 := Q23.size; have n12 : ¬ (w22.heap.size = w23.heap.size) := (by have := Ja.2.2.2.2; omega); have n21 : ¬ (w23.heap.size = w22.heap.size) := (by have := Ja.2.2.2.2; omega); obtain ⟨ax24, ay24, af24, ag24, az24⟩ := H_a.out.below Q24; have an24 : ¬ (w24.heap.size = w.heap.size) := (by omega); have am24 : ¬ (w.heap.size = w24.heap.size) := (by omega); have an24' : ¬ ((w24.heap.size + 1) = w.heap.size) := (by omega); have am24' : ¬ (w.heap.size = (w24.heap.size + 1)) := (by omega); obtain ⟨bx24, by24, bf24, bg24, bz24⟩ := H_b.out.below Q24; have bn24 : ¬ (w24.heap.size = (w.heap.size + 1)) := (by omega); have bm24 : ¬ ((w.heap.size + 1) = w24.heap.size) := (by omega); have bn24' : ¬ ((w24.heap.size + 1) = (w.heap.size + 1)) := (by omega); have bm24' : ¬ ((w.heap.size + 1) = (w24.heap.size + 1)) := (by omega); have Jc := J1; obtain ⟨jx241, jy241, jf241, jg241, jz241⟩ := Jc; have Jc := J2; obtain ⟨jx242, jy242, jf242, jg242, jz242⟩ := Jc)
      | (go_at_call 13; (with_reducible refine (rfrom_v (hy.below Q23) (by omega)).mono ?_); rintro e w24 ⟨s24, A24, n24, c24, rfl, p24, k24, B24⟩; have Q24 := zup Q23 B24; have J1 := (Ja).below B24; have g1 := ga; have pp := (p23).below B24; obtain ⟨ax24, ay24, af24, ag24, az24⟩ := H_a.out.below Q24; have an24 : ¬ (w24.heap.size = w.heap.size) := (by omega); have am24 : ¬ (w.heap.size = w24.heap.size) := (by omega); have an24' : ¬ ((w24.heap.size + 1) = w.heap.size) := (by omega); have am24' : ¬ (w.heap.size = (w24.heap.size + 1)) := (by omega); obtain ⟨bx24, by24, bf24, bg24, bz24⟩ := H_b.out.below Q24; have bn24 : ¬ (w24.heap.size = (w.heap.size + 1)) := (by omega); have bm24 : ¬ ((w.heap.size + 1) = w24.heap.size) := (by omega); have bn24' : ¬ ((w24.heap.size + 1) = (w.heap.size + 1)) := (by omega); have bm24' : ¬ ((w.heap.size + 1) = (w24.heap.size + 1)) := (by omega); have Jc := J1; obtain ⟨jx241, jy241, jf241, jg241, jz241⟩ := Jc)
      | (go_at_call 13; (with_reducible refine (rfrom_v (hy.below (zup Q23 (zba2 _ _ _))) (by omega)).mono ?_); rintro e w24 ⟨s24, A24, n24, c24, rfl, p24, k24, B24⟩; have Q24 := zup (zup Q23 (zba2 _ _ _)) B24; have J0 : Nat := 0; have pp := ((p23).below (zba2 _ _ _)).below B24; have J1 := (ib1v w23 30).below B24; have g1 := Q23.size; have J2 := (ib2v w23 30).below B24; have g2 := Nat.le_succ_of_le Q23.size; have n12 : ¬ (w23.heap.size = w23.heap.size + 1) := (by omega); have n21 : ¬ (w23.heap.size + 1 = w23.heap.size) := (by omega); obtain ⟨ax24, ay24, af24, ag24, az24⟩ := H_a.out.below Q24; have an24 : ¬ (w24.heap.size = w.heap.size) := (by omega); have am24 : ¬ (w.heap.size = w24.heap.size) := (by omega); have an24' : ¬ ((w24.heap.size + 1) = w.heap.size) := (by omega); have am24' : ¬ (w.heap.size = (w24.heap.size + 1)) := (by omega); obtain ⟨bx24, by24, bf24, bg24, bz24⟩ := H_b.out.below Q24; have bn24 : ¬ (w24.heap.size = (w.heap.size + 1)) := (by omega); have bm24 : ¬ ((w.heap.size + 1) = w24.heap.size) := (by omega); have bn24' : ¬ ((w24.heap.size + 1) = (w.heap.size + 1)) := (by omega); have bm24' : ¬ ((w.heap.size + 1) = (w24.heap.size + 1)) := (by omega); have Jc := J1; obtain ⟨jx241, jy241, jf241, jg241, jz241⟩ := Jc; have Jc := J2; obtain ⟨jx242, jy242, jf242, jg242, jz242⟩ := Jc)
      | (go_at_call 13; (with_reducible refine (rfrom_v (hy.below (zup Q23 (zba _ _))) (by omega)).mono ?_); rintro e w24 ⟨s24, A24, n24, c24, rfl, p24, k24, B24⟩; have Q24 := zup (zup Q23 (zba _ _)) B24; have J0 : Nat := 0; have pp := ((p23).below (zba _ _)).below B24; have J1 := (Ib.new w23 false none 0 0 30).below B24; have g1 := Q23.size; obtain ⟨ax24, ay24, af24, ag24, az24⟩ := H_a.out.below Q24; have an24 : ¬ (w24.heap.size = w.heap.size) := (by omega); have am24 : ¬ (w.heap.size = w24.heap.size) := (by omega); have an24' : ¬ ((w24.heap.size + 1) = w.heap.size) := (by omega); have am24' : ¬ (w.heap.size = (w24.heap.size + 1)) := (by omega); obtain ⟨bx24, by24, bf24, bg24, bz24⟩ := H_b.out.below Q24; have bn24 : ¬ (w24.heap.size = (w.heap.size + 1)) := (by omega); have bm24 : ¬ ((w.heap.size + 1) = w24.heap.size) := (by omega); have bn24' : ¬ ((w24.heap.size + 1) = (w.heap.size + 1)) := (by omega); have bm24' : ¬ ((w.heap.size + 1) = (w24.heap.size + 1)) := (by omega); have Jc := J1; obtain ⟨jx241, jy241, jf241, jg241, jz241⟩ := Jc)
      | (go_at_call 13; (with_reducible refine (rfrom_v (hy.below Q23) (by omega)).mono ?_); rintro e w24 ⟨s24, A24, n24, c24, rfl, p24, k24, B24⟩; have Q24 := zup Q23 B24; have J0 : Nat := 0; have pp := (p23).below B24; obtain ⟨ax24, ay24, af24, ag24, az24⟩ := H_a.out.below Q24; have an24 : ¬ (w24.heap.size = w.heap.size) := (by omega); have am24 : ¬ (w.heap.size = w24.heap.size) := (by omega); have an24' : ¬ ((w24.heap.size + 1) = w.heap.size) := (by omega); have am24' : ¬ (w.heap.size = (w24.heap.size + 1)) := (by omega); obtain ⟨bx24, by24, bf24, bg24, bz24⟩ := H_b.out.below Q24; have bn24 : ¬ (w24.heap.size = (w.heap.size + 1)) := (by omega); have bm24 : ¬ ((w.heap.size + 1) = w24.heap.size) := (by omega); have bn24' : ¬ ((w24.heap.size + 1) = (w.heap.size + 1)) := (by omega); have bm24' : ¬ ((w.heap.size + 1) = (w24.heap.size + 1)) := (by omega))
      | fail)
    all_goals
      first
        | have P := Lib.hid (TwoV.pp (w0 := w22) (x := x) (y := y) (kx := 48) (ky := 48) J1 J2 g1 g2 n12 pp p24 Q24 (by omega) (by omega)); have P' := Lib.hid (TwoV.pp (w0 := w22) (x := x) (y := y) (kx := 48) (ky := 48) J2 J1 g2 g1 n21 pp p24 Q24 (by omega) (by omega))
        | have P := Lib.hid (TwoV.pa (w0 := w22) (x := x) (y := y) (kx := 48) (ky := 48) (T := 30) J1 g1 pp p24 Q24 (by omega) (by omega)); have P' := Lib.hid (TwoV.pa (w0 := w22) (x := y) (y := x) (kx := 48) (ky := 48) (T := 30) J1 g1 p24 pp Q24 (by omega) (by omega)).swap
        | have P := Lib.hid (TwoV.aa (w0 := w22) (x := x) (y := y) (kx := 48) (ky := 48) (T := 30) pp p24 Q24 (by omega) (by omega)); have P' := Lib.hid (TwoV.aa (w0 := w22) (x := y) (y := x) (kx := 48) (ky := 48) (T := 30) p24 pp Q24 (by omega) (by omega)).swap
      go_wp2_with fail
      go_meet
      first
        | exact P.out
        | exact P'.out
  case rest =>
    obtain ⟨g25, s25, A25, n25, c25, f25, t25, D25, m25, d25, rfl, rfl, hg25, hf25, hne25, I25, J25, p25, r25, k25, l25, B25⟩ := hcut
    obtain ⟨w25, hw25⟩ : ∃ x, x = wc := ⟨_, rfl⟩
    subst hw25
    have lt_a_x : w.heap.size < g25 := Nat.lt_of_lt_of_le H_a.out.2.2.2.2 hg25
    have lt_b_x : (w.heap.size + 1) < g25 := Nat.lt_of_lt_of_le H_b.out.2.2.2.2 hg25
    have lw_x : w.heap.size ≤ g25 := Nat.le_trans hW.size hg25
    have lt_a_y : w.heap.size < f25 := Nat.lt_of_lt_of_le H_a.out.2.2.2.2 hf25
    have lt_b_y : (w.heap.size + 1) < f25 := Nat.lt_of_lt_of_le H_b.out.2.2.2.2 hf25
    have lw_y : w.heap.size ≤ f25 := Nat.le_trans hW.size hf25
    replace H_a := Lib.hid (H_a.out.below B25)
    replace H_b := Lib.hid (H_b.out.below B25)
    replace hx := hx.below B25
    replace hy := hy.below B25
    replace hW := hW.trans (B25.mono hW.size)
    have H_x := Lib.hid I25
    have H_y := Lib.hid J25
    clear B25 I25 J25 hg25 hf25
    have px := p25
    have py := r25
    clear p25 r25
    have ht : t = t25 := by
      have h := SY.out
      rw [← py.2.out] at h
      rcases h with h | h
      · omega
      · exact h
    have hs : x.natAbs = 0 ∨ s25 = s := by
      have h := SX.out
      rw [← px.2.out] at h
      rcases h with h | h
      · exact .inl h
      · exact .inr h.symm
    have HC1 := Lib.hid (show sg (!(s25 == t25)) (x.natAbs / y.natAbs) = q1 by rw [← (dqv_b (s := s25) (t := t25) (u := s25) rfl).1, ← ht, dqv_sign hs hs]; exact HQ1.out)
    have HC2 := Lib.hid (show dqv s25 t25 t25 x.natAbs y.natAbs = q2 by rw [← ht, dqv_sign (u' := t) hs (.inr rfl)]; exact HQ2.out)
    have HC3 := Lib.hid (show dqv s25 t25 false x.natAbs y.natAbs = q3 by rw [← ht, dqv_sign (u' := false) hs (.inr rfl)]; exact HQ3.out)
    clear ht hs
    obtain ⟨a1, a2, a3, a4, a5⟩ := H_a.out
    obtain ⟨b1, b2, b3, b4, b5⟩ := H_b.out
    go_wp2_with fail
    clear a1 a2 a3 a4 a5 b1 b2 b3 b4 b5
    refine (zquo_v (q := q1) (r := x - q1 * y) hx hy (by omega) (by omega) h0 HQ1.out HR1.out).mono ?_
    rintro e w26 ⟨s26, A26, n26, c26, t26, D26, m26, d26, rfl, zq1, zr1, k26, l26, B26⟩
    replace H_a := Lib.hid (H_a.out.below B26)
    replace H_b := Lib.hid (H_b.out.below B26)
    replace H_x := Lib.hid (H_x.out.below B26)
    replace H_y := Lib.hid (H_y.out.below B26)
    replace hx := hx.below B26
    replace hy := hy.below B26
    replace px := px.below B26
    replace py := py.below B26
    replace hW := hW.trans (B26.mono hW.size)
    clear B26
    obtain ⟨w27, hw27, I27, J27, z27⟩ := opent2 w26 s26 t26 A26 D26 n26 c26 m26 d26 25 25
    have HW27 := Lib.hid hw27.symm
    have O_a := H_a
    have O_b := H_b
    have O_x := H_x
    have O_y := H_y
    replace H_a := Lib.hid (H_a.out.below z27)
    replace H_b := Lib.hid (H_b.out.below z27)
    replace H_x := Lib.hid (H_x.out.below z27)
    replace H_y := Lib.hid (H_y.out.below z27)
    replace hx := hx.below z27
    replace hy := hy.below z27
    replace px := px.below z27
    replace py := py.below z27
    replace zq1 := zq1.below z27
    replace zr1 := zr1.below z27
    replace hW := hW.trans (z27.mono hW.size)
    have H_qa := Lib.hid I27
    have H_ra := Lib.hid J27
    clear z27 hw27 I27 J27
    obtain ⟨a1, a2, a3, a4, a5⟩ := O_a.out
    obtain ⟨b1, b2, b3, b4, b5⟩ := O_b.out
    go_wp2_with fail
    rw [HW27.out]
    clear a1 a2 a3 a4 a5 b1 b2 b3 b4 b5 O_a O_b O_x O_y
    refine (zfloor_v (q := q2) (r := x - q2 * y) hx hy (by omega) (by omega) h0 HQ2.out HR2.out).mono ?_
    rintro e w28 ⟨s28, A28, n28, c28, t28, D28, m28, d28, rfl, zq2, zr2, k28, l28, B28⟩
    replace H_a := Lib.hid (H_a.out.below B28)
    replace H_b := Lib.hid (H_b.out.below B28)
    replace H_x := Lib.hid (H_x.out.below B28)
    replace H_y := Lib.hid (H_y.out.below B28)
    replace H_qa := Lib.hid (H_qa.out.below B28)
    replace H_ra := Lib.hid (H_ra.out.below B28)
    replace hx := hx.below B28
    replace hy := hy.below B28
    replace px := px.below B28
    replace py := py.below B28
    replace zq1 := zq1.below B28
    replace zr1 := zr1.below B28
    replace hW := hW.trans (B28.mono hW.size)
    clear B28
    obtain ⟨w29, hw29, I29, J29, z29⟩ := opent2 w28 s28 t28 A28 D28 n28 c28 m28 d28 25 25
    have HW29 := Lib.hid hw29.symm
    have O_a := H_a
    have O_b := H_b
    have O_x := H_x
    have O_y := H_y
    have O_qa := H_qa
    have O_ra := H_ra
    replace H_a := Lib.hid (H_a.out.below z29)
    replace H_b := Lib.hid (H_b.out.below z29)
    replace H_x := Lib.hid (H_x.out.below z29)
    replace H_y := Lib.hid (H_y.out.below z29)
    replace H_qa := Lib.hid (H_qa.out.below z29)
    replace H_ra := Lib.hid (H_ra.out.below z29)
    replace hx := hx.below z29
    replace hy := hy.below z29
    replace px := px.below z29
    replace py := py.below z29
    replace zq1 := zq1.below z29
    replace zr1 := zr1.below z29
    replace zq2 := zq2.below z29
    replace zr2 := zr2.below z29
    replace hW := hW.trans (z29.mono hW.size)
    have H_qb := Lib.hid I29
    have H_rb := Lib.hid J29
    clear z29 hw29 I29 J29
    obtain ⟨a1, a2, a3, a4, a5⟩ := O_a.out
    obtain ⟨b1, b2, b3, b4, b5⟩ := O_b.out
    go_wp2_with fail
    rw [HW29.out]
    clear a1 a2 a3 a4 a5 b1 b2 b3 b4 b5 O_a O_b O_x O_y O_qa O_ra
    refine (zeuclid_v (q := q3) (r := x - q3 * y) hx hy (by omega) (by omega) h0 HQ3.out HR3.out).mono ?_
    rintro e w30 ⟨s30, A30, n30, c30, t30, D30, m30, d30, rfl, zq3, zr3, k30, l30, B30⟩
    replace H_a := Lib.hid (H_a.out.below B30)
    replace H_b := Lib.hid (H_b.out.below B30)
    replace H_x := Lib.hid (H_x.out.below B30)
    replace H_y := Lib.hid (H_y.out.below B30)
    replace H_qa := Lib.hid (H_qa.out.below B30)
    replace H_ra := Lib.hid (H_ra.out.below B30)
    replace H_qb := Lib.hid (H_qb.out.below B30)
    replace H_rb := Lib.hid (H_rb.out.below B30)
    replace hx := hx.below B30
    replace hy := hy.below B30
    replace px := px.below B30
    replace py := py.below B30
    replace zq1 := zq1.below B30
    replace zr1 := zr1.below B30
    replace zq2 := zq2.below B30
    replace zr2 := zr2.below B30
    replace hW := hW.trans (B30.mono hW.size)
    clear B30
    obtain ⟨w31, hw31, I31, J31, z31⟩ := opent2 w30 s30 t30 A30 D30 n30 c30 m30 d30 25 25
    have HW31 := Lib.hid hw31.symm
    have O_a := H_a
    have O_b := H_b
    have O_x := H_x
    have O_y := H_y
    have O_qa := H_qa
    have O_ra := H_ra
    have O_qb := H_qb
    have O_rb := H_rb
    replace H_a := Lib.hid (H_a.out.below z31)
    replace H_b := Lib.hid (H_b.out.below z31)
    replace H_x := Lib.hid (H_x.out.below z31)
    replace H_y := Lib.hid (H_y.out.below z31)
    replace H_qa := Lib.hid (H_qa.out.below z31)
    replace H_ra := Lib.hid (H_ra.out.below z31)
    replace H_qb := Lib.hid (H_qb.out.below z31)
    replace H_rb := Lib.hid (H_rb.out.below z31)
    replace hx := hx.below z31
    replace hy := hy.below z31
    replace px := px.below z31
    replace py := py.below z31
    replace zq1 := zq1.below z31
    replace zr1 := zr1.below z31
    replace zq2 := zq2.below z31
    replace zr2 := zr2.below z31
    replace zq3 := zq3.below z31
    replace zr3 := zr3.below z31
    replace hW := hW.trans (z31.mono hW.size)
    have H_qc := Lib.hid I31
    have H_rc := Lib.hid J31
    clear z31 hw31 I31 J31
    obtain ⟨a1, a2, a3, a4, a5⟩ := O_a.out
    obtain ⟨b1, b2, b3, b4, b5⟩ := O_b.out
    go_wp2_with fail
    rw [HW31.out]
    clear a1 a2 a3 a4 a5 b1 b2 b3 b4 b5 O_a O_b O_x O_y O_qa O_ra O_qb O_rb
    refine (zexact_yes hx hy (by omega) (by omega) h0 HEXQ.out).mono ?_
    rintro e w32 ⟨s32, A32, n32, c32, rfl, ze, k32, B32⟩
    replace H_a := Lib.hid (H_a.out.below B32)
    replace H_b := Lib.hid (H_b.out.below B32)
    replace H_x := Lib.hid (H_x.out.below B32)
    replace H_y := Lib.hid (H_y.out.below B32)
    replace H_qa := Lib.hid (H_qa.out.below B32)
    replace H_ra := Lib.hid (H_ra.out.below B32)
    replace H_qb := Lib.hid (H_qb.out.below B32)
    replace H_rb := Lib.hid (H_rb.out.below B32)
    replace H_qc := Lib.hid (H_qc.out.below B32)
    replace H_rc := Lib.hid (H_rc.out.below B32)
    replace hx := hx.below B32
    replace hy := hy.below B32
    replace px := px.below B32
    replace py := py.below B32
    replace zq1 := zq1.below B32
    replace zr1 := zr1.below B32
    replace zq2 := zq2.below B32
    replace zr2 := zr2.below B32
    replace zq3 := zq3.below B32
    replace zr3 := zr3.below B32
    replace hW := hW.trans (B32.mono hW.size)
    clear B32
    clear hx hy
    clear H_a H_b
    have z33 := zba w32 (.cells #[.bool s32, .slice A32 n32 c32] 25)
    obtain ⟨w33, hw33⟩ : ∃ w', w' = w32.alloc (.cells #[.bool s32, .slice A32 n32 c32] 25) := ⟨_, rfl⟩
    have I33 : Ib w33 w32.heap.size s32 A32 n32 c32 := by rw [hw33]; exact Ib.new _ _ _ _ _ _
    rw [← hw33] at z33
    have HW33 := Lib.hid hw33.symm
    have O_x := H_x
    have O_y := H_y
    have O_qa := H_qa
    have O_ra := H_ra
    have O_qb := H_qb
    have O_rb := H_rb
    have O_qc := H_qc
    have O_rc := H_rc
    replace H_x := Lib.hid (H_x.out.below z33)
    replace H_y := Lib.hid (H_y.out.below z33)
    replace H_qa := Lib.hid (H_qa.out.below z33)
    replace H_ra := Lib.hid (H_ra.out.below z33)
    replace H_qb := Lib.hid (H_qb.out.below z33)
    replace H_rb := Lib.hid (H_rb.out.below z33)
    replace H_qc := Lib.hid (H_qc.out.below z33)
    replace H_rc := Lib.hid (H_rc.out.below z33)
    replace px := px.below z33
    replace py := py.below z33
    replace zq1 := zq1.below z33
    replace zr1 := zr1.below z33
    replace zq2 := zq2.below z33
    replace zr2 := zr2.below z33
    replace zq3 := zq3.below z33
    replace zr3 := zr3.below z33
    replace ze := ze.below z33
    replace hW := hW.trans (z33.mono hW.size)
    have H_ea := Lib.hid I33
    clear z33 hw33 I33
    have z34 := zba w33 (.cells #[.bool false, .slice none 0 0] 30)
    obtain ⟨w34, hw34⟩ : ∃ w', w' = w33.alloc (.cells #[.bool false, .slice none 0 0] 30) := ⟨_, rfl⟩
    have e34 : w33.heap.size = w32.heap.size + 1 := by rw [← HW33.out]; simp
    have I34 : Ib w34 (w32.heap.size + 1) false none 0 0 := by rw [← e34, hw34]; exact Ib.new _ _ _ _ _ _
    clear e34
    rw [← hw34] at z34
    have HW34 := Lib.hid hw34.symm
    replace H_x := Lib.hid (H_x.out.below z34)
    replace H_y := Lib.hid (H_y.out.below z34)
    replace H_qa := Lib.hid (H_qa.out.below z34)
    replace H_ra := Lib.hid (H_ra.out.below z34)
    replace H_qb := Lib.hid (H_qb.out.below z34)
    replace H_rb := Lib.hid (H_rb.out.below z34)
    replace H_qc := Lib.hid (H_qc.out.below z34)
    replace H_rc := Lib.hid (H_rc.out.below z34)
    replace H_ea := Lib.hid (H_ea.out.below z34)
    replace px := px.below z34
    replace py := py.below z34
    replace zq1 := zq1.below z34
    replace zr1 := zr1.below z34
    replace zq2 := zq2.below z34
    replace zr2 := zr2.below z34
    replace zq3 := zq3.below z34
    replace zr3 := zr3.below z34
    replace ze := ze.below z34
    replace hW := hW.trans (z34.mono hW.size)
    have H_za := Lib.hid I34
    clear z34 hw34 I34
    obtain ⟨y1, y2, y3, y4, y5⟩ := O_y.out
    go_wp2_with fail
    rw [HW33.out]
    rw [HW34.out]
    clear y1 y2 y3 y4 y5 O_x O_y O_qa O_ra O_qb O_rb O_qc O_rc
    refine (rsign_v py HSGY.out).mono ?_
    rintro e w35 ⟨rfl, B35⟩
    replace H_x := Lib.hid (H_x.out.below B35)
    replace H_y := Lib.hid (H_y.out.below B35)
    replace H_qa := Lib.hid (H_qa.out.below B35)
    replace H_ra := Lib.hid (H_ra.out.below B35)
    replace H_qb := Lib.hid (H_qb.out.below B35)
    replace H_rb := Lib.hid (H_rb.out.below B35)
    replace H_qc := Lib.hid (H_qc.out.below B35)
    replace H_rc := Lib.hid (H_rc.out.below B35)
    replace H_ea := Lib.hid (H_ea.out.below B35)
    replace H_za := Lib.hid (H_za.out.below B35)
    replace px := px.below B35
    replace py := py.below B35
    replace zq1 := zq1.below B35
    replace zr1 := zr1.below B35
    replace zq2 := zq2.below B35
    replace zr2 := zr2.below B35
    replace zq3 := zq3.below B35
    replace zr3 := zr3.below B35
    replace ze := ze.below B35
    replace hW := hW.trans (B35.mono hW.size)
    clear B35
    have hsy := HSY.out
    obtain ⟨x1, x2, x3, x4, x5⟩ := H_x.out
    obtain ⟨y1, y2, y3, y4, y5⟩ := H_y.out
    go_wp2_with fail
    clear x1 x2 x3 x4 x5 y1 y2 y3 y4 y5
    refine (rquo_v px py (by omega) (by omega) h0 HC1.out).mono ?_
    rintro e w36 ⟨s36, A36, n36, c36, t36, D36, m36, d36, rfl, rq1, rr1, k36, l36, B36⟩
    replace H_x := Lib.hid (H_x.out.below B36)
    replace H_y := Lib.hid (H_y.out.below B36)
    replace H_qa := Lib.hid (H_qa.out.below B36)
    replace H_ra := Lib.hid (H_ra.out.below B36)
    replace H_qb := Lib.hid (H_qb.out.below B36)
    replace H_rb := Lib.hid (H_rb.out.below B36)
    replace H_qc := Lib.hid (H_qc.out.below B36)
    replace H_rc := Lib.hid (H_rc.out.below B36)
    replace H_ea := Lib.hid (H_ea.out.below B36)
    replace H_za := Lib.hid (H_za.out.below B36)
    replace px := px.below B36
    replace py := py.below B36
    replace zq1 := zq1.below B36
    replace zr1 := zr1.below B36
    replace zq2 := zq2.below B36
    replace zr2 := zr2.below B36
    replace zq3 := zq3.below B36
    replace zr3 := zr3.below B36
    replace ze := ze.below B36
    replace hW := hW.trans (B36.mono hW.size)
    clear B36
    clear hsy
    obtain ⟨w37, hw37, I37, J37, z37⟩ := opent2 w36 s36 t36 A36 D36 n36 c36 m36 d36 30 30
    have HW37 := Lib.hid hw37.symm
    have O_x := H_x
    have O_y := H_y
    have O_qa := H_qa
    have O_ra := H_ra
    have O_qb := H_qb
    have O_rb := H_rb
    have O_qc := H_qc
    have O_rc := H_rc
    have O_ea := H_ea
    have O_za := H_za
    replace H_x := Lib.hid (H_x.out.below z37)
    replace H_y := Lib.hid (H_y.out.below z37)
    replace H_qa := Lib.hid (H_qa.out.below z37)
    replace H_ra := Lib.hid (H_ra.out.below z37)
    replace H_qb := Lib.hid (H_qb.out.below z37)
    replace H_rb := Lib.hid (H_rb.out.below z37)
    replace H_qc := Lib.hid (H_qc.out.below z37)
    replace H_rc := Lib.hid (H_rc.out.below z37)
    replace H_ea := Lib.hid (H_ea.out.below z37)
    replace H_za := Lib.hid (H_za.out.below z37)
    replace px := px.below z37
    replace py := py.below z37
    replace zq1 := zq1.below z37
    replace zr1 := zr1.below z37
    replace zq2 := zq2.below z37
    replace zr2 := zr2.below z37
    replace zq3 := zq3.below z37
    replace zr3 := zr3.below z37
    replace ze := ze.below z37
    replace rq1 := rq1.below z37
    replace rr1 := rr1.below z37
    replace hW := hW.trans (z37.mono hW.size)
    have H_ca := Lib.hid I37
    have H_da := Lib.hid J37
    clear z37 hw37 I37 J37
    obtain ⟨x1, x2, x3, x4, x5⟩ := O_x.out
    obtain ⟨y1, y2, y3, y4, y5⟩ := O_y.out
    go_wp2_with fail
    rw [HW37.out]
    clear x1 x2 x3 x4 x5 y1 y2 y3 y4 y5 O_x O_y O_qa O_ra O_qb O_rb O_qc O_rc O_ea O_za
    refine (rfloor_v px py (by omega) (by omega) h0 HC2.out).mono ?_
    rintro e w38 ⟨s38, A38, n38, c38, t38, D38, m38, d38, rfl, rq2, rr2, k38, l38, B38⟩
    replace H_x := Lib.hid (H_x.out.below B38)
    replace H_y := Lib.hid (H_y.out.below B38)
    replace H_qa := Lib.hid (H_qa.out.below B38)
    replace H_ra := Lib.hid (H_ra.out.below B38)
    replace H_qb := Lib.hid (H_qb.out.below B38)
    replace H_rb := Lib.hid (H_rb.out.below B38)
    replace H_qc := Lib.hid (H_qc.out.below B38)
    replace H_rc := Lib.hid (H_rc.out.below B38)
    replace H_ea := Lib.hid (H_ea.out.below B38)
    replace H_za := Lib.hid (H_za.out.below B38)
    replace H_ca := Lib.hid (H_ca.out.below B38)
    replace H_da := Lib.hid (H_da.out.below B38)
    replace px := px.below B38
    replace py := py.below B38
    replace zq1 := zq1.below B38
    replace zr1 := zr1.below B38
    replace zq2 := zq2.below B38
    replace zr2 := zr2.below B38
    replace zq3 := zq3.below B38
    replace zr3 := zr3.below B38
    replace ze := ze.below B38
    replace rq1 := rq1.below B38
    replace rr1 := rr1.below B38
    replace hW := hW.trans (B38.mono hW.size)
    clear B38
    obtain ⟨w39, hw39, I39, J39, z39⟩ := opent2 w38 s38 t38 A38 D38 n38 c38 m38 d38 30 30
    have HW39 := Lib.hid hw39.symm
    have O_x := H_x
    have O_y := H_y
    have O_qa := H_qa
    have O_ra := H_ra
    have O_qb := H_qb
    have O_rb := H_rb
    have O_qc := H_qc
    have O_rc := H_rc
    have O_ea := H_ea
    have O_za := H_za
    have O_ca := H_ca
    have O_da := H_da
    replace H_x := Lib.hid (H_x.out.below z39)
    replace H_y := Lib.hid (H_y.out.below z39)
    replace H_qa := Lib.hid (H_qa.out.below z39)
    replace H_ra := Lib.hid (H_ra.out.below z39)
    replace H_qb := Lib.hid (H_qb.out.below z39)
    replace H_rb := Lib.hid (H_rb.out.below z39)
    replace H_qc := Lib.hid (H_qc.out.below z39)
    replace H_rc := Lib.hid (H_rc.out.below z39)
    replace H_ea := Lib.hid (H_ea.out.below z39)
    replace H_za := Lib.hid (H_za.out.below z39)
    replace H_ca := Lib.hid (H_ca.out.below z39)
    replace H_da := Lib.hid (H_da.out.below z39)
    replace px := px.below z39
    replace py := py.below z39
    replace zq1 := zq1.below z39
    replace zr1 := zr1.below z39
    replace zq2 := zq2.below z39
    replace zr2 := zr2.below z39
    replace zq3 := zq3.below z39
    replace zr3 := zr3.below z39
    replace ze := ze.below z39
    replace rq1 := rq1.below z39
    replace rr1 := rr1.below z39
    replace rq2 := rq2.below z39
    replace rr2 := rr2.below z39
    replace hW := hW.trans (z39.mono hW.size)
    have H_cb := Lib.hid I39
    have H_db := Lib.hid J39
    clear z39 hw39 I39 J39
    obtain ⟨x1, x2, x3, x4, x5⟩ := O_x.out
    obtain ⟨y1, y2, y3, y4, y5⟩ := O_y.out
    go_wp2_with fail
    rw [HW39.out]
    clear x1 x2 x3 x4 x5 y1 y2 y3 y4 y5 O_x O_y O_qa O_ra O_qb O_rb O_qc O_rc O_ea O_za O_ca O_da
    refine (reuclid_v px py (by omega) (by omega) h0 HC3.out).mono ?_
    rintro e w40 ⟨s40, A40, n40, c40, t40, D40, m40, d40, rfl, rq3, rr3, k40, l40, B40⟩
    replace H_x := Lib.hid (H_x.out.below B40)
    replace H_y := Lib.hid (H_y.out.below B40)
    replace H_qa := Lib.hid (H_qa.out.below B40)
    replace H_ra := Lib.hid (H_ra.out.below B40)
    replace H_qb := Lib.hid (H_qb.out.below B40)
    replace H_rb := Lib.hid (H_rb.out.below B40)
    replace H_qc := Lib.hid (H_qc.out.below B40)
    replace H_rc := Lib.hid (H_rc.out.below B40)
    replace H_ea := Lib.hid (H_ea.out.below B40)
    replace H_za := Lib.hid (H_za.out.below B40)
    replace H_ca := Lib.hid (H_ca.out.below B40)
    replace H_da := Lib.hid (H_da.out.below B40)
    replace H_cb := Lib.hid (H_cb.out.below B40)
    replace H_db := Lib.hid (H_db.out.below B40)
    replace px := px.below B40
    replace py := py.below B40
    replace zq1 := zq1.below B40
    replace zr1 := zr1.below B40
    replace zq2 := zq2.below B40
    replace zr2 := zr2.below B40
    replace zq3 := zq3.below B40
    replace zr3 := zr3.below B40
    replace ze := ze.below B40
    replace rq1 := rq1.below B40
    replace rr1 := rr1.below B40
    replace rq2 := rq2.below B40
    replace rr2 := rr2.below B40
    replace hW := hW.trans (B40.mono hW.size)
    clear B40
    obtain ⟨w41, hw41, I41, J41, z41⟩ := opent2 w40 s40 t40 A40 D40 n40 c40 m40 d40 30 30
    have HW41 := Lib.hid hw41.symm
    have O_x := H_x
    have O_y := H_y
    have O_qa := H_qa
    have O_ra := H_ra
    have O_qb := H_qb
    have O_rb := H_rb
    have O_qc := H_qc
    have O_rc := H_rc
    have O_ea := H_ea
    have O_za := H_za
    have O_ca := H_ca
    have O_da := H_da
    have O_cb := H_cb
    have O_db := H_db
    replace H_x := Lib.hid (H_x.out.below z41)
    replace H_y := Lib.hid (H_y.out.below z41)
    replace H_qa := Lib.hid (H_qa.out.below z41)
    replace H_ra := Lib.hid (H_ra.out.below z41)
    replace H_qb := Lib.hid (H_qb.out.below z41)
    replace H_rb := Lib.hid (H_rb.out.below z41)
    replace H_qc := Lib.hid (H_qc.out.below z41)
    replace H_rc := Lib.hid (H_rc.out.below z41)
    replace H_ea := Lib.hid (H_ea.out.below z41)
    replace H_za := Lib.hid (H_za.out.below z41)
    replace H_ca := Lib.hid (H_ca.out.below z41)
    replace H_da := Lib.hid (H_da.out.below z41)
    replace H_cb := Lib.hid (H_cb.out.below z41)
    replace H_db := Lib.hid (H_db.out.below z41)
    replace px := px.below z41
    replace py := py.below z41
    replace zq1 := zq1.below z41
    replace zr1 := zr1.below z41
    replace zq2 := zq2.below z41
    replace zr2 := zr2.below z41
    replace zq3 := zq3.below z41
    replace zr3 := zr3.below z41
    replace ze := ze.below z41
    replace rq1 := rq1.below z41
    replace rr1 := rr1.below z41
    replace rq2 := rq2.below z41
    replace rr2 := rr2.below z41
    replace rq3 := rq3.below z41
    replace rr3 := rr3.below z41
    replace hW := hW.trans (z41.mono hW.size)
    have H_cc := Lib.hid I41
    have H_dc := Lib.hid J41
    clear z41 hw41 I41 J41
    clear px py
    obtain ⟨qa1, qa2, qa3, qa4, qa5⟩ := O_qa.out
    obtain ⟨ca1, ca2, ca3, ca4, ca5⟩ := O_ca.out
    go_wp2_with fail
    rw [HW41.out]
    clear qa1 qa2 qa3 qa4 qa5 ca1 ca2 ca3 ca4 ca5 O_x O_y O_qa O_ra O_qb O_rb O_qc O_rc O_ea O_za O_ca O_da O_cb O_db
    refine (ris_v zq1 rq1 (by omega) rfl).mono ?_
    rintro e w42 ⟨rfl, B42⟩
    replace H_x := Lib.hid (H_x.out.below B42)
    replace H_y := Lib.hid (H_y.out.below B42)
    replace H_qa := Lib.hid (H_qa.out.below B42)
    replace H_ra := Lib.hid (H_ra.out.below B42)
    replace H_qb := Lib.hid (H_qb.out.below B42)
    replace H_rb := Lib.hid (H_rb.out.below B42)
    replace H_qc := Lib.hid (H_qc.out.below B42)
    replace H_rc := Lib.hid (H_rc.out.below B42)
    replace H_ea := Lib.hid (H_ea.out.below B42)
    replace H_za := Lib.hid (H_za.out.below B42)
    replace H_ca := Lib.hid (H_ca.out.below B42)
    replace H_da := Lib.hid (H_da.out.below B42)
    replace H_cb := Lib.hid (H_cb.out.below B42)
    replace H_db := Lib.hid (H_db.out.below B42)
    replace H_cc := Lib.hid (H_cc.out.below B42)
    replace H_dc := Lib.hid (H_dc.out.below B42)
    replace zq1 := zq1.below B42
    replace zr1 := zr1.below B42
    replace zq2 := zq2.below B42
    replace zr2 := zr2.below B42
    replace zq3 := zq3.below B42
    replace zr3 := zr3.below B42
    replace ze := ze.below B42
    replace rq1 := rq1.below B42
    replace rr1 := rr1.below B42
    replace rq2 := rq2.below B42
    replace rr2 := rr2.below B42
    replace rq3 := rq3.below B42
    replace rr3 := rr3.below B42
    replace hW := hW.trans (B42.mono hW.size)
    clear B42
    obtain ⟨ra1, ra2, ra3, ra4, ra5⟩ := H_ra.out
    obtain ⟨da1, da2, da3, da4, da5⟩ := H_da.out
    go_wp2_with fail
    clear ra1 ra2 ra3 ra4 ra5 da1 da2 da3 da4 da5
    refine (ris_v zr1 rr1 (by omega) rfl).mono ?_
    rintro e w43 ⟨rfl, B43⟩
    replace H_x := Lib.hid (H_x.out.below B43)
    replace H_y := Lib.hid (H_y.out.below B43)
    replace H_qa := Lib.hid (H_qa.out.below B43)
    replace H_ra := Lib.hid (H_ra.out.below B43)
    replace H_qb := Lib.hid (H_qb.out.below B43)
    replace H_rb := Lib.hid (H_rb.out.below B43)
    replace H_qc := Lib.hid (H_qc.out.below B43)
    replace H_rc := Lib.hid (H_rc.out.below B43)
    replace H_ea := Lib.hid (H_ea.out.below B43)
    replace H_za := Lib.hid (H_za.out.below B43)
    replace H_ca := Lib.hid (H_ca.out.below B43)
    replace H_da := Lib.hid (H_da.out.below B43)
    replace H_cb := Lib.hid (H_cb.out.below B43)
    replace H_db := Lib.hid (H_db.out.below B43)
    replace H_cc := Lib.hid (H_cc.out.below B43)
    replace H_dc := Lib.hid (H_dc.out.below B43)
    replace zq1 := zq1.below B43
    replace zr1 := zr1.below B43
    replace zq2 := zq2.below B43
    replace zr2 := zr2.below B43
    replace zq3 := zq3.below B43
    replace zr3 := zr3.below B43
    replace ze := ze.below B43
    replace rq1 := rq1.below B43
    replace rr1 := rr1.below B43
    replace rq2 := rq2.below B43
    replace rr2 := rr2.below B43
    replace rq3 := rq3.below B43
    replace rr3 := rr3.below B43
    replace hW := hW.trans (B43.mono hW.size)
    clear B43
    obtain ⟨qb1, qb2, qb3, qb4, qb5⟩ := H_qb.out
    obtain ⟨cb1, cb2, cb3, cb4, cb5⟩ := H_cb.out
    go_wp2_with fail
    clear qb1 qb2 qb3 qb4 qb5 cb1 cb2 cb3 cb4 cb5
    refine (ris_v zq2 rq2 (by omega) rfl).mono ?_
    rintro e w44 ⟨rfl, B44⟩
    replace H_x := Lib.hid (H_x.out.below B44)
    replace H_y := Lib.hid (H_y.out.below B44)
    replace H_qa := Lib.hid (H_qa.out.below B44)
    replace H_ra := Lib.hid (H_ra.out.below B44)
    replace H_qb := Lib.hid (H_qb.out.below B44)
    replace H_rb := Lib.hid (H_rb.out.below B44)
    replace H_qc := Lib.hid (H_qc.out.below B44)
    replace H_rc := Lib.hid (H_rc.out.below B44)
    replace H_ea := Lib.hid (H_ea.out.below B44)
    replace H_za := Lib.hid (H_za.out.below B44)
    replace H_ca := Lib.hid (H_ca.out.below B44)
    replace H_da := Lib.hid (H_da.out.below B44)
    replace H_cb := Lib.hid (H_cb.out.below B44)
    replace H_db := Lib.hid (H_db.out.below B44)
    replace H_cc := Lib.hid (H_cc.out.below B44)
    replace H_dc := Lib.hid (H_dc.out.below B44)
    replace zq1 := zq1.below B44
    replace zr1 := zr1.below B44
    replace zq2 := zq2.below B44
    replace zr2 := zr2.below B44
    replace zq3 := zq3.below B44
    replace zr3 := zr3.below B44
    replace ze := ze.below B44
    replace rq1 := rq1.below B44
    replace rr1 := rr1.below B44
    replace rq2 := rq2.below B44
    replace rr2 := rr2.below B44
    replace rq3 := rq3.below B44
    replace rr3 := rr3.below B44
    replace hW := hW.trans (B44.mono hW.size)
    clear B44
    obtain ⟨rb1, rb2, rb3, rb4, rb5⟩ := H_rb.out
    obtain ⟨db1, db2, db3, db4, db5⟩ := H_db.out
    go_wp2_with fail
    clear rb1 rb2 rb3 rb4 rb5 db1 db2 db3 db4 db5
    refine (ris_v zr2 rr2 (by omega) rfl).mono ?_
    rintro e w45 ⟨rfl, B45⟩
    replace H_x := Lib.hid (H_x.out.below B45)
    replace H_y := Lib.hid (H_y.out.below B45)
    replace H_qa := Lib.hid (H_qa.out.below B45)
    replace H_ra := Lib.hid (H_ra.out.below B45)
    replace H_qb := Lib.hid (H_qb.out.below B45)
    replace H_rb := Lib.hid (H_rb.out.below B45)
    replace H_qc := Lib.hid (H_qc.out.below B45)
    replace H_rc := Lib.hid (H_rc.out.below B45)
    replace H_ea := Lib.hid (H_ea.out.below B45)
    replace H_za := Lib.hid (H_za.out.below B45)
    replace H_ca := Lib.hid (H_ca.out.below B45)
    replace H_da := Lib.hid (H_da.out.below B45)
    replace H_cb := Lib.hid (H_cb.out.below B45)
    replace H_db := Lib.hid (H_db.out.below B45)
    replace H_cc := Lib.hid (H_cc.out.below B45)
    replace H_dc := Lib.hid (H_dc.out.below B45)
    replace zq1 := zq1.below B45
    replace zr1 := zr1.below B45
    replace zq2 := zq2.below B45
    replace zr2 := zr2.below B45
    replace zq3 := zq3.below B45
    replace zr3 := zr3.below B45
    replace ze := ze.below B45
    replace rq1 := rq1.below B45
    replace rr1 := rr1.below B45
    replace rq2 := rq2.below B45
    replace rr2 := rr2.below B45
    replace rq3 := rq3.below B45
    replace rr3 := rr3.below B45
    replace hW := hW.trans (B45.mono hW.size)
    clear B45
    obtain ⟨qc1, qc2, qc3, qc4, qc5⟩ := H_qc.out
    obtain ⟨cc1, cc2, cc3, cc4, cc5⟩ := H_cc.out
    go_wp2_with fail
    clear qc1 qc2 qc3 qc4 qc5 cc1 cc2 cc3 cc4 cc5
    refine (ris_v zq3 rq3 (by omega) rfl).mono ?_
    rintro e w46 ⟨rfl, B46⟩
    replace H_x := Lib.hid (H_x.out.below B46)
    replace H_y := Lib.hid (H_y.out.below B46)
    replace H_qa := Lib.hid (H_qa.out.below B46)
    replace H_ra := Lib.hid (H_ra.out.below B46)
    replace H_qb := Lib.hid (H_qb.out.below B46)
    replace H_rb := Lib.hid (H_rb.out.below B46)
    replace H_qc := Lib.hid (H_qc.out.below B46)
    replace H_rc := Lib.hid (H_rc.out.below B46)
    replace H_ea := Lib.hid (H_ea.out.below B46)
    replace H_za := Lib.hid (H_za.out.below B46)
    replace H_ca := Lib.hid (H_ca.out.below B46)
    replace H_da := Lib.hid (H_da.out.below B46)
    replace H_cb := Lib.hid (H_cb.out.below B46)
    replace H_db := Lib.hid (H_db.out.below B46)
    replace H_cc := Lib.hid (H_cc.out.below B46)
    replace H_dc := Lib.hid (H_dc.out.below B46)
    replace zq1 := zq1.below B46
    replace zr1 := zr1.below B46
    replace zq2 := zq2.below B46
    replace zr2 := zr2.below B46
    replace zq3 := zq3.below B46
    replace zr3 := zr3.below B46
    replace ze := ze.below B46
    replace rq1 := rq1.below B46
    replace rr1 := rr1.below B46
    replace rq2 := rq2.below B46
    replace rr2 := rr2.below B46
    replace rq3 := rq3.below B46
    replace rr3 := rr3.below B46
    replace hW := hW.trans (B46.mono hW.size)
    clear B46
    obtain ⟨rc1, rc2, rc3, rc4, rc5⟩ := H_rc.out
    obtain ⟨dc1, dc2, dc3, dc4, dc5⟩ := H_dc.out
    go_wp2_with fail
    clear rc1 rc2 rc3 rc4 rc5 dc1 dc2 dc3 dc4 dc5
    refine (ris_v zr3 rr3 (by omega) rfl).mono ?_
    rintro e w47 ⟨rfl, B47⟩
    replace H_x := Lib.hid (H_x.out.below B47)
    replace H_y := Lib.hid (H_y.out.below B47)
    replace H_qa := Lib.hid (H_qa.out.below B47)
    replace H_ra := Lib.hid (H_ra.out.below B47)
    replace H_qb := Lib.hid (H_qb.out.below B47)
    replace H_rb := Lib.hid (H_rb.out.below B47)
    replace H_qc := Lib.hid (H_qc.out.below B47)
    replace H_rc := Lib.hid (H_rc.out.below B47)
    replace H_ea := Lib.hid (H_ea.out.below B47)
    replace H_za := Lib.hid (H_za.out.below B47)
    replace H_ca := Lib.hid (H_ca.out.below B47)
    replace H_da := Lib.hid (H_da.out.below B47)
    replace H_cb := Lib.hid (H_cb.out.below B47)
    replace H_db := Lib.hid (H_db.out.below B47)
    replace H_cc := Lib.hid (H_cc.out.below B47)
    replace H_dc := Lib.hid (H_dc.out.below B47)
    replace zq1 := zq1.below B47
    replace zr1 := zr1.below B47
    replace zq2 := zq2.below B47
    replace zr2 := zr2.below B47
    replace zq3 := zq3.below B47
    replace zr3 := zr3.below B47
    replace ze := ze.below B47
    replace rq1 := rq1.below B47
    replace rr1 := rr1.below B47
    replace rq2 := rq2.below B47
    replace rr2 := rr2.below B47
    replace rq3 := rq3.below B47
    replace rr3 := rr3.below B47
    replace hW := hW.trans (B47.mono hW.size)
    clear B47
    obtain ⟨da1, da2, da3, da4, da5⟩ := H_da.out
    go_wp2_with fail
    clear da1 da2 da3 da4 da5
    refine (rsign_v rr1 HRR.out).mono ?_
    rintro e w48 ⟨rfl, B48⟩
    replace H_x := Lib.hid (H_x.out.below B48)
    replace H_y := Lib.hid (H_y.out.below B48)
    replace H_qa := Lib.hid (H_qa.out.below B48)
    replace H_ra := Lib.hid (H_ra.out.below B48)
    replace H_qb := Lib.hid (H_qb.out.below B48)
    replace H_rb := Lib.hid (H_rb.out.below B48)
    replace H_qc := Lib.hid (H_qc.out.below B48)
    replace H_rc := Lib.hid (H_rc.out.below B48)
    replace H_ea := Lib.hid (H_ea.out.below B48)
    replace H_za := Lib.hid (H_za.out.below B48)
    replace H_ca := Lib.hid (H_ca.out.below B48)
    replace H_da := Lib.hid (H_da.out.below B48)
    replace H_cb := Lib.hid (H_cb.out.below B48)
    replace H_db := Lib.hid (H_db.out.below B48)
    replace H_cc := Lib.hid (H_cc.out.below B48)
    replace H_dc := Lib.hid (H_dc.out.below B48)
    replace zq1 := zq1.below B48
    replace zr1 := zr1.below B48
    replace zq2 := zq2.below B48
    replace zr2 := zr2.below B48
    replace zq3 := zq3.below B48
    replace zr3 := zr3.below B48
    replace ze := ze.below B48
    replace rq1 := rq1.below B48
    replace rr1 := rr1.below B48
    replace rq2 := rq2.below B48
    replace rr2 := rr2.below B48
    replace rq3 := rq3.below B48
    replace rr3 := rr3.below B48
    replace hW := hW.trans (B48.mono hW.size)
    clear B48
    obtain rfl := HRN.out
    obtain ⟨ea1, ea2, ea3, ea4, ea5⟩ := H_ea.out
    obtain ⟨ca1, ca2, ca3, ca4, ca5⟩ := H_ca.out
    go_wp2_with fail
    clear ea1 ea2 ea3 ea4 ea5 ca1 ca2 ca3 ca4 ca5
    refine (ris_v ze rq1 (by omega) rfl).mono ?_
    rintro e w49 ⟨rfl, B49⟩
    replace H_x := Lib.hid (H_x.out.below B49)
    replace H_y := Lib.hid (H_y.out.below B49)
    replace H_qa := Lib.hid (H_qa.out.below B49)
    replace H_ra := Lib.hid (H_ra.out.below B49)
    replace H_qb := Lib.hid (H_qb.out.below B49)
    replace H_rb := Lib.hid (H_rb.out.below B49)
    replace H_qc := Lib.hid (H_qc.out.below B49)
    replace H_rc := Lib.hid (H_rc.out.below B49)
    replace H_ea := Lib.hid (H_ea.out.below B49)
    replace H_za := Lib.hid (H_za.out.below B49)
    replace H_ca := Lib.hid (H_ca.out.below B49)
    replace H_da := Lib.hid (H_da.out.below B49)
    replace H_cb := Lib.hid (H_cb.out.below B49)
    replace H_db := Lib.hid (H_db.out.below B49)
    replace H_cc := Lib.hid (H_cc.out.below B49)
    replace H_dc := Lib.hid (H_dc.out.below B49)
    replace zq1 := zq1.below B49
    replace zr1 := zr1.below B49
    replace zq2 := zq2.below B49
    replace zr2 := zr2.below B49
    replace zq3 := zq3.below B49
    replace zr3 := zr3.below B49
    replace ze := ze.below B49
    replace rq1 := rq1.below B49
    replace rr1 := rr1.below B49
    replace rq2 := rq2.below B49
    replace rr2 := rr2.below B49
    replace rq3 := rq3.below B49
    replace rr3 := rr3.below B49
    replace hW := hW.trans (B49.mono hW.size)
    clear B49
    go_wp2_with fail
    go_ret
    exact ⟨rfl, hW⟩

set_option maxRecDepth 100000 in
set_option maxHeartbeats 400000 in
theorem idivides_calls (A B : Option Addr) (n m c d : Nat) (s t : Bool) (x y : Int) (w : World) (hx : Zv w s A n c x) (hy : Zv w t B m d y) (hn : n ≤ 9223372036854775807) (hm : m ≤ 9223372036854775807) :
    Calls Try.prog 4 #[.agg #[.bool s, .slice A n c], .agg #[.bool t, .slice B m d]] w (TruePost w) := by
  by_cases h : n ≤ 10 ∧ m ≤ 10
  · obtain ⟨h1, h2⟩ := h
    by_cases h0 : y = 0
    · exact idiv_zero hx hy h1 h2 h0
    · by_cases hmod : x.natAbs % y.natAbs = 0
      · exact idiv_exact hx hy h1 h2 h0 hmod
      · exact idiv_rest hx hy h1 h2 h0 hmod
  · obtain ⟨w3, hw3, IA, IB, z0⟩ := open2 w s t A B n c m d
    have HW := Lib.hid hw3.symm
    have hW := z0
    have H_a := Lib.hid IA
    have H_b := Lib.hid IB
    clear hw3 IA IB z0 hx hy
    go_enter Try.func4, Try.ntmps4
    obtain ⟨a1, a2, a3, a4, a5⟩ := H_a.out
    obtain ⟨b1, b2, b3, b4, b5⟩ := H_b.out
    go_wp2_with fail
    rw [HW.out]
    clear a1 a2 a3 a4 a5 b1 b2 b3 b4 b5
    refine (zawake_calls _).mono ?_
    rintro e w21 ⟨rfl, B21⟩
    replace H_a := Lib.hid (H_a.out.below B21)
    replace H_b := Lib.hid (H_b.out.below B21)
    replace hW := hW.trans (B21.mono hW.size)
    clear B21
    obtain ⟨a1, a2, a3, a4, a5⟩ := H_a.out
    obtain ⟨b1, b2, b3, b4, b5⟩ := H_b.out
    go_wp2_with fail
    clear a1 a2 a3 a4 a5 b1 b2 b3 b4 b5
    refine (zfew_v (k := 10) (b := false) hn hm hn (by omega) (by rw [decide_eq_false_iff_not]; omega)).mono ?_
    rintro e w22 ⟨rfl, B22⟩
    replace H_a := Lib.hid (H_a.out.below B22)
    replace H_b := Lib.hid (H_b.out.below B22)
    replace hW := hW.trans (B22.mono hW.size)
    clear B22
    obtain ⟨a1, a2, a3, a4, a5⟩ := H_a.out
    obtain ⟨b1, b2, b3, b4, b5⟩ := H_b.out
    go_wp2_with fail
    clear a1 a2 a3 a4 a5 b1 b2 b3 b4 b5
    refine (zawake_calls _).mono ?_
    rintro e w23 ⟨rfl, B23⟩
    replace H_a := Lib.hid (H_a.out.below B23)
    replace H_b := Lib.hid (H_b.out.below B23)
    replace hW := hW.trans (B23.mono hW.size)
    clear B23
    go_wp2_with fail
    go_ret
    exact ⟨rfl, hW⟩
end Go.Proofs.Ytnkmoeihlfdjbaa
