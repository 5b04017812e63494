/-
  The walk of IntAdds.
-/
import Derived.Test.YtnkmoeihlfdjbaaZintD
import Derived.Test.YtnkmoeihlfdjbaaRefZ
/-! The walk of IntAdds. -/
namespace Go.Proofs.Ytnkmoeihlfdjbaa
open Go.RowKit
set_option linter.unusedVariables false
set_option linter.unusedSimpArgs false

/-- The two variables that hold the reference's numbers. -/
def TwoCut (w0 : World) (x y : Int) (kx ky : Nat) (v1 v2 : Value) (wx : World) : Prop :=
  ∃ g s A n c h t B m d, v1 = .pointer (some ⟨g, 0, none⟩) ∧ v2 = .pointer (some ⟨h, 0, none⟩) ∧ w0.heap.size ≤ g ∧ w0.heap.size ≤ h ∧ g ≠ h ∧ Ib wx g s A n c ∧ Ib wx h t B m d ∧ Rz wx s A n c x ∧ Rz wx t B m d y ∧ n ≤ kx ∧ m ≤ ky ∧ Below w0.heap.size w0 wx
theorem TwoCut.aa {w0 w : World} {x y : Int} {kx ky n c m d : Nat} {s t : Bool} {A B : Option Addr} {T : TypeId} (p : Rz w s A n c x) (p' : Rz w t B m d y) (q : Below w0.heap.size w0 w) (k : n ≤ kx) (k' : m ≤ ky) :
    TwoCut w0 x y kx ky (.pointer (some ⟨w.heap.size, 0, none⟩)) (.pointer (some ⟨w.heap.size + 1, 0, none⟩)) ((w.alloc (.cells #[.bool s, .slice A n c] T)).alloc (.cells #[.bool t, .slice B m d] T)) := by
  obtain ⟨w', hw, I1, I2, z⟩ := opent2 w s t A B n c m d T T
  rw [← hw]
  exact ⟨_, s, A, n, c, _, t, B, m, d, rfl, rfl, q.size, Nat.le_succ_of_le q.size, by omega, I1, I2, p.below z, p'.below z, k, k', zup q z⟩
theorem TwoCut.swap {w0 w : World} {x y : Int} {kx ky : Nat} {v1 v2 : Value} (h : TwoCut w0 y x ky kx v2 v1 w) : TwoCut w0 x y kx ky v1 v2 w := by
  obtain ⟨g, s, A, n, c, g', t, B, m, d, h1, h2, h3, h4, h5, h6, h7, h8, h9, h10, h11, h12⟩ := h
  exact ⟨g', t, B, m, d, g, s, A, n, c, h2, h1, h4, h3, Ne.symm h5, h7, h6, h9, h8, h11, h10, h12⟩
theorem size_zput (w : World) (g : Nat) (s : Bool) (A : Option Addr) (n c : Nat) : (zput w g s A n c).heap.size = w.heap.size := by simp [zput]
theorem TwoCut.pa {w0 w : World} {x y : Int} {kx ky n c m d g l e : Nat} {s t u : Bool} {A B C : Option Addr} {T : TypeId} (j : Ib w g u C l e) (hg : w0.heap.size ≤ g) (p : Rz w s A n c x) (p' : Rz w t B m d y) (q : Below w0.heap.size w0 w) (k : n ≤ kx) (k' : m ≤ ky) :
    TwoCut w0 x y kx ky (.pointer (some ⟨g, 0, none⟩)) (.pointer (some ⟨w.heap.size, 0, none⟩)) (((w.setCell ⟨g, 0, none⟩ (.bool s)).setCell ⟨g, 1, none⟩ (.slice A n c)).alloc (.cells #[.bool t, .slice B m d] T)) := by
  have e := size_zput w g s A n c
  have I := Ib.new (zput w g s A n c) t B m d T
  have z := zba (zput w g s A n c) (.cells #[.bool t, .slice B m d] T)
  have q1 := below_put (A := A) (n := n) (c := c) (s := s) q hg
  have hl := j.2.2.2.2
  refine ⟨g, s, A, n, c, w.heap.size, t, B, m, d, rfl, rfl, hg, q.size, by omega, j.own.below z, ?_, (p.put j).below z, (p'.put j).below z, k, k', zup q1 z⟩
  rw [e] at I
  exact I
theorem TwoCut.pp {w0 w : World} {x y : Int} {kx ky n c m d g l e g' l' e' : Nat} {s t u u' : Bool} {A B C C' : Option Addr} (j : Ib w g u C l e) (j' : Ib w g' u' C' l' e') (hg : w0.heap.size ≤ g) (hg' : w0.heap.size ≤ g') (hne : ¬ (g = g')) (p : Rz w s A n c x) (p' : Rz w t B m d y) (q : Below w0.heap.size w0 w) (k : n ≤ kx) (k' : m ≤ ky) :
    TwoCut w0 x y kx ky (.pointer (some ⟨g, 0, none⟩)) (.pointer (some ⟨g', 0, none⟩)) ((((w.setCell ⟨g, 0, none⟩ (.bool s)).setCell ⟨g, 1, none⟩ (.slice A n c)).setCell ⟨g', 0, none⟩ (.bool t)).setCell ⟨g', 1, none⟩ (.slice B m d)) := by
  have j2 : Ib (zput w g s A n c) g' u' C' l' e' := j'.put (l := 0) (e := 0) (u := true) (C := none) (Ne.symm hne)
  exact ⟨g, s, A, n, c, g', t, B, m, d, rfl, rfl, hg, hg', hne, j.own.put (l := 0) (e := 0) (u := true) (C := none) hne, j2.own, (p.put j).put j2, (p'.put j).put j2, k, k', below_put (below_put q hg) hg'⟩
theorem ib1 (w : World) (t : TypeId) : Ib ((w.alloc (.cells #[.bool false, .slice none 0 0] t)).alloc (.cells #[.bool false, .slice none 0 0] t)) w.heap.size false none 0 0 := (Ib.new w false none 0 0 t).below (zba _ _)
theorem ib2 (w : World) (t : TypeId) : Ib ((w.alloc (.cells #[.bool false, .slice none 0 0] t)).alloc (.cells #[.bool false, .slice none 0 0] t)) (w.heap.size + 1) false none 0 0 := by
  have := Ib.new (w.alloc (.cells #[.bool false, .slice none 0 0] t)) false none 0 0 t
  simpa using this
theorem ibd1 (w : World) (t : TypeId) : Ib ((w.alloc (.cells #[.bool false, .slice none 0 0] t)).alloc (.cells #[.bool false, .slice none 0 0] t)).drew w.heap.size false none 0 0 := (ib1 w t).below (below_drew _)
theorem ibd2 (w : World) (t : TypeId) : Ib ((w.alloc (.cells #[.bool false, .slice none 0 0] t)).alloc (.cells #[.bool false, .slice none 0 0] t)).drew (w.heap.size + 1) false none 0 0 := (ib2 w t).below (below_drew _)
set_option maxRecDepth 100000 in
set_option maxHeartbeats 2000000 in
theorem iadds_calls (A B : Option Addr) (n m c d : Nat) (s t : Bool) (x y : Int) (w : World) (hx : Zv w s A n c x) (hy : Zv w t B m d y) (hn : n ≤ 9223372036854775807) (hm : m ≤ 9223372036854775807) :
    Calls Try.prog 3 #[.agg #[.bool s, .slice A n c], .agg #[.bool t, .slice B m d]] w (TruePost w) := by
  obtain ⟨w3, hw3, IA, IB, z0⟩ := open2 w s t A B n c m d
  have HW := Lib.hid hw3.symm
  replace hx := hx.below z0
  replace hy := hy.below z0
  have hW := z0
  have H_a := Lib.hid IA
  have H_b := Lib.hid IB
  clear hw3 IA IB z0
  by_cases h : n ≤ 12 ∧ m ≤ 12
  · obtain ⟨h1, h2⟩ := h
    go_enter Try.func3, Try.ntmps3
    obtain ⟨a1, a2, a3, a4, a5⟩ := H_a.out
    obtain ⟨b1, b2, b3, b4, b5⟩ := H_b.out
    go_wp2_with fail
    rw [HW.out]
    clear a1 a2 a3 a4 a5 b1 b2 b3 b4 b5
    refine (zawake_calls _).mono ?_
    rintro e w21 ⟨rfl, B21⟩
    replace H_a := Lib.hid (H_a.out.below B21)
    replace H_b := Lib.hid (H_b.out.below B21)
    replace hx := hx.below B21
    replace hy := hy.below B21
    replace hW := hW.trans (B21.mono hW.size)
    clear B21
    obtain ⟨a1, a2, a3, a4, a5⟩ := H_a.out
    obtain ⟨b1, b2, b3, b4, b5⟩ := H_b.out
    go_wp2_with fail
    clear a1 a2 a3 a4 a5 b1 b2 b3 b4 b5
    refine (zfew_v (k := 12) (b := true) hn hm hn (by omega) (by rw [decide_eq_true_iff]; omega)).mono ?_
    rintro e w22 ⟨rfl, B22⟩
    replace H_a := Lib.hid (H_a.out.below B22)
    replace H_b := Lib.hid (H_b.out.below B22)
    replace hx := hx.below B22
    replace hy := hy.below B22
    replace hW := hW.trans (B22.mono hW.size)
    clear B22
    obtain ⟨a1, a2, a3, a4, a5⟩ := H_a.out
    obtain ⟨b1, b2, b3, b4, b5⟩ := H_b.out
    go_wp2_with fail
    clear a1 a2 a3 a4 a5 b1 b2 b3 b4 b5
    go_upto_region 3 with fail
    go_cut [5, 6] (TwoCut w22 x y 48 48)
    case first =>
      obtain ⟨a1, a2, a3, a4, a5⟩ := H_a.out
      obtain ⟨b1, b2, b3, b4, b5⟩ := H_b.out
      have an : ¬ (w22.heap.size = w.heap.size) := by omega
      have am : ¬ (w.heap.size = w22.heap.size) := by omega
      have an' : ¬ ((w22.heap.size + 1) = w.heap.size) := by omega
      have am' : ¬ (w.heap.size = (w22.heap.size + 1)) := by omega
      have bn : ¬ (w22.heap.size = (w.heap.size + 1)) := by omega
      have bm : ¬ ((w.heap.size + 1) = w22.heap.size) := by omega
      have bn' : ¬ ((w22.heap.size + 1) = (w.heap.size + 1)) := by omega
      have bm' : ¬ ((w.heap.size + 1) = (w22.heap.size + 1)) := by omega
      go_region_held3 (fun w' => w'.cell? ⟨w.heap.size, 0, none⟩ = some (.bool s) ∧ w'.cell? ⟨w.heap.size, 1, none⟩ = some (.slice A n c) ∧ w'.cell? ⟨(w.heap.size + 1), 0, none⟩ = some (.bool t) ∧ w'.cell? ⟨(w.heap.size + 1), 1, none⟩ = some (.slice B m d)) (go_keep) (first
        | (go_at_call 13; (with_reducible refine (rfrom_v (hx.below (below_drew _)) (by omega)).mono ?_); rintro e w23 ⟨s23, A23, n23, c23, rfl, p23, k23, B23⟩; have Q23 := zup (below_drew _) B23; obtain ⟨ax23, ay23, af23, ag23, az23⟩ := H_a.out.below Q23; have an23 : ¬ (w23.heap.size = w.heap.size) := (by omega); have am23 : ¬ (w.heap.size = w23.heap.size) := (by omega); have an23' : ¬ ((w23.heap.size + 1) = w.heap.size) := (by omega); have am23' : ¬ (w.heap.size = (w23.heap.size + 1)) := (by omega); obtain ⟨bx23, by23, bf23, bg23, bz23⟩ := H_b.out.below Q23; have bn23 : ¬ (w23.heap.size = (w.heap.size + 1)) := (by omega); have bm23 : ¬ ((w.heap.size + 1) = w23.heap.size) := (by omega); have bn23' : ¬ ((w23.heap.size + 1) = (w.heap.size + 1)) := (by omega); have bm23' : ¬ ((w.heap.size + 1) = (w23.heap.size + 1)) := (by omega))
        | (go_at_call 13; (with_reducible refine (rfrom_v (hx.below (zbd _ _)) (by omega)).mono ?_); rintro e w23 ⟨s23, A23, n23, c23, rfl, p23, k23, B23⟩; have Q23 := zup (zbd _ _) B23; obtain ⟨ax23, ay23, af23, ag23, az23⟩ := H_a.out.below Q23; have an23 : ¬ (w23.heap.size = w.heap.size) := (by omega); have am23 : ¬ (w.heap.size = w23.heap.size) := (by omega); have an23' : ¬ ((w23.heap.size + 1) = w.heap.size) := (by omega); have am23' : ¬ (w.heap.size = (w23.heap.size + 1)) := (by omega); obtain ⟨bx23, by23, bf23, bg23, bz23⟩ := H_b.out.below Q23; have bn23 : ¬ (w23.heap.size = (w.heap.size + 1)) := (by omega); have bm23 : ¬ ((w.heap.size + 1) = w23.heap.size) := (by omega); have bn23' : ¬ ((w23.heap.size + 1) = (w.heap.size + 1)) := (by omega); have bm23' : ¬ ((w.heap.size + 1) = (w23.heap.size + 1)) := (by omega); have Ja := (Ib.newd w22 false none 0 0 30).below B23; have ga := Nat.le_refl w22.heap.size; have Jc := Ja; obtain ⟨jx23a, jy23a, jf23a, jg23a, jz23a⟩ := Jc)
        | (go_at_call 13; (with_reducible refine (rfrom_v (hx.below (zbd2 _ _ _)) (by omega)).mono ?_); rintro e w23 ⟨s23, A23, n23, c23, rfl, p23, k23, B23⟩; have Q23 := zup (zbd2 _ _ _) B23; obtain ⟨ax23, ay23, af23, ag23, az23⟩ := H_a.out.below Q23; have an23 : ¬ (w23.heap.size = w.heap.size) := (by omega); have am23 : ¬ (w.heap.size = w23.heap.size) := (by omega); have an23' : ¬ ((w23.heap.size + 1) = w.heap.size) := (by omega); have am23' : ¬ (w.heap.size = (w23.heap.size + 1)) := (by omega); obtain ⟨bx23, by23, bf23, bg23, bz23⟩ := H_b.out.below Q23; have bn23 : ¬ (w23.heap.size = (w.heap.size + 1)) := (by omega); have bm23 : ¬ ((w.heap.size + 1) = w23.heap.size) := (by omega); have bn23' : ¬ ((w23.heap.size + 1) = (w.heap.size + 1)) := (by omega); have bm23' : ¬ ((w.heap.size + 1) = (w23.heap.size + 1)) := (by omega); have Ja := (ibd1 w22 30).below B23; have ga := Nat.le_refl w22.heap.size; have Jb := (ibd2 w22 30).below B23; have gb := Nat.le_succ w22.heap.size; have nab : ¬ (w22.heap.size = w22.heap.size + 1) := (by omega); have nba : ¬ (w22.heap.size + 1 = w22.heap.size) := (by omega); have Jc := Ja; obtain ⟨jx23a, jy23a, jf23a, jg23a, jz23a⟩ := Jc; have Jc := Jb; obtain ⟨jx23b, jy23b, jf23b, jg23b, jz23b⟩ := Jc)
        | (go_at_call 13; (with_reducible refine (rfrom_v (hy.below Q23) (by omega)).mono ?_); rintro e w24 ⟨s24, A24, n24, c24, rfl, p24, k24, B24⟩; have Q24 := zup Q23 B24; have J1 := (Ja).below B24; have J2 := (Jb).below B24; have g1 := ga; have g2 := gb; have n12 := nab; have n21 := nba; have pp := (p23).below B24; obtain ⟨ax24, ay24, af24, ag24, az24⟩ := H_a.out.below Q24; have an24 : ¬ (w24.heap.size = w.heap.size) := (by omega); have am24 : ¬ (w.heap.size = w24.heap.size) := (by omega); have an24' : ¬ ((w24.heap.size + 1) = w.heap.size) := (by omega); have am24' : ¬ (w.heap.size = (w24.heap.size + 1)) := (by omega); obtain ⟨bx24, by24, bf24, bg24, bz24⟩ := H_b.out.below Q24; have bn24 : ¬ (w24.heap.size = (w.heap.size + 1)) := (by omega); have bm24 : ¬ ((w.heap.size + 1) = w24.heap.size) := (by omega); have bn24' : ¬ ((w24.heap.size + 1) = (w.heap.size + 1)) := (by omega); have bm24' : ¬ ((w.heap.size + 1) = (w24.heap.size + 1)) := (by omega); have Jc := J1; obtain ⟨jx241, jy241, jf241, jg241, jz241⟩ := Jc; have Jc := J2; obtain ⟨jx242, jy242, jf242, jg242, jz242⟩ := Jc)
        | (go_at_call 13; (with_reducible refine (rfrom_v (hy.below (zup Q23 (zba _ _))) (by omega)).mono ?_); rintro e w24 ⟨s24, A24, n24, c24, rfl, p24, k24, B24⟩; have Q24 := zup (zup Q23 (zba _ _)) B24; have J1 := ((Ja).below (zba _ _)).below B24; have g1 := ga; have pp := ((p23).below (zba _ _)).below B24; have J2 := (Ib.new w23 false none 0 0 30).below B24; have g2 := Q23.size; have n12 : ¬ (w22.heap.size = w23.heap.size) := (by have := Ja.2.2.2.2; omega); have n21 : ¬ (w23.heap.size = w22.heap.size) := (by have := Ja.2.2.2.2; omega); obtain ⟨ax24, ay24, af24, ag24, az24⟩ := H_a.out.below Q24; have an24 : ¬ (w24.heap.size = w.heap.size) := (by omega); have am24 : ¬ (w.heap.size = w24.heap.size) := (by omega); have an24' : ¬ ((w24.heap.size + 1) = w.heap.size) := (by omega); have am24' : ¬ (w.heap.size = (w24.heap.size + 1)) := (by omega); obtain ⟨bx24, by24, bf24, bg24, bz24⟩ := H_b.out.below Q24; have bn24 : ¬ (w24.heap.size = (w.heap.size + 1)) := (by omega); have bm24 : ¬ ((w.heap.size + 1) = w24.heap.size) := (by omega); have bn24' : ¬ ((w24.heap.size + 1) = (w.heap.size + 1)) := (by omega); have bm24' : ¬ ((w.heap.size + 1) = (w24.heap.size + 1)) := (by omega); have Jc := J1; obtain ⟨jx241, jy241, jf241, jg241, jz241⟩ := Jc; have Jc := J2; obtain ⟨jx242, jy242, jf242, jg242, jz242⟩ := Jc)
        | (go_at_call 13; (with_reducible refine (rfrom_v (hy.below Q23) (by omega)).mono ?_); rintro e w24 ⟨s24, A24, n24, c24, rfl, p24, k24, B24⟩; have Q24 := zup Q23 B24; have J1 := (Ja).below B24; have g1 := ga; have pp := (p23).below B24; obtain ⟨ax24, ay24, af24, ag24, az24⟩ := H_a.out.below Q24; have an24 : ¬ (w24.heap.size = w.heap.size) := (by omega); have am24 : ¬ (w.heap.size = w24.heap.size) := (by omega); have an24' : ¬ ((w24.heap.size + 1) = w.heap.size) := (by omega); have am24' : ¬ (w.heap.size = (w24.heap.size + 1)) := (by omega); obtain ⟨bx24, by24, bf24, bg24, bz24⟩ := H_b.out.below Q24; have bn24 : ¬ (w24.heap.size = (w.heap.size + 1)) := (by omega); have bm24 : ¬ ((w.heap.size + 1) = w24.heap.size) := (by omega); have bn24' : ¬ ((w24.heap.size + 1) = (w.heap.size + 1)) := (by omega); have bm24' : ¬ ((w.heap.size + 1) = (w24.heap.size + 1)) := (by omega); have Jc := J1; obtain ⟨jx241, jy241, jf241, jg241, jz241⟩ := Jc)
        | (go_at_call 13; (with_reducible refine (rfrom_v (hy.below (zup Q23 (zba2 _ _ _))) (by omega)).mono ?_); rintro e w24 ⟨s24, A24, n24, c24, rfl, p24, k24, B24⟩; have Q24 := zup (zup Q23 (zba2 _ _ _)) B24; have J0 : Nat := 0; have pp := ((p23).below (zba2 _ _ _)).below B24; have J1 := (ib1 w23 30).below B24; have g1 := Q23.size; have J2 := (ib2 w23 30).below B24; have g2 := Nat.le_succ_of_le Q23.size; have n12 : ¬ (w23.heap.size = w23.heap.size + 1) := (by omega); have n21 : ¬ (w23.heap.size + 1 = w23.heap.size) := (by omega); obtain ⟨ax24, ay24, af24, ag24, az24⟩ := H_a.out.below Q24; have an24 : ¬ (w24.heap.size = w.heap.size) := (by omega); have am24 : ¬ (w.heap.size = w24.heap.size) := (by omega); have an24' : ¬ ((w24.heap.size + 1) = w.heap.size) := (by omega); have am24' : ¬ (w.heap.size = (w24.heap.size + 1)) := (by omega); obtain ⟨bx24, by24, bf24, bg24, bz24⟩ := H_b.out.below Q24; have bn24 : ¬ (w24.heap.size = (w.heap.size + 1)) := (by omega); have bm24 : ¬ ((w.heap.size + 1) = w24.heap.size) := (by omega); have bn24' : ¬ ((w24.heap.size + 1) = (w.heap.size + 1)) := (by omega); have bm24' : ¬ ((w.heap.size + 1) = (w24.heap.size + 1)) := (by omega); have Jc := J1; obtain ⟨jx241, jy241, jf241, jg241, jz241⟩ := Jc; have Jc := J2; obtain ⟨jx242, jy242, jf242, jg242, jz242⟩ := Jc)
        | (go_at_call 13; (with_reducible refine (rfrom_v (hy.below (zup Q23 (zba _ _))) (by omega)).mono ?_); rintro e w24 ⟨s24, A24, n24, c24, rfl, p24, k24, B24⟩; have Q24 := zup (zup Q23 (zba _ _)) B24; have J0 : Nat := 0; have pp := ((p23).below (zba _ _)).below B24; have J1 := (Ib.new w23 false none 0 0 30).below B24; have g1 := Q23.size; obtain ⟨ax24, ay24, af24, ag24, az24⟩ := H_a.out.below Q24; have an24 : ¬ (w24.heap.size = w.heap.size) := (by omega); have am24 : ¬ (w.heap.size = w24.heap.size) := (by omega); have an24' : ¬ ((w24.heap.size + 1) = w.heap.size) := (by omega); have am24' : ¬ (w.heap.size = (w24.heap.size + 1)) := (by omega); obtain ⟨bx24, by24, bf24, bg24, bz24⟩ := H_b.out.below Q24; have bn24 : ¬ (w24.heap.size = (w.heap.size + 1)) := (by omega); have bm24 : ¬ ((w.heap.size + 1) = w24.heap.size) := (by omega); have bn24' : ¬ ((w24.heap.size + 1) = (w.heap.size + 1)) := (by omega); have bm24' : ¬ ((w.heap.size + 1) = (w24.heap.size + 1)) := (by omega); have Jc := J1; obtain ⟨jx241, jy241, jf241, jg241, jz241⟩ := Jc)
        | (go_at_call 13; (with_reducible refine (rfrom_v (hy.below Q23) (by omega)).mono ?_); rintro e w24 ⟨s24, A24, n24, c24, rfl, p24, k24, B24⟩; have Q24 := zup Q23 B24; have J0 : Nat := 0; have pp := (p23).below B24; obtain ⟨ax24, ay24, af24, ag24, az24⟩ := H_a.out.below Q24; have an24 : ¬ (w24.heap.size = w.heap.size) := (by omega); have am24 : ¬ (w.heap.size = w24.heap.size) := (by omega); have an24' : ¬ ((w24.heap.size + 1) = w.heap.size) := (by omega); have am24' : ¬ (w.heap.size = (w24.heap.size + 1)) := (by omega); obtain ⟨bx24, by24, bf24, bg24, bz24⟩ := H_b.out.below Q24; have bn24 : ¬ (w24.heap.size = (w.heap.size + 1)) := (by omega); have bm24 : ¬ ((w.heap.size + 1) = w24.heap.size) := (by omega); have bn24' : ¬ ((w24.heap.size + 1) = (w.heap.size + 1)) := (by omega); have bm24' : ¬ ((w.heap.size + 1) = (w24.heap.size + 1)) := (by omega)))
      all_goals
        first
          | have P := Lib.hid (TwoCut.pp (w0 := w22) (x := x) (y := y) (kx := 48) (ky := 48) J1 J2 g1 g2 n12 pp p24 Q24 (by omega) (by omega)); have P' := Lib.hid (TwoCut.pp (w0 := w22) (x := x) (y := y) (kx := 48) (ky := 48) J2 J1 g2 g1 n21 pp p24 Q24 (by omega) (by omega))
          | have P := Lib.hid (TwoCut.pa (w0 := w22) (x := x) (y := y) (kx := 48) (ky := 48) (T := 30) J1 g1 pp p24 Q24 (by omega) (by omega)); have P' := Lib.hid (TwoCut.pa (w0 := w22) (x := y) (y := x) (kx := 48) (ky := 48) (T := 30) J1 g1 p24 pp Q24 (by omega) (by omega)).swap
          | have P := Lib.hid (TwoCut.aa (w0 := w22) (x := x) (y := y) (kx := 48) (ky := 48) (T := 30) pp p24 Q24 (by omega) (by omega)); have P' := Lib.hid (TwoCut.aa (w0 := w22) (x := y) (y := x) (kx := 48) (ky := 48) (T := 30) p24 pp Q24 (by omega) (by omega)).swap
        go_wp2_with fail
        go_meet
        first
          | exact P.out
          | exact P'.out
    case rest =>
      obtain ⟨g25, s25, A25, n25, c25, f25, t25, D25, m25, d25, rfl, rfl, hg25, hf25, hne25, I25, J25, p25, r25, k25, l25, B25⟩ := hcut
      obtain ⟨w25, hw25⟩ : ∃ x, x = wc := ⟨_, rfl⟩
      subst hw25
      replace H_a := Lib.hid (H_a.out.below B25)
      replace H_b := Lib.hid (H_b.out.below B25)
      replace hx := hx.below B25
      replace hy := hy.below B25
      replace hW := hW.trans (B25.mono hW.size)
      have H_x := Lib.hid I25
      have H_y := Lib.hid J25
      clear B25 I25 J25 hg25 hf25
      have px := p25
      have py := r25
      clear p25 r25
      obtain ⟨r1, hr1⟩ : ∃ r, x.sign = r := ⟨_, rfl⟩
      obtain ⟨r2, hr2⟩ : ∃ r, (x - y).sign = r := ⟨_, rfl⟩
      obtain ⟨be, hbe⟩ : ∃ b, decide (x = y) = b := ⟨_, rfl⟩
      have q0 : (r2 == 0) = be := by rw [← hbe, ← hr2, Bool.eq_iff_iff, beq_iff_eq, decide_eq_true_iff, Int.sign_eq_zero_iff_zero]; omega
      have R1 := Lib.hid hr1
      have R2 := Lib.hid hr2
      have BE := Lib.hid hbe
      have Q0 := Lib.hid q0
      clear hr1 hr2 hbe q0
      obtain ⟨a1, a2, a3, a4, a5⟩ := H_a.out
      obtain ⟨b1, b2, b3, b4, b5⟩ := H_b.out
      obtain ⟨x1, x2, x3, x4, x5⟩ := H_x.out
      obtain ⟨y1, y2, y3, y4, y5⟩ := H_y.out
      go_wp2_with fail
      clear a1 a2 a3 a4 a5 b1 b2 b3 b4 b5 x1 x2 x3 x4 x5 y1 y2 y3 y4 y5
      obtain ⟨a1, a2, a3, a4, a5⟩ := H_a.out
      obtain ⟨b1, b2, b3, b4, b5⟩ := H_b.out
      obtain ⟨x1, x2, x3, x4, x5⟩ := H_x.out
      obtain ⟨y1, y2, y3, y4, y5⟩ := H_y.out
      go_region_held3 (fun w' => w'.cell? ⟨w.heap.size, 0, none⟩ = some (.bool s) ∧ w'.cell? ⟨w.heap.size, 1, none⟩ = some (.slice A n c) ∧ w'.cell? ⟨(w.heap.size + 1), 0, none⟩ = some (.bool t) ∧ w'.cell? ⟨(w.heap.size + 1), 1, none⟩ = some (.slice B m d) ∧ w'.cell? ⟨g25, 0, none⟩ = some (.bool s25) ∧ w'.cell? ⟨g25, 1, none⟩ = some (.slice A25 n25 c25) ∧ w'.cell? ⟨f25, 0, none⟩ = some (.bool t25) ∧ w'.cell? ⟨f25, 1, none⟩ = some (.slice D25 m25 d25)) (go_keep) (first
        | (go_at_call 15; (with_reducible refine (zadd_v (hx.below (below_drew _)) (hy.below (below_drew _)) (by omega) (by omega)).mono ?_); rintro e w26 ⟨s26, A26, n26, c26, rfl, p26, k26, B26⟩; have Q26 := zup (below_drew _) B26; obtain ⟨ax26, ay26, af26, ag26, az26⟩ := H_a.out.below Q26; obtain ⟨bx26, by26, bf26, bg26, bz26⟩ := H_b.out.below Q26; obtain ⟨xx26, xy26, xf26, xg26, xz26⟩ := H_x.out.below Q26; obtain ⟨yx26, yy26, yf26, yg26, yz26⟩ := H_y.out.below Q26)
        | (go_at_call 16; (with_reducible refine (radd2_v (px.below Q26) (py.below Q26) (by omega) (by omega)).mono ?_); rintro e w27 ⟨s27, A27, n27, c27, rfl, p27, k27, B27⟩; have Q27 := zup Q26 B27; obtain ⟨ax27, ay27, af27, ag27, az27⟩ := H_a.out.below Q27; obtain ⟨bx27, by27, bf27, bg27, bz27⟩ := H_b.out.below Q27; obtain ⟨xx27, xy27, xf27, xg27, xz27⟩ := H_x.out.below Q27; obtain ⟨yx27, yy27, yf27, yg27, yz27⟩ := H_y.out.below Q27)
        | (go_at_call 14; (with_reducible refine (ris_v (p26.below B27) p27 (by omega) rfl).mono ?_); rintro e w28 ⟨rfl, B28⟩; have Q28 := zup Q27 B28; obtain ⟨ax28, ay28, af28, ag28, az28⟩ := H_a.out.below Q28; obtain ⟨bx28, by28, bf28, bg28, bz28⟩ := H_b.out.below Q28; obtain ⟨xx28, xy28, xf28, xg28, xz28⟩ := H_x.out.below Q28; obtain ⟨yx28, yy28, yf28, yg28, yz28⟩ := H_y.out.below Q28)
        | (go_at_call 17; (with_reducible refine (zsub_v (hx.below Q28) (hy.below Q28) (by omega) (by omega)).mono ?_); rintro e w29 ⟨s29, A29, n29, c29, rfl, p29, k29, B29⟩; have Q29 := zup Q28 B29; obtain ⟨ax29, ay29, af29, ag29, az29⟩ := H_a.out.below Q29; obtain ⟨bx29, by29, bf29, bg29, bz29⟩ := H_b.out.below Q29; obtain ⟨xx29, xy29, xf29, xg29, xz29⟩ := H_x.out.below Q29; obtain ⟨yx29, yy29, yf29, yg29, yz29⟩ := H_y.out.below Q29)
        | (go_at_call 18; (with_reducible refine (rsub2_v (px.below Q29) (py.below Q29) (by omega) (by omega)).mono ?_); rintro e w30 ⟨s30, A30, n30, c30, rfl, p30, k30, B30⟩; have Q30 := zup Q29 B30; obtain ⟨ax30, ay30, af30, ag30, az30⟩ := H_a.out.below Q30; obtain ⟨bx30, by30, bf30, bg30, bz30⟩ := H_b.out.below Q30; obtain ⟨xx30, xy30, xf30, xg30, xz30⟩ := H_x.out.below Q30; obtain ⟨yx30, yy30, yf30, yg30, yz30⟩ := H_y.out.below Q30)
        | (go_at_call 14; (with_reducible refine (ris_v (p29.below B30) p30 (by omega) rfl).mono ?_); rintro e w31 ⟨rfl, B31⟩; have Q31 := zup Q30 B31; obtain ⟨ax31, ay31, af31, ag31, az31⟩ := H_a.out.below Q31; obtain ⟨bx31, by31, bf31, bg31, bz31⟩ := H_b.out.below Q31; obtain ⟨xx31, xy31, xf31, xg31, xz31⟩ := H_x.out.below Q31; obtain ⟨yx31, yy31, yf31, yg31, yz31⟩ := H_y.out.below Q31)
        | (go_at_call 19; (with_reducible refine (zmul_v (hx.below Q31) (hy.below Q31) (by omega) (by omega)).mono ?_); rintro e w32 ⟨s32, A32, n32, c32, rfl, p32, k32, B32⟩; have Q32 := zup Q31 B32; obtain ⟨ax32, ay32, af32, ag32, az32⟩ := H_a.out.below Q32; obtain ⟨bx32, by32, bf32, bg32, bz32⟩ := H_b.out.below Q32; obtain ⟨xx32, xy32, xf32, xg32, xz32⟩ := H_x.out.below Q32; obtain ⟨yx32, yy32, yf32, yg32, yz32⟩ := H_y.out.below Q32)
        | (go_at_call 20; (with_reducible refine (rmul2_v (px.below Q32) (py.below Q32) (by omega) (by omega)).mono ?_); rintro e w33 ⟨s33, A33, n33, c33, rfl, p33, k33, B33⟩; have Q33 := zup Q32 B33; obtain ⟨ax33, ay33, af33, ag33, az33⟩ := H_a.out.below Q33; obtain ⟨bx33, by33, bf33, bg33, bz33⟩ := H_b.out.below Q33; obtain ⟨xx33, xy33, xf33, xg33, xz33⟩ := H_x.out.below Q33; obtain ⟨yx33, yy33, yf33, yg33, yz33⟩ := H_y.out.below Q33)
        | (go_at_call 14; (with_reducible refine (ris_v (p32.below B33) p33 (by omega) rfl).mono ?_); rintro e w34 ⟨rfl, B34⟩; have Q34 := zup Q33 B34; obtain ⟨ax34, ay34, af34, ag34, az34⟩ := H_a.out.below Q34; obtain ⟨bx34, by34, bf34, bg34, bz34⟩ := H_b.out.below Q34; obtain ⟨xx34, xy34, xf34, xg34, xz34⟩ := H_x.out.below Q34; obtain ⟨yx34, yy34, yf34, yg34, yz34⟩ := H_y.out.below Q34))
      clear a1 a2 a3 a4 a5 b1 b2 b3 b4 b5 x1 x2 x3 x4 x5 y1 y2 y3 y4 y5 ax26 ay26 af26 ag26 az26 bx26 by26 bf26 bg26 bz26 xx26 xy26 xf26 xg26 xz26 yx26 yy26 yf26 yg26 yz26 ax27 ay27 af27 ag27 az27 bx27 by27 bf27 bg27 bz27 xx27 xy27 xf27 xg27 xz27 yx27 yy27 yf27 yg27 yz27 ax28 ay28 af28 ag28 az28 bx28 by28 bf28 bg28 bz28 xx28 xy28 xf28 xg28 xz28 yx28 yy28 yf28 yg28 yz28 ax29 ay29 af29 ag29 az29 bx29 by29 bf29 bg29 bz29 xx29 xy29 xf29 xg29 xz29 yx29 yy29 yf29 yg29 yz29 ax30 ay30 af30 ag30 az30 bx30 by30 bf30 bg30 bz30 xx30 xy30 xf30 xg30 xz30 yx30 yy30 yf30 yg30 yz30 ax31 ay31 af31 ag31 az31 bx31 by31 bf31 bg31 bz31 xx31 xy31 xf31 xg31 xz31 yx31 yy31 yf31 yg31 yz31 ax32 ay32 af32 ag32 az32 bx32 by32 bf32 bg32 bz32 xx32 xy32 xf32 xg32 xz32 yx32 yy32 yf32 yg32 yz32 ax33 ay33 af33 ag33 az33 bx33 by33 bf33 bg33 bz33 xx33 xy33 xf33 xg33 xz33 yx33 yy33 yf33 yg33 yz33 ax34 ay34 af34 ag34 az34 bx34 by34 bf34 bg34 bz34 xx34 xy34 xf34 xg34 xz34 yx34 yy34 yf34 yg34 yz34
      replace H_a := Lib.hid (H_a.out.below Q34)
      replace H_b := Lib.hid (H_b.out.below Q34)
      replace H_x := Lib.hid (H_x.out.below Q34)
      replace H_y := Lib.hid (H_y.out.below Q34)
      replace hx := hx.below Q34
      replace hy := hy.below Q34
      replace px := px.below Q34
      replace py := py.below Q34
      replace hW := hW.trans (Q34.mono hW.size)
      clear B26 Q26 B27 Q27 B28 Q28 B29 Q29 B30 Q30 B31 Q31 B32 Q32 B33 Q33 B34 Q34 p26 p27 p29 p30 p32 p33
      obtain ⟨a1, a2, a3, a4, a5⟩ := H_a.out
      obtain ⟨b1, b2, b3, b4, b5⟩ := H_b.out
      obtain ⟨x1, x2, x3, x4, x5⟩ := H_x.out
      obtain ⟨y1, y2, y3, y4, y5⟩ := H_y.out
      go_wp2_with fail
      clear a1 a2 a3 a4 a5 b1 b2 b3 b4 b5 x1 x2 x3 x4 x5 y1 y2 y3 y4 y5
      obtain ⟨a1, a2, a3, a4, a5⟩ := H_a.out
      obtain ⟨b1, b2, b3, b4, b5⟩ := H_b.out
      obtain ⟨x1, x2, x3, x4, x5⟩ := H_x.out
      obtain ⟨y1, y2, y3, y4, y5⟩ := H_y.out
      have q0 := Q0.out
      have q1 : (be == be) = true := by simp
      have q2 : (r1 == r1) = true := by simp
      have q3 : (r2 == r2) = true := by simp
      go_region_held3 (fun w' => w'.cell? ⟨w.heap.size, 0, none⟩ = some (.bool s) ∧ w'.cell? ⟨w.heap.size, 1, none⟩ = some (.slice A n c) ∧ w'.cell? ⟨(w.heap.size + 1), 0, none⟩ = some (.bool t) ∧ w'.cell? ⟨(w.heap.size + 1), 1, none⟩ = some (.slice B m d) ∧ w'.cell? ⟨g25, 0, none⟩ = some (.bool s25) ∧ w'.cell? ⟨g25, 1, none⟩ = some (.slice A25 n25 c25) ∧ w'.cell? ⟨f25, 0, none⟩ = some (.bool t25) ∧ w'.cell? ⟨f25, 1, none⟩ = some (.slice D25 m25 d25)) (go_keep) (first
        | (go_at_call 21; (with_reducible refine (zneg_v (hx.below (below_drew _)) (by omega)).mono ?_); rintro e w35 ⟨s35, A35, n35, c35, rfl, p35, k35, B35⟩; have Q35 := zup (below_drew _) B35; obtain ⟨ax35, ay35, af35, ag35, az35⟩ := H_a.out.below Q35; obtain ⟨bx35, by35, bf35, bg35, bz35⟩ := H_b.out.below Q35; obtain ⟨xx35, xy35, xf35, xg35, xz35⟩ := H_x.out.below Q35; obtain ⟨yx35, yy35, yf35, yg35, yz35⟩ := H_y.out.below Q35)
        | (go_at_call 22; (with_reducible refine (rneg_v (px.below Q35)).mono ?_); rintro e w36 ⟨s36, A36, n36, c36, rfl, p36, k36, B36⟩; have Q36 := zup Q35 B36; obtain ⟨ax36, ay36, af36, ag36, az36⟩ := H_a.out.below Q36; obtain ⟨bx36, by36, bf36, bg36, bz36⟩ := H_b.out.below Q36; obtain ⟨xx36, xy36, xf36, xg36, xz36⟩ := H_x.out.below Q36; obtain ⟨yx36, yy36, yf36, yg36, yz36⟩ := H_y.out.below Q36)
        | (go_at_call 14; (with_reducible refine (ris_v (p35.below B36) p36 (by omega) rfl).mono ?_); rintro e w37 ⟨rfl, B37⟩; have Q37 := zup Q36 B37; obtain ⟨ax37, ay37, af37, ag37, az37⟩ := H_a.out.below Q37; obtain ⟨bx37, by37, bf37, bg37, bz37⟩ := H_b.out.below Q37; obtain ⟨xx37, xy37, xf37, xg37, xz37⟩ := H_x.out.below Q37; obtain ⟨yx37, yy37, yf37, yg37, yz37⟩ := H_y.out.below Q37)
        | (go_at_call 23; (with_reducible refine (zabs_v (hx.below Q37) (by omega)).mono ?_); rintro e w38 ⟨s38, A38, n38, c38, rfl, p38, k38, B38⟩; have Q38 := zup Q37 B38; obtain ⟨ax38, ay38, af38, ag38, az38⟩ := H_a.out.below Q38; obtain ⟨bx38, by38, bf38, bg38, bz38⟩ := H_b.out.below Q38; obtain ⟨xx38, xy38, xf38, xg38, xz38⟩ := H_x.out.below Q38; obtain ⟨yx38, yy38, yf38, yg38, yz38⟩ := H_y.out.below Q38)
        | (go_at_call 24; (with_reducible refine (rabs_v (px.below Q38)).mono ?_); rintro e w39 ⟨s39, A39, n39, c39, rfl, p39, k39, B39⟩; have Q39 := zup Q38 B39; obtain ⟨ax39, ay39, af39, ag39, az39⟩ := H_a.out.below Q39; obtain ⟨bx39, by39, bf39, bg39, bz39⟩ := H_b.out.below Q39; obtain ⟨xx39, xy39, xf39, xg39, xz39⟩ := H_x.out.below Q39; obtain ⟨yx39, yy39, yf39, yg39, yz39⟩ := H_y.out.below Q39)
        | (go_at_call 14; (with_reducible refine (ris_v (p38.below B39) p39 (by omega) rfl).mono ?_); rintro e w40 ⟨rfl, B40⟩; have Q40 := zup Q39 B40; obtain ⟨ax40, ay40, af40, ag40, az40⟩ := H_a.out.below Q40; obtain ⟨bx40, by40, bf40, bg40, bz40⟩ := H_b.out.below Q40; obtain ⟨xx40, xy40, xf40, xg40, xz40⟩ := H_x.out.below Q40; obtain ⟨yx40, yy40, yf40, yg40, yz40⟩ := H_y.out.below Q40)
        | (go_at_call 25; (with_reducible refine (zsign_v (hx.below Q40) (by omega) R1.out).mono ?_); rintro e w41 ⟨rfl, B41⟩; have Q41 := zup Q40 B41; obtain ⟨ax41, ay41, af41, ag41, az41⟩ := H_a.out.below Q41; obtain ⟨bx41, by41, bf41, bg41, bz41⟩ := H_b.out.below Q41; obtain ⟨xx41, xy41, xf41, xg41, xz41⟩ := H_x.out.below Q41; obtain ⟨yx41, yy41, yf41, yg41, yz41⟩ := H_y.out.below Q41)
        | (go_at_call 26; (with_reducible refine (rsign_v (px.below Q41) R1.out).mono ?_); rintro e w42 ⟨rfl, B42⟩; have Q42 := zup Q41 B42; obtain ⟨ax42, ay42, af42, ag42, az42⟩ := H_a.out.below Q42; obtain ⟨bx42, by42, bf42, bg42, bz42⟩ := H_b.out.below Q42; obtain ⟨xx42, xy42, xf42, xg42, xz42⟩ := H_x.out.below Q42; obtain ⟨yx42, yy42, yf42, yg42, yz42⟩ := H_y.out.below Q42)
        | (go_at_call 27; (with_reducible refine (zcmp_v (hx.below Q42) (hy.below Q42) (by omega) (by omega) R2.out).mono ?_); rintro e w43 ⟨rfl, B43⟩; have Q43 := zup Q42 B43; obtain ⟨ax43, ay43, af43, ag43, az43⟩ := H_a.out.below Q43; obtain ⟨bx43, by43, bf43, bg43, bz43⟩ := H_b.out.below Q43; obtain ⟨xx43, xy43, xf43, xg43, xz43⟩ := H_x.out.below Q43; obtain ⟨yx43, yy43, yf43, yg43, yz43⟩ := H_y.out.below Q43)
        | (go_at_call 28; (with_reducible refine (rcmp2_v (px.below Q43) (py.below Q43) (by omega) (by omega) R2.out).mono ?_); rintro e w44 ⟨rfl, B44⟩; have Q44 := zup Q43 B44; obtain ⟨ax44, ay44, af44, ag44, az44⟩ := H_a.out.below Q44; obtain ⟨bx44, by44, bf44, bg44, bz44⟩ := H_b.out.below Q44; obtain ⟨xx44, xy44, xf44, xg44, xz44⟩ := H_x.out.below Q44; obtain ⟨yx44, yy44, yf44, yg44, yz44⟩ := H_y.out.below Q44)
        | (go_at_call 29; (with_reducible refine (zsame_v (hx.below Q44) (hy.below Q44) (by omega) (by omega) BE.out).mono ?_); rintro e w45 ⟨rfl, B45⟩; have Q45 := zup Q44 B45; obtain ⟨ax45, ay45, af45, ag45, az45⟩ := H_a.out.below Q45; obtain ⟨bx45, by45, bf45, bg45, bz45⟩ := H_b.out.below Q45; obtain ⟨xx45, xy45, xf45, xg45, xz45⟩ := H_x.out.below Q45; obtain ⟨yx45, yy45, yf45, yg45, yz45⟩ := H_y.out.below Q45)
        | (go_at_call 28; (with_reducible refine (rcmp2_v (px.below Q45) (py.below Q45) (by omega) (by omega) R2.out).mono ?_); rintro e w46 ⟨rfl, B46⟩; have Q46 := zup Q45 B46; obtain ⟨ax46, ay46, af46, ag46, az46⟩ := H_a.out.below Q46; obtain ⟨bx46, by46, bf46, bg46, bz46⟩ := H_b.out.below Q46; obtain ⟨xx46, xy46, xf46, xg46, xz46⟩ := H_x.out.below Q46; obtain ⟨yx46, yy46, yf46, yg46, yz46⟩ := H_y.out.below Q46))
      clear a1 a2 a3 a4 a5 b1 b2 b3 b4 b5 x1 x2 x3 x4 x5 y1 y2 y3 y4 y5 ax35 ay35 af35 ag35 az35 bx35 by35 bf35 bg35 bz35 xx35 xy35 xf35 xg35 xz35 yx35 yy35 yf35 yg35 yz35 ax36 ay36 af36 ag36 az36 bx36 by36 bf36 bg36 bz36 xx36 xy36 xf36 xg36 xz36 yx36 yy36 yf36 yg36 yz36 ax37 ay37 af37 ag37 az37 bx37 by37 bf37 bg37 bz37 xx37 xy37 xf37 xg37 xz37 yx37 yy37 yf37 yg37 yz37 ax38 ay38 af38 ag38 az38 bx38 by38 bf38 bg38 bz38 xx38 xy38 xf38 xg38 xz38 yx38 yy38 yf38 yg38 yz38 ax39 ay39 af39 ag39 az39 bx39 by39 bf39 bg39 bz39 xx39 xy39 xf39 xg39 xz39 yx39 yy39 yf39 yg39 yz39 ax40 ay40 af40 ag40 az40 bx40 by40 bf40 bg40 bz40 xx40 xy40 xf40 xg40 xz40 yx40 yy40 yf40 yg40 yz40 ax41 ay41 af41 ag41 az41 bx41 by41 bf41 bg41 bz41 xx41 xy41 xf41 xg41 xz41 yx41 yy41 yf41 yg41 yz41 ax42 ay42 af42 ag42 az42 bx42 by42 bf42 bg42 bz42 xx42 xy42 xf42 xg42 xz42 yx42 yy42 yf42 yg42 yz42 ax43 ay43 af43 ag43 az43 bx43 by43 bf43 bg43 bz43 xx43 xy43 xf43 xg43 xz43 yx43 yy43 yf43 yg43 yz43 ax44 ay44 af44 ag44 az44 bx44 by44 bf44 bg44 bz44 xx44 xy44 xf44 xg44 xz44 yx44 yy44 yf44 yg44 yz44 ax45 ay45 af45 ag45 az45 bx45 by45 bf45 bg45 bz45 xx45 xy45 xf45 xg45 xz45 yx45 yy45 yf45 yg45 yz45 ax46 ay46 af46 ag46 az46 bx46 by46 bf46 bg46 bz46 xx46 xy46 xf46 xg46 xz46 yx46 yy46 yf46 yg46 yz46
      replace H_a := Lib.hid (H_a.out.below Q46)
      replace H_b := Lib.hid (H_b.out.below Q46)
      replace H_x := Lib.hid (H_x.out.below Q46)
      replace H_y := Lib.hid (H_y.out.below Q46)
      replace hx := hx.below Q46
      replace hy := hy.below Q46
      replace px := px.below Q46
      replace py := py.below Q46
      replace hW := hW.trans (Q46.mono hW.size)
      clear B35 Q35 B36 Q36 B37 Q37 B38 Q38 B39 Q39 B40 Q40 B41 Q41 B42 Q42 B43 Q43 B44 Q44 B45 Q45 B46 Q46 p35 p36 p38 p39
      go_wp2_with fail
      go_ret
      exact ⟨rfl, hW⟩
  · go_enter Try.func3, Try.ntmps3
    obtain ⟨a1, a2, a3, a4, a5⟩ := H_a.out
    obtain ⟨b1, b2, b3, b4, b5⟩ := H_b.out
    go_wp2_with fail
    rw [HW.out]
    clear a1 a2 a3 a4 a5 b1 b2 b3 b4 b5
    refine (zawake_calls _).mono ?_
    rintro e w21 ⟨rfl, B21⟩
    replace H_a := Lib.hid (H_a.out.below B21)
    replace H_b := Lib.hid (H_b.out.below B21)
    replace hx := hx.below B21
    replace hy := hy.below B21
    replace hW := hW.trans (B21.mono hW.size)
    clear B21
    obtain ⟨a1, a2, a3, a4, a5⟩ := H_a.out
    obtain ⟨b1, b2, b3, b4, b5⟩ := H_b.out
    go_wp2_with fail
    clear a1 a2 a3 a4 a5 b1 b2 b3 b4 b5
    refine (zfew_v (k := 12) (b := false) hn hm hn (by omega) (by rw [decide_eq_false_iff_not]; omega)).mono ?_
    rintro e w22 ⟨rfl, B22⟩
    replace H_a := Lib.hid (H_a.out.below B22)
    replace H_b := Lib.hid (H_b.out.below B22)
    replace hx := hx.below B22
    replace hy := hy.below B22
    replace hW := hW.trans (B22.mono hW.size)
    clear B22
    obtain ⟨a1, a2, a3, a4, a5⟩ := H_a.out
    obtain ⟨b1, b2, b3, b4, b5⟩ := H_b.out
    go_wp2_with fail
    clear a1 a2 a3 a4 a5 b1 b2 b3 b4 b5
    refine (zawake_calls _).mono ?_
    rintro e w23 ⟨rfl, B23⟩
    replace H_a := Lib.hid (H_a.out.below B23)
    replace H_b := Lib.hid (H_b.out.below B23)
    replace hx := hx.below B23
    replace hy := hy.below B23
    replace hW := hW.trans (B23.mono hW.size)
    clear B23
    go_wp2_with fail
    go_ret
    exact ⟨rfl, hW⟩
end Go.Proofs.Ytnkmoeihlfdjbaa
