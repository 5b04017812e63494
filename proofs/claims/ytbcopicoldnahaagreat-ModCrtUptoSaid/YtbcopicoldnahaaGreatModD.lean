/-
  quincunxlaw06.few; the reference's Within; modn.Pow.
-/
import Derived.Test.YtbcopicoldnahaaGreatModB
import Derived.Test.YtbcopicoldnahaaGreatModC
import Derived.Test.YtbcopicoldnahaaGreatAwk6
/-! Contracts: quincunxlaw06.few, quincunxref06.Within, modn.Pow. -/
namespace Go.Proofs.YtbcopicoldnahaaGreat
open Go.RowKit
set_option linter.unusedVariables false
set_option linter.unusedSimpArgs false

theorem sign_nn {x : Int} (h : 0 ≤ x) : 0 ≤ x.sign := by
  rcases Int.lt_or_eq_of_le h with h | h
  · rw [Int.sign_eq_one_of_pos h]; omega
  · rw [← h]; decide
set_option maxHeartbeats 2000000 in
/-- quincunxref06.Within, of what is. -/
theorem rwithin_v {A B : Option Addr} {n m c d : Nat} {s t : Bool} {x y : Int} {w : World} (hx : Zv w s A n c x) (hy : Zv w t B m d y) (hn : n ≤ 100000000) (hm : m ≤ 100000000) (h0 : 0 ≤ x) (h1 : x < y) :
    Calls Tryz.prog 13 #[.agg #[.bool s, .slice A n c], .agg #[.bool t, .slice B m d]] w (TruePost w) := by
  obtain ⟨w3, hw3, IA, IB, z0⟩ := open2 w s t A B n c m d
  have HW := Lib.hid hw3.symm
  replace hx := hx.below z0
  replace hy := hy.below z0
  have hW := z0
  have H_a := Lib.hid IA
  have H_b := Lib.hid IB
  obtain ⟨sx, hsx⟩ : ∃ r, x.sign = r := ⟨_, rfl⟩
  have hs0 : 0 ≤ sx := by rw [← hsx]; exact sign_nn h0
  have b1 : decide (0 ≤ sx) = true := decide_eq_true hs0
  have HSX := Lib.hid hsx
  have HCM : Hid ((x - y).sign = -1) := Lib.hid (Int.sign_eq_neg_one_of_neg (by omega))
  clear hw3 IA IB z0 hsx
  go_enter Tryz.func13, Tryz.ntmps13
  obtain ⟨a1, a2, a3, a4, a5⟩ := H_a.out
  obtain ⟨b1, b2, b3, b4, b5⟩ := H_b.out
  go_wp2_with fail
  rw [HW.out]
  clear a1 a2 a3 a4 a5 b1 b2 b3 b4 b5
  refine (rfrom_v hx (by omega)).mono ?_
  rintro e w21 ⟨s21, A21, n21, c21, rfl, px, k21, B21⟩
  replace H_a := Lib.hid (H_a.out.below B21)
  replace H_b := Lib.hid (H_b.out.below B21)
  replace hx := hx.below B21
  replace hy := hy.below B21
  replace hW := hW.trans (B21.mono hW.size)
  clear B21
  have z22 := zba w21 (.cells #[.bool s21, .slice A21 n21 c21] 48)
  obtain ⟨w22, hw22⟩ : ∃ w', w' = w21.alloc (.cells #[.bool s21, .slice A21 n21 c21] 48) := ⟨_, rfl⟩
  have I22 : Ib w22 w21.heap.size s21 A21 n21 c21 := by rw [hw22]; exact Ib.new _ _ _ _ _ _
  rw [← hw22] at z22
  have HW22 := Lib.hid hw22.symm
  have O_a := H_a
  have lt_a_x : w.heap.size < w21.heap.size := H_a.out.2.2.2.2
  have O_b := H_b
  have lt_b_x : (w.heap.size + 1) < w21.heap.size := H_b.out.2.2.2.2
  have lw_x : w.heap.size ≤ w21.heap.size := hW.size
  replace H_a := Lib.hid (H_a.out.below z22)
  replace H_b := Lib.hid (H_b.out.below z22)
  replace hx := hx.below z22
  replace hy := hy.below z22
  replace px := px.below z22
  replace hW := hW.trans (z22.mono hW.size)
  have H_x := Lib.hid I22
  clear z22 hw22 I22
  obtain ⟨a1, a2, a3, a4, a5⟩ := O_a.out
  obtain ⟨b1, b2, b3, b4, b5⟩ := O_b.out
  go_wp2_with fail
  rw [HW22.out]
  clear a1 a2 a3 a4 a5 b1 b2 b3 b4 b5 O_a O_b
  obtain ⟨a1, a2, a3, a4, a5⟩ := H_a.out
  obtain ⟨b1, b2, b3, b4, b5⟩ := H_b.out
  obtain ⟨x1, x2, x3, x4, x5⟩ := H_x.out
  go_region_held3 (fun w' => w'.cell? ⟨w.heap.size, 0, none⟩ = some (.bool s) ∧ w'.cell? ⟨w.heap.size, 1, none⟩ = some (.slice A n c) ∧ w'.cell? ⟨(w.heap.size + 1), 0, none⟩ = some (.bool t) ∧ w'.cell? ⟨(w.heap.size + 1), 1, none⟩ = some (.slice B m d) ∧ w'.cell? ⟨w21.heap.size, 0, none⟩ = some (.bool s21) ∧ w'.cell? ⟨w21.heap.size, 1, none⟩ = some (.slice A21 n21 c21)) (go_keep) (first
    | (go_at_call 21; (with_reducible refine (rsign_v (px.below (below_drew _)) HSX.out).mono ?_); rintro e w23 ⟨rfl, B23⟩; have Q23 := zup (below_drew _) B23; obtain ⟨ax23, ay23, af23, ag23, az23⟩ := H_a.out.below Q23; obtain ⟨bx23, by23, bf23, bg23, bz23⟩ := H_b.out.below Q23; obtain ⟨xx23, xy23, xf23, xg23, xz23⟩ := H_x.out.below Q23)
    | (go_at_call 20; (with_reducible refine (rfrom_v (hy.below Q23) (by omega)).mono ?_); rintro e w24 ⟨s24, A24, n24, c24, rfl, p24, k24, B24⟩; have Q24 := zup Q23 B24; obtain ⟨ax24, ay24, af24, ag24, az24⟩ := H_a.out.below Q24; obtain ⟨bx24, by24, bf24, bg24, bz24⟩ := H_b.out.below Q24; obtain ⟨xx24, xy24, xf24, xg24, xz24⟩ := H_x.out.below Q24)
    | (go_at_call 28; (with_reducible refine (rcmp2_v (px.below Q24) p24 (by omega) (by omega) HCM.out).mono ?_); rintro e w25 ⟨rfl, B25⟩; have Q25 := zup Q24 B25; obtain ⟨ax25, ay25, af25, ag25, az25⟩ := H_a.out.below Q25; obtain ⟨bx25, by25, bf25, bg25, bz25⟩ := H_b.out.below Q25; obtain ⟨xx25, xy25, xf25, xg25, xz25⟩ := H_x.out.below Q25)
    | fail)
  clear a1 a2 a3 a4 a5 b1 b2 b3 b4 b5 x1 x2 x3 x4 x5 ax23 ay23 af23 ag23 az23 bx23 by23 bf23 bg23 bz23 xx23 xy23 xf23 xg23 xz23 ax24 ay24 af24 ag24 az24 bx24 by24 bf24 bg24 bz24 xx24 xy24 xf24 xg24 xz24 ax25 ay25 af25 ag25 az25 bx25 by25 bf25 bg25 bz25 xx25 xy25 xf25 xg25 xz25
  replace H_a := Lib.hid (H_a.out.below Q25)
  replace H_b := Lib.hid (H_b.out.below Q25)
  replace H_x := Lib.hid (H_x.out.below Q25)
  replace hx := hx.below Q25
  replace hy := hy.below Q25
  replace px := px.below Q25
  replace hW := hW.trans (Q25.mono hW.size)
  clear B23 Q23 B24 Q24 B25 Q25 p24
  go_wp2_with fail
  go_ret
  exact ⟨rfl, hW⟩
/-- Three whole numbers, and a result, in new memory. -/
theorem opens4 (w : World) (s t u : Bool) (A B C : Option Addr) (n c m d l e : Nat) :
    ∃ w3, w3 = ((((w.alloc (.cells #[.bool s, .slice A n c] 27)).alloc (.cells #[.bool t, .slice B m d] 27)).alloc (.cells #[.bool u, .slice C l e] 27)).alloc (.cells #[.bool false, .slice none 0 0] 27)) ∧
      Ib w3 w.heap.size s A n c ∧ Ib w3 (w.heap.size + 1) t B m d ∧ Ib w3 (w.heap.size + 1 + 1) u C l e ∧ Ib w3 (w.heap.size + 1 + 1 + 1) false none 0 0 ∧ Below w.heap.size w w3 := by
  obtain ⟨w2, hw2, IA, IB, IC, z⟩ := openi3 w s t u A B C n c m d l e
  have e1 : w2.heap.size = w.heap.size + 1 + 1 + 1 := by rw [hw2]; simp
  refine ⟨w2.alloc (.cells #[.bool false, .slice none 0 0] 27), by rw [hw2], IA.below (zba _ _), IB.below (zba _ _), IC.below (zba _ _), ?_, zup z (zba _ _)⟩
  rw [← e1]
  exact Ib.new _ _ _ _ _ _
theorem sgn_lt {x : Int} (h : x < 0) : x.sign < 0 := by rw [Int.sign_eq_neg_one_of_neg h]; omega
theorem sgn_ge {x : Int} (h : 0 ≤ x) : ¬ x.sign < 0 := by have := sign_nn h; omega
/-- What Pow answers where there is an inverse. -/
def PwiPost (x y : Int) (v : Nat) (k : Nat) (w : World) (e : Ending) (w' : World) : Prop := ∃ X, (0 ≤ X ∧ X < y ∧ X * x % y = 1 % y) ∧ ZPowPost (X ^ v % y) k w e w'
theorem PwiPost.mk {x y X : Int} {v k : Nat} {w w' : World} {e : Ending} (h : 0 ≤ X ∧ X < y ∧ X * x % y = 1 % y) (p : ZPowPost (X ^ v % y) k w e w') : PwiPost x y v k w e w' := ⟨X, h, p⟩
theorem pow_rest (x y : Int) : ∀ v : Nat, (x % y) ^ v % y = x ^ v % y
  | 0 => by simp
  | v + 1 => by rw [Int.pow_succ, Int.pow_succ, Int.mul_emod, pow_rest x y v, Int.emod_emod, ← Int.mul_emod]
end Go.Proofs.YtbcopicoldnahaaGreat
