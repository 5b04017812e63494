/-
  quincunxlaw06.few; the reference's Within; modn.Pow.
-/
import Derived.Test.YtofdbihohljmpaaModB
import Derived.Test.YtofdbihohljmpaaModC
import Derived.Test.YtofdbihohljmpaaAwk6
/-! Contracts: quincunxlaw06.few, quincunxref06.Within, modn.Pow. -/
namespace Go.Proofs.Ytofdbihohljmpaa
open Go.RowKit
set_option linter.unusedVariables false
set_option linter.unusedSimpArgs false

/-- quincunxlaw06.few. -/
theorem mfew_v {A B C : Option Addr} {n m l c d e' : Nat} {s t u b : Bool} {k : Nat} {w : World} (hn : n ≤ 9223372036854775807) (hm : m ≤ 9223372036854775807) (hl : l ≤ 9223372036854775807) (hk : k ≤ 100) (hb : decide (n ≤ k ∧ m ≤ k ∧ l ≤ k) = b) :
    Calls Try.prog 6 #[.agg #[.bool s, .slice A n c], .agg #[.bool t, .slice B m d], .agg #[.bool u, .slice C l e'], .int .i64 k] w fun e w' => e = .returned (.bool b) ∧ Below w.heap.size w w' := by
  have z0 := zba3 w (.cells #[.bool s, .slice A n c] 25) (.cells #[.bool t, .slice B m d] 25) (.cells #[.bool u, .slice C l e'] 25)
  have HZ := Lib.hid z0
  clear z0
  by_cases h1 : n ≤ k
  · by_cases h2 : m ≤ k
    · by_cases h3 : l ≤ k
      · obtain rfl : b = true := by rw [← hb, decide_eq_true_iff]; exact ⟨h1, h2, h3⟩
        clear hb
        go_enter Try.func6, Try.ntmps6
        go_wp2_with fail
        go_ret
        exact ⟨rfl, HZ.out⟩
      · obtain rfl : b = false := by rw [← hb, decide_eq_false_iff_not]; omega
        clear hb
        go_enter Try.func6, Try.ntmps6
        go_wp2_with fail
        go_ret
        exact ⟨rfl, HZ.out⟩
    · obtain rfl : b = false := by rw [← hb, decide_eq_false_iff_not]; omega
      clear hb
      go_enter Try.func6, Try.ntmps6
      go_wp2_with fail
      go_ret
      exact ⟨rfl, HZ.out⟩
  · obtain rfl : b = false := by rw [← hb, decide_eq_false_iff_not]; omega
    clear hb
    go_enter Try.func6, Try.ntmps6
    go_wp2_with fail
    go_ret
    exact ⟨rfl, HZ.out⟩
theorem sign_nn {x : Int} (h : 0 ≤ x) : 0 ≤ x.sign := by
  rcases Int.lt_or_eq_of_le h with h | h
  · rw [Int.sign_eq_one_of_pos h]; omega
  · rw [← h]; decide
set_option maxHeartbeats 2000000 in
/-- quincunxref06.Within, of what is. -/
theorem rwithin_v {A B : Option Addr} {n m c d : Nat} {s t : Bool} {x y : Int} {w : World} (hx : Zv w s A n c x) (hy : Zv w t B m d y) (hn : n ≤ 100000000) (hm : m ≤ 100000000) (h0 : 0 ≤ x) (h1 : x < y) :
    Calls Try.prog 10 #[.agg #[.bool s, .slice A n c], .agg #[.bool t, .slice B m d]] w (TruePost w) := by
  obtain ⟨w3, hw3, IA, IB, z0⟩ := open2 w s t A B n c m d
  have HW := Lib.hid hw3.symm
  replace hx := hx.below z0
  replace hy := hy.below z0
  have hW := z0
  have H_a := Lib.hid IA
  have H_b := Lib.hid IB
  obtain ⟨sx, hsx⟩ : ∃ r, x.sign = r := ⟨_, rfl⟩
  have hs0 : 0 ≤ sx := by rw [← hsx]; exact sign_nn h0
  have b1 : decide (0 ≤ sx) = true := decide_eq_true hs0
  have HSX := Lib.hid hsx
  have HCM : Hid ((x - y).sign = -1) := Lib.hid (Int.sign_eq_neg_one_of_neg (by omega))
  clear hw3 IA IB z0 hsx
  go_enter Try.func10, Try.ntmps10
  obtain ⟨a1, a2, a3, a4, a5⟩ := H_a.out
  obtain ⟨b1, b2, b3, b4, b5⟩ := H_b.out
  go_wp2_with fail
  rw [HW.out]
  clear a1 a2 a3 a4 a5 b1 b2 b3 b4 b5
  refine (rfrom_v hx (by omega)).mono ?_
  rintro e w21 ⟨s21, A21, n21, c21, rfl, px, k21, B21⟩
  replace H_a := Lib.hid (H_a.out.below B21)
  replace H_b := Lib.hid (H_b.out.below B21)
  replace hx := hx.below B21
  replace hy := hy.below B21
  replace hW := hW.trans (B21.mono hW.size)
  clear B21
  have z22 := zba w21 (.cells #[.bool s21, .slice A21 n21 c21] 46)
  obtain ⟨w22, hw22⟩ : ∃ w', w' = w21.alloc (.cells #[.bool s21, .slice A21 n21 c21] 46) := ⟨_, rfl⟩
  have I22 : Ib w22 w21.heap.size s21 A21 n21 c21 := by rw [hw22]; exact Ib.new _ _ _ _ _ _
  rw [← hw22] at z22
  have HW22 := Lib.hid hw22.symm
  have O_a := H_a
  have lt_a_x : w.heap.size < w21.heap.size := H_a.out.2.2.2.2
  have O_b := H_b
  have lt_b_x : (w.heap.size + 1) < w21.heap.size := H_b.out.2.2.2.2
  have lw_x : w.heap.size ≤ w21.heap.size := hW.size
  replace H_a := Lib.hid (H_a.out.below z22)
  replace H_b := Lib.hid (H_b.out.below z22)
  replace hx := hx.below z22
  replace hy := hy.below z22
  replace px := px.below z22
  replace hW := hW.trans (z22.mono hW.size)
  have H_x := Lib.hid I22
  clear z22 hw22 I22
  obtain ⟨a1, a2, a3, a4, a5⟩ := O_a.out
  obtain ⟨b1, b2, b3, b4, b5⟩ := O_b.out
  go_wp2_with fail
  rw [HW22.out]
  clear a1 a2 a3 a4 a5 b1 b2 b3 b4 b5 O_a O_b
  obtain ⟨a1, a2, a3, a4, a5⟩ := H_a.out
  obtain ⟨b1, b2, b3, b4, b5⟩ := H_b.out
  obtain ⟨x1, x2, x3, x4, x5⟩ := H_x.out
  go_region_held3 (fun w' => w'.cell? ⟨w.heap.size, 0, none⟩ = some (.bool s) ∧ w'.cell? ⟨w.heap.size, 1, none⟩ = some (.slice A n c) ∧ w'.cell? ⟨(w.heap.size + 1), 0, none⟩ = some (.bool t) ∧ w'.cell? ⟨(w.heap.size + 1), 1, none⟩ = some (.slice B m d) ∧ w'.cell? ⟨w21.heap.size, 0, none⟩ = some (.bool s21) ∧ w'.cell? ⟨w21.heap.size, 1, none⟩ = some (.slice A21 n21 c21)) (go_keep) (first
    | (go_at_call 22; (with_reducible refine (rsign_v (px.below (below_drew _)) HSX.out).mono ?_); rintro e w23 ⟨rfl, B23⟩; have Q23 := zup (below_drew _) B23; obtain ⟨ax23, ay23, af23, ag23, az23⟩ := H_a.out.below Q23; obtain ⟨bx23, by23, bf23, bg23, bz23⟩ := H_b.out.below Q23; obtain ⟨xx23, xy23, xf23, xg23, xz23⟩ := H_x.out.below Q23)
    | (go_at_call 21; (with_reducible refine (rfrom_v (hy.below Q23) (by omega)).mono ?_); rintro e w24 ⟨s24, A24, n24, c24, rfl, p24, k24, B24⟩; have Q24 := zup Q23 B24; obtain ⟨ax24, ay24, af24, ag24, az24⟩ := H_a.out.below Q24; obtain ⟨bx24, by24, bf24, bg24, bz24⟩ := H_b.out.below Q24; obtain ⟨xx24, xy24, xf24, xg24, xz24⟩ := H_x.out.below Q24)
    | (go_at_call 23; (with_reducible refine (rcmp2_v (px.below Q24) p24 (by omega) (by omega) HCM.out).mono ?_); rintro e w25 ⟨rfl, B25⟩; have Q25 := zup Q24 B25; obtain ⟨ax25, ay25, af25, ag25, az25⟩ := H_a.out.below Q25; obtain ⟨bx25, by25, bf25, bg25, bz25⟩ := H_b.out.below Q25; obtain ⟨xx25, xy25, xf25, xg25, xz25⟩ := H_x.out.below Q25)
    | fail)
  clear a1 a2 a3 a4 a5 b1 b2 b3 b4 b5 x1 x2 x3 x4 x5 ax23 ay23 af23 ag23 az23 bx23 by23 bf23 bg23 bz23 xx23 xy23 xf23 xg23 xz23 ax24 ay24 af24 ag24 az24 bx24 by24 bf24 bg24 bz24 xx24 xy24 xf24 xg24 xz24 ax25 ay25 af25 ag25 az25 bx25 by25 bf25 bg25 bz25 xx25 xy25 xf25 xg25 xz25
  replace H_a := Lib.hid (H_a.out.below Q25)
  replace H_b := Lib.hid (H_b.out.below Q25)
  replace H_x := Lib.hid (H_x.out.below Q25)
  replace hx := hx.below Q25
  replace hy := hy.below Q25
  replace px := px.below Q25
  replace hW := hW.trans (Q25.mono hW.size)
  clear B23 Q23 B24 Q24 B25 Q25 p24
  go_wp2_with fail
  go_ret
  exact ⟨rfl, hW⟩
/-- Three whole numbers, and a result, in new memory. -/
theorem opens4 (w : World) (s t u : Bool) (A B C : Option Addr) (n c m d l e : Nat) :
    ∃ w3, w3 = ((((w.alloc (.cells #[.bool s, .slice A n c] 25)).alloc (.cells #[.bool t, .slice B m d] 25)).alloc (.cells #[.bool u, .slice C l e] 25)).alloc (.cells #[.bool false, .slice none 0 0] 25)) ∧
      Ib w3 w.heap.size s A n c ∧ Ib w3 (w.heap.size + 1) t B m d ∧ Ib w3 (w.heap.size + 1 + 1) u C l e ∧ Ib w3 (w.heap.size + 1 + 1 + 1) false none 0 0 ∧ Below w.heap.size w w3 := by
  obtain ⟨w2, hw2, IA, IB, IC, z⟩ := openi3 w s t u A B C n c m d l e
  have e1 : w2.heap.size = w.heap.size + 1 + 1 + 1 := by rw [hw2]; simp
  refine ⟨w2.alloc (.cells #[.bool false, .slice none 0 0] 25), by rw [hw2], IA.below (zba _ _), IB.below (zba _ _), IC.below (zba _ _), ?_, zup z (zba _ _)⟩
  rw [← e1]
  exact Ib.new _ _ _ _ _ _
theorem sgn_lt {x : Int} (h : x < 0) : x.sign < 0 := by rw [Int.sign_eq_neg_one_of_neg h]; omega
theorem sgn_ge {x : Int} (h : 0 ≤ x) : ¬ x.sign < 0 := by have := sign_nn h; omega
/-- What Pow answers where there is an inverse. -/
def PwiPost (x y : Int) (v : Nat) (k : Nat) (w : World) (e : Ending) (w' : World) : Prop := ∃ X, (0 ≤ X ∧ X < y ∧ X * x % y = 1 % y) ∧ ZPowPost (X ^ v % y) k w e w'
theorem PwiPost.mk {x y X : Int} {v k : Nat} {w w' : World} {e : Ending} (h : 0 ≤ X ∧ X < y ∧ X * x % y = 1 % y) (p : ZPowPost (X ^ v % y) k w e w') : PwiPost x y v k w e w' := ⟨X, h, p⟩
theorem pow_rest (x y : Int) : ∀ v : Nat, (x % y) ^ v % y = x ^ v % y
  | 0 => by simp
  | v + 1 => by rw [Int.pow_succ, Int.pow_succ, Int.mul_emod, pow_rest x y v, Int.emod_emod, ← Int.mul_emod]
set_option maxHeartbeats 2000000 in
/-- modn.Pow. -/
theorem pow_nopos {A E B : Option Addr} {n c l f m d : Nat} {s u t : Bool} {x e y : Int} {w : World} (hx : Zv w s A n c x) (he : Zv w u E l f e) (hy : Zv w t B m d y) (hn : n ≤ 17179869184) (hl : l ≤ 17179869184) (hm : m ≤ 17179869184) (hs : 0 ≤ e) (h0 : y ≤ 0) :
    Calls Try.prog 15 #[.agg #[.bool s, .slice A n c], .agg #[.bool u, .slice E l f], .agg #[.bool t, .slice B m d]] w (ZNoPost w) := by
  obtain ⟨w3, hw3, IA, IE, IB, IR, z0⟩ := opens4 w s u t A E B n c l f m d
  have HW := Lib.hid hw3.symm
  replace hx := hx.below z0
  replace he := he.below z0
  replace hy := hy.below z0
  have hW := z0
  have H_a := Lib.hid IA
  have H_e := Lib.hid IE
  have H_b := Lib.hid IB
  have H_r := Lib.hid IR
  obtain ⟨se, hse⟩ : ∃ r, e.sign = r := ⟨_, rfl⟩
  have HSE := Lib.hid hse
  have hs1 : ¬ se < 0 := by rw [← hse]; exact sgn_ge hs
  have b1 : decide (se < 0) = false := decide_eq_false hs1
  clear hw3 IA IE IB IR z0 hse
  go_enter Try.func15, Try.ntmps15
  obtain ⟨a1, a2, a3, a4, a5⟩ := H_a.out
  obtain ⟨e1, e2, e3, e4, e5⟩ := H_e.out
  obtain ⟨b1, b2, b3, b4, b5⟩ := H_b.out
  obtain ⟨r1, r2, r3, r4, r5⟩ := H_r.out
  go_wp2_with fail
  rw [HW.out]
  clear a1 a2 a3 a4 a5 e1 e2 e3 e4 e5 b1 b2 b3 b4 b5 r1 r2 r3 r4 r5
  refine (zsign_v he (by omega) HSE.out).mono ?_
  rintro e w21 ⟨rfl, B21⟩
  replace H_a := Lib.hid (H_a.out.below B21)
  replace H_e := Lib.hid (H_e.out.below B21)
  replace H_b := Lib.hid (H_b.out.below B21)
  replace H_r := Lib.hid (H_r.out.below B21)
  replace hx := hx.below B21
  replace he := he.below B21
  replace hy := hy.below B21
  replace hW := hW.trans (B21.mono hW.size)
  clear B21
  obtain ⟨a1, a2, a3, a4, a5⟩ := H_a.out
  obtain ⟨e1, e2, e3, e4, e5⟩ := H_e.out
  obtain ⟨b1, b2, b3, b4, b5⟩ := H_b.out
  obtain ⟨r1, r2, r3, r4, r5⟩ := H_r.out
  go_wp2_with fail
  clear a1 a2 a3 a4 a5 e1 e2 e3 e4 e5 b1 b2 b3 b4 b5 r1 r2 r3 r4 r5
  refine (mod_no hx hy (by omega) (by omega) h0).mono ?_
  rintro e w22 ⟨rfl, B22⟩
  replace H_a := Lib.hid (H_a.out.below B22)
  replace H_e := Lib.hid (H_e.out.below B22)
  replace H_b := Lib.hid (H_b.out.below B22)
  replace H_r := Lib.hid (H_r.out.below B22)
  replace hx := hx.below B22
  replace he := he.below B22
  replace hy := hy.below B22
  replace hW := hW.trans (B22.mono hW.size)
  clear B22
  have P := Lib.hid ((zfin2no (w := w) H_r.out (by omega) hW).more (zba _ (.cells #[.bool false, .slice none 0 0] 25)))
  have J := Lib.hid ((Ib.own (t := false) (B := none) (m := 0) (d := 0) H_r.out).below (zba _ (.cells #[.bool false, .slice none 0 0] 25)))
  obtain ⟨a1, a2, a3, a4, a5⟩ := H_a.out
  obtain ⟨e1, e2, e3, e4, e5⟩ := H_e.out
  obtain ⟨b1, b2, b3, b4, b5⟩ := H_b.out
  obtain ⟨r1, r2, r3, r4, r5⟩ := H_r.out
  go_wp2_with fail
  clear r1 r2 r3 r4 r5
  obtain ⟨r1, r2, r3, r4, r5⟩ := J.out
  unfold zput at r1 r2
  exact bodyPost_ret (v := .tuple #[.agg #[.bool false, .slice none 0 0], .bool false]) (by simp [results, Try.results15, go_sem, r1, r2]) rfl P.out
set_option maxHeartbeats 2000000 in
/-- modn.Pow. -/
theorem pow_noneg {A E B : Option Addr} {n c l f m d : Nat} {s u t : Bool} {x e y : Int} {w : World} (hx : Zv w s A n c x) (he : Zv w u E l f e) (hy : Zv w t B m d y) (hn : n ≤ 17179869184) (hl : l ≤ 17179869184) (hm : m ≤ 17179869184) (hs : e < 0) (h0 : y ≤ 0) :
    Calls Try.prog 15 #[.agg #[.bool s, .slice A n c], .agg #[.bool u, .slice E l f], .agg #[.bool t, .slice B m d]] w (ZNoPost w) := by
  obtain ⟨w3, hw3, IA, IE, IB, IR, z0⟩ := opens4 w s u t A E B n c l f m d
  have HW := Lib.hid hw3.symm
  replace hx := hx.below z0
  replace he := he.below z0
  replace hy := hy.below z0
  have hW := z0
  have H_a := Lib.hid IA
  have H_e := Lib.hid IE
  have H_b := Lib.hid IB
  have H_r := Lib.hid IR
  obtain ⟨se, hse⟩ : ∃ r, e.sign = r := ⟨_, rfl⟩
  have HSE := Lib.hid hse
  have hs1 : se < 0 := by rw [← hse]; exact sgn_lt hs
  have b1 : decide (se < 0) = true := decide_eq_true hs1
  clear hw3 IA IE IB IR z0 hse
  go_enter Try.func15, Try.ntmps15
  obtain ⟨a1, a2, a3, a4, a5⟩ := H_a.out
  obtain ⟨e1, e2, e3, e4, e5⟩ := H_e.out
  obtain ⟨b1, b2, b3, b4, b5⟩ := H_b.out
  obtain ⟨r1, r2, r3, r4, r5⟩ := H_r.out
  go_wp2_with fail
  rw [HW.out]
  clear a1 a2 a3 a4 a5 e1 e2 e3 e4 e5 b1 b2 b3 b4 b5 r1 r2 r3 r4 r5
  refine (zsign_v he (by omega) HSE.out).mono ?_
  rintro e w21 ⟨rfl, B21⟩
  replace H_a := Lib.hid (H_a.out.below B21)
  replace H_e := Lib.hid (H_e.out.below B21)
  replace H_b := Lib.hid (H_b.out.below B21)
  replace H_r := Lib.hid (H_r.out.below B21)
  replace hx := hx.below B21
  replace he := he.below B21
  replace hy := hy.below B21
  replace hW := hW.trans (B21.mono hW.size)
  clear B21
  obtain ⟨a1, a2, a3, a4, a5⟩ := H_a.out
  obtain ⟨e1, e2, e3, e4, e5⟩ := H_e.out
  obtain ⟨b1, b2, b3, b4, b5⟩ := H_b.out
  obtain ⟨r1, r2, r3, r4, r5⟩ := H_r.out
  go_wp2_with fail
  clear a1 a2 a3 a4 a5 e1 e2 e3 e4 e5 b1 b2 b3 b4 b5 r1 r2 r3 r4 r5
  refine (inv_bad hx hy (by omega) (by omega) h0).mono ?_
  rintro e w22 ⟨rfl, B22⟩
  replace H_a := Lib.hid (H_a.out.below B22)
  replace H_e := Lib.hid (H_e.out.below B22)
  replace H_b := Lib.hid (H_b.out.below B22)
  replace H_r := Lib.hid (H_r.out.below B22)
  replace hx := hx.below B22
  replace he := he.below B22
  replace hy := hy.below B22
  replace hW := hW.trans (B22.mono hW.size)
  clear B22
  have P := Lib.hid ((zfin2no (w := w) H_r.out (by omega) hW).more (zba _ (.cells #[.bool false, .slice none 0 0] 25)))
  have J := Lib.hid ((Ib.own (t := false) (B := none) (m := 0) (d := 0) H_r.out).below (zba _ (.cells #[.bool false, .slice none 0 0] 25)))
  obtain ⟨a1, a2, a3, a4, a5⟩ := H_a.out
  obtain ⟨e1, e2, e3, e4, e5⟩ := H_e.out
  obtain ⟨b1, b2, b3, b4, b5⟩ := H_b.out
  obtain ⟨r1, r2, r3, r4, r5⟩ := H_r.out
  go_wp2_with fail
  clear r1 r2 r3 r4 r5
  obtain ⟨r1, r2, r3, r4, r5⟩ := J.out
  unfold zput at r1 r2
  exact bodyPost_ret (v := .tuple #[.agg #[.bool false, .slice none 0 0], .bool false]) (by simp [results, Try.results15, go_sem, r1, r2]) rfl P.out
set_option maxHeartbeats 2000000 in
/-- modn.Pow. -/
theorem pow_noinv {A E B : Option Addr} {n c l f m d : Nat} {s u t : Bool} {x e y : Int} {w : World} (hx : Zv w s A n c x) (he : Zv w u E l f e) (hy : Zv w t B m d y) (hn : n ≤ 17179869184) (hl : l ≤ 17179869184) (hm : m ≤ 17179869184) (hs : e < 0) (h0 : 0 < y) (h1 : Nat.gcd x.natAbs y.natAbs ≠ 1) :
    Calls Try.prog 15 #[.agg #[.bool s, .slice A n c], .agg #[.bool u, .slice E l f], .agg #[.bool t, .slice B m d]] w (ZNoPost w) := by
  obtain ⟨w3, hw3, IA, IE, IB, IR, z0⟩ := opens4 w s u t A E B n c l f m d
  have HW := Lib.hid hw3.symm
  replace hx := hx.below z0
  replace he := he.below z0
  replace hy := hy.below z0
  have hW := z0
  have H_a := Lib.hid IA
  have H_e := Lib.hid IE
  have H_b := Lib.hid IB
  have H_r := Lib.hid IR
  obtain ⟨se, hse⟩ : ∃ r, e.sign = r := ⟨_, rfl⟩
  have HSE := Lib.hid hse
  have hs1 : se < 0 := by rw [← hse]; exact sgn_lt hs
  have b1 : decide (se < 0) = true := decide_eq_true hs1
  have HG1 := Lib.hid h1
  clear h1
  clear hw3 IA IE IB IR z0 hse
  go_enter Try.func15, Try.ntmps15
  obtain ⟨a1, a2, a3, a4, a5⟩ := H_a.out
  obtain ⟨e1, e2, e3, e4, e5⟩ := H_e.out
  obtain ⟨b1, b2, b3, b4, b5⟩ := H_b.out
  obtain ⟨r1, r2, r3, r4, r5⟩ := H_r.out
  go_wp2_with fail
  rw [HW.out]
  clear a1 a2 a3 a4 a5 e1 e2 e3 e4 e5 b1 b2 b3 b4 b5 r1 r2 r3 r4 r5
  refine (zsign_v he (by omega) HSE.out).mono ?_
  rintro e w21 ⟨rfl, B21⟩
  replace H_a := Lib.hid (H_a.out.below B21)
  replace H_e := Lib.hid (H_e.out.below B21)
  replace H_b := Lib.hid (H_b.out.below B21)
  replace H_r := Lib.hid (H_r.out.below B21)
  replace hx := hx.below B21
  replace he := he.below B21
  replace hy := hy.below B21
  replace hW := hW.trans (B21.mono hW.size)
  clear B21
  obtain ⟨a1, a2, a3, a4, a5⟩ := H_a.out
  obtain ⟨e1, e2, e3, e4, e5⟩ := H_e.out
  obtain ⟨b1, b2, b3, b4, b5⟩ := H_b.out
  obtain ⟨r1, r2, r3, r4, r5⟩ := H_r.out
  go_wp2_with fail
  clear a1 a2 a3 a4 a5 e1 e2 e3 e4 e5 b1 b2 b3 b4 b5 r1 r2 r3 r4 r5
  refine (inv_no hx hy (by omega) (by omega) h0 HG1.out).mono ?_
  rintro e w22 ⟨rfl, B22⟩
  replace H_a := Lib.hid (H_a.out.below B22)
  replace H_e := Lib.hid (H_e.out.below B22)
  replace H_b := Lib.hid (H_b.out.below B22)
  replace H_r := Lib.hid (H_r.out.below B22)
  replace hx := hx.below B22
  replace he := he.below B22
  replace hy := hy.below B22
  replace hW := hW.trans (B22.mono hW.size)
  clear B22
  have P := Lib.hid ((zfin2no (w := w) H_r.out (by omega) hW).more (zba _ (.cells #[.bool false, .slice none 0 0] 25)))
  have J := Lib.hid ((Ib.own (t := false) (B := none) (m := 0) (d := 0) H_r.out).below (zba _ (.cells #[.bool false, .slice none 0 0] 25)))
  obtain ⟨a1, a2, a3, a4, a5⟩ := H_a.out
  obtain ⟨e1, e2, e3, e4, e5⟩ := H_e.out
  obtain ⟨b1, b2, b3, b4, b5⟩ := H_b.out
  obtain ⟨r1, r2, r3, r4, r5⟩ := H_r.out
  go_wp2_with fail
  clear r1 r2 r3 r4 r5
  obtain ⟨r1, r2, r3, r4, r5⟩ := J.out
  unfold zput at r1 r2
  exact bodyPost_ret (v := .tuple #[.agg #[.bool false, .slice none 0 0], .bool false]) (by simp [results, Try.results15, go_sem, r1, r2]) rfl P.out
set_option maxHeartbeats 2000000 in
/-- modn.Pow. -/
theorem pow_yespos {A E B : Option Addr} {n c l f m d : Nat} {s u t : Bool} {x e y : Int} {w : World} (hx : Zv w s A n c x) (he : Zv w u E l f e) (hy : Zv w t B m d y) (hn : n ≤ 17179869184) (hl : l ≤ 17179869184) (hm : m ≤ 17179869184) (hs : 0 ≤ e) (h0 : 0 < y) :
    Calls Try.prog 15 #[.agg #[.bool s, .slice A n c], .agg #[.bool u, .slice E l f], .agg #[.bool t, .slice B m d]] w (ZPowPost (x ^ e.natAbs % y) m w) := by
  obtain ⟨w3, hw3, IA, IE, IB, IR, z0⟩ := opens4 w s u t A E B n c l f m d
  have HW := Lib.hid hw3.symm
  replace hx := hx.below z0
  replace he := he.below z0
  replace hy := hy.below z0
  have hW := z0
  have H_a := Lib.hid IA
  have H_e := Lib.hid IE
  have H_b := Lib.hid IB
  have H_r := Lib.hid IR
  obtain ⟨se, hse⟩ : ∃ r, e.sign = r := ⟨_, rfl⟩
  have HSE := Lib.hid hse
  have hs1 : ¬ se < 0 := by rw [← hse]; exact sgn_ge hs
  have b1 : decide (se < 0) = false := decide_eq_false hs1
  clear hw3 IA IE IB IR z0 hse
  go_enter Try.func15, Try.ntmps15
  obtain ⟨a1, a2, a3, a4, a5⟩ := H_a.out
  obtain ⟨e1, e2, e3, e4, e5⟩ := H_e.out
  obtain ⟨b1, b2, b3, b4, b5⟩ := H_b.out
  obtain ⟨r1, r2, r3, r4, r5⟩ := H_r.out
  go_wp2_with fail
  rw [HW.out]
  clear a1 a2 a3 a4 a5 e1 e2 e3 e4 e5 b1 b2 b3 b4 b5 r1 r2 r3 r4 r5
  refine (zsign_v he (by omega) HSE.out).mono ?_
  rintro e w21 ⟨rfl, B21⟩
  replace H_a := Lib.hid (H_a.out.below B21)
  replace H_e := Lib.hid (H_e.out.below B21)
  replace H_b := Lib.hid (H_b.out.below B21)
  replace H_r := Lib.hid (H_r.out.below B21)
  replace hx := hx.below B21
  replace he := he.below B21
  replace hy := hy.below B21
  replace hW := hW.trans (B21.mono hW.size)
  clear B21
  obtain ⟨a1, a2, a3, a4, a5⟩ := H_a.out
  obtain ⟨e1, e2, e3, e4, e5⟩ := H_e.out
  obtain ⟨b1, b2, b3, b4, b5⟩ := H_b.out
  obtain ⟨r1, r2, r3, r4, r5⟩ := H_r.out
  go_wp2_with fail
  clear a1 a2 a3 a4 a5 e1 e2 e3 e4 e5 b1 b2 b3 b4 b5 r1 r2 r3 r4 r5
  refine (mod_yes hx hy (by omega) (by omega) h0).mono ?_
  rintro e w22 ⟨s22, A22, n22, c22, rfl, pb, k22, B22⟩
  replace H_a := Lib.hid (H_a.out.below B22)
  replace H_e := Lib.hid (H_e.out.below B22)
  replace H_b := Lib.hid (H_b.out.below B22)
  replace H_r := Lib.hid (H_r.out.below B22)
  replace hx := hx.below B22
  replace he := he.below B22
  replace hy := hy.below B22
  replace hW := hW.trans (B22.mono hW.size)
  clear B22
  have z23 := zba w22 (.cells #[.bool s22, .slice A22 n22 c22] 25)
  obtain ⟨w23, hw23⟩ : ∃ w', w' = w22.alloc (.cells #[.bool s22, .slice A22 n22 c22] 25) := ⟨_, rfl⟩
  have I23 : Ib w23 w22.heap.size s22 A22 n22 c22 := by rw [hw23]; exact Ib.new _ _ _ _ _ _
  rw [← hw23] at z23
  have HW23 := Lib.hid hw23.symm
  have O_a := H_a
  have lt_a_q : w.heap.size < w22.heap.size := H_a.out.2.2.2.2
  have O_e := H_e
  have lt_e_q : (w.heap.size + 1) < w22.heap.size := H_e.out.2.2.2.2
  have O_b := H_b
  have lt_b_q : (w.heap.size + 1 + 1) < w22.heap.size := H_b.out.2.2.2.2
  have O_r := H_r
  have lt_r_q : (w.heap.size + 1 + 1 + 1) < w22.heap.size := H_r.out.2.2.2.2
  have lw_q : w.heap.size ≤ w22.heap.size := hW.size
  replace H_a := Lib.hid (H_a.out.below z23)
  replace H_e := Lib.hid (H_e.out.below z23)
  replace H_b := Lib.hid (H_b.out.below z23)
  replace H_r := Lib.hid (H_r.out.below z23)
  replace hx := hx.below z23
  replace he := he.below z23
  replace hy := hy.below z23
  replace pb := pb.below z23
  replace hW := hW.trans (z23.mono hW.size)
  have H_q := Lib.hid I23
  clear z23 hw23 I23
  have hev := he.abs.1
  obtain ⟨a1, a2, a3, a4, a5⟩ := O_a.out
  obtain ⟨e1, e2, e3, e4, e5⟩ := O_e.out
  obtain ⟨b1, b2, b3, b4, b5⟩ := O_b.out
  obtain ⟨r1, r2, r3, r4, r5⟩ := O_r.out
  go_wp2_with fail
  rw [HW23.out]
  clear a1 a2 a3 a4 a5 e1 e2 e3 e4 e5 b1 b2 b3 b4 b5 r1 r2 r3 r4 r5 O_a O_e O_b O_r
  refine (power_v pb.zv hev hy (by omega) (by omega) (by omega) h0).mono ?_
  rintro e w24 ⟨s24, A24, n24, c24, rfl, pp, k24, B24⟩
  replace H_a := Lib.hid (H_a.out.below B24)
  replace H_e := Lib.hid (H_e.out.below B24)
  replace H_b := Lib.hid (H_b.out.below B24)
  replace H_r := Lib.hid (H_r.out.below B24)
  replace H_q := Lib.hid (H_q.out.below B24)
  replace hx := hx.below B24
  replace he := he.below B24
  replace hy := hy.below B24
  replace pb := pb.below B24
  replace hev := hev.below B24
  replace hW := hW.trans (B24.mono hW.size)
  clear B24
  rw [pow_rest] at pp
  have P := Lib.hid (zfin2 (w := w) pp H_r.out (k := m) (by omega) (by omega) hW)
  obtain ⟨a1, a2, a3, a4, a5⟩ := H_a.out
  obtain ⟨e1, e2, e3, e4, e5⟩ := H_e.out
  obtain ⟨b1, b2, b3, b4, b5⟩ := H_b.out
  obtain ⟨r1, r2, r3, r4, r5⟩ := H_r.out
  obtain ⟨q1, q2, q3, q4, q5⟩ := H_q.out
  go_wp2_with fail
  exact bodyPost_ret (v := .tuple #[.agg #[.bool s24, .slice A24 n24 c24], .bool true]) (by simp [results, Try.results15, go_sem, r1, r2]) rfl P.out
set_option maxHeartbeats 2000000 in
/-- modn.Pow. -/
theorem pow_yesneg {A E B : Option Addr} {n c l f m d : Nat} {s u t : Bool} {x e y : Int} {w : World} (hx : Zv w s A n c x) (he : Zv w u E l f e) (hy : Zv w t B m d y) (hn : n ≤ 17179869184) (hl : l ≤ 17179869184) (hm : m ≤ 17179869184) (hs : e < 0) (h0 : 0 < y) (h1 : Nat.gcd x.natAbs y.natAbs = 1) :
    Calls Try.prog 15 #[.agg #[.bool s, .slice A n c], .agg #[.bool u, .slice E l f], .agg #[.bool t, .slice B m d]] w (PwiPost x y e.natAbs m w) := by
  obtain ⟨w3, hw3, IA, IE, IB, IR, z0⟩ := opens4 w s u t A E B n c l f m d
  have HW := Lib.hid hw3.symm
  replace hx := hx.below z0
  replace he := he.below z0
  replace hy := hy.below z0
  have hW := z0
  have H_a := Lib.hid IA
  have H_e := Lib.hid IE
  have H_b := Lib.hid IB
  have H_r := Lib.hid IR
  obtain ⟨se, hse⟩ : ∃ r, e.sign = r := ⟨_, rfl⟩
  have HSE := Lib.hid hse
  have hs1 : se < 0 := by rw [← hse]; exact sgn_lt hs
  have b1 : decide (se < 0) = true := decide_eq_true hs1
  have HG1 := Lib.hid h1
  clear h1
  clear hw3 IA IE IB IR z0 hse
  go_enter Try.func15, Try.ntmps15
  obtain ⟨a1, a2, a3, a4, a5⟩ := H_a.out
  obtain ⟨e1, e2, e3, e4, e5⟩ := H_e.out
  obtain ⟨b1, b2, b3, b4, b5⟩ := H_b.out
  obtain ⟨r1, r2, r3, r4, r5⟩ := H_r.out
  go_wp2_with fail
  rw [HW.out]
  clear a1 a2 a3 a4 a5 e1 e2 e3 e4 e5 b1 b2 b3 b4 b5 r1 r2 r3 r4 r5
  refine (zsign_v he (by omega) HSE.out).mono ?_
  rintro e w21 ⟨rfl, B21⟩
  replace H_a := Lib.hid (H_a.out.below B21)
  replace H_e := Lib.hid (H_e.out.below B21)
  replace H_b := Lib.hid (H_b.out.below B21)
  replace H_r := Lib.hid (H_r.out.below B21)
  replace hx := hx.below B21
  replace he := he.below B21
  replace hy := hy.below B21
  replace hW := hW.trans (B21.mono hW.size)
  clear B21
  obtain ⟨a1, a2, a3, a4, a5⟩ := H_a.out
  obtain ⟨e1, e2, e3, e4, e5⟩ := H_e.out
  obtain ⟨b1, b2, b3, b4, b5⟩ := H_b.out
  obtain ⟨r1, r2, r3, r4, r5⟩ := H_r.out
  go_wp2_with fail
  clear a1 a2 a3 a4 a5 e1 e2 e3 e4 e5 b1 b2 b3 b4 b5 r1 r2 r3 r4 r5
  refine (inv_yes hx hy (by omega) (by omega) h0 HG1.out).mono ?_
  rintro e w22 ⟨X, ⟨s22, A22, n22, c22, rfl, pb, k22, B22⟩, HX⟩
  replace H_a := Lib.hid (H_a.out.below B22)
  replace H_e := Lib.hid (H_e.out.below B22)
  replace H_b := Lib.hid (H_b.out.below B22)
  replace H_r := Lib.hid (H_r.out.below B22)
  replace hx := hx.below B22
  replace he := he.below B22
  replace hy := hy.below B22
  replace hW := hW.trans (B22.mono hW.size)
  clear B22
  have z23 := zba w22 (.cells #[.bool s22, .slice A22 n22 c22] 25)
  obtain ⟨w23, hw23⟩ : ∃ w', w' = w22.alloc (.cells #[.bool s22, .slice A22 n22 c22] 25) := ⟨_, rfl⟩
  have I23 : Ib w23 w22.heap.size s22 A22 n22 c22 := by rw [hw23]; exact Ib.new _ _ _ _ _ _
  rw [← hw23] at z23
  have HW23 := Lib.hid hw23.symm
  have O_a := H_a
  have lt_a_q : w.heap.size < w22.heap.size := H_a.out.2.2.2.2
  have O_e := H_e
  have lt_e_q : (w.heap.size + 1) < w22.heap.size := H_e.out.2.2.2.2
  have O_b := H_b
  have lt_b_q : (w.heap.size + 1 + 1) < w22.heap.size := H_b.out.2.2.2.2
  have O_r := H_r
  have lt_r_q : (w.heap.size + 1 + 1 + 1) < w22.heap.size := H_r.out.2.2.2.2
  have lw_q : w.heap.size ≤ w22.heap.size := hW.size
  replace H_a := Lib.hid (H_a.out.below z23)
  replace H_e := Lib.hid (H_e.out.below z23)
  replace H_b := Lib.hid (H_b.out.below z23)
  replace H_r := Lib.hid (H_r.out.below z23)
  replace hx := hx.below z23
  replace he := he.below z23
  replace hy := hy.below z23
  replace pb := pb.below z23
  replace hW := hW.trans (z23.mono hW.size)
  have H_q := Lib.hid I23
  clear z23 hw23 I23
  have hev := he.abs.1
  obtain ⟨a1, a2, a3, a4, a5⟩ := O_a.out
  obtain ⟨e1, e2, e3, e4, e5⟩ := O_e.out
  obtain ⟨b1, b2, b3, b4, b5⟩ := O_b.out
  obtain ⟨r1, r2, r3, r4, r5⟩ := O_r.out
  go_wp2_with fail
  rw [HW23.out]
  clear a1 a2 a3 a4 a5 e1 e2 e3 e4 e5 b1 b2 b3 b4 b5 r1 r2 r3 r4 r5 O_a O_e O_b O_r
  refine (power_v pb.zv hev hy (by omega) (by omega) (by omega) h0).mono ?_
  rintro e w24 ⟨s24, A24, n24, c24, rfl, pp, k24, B24⟩
  replace H_a := Lib.hid (H_a.out.below B24)
  replace H_e := Lib.hid (H_e.out.below B24)
  replace H_b := Lib.hid (H_b.out.below B24)
  replace H_r := Lib.hid (H_r.out.below B24)
  replace H_q := Lib.hid (H_q.out.below B24)
  replace hx := hx.below B24
  replace he := he.below B24
  replace hy := hy.below B24
  replace pb := pb.below B24
  replace hev := hev.below B24
  replace hW := hW.trans (B24.mono hW.size)
  clear B24
  have P := Lib.hid (PwiPost.mk HX.out (zfin2 (w := w) pp H_r.out (k := m) (by omega) (by omega) hW))
  obtain ⟨a1, a2, a3, a4, a5⟩ := H_a.out
  obtain ⟨e1, e2, e3, e4, e5⟩ := H_e.out
  obtain ⟨b1, b2, b3, b4, b5⟩ := H_b.out
  obtain ⟨r1, r2, r3, r4, r5⟩ := H_r.out
  obtain ⟨q1, q2, q3, q4, q5⟩ := H_q.out
  go_wp2_with fail
  exact bodyPost_ret (v := .tuple #[.agg #[.bool s24, .slice A24 n24 c24], .bool true]) (by simp [results, Try.results15, go_sem, r1, r2]) rfl P.out
end Go.Proofs.Ytofdbihohljmpaa
