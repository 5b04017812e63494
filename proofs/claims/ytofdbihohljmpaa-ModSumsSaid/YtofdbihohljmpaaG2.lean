/-
  The walk of ModSums.
-/
import Derived.Test.YtofdbihohljmpaaModD
import Derived.BigRegion
/-! The walk of ModSums. -/
namespace Go.Proofs.Ytofdbihohljmpaa
open Go.RowKit
set_option linter.unusedVariables false
set_option linter.unusedSimpArgs false

/-- Two whole numbers of a word each. -/
def CsV (w0 : World) (a b : Nat) (v7 v8 v32 v36 : Value) (wx : World) : Prop :=
  ∃ g p h q : Nat, v7 = .pointer (some ⟨g, 0, none⟩) ∧ v8 = .pointer (some ⟨h, 0, none⟩) ∧ v32 = .slice (some ⟨p, 0, none⟩) 1 1 ∧ v36 = .slice (some ⟨q, 0, none⟩) 1 1 ∧ Ib wx g false (some ⟨p, 0, none⟩) 1 1 ∧ Ib wx h false (some ⟨q, 0, none⟩) 1 1 ∧
    wx.cell? ⟨p, 0, none⟩ = some (.int .u64 (a : Int)) ∧ p < wx.heap.size ∧ wx.cell? ⟨q, 0, none⟩ = some (.int .u64 (b : Int)) ∧ q < wx.heap.size ∧ w0.heap.size ≤ g ∧ w0.heap.size ≤ h ∧ Below w0.heap.size w0 wx
theorem keepc {w W : World} {g o : Nat} {v : Value} (hb : Below w.heap.size w W) (h : w.cell? ⟨g, o, none⟩ = some v) (hg : g < w.heap.size) : W.cell? ⟨g, o, none⟩ = some v := (hb.cell (p := ⟨g, o, none⟩) hg).trans h
theorem one_word {w : World} {p a : Nat} (h : w.cell? ⟨p, 0, none⟩ = some (.int .u64 (a : Int))) (hp : p < w.heap.size) (ha : a < 18446744073709551616) : Zv w false (some ⟨p, 0, none⟩) 1 1 (a : Int) := by
  refine ⟨a, ⟨[a], fun _ => ⟨⟨p, 0, none⟩, rfl, hp, fun j hj => ?_⟩, rfl, by omega, by omega, fun k hk => ?_, by simp [ev]⟩, Lib.hid (by simp [sg])⟩
  · obtain rfl : j = 0 := by simpa using hj
    exact h
  · obtain rfl : k = 0 := by simpa using hk
    exact ha
/-- Two words in new memory. -/
def Pb (w : World) (g a b : Nat) : Prop := w.cell? ⟨g, 0, none⟩ = some (.int .u64 (a : Int)) ∧ w.cell? ⟨g, 1, none⟩ = some (.int .u64 (b : Int)) ∧ g < w.heap.size
theorem Pb.below {w w' : World} {g a b : Nat} (h : Pb w g a b) (hb : Below w.heap.size w w') : Pb w' g a b :=
  ⟨(hb.cell (p := ⟨g, 0, none⟩) h.2.2).trans h.1, (hb.cell (p := ⟨g, 1, none⟩) h.2.2).trans h.2.1, Nat.lt_of_lt_of_le h.2.2 hb.size⟩
theorem openpb (w : World) (s t : Bool) (A B : Option Addr) (n c m d a b : Nat) :
    ∃ w3, w3 = (((w.alloc (.cells #[.bool s, .slice A n c] 25)).alloc (.cells #[.bool t, .slice B m d] 25)).alloc (.cells #[.int .u64 (a : Int), .int .u64 (b : Int)] 36)) ∧
      Ib w3 w.heap.size s A n c ∧ Ib w3 (w.heap.size + 1) t B m d ∧ Pb w3 (w.heap.size + 1 + 1) a b ∧ Below w.heap.size w w3 := by
  obtain ⟨w2, hw2, IA, IB, z⟩ := open2 w s t A B n c m d
  have e1 : w2.heap.size = w.heap.size + 1 + 1 := by rw [hw2]; simp
  refine ⟨w2.alloc (.cells #[.int .u64 (a : Int), .int .u64 (b : Int)] 36), by rw [hw2], IA.below (zba _ _), IB.below (zba _ _), ?_, zup z (zba _ _)⟩
  rw [← e1]
  refine ⟨?_, ?_, ?_⟩ <;> simp [go_sem]
theorem sums_dvd (x y : Int) (a b : Nat) : decide (y ∣ x ^ a % y * (x ^ b % y) - x ^ (a + b) % y) = true := by
  refine decide_eq_true (Int.dvd_of_emod_eq_zero ?_)
  rw [← Int.emod_eq_emod_iff_emod_sub_eq_zero, ← Int.mul_emod, Int.emod_emod, Int.pow_add]
set_option maxRecDepth 100000 in
set_option maxHeartbeats 16000000 in
theorem ms_few {A B : Option Addr} {n m c d a b : Nat} {s t : Bool} {x y : Int} {w : World} (hx : Zv w s A n c x) (hy : Zv w t B m d y) (hn : n ≤ 9223372036854775807) (hm : m ≤ 9223372036854775807) (hf : ¬ (n ≤ 2 ∧ m ≤ 2)) :
    Calls Try.prog 4 #[.agg #[.bool s, .slice A n c], .agg #[.bool t, .slice B m d], .agg #[.int .u64 (a : Int), .int .u64 (b : Int)]] w (TruePost w) := by
  obtain ⟨w3, hw3, IA, IB, IP, z0⟩ := openpb w s t A B n c m d a b
  have HW := Lib.hid hw3.symm
  replace hx := hx.below z0
  replace hy := hy.below z0
  have hW := z0
  have H_a := Lib.hid IA
  have H_b := Lib.hid IB
  have hP := IP
  clear hw3 IA IB IP z0
  have HF : Hid (decide (n ≤ 2 ∧ m ≤ 2 ∧ m ≤ 2) = false) := Lib.hid (decide_eq_false fun k => hf ⟨k.1, k.2.1⟩)
  clear hf
  go_enter Try.func4, Try.ntmps4
  obtain ⟨a1, a2, a3, a4, a5⟩ := H_a.out
  obtain ⟨b1, b2, b3, b4, b5⟩ := H_b.out
  go_wp2_with fail
  rw [HW.out]
  clear a1 a2 a3 a4 a5 b1 b2 b3 b4 b5
  refine (mawake_calls _).mono ?_
  rintro e w21 ⟨rfl, B21⟩
  replace H_a := Lib.hid (H_a.out.below B21)
  replace H_b := Lib.hid (H_b.out.below B21)
  replace hx := hx.below B21
  replace hy := hy.below B21
  replace hP := hP.below B21
  replace hW := hW.trans (B21.mono hW.size)
  clear B21
  obtain ⟨a1, a2, a3, a4, a5⟩ := H_a.out
  obtain ⟨b1, b2, b3, b4, b5⟩ := H_b.out
  go_wp2_with fail
  clear a1 a2 a3 a4 a5 b1 b2 b3 b4 b5
  refine (mfew_v (k := 2) (b := false) hn hm hm (by omega) HF.out).mono ?_
  rintro e w22 ⟨rfl, B22⟩
  replace H_a := Lib.hid (H_a.out.below B22)
  replace H_b := Lib.hid (H_b.out.below B22)
  replace hx := hx.below B22
  replace hy := hy.below B22
  replace hP := hP.below B22
  replace hW := hW.trans (B22.mono hW.size)
  clear B22
  obtain ⟨a1, a2, a3, a4, a5⟩ := H_a.out
  obtain ⟨b1, b2, b3, b4, b5⟩ := H_b.out
  go_wp2_with fail
  clear a1 a2 a3 a4 a5 b1 b2 b3 b4 b5
  refine (mawake_calls _).mono ?_
  rintro e w23 ⟨rfl, B23⟩
  replace H_a := Lib.hid (H_a.out.below B23)
  replace H_b := Lib.hid (H_b.out.below B23)
  replace hx := hx.below B23
  replace hy := hy.below B23
  replace hP := hP.below B23
  replace hW := hW.trans (B23.mono hW.size)
  clear B23
  go_wp2_with fail
  go_ret
  exact ⟨rfl, hW⟩
set_option maxRecDepth 100000 in
set_option maxHeartbeats 16000000 in
theorem ms_bad {A B : Option Addr} {n m c d a b : Nat} {s t : Bool} {x y : Int} {w : World} (hx : Zv w s A n c x) (hy : Zv w t B m d y) (h1 : n ≤ 2) (h2 : m ≤ 2) (h0 : y ≤ 0) :
    Calls Try.prog 4 #[.agg #[.bool s, .slice A n c], .agg #[.bool t, .slice B m d], .agg #[.int .u64 (a : Int), .int .u64 (b : Int)]] w (TruePost w) := by
  obtain ⟨w3, hw3, IA, IB, IP, z0⟩ := openpb w s t A B n c m d a b
  have HW := Lib.hid hw3.symm
  replace hx := hx.below z0
  replace hy := hy.below z0
  have hW := z0
  have H_a := Lib.hid IA
  have H_b := Lib.hid IB
  have hP := IP
  clear hw3 IA IB IP z0
  obtain ⟨sy, hsy⟩ : ∃ r, y.sign = r := ⟨_, rfl⟩
  have hs0 : sy ≤ 0 := by
    rcases Int.lt_or_eq_of_le h0 with h | h
    · rw [← hsy, Int.sign_eq_neg_one_of_neg h]; omega
    · rw [← hsy, h]; decide
  have HSY := Lib.hid hsy
  clear hsy
  go_enter Try.func4, Try.ntmps4
  obtain ⟨a1, a2, a3, a4, a5⟩ := H_a.out
  obtain ⟨b1, b2, b3, b4, b5⟩ := H_b.out
  go_wp2_with fail
  rw [HW.out]
  clear a1 a2 a3 a4 a5 b1 b2 b3 b4 b5
  refine (mawake_calls _).mono ?_
  rintro e w21 ⟨rfl, B21⟩
  replace H_a := Lib.hid (H_a.out.below B21)
  replace H_b := Lib.hid (H_b.out.below B21)
  replace hx := hx.below B21
  replace hy := hy.below B21
  replace hP := hP.below B21
  replace hW := hW.trans (B21.mono hW.size)
  clear B21
  obtain ⟨a1, a2, a3, a4, a5⟩ := H_a.out
  obtain ⟨b1, b2, b3, b4, b5⟩ := H_b.out
  go_wp2_with fail
  clear a1 a2 a3 a4 a5 b1 b2 b3 b4 b5
  refine (mfew_v (k := 2) (b := true) (by omega) (by omega) (by omega) (by omega) (by rw [decide_eq_true_iff]; omega)).mono ?_
  rintro e w22 ⟨rfl, B22⟩
  replace H_a := Lib.hid (H_a.out.below B22)
  replace H_b := Lib.hid (H_b.out.below B22)
  replace hx := hx.below B22
  replace hy := hy.below B22
  replace hP := hP.below B22
  replace hW := hW.trans (B22.mono hW.size)
  clear B22
  obtain ⟨a1, a2, a3, a4, a5⟩ := H_a.out
  obtain ⟨b1, b2, b3, b4, b5⟩ := H_b.out
  go_wp2_with fail
  clear a1 a2 a3 a4 a5 b1 b2 b3 b4 b5
  refine (zsign_v hy (by omega) HSY.out).mono ?_
  rintro e w23 ⟨rfl, B23⟩
  replace H_a := Lib.hid (H_a.out.below B23)
  replace H_b := Lib.hid (H_b.out.below B23)
  replace hx := hx.below B23
  replace hy := hy.below B23
  replace hP := hP.below B23
  replace hW := hW.trans (B23.mono hW.size)
  clear B23
  obtain ⟨a1, a2, a3, a4, a5⟩ := H_a.out
  obtain ⟨b1, b2, b3, b4, b5⟩ := H_b.out
  go_wp2_with fail
  clear a1 a2 a3 a4 a5 b1 b2 b3 b4 b5
  refine (mawake_calls _).mono ?_
  rintro e w24 ⟨rfl, B24⟩
  replace H_a := Lib.hid (H_a.out.below B24)
  replace H_b := Lib.hid (H_b.out.below B24)
  replace hx := hx.below B24
  replace hy := hy.below B24
  replace hP := hP.below B24
  replace hW := hW.trans (B24.mono hW.size)
  clear B24
  go_wp2_with fail
  go_ret
  exact ⟨rfl, hW⟩
set_option maxRecDepth 100000 in
set_option maxHeartbeats 16000000 in
theorem ms_yes {A B : Option Addr} {n m c d a b : Nat} {s t : Bool} {x y : Int} {w : World} (hx : Zv w s A n c x) (hy : Zv w t B m d y) (h1 : n ≤ 2) (h2 : m ≤ 2) (h0 : 0 < y) (ha : a < 18446744073709551616) (hb : b < 18446744073709551616) :
    Calls Try.prog 4 #[.agg #[.bool s, .slice A n c], .agg #[.bool t, .slice B m d], .agg #[.int .u64 (a : Int), .int .u64 (b : Int)]] w (TruePost w) := by
  obtain ⟨w3, hw3, IA, IB, IP, z0⟩ := openpb w s t A B n c m d a b
  have HW := Lib.hid hw3.symm
  replace hx := hx.below z0
  replace hy := hy.below z0
  have hW := z0
  have H_a := Lib.hid IA
  have H_b := Lib.hid IB
  have hP := IP
  clear hw3 IA IB IP z0
  have HSY : Hid (y.sign = 1) := Lib.hid (Int.sign_eq_one_of_pos h0)
  go_enter Try.func4, Try.ntmps4
  obtain ⟨a1, a2, a3, a4, a5⟩ := H_a.out
  obtain ⟨b1, b2, b3, b4, b5⟩ := H_b.out
  go_wp2_with fail
  rw [HW.out]
  clear a1 a2 a3 a4 a5 b1 b2 b3 b4 b5
  refine (mawake_calls _).mono ?_
  rintro e w21 ⟨rfl, B21⟩
  replace H_a := Lib.hid (H_a.out.below B21)
  replace H_b := Lib.hid (H_b.out.below B21)
  replace hx := hx.below B21
  replace hy := hy.below B21
  replace hP := hP.below B21
  replace hW := hW.trans (B21.mono hW.size)
  clear B21
  obtain ⟨a1, a2, a3, a4, a5⟩ := H_a.out
  obtain ⟨b1, b2, b3, b4, b5⟩ := H_b.out
  go_wp2_with fail
  clear a1 a2 a3 a4 a5 b1 b2 b3 b4 b5
  refine (mfew_v (k := 2) (b := true) (by omega) (by omega) (by omega) (by omega) (by rw [decide_eq_true_iff]; omega)).mono ?_
  rintro e w22 ⟨rfl, B22⟩
  replace H_a := Lib.hid (H_a.out.below B22)
  replace H_b := Lib.hid (H_b.out.below B22)
  replace hx := hx.below B22
  replace hy := hy.below B22
  replace hP := hP.below B22
  replace hW := hW.trans (B22.mono hW.size)
  clear B22
  obtain ⟨a1, a2, a3, a4, a5⟩ := H_a.out
  obtain ⟨b1, b2, b3, b4, b5⟩ := H_b.out
  go_wp2_with fail
  clear a1 a2 a3 a4 a5 b1 b2 b3 b4 b5
  refine (zsign_v hy (by omega) HSY.out).mono ?_
  rintro e w23 ⟨rfl, B23⟩
  replace H_a := Lib.hid (H_a.out.below B23)
  replace H_b := Lib.hid (H_b.out.below B23)
  replace hx := hx.below B23
  replace hy := hy.below B23
  replace hP := hP.below B23
  replace hW := hW.trans (B23.mono hW.size)
  clear B23
  obtain ⟨a1, a2, a3, a4, a5⟩ := H_a.out
  obtain ⟨b1, b2, b3, b4, b5⟩ := H_b.out
  go_wp2_with fail
  clear a1 a2 a3 a4 a5 b1 b2 b3 b4 b5
  go_upto_region 3 with fail
  go_cut [7, 8, 32, 36] (CsV w23 a b)
  case first =>
    obtain ⟨p1, p2, p3⟩ := hP
    have hbw := hW.size
    have P1 := Lib.hid p1
    have P2 := Lib.hid p2
    clear hx hy hW H_a H_b HSY
    go_region_held3 (fun w' => w'.cell? ⟨w.heap.size + 1 + 1, 0, none⟩ = some (.int .u64 (a : Int)) ∧ w'.cell? ⟨w.heap.size + 1 + 1, 1, none⟩ = some (.int .u64 (b : Int))) ((refine ⟨keepc ?_ P1.out p3, keepc ?_ P2.out p3⟩ <;> (repeat (first | exact Below.refl _ _ | refine Below.drew ?_ | refine Below.alloc ?_ (by simp <;> omega) _ | refine Below.setCell ?_ (by simp) _)))) (fail)
    all_goals
      clear p1 p2
      go_wp2_with fail
      go_meet
      refine ⟨_, _, _, _, rfl, rfl, rfl, rfl, ⟨?_, ?_, ?_, ?_, ?_⟩, ⟨?_, ?_, ?_, ?_, ?_⟩, ?_, ?_, ?_, ?_, ?_, ?_, ?_⟩
      all_goals first
        | (simp [go_sem]; done)
        | (simp [go_sem]; omega)
        | omega
        | (repeat (first | exact Below.refl _ _ | refine Below.drew ?_ | refine Below.alloc ?_ (by simp <;> omega) _ | refine Below.setCell ?_ (by simp) _))
  case rest =>
    obtain ⟨gc, pc, gd, pd, rfl, rfl, rfl, rfl, IC, ID, kc, lc, kd, ld, hgc, hgd, BX⟩ := hcut
    obtain ⟨wx, hwx⟩ : ∃ x, x = wc := ⟨_, rfl⟩
    subst hwx
    replace H_a := Lib.hid (H_a.out.below BX)
    replace H_b := Lib.hid (H_b.out.below BX)
    replace hx := hx.below BX
    replace hy := hy.below BX
    replace hP := hP.below BX
    replace hW := hW.trans (BX.mono hW.size)
    have hc := one_word kc lc ha
    have hd := one_word kd ld hb
    have H_c := Lib.hid IC
    have H_d := Lib.hid ID
    clear IC ID kc lc kd ld BX hP
    obtain ⟨a1, a2, a3, a4, a5⟩ := H_a.out
    obtain ⟨b1, b2, b3, b4, b5⟩ := H_b.out
    obtain ⟨c1, c2, c3, c4, c5⟩ := H_c.out
    obtain ⟨d1, d2, d3, d4, d5⟩ := H_d.out
    go_wp2_with fail
    clear a1 a2 a3 a4 a5 b1 b2 b3 b4 b5 c1 c2 c3 c4 c5 d1 d2 d3 d4 d5
    refine (pow_yespos hx hc hy (by omega) (by omega) (by omega) (by omega) h0).mono ?_
    rintro e w24 ⟨s24, A24, n24, c24, rfl, pp, k24, B24⟩
    replace H_a := Lib.hid (H_a.out.below B24)
    replace H_b := Lib.hid (H_b.out.below B24)
    replace H_c := Lib.hid (H_c.out.below B24)
    replace H_d := Lib.hid (H_d.out.below B24)
    replace hx := hx.below B24
    replace hy := hy.below B24
    replace hc := hc.below B24
    replace hd := hd.below B24
    replace hW := hW.trans (B24.mono hW.size)
    clear B24
    rw [Int.natAbs_natCast] at pp
    have z25 := zba w24 (.cells #[.bool s24, .slice A24 n24 c24] 25)
    obtain ⟨w25, hw25⟩ : ∃ w', w' = w24.alloc (.cells #[.bool s24, .slice A24 n24 c24] 25) := ⟨_, rfl⟩
    have I25 : Ib w25 w24.heap.size s24 A24 n24 c24 := by rw [hw25]; exact Ib.new _ _ _ _ _ _
    rw [← hw25] at z25
    have HW25 := Lib.hid hw25.symm
    have O_a := H_a
    have lt_a_p : w.heap.size < w24.heap.size := H_a.out.2.2.2.2
    have O_b := H_b
    have lt_b_p : (w.heap.size + 1) < w24.heap.size := H_b.out.2.2.2.2
    have O_c := H_c
    have lt_c_p : gc < w24.heap.size := H_c.out.2.2.2.2
    have O_d := H_d
    have lt_d_p : gd < w24.heap.size := H_d.out.2.2.2.2
    have lw_p : w.heap.size ≤ w24.heap.size := hW.size
    replace H_a := Lib.hid (H_a.out.below z25)
    replace H_b := Lib.hid (H_b.out.below z25)
    replace H_c := Lib.hid (H_c.out.below z25)
    replace H_d := Lib.hid (H_d.out.below z25)
    replace hx := hx.below z25
    replace hy := hy.below z25
    replace hc := hc.below z25
    replace hd := hd.below z25
    replace pp := pp.below z25
    replace hW := hW.trans (z25.mono hW.size)
    have H_p := Lib.hid I25
    clear z25 hw25 I25
    obtain ⟨a1, a2, a3, a4, a5⟩ := O_a.out
    obtain ⟨b1, b2, b3, b4, b5⟩ := O_b.out
    obtain ⟨c1, c2, c3, c4, c5⟩ := O_c.out
    obtain ⟨d1, d2, d3, d4, d5⟩ := O_d.out
    go_wp2_with fail
    rw [HW25.out]
    clear a1 a2 a3 a4 a5 b1 b2 b3 b4 b5 c1 c2 c3 c4 c5 d1 d2 d3 d4 d5 O_a O_b O_c O_d
    refine (pow_yespos hx hd hy (by omega) (by omega) (by omega) (by omega) h0).mono ?_
    rintro e w26 ⟨s26, A26, n26, c26, rfl, pq, k26, B26⟩
    replace H_a := Lib.hid (H_a.out.below B26)
    replace H_b := Lib.hid (H_b.out.below B26)
    replace H_c := Lib.hid (H_c.out.below B26)
    replace H_d := Lib.hid (H_d.out.below B26)
    replace H_p := Lib.hid (H_p.out.below B26)
    replace hx := hx.below B26
    replace hy := hy.below B26
    replace hc := hc.below B26
    replace hd := hd.below B26
    replace pp := pp.below B26
    replace hW := hW.trans (B26.mono hW.size)
    clear B26
    rw [Int.natAbs_natCast] at pq
    have z27 := zba w26 (.cells #[.bool s26, .slice A26 n26 c26] 25)
    obtain ⟨w27, hw27⟩ : ∃ w', w' = w26.alloc (.cells #[.bool s26, .slice A26 n26 c26] 25) := ⟨_, rfl⟩
    have I27 : Ib w27 w26.heap.size s26 A26 n26 c26 := by rw [hw27]; exact Ib.new _ _ _ _ _ _
    rw [← hw27] at z27
    have HW27 := Lib.hid hw27.symm
    have O_a := H_a
    have lt_a_q : w.heap.size < w26.heap.size := H_a.out.2.2.2.2
    have O_b := H_b
    have lt_b_q : (w.heap.size + 1) < w26.heap.size := H_b.out.2.2.2.2
    have O_c := H_c
    have lt_c_q : gc < w26.heap.size := H_c.out.2.2.2.2
    have O_d := H_d
    have lt_d_q : gd < w26.heap.size := H_d.out.2.2.2.2
    have O_p := H_p
    have lt_p_q : w24.heap.size < w26.heap.size := H_p.out.2.2.2.2
    have lw_q : w.heap.size ≤ w26.heap.size := hW.size
    replace H_a := Lib.hid (H_a.out.below z27)
    replace H_b := Lib.hid (H_b.out.below z27)
    replace H_c := Lib.hid (H_c.out.below z27)
    replace H_d := Lib.hid (H_d.out.below z27)
    replace H_p := Lib.hid (H_p.out.below z27)
    replace hx := hx.below z27
    replace hy := hy.below z27
    replace hc := hc.below z27
    replace hd := hd.below z27
    replace pp := pp.below z27
    replace pq := pq.below z27
    replace hW := hW.trans (z27.mono hW.size)
    have H_q := Lib.hid I27
    clear z27 hw27 I27
    obtain ⟨a1, a2, a3, a4, a5⟩ := O_a.out
    obtain ⟨b1, b2, b3, b4, b5⟩ := O_b.out
    obtain ⟨c1, c2, c3, c4, c5⟩ := O_c.out
    obtain ⟨d1, d2, d3, d4, d5⟩ := O_d.out
    obtain ⟨p1, p2, p3, p4, p5⟩ := O_p.out
    go_wp2_with fail
    rw [HW27.out]
    clear a1 a2 a3 a4 a5 b1 b2 b3 b4 b5 c1 c2 c3 c4 c5 d1 d2 d3 d4 d5 p1 p2 p3 p4 p5 O_a O_b O_c O_d O_p
    go_upto_region 6 with fail
    go_cut [13, 14] (VarTrue w27 (x ^ ((a : Int) + (b : Int)).natAbs % y) m)
    case first =>
      obtain ⟨a1, a2, a3, a4, a5⟩ := H_a.out
      obtain ⟨b1, b2, b3, b4, b5⟩ := H_b.out
      obtain ⟨c1, c2, c3, c4, c5⟩ := H_c.out
      obtain ⟨d1, d2, d3, d4, d5⟩ := H_d.out
      obtain ⟨p1, p2, p3, p4, p5⟩ := H_p.out
      obtain ⟨q1, q2, q3, q4, q5⟩ := H_q.out
      have an : ¬ (w27.heap.size = w.heap.size) := by omega
      have am : ¬ (w.heap.size = w27.heap.size) := by omega
      have bn : ¬ (w27.heap.size = (w.heap.size + 1)) := by omega
      have bm : ¬ ((w.heap.size + 1) = w27.heap.size) := by omega
      have cn : ¬ (w27.heap.size = gc) := by omega
      have cm : ¬ (gc = w27.heap.size) := by omega
      have dn : ¬ (w27.heap.size = gd) := by omega
      have dm : ¬ (gd = w27.heap.size) := by omega
      have pn : ¬ (w27.heap.size = w24.heap.size) := by omega
      have pm : ¬ (w24.heap.size = w27.heap.size) := by omega
      have qn : ¬ (w27.heap.size = w26.heap.size) := by omega
      have qm : ¬ (w26.heap.size = w27.heap.size) := by omega
      go_region_held3 (fun w' => w'.cell? ⟨w.heap.size, 0, none⟩ = some (.bool s) ∧ w'.cell? ⟨w.heap.size, 1, none⟩ = some (.slice A n c) ∧ w'.cell? ⟨(w.heap.size + 1), 0, none⟩ = some (.bool t) ∧ w'.cell? ⟨(w.heap.size + 1), 1, none⟩ = some (.slice B m d) ∧ w'.cell? ⟨gc, 0, none⟩ = some (.bool false) ∧ w'.cell? ⟨gc, 1, none⟩ = some (.slice (some ⟨pc, 0, none⟩) 1 1) ∧ w'.cell? ⟨gd, 0, none⟩ = some (.bool false) ∧ w'.cell? ⟨gd, 1, none⟩ = some (.slice (some ⟨pd, 0, none⟩) 1 1) ∧ w'.cell? ⟨w24.heap.size, 0, none⟩ = some (.bool s24) ∧ w'.cell? ⟨w24.heap.size, 1, none⟩ = some (.slice A24 n24 c24) ∧ w'.cell? ⟨w26.heap.size, 0, none⟩ = some (.bool s26) ∧ w'.cell? ⟨w26.heap.size, 1, none⟩ = some (.slice A26 n26 c26)) (go_keep) (first
        | (go_at_call 16; (with_reducible refine (zadd_v (hc.below (below_drew _)) (hd.below (below_drew _)) (by omega) (by omega)).mono ?_); rintro e w28 ⟨s28, A28, n28, c28, rfl, p28, k28, B28⟩; have Q28 := zup (below_drew _) B28; obtain ⟨ax28, ay28, af28, ag28, az28⟩ := H_a.out.below Q28; have an28 : ¬ (w28.heap.size = w.heap.size) := (by omega); have am28 : ¬ (w.heap.size = w28.heap.size) := (by omega); obtain ⟨bx28, by28, bf28, bg28, bz28⟩ := H_b.out.below Q28; have bn28 : ¬ (w28.heap.size = (w.heap.size + 1)) := (by omega); have bm28 : ¬ ((w.heap.size + 1) = w28.heap.size) := (by omega); obtain ⟨cx28, cy28, cf28, cg28, cz28⟩ := H_c.out.below Q28; have cn28 : ¬ (w28.heap.size = gc) := (by omega); have cm28 : ¬ (gc = w28.heap.size) := (by omega); obtain ⟨dx28, dy28, df28, dg28, dz28⟩ := H_d.out.below Q28; have dn28 : ¬ (w28.heap.size = gd) := (by omega); have dm28 : ¬ (gd = w28.heap.size) := (by omega); obtain ⟨px28, py28, pf28, pg28, pz28⟩ := H_p.out.below Q28; have pn28 : ¬ (w28.heap.size = w24.heap.size) := (by omega); have pm28 : ¬ (w24.heap.size = w28.heap.size) := (by omega); obtain ⟨qx28, qy28, qf28, qg28, qz28⟩ := H_q.out.below Q28; have qn28 : ¬ (w28.heap.size = w26.heap.size) := (by omega); have qm28 : ¬ (w26.heap.size = w28.heap.size) := (by omega))
        | (go_at_call 16; (with_reducible refine (zadd_v (hc.below (zbd _ _)) (hd.below (zbd _ _)) (by omega) (by omega)).mono ?_); rintro e w28 ⟨s28, A28, n28, c28, rfl, p28, k28, B28⟩; have Q28 := zup (zbd _ _) B28; have J28 := (Ib.newd w27 false none 0 0 25).below B28; have g28 := Nat.le_refl w27.heap.size; obtain ⟨ax28, ay28, af28, ag28, az28⟩ := H_a.out.below Q28; have an28 : ¬ (w28.heap.size = w.heap.size) := (by omega); have am28 : ¬ (w.heap.size = w28.heap.size) := (by omega); obtain ⟨bx28, by28, bf28, bg28, bz28⟩ := H_b.out.below Q28; have bn28 : ¬ (w28.heap.size = (w.heap.size + 1)) := (by omega); have bm28 : ¬ ((w.heap.size + 1) = w28.heap.size) := (by omega); obtain ⟨cx28, cy28, cf28, cg28, cz28⟩ := H_c.out.below Q28; have cn28 : ¬ (w28.heap.size = gc) := (by omega); have cm28 : ¬ (gc = w28.heap.size) := (by omega); obtain ⟨dx28, dy28, df28, dg28, dz28⟩ := H_d.out.below Q28; have dn28 : ¬ (w28.heap.size = gd) := (by omega); have dm28 : ¬ (gd = w28.heap.size) := (by omega); obtain ⟨px28, py28, pf28, pg28, pz28⟩ := H_p.out.below Q28; have pn28 : ¬ (w28.heap.size = w24.heap.size) := (by omega); have pm28 : ¬ (w24.heap.size = w28.heap.size) := (by omega); obtain ⟨qx28, qy28, qf28, qg28, qz28⟩ := H_q.out.below Q28; have qn28 : ¬ (w28.heap.size = w26.heap.size) := (by omega); have qm28 : ¬ (w26.heap.size = w28.heap.size) := (by omega); have Jc28 := J28; obtain ⟨jx28, jy28, jf28, jg28, jz28⟩ := Jc28)
        | (go_at_call 15; (with_reducible refine (pow_yespos (hx.below Q28) p28.zv (hy.below Q28) (by omega) (by omega) (by omega) (by omega) h0).mono ?_); rintro e w29 ⟨s29, A29, n29, c29, rfl, p29, k29, B29⟩; have Q29 := zup Q28 B29; have R29 := B29; have J29 := J28.below B29; have g29 := g28; obtain ⟨ax29, ay29, af29, ag29, az29⟩ := H_a.out.below Q29; have an29 : ¬ (w29.heap.size = w.heap.size) := (by omega); have am29 : ¬ (w.heap.size = w29.heap.size) := (by omega); obtain ⟨bx29, by29, bf29, bg29, bz29⟩ := H_b.out.below Q29; have bn29 : ¬ (w29.heap.size = (w.heap.size + 1)) := (by omega); have bm29 : ¬ ((w.heap.size + 1) = w29.heap.size) := (by omega); obtain ⟨cx29, cy29, cf29, cg29, cz29⟩ := H_c.out.below Q29; have cn29 : ¬ (w29.heap.size = gc) := (by omega); have cm29 : ¬ (gc = w29.heap.size) := (by omega); obtain ⟨dx29, dy29, df29, dg29, dz29⟩ := H_d.out.below Q29; have dn29 : ¬ (w29.heap.size = gd) := (by omega); have dm29 : ¬ (gd = w29.heap.size) := (by omega); obtain ⟨px29, py29, pf29, pg29, pz29⟩ := H_p.out.below Q29; have pn29 : ¬ (w29.heap.size = w24.heap.size) := (by omega); have pm29 : ¬ (w24.heap.size = w29.heap.size) := (by omega); obtain ⟨qx29, qy29, qf29, qg29, qz29⟩ := H_q.out.below Q29; have qn29 : ¬ (w29.heap.size = w26.heap.size) := (by omega); have qm29 : ¬ (w26.heap.size = w29.heap.size) := (by omega); have Jc29 := J29; obtain ⟨jx29, jy29, jf29, jg29, jz29⟩ := Jc29)
        | (go_at_call 15; (with_reducible refine (pow_yespos (hx.below Q28) p28.zv (hy.below Q28) (by omega) (by omega) (by omega) (by omega) h0).mono ?_); rintro e w29 ⟨s29, A29, n29, c29, rfl, p29, k29, B29⟩; have Q29 := zup Q28 B29; have R29 := B29; obtain ⟨ax29, ay29, af29, ag29, az29⟩ := H_a.out.below Q29; have an29 : ¬ (w29.heap.size = w.heap.size) := (by omega); have am29 : ¬ (w.heap.size = w29.heap.size) := (by omega); obtain ⟨bx29, by29, bf29, bg29, bz29⟩ := H_b.out.below Q29; have bn29 : ¬ (w29.heap.size = (w.heap.size + 1)) := (by omega); have bm29 : ¬ ((w.heap.size + 1) = w29.heap.size) := (by omega); obtain ⟨cx29, cy29, cf29, cg29, cz29⟩ := H_c.out.below Q29; have cn29 : ¬ (w29.heap.size = gc) := (by omega); have cm29 : ¬ (gc = w29.heap.size) := (by omega); obtain ⟨dx29, dy29, df29, dg29, dz29⟩ := H_d.out.below Q29; have dn29 : ¬ (w29.heap.size = gd) := (by omega); have dm29 : ¬ (gd = w29.heap.size) := (by omega); obtain ⟨px29, py29, pf29, pg29, pz29⟩ := H_p.out.below Q29; have pn29 : ¬ (w29.heap.size = w24.heap.size) := (by omega); have pm29 : ¬ (w24.heap.size = w29.heap.size) := (by omega); obtain ⟨qx29, qy29, qf29, qg29, qz29⟩ := H_q.out.below Q29; have qn29 : ¬ (w29.heap.size = w26.heap.size) := (by omega); have qm29 : ¬ (w26.heap.size = w29.heap.size) := (by omega))
        | (go_at_call 15; (with_reducible refine (pow_yespos (hx.below (zup Q28 (zba _ _))) (p28.below (zba _ _)).zv (hy.below (zup Q28 (zba _ _))) (by omega) (by omega) (by omega) (by omega) h0).mono ?_); rintro e w29 ⟨s29, A29, n29, c29, rfl, p29, k29, B29⟩; have Q29 := zup (zup Q28 (zba _ _)) B29; have R29 := zup (zba w28 _) B29; have J29 := (Ib.new w28 false none 0 0 25).below B29; have g29 := Q28.size; obtain ⟨ax29, ay29, af29, ag29, az29⟩ := H_a.out.below Q29; have an29 : ¬ (w29.heap.size = w.heap.size) := (by omega); have am29 : ¬ (w.heap.size = w29.heap.size) := (by omega); obtain ⟨bx29, by29, bf29, bg29, bz29⟩ := H_b.out.below Q29; have bn29 : ¬ (w29.heap.size = (w.heap.size + 1)) := (by omega); have bm29 : ¬ ((w.heap.size + 1) = w29.heap.size) := (by omega); obtain ⟨cx29, cy29, cf29, cg29, cz29⟩ := H_c.out.below Q29; have cn29 : ¬ (w29.heap.size = gc) := (by omega); have cm29 : ¬ (gc = w29.heap.size) := (by omega); obtain ⟨dx29, dy29, df29, dg29, dz29⟩ := H_d.out.below Q29; have dn29 : ¬ (w29.heap.size = gd) := (by omega); have dm29 : ¬ (gd = w29.heap.size) := (by omega); obtain ⟨px29, py29, pf29, pg29, pz29⟩ := H_p.out.below Q29; have pn29 : ¬ (w29.heap.size = w24.heap.size) := (by omega); have pm29 : ¬ (w24.heap.size = w29.heap.size) := (by omega); obtain ⟨qx29, qy29, qf29, qg29, qz29⟩ := H_q.out.below Q29; have qn29 : ¬ (w29.heap.size = w26.heap.size) := (by omega); have qm29 : ¬ (w26.heap.size = w29.heap.size) := (by omega); have Jc29 := J29; obtain ⟨jx29, jy29, jf29, jg29, jz29⟩ := Jc29)
        | fail)
      all_goals
        first
        | have P := Lib.hid (VarCut.put (w0 := w27) (z := (x ^ ((a : Int) + (b : Int)).natAbs % y)) (k := m) J29 p29 Q29 g29 (by omega))
        | have P := Lib.hid (VarCut.new (w0 := w27) (z := (x ^ ((a : Int) + (b : Int)).natAbs % y)) (k := m) (t := 25) p29 Q29 (by omega))
        go_wp2_with fail
        go_meet
        exact ⟨P.out, rfl⟩
    case rest =>
      obtain ⟨⟨g30, s30, A30, n30, c30, rfl, hg30, I30, p30, k30, B30⟩, rfl⟩ := hcut
      obtain ⟨w30, hw30⟩ : ∃ x, x = wc := ⟨_, rfl⟩
      subst hw30
      have lt_a_r : w.heap.size < g30 := Nat.lt_of_lt_of_le H_a.out.2.2.2.2 hg30
      have lt_b_r : (w.heap.size + 1) < g30 := Nat.lt_of_lt_of_le H_b.out.2.2.2.2 hg30
      have lt_c_r : gc < g30 := Nat.lt_of_lt_of_le H_c.out.2.2.2.2 hg30
      have lt_d_r : gd < g30 := Nat.lt_of_lt_of_le H_d.out.2.2.2.2 hg30
      have lt_p_r : w24.heap.size < g30 := Nat.lt_of_lt_of_le H_p.out.2.2.2.2 hg30
      have lt_q_r : w26.heap.size < g30 := Nat.lt_of_lt_of_le H_q.out.2.2.2.2 hg30
      have lw_r : w.heap.size ≤ g30 := Nat.le_trans hW.size hg30
      replace H_a := Lib.hid (H_a.out.below B30)
      replace H_b := Lib.hid (H_b.out.below B30)
      replace H_c := Lib.hid (H_c.out.below B30)
      replace H_d := Lib.hid (H_d.out.below B30)
      replace H_p := Lib.hid (H_p.out.below B30)
      replace H_q := Lib.hid (H_q.out.below B30)
      replace hx := hx.below B30
      replace hy := hy.below B30
      replace hc := hc.below B30
      replace hd := hd.below B30
      replace pp := pp.below B30
      replace pq := pq.below B30
      replace hW := hW.trans (B30.mono hW.size)
      have H_r := Lib.hid I30
      clear B30 I30 hg30
      have pr := p30
      clear p30
      have e0 : ((a : Int) + (b : Int)).natAbs = a + b := by omega
      rw [e0] at pr
      clear e0
      clear H_a H_c H_d
      obtain ⟨b1, b2, b3, b4, b5⟩ := H_b.out
      obtain ⟨p1, p2, p3, p4, p5⟩ := H_p.out
      obtain ⟨q1, q2, q3, q4, q5⟩ := H_q.out
      obtain ⟨r1, r2, r3, r4, r5⟩ := H_r.out
      go_wp2_with fail
      clear b1 b2 b3 b4 b5 p1 p2 p3 p4 p5 q1 q2 q3 q4 q5 r1 r2 r3 r4 r5
      obtain ⟨b1, b2, b3, b4, b5⟩ := H_b.out
      obtain ⟨p1, p2, p3, p4, p5⟩ := H_p.out
      obtain ⟨q1, q2, q3, q4, q5⟩ := H_q.out
      obtain ⟨r1, r2, r3, r4, r5⟩ := H_r.out
      go_region_held3 (fun w' => w'.cell? ⟨(w.heap.size + 1), 0, none⟩ = some (.bool t) ∧ w'.cell? ⟨(w.heap.size + 1), 1, none⟩ = some (.slice B m d) ∧ w'.cell? ⟨w24.heap.size, 0, none⟩ = some (.bool s24) ∧ w'.cell? ⟨w24.heap.size, 1, none⟩ = some (.slice A24 n24 c24) ∧ w'.cell? ⟨w26.heap.size, 0, none⟩ = some (.bool s26) ∧ w'.cell? ⟨w26.heap.size, 1, none⟩ = some (.slice A26 n26 c26) ∧ w'.cell? ⟨g30, 0, none⟩ = some (.bool s30) ∧ w'.cell? ⟨g30, 1, none⟩ = some (.slice A30 n30 c30)) (go_keep) (first
        | (go_at_call 13; (with_reducible refine (zmul_v (pp.below (below_drew _)).zv (pq.below (below_drew _)).zv (by omega) (by omega)).mono ?_); rintro e w31 ⟨s31, A31, n31, c31, rfl, p31, k31, B31⟩; have Q31 := zup (below_drew _) B31; obtain ⟨bx31, by31, bf31, bg31, bz31⟩ := H_b.out.below Q31; obtain ⟨px31, py31, pf31, pg31, pz31⟩ := H_p.out.below Q31; obtain ⟨qx31, qy31, qf31, qg31, qz31⟩ := H_q.out.below Q31; obtain ⟨rx31, ry31, rf31, rg31, rz31⟩ := H_r.out.below Q31)
        | (go_at_call 11; (with_reducible refine (rcong_v (b := true) p31.zv (pr.below Q31).zv (hy.below Q31) (by omega) (by omega) (by omega) (by omega) (sums_dvd x y a b)).mono ?_); rintro e w32 ⟨rfl, B32⟩; have Q32 := zup Q31 B32; obtain ⟨bx32, by32, bf32, bg32, bz32⟩ := H_b.out.below Q32; obtain ⟨px32, py32, pf32, pg32, pz32⟩ := H_p.out.below Q32; obtain ⟨qx32, qy32, qf32, qg32, qz32⟩ := H_q.out.below Q32; obtain ⟨rx32, ry32, rf32, rg32, rz32⟩ := H_r.out.below Q32)
        | fail)
      clear b1 b2 b3 b4 b5 p1 p2 p3 p4 p5 q1 q2 q3 q4 q5 r1 r2 r3 r4 r5 bx31 by31 bf31 bg31 bz31 px31 py31 pf31 pg31 pz31 qx31 qy31 qf31 qg31 qz31 rx31 ry31 rf31 rg31 rz31 bx32 by32 bf32 bg32 bz32 px32 py32 pf32 pg32 pz32 qx32 qy32 qf32 qg32 qz32 rx32 ry32 rf32 rg32 rz32
      replace H_b := Lib.hid (H_b.out.below Q32)
      replace H_p := Lib.hid (H_p.out.below Q32)
      replace H_q := Lib.hid (H_q.out.below Q32)
      replace H_r := Lib.hid (H_r.out.below Q32)
      replace hx := hx.below Q32
      replace hy := hy.below Q32
      replace hc := hc.below Q32
      replace hd := hd.below Q32
      replace pp := pp.below Q32
      replace pq := pq.below Q32
      replace pr := pr.below Q32
      replace hW := hW.trans (Q32.mono hW.size)
      clear B31 Q31 B32 Q32 p31
      go_wp2_with fail
      go_ret
      exact ⟨rfl, hW⟩
theorem msums_calls (A B : Option Addr) (n m c d a b : Nat) (s t : Bool) (x y : Int) (w : World) (hx : Zv w s A n c x) (hy : Zv w t B m d y) (hn : n ≤ 9223372036854775807) (hm : m ≤ 9223372036854775807) (ha : a < 18446744073709551616) (hb : b < 18446744073709551616) :
    Calls Try.prog 4 #[.agg #[.bool s, .slice A n c], .agg #[.bool t, .slice B m d], .agg #[.int .u64 (a : Int), .int .u64 (b : Int)]] w (TruePost w) := by
  by_cases hf : n ≤ 2 ∧ m ≤ 2
  · by_cases h0 : y ≤ 0
    · exact ms_bad hx hy hf.1 hf.2 h0
    · exact ms_yes hx hy hf.1 hf.2 (by omega) ha hb
  · exact ms_few hx hy hn hm hf
end Go.Proofs.Ytofdbihohljmpaa
