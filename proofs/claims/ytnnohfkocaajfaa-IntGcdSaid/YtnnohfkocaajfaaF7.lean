/-
  The walk of IntGcd.
-/
import Derived.Test.YtnnohfkocaajfaaZintG
/-! The walk of IntGcd. -/
namespace Go.Proofs.Ytnnohfkocaajfaa
open Go.RowKit
set_option linter.unusedVariables false
set_option linter.unusedSimpArgs false

/-- Three whole numbers in new memory. -/
theorem opengc3 (w : World) (s t u : Bool) (A B C : Option Addr) (n c m d l e : Nat) :
    ∃ w3, w3 = (((w.alloc (.cells #[.bool s, .slice A n c] 40)).alloc (.cells #[.bool t, .slice B m d] 40)).alloc (.cells #[.bool u, .slice C l e] 40)) ∧
      Ib w3 w.heap.size s A n c ∧ Ib w3 (w.heap.size + 1) t B m d ∧ Ib w3 (w.heap.size + 1 + 1) u C l e ∧ Below w.heap.size w w3 := by
  obtain ⟨w2, hw2, IA, IB, z⟩ := open2 w s t A B n c m d
  have e1 : w2.heap.size = w.heap.size + 1 + 1 := by rw [hw2]; simp
  refine ⟨w2.alloc (.cells #[.bool u, .slice C l e] 40), by rw [hw2], IA.below (zba _ _), IB.below (zba _ _), ?_, zup z (zba _ _)⟩
  rw [← e1]
  exact Ib.new _ _ _ _ _ _
theorem gcd_mul_abs (x y z : Int) : ((Nat.gcd (x * z).natAbs (y * z).natAbs : Nat) : Int) = ((Nat.gcd x.natAbs y.natAbs : Nat) : Int) * ((z.natAbs : Nat) : Int) := by
  rw [Int.natAbs_mul, Int.natAbs_mul, Nat.gcd_mul_right]
  simp
theorem gcd_div_left (x y : Int) : ∃ q, q * ((Nat.gcd x.natAbs y.natAbs : Nat) : Int) = x := by
  obtain ⟨k, hk⟩ := Nat.gcd_dvd_left x.natAbs y.natAbs
  refine ⟨x.sign * k, ?_⟩
  rw [Int.mul_assoc, ← Int.natCast_mul, Nat.mul_comm k, ← hk, Int.sign_mul_natAbs]
theorem gcd_div_right (x y : Int) : ∃ q, q * ((Nat.gcd x.natAbs y.natAbs : Nat) : Int) = y := by
  rw [Nat.gcd_comm]; exact gcd_div_left y x
set_option maxRecDepth 100000 in
set_option maxHeartbeats 4000000 in
theorem igcd_calls (A B C : Option Addr) (n m l c d e' : Nat) (s t u : Bool) (x y z : Int) (w : World) (hx : Zv w s A n c x) (hy : Zv w t B m d y) (hz : Zv w u C l e' z) (hn : n ≤ 9223372036854775807) (hm : m ≤ 9223372036854775807) (hl : l ≤ 9223372036854775807) :
    Calls Try.prog 7 #[.agg #[.bool s, .slice A n c], .agg #[.bool t, .slice B m d], .agg #[.bool u, .slice C l e']] w (TruePost w) := by
  obtain ⟨w3, hw3, IA, IB, IC, z0⟩ := opengc3 w s t u A B C n c m d l e'
  have HW := Lib.hid hw3.symm
  replace hx := hx.below z0
  replace hy := hy.below z0
  replace hz := hz.below z0
  have hW := z0
  have H_a := Lib.hid IA
  have H_b := Lib.hid IB
  have H_c := Lib.hid IC
  clear hw3 IA IB IC z0
  by_cases h : n ≤ 5 ∧ m ≤ 5 ∧ l ≤ 5
  · obtain ⟨h1, h2, h3⟩ := h
    obtain ⟨G, hG⟩ : ∃ G : Int, ((Nat.gcd x.natAbs y.natAbs : Nat) : Int) = G := ⟨_, rfl⟩
    obtain ⟨q1, hq1⟩ := gcd_div_left x y
    obtain ⟨q2, hq2⟩ := gcd_div_right x y
    have hG3 := gcd_mul_abs x y z
    have hGn : 0 ≤ G := by omega
    rw [hG] at hq1 hq2 hG3
    have HG := Lib.hid hG
    have HG1 : Hid (((Nat.gcd (-x).natAbs y.natAbs : Nat) : Int) = G) := Lib.hid (by rw [Int.natAbs_neg]; exact hG)
    have HG2 : Hid (((Nat.gcd y.natAbs x.natAbs : Nat) : Int) = G) := Lib.hid (by rw [Nat.gcd_comm]; exact hG)
    have HG3 := Lib.hid hG3
    have HQ1 := Lib.hid hq1
    have HQ2 := Lib.hid hq2
    clear hG hG3 hq1 hq2
    by_cases hg0 : G = 0
    · subst hg0
      have HX0 : Hid (x.sign = 0) := Lib.hid (by rw [← HQ1.out, Int.mul_zero]; rfl)
      have HY0 : Hid (y.sign = 0) := Lib.hid (by rw [← HQ2.out, Int.mul_zero]; rfl)
      clear HQ1 HQ2 HG3
      go_enter Try.func7, Try.ntmps7
      obtain ⟨a1, a2, a3, a4, a5⟩ := H_a.out
      obtain ⟨b1, b2, b3, b4, b5⟩ := H_b.out
      obtain ⟨c1, c2, c3, c4, c5⟩ := H_c.out
      go_wp2_with fail
      rw [HW.out]
      clear a1 a2 a3 a4 a5 b1 b2 b3 b4 b5 c1 c2 c3 c4 c5
      refine (zawake_calls _).mono ?_
      rintro e w21 ⟨rfl, B21⟩
      replace H_a := Lib.hid (H_a.out.below B21)
      replace H_b := Lib.hid (H_b.out.below B21)
      replace H_c := Lib.hid (H_c.out.below B21)
      replace hx := hx.below B21
      replace hy := hy.below B21
      replace hz := hz.below B21
      replace hW := hW.trans (B21.mono hW.size)
      clear B21
      obtain ⟨a1, a2, a3, a4, a5⟩ := H_a.out
      obtain ⟨b1, b2, b3, b4, b5⟩ := H_b.out
      obtain ⟨c1, c2, c3, c4, c5⟩ := H_c.out
      go_wp2_with fail
      clear a1 a2 a3 a4 a5 b1 b2 b3 b4 b5 c1 c2 c3 c4 c5
      refine (zfew_v (k := 5) (b := true) hn hm hl (by omega) (by rw [decide_eq_true_iff]; omega)).mono ?_
      rintro e w22 ⟨rfl, B22⟩
      replace H_a := Lib.hid (H_a.out.below B22)
      replace H_b := Lib.hid (H_b.out.below B22)
      replace H_c := Lib.hid (H_c.out.below B22)
      replace hx := hx.below B22
      replace hy := hy.below B22
      replace hz := hz.below B22
      replace hW := hW.trans (B22.mono hW.size)
      clear B22
      obtain ⟨a1, a2, a3, a4, a5⟩ := H_a.out
      obtain ⟨b1, b2, b3, b4, b5⟩ := H_b.out
      obtain ⟨c1, c2, c3, c4, c5⟩ := H_c.out
      go_wp2_with fail
      clear a1 a2 a3 a4 a5 b1 b2 b3 b4 b5 c1 c2 c3 c4 c5
      refine (zgcd_v hx hy (by omega) (by omega) HG.out).mono ?_
      rintro e w23 ⟨s23, A23, n23, c23, rfl, pg, k23, B23⟩
      replace H_a := Lib.hid (H_a.out.below B23)
      replace H_b := Lib.hid (H_b.out.below B23)
      replace H_c := Lib.hid (H_c.out.below B23)
      replace hx := hx.below B23
      replace hy := hy.below B23
      replace hz := hz.below B23
      replace hW := hW.trans (B23.mono hW.size)
      clear B23
      have z24 := zba w23 (.cells #[.bool s23, .slice A23 n23 c23] 40)
      obtain ⟨w24, hw24⟩ : ∃ w', w' = w23.alloc (.cells #[.bool s23, .slice A23 n23 c23] 40) := ⟨_, rfl⟩
      have I24 : Ib w24 w23.heap.size s23 A23 n23 c23 := by rw [hw24]; exact Ib.new _ _ _ _ _ _
      rw [← hw24] at z24
      have HW24 := Lib.hid hw24.symm
      have O_a := H_a
      have lt_a_g : w.heap.size < w23.heap.size := H_a.out.2.2.2.2
      have O_b := H_b
      have lt_b_g : (w.heap.size + 1) < w23.heap.size := H_b.out.2.2.2.2
      have O_c := H_c
      have lt_c_g : (w.heap.size + 1 + 1) < w23.heap.size := H_c.out.2.2.2.2
      have lw_g : w.heap.size ≤ w23.heap.size := hW.size
      replace H_a := Lib.hid (H_a.out.below z24)
      replace H_b := Lib.hid (H_b.out.below z24)
      replace H_c := Lib.hid (H_c.out.below z24)
      replace hx := hx.below z24
      replace hy := hy.below z24
      replace hz := hz.below z24
      replace pg := pg.below z24
      replace hW := hW.trans (z24.mono hW.size)
      have H_g := Lib.hid I24
      clear z24 hw24 I24
      clear hz
      obtain ⟨a1, a2, a3, a4, a5⟩ := O_a.out
      obtain ⟨b1, b2, b3, b4, b5⟩ := O_b.out
      obtain ⟨c1, c2, c3, c4, c5⟩ := O_c.out
      go_wp2_with fail
      rw [HW24.out]
      clear a1 a2 a3 a4 a5 b1 b2 b3 b4 b5 c1 c2 c3 c4 c5 O_a O_b O_c
      obtain ⟨a1, a2, a3, a4, a5⟩ := H_a.out
      obtain ⟨b1, b2, b3, b4, b5⟩ := H_b.out
      obtain ⟨c1, c2, c3, c4, c5⟩ := H_c.out
      obtain ⟨g1, g2, g3, g4, g5⟩ := H_g.out
      go_region_held3 (fun w' => w'.cell? ⟨w.heap.size, 0, none⟩ = some (.bool s) ∧ w'.cell? ⟨w.heap.size, 1, none⟩ = some (.slice A n c) ∧ w'.cell? ⟨(w.heap.size + 1), 0, none⟩ = some (.bool t) ∧ w'.cell? ⟨(w.heap.size + 1), 1, none⟩ = some (.slice B m d) ∧ w'.cell? ⟨(w.heap.size + 1 + 1), 0, none⟩ = some (.bool u) ∧ w'.cell? ⟨(w.heap.size + 1 + 1), 1, none⟩ = some (.slice C l e') ∧ w'.cell? ⟨w23.heap.size, 0, none⟩ = some (.bool s23) ∧ w'.cell? ⟨w23.heap.size, 1, none⟩ = some (.slice A23 n23 c23)) (go_keep) (first
        | (go_at_call 31; (with_reducible refine (zneg_v (hx.below (below_drew _)) (by omega)).mono ?_); rintro e w25 ⟨s25, A25, n25, c25, rfl, p25, k25, B25⟩; have Q25 := zup (below_drew _) B25; obtain ⟨ax25, ay25, af25, ag25, az25⟩ := H_a.out.below Q25; obtain ⟨bx25, by25, bf25, bg25, bz25⟩ := H_b.out.below Q25; obtain ⟨cx25, cy25, cf25, cg25, cz25⟩ := H_c.out.below Q25; obtain ⟨gx25, gy25, gf25, gg25, gz25⟩ := H_g.out.below Q25)
        | (go_at_call 25; (with_reducible refine (zgcd_v p25.zv (hy.below Q25) (by omega) (by omega) HG1.out).mono ?_); rintro e w26 ⟨s26, A26, n26, c26, rfl, p26, k26, B26⟩; have Q26 := zup Q25 B26; obtain ⟨ax26, ay26, af26, ag26, az26⟩ := H_a.out.below Q26; obtain ⟨bx26, by26, bf26, bg26, bz26⟩ := H_b.out.below Q26; obtain ⟨cx26, cy26, cf26, cg26, cz26⟩ := H_c.out.below Q26; obtain ⟨gx26, gy26, gf26, gg26, gz26⟩ := H_g.out.below Q26)
        | (go_at_call 24; (with_reducible refine (zsame_yes (pg.below Q26).zv p26.zv (by omega) (by omega) rfl).mono ?_); rintro e w27 ⟨rfl, B27⟩; have Q27 := zup Q26 B27; obtain ⟨ax27, ay27, af27, ag27, az27⟩ := H_a.out.below Q27; obtain ⟨bx27, by27, bf27, bg27, bz27⟩ := H_b.out.below Q27; obtain ⟨cx27, cy27, cf27, cg27, cz27⟩ := H_c.out.below Q27; obtain ⟨gx27, gy27, gf27, gg27, gz27⟩ := H_g.out.below Q27)
        | (go_at_call 25; (with_reducible refine (zgcd_v (hy.below Q27) (hx.below Q27) (by omega) (by omega) HG2.out).mono ?_); rintro e w28 ⟨s28, A28, n28, c28, rfl, p28, k28, B28⟩; have Q28 := zup Q27 B28; obtain ⟨ax28, ay28, af28, ag28, az28⟩ := H_a.out.below Q28; obtain ⟨bx28, by28, bf28, bg28, bz28⟩ := H_b.out.below Q28; obtain ⟨cx28, cy28, cf28, cg28, cz28⟩ := H_c.out.below Q28; obtain ⟨gx28, gy28, gf28, gg28, gz28⟩ := H_g.out.below Q28)
        | (go_at_call 24; (with_reducible refine (zsame_yes (pg.below Q28).zv p28.zv (by omega) (by omega) rfl).mono ?_); rintro e w29 ⟨rfl, B29⟩; have Q29 := zup Q28 B29; obtain ⟨ax29, ay29, af29, ag29, az29⟩ := H_a.out.below Q29; obtain ⟨bx29, by29, bf29, bg29, bz29⟩ := H_b.out.below Q29; obtain ⟨cx29, cy29, cf29, cg29, cz29⟩ := H_c.out.below Q29; obtain ⟨gx29, gy29, gf29, gg29, gz29⟩ := H_g.out.below Q29)
        | fail)
      clear a1 a2 a3 a4 a5 b1 b2 b3 b4 b5 c1 c2 c3 c4 c5 g1 g2 g3 g4 g5 ax25 ay25 af25 ag25 az25 bx25 by25 bf25 bg25 bz25 cx25 cy25 cf25 cg25 cz25 gx25 gy25 gf25 gg25 gz25 ax26 ay26 af26 ag26 az26 bx26 by26 bf26 bg26 bz26 cx26 cy26 cf26 cg26 cz26 gx26 gy26 gf26 gg26 gz26 ax27 ay27 af27 ag27 az27 bx27 by27 bf27 bg27 bz27 cx27 cy27 cf27 cg27 cz27 gx27 gy27 gf27 gg27 gz27 ax28 ay28 af28 ag28 az28 bx28 by28 bf28 bg28 bz28 cx28 cy28 cf28 cg28 cz28 gx28 gy28 gf28 gg28 gz28 ax29 ay29 af29 ag29 az29 bx29 by29 bf29 bg29 bz29 cx29 cy29 cf29 cg29 cz29 gx29 gy29 gf29 gg29 gz29
      replace H_a := Lib.hid (H_a.out.below Q29)
      replace H_b := Lib.hid (H_b.out.below Q29)
      replace H_c := Lib.hid (H_c.out.below Q29)
      replace H_g := Lib.hid (H_g.out.below Q29)
      replace hx := hx.below Q29
      replace hy := hy.below Q29
      replace pg := pg.below Q29
      replace hW := hW.trans (Q29.mono hW.size)
      clear B25 Q25 B26 Q26 B27 Q27 B28 Q28 B29 Q29 p25 p26 p28
      obtain ⟨a1, a2, a3, a4, a5⟩ := H_a.out
      obtain ⟨b1, b2, b3, b4, b5⟩ := H_b.out
      obtain ⟨c1, c2, c3, c4, c5⟩ := H_c.out
      obtain ⟨g1, g2, g3, g4, g5⟩ := H_g.out
      go_wp2_with fail
      clear a1 a2 a3 a4 a5 b1 b2 b3 b4 b5 c1 c2 c3 c4 c5 g1 g2 g3 g4 g5
      refine (zsign_v pg.zv (by omega) (show (0 : Int).sign = 0 from rfl)).mono ?_
      rintro e w30 ⟨rfl, B30⟩
      replace H_a := Lib.hid (H_a.out.below B30)
      replace H_b := Lib.hid (H_b.out.below B30)
      replace H_c := Lib.hid (H_c.out.below B30)
      replace H_g := Lib.hid (H_g.out.below B30)
      replace hx := hx.below B30
      replace hy := hy.below B30
      replace pg := pg.below B30
      replace hW := hW.trans (B30.mono hW.size)
      clear B30
      obtain ⟨a1, a2, a3, a4, a5⟩ := H_a.out
      obtain ⟨b1, b2, b3, b4, b5⟩ := H_b.out
      obtain ⟨c1, c2, c3, c4, c5⟩ := H_c.out
      obtain ⟨g1, g2, g3, g4, g5⟩ := H_g.out
      go_wp2_with fail
      clear a1 a2 a3 a4 a5 b1 b2 b3 b4 b5 c1 c2 c3 c4 c5 g1 g2 g3 g4 g5
      refine (zsign_v hx (by omega) HX0.out).mono ?_
      rintro e w31 ⟨rfl, B31⟩
      replace H_a := Lib.hid (H_a.out.below B31)
      replace H_b := Lib.hid (H_b.out.below B31)
      replace H_c := Lib.hid (H_c.out.below B31)
      replace H_g := Lib.hid (H_g.out.below B31)
      replace hx := hx.below B31
      replace hy := hy.below B31
      replace pg := pg.below B31
      replace hW := hW.trans (B31.mono hW.size)
      clear B31
      obtain ⟨a1, a2, a3, a4, a5⟩ := H_a.out
      obtain ⟨b1, b2, b3, b4, b5⟩ := H_b.out
      obtain ⟨c1, c2, c3, c4, c5⟩ := H_c.out
      obtain ⟨g1, g2, g3, g4, g5⟩ := H_g.out
      go_wp2_with fail
      clear a1 a2 a3 a4 a5 b1 b2 b3 b4 b5 c1 c2 c3 c4 c5 g1 g2 g3 g4 g5
      refine (zsign_v hy (by omega) HY0.out).mono ?_
      rintro e w32 ⟨rfl, B32⟩
      replace H_a := Lib.hid (H_a.out.below B32)
      replace H_b := Lib.hid (H_b.out.below B32)
      replace H_c := Lib.hid (H_c.out.below B32)
      replace H_g := Lib.hid (H_g.out.below B32)
      replace hx := hx.below B32
      replace hy := hy.below B32
      replace pg := pg.below B32
      replace hW := hW.trans (B32.mono hW.size)
      clear B32
      go_wp2_with fail
      go_ret
      exact ⟨rfl, hW⟩
    · go_enter Try.func7, Try.ntmps7
      obtain ⟨a1, a2, a3, a4, a5⟩ := H_a.out
      obtain ⟨b1, b2, b3, b4, b5⟩ := H_b.out
      obtain ⟨c1, c2, c3, c4, c5⟩ := H_c.out
      go_wp2_with fail
      rw [HW.out]
      clear a1 a2 a3 a4 a5 b1 b2 b3 b4 b5 c1 c2 c3 c4 c5
      refine (zawake_calls _).mono ?_
      rintro e w21 ⟨rfl, B21⟩
      replace H_a := Lib.hid (H_a.out.below B21)
      replace H_b := Lib.hid (H_b.out.below B21)
      replace H_c := Lib.hid (H_c.out.below B21)
      replace hx := hx.below B21
      replace hy := hy.below B21
      replace hz := hz.below B21
      replace hW := hW.trans (B21.mono hW.size)
      clear B21
      obtain ⟨a1, a2, a3, a4, a5⟩ := H_a.out
      obtain ⟨b1, b2, b3, b4, b5⟩ := H_b.out
      obtain ⟨c1, c2, c3, c4, c5⟩ := H_c.out
      go_wp2_with fail
      clear a1 a2 a3 a4 a5 b1 b2 b3 b4 b5 c1 c2 c3 c4 c5
      refine (zfew_v (k := 5) (b := true) hn hm hl (by omega) (by rw [decide_eq_true_iff]; omega)).mono ?_
      rintro e w22 ⟨rfl, B22⟩
      replace H_a := Lib.hid (H_a.out.below B22)
      replace H_b := Lib.hid (H_b.out.below B22)
      replace H_c := Lib.hid (H_c.out.below B22)
      replace hx := hx.below B22
      replace hy := hy.below B22
      replace hz := hz.below B22
      replace hW := hW.trans (B22.mono hW.size)
      clear B22
      obtain ⟨a1, a2, a3, a4, a5⟩ := H_a.out
      obtain ⟨b1, b2, b3, b4, b5⟩ := H_b.out
      obtain ⟨c1, c2, c3, c4, c5⟩ := H_c.out
      go_wp2_with fail
      clear a1 a2 a3 a4 a5 b1 b2 b3 b4 b5 c1 c2 c3 c4 c5
      refine (zgcd_v hx hy (by omega) (by omega) HG.out).mono ?_
      rintro e w23 ⟨s23, A23, n23, c23, rfl, pg, k23, B23⟩
      replace H_a := Lib.hid (H_a.out.below B23)
      replace H_b := Lib.hid (H_b.out.below B23)
      replace H_c := Lib.hid (H_c.out.below B23)
      replace hx := hx.below B23
      replace hy := hy.below B23
      replace hz := hz.below B23
      replace hW := hW.trans (B23.mono hW.size)
      clear B23
      have z24 := zba w23 (.cells #[.bool s23, .slice A23 n23 c23] 40)
      obtain ⟨w24, hw24⟩ : ∃ w', w' = w23.alloc (.cells #[.bool s23, .slice A23 n23 c23] 40) := ⟨_, rfl⟩
      have I24 : Ib w24 w23.heap.size s23 A23 n23 c23 := by rw [hw24]; exact Ib.new _ _ _ _ _ _
      rw [← hw24] at z24
      have HW24 := Lib.hid hw24.symm
      have O_a := H_a
      have lt_a_g : w.heap.size < w23.heap.size := H_a.out.2.2.2.2
      have O_b := H_b
      have lt_b_g : (w.heap.size + 1) < w23.heap.size := H_b.out.2.2.2.2
      have O_c := H_c
      have lt_c_g : (w.heap.size + 1 + 1) < w23.heap.size := H_c.out.2.2.2.2
      have lw_g : w.heap.size ≤ w23.heap.size := hW.size
      replace H_a := Lib.hid (H_a.out.below z24)
      replace H_b := Lib.hid (H_b.out.below z24)
      replace H_c := Lib.hid (H_c.out.below z24)
      replace hx := hx.below z24
      replace hy := hy.below z24
      replace hz := hz.below z24
      replace pg := pg.below z24
      replace hW := hW.trans (z24.mono hW.size)
      have H_g := Lib.hid I24
      clear z24 hw24 I24
      obtain ⟨a1, a2, a3, a4, a5⟩ := O_a.out
      obtain ⟨b1, b2, b3, b4, b5⟩ := O_b.out
      obtain ⟨c1, c2, c3, c4, c5⟩ := O_c.out
      go_wp2_with fail
      rw [HW24.out]
      clear a1 a2 a3 a4 a5 b1 b2 b3 b4 b5 c1 c2 c3 c4 c5 O_a O_b O_c
      obtain ⟨a1, a2, a3, a4, a5⟩ := H_a.out
      obtain ⟨b1, b2, b3, b4, b5⟩ := H_b.out
      obtain ⟨c1, c2, c3, c4, c5⟩ := H_c.out
      obtain ⟨g1, g2, g3, g4, g5⟩ := H_g.out
      go_region_held3 (fun w' => w'.cell? ⟨w.heap.size, 0, none⟩ = some (.bool s) ∧ w'.cell? ⟨w.heap.size, 1, none⟩ = some (.slice A n c) ∧ w'.cell? ⟨(w.heap.size + 1), 0, none⟩ = some (.bool t) ∧ w'.cell? ⟨(w.heap.size + 1), 1, none⟩ = some (.slice B m d) ∧ w'.cell? ⟨(w.heap.size + 1 + 1), 0, none⟩ = some (.bool u) ∧ w'.cell? ⟨(w.heap.size + 1 + 1), 1, none⟩ = some (.slice C l e') ∧ w'.cell? ⟨w23.heap.size, 0, none⟩ = some (.bool s23) ∧ w'.cell? ⟨w23.heap.size, 1, none⟩ = some (.slice A23 n23 c23)) (go_keep) (first
        | (go_at_call 31; (with_reducible refine (zneg_v (hx.below (below_drew _)) (by omega)).mono ?_); rintro e w25 ⟨s25, A25, n25, c25, rfl, p25, k25, B25⟩; have Q25 := zup (below_drew _) B25; obtain ⟨ax25, ay25, af25, ag25, az25⟩ := H_a.out.below Q25; obtain ⟨bx25, by25, bf25, bg25, bz25⟩ := H_b.out.below Q25; obtain ⟨cx25, cy25, cf25, cg25, cz25⟩ := H_c.out.below Q25; obtain ⟨gx25, gy25, gf25, gg25, gz25⟩ := H_g.out.below Q25)
        | (go_at_call 25; (with_reducible refine (zgcd_v p25.zv (hy.below Q25) (by omega) (by omega) HG1.out).mono ?_); rintro e w26 ⟨s26, A26, n26, c26, rfl, p26, k26, B26⟩; have Q26 := zup Q25 B26; obtain ⟨ax26, ay26, af26, ag26, az26⟩ := H_a.out.below Q26; obtain ⟨bx26, by26, bf26, bg26, bz26⟩ := H_b.out.below Q26; obtain ⟨cx26, cy26, cf26, cg26, cz26⟩ := H_c.out.below Q26; obtain ⟨gx26, gy26, gf26, gg26, gz26⟩ := H_g.out.below Q26)
        | (go_at_call 24; (with_reducible refine (zsame_yes (pg.below Q26).zv p26.zv (by omega) (by omega) rfl).mono ?_); rintro e w27 ⟨rfl, B27⟩; have Q27 := zup Q26 B27; obtain ⟨ax27, ay27, af27, ag27, az27⟩ := H_a.out.below Q27; obtain ⟨bx27, by27, bf27, bg27, bz27⟩ := H_b.out.below Q27; obtain ⟨cx27, cy27, cf27, cg27, cz27⟩ := H_c.out.below Q27; obtain ⟨gx27, gy27, gf27, gg27, gz27⟩ := H_g.out.below Q27)
        | (go_at_call 25; (with_reducible refine (zgcd_v (hy.below Q27) (hx.below Q27) (by omega) (by omega) HG2.out).mono ?_); rintro e w28 ⟨s28, A28, n28, c28, rfl, p28, k28, B28⟩; have Q28 := zup Q27 B28; obtain ⟨ax28, ay28, af28, ag28, az28⟩ := H_a.out.below Q28; obtain ⟨bx28, by28, bf28, bg28, bz28⟩ := H_b.out.below Q28; obtain ⟨cx28, cy28, cf28, cg28, cz28⟩ := H_c.out.below Q28; obtain ⟨gx28, gy28, gf28, gg28, gz28⟩ := H_g.out.below Q28)
        | (go_at_call 24; (with_reducible refine (zsame_yes (pg.below Q28).zv p28.zv (by omega) (by omega) rfl).mono ?_); rintro e w29 ⟨rfl, B29⟩; have Q29 := zup Q28 B29; obtain ⟨ax29, ay29, af29, ag29, az29⟩ := H_a.out.below Q29; obtain ⟨bx29, by29, bf29, bg29, bz29⟩ := H_b.out.below Q29; obtain ⟨cx29, cy29, cf29, cg29, cz29⟩ := H_c.out.below Q29; obtain ⟨gx29, gy29, gf29, gg29, gz29⟩ := H_g.out.below Q29)
        | fail)
      clear a1 a2 a3 a4 a5 b1 b2 b3 b4 b5 c1 c2 c3 c4 c5 g1 g2 g3 g4 g5 ax25 ay25 af25 ag25 az25 bx25 by25 bf25 bg25 bz25 cx25 cy25 cf25 cg25 cz25 gx25 gy25 gf25 gg25 gz25 ax26 ay26 af26 ag26 az26 bx26 by26 bf26 bg26 bz26 cx26 cy26 cf26 cg26 cz26 gx26 gy26 gf26 gg26 gz26 ax27 ay27 af27 ag27 az27 bx27 by27 bf27 bg27 bz27 cx27 cy27 cf27 cg27 cz27 gx27 gy27 gf27 gg27 gz27 ax28 ay28 af28 ag28 az28 bx28 by28 bf28 bg28 bz28 cx28 cy28 cf28 cg28 cz28 gx28 gy28 gf28 gg28 gz28 ax29 ay29 af29 ag29 az29 bx29 by29 bf29 bg29 bz29 cx29 cy29 cf29 cg29 cz29 gx29 gy29 gf29 gg29 gz29
      replace H_a := Lib.hid (H_a.out.below Q29)
      replace H_b := Lib.hid (H_b.out.below Q29)
      replace H_c := Lib.hid (H_c.out.below Q29)
      replace H_g := Lib.hid (H_g.out.below Q29)
      replace hx := hx.below Q29
      replace hy := hy.below Q29
      replace hz := hz.below Q29
      replace pg := pg.below Q29
      replace hW := hW.trans (Q29.mono hW.size)
      clear B25 Q25 B26 Q26 B27 Q27 B28 Q28 B29 Q29 p25 p26 p28
      have HSG : Hid (G.sign = 1) := Lib.hid (Int.sign_eq_one_of_pos (by omega))
      obtain ⟨a1, a2, a3, a4, a5⟩ := H_a.out
      obtain ⟨b1, b2, b3, b4, b5⟩ := H_b.out
      obtain ⟨c1, c2, c3, c4, c5⟩ := H_c.out
      obtain ⟨g1, g2, g3, g4, g5⟩ := H_g.out
      go_wp2_with fail
      clear a1 a2 a3 a4 a5 b1 b2 b3 b4 b5 c1 c2 c3 c4 c5 g1 g2 g3 g4 g5
      refine (zsign_v pg.zv (by omega) HSG.out).mono ?_
      rintro e w30 ⟨rfl, B30⟩
      replace H_a := Lib.hid (H_a.out.below B30)
      replace H_b := Lib.hid (H_b.out.below B30)
      replace H_c := Lib.hid (H_c.out.below B30)
      replace H_g := Lib.hid (H_g.out.below B30)
      replace hx := hx.below B30
      replace hy := hy.below B30
      replace hz := hz.below B30
      replace pg := pg.below B30
      replace hW := hW.trans (B30.mono hW.size)
      clear B30
      clear HSG
      obtain ⟨a1, a2, a3, a4, a5⟩ := H_a.out
      obtain ⟨b1, b2, b3, b4, b5⟩ := H_b.out
      obtain ⟨c1, c2, c3, c4, c5⟩ := H_c.out
      obtain ⟨g1, g2, g3, g4, g5⟩ := H_g.out
      go_wp2_with fail
      clear a1 a2 a3 a4 a5 b1 b2 b3 b4 b5 c1 c2 c3 c4 c5 g1 g2 g3 g4 g5
      refine (zexact_yes hx pg.zv (by omega) (by omega) hg0 HQ1.out).mono ?_
      rintro e w31 ⟨s31, A31, n31, c31, rfl, z1, k31, B31⟩
      replace H_a := Lib.hid (H_a.out.below B31)
      replace H_b := Lib.hid (H_b.out.below B31)
      replace H_c := Lib.hid (H_c.out.below B31)
      replace H_g := Lib.hid (H_g.out.below B31)
      replace hx := hx.below B31
      replace hy := hy.below B31
      replace hz := hz.below B31
      replace pg := pg.below B31
      replace hW := hW.trans (B31.mono hW.size)
      clear B31
      have z32 := zba w31 (.cells #[.bool s31, .slice A31 n31 c31] 40)
      obtain ⟨w32, hw32⟩ : ∃ w', w' = w31.alloc (.cells #[.bool s31, .slice A31 n31 c31] 40) := ⟨_, rfl⟩
      have I32 : Ib w32 w31.heap.size s31 A31 n31 c31 := by rw [hw32]; exact Ib.new _ _ _ _ _ _
      rw [← hw32] at z32
      have HW32 := Lib.hid hw32.symm
      have O_a := H_a
      have lt_a_qa : w.heap.size < w31.heap.size := H_a.out.2.2.2.2
      have O_b := H_b
      have lt_b_qa : (w.heap.size + 1) < w31.heap.size := H_b.out.2.2.2.2
      have O_c := H_c
      have lt_c_qa : (w.heap.size + 1 + 1) < w31.heap.size := H_c.out.2.2.2.2
      have O_g := H_g
      have lt_g_qa : w23.heap.size < w31.heap.size := H_g.out.2.2.2.2
      have lw_qa : w.heap.size ≤ w31.heap.size := hW.size
      replace H_a := Lib.hid (H_a.out.below z32)
      replace H_b := Lib.hid (H_b.out.below z32)
      replace H_c := Lib.hid (H_c.out.below z32)
      replace H_g := Lib.hid (H_g.out.below z32)
      replace hx := hx.below z32
      replace hy := hy.below z32
      replace hz := hz.below z32
      replace pg := pg.below z32
      replace z1 := z1.below z32
      replace hW := hW.trans (z32.mono hW.size)
      have H_qa := Lib.hid I32
      clear z32 hw32 I32
      obtain ⟨a1, a2, a3, a4, a5⟩ := O_a.out
      obtain ⟨b1, b2, b3, b4, b5⟩ := O_b.out
      obtain ⟨c1, c2, c3, c4, c5⟩ := O_c.out
      obtain ⟨g1, g2, g3, g4, g5⟩ := O_g.out
      go_wp2_with fail
      rw [HW32.out]
      clear a1 a2 a3 a4 a5 b1 b2 b3 b4 b5 c1 c2 c3 c4 c5 g1 g2 g3 g4 g5 O_a O_b O_c O_g
      refine (zexact_yes hy pg.zv (by omega) (by omega) hg0 HQ2.out).mono ?_
      rintro e w33 ⟨s33, A33, n33, c33, rfl, z2, k33, B33⟩
      replace H_a := Lib.hid (H_a.out.below B33)
      replace H_b := Lib.hid (H_b.out.below B33)
      replace H_c := Lib.hid (H_c.out.below B33)
      replace H_g := Lib.hid (H_g.out.below B33)
      replace H_qa := Lib.hid (H_qa.out.below B33)
      replace hx := hx.below B33
      replace hy := hy.below B33
      replace hz := hz.below B33
      replace pg := pg.below B33
      replace z1 := z1.below B33
      replace hW := hW.trans (B33.mono hW.size)
      clear B33
      have z34 := zba w33 (.cells #[.bool s33, .slice A33 n33 c33] 40)
      obtain ⟨w34, hw34⟩ : ∃ w', w' = w33.alloc (.cells #[.bool s33, .slice A33 n33 c33] 40) := ⟨_, rfl⟩
      have I34 : Ib w34 w33.heap.size s33 A33 n33 c33 := by rw [hw34]; exact Ib.new _ _ _ _ _ _
      rw [← hw34] at z34
      have HW34 := Lib.hid hw34.symm
      have O_a := H_a
      have lt_a_qb : w.heap.size < w33.heap.size := H_a.out.2.2.2.2
      have O_b := H_b
      have lt_b_qb : (w.heap.size + 1) < w33.heap.size := H_b.out.2.2.2.2
      have O_c := H_c
      have lt_c_qb : (w.heap.size + 1 + 1) < w33.heap.size := H_c.out.2.2.2.2
      have O_g := H_g
      have lt_g_qb : w23.heap.size < w33.heap.size := H_g.out.2.2.2.2
      have O_qa := H_qa
      have lt_qa_qb : w31.heap.size < w33.heap.size := H_qa.out.2.2.2.2
      have lw_qb : w.heap.size ≤ w33.heap.size := hW.size
      replace H_a := Lib.hid (H_a.out.below z34)
      replace H_b := Lib.hid (H_b.out.below z34)
      replace H_c := Lib.hid (H_c.out.below z34)
      replace H_g := Lib.hid (H_g.out.below z34)
      replace H_qa := Lib.hid (H_qa.out.below z34)
      replace hx := hx.below z34
      replace hy := hy.below z34
      replace hz := hz.below z34
      replace pg := pg.below z34
      replace z1 := z1.below z34
      replace z2 := z2.below z34
      replace hW := hW.trans (z34.mono hW.size)
      have H_qb := Lib.hid I34
      clear z34 hw34 I34
      clear z1 z2
      clear H_qa H_qb
      obtain ⟨a1, a2, a3, a4, a5⟩ := O_a.out
      obtain ⟨b1, b2, b3, b4, b5⟩ := O_b.out
      obtain ⟨c1, c2, c3, c4, c5⟩ := O_c.out
      obtain ⟨g1, g2, g3, g4, g5⟩ := O_g.out
      obtain ⟨qa1, qa2, qa3, qa4, qa5⟩ := O_qa.out
      go_wp2_with fail
      rw [HW34.out]
      clear a1 a2 a3 a4 a5 b1 b2 b3 b4 b5 c1 c2 c3 c4 c5 g1 g2 g3 g4 g5 qa1 qa2 qa3 qa4 qa5 O_a O_b O_c O_g O_qa
      go_upto_region 10 with fail
      go_cut [12] (VarCut w34 (G * ((z.natAbs : Nat) : Int)) 20)
      case first =>
        obtain ⟨a1, a2, a3, a4, a5⟩ := H_a.out
        obtain ⟨b1, b2, b3, b4, b5⟩ := H_b.out
        obtain ⟨c1, c2, c3, c4, c5⟩ := H_c.out
        obtain ⟨g1, g2, g3, g4, g5⟩ := H_g.out
        have an : ¬ (w34.heap.size = w.heap.size) := by omega
        have am : ¬ (w.heap.size = w34.heap.size) := by omega
        have bn : ¬ (w34.heap.size = (w.heap.size + 1)) := by omega
        have bm : ¬ ((w.heap.size + 1) = w34.heap.size) := by omega
        have cn : ¬ (w34.heap.size = (w.heap.size + 1 + 1)) := by omega
        have cm : ¬ ((w.heap.size + 1 + 1) = w34.heap.size) := by omega
        have gn : ¬ (w34.heap.size = w23.heap.size) := by omega
        have gm : ¬ (w23.heap.size = w34.heap.size) := by omega
        go_region_held3 (fun w' => w'.cell? ⟨w.heap.size, 0, none⟩ = some (.bool s) ∧ w'.cell? ⟨w.heap.size, 1, none⟩ = some (.slice A n c) ∧ w'.cell? ⟨(w.heap.size + 1), 0, none⟩ = some (.bool t) ∧ w'.cell? ⟨(w.heap.size + 1), 1, none⟩ = some (.slice B m d) ∧ w'.cell? ⟨(w.heap.size + 1 + 1), 0, none⟩ = some (.bool u) ∧ w'.cell? ⟨(w.heap.size + 1 + 1), 1, none⟩ = some (.slice C l e') ∧ w'.cell? ⟨w23.heap.size, 0, none⟩ = some (.bool s23) ∧ w'.cell? ⟨w23.heap.size, 1, none⟩ = some (.slice A23 n23 c23)) (go_keep) (first
          | (go_at_call 23; (with_reducible refine (zmul_v (hx.below (below_drew _)) (hz.below (below_drew _)) (by omega) (by omega)).mono ?_); rintro e w35 ⟨s35, A35, n35, c35, rfl, p35, k35, B35⟩; have Q35 := zup (below_drew _) B35; obtain ⟨ax35, ay35, af35, ag35, az35⟩ := H_a.out.below Q35; have an35 : ¬ (w35.heap.size = w.heap.size) := (by omega); have am35 : ¬ (w.heap.size = w35.heap.size) := (by omega); obtain ⟨bx35, by35, bf35, bg35, bz35⟩ := H_b.out.below Q35; have bn35 : ¬ (w35.heap.size = (w.heap.size + 1)) := (by omega); have bm35 : ¬ ((w.heap.size + 1) = w35.heap.size) := (by omega); obtain ⟨cx35, cy35, cf35, cg35, cz35⟩ := H_c.out.below Q35; have cn35 : ¬ (w35.heap.size = (w.heap.size + 1 + 1)) := (by omega); have cm35 : ¬ ((w.heap.size + 1 + 1) = w35.heap.size) := (by omega); obtain ⟨gx35, gy35, gf35, gg35, gz35⟩ := H_g.out.below Q35; have gn35 : ¬ (w35.heap.size = w23.heap.size) := (by omega); have gm35 : ¬ (w23.heap.size = w35.heap.size) := (by omega))
          | (go_at_call 23; (with_reducible refine (zmul_v (hx.below (zbd _ _)) (hz.below (zbd _ _)) (by omega) (by omega)).mono ?_); rintro e w35 ⟨s35, A35, n35, c35, rfl, p35, k35, B35⟩; have Q35 := zup (zbd _ _) B35; have J35 := (Ib.newd w34 false none 0 0 40).below B35; have g35 := Nat.le_refl w34.heap.size; obtain ⟨ax35, ay35, af35, ag35, az35⟩ := H_a.out.below Q35; have an35 : ¬ (w35.heap.size = w.heap.size) := (by omega); have am35 : ¬ (w.heap.size = w35.heap.size) := (by omega); obtain ⟨bx35, by35, bf35, bg35, bz35⟩ := H_b.out.below Q35; have bn35 : ¬ (w35.heap.size = (w.heap.size + 1)) := (by omega); have bm35 : ¬ ((w.heap.size + 1) = w35.heap.size) := (by omega); obtain ⟨cx35, cy35, cf35, cg35, cz35⟩ := H_c.out.below Q35; have cn35 : ¬ (w35.heap.size = (w.heap.size + 1 + 1)) := (by omega); have cm35 : ¬ ((w.heap.size + 1 + 1) = w35.heap.size) := (by omega); obtain ⟨gx35, gy35, gf35, gg35, gz35⟩ := H_g.out.below Q35; have gn35 : ¬ (w35.heap.size = w23.heap.size) := (by omega); have gm35 : ¬ (w23.heap.size = w35.heap.size) := (by omega); have Jc35 := J35; obtain ⟨jx35, jy35, jf35, jg35, jz35⟩ := Jc35)
          | (go_at_call 23; (with_reducible refine (zmul_v (hy.below Q35) (hz.below Q35) (by omega) (by omega)).mono ?_); rintro e w36 ⟨s36, A36, n36, c36, rfl, p36, k36, B36⟩; have Q36 := zup Q35 B36; have R36 := B36; have J36 := J35.below B36; have g36 := g35; obtain ⟨ax36, ay36, af36, ag36, az36⟩ := H_a.out.below Q36; have an36 : ¬ (w36.heap.size = w.heap.size) := (by omega); have am36 : ¬ (w.heap.size = w36.heap.size) := (by omega); obtain ⟨bx36, by36, bf36, bg36, bz36⟩ := H_b.out.below Q36; have bn36 : ¬ (w36.heap.size = (w.heap.size + 1)) := (by omega); have bm36 : ¬ ((w.heap.size + 1) = w36.heap.size) := (by omega); obtain ⟨cx36, cy36, cf36, cg36, cz36⟩ := H_c.out.below Q36; have cn36 : ¬ (w36.heap.size = (w.heap.size + 1 + 1)) := (by omega); have cm36 : ¬ ((w.heap.size + 1 + 1) = w36.heap.size) := (by omega); obtain ⟨gx36, gy36, gf36, gg36, gz36⟩ := H_g.out.below Q36; have gn36 : ¬ (w36.heap.size = w23.heap.size) := (by omega); have gm36 : ¬ (w23.heap.size = w36.heap.size) := (by omega); have Jc36 := J36; obtain ⟨jx36, jy36, jf36, jg36, jz36⟩ := Jc36)
          | (go_at_call 23; (with_reducible refine (zmul_v (hy.below Q35) (hz.below Q35) (by omega) (by omega)).mono ?_); rintro e w36 ⟨s36, A36, n36, c36, rfl, p36, k36, B36⟩; have Q36 := zup Q35 B36; have R36 := B36; obtain ⟨ax36, ay36, af36, ag36, az36⟩ := H_a.out.below Q36; have an36 : ¬ (w36.heap.size = w.heap.size) := (by omega); have am36 : ¬ (w.heap.size = w36.heap.size) := (by omega); obtain ⟨bx36, by36, bf36, bg36, bz36⟩ := H_b.out.below Q36; have bn36 : ¬ (w36.heap.size = (w.heap.size + 1)) := (by omega); have bm36 : ¬ ((w.heap.size + 1) = w36.heap.size) := (by omega); obtain ⟨cx36, cy36, cf36, cg36, cz36⟩ := H_c.out.below Q36; have cn36 : ¬ (w36.heap.size = (w.heap.size + 1 + 1)) := (by omega); have cm36 : ¬ ((w.heap.size + 1 + 1) = w36.heap.size) := (by omega); obtain ⟨gx36, gy36, gf36, gg36, gz36⟩ := H_g.out.below Q36; have gn36 : ¬ (w36.heap.size = w23.heap.size) := (by omega); have gm36 : ¬ (w23.heap.size = w36.heap.size) := (by omega))
          | (go_at_call 23; (with_reducible refine (zmul_v (hy.below (zup Q35 (zba _ _))) (hz.below (zup Q35 (zba _ _))) (by omega) (by omega)).mono ?_); rintro e w36 ⟨s36, A36, n36, c36, rfl, p36, k36, B36⟩; have Q36 := zup (zup Q35 (zba _ _)) B36; have R36 := zup (zba w35 _) B36; have J36 := (Ib.new w35 false none 0 0 40).below B36; have g36 := Q35.size; obtain ⟨ax36, ay36, af36, ag36, az36⟩ := H_a.out.below Q36; have an36 : ¬ (w36.heap.size = w.heap.size) := (by omega); have am36 : ¬ (w.heap.size = w36.heap.size) := (by omega); obtain ⟨bx36, by36, bf36, bg36, bz36⟩ := H_b.out.below Q36; have bn36 : ¬ (w36.heap.size = (w.heap.size + 1)) := (by omega); have bm36 : ¬ ((w.heap.size + 1) = w36.heap.size) := (by omega); obtain ⟨cx36, cy36, cf36, cg36, cz36⟩ := H_c.out.below Q36; have cn36 : ¬ (w36.heap.size = (w.heap.size + 1 + 1)) := (by omega); have cm36 : ¬ ((w.heap.size + 1 + 1) = w36.heap.size) := (by omega); obtain ⟨gx36, gy36, gf36, gg36, gz36⟩ := H_g.out.below Q36; have gn36 : ¬ (w36.heap.size = w23.heap.size) := (by omega); have gm36 : ¬ (w23.heap.size = w36.heap.size) := (by omega); have Jc36 := J36; obtain ⟨jx36, jy36, jf36, jg36, jz36⟩ := Jc36)
          | (go_at_call 25; (with_reducible refine (zgcd_v (p35.below R36).zv p36.zv (by omega) (by omega) HG3.out).mono ?_); rintro e w37 ⟨s37, A37, n37, c37, rfl, p37, k37, B37⟩; have Q37 := zup Q36 B37; have R37 := B37; have J37 := J36.below B37; have g37 := g36; obtain ⟨ax37, ay37, af37, ag37, az37⟩ := H_a.out.below Q37; have an37 : ¬ (w37.heap.size = w.heap.size) := (by omega); have am37 : ¬ (w.heap.size = w37.heap.size) := (by omega); obtain ⟨bx37, by37, bf37, bg37, bz37⟩ := H_b.out.below Q37; have bn37 : ¬ (w37.heap.size = (w.heap.size + 1)) := (by omega); have bm37 : ¬ ((w.heap.size + 1) = w37.heap.size) := (by omega); obtain ⟨cx37, cy37, cf37, cg37, cz37⟩ := H_c.out.below Q37; have cn37 : ¬ (w37.heap.size = (w.heap.size + 1 + 1)) := (by omega); have cm37 : ¬ ((w.heap.size + 1 + 1) = w37.heap.size) := (by omega); obtain ⟨gx37, gy37, gf37, gg37, gz37⟩ := H_g.out.below Q37; have gn37 : ¬ (w37.heap.size = w23.heap.size) := (by omega); have gm37 : ¬ (w23.heap.size = w37.heap.size) := (by omega); have Jc37 := J37; obtain ⟨jx37, jy37, jf37, jg37, jz37⟩ := Jc37)
          | (go_at_call 25; (with_reducible refine (zgcd_v (p35.below R36).zv p36.zv (by omega) (by omega) HG3.out).mono ?_); rintro e w37 ⟨s37, A37, n37, c37, rfl, p37, k37, B37⟩; have Q37 := zup Q36 B37; have R37 := B37; obtain ⟨ax37, ay37, af37, ag37, az37⟩ := H_a.out.below Q37; have an37 : ¬ (w37.heap.size = w.heap.size) := (by omega); have am37 : ¬ (w.heap.size = w37.heap.size) := (by omega); obtain ⟨bx37, by37, bf37, bg37, bz37⟩ := H_b.out.below Q37; have bn37 : ¬ (w37.heap.size = (w.heap.size + 1)) := (by omega); have bm37 : ¬ ((w.heap.size + 1) = w37.heap.size) := (by omega); obtain ⟨cx37, cy37, cf37, cg37, cz37⟩ := H_c.out.below Q37; have cn37 : ¬ (w37.heap.size = (w.heap.size + 1 + 1)) := (by omega); have cm37 : ¬ ((w.heap.size + 1 + 1) = w37.heap.size) := (by omega); obtain ⟨gx37, gy37, gf37, gg37, gz37⟩ := H_g.out.below Q37; have gn37 : ¬ (w37.heap.size = w23.heap.size) := (by omega); have gm37 : ¬ (w23.heap.size = w37.heap.size) := (by omega))
          | (go_at_call 25; (with_reducible refine (zgcd_v ((p35.below R36).below (zba _ _)).zv (p36.below (zba _ _)).zv (by omega) (by omega) HG3.out).mono ?_); rintro e w37 ⟨s37, A37, n37, c37, rfl, p37, k37, B37⟩; have Q37 := zup (zup Q36 (zba _ _)) B37; have R37 := zup (zba w36 _) B37; have J37 := (Ib.new w36 false none 0 0 40).below B37; have g37 := Q36.size; obtain ⟨ax37, ay37, af37, ag37, az37⟩ := H_a.out.below Q37; have an37 : ¬ (w37.heap.size = w.heap.size) := (by omega); have am37 : ¬ (w.heap.size = w37.heap.size) := (by omega); obtain ⟨bx37, by37, bf37, bg37, bz37⟩ := H_b.out.below Q37; have bn37 : ¬ (w37.heap.size = (w.heap.size + 1)) := (by omega); have bm37 : ¬ ((w.heap.size + 1) = w37.heap.size) := (by omega); obtain ⟨cx37, cy37, cf37, cg37, cz37⟩ := H_c.out.below Q37; have cn37 : ¬ (w37.heap.size = (w.heap.size + 1 + 1)) := (by omega); have cm37 : ¬ ((w.heap.size + 1 + 1) = w37.heap.size) := (by omega); obtain ⟨gx37, gy37, gf37, gg37, gz37⟩ := H_g.out.below Q37; have gn37 : ¬ (w37.heap.size = w23.heap.size) := (by omega); have gm37 : ¬ (w23.heap.size = w37.heap.size) := (by omega); have Jc37 := J37; obtain ⟨jx37, jy37, jf37, jg37, jz37⟩ := Jc37)
          | fail)
        all_goals
          first
          | have P := Lib.hid (VarCut.put (w0 := w34) (z := (G * ((z.natAbs : Nat) : Int))) (k := 20) J37 p37 Q37 g37 (by omega))
          | have P := Lib.hid (VarCut.new (w0 := w34) (z := (G * ((z.natAbs : Nat) : Int))) (k := 20) (t := 40) p37 Q37 (by omega))
          go_wp2_with fail
          go_meet
          exact P.out
      case rest =>
        obtain ⟨g38, s38, A38, n38, c38, rfl, hg38, I38, p38, k38, B38⟩ := hcut
        obtain ⟨w38, hw38⟩ : ∃ x, x = wc := ⟨_, rfl⟩
        subst hw38
        have lt_a_h : w.heap.size < g38 := Nat.lt_of_lt_of_le H_a.out.2.2.2.2 hg38
        have lt_b_h : (w.heap.size + 1) < g38 := Nat.lt_of_lt_of_le H_b.out.2.2.2.2 hg38
        have lt_c_h : (w.heap.size + 1 + 1) < g38 := Nat.lt_of_lt_of_le H_c.out.2.2.2.2 hg38
        have lt_g_h : w23.heap.size < g38 := Nat.lt_of_lt_of_le H_g.out.2.2.2.2 hg38
        have lw_h : w.heap.size ≤ g38 := Nat.le_trans hW.size hg38
        replace H_a := Lib.hid (H_a.out.below B38)
        replace H_b := Lib.hid (H_b.out.below B38)
        replace H_c := Lib.hid (H_c.out.below B38)
        replace H_g := Lib.hid (H_g.out.below B38)
        replace hx := hx.below B38
        replace hy := hy.below B38
        replace hz := hz.below B38
        replace pg := pg.below B38
        replace hW := hW.trans (B38.mono hW.size)
        have H_h := Lib.hid I38
        clear B38 I38 hg38
        have ph := p38
        clear p38
        obtain ⟨a1, a2, a3, a4, a5⟩ := H_a.out
        obtain ⟨b1, b2, b3, b4, b5⟩ := H_b.out
        obtain ⟨c1, c2, c3, c4, c5⟩ := H_c.out
        obtain ⟨g1, g2, g3, g4, g5⟩ := H_g.out
        obtain ⟨h1, h2, h3, h4, h5⟩ := H_h.out
        go_wp2_with fail
        clear a1 a2 a3 a4 a5 b1 b2 b3 b4 b5 c1 c2 c3 c4 c5 g1 g2 g3 g4 g5 h1 h2 h3 h4 h5
        obtain ⟨a1, a2, a3, a4, a5⟩ := H_a.out
        obtain ⟨b1, b2, b3, b4, b5⟩ := H_b.out
        obtain ⟨c1, c2, c3, c4, c5⟩ := H_c.out
        obtain ⟨g1, g2, g3, g4, g5⟩ := H_g.out
        obtain ⟨h1, h2, h3, h4, h5⟩ := H_h.out
        go_region_held3 (fun w' => w'.cell? ⟨w.heap.size, 0, none⟩ = some (.bool s) ∧ w'.cell? ⟨w.heap.size, 1, none⟩ = some (.slice A n c) ∧ w'.cell? ⟨(w.heap.size + 1), 0, none⟩ = some (.bool t) ∧ w'.cell? ⟨(w.heap.size + 1), 1, none⟩ = some (.slice B m d) ∧ w'.cell? ⟨(w.heap.size + 1 + 1), 0, none⟩ = some (.bool u) ∧ w'.cell? ⟨(w.heap.size + 1 + 1), 1, none⟩ = some (.slice C l e') ∧ w'.cell? ⟨w23.heap.size, 0, none⟩ = some (.bool s23) ∧ w'.cell? ⟨w23.heap.size, 1, none⟩ = some (.slice A23 n23 c23) ∧ w'.cell? ⟨g38, 0, none⟩ = some (.bool s38) ∧ w'.cell? ⟨g38, 1, none⟩ = some (.slice A38 n38 c38)) (go_keep) (first
          | (go_at_call 29; (with_reducible refine (zabs_v (hz.below (below_drew _)) (by omega)).mono ?_); rintro e w39 ⟨s39, A39, n39, c39, rfl, p39, k39, B39⟩; have Q39 := zup (below_drew _) B39; obtain ⟨ax39, ay39, af39, ag39, az39⟩ := H_a.out.below Q39; obtain ⟨bx39, by39, bf39, bg39, bz39⟩ := H_b.out.below Q39; obtain ⟨cx39, cy39, cf39, cg39, cz39⟩ := H_c.out.below Q39; obtain ⟨gx39, gy39, gf39, gg39, gz39⟩ := H_g.out.below Q39; obtain ⟨hx39, hy39, hf39, hg39, hz39⟩ := H_h.out.below Q39)
          | (go_at_call 23; (with_reducible refine (zmul_v (pg.below Q39).zv p39.zv (by omega) (by omega)).mono ?_); rintro e w40 ⟨s40, A40, n40, c40, rfl, p40, k40, B40⟩; have Q40 := zup Q39 B40; obtain ⟨ax40, ay40, af40, ag40, az40⟩ := H_a.out.below Q40; obtain ⟨bx40, by40, bf40, bg40, bz40⟩ := H_b.out.below Q40; obtain ⟨cx40, cy40, cf40, cg40, cz40⟩ := H_c.out.below Q40; obtain ⟨gx40, gy40, gf40, gg40, gz40⟩ := H_g.out.below Q40; obtain ⟨hx40, hy40, hf40, hg40, hz40⟩ := H_h.out.below Q40)
          | (go_at_call 24; (with_reducible refine (zsame_yes (ph.below Q40).zv p40.zv (by omega) (by omega) rfl).mono ?_); rintro e w41 ⟨rfl, B41⟩; have Q41 := zup Q40 B41; obtain ⟨ax41, ay41, af41, ag41, az41⟩ := H_a.out.below Q41; obtain ⟨bx41, by41, bf41, bg41, bz41⟩ := H_b.out.below Q41; obtain ⟨cx41, cy41, cf41, cg41, cz41⟩ := H_c.out.below Q41; obtain ⟨gx41, gy41, gf41, gg41, gz41⟩ := H_g.out.below Q41; obtain ⟨hx41, hy41, hf41, hg41, hz41⟩ := H_h.out.below Q41)
          | fail)
        clear a1 a2 a3 a4 a5 b1 b2 b3 b4 b5 c1 c2 c3 c4 c5 g1 g2 g3 g4 g5 h1 h2 h3 h4 h5 ax39 ay39 af39 ag39 az39 bx39 by39 bf39 bg39 bz39 cx39 cy39 cf39 cg39 cz39 gx39 gy39 gf39 gg39 gz39 hx39 hy39 hf39 hg39 hz39 ax40 ay40 af40 ag40 az40 bx40 by40 bf40 bg40 bz40 cx40 cy40 cf40 cg40 cz40 gx40 gy40 gf40 gg40 gz40 hx40 hy40 hf40 hg40 hz40 ax41 ay41 af41 ag41 az41 bx41 by41 bf41 bg41 bz41 cx41 cy41 cf41 cg41 cz41 gx41 gy41 gf41 gg41 gz41 hx41 hy41 hf41 hg41 hz41
        replace H_a := Lib.hid (H_a.out.below Q41)
        replace H_b := Lib.hid (H_b.out.below Q41)
        replace H_c := Lib.hid (H_c.out.below Q41)
        replace H_g := Lib.hid (H_g.out.below Q41)
        replace H_h := Lib.hid (H_h.out.below Q41)
        replace hx := hx.below Q41
        replace hy := hy.below Q41
        replace hz := hz.below Q41
        replace pg := pg.below Q41
        replace ph := ph.below Q41
        replace hW := hW.trans (Q41.mono hW.size)
        clear B39 Q39 B40 Q40 B41 Q41 p39 p40
        go_wp2_with fail
        go_ret
        exact ⟨rfl, hW⟩
  · go_enter Try.func7, Try.ntmps7
    obtain ⟨a1, a2, a3, a4, a5⟩ := H_a.out
    obtain ⟨b1, b2, b3, b4, b5⟩ := H_b.out
    obtain ⟨c1, c2, c3, c4, c5⟩ := H_c.out
    go_wp2_with fail
    rw [HW.out]
    clear a1 a2 a3 a4 a5 b1 b2 b3 b4 b5 c1 c2 c3 c4 c5
    refine (zawake_calls _).mono ?_
    rintro e w21 ⟨rfl, B21⟩
    replace H_a := Lib.hid (H_a.out.below B21)
    replace H_b := Lib.hid (H_b.out.below B21)
    replace H_c := Lib.hid (H_c.out.below B21)
    replace hx := hx.below B21
    replace hy := hy.below B21
    replace hz := hz.below B21
    replace hW := hW.trans (B21.mono hW.size)
    clear B21
    obtain ⟨a1, a2, a3, a4, a5⟩ := H_a.out
    obtain ⟨b1, b2, b3, b4, b5⟩ := H_b.out
    obtain ⟨c1, c2, c3, c4, c5⟩ := H_c.out
    go_wp2_with fail
    clear a1 a2 a3 a4 a5 b1 b2 b3 b4 b5 c1 c2 c3 c4 c5
    refine (zfew_v (k := 5) (b := false) hn hm hl (by omega) (by rw [decide_eq_false_iff_not]; exact h)).mono ?_
    rintro e w22 ⟨rfl, B22⟩
    replace H_a := Lib.hid (H_a.out.below B22)
    replace H_b := Lib.hid (H_b.out.below B22)
    replace H_c := Lib.hid (H_c.out.below B22)
    replace hx := hx.below B22
    replace hy := hy.below B22
    replace hz := hz.below B22
    replace hW := hW.trans (B22.mono hW.size)
    clear B22
    obtain ⟨a1, a2, a3, a4, a5⟩ := H_a.out
    obtain ⟨b1, b2, b3, b4, b5⟩ := H_b.out
    obtain ⟨c1, c2, c3, c4, c5⟩ := H_c.out
    go_wp2_with fail
    clear a1 a2 a3 a4 a5 b1 b2 b3 b4 b5 c1 c2 c3 c4 c5
    refine (zawake_calls _).mono ?_
    rintro e w23 ⟨rfl, B23⟩
    replace H_a := Lib.hid (H_a.out.below B23)
    replace H_b := Lib.hid (H_b.out.below B23)
    replace H_c := Lib.hid (H_c.out.below B23)
    replace hx := hx.below B23
    replace hy := hy.below B23
    replace hz := hz.below B23
    replace hW := hW.trans (B23.mono hW.size)
    clear B23
    go_wp2_with fail
    go_ret
    exact ⟨rfl, hW⟩
end Go.Proofs.Ytnnohfkocaajfaa
