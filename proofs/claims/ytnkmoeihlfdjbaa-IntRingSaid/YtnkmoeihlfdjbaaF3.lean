/-
  The walk of IntRing.
-/
import Derived.Test.YtnkmoeihlfdjbaaZintD
/-! The walk of IntRing. -/
namespace Go.Proofs.Ytnkmoeihlfdjbaa
open Go.RowKit
set_option linter.unusedVariables false
set_option linter.unusedSimpArgs false

/-- Three whole numbers in new memory. -/
theorem openp3 (w : World) (s t u : Bool) (A B C : Option Addr) (n c m d l e : Nat) :
    ∃ w3, w3 = (((w.alloc (.cells #[.bool s, .slice A n c] 25)).alloc (.cells #[.bool t, .slice B m d] 25)).alloc (.cells #[.bool u, .slice C l e] 25)) ∧
      Ib w3 w.heap.size s A n c ∧ Ib w3 (w.heap.size + 1) t B m d ∧ Ib w3 (w.heap.size + 1 + 1) u C l e ∧ Below w.heap.size w w3 := by
  obtain ⟨w2, hw2, IA, IB, z⟩ := open2 w s t A B n c m d
  have e1 : w2.heap.size = w.heap.size + 1 + 1 := by rw [hw2]; simp
  refine ⟨w2.alloc (.cells #[.bool u, .slice C l e] 25), by rw [hw2], IA.below (zba _ _), IB.below (zba _ _), ?_, zup z (zba _ _)⟩
  rw [← e1]
  exact Ib.new _ _ _ _ _ _
theorem cube (x : Int) : x ^ 3 = x * (x * x) := by rw [Int.pow_succ, Int.pow_succ, Int.pow_succ, Int.pow_zero, Int.one_mul, Int.mul_assoc]
set_option maxRecDepth 100000 in
set_option maxHeartbeats 2000000 in
theorem iring_calls (A B C : Option Addr) (n m l c d e' : Nat) (s t u : Bool) (x y z : Int) (w : World) (hx : Zv w s A n c x) (hy : Zv w t B m d y) (hz : Zv w u C l e' z) (hn : n ≤ 9223372036854775807) (hm : m ≤ 9223372036854775807) (hl : l ≤ 9223372036854775807) :
    Calls Try.prog 10 #[.agg #[.bool s, .slice A n c], .agg #[.bool t, .slice B m d], .agg #[.bool u, .slice C l e']] w (TruePost w) := by
  obtain ⟨w3, hw3, IA, IB, IC, z0⟩ := openp3 w s t u A B C n c m d l e'
  have HW := Lib.hid hw3.symm
  replace hx := hx.below z0
  replace hy := hy.below z0
  replace hz := hz.below z0
  have hW := z0
  have H_a := Lib.hid IA
  have H_b := Lib.hid IB
  have H_c := Lib.hid IC
  clear hw3 IA IB IC z0
  by_cases h : n ≤ 5 ∧ m ≤ 5 ∧ l ≤ 5
  · obtain ⟨h1, h2, h3⟩ := h
    go_enter Try.func10, Try.ntmps10
    obtain ⟨a1, a2, a3, a4, a5⟩ := H_a.out
    obtain ⟨b1, b2, b3, b4, b5⟩ := H_b.out
    obtain ⟨c1, c2, c3, c4, c5⟩ := H_c.out
    go_wp2_with fail
    rw [HW.out]
    clear a1 a2 a3 a4 a5 b1 b2 b3 b4 b5 c1 c2 c3 c4 c5
    refine (zawake_calls _).mono ?_
    rintro e w21 ⟨rfl, B21⟩
    replace H_a := Lib.hid (H_a.out.below B21)
    replace H_b := Lib.hid (H_b.out.below B21)
    replace H_c := Lib.hid (H_c.out.below B21)
    replace hx := hx.below B21
    replace hy := hy.below B21
    replace hz := hz.below B21
    replace hW := hW.trans (B21.mono hW.size)
    clear B21
    obtain ⟨a1, a2, a3, a4, a5⟩ := H_a.out
    obtain ⟨b1, b2, b3, b4, b5⟩ := H_b.out
    obtain ⟨c1, c2, c3, c4, c5⟩ := H_c.out
    go_wp2_with fail
    clear a1 a2 a3 a4 a5 b1 b2 b3 b4 b5 c1 c2 c3 c4 c5
    refine (zfew_v (k := 5) (b := true) hn hm hl (by omega) (by rw [decide_eq_true_iff]; omega)).mono ?_
    rintro e w22 ⟨rfl, B22⟩
    replace H_a := Lib.hid (H_a.out.below B22)
    replace H_b := Lib.hid (H_b.out.below B22)
    replace H_c := Lib.hid (H_c.out.below B22)
    replace hx := hx.below B22
    replace hy := hy.below B22
    replace hz := hz.below B22
    replace hW := hW.trans (B22.mono hW.size)
    clear B22
    obtain ⟨a1, a2, a3, a4, a5⟩ := H_a.out
    obtain ⟨b1, b2, b3, b4, b5⟩ := H_b.out
    obtain ⟨c1, c2, c3, c4, c5⟩ := H_c.out
    go_wp2_with fail
    clear a1 a2 a3 a4 a5 b1 b2 b3 b4 b5 c1 c2 c3 c4 c5
    go_upto_region 3 with fail
    go_cut [7] (VarCut w22 (x * (y + z)) 20)
    case first =>
      obtain ⟨a1, a2, a3, a4, a5⟩ := H_a.out
      obtain ⟨b1, b2, b3, b4, b5⟩ := H_b.out
      obtain ⟨c1, c2, c3, c4, c5⟩ := H_c.out
      have an : ¬ (w22.heap.size = w.heap.size) := by omega
      have am : ¬ (w.heap.size = w22.heap.size) := by omega
      have bn : ¬ (w22.heap.size = (w.heap.size + 1)) := by omega
      have bm : ¬ ((w.heap.size + 1) = w22.heap.size) := by omega
      have cn : ¬ (w22.heap.size = (w.heap.size + 1 + 1)) := by omega
      have cm : ¬ ((w.heap.size + 1 + 1) = w22.heap.size) := by omega
      go_region_held3 (fun w' => w'.cell? ⟨w.heap.size, 0, none⟩ = some (.bool s) ∧ w'.cell? ⟨w.heap.size, 1, none⟩ = some (.slice A n c) ∧ w'.cell? ⟨(w.heap.size + 1), 0, none⟩ = some (.bool t) ∧ w'.cell? ⟨(w.heap.size + 1), 1, none⟩ = some (.slice B m d) ∧ w'.cell? ⟨(w.heap.size + 1 + 1), 0, none⟩ = some (.bool u) ∧ w'.cell? ⟨(w.heap.size + 1 + 1), 1, none⟩ = some (.slice C l e')) (go_keep) (first
        | (go_at_call 15; (with_reducible refine (zadd_v (hy.below (below_drew _)) (hz.below (below_drew _)) (by omega) (by omega)).mono ?_); rintro e w23 ⟨s23, A23, n23, c23, rfl, p23, k23, B23⟩; have Q23 := zup (below_drew _) B23; obtain ⟨ax23, ay23, af23, ag23, az23⟩ := H_a.out.below Q23; have an23 : ¬ (w23.heap.size = w.heap.size) := (by omega); have am23 : ¬ (w.heap.size = w23.heap.size) := (by omega); obtain ⟨bx23, by23, bf23, bg23, bz23⟩ := H_b.out.below Q23; have bn23 : ¬ (w23.heap.size = (w.heap.size + 1)) := (by omega); have bm23 : ¬ ((w.heap.size + 1) = w23.heap.size) := (by omega); obtain ⟨cx23, cy23, cf23, cg23, cz23⟩ := H_c.out.below Q23; have cn23 : ¬ (w23.heap.size = (w.heap.size + 1 + 1)) := (by omega); have cm23 : ¬ ((w.heap.size + 1 + 1) = w23.heap.size) := (by omega))
        | (go_at_call 15; (with_reducible refine (zadd_v (hy.below (zbd _ _)) (hz.below (zbd _ _)) (by omega) (by omega)).mono ?_); rintro e w23 ⟨s23, A23, n23, c23, rfl, p23, k23, B23⟩; have Q23 := zup (zbd _ _) B23; have J23 := (Ib.newd w22 false none 0 0 25).below B23; have g23 := Nat.le_refl w22.heap.size; obtain ⟨ax23, ay23, af23, ag23, az23⟩ := H_a.out.below Q23; have an23 : ¬ (w23.heap.size = w.heap.size) := (by omega); have am23 : ¬ (w.heap.size = w23.heap.size) := (by omega); obtain ⟨bx23, by23, bf23, bg23, bz23⟩ := H_b.out.below Q23; have bn23 : ¬ (w23.heap.size = (w.heap.size + 1)) := (by omega); have bm23 : ¬ ((w.heap.size + 1) = w23.heap.size) := (by omega); obtain ⟨cx23, cy23, cf23, cg23, cz23⟩ := H_c.out.below Q23; have cn23 : ¬ (w23.heap.size = (w.heap.size + 1 + 1)) := (by omega); have cm23 : ¬ ((w.heap.size + 1 + 1) = w23.heap.size) := (by omega); have Jc23 := J23; obtain ⟨jx23, jy23, jf23, jg23, jz23⟩ := Jc23)
        | (go_at_call 19; (with_reducible refine (zmul_v (hx.below Q23) p23.zv (by omega) (by omega)).mono ?_); rintro e w24 ⟨s24, A24, n24, c24, rfl, p24, k24, B24⟩; have Q24 := zup Q23 B24; have R24 := B24; have J24 := J23.below B24; have g24 := g23; obtain ⟨ax24, ay24, af24, ag24, az24⟩ := H_a.out.below Q24; have an24 : ¬ (w24.heap.size = w.heap.size) := (by omega); have am24 : ¬ (w.heap.size = w24.heap.size) := (by omega); obtain ⟨bx24, by24, bf24, bg24, bz24⟩ := H_b.out.below Q24; have bn24 : ¬ (w24.heap.size = (w.heap.size + 1)) := (by omega); have bm24 : ¬ ((w.heap.size + 1) = w24.heap.size) := (by omega); obtain ⟨cx24, cy24, cf24, cg24, cz24⟩ := H_c.out.below Q24; have cn24 : ¬ (w24.heap.size = (w.heap.size + 1 + 1)) := (by omega); have cm24 : ¬ ((w.heap.size + 1 + 1) = w24.heap.size) := (by omega); have Jc24 := J24; obtain ⟨jx24, jy24, jf24, jg24, jz24⟩ := Jc24)
        | (go_at_call 19; (with_reducible refine (zmul_v (hx.below Q23) p23.zv (by omega) (by omega)).mono ?_); rintro e w24 ⟨s24, A24, n24, c24, rfl, p24, k24, B24⟩; have Q24 := zup Q23 B24; have R24 := B24; obtain ⟨ax24, ay24, af24, ag24, az24⟩ := H_a.out.below Q24; have an24 : ¬ (w24.heap.size = w.heap.size) := (by omega); have am24 : ¬ (w.heap.size = w24.heap.size) := (by omega); obtain ⟨bx24, by24, bf24, bg24, bz24⟩ := H_b.out.below Q24; have bn24 : ¬ (w24.heap.size = (w.heap.size + 1)) := (by omega); have bm24 : ¬ ((w.heap.size + 1) = w24.heap.size) := (by omega); obtain ⟨cx24, cy24, cf24, cg24, cz24⟩ := H_c.out.below Q24; have cn24 : ¬ (w24.heap.size = (w.heap.size + 1 + 1)) := (by omega); have cm24 : ¬ ((w.heap.size + 1 + 1) = w24.heap.size) := (by omega))
        | (go_at_call 19; (with_reducible refine (zmul_v (hx.below (zup Q23 (zba _ _))) (p23.below (zba _ _)).zv (by omega) (by omega)).mono ?_); rintro e w24 ⟨s24, A24, n24, c24, rfl, p24, k24, B24⟩; have Q24 := zup (zup Q23 (zba _ _)) B24; have R24 := zup (zba w23 _) B24; have J24 := (Ib.new w23 false none 0 0 25).below B24; have g24 := Q23.size; obtain ⟨ax24, ay24, af24, ag24, az24⟩ := H_a.out.below Q24; have an24 : ¬ (w24.heap.size = w.heap.size) := (by omega); have am24 : ¬ (w.heap.size = w24.heap.size) := (by omega); obtain ⟨bx24, by24, bf24, bg24, bz24⟩ := H_b.out.below Q24; have bn24 : ¬ (w24.heap.size = (w.heap.size + 1)) := (by omega); have bm24 : ¬ ((w.heap.size + 1) = w24.heap.size) := (by omega); obtain ⟨cx24, cy24, cf24, cg24, cz24⟩ := H_c.out.below Q24; have cn24 : ¬ (w24.heap.size = (w.heap.size + 1 + 1)) := (by omega); have cm24 : ¬ ((w.heap.size + 1 + 1) = w24.heap.size) := (by omega); have Jc24 := J24; obtain ⟨jx24, jy24, jf24, jg24, jz24⟩ := Jc24)
        | fail)
      all_goals
        first
        | have P := Lib.hid (VarCut.put (w0 := w22) (z := (x * (y + z))) (k := 20) J24 p24 Q24 g24 (by omega))
        | have P := Lib.hid (VarCut.new (w0 := w22) (z := (x * (y + z))) (k := 20) (t := 25) p24 Q24 (by omega))
        go_wp2_with fail
        go_meet
        exact P.out
    case rest =>
      obtain ⟨g25, s25, A25, n25, c25, rfl, hg25, I25, p25, k25, B25⟩ := hcut
      obtain ⟨w25, hw25⟩ : ∃ x, x = wc := ⟨_, rfl⟩
      subst hw25
      have lt_a_s : w.heap.size < g25 := Nat.lt_of_lt_of_le H_a.out.2.2.2.2 hg25
      have lt_b_s : (w.heap.size + 1) < g25 := Nat.lt_of_lt_of_le H_b.out.2.2.2.2 hg25
      have lt_c_s : (w.heap.size + 1 + 1) < g25 := Nat.lt_of_lt_of_le H_c.out.2.2.2.2 hg25
      have lw_s : w.heap.size ≤ g25 := Nat.le_trans hW.size hg25
      replace H_a := Lib.hid (H_a.out.below B25)
      replace H_b := Lib.hid (H_b.out.below B25)
      replace H_c := Lib.hid (H_c.out.below B25)
      replace hx := hx.below B25
      replace hy := hy.below B25
      replace hz := hz.below B25
      replace hW := hW.trans (B25.mono hW.size)
      have H_s := Lib.hid I25
      clear B25 I25 hg25
      have ps := p25
      clear p25
      obtain ⟨a1, a2, a3, a4, a5⟩ := H_a.out
      obtain ⟨b1, b2, b3, b4, b5⟩ := H_b.out
      obtain ⟨c1, c2, c3, c4, c5⟩ := H_c.out
      obtain ⟨s1, s2, s3, s4, s5⟩ := H_s.out
      go_wp2_with fail
      clear a1 a2 a3 a4 a5 b1 b2 b3 b4 b5 c1 c2 c3 c4 c5 s1 s2 s3 s4 s5
      go_upto_region 4 with fail
      go_cut [8] (VarCut w25 (x * y + x * z) 20)
      case first =>
        obtain ⟨a1, a2, a3, a4, a5⟩ := H_a.out
        obtain ⟨b1, b2, b3, b4, b5⟩ := H_b.out
        obtain ⟨c1, c2, c3, c4, c5⟩ := H_c.out
        obtain ⟨s1, s2, s3, s4, s5⟩ := H_s.out
        have an : ¬ (w25.heap.size = w.heap.size) := by omega
        have am : ¬ (w.heap.size = w25.heap.size) := by omega
        have bn : ¬ (w25.heap.size = (w.heap.size + 1)) := by omega
        have bm : ¬ ((w.heap.size + 1) = w25.heap.size) := by omega
        have cn : ¬ (w25.heap.size = (w.heap.size + 1 + 1)) := by omega
        have cm : ¬ ((w.heap.size + 1 + 1) = w25.heap.size) := by omega
        have sn : ¬ (w25.heap.size = g25) := by omega
        have sm : ¬ (g25 = w25.heap.size) := by omega
        go_region_held3 (fun w' => w'.cell? ⟨w.heap.size, 0, none⟩ = some (.bool s) ∧ w'.cell? ⟨w.heap.size, 1, none⟩ = some (.slice A n c) ∧ w'.cell? ⟨(w.heap.size + 1), 0, none⟩ = some (.bool t) ∧ w'.cell? ⟨(w.heap.size + 1), 1, none⟩ = some (.slice B m d) ∧ w'.cell? ⟨(w.heap.size + 1 + 1), 0, none⟩ = some (.bool u) ∧ w'.cell? ⟨(w.heap.size + 1 + 1), 1, none⟩ = some (.slice C l e') ∧ w'.cell? ⟨g25, 0, none⟩ = some (.bool s25) ∧ w'.cell? ⟨g25, 1, none⟩ = some (.slice A25 n25 c25)) (go_keep) (first
          | (go_at_call 19; (with_reducible refine (zmul_v (hx.below (below_drew _)) (hy.below (below_drew _)) (by omega) (by omega)).mono ?_); rintro e w26 ⟨s26, A26, n26, c26, rfl, p26, k26, B26⟩; have Q26 := zup (below_drew _) B26; obtain ⟨ax26, ay26, af26, ag26, az26⟩ := H_a.out.below Q26; have an26 : ¬ (w26.heap.size = w.heap.size) := (by omega); have am26 : ¬ (w.heap.size = w26.heap.size) := (by omega); obtain ⟨bx26, by26, bf26, bg26, bz26⟩ := H_b.out.below Q26; have bn26 : ¬ (w26.heap.size = (w.heap.size + 1)) := (by omega); have bm26 : ¬ ((w.heap.size + 1) = w26.heap.size) := (by omega); obtain ⟨cx26, cy26, cf26, cg26, cz26⟩ := H_c.out.below Q26; have cn26 : ¬ (w26.heap.size = (w.heap.size + 1 + 1)) := (by omega); have cm26 : ¬ ((w.heap.size + 1 + 1) = w26.heap.size) := (by omega); obtain ⟨sx26, sy26, sf26, sg26, sz26⟩ := H_s.out.below Q26; have sn26 : ¬ (w26.heap.size = g25) := (by omega); have sm26 : ¬ (g25 = w26.heap.size) := (by omega))
          | (go_at_call 19; (with_reducible refine (zmul_v (hx.below (zbd _ _)) (hy.below (zbd _ _)) (by omega) (by omega)).mono ?_); rintro e w26 ⟨s26, A26, n26, c26, rfl, p26, k26, B26⟩; have Q26 := zup (zbd _ _) B26; have J26 := (Ib.newd w25 false none 0 0 25).below B26; have g26 := Nat.le_refl w25.heap.size; obtain ⟨ax26, ay26, af26, ag26, az26⟩ := H_a.out.below Q26; have an26 : ¬ (w26.heap.size = w.heap.size) := (by omega); have am26 : ¬ (w.heap.size = w26.heap.size) := (by omega); obtain ⟨bx26, by26, bf26, bg26, bz26⟩ := H_b.out.below Q26; have bn26 : ¬ (w26.heap.size = (w.heap.size + 1)) := (by omega); have bm26 : ¬ ((w.heap.size + 1) = w26.heap.size) := (by omega); obtain ⟨cx26, cy26, cf26, cg26, cz26⟩ := H_c.out.below Q26; have cn26 : ¬ (w26.heap.size = (w.heap.size + 1 + 1)) := (by omega); have cm26 : ¬ ((w.heap.size + 1 + 1) = w26.heap.size) := (by omega); obtain ⟨sx26, sy26, sf26, sg26, sz26⟩ := H_s.out.below Q26; have sn26 : ¬ (w26.heap.size = g25) := (by omega); have sm26 : ¬ (g25 = w26.heap.size) := (by omega); have Jc26 := J26; obtain ⟨jx26, jy26, jf26, jg26, jz26⟩ := Jc26)
          | (go_at_call 19; (with_reducible refine (zmul_v (hx.below Q26) (hz.below Q26) (by omega) (by omega)).mono ?_); rintro e w27 ⟨s27, A27, n27, c27, rfl, p27, k27, B27⟩; have Q27 := zup Q26 B27; have R27 := B27; have J27 := J26.below B27; have g27 := g26; obtain ⟨ax27, ay27, af27, ag27, az27⟩ := H_a.out.below Q27; have an27 : ¬ (w27.heap.size = w.heap.size) := (by omega); have am27 : ¬ (w.heap.size = w27.heap.size) := (by omega); obtain ⟨bx27, by27, bf27, bg27, bz27⟩ := H_b.out.below Q27; have bn27 : ¬ (w27.heap.size = (w.heap.size + 1)) := (by omega); have bm27 : ¬ ((w.heap.size + 1) = w27.heap.size) := (by omega); obtain ⟨cx27, cy27, cf27, cg27, cz27⟩ := H_c.out.below Q27; have cn27 : ¬ (w27.heap.size = (w.heap.size + 1 + 1)) := (by omega); have cm27 : ¬ ((w.heap.size + 1 + 1) = w27.heap.size) := (by omega); obtain ⟨sx27, sy27, sf27, sg27, sz27⟩ := H_s.out.below Q27; have sn27 : ¬ (w27.heap.size = g25) := (by omega); have sm27 : ¬ (g25 = w27.heap.size) := (by omega); have Jc27 := J27; obtain ⟨jx27, jy27, jf27, jg27, jz27⟩ := Jc27)
          | (go_at_call 19; (with_reducible refine (zmul_v (hx.below Q26) (hz.below Q26) (by omega) (by omega)).mono ?_); rintro e w27 ⟨s27, A27, n27, c27, rfl, p27, k27, B27⟩; have Q27 := zup Q26 B27; have R27 := B27; obtain ⟨ax27, ay27, af27, ag27, az27⟩ := H_a.out.below Q27; have an27 : ¬ (w27.heap.size = w.heap.size) := (by omega); have am27 : ¬ (w.heap.size = w27.heap.size) := (by omega); obtain ⟨bx27, by27, bf27, bg27, bz27⟩ := H_b.out.below Q27; have bn27 : ¬ (w27.heap.size = (w.heap.size + 1)) := (by omega); have bm27 : ¬ ((w.heap.size + 1) = w27.heap.size) := (by omega); obtain ⟨cx27, cy27, cf27, cg27, cz27⟩ := H_c.out.below Q27; have cn27 : ¬ (w27.heap.size = (w.heap.size + 1 + 1)) := (by omega); have cm27 : ¬ ((w.heap.size + 1 + 1) = w27.heap.size) := (by omega); obtain ⟨sx27, sy27, sf27, sg27, sz27⟩ := H_s.out.below Q27; have sn27 : ¬ (w27.heap.size = g25) := (by omega); have sm27 : ¬ (g25 = w27.heap.size) := (by omega))
          | (go_at_call 19; (with_reducible refine (zmul_v (hx.below (zup Q26 (zba _ _))) (hz.below (zup Q26 (zba _ _))) (by omega) (by omega)).mono ?_); rintro e w27 ⟨s27, A27, n27, c27, rfl, p27, k27, B27⟩; have Q27 := zup (zup Q26 (zba _ _)) B27; have R27 := zup (zba w26 _) B27; have J27 := (Ib.new w26 false none 0 0 25).below B27; have g27 := Q26.size; obtain ⟨ax27, ay27, af27, ag27, az27⟩ := H_a.out.below Q27; have an27 : ¬ (w27.heap.size = w.heap.size) := (by omega); have am27 : ¬ (w.heap.size = w27.heap.size) := (by omega); obtain ⟨bx27, by27, bf27, bg27, bz27⟩ := H_b.out.below Q27; have bn27 : ¬ (w27.heap.size = (w.heap.size + 1)) := (by omega); have bm27 : ¬ ((w.heap.size + 1) = w27.heap.size) := (by omega); obtain ⟨cx27, cy27, cf27, cg27, cz27⟩ := H_c.out.below Q27; have cn27 : ¬ (w27.heap.size = (w.heap.size + 1 + 1)) := (by omega); have cm27 : ¬ ((w.heap.size + 1 + 1) = w27.heap.size) := (by omega); obtain ⟨sx27, sy27, sf27, sg27, sz27⟩ := H_s.out.below Q27; have sn27 : ¬ (w27.heap.size = g25) := (by omega); have sm27 : ¬ (g25 = w27.heap.size) := (by omega); have Jc27 := J27; obtain ⟨jx27, jy27, jf27, jg27, jz27⟩ := Jc27)
          | (go_at_call 15; (with_reducible refine (zadd_v (p26.below R27).zv p27.zv (by omega) (by omega)).mono ?_); rintro e w28 ⟨s28, A28, n28, c28, rfl, p28, k28, B28⟩; have Q28 := zup Q27 B28; have R28 := B28; have J28 := J27.below B28; have g28 := g27; obtain ⟨ax28, ay28, af28, ag28, az28⟩ := H_a.out.below Q28; have an28 : ¬ (w28.heap.size = w.heap.size) := (by omega); have am28 : ¬ (w.heap.size = w28.heap.size) := (by omega); obtain ⟨bx28, by28, bf28, bg28, bz28⟩ := H_b.out.below Q28; have bn28 : ¬ (w28.heap.size = (w.heap.size + 1)) := (by omega); have bm28 : ¬ ((w.heap.size + 1) = w28.heap.size) := (by omega); obtain ⟨cx28, cy28, cf28, cg28, cz28⟩ := H_c.out.below Q28; have cn28 : ¬ (w28.heap.size = (w.heap.size + 1 + 1)) := (by omega); have cm28 : ¬ ((w.heap.size + 1 + 1) = w28.heap.size) := (by omega); obtain ⟨sx28, sy28, sf28, sg28, sz28⟩ := H_s.out.below Q28; have sn28 : ¬ (w28.heap.size = g25) := (by omega); have sm28 : ¬ (g25 = w28.heap.size) := (by omega); have Jc28 := J28; obtain ⟨jx28, jy28, jf28, jg28, jz28⟩ := Jc28)
          | (go_at_call 15; (with_reducible refine (zadd_v (p26.below R27).zv p27.zv (by omega) (by omega)).mono ?_); rintro e w28 ⟨s28, A28, n28, c28, rfl, p28, k28, B28⟩; have Q28 := zup Q27 B28; have R28 := B28; obtain ⟨ax28, ay28, af28, ag28, az28⟩ := H_a.out.below Q28; have an28 : ¬ (w28.heap.size = w.heap.size) := (by omega); have am28 : ¬ (w.heap.size = w28.heap.size) := (by omega); obtain ⟨bx28, by28, bf28, bg28, bz28⟩ := H_b.out.below Q28; have bn28 : ¬ (w28.heap.size = (w.heap.size + 1)) := (by omega); have bm28 : ¬ ((w.heap.size + 1) = w28.heap.size) := (by omega); obtain ⟨cx28, cy28, cf28, cg28, cz28⟩ := H_c.out.below Q28; have cn28 : ¬ (w28.heap.size = (w.heap.size + 1 + 1)) := (by omega); have cm28 : ¬ ((w.heap.size + 1 + 1) = w28.heap.size) := (by omega); obtain ⟨sx28, sy28, sf28, sg28, sz28⟩ := H_s.out.below Q28; have sn28 : ¬ (w28.heap.size = g25) := (by omega); have sm28 : ¬ (g25 = w28.heap.size) := (by omega))
          | (go_at_call 15; (with_reducible refine (zadd_v ((p26.below R27).below (zba _ _)).zv (p27.below (zba _ _)).zv (by omega) (by omega)).mono ?_); rintro e w28 ⟨s28, A28, n28, c28, rfl, p28, k28, B28⟩; have Q28 := zup (zup Q27 (zba _ _)) B28; have R28 := zup (zba w27 _) B28; have J28 := (Ib.new w27 false none 0 0 25).below B28; have g28 := Q27.size; obtain ⟨ax28, ay28, af28, ag28, az28⟩ := H_a.out.below Q28; have an28 : ¬ (w28.heap.size = w.heap.size) := (by omega); have am28 : ¬ (w.heap.size = w28.heap.size) := (by omega); obtain ⟨bx28, by28, bf28, bg28, bz28⟩ := H_b.out.below Q28; have bn28 : ¬ (w28.heap.size = (w.heap.size + 1)) := (by omega); have bm28 : ¬ ((w.heap.size + 1) = w28.heap.size) := (by omega); obtain ⟨cx28, cy28, cf28, cg28, cz28⟩ := H_c.out.below Q28; have cn28 : ¬ (w28.heap.size = (w.heap.size + 1 + 1)) := (by omega); have cm28 : ¬ ((w.heap.size + 1 + 1) = w28.heap.size) := (by omega); obtain ⟨sx28, sy28, sf28, sg28, sz28⟩ := H_s.out.below Q28; have sn28 : ¬ (w28.heap.size = g25) := (by omega); have sm28 : ¬ (g25 = w28.heap.size) := (by omega); have Jc28 := J28; obtain ⟨jx28, jy28, jf28, jg28, jz28⟩ := Jc28)
          | fail)
        all_goals
          first
          | have P := Lib.hid (VarCut.put (w0 := w25) (z := (x * y + x * z)) (k := 20) J28 p28 Q28 g28 (by omega))
          | have P := Lib.hid (VarCut.new (w0 := w25) (z := (x * y + x * z)) (k := 20) (t := 25) p28 Q28 (by omega))
          go_wp2_with fail
          go_meet
          exact P.out
      case rest =>
        obtain ⟨g29, s29, A29, n29, c29, rfl, hg29, I29, p29, k29, B29⟩ := hcut
        obtain ⟨w29, hw29⟩ : ∃ x, x = wc := ⟨_, rfl⟩
        subst hw29
        have lt_a_t : w.heap.size < g29 := Nat.lt_of_lt_of_le H_a.out.2.2.2.2 hg29
        have lt_b_t : (w.heap.size + 1) < g29 := Nat.lt_of_lt_of_le H_b.out.2.2.2.2 hg29
        have lt_c_t : (w.heap.size + 1 + 1) < g29 := Nat.lt_of_lt_of_le H_c.out.2.2.2.2 hg29
        have lt_s_t : g25 < g29 := Nat.lt_of_lt_of_le H_s.out.2.2.2.2 hg29
        have lw_t : w.heap.size ≤ g29 := Nat.le_trans hW.size hg29
        replace H_a := Lib.hid (H_a.out.below B29)
        replace H_b := Lib.hid (H_b.out.below B29)
        replace H_c := Lib.hid (H_c.out.below B29)
        replace H_s := Lib.hid (H_s.out.below B29)
        replace hx := hx.below B29
        replace hy := hy.below B29
        replace hz := hz.below B29
        replace ps := ps.below B29
        replace hW := hW.trans (B29.mono hW.size)
        have H_t := Lib.hid I29
        clear B29 I29 hg29
        have pt := p29
        clear p29
        clear hz
        clear H_c
        obtain ⟨a1, a2, a3, a4, a5⟩ := H_a.out
        obtain ⟨b1, b2, b3, b4, b5⟩ := H_b.out
        obtain ⟨s1, s2, s3, s4, s5⟩ := H_s.out
        obtain ⟨t1, t2, t3, t4, t5⟩ := H_t.out
        go_wp2_with fail
        clear a1 a2 a3 a4 a5 b1 b2 b3 b4 b5 s1 s2 s3 s4 s5 t1 t2 t3 t4 t5
        refine (zpow3_v hx (by omega)).mono ?_
        rintro e w30 ⟨s30, A30, n30, c30, rfl, pp, k30, B30⟩
        replace H_a := Lib.hid (H_a.out.below B30)
        replace H_b := Lib.hid (H_b.out.below B30)
        replace H_s := Lib.hid (H_s.out.below B30)
        replace H_t := Lib.hid (H_t.out.below B30)
        replace hx := hx.below B30
        replace hy := hy.below B30
        replace ps := ps.below B30
        replace pt := pt.below B30
        replace hW := hW.trans (B30.mono hW.size)
        clear B30
        have z31 := zba w30 (.cells #[.bool s30, .slice A30 n30 c30] 25)
        obtain ⟨w31, hw31⟩ : ∃ w', w' = w30.alloc (.cells #[.bool s30, .slice A30 n30 c30] 25) := ⟨_, rfl⟩
        have I31 : Ib w31 w30.heap.size s30 A30 n30 c30 := by rw [hw31]; exact Ib.new _ _ _ _ _ _
        rw [← hw31] at z31
        have HW31 := Lib.hid hw31.symm
        have O_a := H_a
        have lt_a_p : w.heap.size < w30.heap.size := H_a.out.2.2.2.2
        have O_b := H_b
        have lt_b_p : (w.heap.size + 1) < w30.heap.size := H_b.out.2.2.2.2
        have O_s := H_s
        have lt_s_p : g25 < w30.heap.size := H_s.out.2.2.2.2
        have O_t := H_t
        have lt_t_p : g29 < w30.heap.size := H_t.out.2.2.2.2
        have lw_p : w.heap.size ≤ w30.heap.size := hW.size
        replace H_a := Lib.hid (H_a.out.below z31)
        replace H_b := Lib.hid (H_b.out.below z31)
        replace H_s := Lib.hid (H_s.out.below z31)
        replace H_t := Lib.hid (H_t.out.below z31)
        replace hx := hx.below z31
        replace hy := hy.below z31
        replace ps := ps.below z31
        replace pt := pt.below z31
        replace pp := pp.below z31
        replace hW := hW.trans (z31.mono hW.size)
        have H_p := Lib.hid I31
        clear z31 hw31 I31
        obtain ⟨a1, a2, a3, a4, a5⟩ := O_a.out
        obtain ⟨b1, b2, b3, b4, b5⟩ := O_b.out
        obtain ⟨s1, s2, s3, s4, s5⟩ := O_s.out
        obtain ⟨t1, t2, t3, t4, t5⟩ := O_t.out
        go_wp2_with fail
        rw [HW31.out]
        clear a1 a2 a3 a4 a5 b1 b2 b3 b4 b5 s1 s2 s3 s4 s5 t1 t2 t3 t4 t5 O_a O_b O_s O_t
        refine (zpow_neg).mono ?_
        rintro e w32 ⟨rfl, B32⟩
        replace H_a := Lib.hid (H_a.out.below B32)
        replace H_b := Lib.hid (H_b.out.below B32)
        replace H_s := Lib.hid (H_s.out.below B32)
        replace H_t := Lib.hid (H_t.out.below B32)
        replace H_p := Lib.hid (H_p.out.below B32)
        replace hx := hx.below B32
        replace hy := hy.below B32
        replace ps := ps.below B32
        replace pt := pt.below B32
        replace pp := pp.below B32
        replace hW := hW.trans (B32.mono hW.size)
        clear B32
        have z33 := zba w32 (.cells #[.bool false, .slice none 0 0] 25)
        obtain ⟨w33, hw33⟩ : ∃ w', w' = w32.alloc (.cells #[.bool false, .slice none 0 0] 25) := ⟨_, rfl⟩
        rw [← hw33] at z33
        have HW33 := Lib.hid hw33.symm
        have O_a := H_a
        have O_b := H_b
        have O_s := H_s
        have O_t := H_t
        have O_p := H_p
        replace H_a := Lib.hid (H_a.out.below z33)
        replace H_b := Lib.hid (H_b.out.below z33)
        replace H_s := Lib.hid (H_s.out.below z33)
        replace H_t := Lib.hid (H_t.out.below z33)
        replace H_p := Lib.hid (H_p.out.below z33)
        replace hx := hx.below z33
        replace hy := hy.below z33
        replace ps := ps.below z33
        replace pt := pt.below z33
        replace pp := pp.below z33
        replace hW := hW.trans (z33.mono hW.size)
        clear z33 hw33
        obtain ⟨bb, hbb⟩ : ∃ b, bl x.natAbs = b := ⟨_, rfl⟩
        have HB := Lib.hid hbb
        have hbn : bl (-x).natAbs = bb := by rw [Int.natAbs_neg]; exact hbb
        have HBN := Lib.hid hbn
        clear hbb hbn
        obtain ⟨a1, a2, a3, a4, a5⟩ := O_a.out
        obtain ⟨b1, b2, b3, b4, b5⟩ := O_b.out
        obtain ⟨s1, s2, s3, s4, s5⟩ := O_s.out
        obtain ⟨t1, t2, t3, t4, t5⟩ := O_t.out
        obtain ⟨p1, p2, p3, p4, p5⟩ := O_p.out
        go_wp2_with fail
        rw [HW33.out]
        clear a1 a2 a3 a4 a5 b1 b2 b3 b4 b5 s1 s2 s3 s4 s5 t1 t2 t3 t4 t5 p1 p2 p3 p4 p5 O_a O_b O_s O_t O_p
        obtain ⟨a1, a2, a3, a4, a5⟩ := H_a.out
        obtain ⟨b1, b2, b3, b4, b5⟩ := H_b.out
        obtain ⟨s1, s2, s3, s4, s5⟩ := H_s.out
        obtain ⟨t1, t2, t3, t4, t5⟩ := H_t.out
        obtain ⟨p1, p2, p3, p4, p5⟩ := H_p.out
        go_region_held3 (fun w' => w'.cell? ⟨w.heap.size, 0, none⟩ = some (.bool s) ∧ w'.cell? ⟨w.heap.size, 1, none⟩ = some (.slice A n c) ∧ w'.cell? ⟨(w.heap.size + 1), 0, none⟩ = some (.bool t) ∧ w'.cell? ⟨(w.heap.size + 1), 1, none⟩ = some (.slice B m d) ∧ w'.cell? ⟨g25, 0, none⟩ = some (.bool s25) ∧ w'.cell? ⟨g25, 1, none⟩ = some (.slice A25 n25 c25) ∧ w'.cell? ⟨g29, 0, none⟩ = some (.bool s29) ∧ w'.cell? ⟨g29, 1, none⟩ = some (.slice A29 n29 c29) ∧ w'.cell? ⟨w30.heap.size, 0, none⟩ = some (.bool s30) ∧ w'.cell? ⟨w30.heap.size, 1, none⟩ = some (.slice A30 n30 c30)) (go_keep) (first
          | (go_at_call 29; (with_reducible refine (zsame_yes (ps.below (below_drew _)).zv (pt.below (below_drew _)).zv (by omega) (by omega) (Int.mul_add _ _ _)).mono ?_); rintro e w34 ⟨rfl, B34⟩; have Q34 := zup (below_drew _) B34; obtain ⟨ax34, ay34, af34, ag34, az34⟩ := H_a.out.below Q34; obtain ⟨bx34, by34, bf34, bg34, bz34⟩ := H_b.out.below Q34; obtain ⟨sx34, sy34, sf34, sg34, sz34⟩ := H_s.out.below Q34; obtain ⟨tx34, ty34, tf34, tg34, tz34⟩ := H_t.out.below Q34; obtain ⟨px34, py34, pf34, pg34, pz34⟩ := H_p.out.below Q34)
          | (go_at_call 17; (with_reducible refine (zsub_v (hx.below Q34) (hx.below Q34) (by omega) (by omega)).mono ?_); rintro e w35 ⟨s35, A35, n35, c35, rfl, p35, k35, B35⟩; have Q35 := zup Q34 B35; obtain ⟨ax35, ay35, af35, ag35, az35⟩ := H_a.out.below Q35; obtain ⟨bx35, by35, bf35, bg35, bz35⟩ := H_b.out.below Q35; obtain ⟨sx35, sy35, sf35, sg35, sz35⟩ := H_s.out.below Q35; obtain ⟨tx35, ty35, tf35, tg35, tz35⟩ := H_t.out.below Q35; obtain ⟨px35, py35, pf35, pg35, pz35⟩ := H_p.out.below Q35)
          | (go_at_call 40; (with_reducible refine (zof_v 0 (by omega) (by omega) _).mono ?_); rintro e w36 ⟨s36, A36, n36, c36, rfl, p36, k36, B36⟩; have Q36 := zup Q35 B36; obtain ⟨ax36, ay36, af36, ag36, az36⟩ := H_a.out.below Q36; obtain ⟨bx36, by36, bf36, bg36, bz36⟩ := H_b.out.below Q36; obtain ⟨sx36, sy36, sf36, sg36, sz36⟩ := H_s.out.below Q36; obtain ⟨tx36, ty36, tf36, tg36, tz36⟩ := H_t.out.below Q36; obtain ⟨px36, py36, pf36, pg36, pz36⟩ := H_p.out.below Q36)
          | (go_at_call 29; (with_reducible refine (zsame_yes (p35.below B36).zv p36.zv (by omega) (by omega) (Int.sub_self _)).mono ?_); rintro e w37 ⟨rfl, B37⟩; have Q37 := zup Q36 B37; obtain ⟨ax37, ay37, af37, ag37, az37⟩ := H_a.out.below Q37; obtain ⟨bx37, by37, bf37, bg37, bz37⟩ := H_b.out.below Q37; obtain ⟨sx37, sy37, sf37, sg37, sz37⟩ := H_s.out.below Q37; obtain ⟨tx37, ty37, tf37, tg37, tz37⟩ := H_t.out.below Q37; obtain ⟨px37, py37, pf37, pg37, pz37⟩ := H_p.out.below Q37)
          | (go_at_call 19; (with_reducible refine (zmul_v (hx.below Q37) (hy.below Q37) (by omega) (by omega)).mono ?_); rintro e w38 ⟨s38, A38, n38, c38, rfl, p38, k38, B38⟩; have Q38 := zup Q37 B38; obtain ⟨ax38, ay38, af38, ag38, az38⟩ := H_a.out.below Q38; obtain ⟨bx38, by38, bf38, bg38, bz38⟩ := H_b.out.below Q38; obtain ⟨sx38, sy38, sf38, sg38, sz38⟩ := H_s.out.below Q38; obtain ⟨tx38, ty38, tf38, tg38, tz38⟩ := H_t.out.below Q38; obtain ⟨px38, py38, pf38, pg38, pz38⟩ := H_p.out.below Q38)
          | (go_at_call 19; (with_reducible refine (zmul_v (hy.below Q38) (hx.below Q38) (by omega) (by omega)).mono ?_); rintro e w39 ⟨s39, A39, n39, c39, rfl, p39, k39, B39⟩; have Q39 := zup Q38 B39; obtain ⟨ax39, ay39, af39, ag39, az39⟩ := H_a.out.below Q39; obtain ⟨bx39, by39, bf39, bg39, bz39⟩ := H_b.out.below Q39; obtain ⟨sx39, sy39, sf39, sg39, sz39⟩ := H_s.out.below Q39; obtain ⟨tx39, ty39, tf39, tg39, tz39⟩ := H_t.out.below Q39; obtain ⟨px39, py39, pf39, pg39, pz39⟩ := H_p.out.below Q39)
          | (go_at_call 29; (with_reducible refine (zsame_yes (p38.below B39).zv p39.zv (by omega) (by omega) (Int.mul_comm _ _)).mono ?_); rintro e w40 ⟨rfl, B40⟩; have Q40 := zup Q39 B40; obtain ⟨ax40, ay40, af40, ag40, az40⟩ := H_a.out.below Q40; obtain ⟨bx40, by40, bf40, bg40, bz40⟩ := H_b.out.below Q40; obtain ⟨sx40, sy40, sf40, sg40, sz40⟩ := H_s.out.below Q40; obtain ⟨tx40, ty40, tf40, tg40, tz40⟩ := H_t.out.below Q40; obtain ⟨px40, py40, pf40, pg40, pz40⟩ := H_p.out.below Q40)
          | (go_at_call 19; (with_reducible refine (zmul_v (hx.below Q40) (hx.below Q40) (by omega) (by omega)).mono ?_); rintro e w41 ⟨s41, A41, n41, c41, rfl, p41, k41, B41⟩; have Q41 := zup Q40 B41; obtain ⟨ax41, ay41, af41, ag41, az41⟩ := H_a.out.below Q41; obtain ⟨bx41, by41, bf41, bg41, bz41⟩ := H_b.out.below Q41; obtain ⟨sx41, sy41, sf41, sg41, sz41⟩ := H_s.out.below Q41; obtain ⟨tx41, ty41, tf41, tg41, tz41⟩ := H_t.out.below Q41; obtain ⟨px41, py41, pf41, pg41, pz41⟩ := H_p.out.below Q41)
          | (go_at_call 19; (with_reducible refine (zmul_v (hx.below Q41) p41.zv (by omega) (by omega)).mono ?_); rintro e w42 ⟨s42, A42, n42, c42, rfl, p42, k42, B42⟩; have Q42 := zup Q41 B42; obtain ⟨ax42, ay42, af42, ag42, az42⟩ := H_a.out.below Q42; obtain ⟨bx42, by42, bf42, bg42, bz42⟩ := H_b.out.below Q42; obtain ⟨sx42, sy42, sf42, sg42, sz42⟩ := H_s.out.below Q42; obtain ⟨tx42, ty42, tf42, tg42, tz42⟩ := H_t.out.below Q42; obtain ⟨px42, py42, pf42, pg42, pz42⟩ := H_p.out.below Q42)
          | (go_at_call 29; (with_reducible refine (zsame_yes (pp.below Q42).zv p42.zv (by omega) (by omega) (cube _)).mono ?_); rintro e w43 ⟨rfl, B43⟩; have Q43 := zup Q42 B43; obtain ⟨ax43, ay43, af43, ag43, az43⟩ := H_a.out.below Q43; obtain ⟨bx43, by43, bf43, bg43, bz43⟩ := H_b.out.below Q43; obtain ⟨sx43, sy43, sf43, sg43, sz43⟩ := H_s.out.below Q43; obtain ⟨tx43, ty43, tf43, tg43, tz43⟩ := H_t.out.below Q43; obtain ⟨px43, py43, pf43, pg43, pz43⟩ := H_p.out.below Q43)
          | (go_at_call 47; (with_reducible refine (zbits_v (b := bb) (hx.below Q43) (by omega) HB.out).mono ?_); rintro e w44 ⟨rfl, B44⟩; have Q44 := zup Q43 B44; obtain ⟨ax44, ay44, af44, ag44, az44⟩ := H_a.out.below Q44; obtain ⟨bx44, by44, bf44, bg44, bz44⟩ := H_b.out.below Q44; obtain ⟨sx44, sy44, sf44, sg44, sz44⟩ := H_s.out.below Q44; obtain ⟨tx44, ty44, tf44, tg44, tz44⟩ := H_t.out.below Q44; obtain ⟨px44, py44, pf44, pg44, pz44⟩ := H_p.out.below Q44)
          | (go_at_call 21; (with_reducible refine (zneg_v (hx.below Q44) (by omega)).mono ?_); rintro e w45 ⟨s45, A45, n45, c45, rfl, p45, k45, B45⟩; have Q45 := zup Q44 B45; obtain ⟨ax45, ay45, af45, ag45, az45⟩ := H_a.out.below Q45; obtain ⟨bx45, by45, bf45, bg45, bz45⟩ := H_b.out.below Q45; obtain ⟨sx45, sy45, sf45, sg45, sz45⟩ := H_s.out.below Q45; obtain ⟨tx45, ty45, tf45, tg45, tz45⟩ := H_t.out.below Q45; obtain ⟨px45, py45, pf45, pg45, pz45⟩ := H_p.out.below Q45)
          | (go_at_call 47; (with_reducible refine (zbits_v (b := bb) p45.zv (by omega) HBN.out).mono ?_); rintro e w46 ⟨rfl, B46⟩; have Q46 := zup Q45 B46; obtain ⟨ax46, ay46, af46, ag46, az46⟩ := H_a.out.below Q46; obtain ⟨bx46, by46, bf46, bg46, bz46⟩ := H_b.out.below Q46; obtain ⟨sx46, sy46, sf46, sg46, sz46⟩ := H_s.out.below Q46; obtain ⟨tx46, ty46, tf46, tg46, tz46⟩ := H_t.out.below Q46; obtain ⟨px46, py46, pf46, pg46, pz46⟩ := H_p.out.below Q46)
          | fail)
        clear a1 a2 a3 a4 a5 b1 b2 b3 b4 b5 s1 s2 s3 s4 s5 t1 t2 t3 t4 t5 p1 p2 p3 p4 p5 ax34 ay34 af34 ag34 az34 bx34 by34 bf34 bg34 bz34 sx34 sy34 sf34 sg34 sz34 tx34 ty34 tf34 tg34 tz34 px34 py34 pf34 pg34 pz34 ax35 ay35 af35 ag35 az35 bx35 by35 bf35 bg35 bz35 sx35 sy35 sf35 sg35 sz35 tx35 ty35 tf35 tg35 tz35 px35 py35 pf35 pg35 pz35 ax36 ay36 af36 ag36 az36 bx36 by36 bf36 bg36 bz36 sx36 sy36 sf36 sg36 sz36 tx36 ty36 tf36 tg36 tz36 px36 py36 pf36 pg36 pz36 ax37 ay37 af37 ag37 az37 bx37 by37 bf37 bg37 bz37 sx37 sy37 sf37 sg37 sz37 tx37 ty37 tf37 tg37 tz37 px37 py37 pf37 pg37 pz37 ax38 ay38 af38 ag38 az38 bx38 by38 bf38 bg38 bz38 sx38 sy38 sf38 sg38 sz38 tx38 ty38 tf38 tg38 tz38 px38 py38 pf38 pg38 pz38 ax39 ay39 af39 ag39 az39 bx39 by39 bf39 bg39 bz39 sx39 sy39 sf39 sg39 sz39 tx39 ty39 tf39 tg39 tz39 px39 py39 pf39 pg39 pz39 ax40 ay40 af40 ag40 az40 bx40 by40 bf40 bg40 bz40 sx40 sy40 sf40 sg40 sz40 tx40 ty40 tf40 tg40 tz40 px40 py40 pf40 pg40 pz40 ax41 ay41 af41 ag41 az41 bx41 by41 bf41 bg41 bz41 sx41 sy41 sf41 sg41 sz41 tx41 ty41 tf41 tg41 tz41 px41 py41 pf41 pg41 pz41 ax42 ay42 af42 ag42 az42 bx42 by42 bf42 bg42 bz42 sx42 sy42 sf42 sg42 sz42 tx42 ty42 tf42 tg42 tz42 px42 py42 pf42 pg42 pz42 ax43 ay43 af43 ag43 az43 bx43 by43 bf43 bg43 bz43 sx43 sy43 sf43 sg43 sz43 tx43 ty43 tf43 tg43 tz43 px43 py43 pf43 pg43 pz43 ax44 ay44 af44 ag44 az44 bx44 by44 bf44 bg44 bz44 sx44 sy44 sf44 sg44 sz44 tx44 ty44 tf44 tg44 tz44 px44 py44 pf44 pg44 pz44 ax45 ay45 af45 ag45 az45 bx45 by45 bf45 bg45 bz45 sx45 sy45 sf45 sg45 sz45 tx45 ty45 tf45 tg45 tz45 px45 py45 pf45 pg45 pz45 ax46 ay46 af46 ag46 az46 bx46 by46 bf46 bg46 bz46 sx46 sy46 sf46 sg46 sz46 tx46 ty46 tf46 tg46 tz46 px46 py46 pf46 pg46 pz46
        replace H_a := Lib.hid (H_a.out.below Q46)
        replace H_b := Lib.hid (H_b.out.below Q46)
        replace H_s := Lib.hid (H_s.out.below Q46)
        replace H_t := Lib.hid (H_t.out.below Q46)
        replace H_p := Lib.hid (H_p.out.below Q46)
        replace hx := hx.below Q46
        replace hy := hy.below Q46
        replace ps := ps.below Q46
        replace pt := pt.below Q46
        replace pp := pp.below Q46
        replace hW := hW.trans (Q46.mono hW.size)
        clear B34 Q34 B35 Q35 B36 Q36 B37 Q37 B38 Q38 B39 Q39 B40 Q40 B41 Q41 B42 Q42 B43 Q43 B44 Q44 B45 Q45 B46 Q46 p35 p36 p38 p39 p41 p42 p45
        go_wp2_with fail
        go_ret
        exact ⟨rfl, hW⟩
  · go_enter Try.func10, Try.ntmps10
    obtain ⟨a1, a2, a3, a4, a5⟩ := H_a.out
    obtain ⟨b1, b2, b3, b4, b5⟩ := H_b.out
    obtain ⟨c1, c2, c3, c4, c5⟩ := H_c.out
    go_wp2_with fail
    rw [HW.out]
    clear a1 a2 a3 a4 a5 b1 b2 b3 b4 b5 c1 c2 c3 c4 c5
    refine (zawake_calls _).mono ?_
    rintro e w21 ⟨rfl, B21⟩
    replace H_a := Lib.hid (H_a.out.below B21)
    replace H_b := Lib.hid (H_b.out.below B21)
    replace H_c := Lib.hid (H_c.out.below B21)
    replace hx := hx.below B21
    replace hy := hy.below B21
    replace hz := hz.below B21
    replace hW := hW.trans (B21.mono hW.size)
    clear B21
    obtain ⟨a1, a2, a3, a4, a5⟩ := H_a.out
    obtain ⟨b1, b2, b3, b4, b5⟩ := H_b.out
    obtain ⟨c1, c2, c3, c4, c5⟩ := H_c.out
    go_wp2_with fail
    clear a1 a2 a3 a4 a5 b1 b2 b3 b4 b5 c1 c2 c3 c4 c5
    refine (zfew_v (k := 5) (b := false) hn hm hl (by omega) (by rw [decide_eq_false_iff_not]; exact h)).mono ?_
    rintro e w22 ⟨rfl, B22⟩
    replace H_a := Lib.hid (H_a.out.below B22)
    replace H_b := Lib.hid (H_b.out.below B22)
    replace H_c := Lib.hid (H_c.out.below B22)
    replace hx := hx.below B22
    replace hy := hy.below B22
    replace hz := hz.below B22
    replace hW := hW.trans (B22.mono hW.size)
    clear B22
    obtain ⟨a1, a2, a3, a4, a5⟩ := H_a.out
    obtain ⟨b1, b2, b3, b4, b5⟩ := H_b.out
    obtain ⟨c1, c2, c3, c4, c5⟩ := H_c.out
    go_wp2_with fail
    clear a1 a2 a3 a4 a5 b1 b2 b3 b4 b5 c1 c2 c3 c4 c5
    refine (zawake_calls _).mono ?_
    rintro e w23 ⟨rfl, B23⟩
    replace H_a := Lib.hid (H_a.out.below B23)
    replace H_b := Lib.hid (H_b.out.below B23)
    replace H_c := Lib.hid (H_c.out.below B23)
    replace hx := hx.below B23
    replace hy := hy.below B23
    replace hz := hz.below B23
    replace hW := hW.trans (B23.mono hW.size)
    clear B23
    go_wp2_with fail
    go_ret
    exact ⟨rfl, hW⟩
end Go.Proofs.Ytnkmoeihlfdjbaa
