/-
  The walk of IntRounds.
-/
import Derived.Test.YtnkmoeihlfdjbaaZintD
/-! The walk of IntRounds. -/
namespace Go.Proofs.Ytnkmoeihlfdjbaa
open Go.RowKit
set_option linter.unusedVariables false
set_option linter.unusedSimpArgs false

theorem sign_ge {X : Int} (h : 0 ≤ X) : 0 ≤ X.sign := by
  rcases Int.lt_or_eq_of_le h with h | h
  · rw [Int.sign_eq_one_of_pos h]; omega
  · subst h; simp
set_option maxRecDepth 100000 in
set_option maxHeartbeats 1000000 in
theorem irounds_calls (A B : Option Addr) (n m c d : Nat) (s t : Bool) (x y : Int) (w : World) (hx : Zv w s A n c x) (hy : Zv w t B m d y) (hn : n ≤ 9223372036854775807) (hm : m ≤ 9223372036854775807) :
    Calls Try.prog 5 #[.agg #[.bool s, .slice A n c], .agg #[.bool t, .slice B m d]] w (TruePost w) := by
  obtain ⟨w3, hw3, IA, IB, z0⟩ := open2 w s t A B n c m d
  have HW := Lib.hid hw3.symm
  replace hx := hx.below z0
  replace hy := hy.below z0
  have hW := z0
  have H_a := Lib.hid IA
  have H_b := Lib.hid IB
  clear hw3 IA IB z0
  by_cases h : n ≤ 8 ∧ m ≤ 8
  · obtain ⟨h1, h2⟩ := h
    rcases Int.lt_trichotomy y 0 with h0 | h0 | h0
    · go_enter Try.func5, Try.ntmps5
      obtain ⟨a1, a2, a3, a4, a5⟩ := H_a.out
      obtain ⟨b1, b2, b3, b4, b5⟩ := H_b.out
      go_wp2_with fail
      rw [HW.out]
      clear a1 a2 a3 a4 a5 b1 b2 b3 b4 b5
      refine (zawake_calls _).mono ?_
      rintro e w21 ⟨rfl, B21⟩
      replace H_a := Lib.hid (H_a.out.below B21)
      replace H_b := Lib.hid (H_b.out.below B21)
      replace hx := hx.below B21
      replace hy := hy.below B21
      replace hW := hW.trans (B21.mono hW.size)
      clear B21
      obtain ⟨a1, a2, a3, a4, a5⟩ := H_a.out
      obtain ⟨b1, b2, b3, b4, b5⟩ := H_b.out
      go_wp2_with fail
      clear a1 a2 a3 a4 a5 b1 b2 b3 b4 b5
      refine (zfew_v (k := 8) (b := true) hn hm hn (by omega) (by rw [decide_eq_true_iff]; omega)).mono ?_
      rintro e w22 ⟨rfl, B22⟩
      replace H_a := Lib.hid (H_a.out.below B22)
      replace H_b := Lib.hid (H_b.out.below B22)
      replace hx := hx.below B22
      replace hy := hy.below B22
      replace hW := hW.trans (B22.mono hW.size)
      clear B22
      obtain ⟨a1, a2, a3, a4, a5⟩ := H_a.out
      obtain ⟨b1, b2, b3, b4, b5⟩ := H_b.out
      go_wp2_with fail
      clear a1 a2 a3 a4 a5 b1 b2 b3 b4 b5
      refine (zround_v hx hy (by omega) (by omega) (by omega)).mono ?_
      rintro e w23 ⟨z, hok, s23, A23, n23, c23, rfl, pz, k23, B23⟩
      replace H_a := Lib.hid (H_a.out.below B23)
      replace H_b := Lib.hid (H_b.out.below B23)
      replace hx := hx.below B23
      replace hy := hy.below B23
      replace hW := hW.trans (B23.mono hW.size)
      clear B23
      have HOK := Lib.hid hok
      clear hok
      have z24 := zba w23 (.cells #[.bool s23, .slice A23 n23 c23] 25)
      obtain ⟨w24, hw24⟩ : ∃ w', w' = w23.alloc (.cells #[.bool s23, .slice A23 n23 c23] 25) := ⟨_, rfl⟩
      have I24 : Ib w24 w23.heap.size s23 A23 n23 c23 := by rw [hw24]; exact Ib.new _ _ _ _ _ _
      rw [← hw24] at z24
      have HW24 := Lib.hid hw24.symm
      have O_a := H_a
      have lt_a_q : w.heap.size < w23.heap.size := H_a.out.2.2.2.2
      have O_b := H_b
      have lt_b_q : (w.heap.size + 1) < w23.heap.size := H_b.out.2.2.2.2
      have lw_q : w.heap.size ≤ w23.heap.size := hW.size
      replace H_a := Lib.hid (H_a.out.below z24)
      replace H_b := Lib.hid (H_b.out.below z24)
      replace hx := hx.below z24
      replace hy := hy.below z24
      replace pz := pz.below z24
      replace hW := hW.trans (z24.mono hW.size)
      have H_q := Lib.hid I24
      clear z24 hw24 I24
      obtain ⟨a1, a2, a3, a4, a5⟩ := O_a.out
      obtain ⟨b1, b2, b3, b4, b5⟩ := O_b.out
      go_wp2_with fail
      rw [HW24.out]
      clear a1 a2 a3 a4 a5 b1 b2 b3 b4 b5 O_a O_b
      refine (zsign_v (r := -1) hy (by omega) (Int.sign_eq_neg_one_of_neg h0)).mono ?_
      rintro e w25 ⟨rfl, B25⟩
      replace H_a := Lib.hid (H_a.out.below B25)
      replace H_b := Lib.hid (H_b.out.below B25)
      replace H_q := Lib.hid (H_q.out.below B25)
      replace hx := hx.below B25
      replace hy := hy.below B25
      replace pz := pz.below B25
      replace hW := hW.trans (B25.mono hW.size)
      clear B25
      obtain ⟨a1, a2, a3, a4, a5⟩ := H_a.out
      obtain ⟨b1, b2, b3, b4, b5⟩ := H_b.out
      obtain ⟨q1, q2, q3, q4, q5⟩ := H_q.out
      go_wp2_with fail
      clear a1 a2 a3 a4 a5 b1 b2 b3 b4 b5 q1 q2 q3 q4 q5
      go_upto_region 6 with fail
      go_cut [7] (VarCut w25 (x - z * y) 30)
      case first =>
        obtain ⟨a1, a2, a3, a4, a5⟩ := H_a.out
        obtain ⟨b1, b2, b3, b4, b5⟩ := H_b.out
        obtain ⟨q1, q2, q3, q4, q5⟩ := H_q.out
        have an : ¬ (w25.heap.size = w.heap.size) := by omega
        have am : ¬ (w.heap.size = w25.heap.size) := by omega
        have bn : ¬ (w25.heap.size = (w.heap.size + 1)) := by omega
        have bm : ¬ ((w.heap.size + 1) = w25.heap.size) := by omega
        have qn : ¬ (w25.heap.size = w23.heap.size) := by omega
        have qm : ¬ (w23.heap.size = w25.heap.size) := by omega
        go_region_held3 (fun w' => w'.cell? ⟨w.heap.size, 0, none⟩ = some (.bool s) ∧ w'.cell? ⟨w.heap.size, 1, none⟩ = some (.slice A n c) ∧ w'.cell? ⟨(w.heap.size + 1), 0, none⟩ = some (.bool t) ∧ w'.cell? ⟨(w.heap.size + 1), 1, none⟩ = some (.slice B m d) ∧ w'.cell? ⟨w23.heap.size, 0, none⟩ = some (.bool s23) ∧ w'.cell? ⟨w23.heap.size, 1, none⟩ = some (.slice A23 n23 c23)) (go_keep) (first
          | (go_at_call 19; (with_reducible refine (zmul_v (pz.below (below_drew _)).zv (hy.below (below_drew _)) (by omega) (by omega)).mono ?_); rintro e w26 ⟨s26, A26, n26, c26, rfl, p26, k26, B26⟩; have Q26 := zup (below_drew _) B26; obtain ⟨ax26, ay26, af26, ag26, az26⟩ := H_a.out.below Q26; have an26 : ¬ (w26.heap.size = w.heap.size) := (by omega); have am26 : ¬ (w.heap.size = w26.heap.size) := (by omega); obtain ⟨bx26, by26, bf26, bg26, bz26⟩ := H_b.out.below Q26; have bn26 : ¬ (w26.heap.size = (w.heap.size + 1)) := (by omega); have bm26 : ¬ ((w.heap.size + 1) = w26.heap.size) := (by omega); obtain ⟨qx26, qy26, qf26, qg26, qz26⟩ := H_q.out.below Q26; have qn26 : ¬ (w26.heap.size = w23.heap.size) := (by omega); have qm26 : ¬ (w23.heap.size = w26.heap.size) := (by omega))
          | (go_at_call 19; (with_reducible refine (zmul_v (pz.below (zbd _ _)).zv (hy.below (zbd _ _)) (by omega) (by omega)).mono ?_); rintro e w26 ⟨s26, A26, n26, c26, rfl, p26, k26, B26⟩; have Q26 := zup (zbd _ _) B26; have J26 := (Ib.newd w25 false none 0 0 25).below B26; have g26 := Nat.le_refl w25.heap.size; obtain ⟨ax26, ay26, af26, ag26, az26⟩ := H_a.out.below Q26; have an26 : ¬ (w26.heap.size = w.heap.size) := (by omega); have am26 : ¬ (w.heap.size = w26.heap.size) := (by omega); obtain ⟨bx26, by26, bf26, bg26, bz26⟩ := H_b.out.below Q26; have bn26 : ¬ (w26.heap.size = (w.heap.size + 1)) := (by omega); have bm26 : ¬ ((w.heap.size + 1) = w26.heap.size) := (by omega); obtain ⟨qx26, qy26, qf26, qg26, qz26⟩ := H_q.out.below Q26; have qn26 : ¬ (w26.heap.size = w23.heap.size) := (by omega); have qm26 : ¬ (w23.heap.size = w26.heap.size) := (by omega); have Jc26 := J26; obtain ⟨jx26, jy26, jf26, jg26, jz26⟩ := Jc26)
          | (go_at_call 17; (with_reducible refine (zsub_v (hx.below Q26) p26.zv (by omega) (by omega)).mono ?_); rintro e w27 ⟨s27, A27, n27, c27, rfl, p27, k27, B27⟩; have Q27 := zup Q26 B27; have J27 := J26.below B27; have g27 := g26; obtain ⟨ax27, ay27, af27, ag27, az27⟩ := H_a.out.below Q27; have an27 : ¬ (w27.heap.size = w.heap.size) := (by omega); have am27 : ¬ (w.heap.size = w27.heap.size) := (by omega); obtain ⟨bx27, by27, bf27, bg27, bz27⟩ := H_b.out.below Q27; have bn27 : ¬ (w27.heap.size = (w.heap.size + 1)) := (by omega); have bm27 : ¬ ((w.heap.size + 1) = w27.heap.size) := (by omega); obtain ⟨qx27, qy27, qf27, qg27, qz27⟩ := H_q.out.below Q27; have qn27 : ¬ (w27.heap.size = w23.heap.size) := (by omega); have qm27 : ¬ (w23.heap.size = w27.heap.size) := (by omega); have Jc27 := J27; obtain ⟨jx27, jy27, jf27, jg27, jz27⟩ := Jc27)
          | (go_at_call 17; (with_reducible refine (zsub_v (hx.below Q26) p26.zv (by omega) (by omega)).mono ?_); rintro e w27 ⟨s27, A27, n27, c27, rfl, p27, k27, B27⟩; have Q27 := zup Q26 B27; obtain ⟨ax27, ay27, af27, ag27, az27⟩ := H_a.out.below Q27; have an27 : ¬ (w27.heap.size = w.heap.size) := (by omega); have am27 : ¬ (w.heap.size = w27.heap.size) := (by omega); obtain ⟨bx27, by27, bf27, bg27, bz27⟩ := H_b.out.below Q27; have bn27 : ¬ (w27.heap.size = (w.heap.size + 1)) := (by omega); have bm27 : ¬ ((w.heap.size + 1) = w27.heap.size) := (by omega); obtain ⟨qx27, qy27, qf27, qg27, qz27⟩ := H_q.out.below Q27; have qn27 : ¬ (w27.heap.size = w23.heap.size) := (by omega); have qm27 : ¬ (w23.heap.size = w27.heap.size) := (by omega))
          | (go_at_call 17; (with_reducible refine (zsub_v (hx.below (zup Q26 (zba _ _))) (p26.below (zba _ _)).zv (by omega) (by omega)).mono ?_); rintro e w27 ⟨s27, A27, n27, c27, rfl, p27, k27, B27⟩; have Q27 := zup (zup Q26 (zba _ _)) B27; have J27 := (Ib.new w26 false none 0 0 25).below B27; have g27 := Q26.size; obtain ⟨ax27, ay27, af27, ag27, az27⟩ := H_a.out.below Q27; have an27 : ¬ (w27.heap.size = w.heap.size) := (by omega); have am27 : ¬ (w.heap.size = w27.heap.size) := (by omega); obtain ⟨bx27, by27, bf27, bg27, bz27⟩ := H_b.out.below Q27; have bn27 : ¬ (w27.heap.size = (w.heap.size + 1)) := (by omega); have bm27 : ¬ ((w.heap.size + 1) = w27.heap.size) := (by omega); obtain ⟨qx27, qy27, qf27, qg27, qz27⟩ := H_q.out.below Q27; have qn27 : ¬ (w27.heap.size = w23.heap.size) := (by omega); have qm27 : ¬ (w23.heap.size = w27.heap.size) := (by omega); have Jc27 := J27; obtain ⟨jx27, jy27, jf27, jg27, jz27⟩ := Jc27))
        all_goals
          first
          | have P := Lib.hid (VarCut.put (w0 := w25) (z := (x - z * y)) (k := 30) J27 p27 Q27 g27 (by omega))
          | have P := Lib.hid (VarCut.new (w0 := w25) (z := (x - z * y)) (k := 30) (t := 25) p27 Q27 (by omega))
          go_wp2_with fail
          go_meet
          exact P.out
      case rest =>
        obtain ⟨g28, s28, A28, n28, c28, rfl, hg28, I28, p28, k28, B28⟩ := hcut
        obtain ⟨w28, hw28⟩ : ∃ x, x = wc := ⟨_, rfl⟩
        subst hw28
        have lt_a_d : w.heap.size < g28 := Nat.lt_of_lt_of_le H_a.out.2.2.2.2 hg28
        have lt_b_d : (w.heap.size + 1) < g28 := Nat.lt_of_lt_of_le H_b.out.2.2.2.2 hg28
        have lt_q_d : w23.heap.size < g28 := Nat.lt_of_lt_of_le H_q.out.2.2.2.2 hg28
        have lw_d : w.heap.size ≤ g28 := Nat.le_trans hW.size hg28
        replace H_a := Lib.hid (H_a.out.below B28)
        replace H_b := Lib.hid (H_b.out.below B28)
        replace H_q := Lib.hid (H_q.out.below B28)
        replace hx := hx.below B28
        replace hy := hy.below B28
        replace pz := pz.below B28
        replace hW := hW.trans (B28.mono hW.size)
        have H_d := Lib.hid I28
        clear B28 I28 hg28
        have pd := p28
        clear p28
        clear pz
        clear H_q
        obtain ⟨a1, a2, a3, a4, a5⟩ := H_a.out
        obtain ⟨b1, b2, b3, b4, b5⟩ := H_b.out
        obtain ⟨d1, d2, d3, d4, d5⟩ := H_d.out
        go_wp2_with fail
        clear a1 a2 a3 a4 a5 b1 b2 b3 b4 b5 d1 d2 d3 d4 d5
        refine (zadd_v pd.zv pd.zv (by omega) (by omega)).mono ?_
        rintro e w29 ⟨s29, A29, n29, c29, rfl, pt, k29, B29⟩
        replace H_a := Lib.hid (H_a.out.below B29)
        replace H_b := Lib.hid (H_b.out.below B29)
        replace H_d := Lib.hid (H_d.out.below B29)
        replace hx := hx.below B29
        replace hy := hy.below B29
        replace pd := pd.below B29
        replace hW := hW.trans (B29.mono hW.size)
        clear B29
        clear pd
        clear H_d
        have z30 := zba w29 (.cells #[.bool s29, .slice A29 n29 c29] 25)
        obtain ⟨w30, hw30⟩ : ∃ w', w' = w29.alloc (.cells #[.bool s29, .slice A29 n29 c29] 25) := ⟨_, rfl⟩
        have I30 : Ib w30 w29.heap.size s29 A29 n29 c29 := by rw [hw30]; exact Ib.new _ _ _ _ _ _
        rw [← hw30] at z30
        have HW30 := Lib.hid hw30.symm
        have O_a := H_a
        have lt_a_e : w.heap.size < w29.heap.size := H_a.out.2.2.2.2
        have O_b := H_b
        have lt_b_e : (w.heap.size + 1) < w29.heap.size := H_b.out.2.2.2.2
        have lw_e : w.heap.size ≤ w29.heap.size := hW.size
        replace H_a := Lib.hid (H_a.out.below z30)
        replace H_b := Lib.hid (H_b.out.below z30)
        replace hx := hx.below z30
        replace hy := hy.below z30
        replace pt := pt.below z30
        replace hW := hW.trans (z30.mono hW.size)
        have H_e := Lib.hid I30
        clear z30 hw30 I30
        obtain ⟨a1, a2, a3, a4, a5⟩ := O_a.out
        obtain ⟨b1, b2, b3, b4, b5⟩ := O_b.out
        go_wp2_with fail
        rw [HW30.out]
        clear a1 a2 a3 a4 a5 b1 b2 b3 b4 b5 O_a O_b
        refine (zsign_v (r := -1) hy (by omega) (Int.sign_eq_neg_one_of_neg h0)).mono ?_
        rintro e w31 ⟨rfl, B31⟩
        replace H_a := Lib.hid (H_a.out.below B31)
        replace H_b := Lib.hid (H_b.out.below B31)
        replace H_e := Lib.hid (H_e.out.below B31)
        replace hx := hx.below B31
        replace hy := hy.below B31
        replace pt := pt.below B31
        replace hW := hW.trans (B31.mono hW.size)
        clear B31
        obtain ⟨v, hv⟩ : ∃ v, x - z * y = v := ⟨_, rfl⟩
        have hok := HOK.out
        unfold RoundOk at hok
        rw [hv] at hok pt
        obtain ⟨a1, a2, a3, a4, a5⟩ := H_a.out
        obtain ⟨b1, b2, b3, b4, b5⟩ := H_b.out
        obtain ⟨e1, e2, e3, e4, e5⟩ := H_e.out
        go_wp2_with fail
        clear a1 a2 a3 a4 a5 b1 b2 b3 b4 b5 e1 e2 e3 e4 e5
        refine (zneg_v pt.zv (by omega)).mono ?_
        rintro e w32 ⟨s32, A32, n32, c32, rfl, pu, k32, B32⟩
        replace H_a := Lib.hid (H_a.out.below B32)
        replace H_b := Lib.hid (H_b.out.below B32)
        replace H_e := Lib.hid (H_e.out.below B32)
        replace hx := hx.below B32
        replace hy := hy.below B32
        replace pt := pt.below B32
        replace hW := hW.trans (B32.mono hW.size)
        clear B32
        clear pt
        obtain ⟨w33, hw33⟩ : ∃ w', w' = zput w32 w29.heap.size s32 A32 n32 c32 := ⟨_, rfl⟩
        have HW33 : Hid ((w32.setCell ⟨w29.heap.size, 0, none⟩ (.bool s32)).setCell ⟨w29.heap.size, 1, none⟩ (.slice A32 n32 c32) = w33) := Lib.hid hw33.symm
        have OI := H_e.out
        have O_a := H_a
        have O_b := H_b
        have O_e := H_e
        have nn_a : ¬ (w29.heap.size = w.heap.size) := by omega
        have nm_a : ¬ (w.heap.size = w29.heap.size) := by omega
        replace H_a : Hid (Ib w33 w.heap.size s A n c) := Lib.hid (by rw [hw33]; exact H_a.out.put (l := 0) (e := 0) (u := true) (C := none) nm_a)
        have nn_b : ¬ (w29.heap.size = (w.heap.size + 1)) := by omega
        have nm_b : ¬ ((w.heap.size + 1) = w29.heap.size) := by omega
        replace H_b : Hid (Ib w33 (w.heap.size + 1) t B m d) := Lib.hid (by rw [hw33]; exact H_b.out.put (l := 0) (e := 0) (u := true) (C := none) nm_b)
        replace H_e : Hid (Ib w33 w29.heap.size s32 A32 n32 c32) := Lib.hid (by rw [hw33]; exact OI.own)
        replace hx := hx.put (s' := s32) (A' := A32) (n' := n32) (c' := c32) OI
        rw [← hw33] at hx
        replace hy := hy.put (s' := s32) (A' := A32) (n' := n32) (c' := c32) OI
        rw [← hw33] at hy
        replace pu := pu.put (s' := s32) (A' := A32) (n' := n32) (c' := c32) OI
        rw [← hw33] at pu
        replace hW : Below w.heap.size w w33 := by rw [hw33]; exact below_put hW lw_e
        clear hw33 OI
        obtain ⟨a1, a2, a3, a4, a5⟩ := O_a.out
        obtain ⟨b1, b2, b3, b4, b5⟩ := O_b.out
        obtain ⟨e1, e2, e3, e4, e5⟩ := O_e.out
        go_wp2_with fail
        rw [HW33.out]
        clear a1 a2 a3 a4 a5 b1 b2 b3 b4 b5 e1 e2 e3 e4 e5 O_a O_b O_e nn_a nm_a nn_b nm_b
        refine (zabs_v hy (by omega)).mono ?_
        rintro e w34 ⟨s34, A34, n34, c34, rfl, pf, k34, B34⟩
        replace H_a := Lib.hid (H_a.out.below B34)
        replace H_b := Lib.hid (H_b.out.below B34)
        replace H_e := Lib.hid (H_e.out.below B34)
        replace hx := hx.below B34
        replace hy := hy.below B34
        replace pu := pu.below B34
        replace hW := hW.trans (B34.mono hW.size)
        clear B34
        have z35 := zba w34 (.cells #[.bool s34, .slice A34 n34 c34] 25)
        obtain ⟨w35, hw35⟩ : ∃ w', w' = w34.alloc (.cells #[.bool s34, .slice A34 n34 c34] 25) := ⟨_, rfl⟩
        have I35 : Ib w35 w34.heap.size s34 A34 n34 c34 := by rw [hw35]; exact Ib.new _ _ _ _ _ _
        rw [← hw35] at z35
        have HW35 := Lib.hid hw35.symm
        have O_a := H_a
        have lt_a_f : w.heap.size < w34.heap.size := H_a.out.2.2.2.2
        have O_b := H_b
        have lt_b_f : (w.heap.size + 1) < w34.heap.size := H_b.out.2.2.2.2
        have O_e := H_e
        have lt_e_f : w29.heap.size < w34.heap.size := H_e.out.2.2.2.2
        have lw_f : w.heap.size ≤ w34.heap.size := hW.size
        replace H_a := Lib.hid (H_a.out.below z35)
        replace H_b := Lib.hid (H_b.out.below z35)
        replace H_e := Lib.hid (H_e.out.below z35)
        replace hx := hx.below z35
        replace hy := hy.below z35
        replace pu := pu.below z35
        replace pf := pf.below z35
        replace hW := hW.trans (z35.mono hW.size)
        have H_f := Lib.hid I35
        clear z35 hw35 I35
        have HV := Lib.hid hv
        clear hv
        obtain ⟨r1, hr1⟩ : ∃ r, (-(v + v) - -(y.natAbs : Int)).sign = r := ⟨_, rfl⟩
        obtain ⟨r2, hr2⟩ : ∃ r, (-(v + v) - (y.natAbs : Int)).sign = r := ⟨_, rfl⟩
        have q1 : 0 ≤ r1 := by rw [← hr1]; exact sign_ge (by omega)
        have q2 : r2 < 0 := by rw [← hr2, Int.sign_eq_neg_one_of_neg (by omega)]; omega
        have R1 := Lib.hid hr1
        have R2 := Lib.hid hr2
        clear hr1 hr2 hok
        obtain ⟨a1, a2, a3, a4, a5⟩ := O_a.out
        obtain ⟨b1, b2, b3, b4, b5⟩ := O_b.out
        obtain ⟨e1, e2, e3, e4, e5⟩ := O_e.out
        go_wp2_with fail
        rw [HW35.out]
        clear a1 a2 a3 a4 a5 b1 b2 b3 b4 b5 e1 e2 e3 e4 e5 O_a O_b O_e
        obtain ⟨a1, a2, a3, a4, a5⟩ := H_a.out
        obtain ⟨b1, b2, b3, b4, b5⟩ := H_b.out
        obtain ⟨e1, e2, e3, e4, e5⟩ := H_e.out
        obtain ⟨f1, f2, f3, f4, f5⟩ := H_f.out
        go_region_held3 (fun w' => w'.cell? ⟨w.heap.size, 0, none⟩ = some (.bool s) ∧ w'.cell? ⟨w.heap.size, 1, none⟩ = some (.slice A n c) ∧ w'.cell? ⟨(w.heap.size + 1), 0, none⟩ = some (.bool t) ∧ w'.cell? ⟨(w.heap.size + 1), 1, none⟩ = some (.slice B m d) ∧ w'.cell? ⟨w29.heap.size, 0, none⟩ = some (.bool s32) ∧ w'.cell? ⟨w29.heap.size, 1, none⟩ = some (.slice A32 n32 c32) ∧ w'.cell? ⟨w34.heap.size, 0, none⟩ = some (.bool s34) ∧ w'.cell? ⟨w34.heap.size, 1, none⟩ = some (.slice A34 n34 c34)) (go_keep) (first
          | (go_at_call 21; (with_reducible refine (zneg_v (pf.below (below_drew _)).zv (by omega)).mono ?_); rintro e w36 ⟨s36, A36, n36, c36, rfl, p36, k36, B36⟩; have Q36 := zup (below_drew _) B36; obtain ⟨ax36, ay36, af36, ag36, az36⟩ := H_a.out.below Q36; obtain ⟨bx36, by36, bf36, bg36, bz36⟩ := H_b.out.below Q36; obtain ⟨ex36, ey36, ef36, eg36, ez36⟩ := H_e.out.below Q36; obtain ⟨fx36, fy36, ff36, fg36, fz36⟩ := H_f.out.below Q36)
          | (go_at_call 27; (with_reducible refine (zcmp_v (pu.below Q36).zv p36.zv (by omega) (by omega) R1.out).mono ?_); rintro e w37 ⟨rfl, B37⟩; have Q37 := zup Q36 B37; obtain ⟨ax37, ay37, af37, ag37, az37⟩ := H_a.out.below Q37; obtain ⟨bx37, by37, bf37, bg37, bz37⟩ := H_b.out.below Q37; obtain ⟨ex37, ey37, ef37, eg37, ez37⟩ := H_e.out.below Q37; obtain ⟨fx37, fy37, ff37, fg37, fz37⟩ := H_f.out.below Q37)
          | (go_at_call 27; (with_reducible refine (zcmp_v (pu.below Q37).zv (pf.below Q37).zv (by omega) (by omega) R2.out).mono ?_); rintro e w38 ⟨rfl, B38⟩; have Q38 := zup Q37 B38; obtain ⟨ax38, ay38, af38, ag38, az38⟩ := H_a.out.below Q38; obtain ⟨bx38, by38, bf38, bg38, bz38⟩ := H_b.out.below Q38; obtain ⟨ex38, ey38, ef38, eg38, ez38⟩ := H_e.out.below Q38; obtain ⟨fx38, fy38, ff38, fg38, fz38⟩ := H_f.out.below Q38))
        clear a1 a2 a3 a4 a5 b1 b2 b3 b4 b5 e1 e2 e3 e4 e5 f1 f2 f3 f4 f5 ax36 ay36 af36 ag36 az36 bx36 by36 bf36 bg36 bz36 ex36 ey36 ef36 eg36 ez36 fx36 fy36 ff36 fg36 fz36 ax37 ay37 af37 ag37 az37 bx37 by37 bf37 bg37 bz37 ex37 ey37 ef37 eg37 ez37 fx37 fy37 ff37 fg37 fz37 ax38 ay38 af38 ag38 az38 bx38 by38 bf38 bg38 bz38 ex38 ey38 ef38 eg38 ez38 fx38 fy38 ff38 fg38 fz38
        replace H_a := Lib.hid (H_a.out.below Q38)
        replace H_b := Lib.hid (H_b.out.below Q38)
        replace H_e := Lib.hid (H_e.out.below Q38)
        replace H_f := Lib.hid (H_f.out.below Q38)
        replace hx := hx.below Q38
        replace hy := hy.below Q38
        replace pu := pu.below Q38
        replace pf := pf.below Q38
        replace hW := hW.trans (Q38.mono hW.size)
        clear B36 Q36 B37 Q37 B38 Q38 p36
        go_wp2_with fail
        go_ret
        exact ⟨rfl, hW⟩
    · go_enter Try.func5, Try.ntmps5
      obtain ⟨a1, a2, a3, a4, a5⟩ := H_a.out
      obtain ⟨b1, b2, b3, b4, b5⟩ := H_b.out
      go_wp2_with fail
      rw [HW.out]
      clear a1 a2 a3 a4 a5 b1 b2 b3 b4 b5
      refine (zawake_calls _).mono ?_
      rintro e w21 ⟨rfl, B21⟩
      replace H_a := Lib.hid (H_a.out.below B21)
      replace H_b := Lib.hid (H_b.out.below B21)
      replace hx := hx.below B21
      replace hy := hy.below B21
      replace hW := hW.trans (B21.mono hW.size)
      clear B21
      obtain ⟨a1, a2, a3, a4, a5⟩ := H_a.out
      obtain ⟨b1, b2, b3, b4, b5⟩ := H_b.out
      go_wp2_with fail
      clear a1 a2 a3 a4 a5 b1 b2 b3 b4 b5
      refine (zfew_v (k := 8) (b := true) hn hm hn (by omega) (by rw [decide_eq_true_iff]; omega)).mono ?_
      rintro e w22 ⟨rfl, B22⟩
      replace H_a := Lib.hid (H_a.out.below B22)
      replace H_b := Lib.hid (H_b.out.below B22)
      replace hx := hx.below B22
      replace hy := hy.below B22
      replace hW := hW.trans (B22.mono hW.size)
      clear B22
      subst h0
      obtain ⟨a1, a2, a3, a4, a5⟩ := H_a.out
      obtain ⟨b1, b2, b3, b4, b5⟩ := H_b.out
      go_wp2_with fail
      clear a1 a2 a3 a4 a5 b1 b2 b3 b4 b5
      refine (zround_no hx hy (by omega) (by omega)).mono ?_
      rintro e w23 ⟨rfl, B23⟩
      replace H_a := Lib.hid (H_a.out.below B23)
      replace H_b := Lib.hid (H_b.out.below B23)
      replace hx := hx.below B23
      replace hy := hy.below B23
      replace hW := hW.trans (B23.mono hW.size)
      clear B23
      have pz : Zv w23 false none 0 0 0 := ⟨0, Nv.nil _, Lib.hid rfl⟩
      have z24 := zba w23 (.cells #[.bool false, .slice none 0 0] 25)
      obtain ⟨w24, hw24⟩ : ∃ w', w' = w23.alloc (.cells #[.bool false, .slice none 0 0] 25) := ⟨_, rfl⟩
      have I24 : Ib w24 w23.heap.size false none 0 0 := by rw [hw24]; exact Ib.new _ _ _ _ _ _
      rw [← hw24] at z24
      have HW24 := Lib.hid hw24.symm
      have O_a := H_a
      have O_b := H_b
      replace H_a := Lib.hid (H_a.out.below z24)
      replace H_b := Lib.hid (H_b.out.below z24)
      replace hx := hx.below z24
      replace hy := hy.below z24
      replace pz := pz.below z24
      replace hW := hW.trans (z24.mono hW.size)
      have H_q := Lib.hid I24
      clear z24 hw24 I24
      obtain ⟨a1, a2, a3, a4, a5⟩ := O_a.out
      obtain ⟨b1, b2, b3, b4, b5⟩ := O_b.out
      go_wp2_with fail
      rw [HW24.out]
      clear a1 a2 a3 a4 a5 b1 b2 b3 b4 b5 O_a O_b
      refine (zsign_v (r := 0) hy (by omega) rfl).mono ?_
      rintro e w25 ⟨rfl, B25⟩
      replace H_a := Lib.hid (H_a.out.below B25)
      replace H_b := Lib.hid (H_b.out.below B25)
      replace H_q := Lib.hid (H_q.out.below B25)
      replace hx := hx.below B25
      replace hy := hy.below B25
      replace pz := pz.below B25
      replace hW := hW.trans (B25.mono hW.size)
      clear B25
      obtain ⟨a1, a2, a3, a4, a5⟩ := H_a.out
      obtain ⟨b1, b2, b3, b4, b5⟩ := H_b.out
      obtain ⟨q1, q2, q3, q4, q5⟩ := H_q.out
      go_wp2_with fail
      clear a1 a2 a3 a4 a5 b1 b2 b3 b4 b5 q1 q2 q3 q4 q5
      refine (zsign_v (r := 0) pz (by omega) rfl).mono ?_
      rintro e w26 ⟨rfl, B26⟩
      replace H_a := Lib.hid (H_a.out.below B26)
      replace H_b := Lib.hid (H_b.out.below B26)
      replace H_q := Lib.hid (H_q.out.below B26)
      replace hx := hx.below B26
      replace hy := hy.below B26
      replace pz := pz.below B26
      replace hW := hW.trans (B26.mono hW.size)
      clear B26
      go_wp2_with fail
      go_ret
      exact ⟨rfl, hW⟩
    · go_enter Try.func5, Try.ntmps5
      obtain ⟨a1, a2, a3, a4, a5⟩ := H_a.out
      obtain ⟨b1, b2, b3, b4, b5⟩ := H_b.out
      go_wp2_with fail
      rw [HW.out]
      clear a1 a2 a3 a4 a5 b1 b2 b3 b4 b5
      refine (zawake_calls _).mono ?_
      rintro e w21 ⟨rfl, B21⟩
      replace H_a := Lib.hid (H_a.out.below B21)
      replace H_b := Lib.hid (H_b.out.below B21)
      replace hx := hx.below B21
      replace hy := hy.below B21
      replace hW := hW.trans (B21.mono hW.size)
      clear B21
      obtain ⟨a1, a2, a3, a4, a5⟩ := H_a.out
      obtain ⟨b1, b2, b3, b4, b5⟩ := H_b.out
      go_wp2_with fail
      clear a1 a2 a3 a4 a5 b1 b2 b3 b4 b5
      refine (zfew_v (k := 8) (b := true) hn hm hn (by omega) (by rw [decide_eq_true_iff]; omega)).mono ?_
      rintro e w22 ⟨rfl, B22⟩
      replace H_a := Lib.hid (H_a.out.below B22)
      replace H_b := Lib.hid (H_b.out.below B22)
      replace hx := hx.below B22
      replace hy := hy.below B22
      replace hW := hW.trans (B22.mono hW.size)
      clear B22
      obtain ⟨a1, a2, a3, a4, a5⟩ := H_a.out
      obtain ⟨b1, b2, b3, b4, b5⟩ := H_b.out
      go_wp2_with fail
      clear a1 a2 a3 a4 a5 b1 b2 b3 b4 b5
      refine (zround_v hx hy (by omega) (by omega) (by omega)).mono ?_
      rintro e w23 ⟨z, hok, s23, A23, n23, c23, rfl, pz, k23, B23⟩
      replace H_a := Lib.hid (H_a.out.below B23)
      replace H_b := Lib.hid (H_b.out.below B23)
      replace hx := hx.below B23
      replace hy := hy.below B23
      replace hW := hW.trans (B23.mono hW.size)
      clear B23
      have HOK := Lib.hid hok
      clear hok
      have z24 := zba w23 (.cells #[.bool s23, .slice A23 n23 c23] 25)
      obtain ⟨w24, hw24⟩ : ∃ w', w' = w23.alloc (.cells #[.bool s23, .slice A23 n23 c23] 25) := ⟨_, rfl⟩
      have I24 : Ib w24 w23.heap.size s23 A23 n23 c23 := by rw [hw24]; exact Ib.new _ _ _ _ _ _
      rw [← hw24] at z24
      have HW24 := Lib.hid hw24.symm
      have O_a := H_a
      have lt_a_q : w.heap.size < w23.heap.size := H_a.out.2.2.2.2
      have O_b := H_b
      have lt_b_q : (w.heap.size + 1) < w23.heap.size := H_b.out.2.2.2.2
      have lw_q : w.heap.size ≤ w23.heap.size := hW.size
      replace H_a := Lib.hid (H_a.out.below z24)
      replace H_b := Lib.hid (H_b.out.below z24)
      replace hx := hx.below z24
      replace hy := hy.below z24
      replace pz := pz.below z24
      replace hW := hW.trans (z24.mono hW.size)
      have H_q := Lib.hid I24
      clear z24 hw24 I24
      obtain ⟨a1, a2, a3, a4, a5⟩ := O_a.out
      obtain ⟨b1, b2, b3, b4, b5⟩ := O_b.out
      go_wp2_with fail
      rw [HW24.out]
      clear a1 a2 a3 a4 a5 b1 b2 b3 b4 b5 O_a O_b
      refine (zsign_v (r := 1) hy (by omega) (Int.sign_eq_one_of_pos h0)).mono ?_
      rintro e w25 ⟨rfl, B25⟩
      replace H_a := Lib.hid (H_a.out.below B25)
      replace H_b := Lib.hid (H_b.out.below B25)
      replace H_q := Lib.hid (H_q.out.below B25)
      replace hx := hx.below B25
      replace hy := hy.below B25
      replace pz := pz.below B25
      replace hW := hW.trans (B25.mono hW.size)
      clear B25
      obtain ⟨a1, a2, a3, a4, a5⟩ := H_a.out
      obtain ⟨b1, b2, b3, b4, b5⟩ := H_b.out
      obtain ⟨q1, q2, q3, q4, q5⟩ := H_q.out
      go_wp2_with fail
      clear a1 a2 a3 a4 a5 b1 b2 b3 b4 b5 q1 q2 q3 q4 q5
      go_upto_region 6 with fail
      go_cut [7] (VarCut w25 (x - z * y) 30)
      case first =>
        obtain ⟨a1, a2, a3, a4, a5⟩ := H_a.out
        obtain ⟨b1, b2, b3, b4, b5⟩ := H_b.out
        obtain ⟨q1, q2, q3, q4, q5⟩ := H_q.out
        have an : ¬ (w25.heap.size = w.heap.size) := by omega
        have am : ¬ (w.heap.size = w25.heap.size) := by omega
        have bn : ¬ (w25.heap.size = (w.heap.size + 1)) := by omega
        have bm : ¬ ((w.heap.size + 1) = w25.heap.size) := by omega
        have qn : ¬ (w25.heap.size = w23.heap.size) := by omega
        have qm : ¬ (w23.heap.size = w25.heap.size) := by omega
        go_region_held3 (fun w' => w'.cell? ⟨w.heap.size, 0, none⟩ = some (.bool s) ∧ w'.cell? ⟨w.heap.size, 1, none⟩ = some (.slice A n c) ∧ w'.cell? ⟨(w.heap.size + 1), 0, none⟩ = some (.bool t) ∧ w'.cell? ⟨(w.heap.size + 1), 1, none⟩ = some (.slice B m d) ∧ w'.cell? ⟨w23.heap.size, 0, none⟩ = some (.bool s23) ∧ w'.cell? ⟨w23.heap.size, 1, none⟩ = some (.slice A23 n23 c23)) (go_keep) (first
          | (go_at_call 19; (with_reducible refine (zmul_v (pz.below (below_drew _)).zv (hy.below (below_drew _)) (by omega) (by omega)).mono ?_); rintro e w26 ⟨s26, A26, n26, c26, rfl, p26, k26, B26⟩; have Q26 := zup (below_drew _) B26; obtain ⟨ax26, ay26, af26, ag26, az26⟩ := H_a.out.below Q26; have an26 : ¬ (w26.heap.size = w.heap.size) := (by omega); have am26 : ¬ (w.heap.size = w26.heap.size) := (by omega); obtain ⟨bx26, by26, bf26, bg26, bz26⟩ := H_b.out.below Q26; have bn26 : ¬ (w26.heap.size = (w.heap.size + 1)) := (by omega); have bm26 : ¬ ((w.heap.size + 1) = w26.heap.size) := (by omega); obtain ⟨qx26, qy26, qf26, qg26, qz26⟩ := H_q.out.below Q26; have qn26 : ¬ (w26.heap.size = w23.heap.size) := (by omega); have qm26 : ¬ (w23.heap.size = w26.heap.size) := (by omega))
          | (go_at_call 19; (with_reducible refine (zmul_v (pz.below (zbd _ _)).zv (hy.below (zbd _ _)) (by omega) (by omega)).mono ?_); rintro e w26 ⟨s26, A26, n26, c26, rfl, p26, k26, B26⟩; have Q26 := zup (zbd _ _) B26; have J26 := (Ib.newd w25 false none 0 0 25).below B26; have g26 := Nat.le_refl w25.heap.size; obtain ⟨ax26, ay26, af26, ag26, az26⟩ := H_a.out.below Q26; have an26 : ¬ (w26.heap.size = w.heap.size) := (by omega); have am26 : ¬ (w.heap.size = w26.heap.size) := (by omega); obtain ⟨bx26, by26, bf26, bg26, bz26⟩ := H_b.out.below Q26; have bn26 : ¬ (w26.heap.size = (w.heap.size + 1)) := (by omega); have bm26 : ¬ ((w.heap.size + 1) = w26.heap.size) := (by omega); obtain ⟨qx26, qy26, qf26, qg26, qz26⟩ := H_q.out.below Q26; have qn26 : ¬ (w26.heap.size = w23.heap.size) := (by omega); have qm26 : ¬ (w23.heap.size = w26.heap.size) := (by omega); have Jc26 := J26; obtain ⟨jx26, jy26, jf26, jg26, jz26⟩ := Jc26)
          | (go_at_call 17; (with_reducible refine (zsub_v (hx.below Q26) p26.zv (by omega) (by omega)).mono ?_); rintro e w27 ⟨s27, A27, n27, c27, rfl, p27, k27, B27⟩; have Q27 := zup Q26 B27; have J27 := J26.below B27; have g27 := g26; obtain ⟨ax27, ay27, af27, ag27, az27⟩ := H_a.out.below Q27; have an27 : ¬ (w27.heap.size = w.heap.size) := (by omega); have am27 : ¬ (w.heap.size = w27.heap.size) := (by omega); obtain ⟨bx27, by27, bf27, bg27, bz27⟩ := H_b.out.below Q27; have bn27 : ¬ (w27.heap.size = (w.heap.size + 1)) := (by omega); have bm27 : ¬ ((w.heap.size + 1) = w27.heap.size) := (by omega); obtain ⟨qx27, qy27, qf27, qg27, qz27⟩ := H_q.out.below Q27; have qn27 : ¬ (w27.heap.size = w23.heap.size) := (by omega); have qm27 : ¬ (w23.heap.size = w27.heap.size) := (by omega); have Jc27 := J27; obtain ⟨jx27, jy27, jf27, jg27, jz27⟩ := Jc27)
          | (go_at_call 17; (with_reducible refine (zsub_v (hx.below Q26) p26.zv (by omega) (by omega)).mono ?_); rintro e w27 ⟨s27, A27, n27, c27, rfl, p27, k27, B27⟩; have Q27 := zup Q26 B27; obtain ⟨ax27, ay27, af27, ag27, az27⟩ := H_a.out.below Q27; have an27 : ¬ (w27.heap.size = w.heap.size) := (by omega); have am27 : ¬ (w.heap.size = w27.heap.size) := (by omega); obtain ⟨bx27, by27, bf27, bg27, bz27⟩ := H_b.out.below Q27; have bn27 : ¬ (w27.heap.size = (w.heap.size + 1)) := (by omega); have bm27 : ¬ ((w.heap.size + 1) = w27.heap.size) := (by omega); obtain ⟨qx27, qy27, qf27, qg27, qz27⟩ := H_q.out.below Q27; have qn27 : ¬ (w27.heap.size = w23.heap.size) := (by omega); have qm27 : ¬ (w23.heap.size = w27.heap.size) := (by omega))
          | (go_at_call 17; (with_reducible refine (zsub_v (hx.below (zup Q26 (zba _ _))) (p26.below (zba _ _)).zv (by omega) (by omega)).mono ?_); rintro e w27 ⟨s27, A27, n27, c27, rfl, p27, k27, B27⟩; have Q27 := zup (zup Q26 (zba _ _)) B27; have J27 := (Ib.new w26 false none 0 0 25).below B27; have g27 := Q26.size; obtain ⟨ax27, ay27, af27, ag27, az27⟩ := H_a.out.below Q27; have an27 : ¬ (w27.heap.size = w.heap.size) := (by omega); have am27 : ¬ (w.heap.size = w27.heap.size) := (by omega); obtain ⟨bx27, by27, bf27, bg27, bz27⟩ := H_b.out.below Q27; have bn27 : ¬ (w27.heap.size = (w.heap.size + 1)) := (by omega); have bm27 : ¬ ((w.heap.size + 1) = w27.heap.size) := (by omega); obtain ⟨qx27, qy27, qf27, qg27, qz27⟩ := H_q.out.below Q27; have qn27 : ¬ (w27.heap.size = w23.heap.size) := (by omega); have qm27 : ¬ (w23.heap.size = w27.heap.size) := (by omega); have Jc27 := J27; obtain ⟨jx27, jy27, jf27, jg27, jz27⟩ := Jc27))
        all_goals
          first
          | have P := Lib.hid (VarCut.put (w0 := w25) (z := (x - z * y)) (k := 30) J27 p27 Q27 g27 (by omega))
          | have P := Lib.hid (VarCut.new (w0 := w25) (z := (x - z * y)) (k := 30) (t := 25) p27 Q27 (by omega))
          go_wp2_with fail
          go_meet
          exact P.out
      case rest =>
        obtain ⟨g28, s28, A28, n28, c28, rfl, hg28, I28, p28, k28, B28⟩ := hcut
        obtain ⟨w28, hw28⟩ : ∃ x, x = wc := ⟨_, rfl⟩
        subst hw28
        have lt_a_d : w.heap.size < g28 := Nat.lt_of_lt_of_le H_a.out.2.2.2.2 hg28
        have lt_b_d : (w.heap.size + 1) < g28 := Nat.lt_of_lt_of_le H_b.out.2.2.2.2 hg28
        have lt_q_d : w23.heap.size < g28 := Nat.lt_of_lt_of_le H_q.out.2.2.2.2 hg28
        have lw_d : w.heap.size ≤ g28 := Nat.le_trans hW.size hg28
        replace H_a := Lib.hid (H_a.out.below B28)
        replace H_b := Lib.hid (H_b.out.below B28)
        replace H_q := Lib.hid (H_q.out.below B28)
        replace hx := hx.below B28
        replace hy := hy.below B28
        replace pz := pz.below B28
        replace hW := hW.trans (B28.mono hW.size)
        have H_d := Lib.hid I28
        clear B28 I28 hg28
        have pd := p28
        clear p28
        clear pz
        clear H_q
        obtain ⟨a1, a2, a3, a4, a5⟩ := H_a.out
        obtain ⟨b1, b2, b3, b4, b5⟩ := H_b.out
        obtain ⟨d1, d2, d3, d4, d5⟩ := H_d.out
        go_wp2_with fail
        clear a1 a2 a3 a4 a5 b1 b2 b3 b4 b5 d1 d2 d3 d4 d5
        refine (zadd_v pd.zv pd.zv (by omega) (by omega)).mono ?_
        rintro e w29 ⟨s29, A29, n29, c29, rfl, pt, k29, B29⟩
        replace H_a := Lib.hid (H_a.out.below B29)
        replace H_b := Lib.hid (H_b.out.below B29)
        replace H_d := Lib.hid (H_d.out.below B29)
        replace hx := hx.below B29
        replace hy := hy.below B29
        replace pd := pd.below B29
        replace hW := hW.trans (B29.mono hW.size)
        clear B29
        clear pd
        clear H_d
        have z30 := zba w29 (.cells #[.bool s29, .slice A29 n29 c29] 25)
        obtain ⟨w30, hw30⟩ : ∃ w', w' = w29.alloc (.cells #[.bool s29, .slice A29 n29 c29] 25) := ⟨_, rfl⟩
        have I30 : Ib w30 w29.heap.size s29 A29 n29 c29 := by rw [hw30]; exact Ib.new _ _ _ _ _ _
        rw [← hw30] at z30
        have HW30 := Lib.hid hw30.symm
        have O_a := H_a
        have lt_a_e : w.heap.size < w29.heap.size := H_a.out.2.2.2.2
        have O_b := H_b
        have lt_b_e : (w.heap.size + 1) < w29.heap.size := H_b.out.2.2.2.2
        have lw_e : w.heap.size ≤ w29.heap.size := hW.size
        replace H_a := Lib.hid (H_a.out.below z30)
        replace H_b := Lib.hid (H_b.out.below z30)
        replace hx := hx.below z30
        replace hy := hy.below z30
        replace pt := pt.below z30
        replace hW := hW.trans (z30.mono hW.size)
        have H_e := Lib.hid I30
        clear z30 hw30 I30
        obtain ⟨a1, a2, a3, a4, a5⟩ := O_a.out
        obtain ⟨b1, b2, b3, b4, b5⟩ := O_b.out
        go_wp2_with fail
        rw [HW30.out]
        clear a1 a2 a3 a4 a5 b1 b2 b3 b4 b5 O_a O_b
        refine (zsign_v (r := 1) hy (by omega) (Int.sign_eq_one_of_pos h0)).mono ?_
        rintro e w31 ⟨rfl, B31⟩
        replace H_a := Lib.hid (H_a.out.below B31)
        replace H_b := Lib.hid (H_b.out.below B31)
        replace H_e := Lib.hid (H_e.out.below B31)
        replace hx := hx.below B31
        replace hy := hy.below B31
        replace pt := pt.below B31
        replace hW := hW.trans (B31.mono hW.size)
        clear B31
        obtain ⟨v, hv⟩ : ∃ v, x - z * y = v := ⟨_, rfl⟩
        have hok := HOK.out
        unfold RoundOk at hok
        rw [hv] at hok pt
        have pu := pt
        clear pt
        obtain ⟨a1, a2, a3, a4, a5⟩ := H_a.out
        obtain ⟨b1, b2, b3, b4, b5⟩ := H_b.out
        obtain ⟨e1, e2, e3, e4, e5⟩ := H_e.out
        go_wp2_with fail
        clear a1 a2 a3 a4 a5 b1 b2 b3 b4 b5 e1 e2 e3 e4 e5
        refine (zabs_v hy (by omega)).mono ?_
        rintro e w32 ⟨s32, A32, n32, c32, rfl, pf, k32, B32⟩
        replace H_a := Lib.hid (H_a.out.below B32)
        replace H_b := Lib.hid (H_b.out.below B32)
        replace H_e := Lib.hid (H_e.out.below B32)
        replace hx := hx.below B32
        replace hy := hy.below B32
        replace pu := pu.below B32
        replace hW := hW.trans (B32.mono hW.size)
        clear B32
        have z33 := zba w32 (.cells #[.bool s32, .slice A32 n32 c32] 25)
        obtain ⟨w33, hw33⟩ : ∃ w', w' = w32.alloc (.cells #[.bool s32, .slice A32 n32 c32] 25) := ⟨_, rfl⟩
        have I33 : Ib w33 w32.heap.size s32 A32 n32 c32 := by rw [hw33]; exact Ib.new _ _ _ _ _ _
        rw [← hw33] at z33
        have HW33 := Lib.hid hw33.symm
        have O_a := H_a
        have lt_a_f : w.heap.size < w32.heap.size := H_a.out.2.2.2.2
        have O_b := H_b
        have lt_b_f : (w.heap.size + 1) < w32.heap.size := H_b.out.2.2.2.2
        have O_e := H_e
        have lt_e_f : w29.heap.size < w32.heap.size := H_e.out.2.2.2.2
        have lw_f : w.heap.size ≤ w32.heap.size := hW.size
        replace H_a := Lib.hid (H_a.out.below z33)
        replace H_b := Lib.hid (H_b.out.below z33)
        replace H_e := Lib.hid (H_e.out.below z33)
        replace hx := hx.below z33
        replace hy := hy.below z33
        replace pu := pu.below z33
        replace pf := pf.below z33
        replace hW := hW.trans (z33.mono hW.size)
        have H_f := Lib.hid I33
        clear z33 hw33 I33
        have HV := Lib.hid hv
        clear hv
        obtain ⟨r1, hr1⟩ : ∃ r, ((v + v) - -(y.natAbs : Int)).sign = r := ⟨_, rfl⟩
        obtain ⟨r2, hr2⟩ : ∃ r, ((v + v) - (y.natAbs : Int)).sign = r := ⟨_, rfl⟩
        have q1 : 0 ≤ r1 := by rw [← hr1]; exact sign_ge (by omega)
        have q2 : r2 < 0 := by rw [← hr2, Int.sign_eq_neg_one_of_neg (by omega)]; omega
        have R1 := Lib.hid hr1
        have R2 := Lib.hid hr2
        clear hr1 hr2 hok
        obtain ⟨a1, a2, a3, a4, a5⟩ := O_a.out
        obtain ⟨b1, b2, b3, b4, b5⟩ := O_b.out
        obtain ⟨e1, e2, e3, e4, e5⟩ := O_e.out
        go_wp2_with fail
        rw [HW33.out]
        clear a1 a2 a3 a4 a5 b1 b2 b3 b4 b5 e1 e2 e3 e4 e5 O_a O_b O_e
        obtain ⟨a1, a2, a3, a4, a5⟩ := H_a.out
        obtain ⟨b1, b2, b3, b4, b5⟩ := H_b.out
        obtain ⟨e1, e2, e3, e4, e5⟩ := H_e.out
        obtain ⟨f1, f2, f3, f4, f5⟩ := H_f.out
        go_region_held3 (fun w' => w'.cell? ⟨w.heap.size, 0, none⟩ = some (.bool s) ∧ w'.cell? ⟨w.heap.size, 1, none⟩ = some (.slice A n c) ∧ w'.cell? ⟨(w.heap.size + 1), 0, none⟩ = some (.bool t) ∧ w'.cell? ⟨(w.heap.size + 1), 1, none⟩ = some (.slice B m d) ∧ w'.cell? ⟨w29.heap.size, 0, none⟩ = some (.bool s29) ∧ w'.cell? ⟨w29.heap.size, 1, none⟩ = some (.slice A29 n29 c29) ∧ w'.cell? ⟨w32.heap.size, 0, none⟩ = some (.bool s32) ∧ w'.cell? ⟨w32.heap.size, 1, none⟩ = some (.slice A32 n32 c32)) (go_keep) (first
          | (go_at_call 21; (with_reducible refine (zneg_v (pf.below (below_drew _)).zv (by omega)).mono ?_); rintro e w34 ⟨s34, A34, n34, c34, rfl, p34, k34, B34⟩; have Q34 := zup (below_drew _) B34; obtain ⟨ax34, ay34, af34, ag34, az34⟩ := H_a.out.below Q34; obtain ⟨bx34, by34, bf34, bg34, bz34⟩ := H_b.out.below Q34; obtain ⟨ex34, ey34, ef34, eg34, ez34⟩ := H_e.out.below Q34; obtain ⟨fx34, fy34, ff34, fg34, fz34⟩ := H_f.out.below Q34)
          | (go_at_call 27; (with_reducible refine (zcmp_v (pu.below Q34).zv p34.zv (by omega) (by omega) R1.out).mono ?_); rintro e w35 ⟨rfl, B35⟩; have Q35 := zup Q34 B35; obtain ⟨ax35, ay35, af35, ag35, az35⟩ := H_a.out.below Q35; obtain ⟨bx35, by35, bf35, bg35, bz35⟩ := H_b.out.below Q35; obtain ⟨ex35, ey35, ef35, eg35, ez35⟩ := H_e.out.below Q35; obtain ⟨fx35, fy35, ff35, fg35, fz35⟩ := H_f.out.below Q35)
          | (go_at_call 27; (with_reducible refine (zcmp_v (pu.below Q35).zv (pf.below Q35).zv (by omega) (by omega) R2.out).mono ?_); rintro e w36 ⟨rfl, B36⟩; have Q36 := zup Q35 B36; obtain ⟨ax36, ay36, af36, ag36, az36⟩ := H_a.out.below Q36; obtain ⟨bx36, by36, bf36, bg36, bz36⟩ := H_b.out.below Q36; obtain ⟨ex36, ey36, ef36, eg36, ez36⟩ := H_e.out.below Q36; obtain ⟨fx36, fy36, ff36, fg36, fz36⟩ := H_f.out.below Q36))
        clear a1 a2 a3 a4 a5 b1 b2 b3 b4 b5 e1 e2 e3 e4 e5 f1 f2 f3 f4 f5 ax34 ay34 af34 ag34 az34 bx34 by34 bf34 bg34 bz34 ex34 ey34 ef34 eg34 ez34 fx34 fy34 ff34 fg34 fz34 ax35 ay35 af35 ag35 az35 bx35 by35 bf35 bg35 bz35 ex35 ey35 ef35 eg35 ez35 fx35 fy35 ff35 fg35 fz35 ax36 ay36 af36 ag36 az36 bx36 by36 bf36 bg36 bz36 ex36 ey36 ef36 eg36 ez36 fx36 fy36 ff36 fg36 fz36
        replace H_a := Lib.hid (H_a.out.below Q36)
        replace H_b := Lib.hid (H_b.out.below Q36)
        replace H_e := Lib.hid (H_e.out.below Q36)
        replace H_f := Lib.hid (H_f.out.below Q36)
        replace hx := hx.below Q36
        replace hy := hy.below Q36
        replace pu := pu.below Q36
        replace pf := pf.below Q36
        replace hW := hW.trans (Q36.mono hW.size)
        clear B34 Q34 B35 Q35 B36 Q36 p34
        go_wp2_with fail
        go_ret
        exact ⟨rfl, hW⟩
  · go_enter Try.func5, Try.ntmps5
    obtain ⟨a1, a2, a3, a4, a5⟩ := H_a.out
    obtain ⟨b1, b2, b3, b4, b5⟩ := H_b.out
    go_wp2_with fail
    rw [HW.out]
    clear a1 a2 a3 a4 a5 b1 b2 b3 b4 b5
    refine (zawake_calls _).mono ?_
    rintro e w21 ⟨rfl, B21⟩
    replace H_a := Lib.hid (H_a.out.below B21)
    replace H_b := Lib.hid (H_b.out.below B21)
    replace hx := hx.below B21
    replace hy := hy.below B21
    replace hW := hW.trans (B21.mono hW.size)
    clear B21
    obtain ⟨a1, a2, a3, a4, a5⟩ := H_a.out
    obtain ⟨b1, b2, b3, b4, b5⟩ := H_b.out
    go_wp2_with fail
    clear a1 a2 a3 a4 a5 b1 b2 b3 b4 b5
    refine (zfew_v (k := 8) (b := false) hn hm hn (by omega) (by rw [decide_eq_false_iff_not]; omega)).mono ?_
    rintro e w22 ⟨rfl, B22⟩
    replace H_a := Lib.hid (H_a.out.below B22)
    replace H_b := Lib.hid (H_b.out.below B22)
    replace hx := hx.below B22
    replace hy := hy.below B22
    replace hW := hW.trans (B22.mono hW.size)
    clear B22
    obtain ⟨a1, a2, a3, a4, a5⟩ := H_a.out
    obtain ⟨b1, b2, b3, b4, b5⟩ := H_b.out
    go_wp2_with fail
    clear a1 a2 a3 a4 a5 b1 b2 b3 b4 b5
    refine (zawake_calls _).mono ?_
    rintro e w23 ⟨rfl, B23⟩
    replace H_a := Lib.hid (H_a.out.below B23)
    replace H_b := Lib.hid (H_b.out.below B23)
    replace hx := hx.below B23
    replace hy := hy.below B23
    replace hW := hW.trans (B23.mono hW.size)
    clear B23
    go_wp2_with fail
    go_ret
    exact ⟨rfl, hW⟩
end Go.Proofs.Ytnkmoeihlfdjbaa
