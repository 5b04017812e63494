/-
  Package rat: normal, counted.
-/
import Derived.Test.YtfpncmhaoadfdaaGreatRatM
import Derived.Test.YtfpncmhaoadfdaaGreatRatP
/-! Contracts: rat.normal, counted. -/
namespace Go.Proofs.YtfpncmhaoadfdaaGreat
open Go.RowKit
set_option linter.unusedVariables false
set_option linter.unusedSimpArgs false

set_option maxRecDepth 100000 in
set_option maxHeartbeats 4000000 in
theorem normal_pos {A B : Option Addr} {n c m d k : Nat} {s t : Bool} {N D : Int} {w : World} (hn : Zv w s A n c N) (hd : Zv w t B m d D) (hnk : n ≤ k) (hmk : m ≤ k) (h1 : 1 ≤ k) (hk : k ≤ 137438953472) (h0 : 0 < D) :
    Calls Tryz.prog 16 #[.agg #[.bool s, .slice A n c], .agg #[.bool t, .slice B m d]] w (QPost (Rat.divInt N D) k w) := by
  have hW := Below.refl w.heap.size w
  obtain ⟨wp0, hwp0⟩ : ∃ x, x = w.alloc (.cells #[.bool s, .slice A n c] 25) := ⟨_, rfl⟩
  have zp0 : Below w.heap.size w wp0 := by rw [hwp0]; exact zba _ _
  have sp0 : wp0.heap.size = w.heap.size + 1 := by rw [hwp0, World.size_alloc]
  have Ia : Ib wp0 w.heap.size s A n c := by rw [hwp0]; exact Ib.new _ _ _ _ _ _
  replace hn := hn.below zp0
  replace hd := hd.below zp0
  replace hW := hW.trans (zp0.mono hW.size)
  have H_a := Lib.hid Ia
  clear Ia zp0
  obtain ⟨wp1, hwp1⟩ : ∃ x, x = wp0.alloc (.cells #[.bool t, .slice B m d] 25) := ⟨_, rfl⟩
  have zp1 : Below wp0.heap.size wp0 wp1 := by rw [hwp1]; exact zba _ _
  have sp1 : wp1.heap.size = w.heap.size + 1 + 1 := by rw [hwp1, World.size_alloc, sp0]
  have Ib : Ib wp1 (w.heap.size + 1) t B m d := by rw [hwp1, ← sp0]; exact Ib.new _ _ _ _ _ _
  replace H_a := Lib.hid (H_a.out.below zp1)
  replace hn := hn.below zp1
  replace hd := hd.below zp1
  replace hW := hW.trans (zp1.mono hW.size)
  have H_b := Lib.hid Ib
  clear Ib zp1
  obtain ⟨wp2, hwp2⟩ : ∃ x, x = wp1.alloc (.cells #[.bool false, .slice none 0 0, .bool false, .slice none 0 0] 27) := ⟨_, rfl⟩
  have zp2 : Below wp1.heap.size wp1 wp2 := by rw [hwp2]; exact zba _ _
  have sp2 : wp2.heap.size = w.heap.size + 1 + 1 + 1 := by rw [hwp2, World.size_alloc, sp1]
  have Ir : Rb wp2 (w.heap.size + 1 + 1) false none 0 0 false none 0 0 := by rw [hwp2, ← sp1]; exact Rb.new _ _ _ _ _ _ _ _ _ _
  replace H_a := Lib.hid (H_a.out.below zp2)
  replace H_b := Lib.hid (H_b.out.below zp2)
  replace hn := hn.below zp2
  replace hd := hd.below zp2
  replace hW := hW.trans (zp2.mono hW.size)
  have H_r := Lib.hid Ir
  clear Ir zp2
  have HW : Hid ((((w.alloc (.cells #[.bool s, .slice A n c] 25)).alloc (.cells #[.bool t, .slice B m d] 25)).alloc (.cells #[.bool false, .slice none 0 0, .bool false, .slice none 0 0] 27)) = wp2) := Lib.hid (by rw [hwp2, hwp1, hwp0])
  have nn_a_b : ¬ (w.heap.size = (w.heap.size + 1)) := by omega
  have nm_a_b : ¬ ((w.heap.size + 1) = w.heap.size) := by omega
  have nn_a_r : ¬ (w.heap.size = (w.heap.size + 1 + 1)) := by omega
  have nm_a_r : ¬ ((w.heap.size + 1 + 1) = w.heap.size) := by omega
  have nn_b_r : ¬ ((w.heap.size + 1) = (w.heap.size + 1 + 1)) := by omega
  have nm_b_r : ¬ ((w.heap.size + 1 + 1) = (w.heap.size + 1)) := by omega
  have lw_a : w.heap.size ≤ w.heap.size := by omega
  have lw_b : w.heap.size ≤ (w.heap.size + 1) := by omega
  have lw_r : w.heap.size ≤ (w.heap.size + 1 + 1) := by omega
  clear hwp0 hwp1 hwp2 sp0 sp1 sp2
  obtain ⟨sr, hsr⟩ : ∃ r, D.sign = r := ⟨_, rfl⟩
  have hsr1 : sr = 1 := by rw [← hsr]; exact Int.sign_eq_one_of_pos h0
  have hs0 : ¬ sr < 0 := by omega
  have hs1 : (sr == 0) = false := by rw [beq_eq_false_iff_ne]; omega
  clear hsr1
  have HSR := Lib.hid hsr
  obtain ⟨G, hG⟩ : ∃ G : Int, ((Nat.gcd N.natAbs D.natAbs : Nat) : Int) = G := ⟨_, rfl⟩
  have HG := Lib.hid hG
  have hC : rcom N D = G := by unfold rcom; rw [if_neg (by omega), hG]
  have hC0 : G ≠ 0 := by rw [← hC]; exact rcom_ne (by omega)
  have HN : Hid ((Rat.divInt N D).num * (G) = N) := Lib.hid (by rw [← hC]; exact num_rcom (by omega))
  have HD : Hid (((Rat.divInt N D).den : Int) * (G) = D) := Lib.hid (by rw [← hC]; exact den_rcom (by omega))
  clear hsr hG hC
  go_enter Tryz.func16, Tryz.ntmps16
  obtain ⟨a1, a2, a3, a4, a5⟩ := H_a.out
  obtain ⟨b1, b2, b3, b4, b5⟩ := H_b.out
  obtain ⟨r1, r2, r3, r4, r5, r6, r7, r8, r9⟩ := H_r.out
  go_wp2_with fail
  rw [HW.out]
  clear a1 a2 a3 a4 a5 b1 b2 b3 b4 b5 r1 r2 r3 r4 r5 r6 r7 r8 r9
  refine (zsign_v hd (by omega) HSR.out).mono ?_
  rintro e w21 ⟨rfl, B21⟩
  replace H_a := Lib.hid (H_a.out.below B21)
  replace H_b := Lib.hid (H_b.out.below B21)
  replace H_r := Lib.hid (H_r.out.below B21)
  replace hn := hn.below B21
  replace hd := hd.below B21
  replace hW := hW.trans (B21.mono hW.size)
  clear B21
  obtain ⟨a1, a2, a3, a4, a5⟩ := H_a.out
  obtain ⟨b1, b2, b3, b4, b5⟩ := H_b.out
  obtain ⟨r1, r2, r3, r4, r5, r6, r7, r8, r9⟩ := H_r.out
  go_wp2_with fail
  clear a1 a2 a3 a4 a5 b1 b2 b3 b4 b5 r1 r2 r3 r4 r5 r6 r7 r8 r9
  refine (zgcd_v hn hd (by omega) (by omega) HG.out).mono ?_
  rintro e w22 ⟨s22, A22, n22, c22, rfl, pg, k22, B22⟩
  replace H_a := Lib.hid (H_a.out.below B22)
  replace H_b := Lib.hid (H_b.out.below B22)
  replace H_r := Lib.hid (H_r.out.below B22)
  replace hn := hn.below B22
  replace hd := hd.below B22
  replace hW := hW.trans (B22.mono hW.size)
  clear B22
  have O_a := H_a
  have O_b := H_b
  have O_r := H_r
  obtain ⟨w23, hw23⟩ : ∃ x, x = w22.alloc (.cells #[.bool s22, .slice A22 n22 c22] 25) := ⟨_, rfl⟩
  have z23 : Below w22.heap.size w22 w23 := by rw [hw23]; exact zba _ _
  have HW23 : Hid (w22.alloc (.cells #[.bool s22, .slice A22 n22 c22] 25) = w23) := Lib.hid hw23.symm
  have nn_a_c : ¬ (w.heap.size = w22.heap.size) := by have := H_a.out.2.2.2.2; omega
  have nm_a_c : ¬ (w22.heap.size = w.heap.size) := by omega
  have nn_b_c : ¬ ((w.heap.size + 1) = w22.heap.size) := by have := H_b.out.2.2.2.2; omega
  have nm_b_c : ¬ (w22.heap.size = (w.heap.size + 1)) := by omega
  have nn_r_c : ¬ ((w.heap.size + 1 + 1) = w22.heap.size) := by have := H_r.out.2.2.2.2.2.2.2.2; omega
  have nm_r_c : ¬ (w22.heap.size = (w.heap.size + 1 + 1)) := by omega
  have lw_c : w.heap.size ≤ w22.heap.size := hW.size
  replace H_a := Lib.hid (H_a.out.below z23)
  replace H_b := Lib.hid (H_b.out.below z23)
  replace H_r := Lib.hid (H_r.out.below z23)
  replace hn := hn.below z23
  replace hd := hd.below z23
  replace pg := pg.below z23
  replace hW := hW.trans (z23.mono hW.size)
  have H_c : Hid (Ib w23 w22.heap.size s22 A22 n22 c22) := Lib.hid (by rw [hw23]; exact Ib.new _ _ _ _ _ _)
  clear z23 hw23
  obtain ⟨a1, a2, a3, a4, a5⟩ := O_a.out
  obtain ⟨b1, b2, b3, b4, b5⟩ := O_b.out
  obtain ⟨r1, r2, r3, r4, r5, r6, r7, r8, r9⟩ := O_r.out
  go_wp2_with fail
  rw [HW23.out]
  clear a1 a2 a3 a4 a5 b1 b2 b3 b4 b5 r1 r2 r3 r4 r5 r6 r7 r8 r9 O_a O_b O_r
  refine (zsign_v hd (by omega) HSR.out).mono ?_
  rintro e w24 ⟨rfl, B24⟩
  replace H_a := Lib.hid (H_a.out.below B24)
  replace H_b := Lib.hid (H_b.out.below B24)
  replace H_r := Lib.hid (H_r.out.below B24)
  replace H_c := Lib.hid (H_c.out.below B24)
  replace hn := hn.below B24
  replace hd := hd.below B24
  replace pg := pg.below B24
  replace hW := hW.trans (B24.mono hW.size)
  clear B24
  obtain ⟨a1, a2, a3, a4, a5⟩ := H_a.out
  obtain ⟨b1, b2, b3, b4, b5⟩ := H_b.out
  obtain ⟨r1, r2, r3, r4, r5, r6, r7, r8, r9⟩ := H_r.out
  obtain ⟨c1, c2, c3, c4, c5⟩ := H_c.out
  go_wp2_with fail
  clear a1 a2 a3 a4 a5 b1 b2 b3 b4 b5 r1 r2 r3 r4 r5 r6 r7 r8 r9 c1 c2 c3 c4 c5
  refine (zexact_yes hn pg.zv (by omega) (by omega) hC0 HN.out).mono ?_
  rintro e w25 ⟨s25, A25, n25, c25, rfl, pn, k25, B25⟩
  replace H_a := Lib.hid (H_a.out.below B25)
  replace H_b := Lib.hid (H_b.out.below B25)
  replace H_r := Lib.hid (H_r.out.below B25)
  replace H_c := Lib.hid (H_c.out.below B25)
  replace hn := hn.below B25
  replace hd := hd.below B25
  replace pg := pg.below B25
  replace hW := hW.trans (B25.mono hW.size)
  clear B25
  have O_a := H_a
  have O_b := H_b
  have O_r := H_r
  have O_c := H_c
  obtain ⟨w26, hw26⟩ : ∃ x, x = zput w25 w.heap.size s25 A25 n25 c25 := ⟨_, rfl⟩
  have HW26 : Hid (((w25.setCell ⟨w.heap.size, 0, none⟩ (.bool s25)).setCell ⟨w.heap.size, 1, none⟩ (.slice A25 n25 c25)) = w26) := Lib.hid hw26.symm
  have OI := H_a.out
  replace H_b : Hid (Ib w26 (w.heap.size + 1) t B m d) := Lib.hid (by rw [hw26]; exact H_b.out.zput (by omega))
  replace H_r : Hid (Rb w26 (w.heap.size + 1 + 1) false none 0 0 false none 0 0) := Lib.hid (by rw [hw26]; exact H_r.out.zput (by omega))
  replace H_c : Hid (Ib w26 w22.heap.size s22 A22 n22 c22) := Lib.hid (by rw [hw26]; exact H_c.out.zput (by omega))
  replace hn := hn.zput (s' := s25) (A' := A25) (n' := n25) (c' := c25) OI
  replace hd := hd.zput (s' := s25) (A' := A25) (n' := n25) (c' := c25) OI
  replace pg := pg.zput (s' := s25) (A' := A25) (n' := n25) (c' := c25) OI
  replace pn := pn.zput (s' := s25) (A' := A25) (n' := n25) (c' := c25) OI
  rw [← hw26] at hn
  rw [← hw26] at hd
  rw [← hw26] at pg
  rw [← hw26] at pn
  replace hW : Below w.heap.size w w26 := by rw [hw26]; exact below_put hW lw_a
  replace H_a : Hid (Ib w26 w.heap.size s25 A25 n25 c25) := Lib.hid (by rw [hw26]; exact OI.own)
  clear hw26 OI
  obtain ⟨a1, a2, a3, a4, a5⟩ := O_a.out
  obtain ⟨b1, b2, b3, b4, b5⟩ := O_b.out
  obtain ⟨r1, r2, r3, r4, r5, r6, r7, r8, r9⟩ := O_r.out
  obtain ⟨c1, c2, c3, c4, c5⟩ := O_c.out
  go_wp2_with fail
  rw [HW26.out]
  clear a1 a2 a3 a4 a5 b1 b2 b3 b4 b5 r1 r2 r3 r4 r5 r6 r7 r8 r9 c1 c2 c3 c4 c5 O_a O_b O_r O_c
  refine (zexact_yes hd pg.zv (by omega) (by omega) hC0 HD.out).mono ?_
  rintro e w27 ⟨s27, A27, n27, c27, rfl, pd, k27, B27⟩
  replace H_a := Lib.hid (H_a.out.below B27)
  replace H_b := Lib.hid (H_b.out.below B27)
  replace H_r := Lib.hid (H_r.out.below B27)
  replace H_c := Lib.hid (H_c.out.below B27)
  replace hn := hn.below B27
  replace hd := hd.below B27
  replace pg := pg.below B27
  replace pn := pn.below B27
  replace hW := hW.trans (B27.mono hW.size)
  clear B27
  have O_a := H_a
  have O_b := H_b
  have O_r := H_r
  have O_c := H_c
  obtain ⟨w28, hw28⟩ : ∃ x, x = zput w27 (w.heap.size + 1) s27 A27 n27 c27 := ⟨_, rfl⟩
  have HW28 : Hid (((w27.setCell ⟨(w.heap.size + 1), 0, none⟩ (.bool s27)).setCell ⟨(w.heap.size + 1), 1, none⟩ (.slice A27 n27 c27)) = w28) := Lib.hid hw28.symm
  have OI := H_b.out
  replace H_a : Hid (Ib w28 w.heap.size s25 A25 n25 c25) := Lib.hid (by rw [hw28]; exact H_a.out.zput (by omega))
  replace H_r : Hid (Rb w28 (w.heap.size + 1 + 1) false none 0 0 false none 0 0) := Lib.hid (by rw [hw28]; exact H_r.out.zput (by omega))
  replace H_c : Hid (Ib w28 w22.heap.size s22 A22 n22 c22) := Lib.hid (by rw [hw28]; exact H_c.out.zput (by omega))
  replace hn := hn.zput (s' := s27) (A' := A27) (n' := n27) (c' := c27) OI
  replace hd := hd.zput (s' := s27) (A' := A27) (n' := n27) (c' := c27) OI
  replace pg := pg.zput (s' := s27) (A' := A27) (n' := n27) (c' := c27) OI
  replace pn := pn.zput (s' := s27) (A' := A27) (n' := n27) (c' := c27) OI
  replace pd := pd.zput (s' := s27) (A' := A27) (n' := n27) (c' := c27) OI
  rw [← hw28] at hn
  rw [← hw28] at hd
  rw [← hw28] at pg
  rw [← hw28] at pn
  rw [← hw28] at pd
  replace hW : Below w.heap.size w w28 := by rw [hw28]; exact below_put hW lw_b
  replace H_b : Hid (Ib w28 (w.heap.size + 1) s27 A27 n27 c27) := Lib.hid (by rw [hw28]; exact OI.own)
  clear hw28 OI
  have P := Lib.hid (qfin (w := w) (k := k) ⟨pn, pd⟩ H_r.out (by omega) (by omega) lw_r hW)
  unfold rput at P
  obtain ⟨a1, a2, a3, a4, a5⟩ := O_a.out
  obtain ⟨b1, b2, b3, b4, b5⟩ := O_b.out
  obtain ⟨r1, r2, r3, r4, r5, r6, r7, r8, r9⟩ := O_r.out
  obtain ⟨c1, c2, c3, c4, c5⟩ := O_c.out
  go_wp2_with fail
  rw [HW28.out]
  clear a1 a2 a3 a4 a5 b1 b2 b3 b4 b5 r1 r2 r3 r4 r5 r6 r7 r8 r9 c1 c2 c3 c4 c5 O_a O_b O_r O_c
  obtain ⟨r1, r2, r3, r4, r5, r6, r7, r8, r9⟩ := H_r.out
  exact bodyPost_ret (v := (.agg #[.bool s25, .slice A25 n25 c25, .bool s27, .slice A27 n27 c27])) (by simp [results, Tryz.results16, go_sem, r1, r2, r3, r4]) rfl P.out
set_option maxRecDepth 100000 in
set_option maxHeartbeats 4000000 in
theorem normal_neg {A B : Option Addr} {n c m d k : Nat} {s t : Bool} {N D : Int} {w : World} (hn : Zv w s A n c N) (hd : Zv w t B m d D) (hnk : n ≤ k) (hmk : m ≤ k) (h1 : 1 ≤ k) (hk : k ≤ 137438953472) (h0 : D < 0) :
    Calls Tryz.prog 16 #[.agg #[.bool s, .slice A n c], .agg #[.bool t, .slice B m d]] w (QPost (Rat.divInt N D) k w) := by
  have hW := Below.refl w.heap.size w
  obtain ⟨wp0, hwp0⟩ : ∃ x, x = w.alloc (.cells #[.bool s, .slice A n c] 25) := ⟨_, rfl⟩
  have zp0 : Below w.heap.size w wp0 := by rw [hwp0]; exact zba _ _
  have sp0 : wp0.heap.size = w.heap.size + 1 := by rw [hwp0, World.size_alloc]
  have Ia : Ib wp0 w.heap.size s A n c := by rw [hwp0]; exact Ib.new _ _ _ _ _ _
  replace hn := hn.below zp0
  replace hd := hd.below zp0
  replace hW := hW.trans (zp0.mono hW.size)
  have H_a := Lib.hid Ia
  clear Ia zp0
  obtain ⟨wp1, hwp1⟩ : ∃ x, x = wp0.alloc (.cells #[.bool t, .slice B m d] 25) := ⟨_, rfl⟩
  have zp1 : Below wp0.heap.size wp0 wp1 := by rw [hwp1]; exact zba _ _
  have sp1 : wp1.heap.size = w.heap.size + 1 + 1 := by rw [hwp1, World.size_alloc, sp0]
  have Ib : Ib wp1 (w.heap.size + 1) t B m d := by rw [hwp1, ← sp0]; exact Ib.new _ _ _ _ _ _
  replace H_a := Lib.hid (H_a.out.below zp1)
  replace hn := hn.below zp1
  replace hd := hd.below zp1
  replace hW := hW.trans (zp1.mono hW.size)
  have H_b := Lib.hid Ib
  clear Ib zp1
  obtain ⟨wp2, hwp2⟩ : ∃ x, x = wp1.alloc (.cells #[.bool false, .slice none 0 0, .bool false, .slice none 0 0] 27) := ⟨_, rfl⟩
  have zp2 : Below wp1.heap.size wp1 wp2 := by rw [hwp2]; exact zba _ _
  have sp2 : wp2.heap.size = w.heap.size + 1 + 1 + 1 := by rw [hwp2, World.size_alloc, sp1]
  have Ir : Rb wp2 (w.heap.size + 1 + 1) false none 0 0 false none 0 0 := by rw [hwp2, ← sp1]; exact Rb.new _ _ _ _ _ _ _ _ _ _
  replace H_a := Lib.hid (H_a.out.below zp2)
  replace H_b := Lib.hid (H_b.out.below zp2)
  replace hn := hn.below zp2
  replace hd := hd.below zp2
  replace hW := hW.trans (zp2.mono hW.size)
  have H_r := Lib.hid Ir
  clear Ir zp2
  have HW : Hid ((((w.alloc (.cells #[.bool s, .slice A n c] 25)).alloc (.cells #[.bool t, .slice B m d] 25)).alloc (.cells #[.bool false, .slice none 0 0, .bool false, .slice none 0 0] 27)) = wp2) := Lib.hid (by rw [hwp2, hwp1, hwp0])
  have nn_a_b : ¬ (w.heap.size = (w.heap.size + 1)) := by omega
  have nm_a_b : ¬ ((w.heap.size + 1) = w.heap.size) := by omega
  have nn_a_r : ¬ (w.heap.size = (w.heap.size + 1 + 1)) := by omega
  have nm_a_r : ¬ ((w.heap.size + 1 + 1) = w.heap.size) := by omega
  have nn_b_r : ¬ ((w.heap.size + 1) = (w.heap.size + 1 + 1)) := by omega
  have nm_b_r : ¬ ((w.heap.size + 1 + 1) = (w.heap.size + 1)) := by omega
  have lw_a : w.heap.size ≤ w.heap.size := by omega
  have lw_b : w.heap.size ≤ (w.heap.size + 1) := by omega
  have lw_r : w.heap.size ≤ (w.heap.size + 1 + 1) := by omega
  clear hwp0 hwp1 hwp2 sp0 sp1 sp2
  obtain ⟨sr, hsr⟩ : ∃ r, D.sign = r := ⟨_, rfl⟩
  have hsr1 : sr = -1 := by rw [← hsr]; exact Int.sign_eq_neg_one_of_neg h0
  have hs0 : sr < 0 := by omega
  have hs1 : (sr == 0) = false := by rw [beq_eq_false_iff_ne]; omega
  clear hsr1
  have HSR := Lib.hid hsr
  obtain ⟨G, hG⟩ : ∃ G : Int, ((Nat.gcd N.natAbs D.natAbs : Nat) : Int) = G := ⟨_, rfl⟩
  have HG := Lib.hid hG
  have hC : rcom N D = -G := by unfold rcom; rw [if_pos h0, hG]
  have hC0 : -G ≠ 0 := by rw [← hC]; exact rcom_ne (by omega)
  have HN : Hid ((Rat.divInt N D).num * (-G) = N) := Lib.hid (by rw [← hC]; exact num_rcom (by omega))
  have HD : Hid (((Rat.divInt N D).den : Int) * (-G) = D) := Lib.hid (by rw [← hC]; exact den_rcom (by omega))
  clear hsr hG hC
  go_enter Tryz.func16, Tryz.ntmps16
  obtain ⟨a1, a2, a3, a4, a5⟩ := H_a.out
  obtain ⟨b1, b2, b3, b4, b5⟩ := H_b.out
  obtain ⟨r1, r2, r3, r4, r5, r6, r7, r8, r9⟩ := H_r.out
  go_wp2_with fail
  rw [HW.out]
  clear a1 a2 a3 a4 a5 b1 b2 b3 b4 b5 r1 r2 r3 r4 r5 r6 r7 r8 r9
  refine (zsign_v hd (by omega) HSR.out).mono ?_
  rintro e w21 ⟨rfl, B21⟩
  replace H_a := Lib.hid (H_a.out.below B21)
  replace H_b := Lib.hid (H_b.out.below B21)
  replace H_r := Lib.hid (H_r.out.below B21)
  replace hn := hn.below B21
  replace hd := hd.below B21
  replace hW := hW.trans (B21.mono hW.size)
  clear B21
  obtain ⟨a1, a2, a3, a4, a5⟩ := H_a.out
  obtain ⟨b1, b2, b3, b4, b5⟩ := H_b.out
  obtain ⟨r1, r2, r3, r4, r5, r6, r7, r8, r9⟩ := H_r.out
  go_wp2_with fail
  clear a1 a2 a3 a4 a5 b1 b2 b3 b4 b5 r1 r2 r3 r4 r5 r6 r7 r8 r9
  refine (zgcd_v hn hd (by omega) (by omega) HG.out).mono ?_
  rintro e w22 ⟨s22, A22, n22, c22, rfl, pg, k22, B22⟩
  replace H_a := Lib.hid (H_a.out.below B22)
  replace H_b := Lib.hid (H_b.out.below B22)
  replace H_r := Lib.hid (H_r.out.below B22)
  replace hn := hn.below B22
  replace hd := hd.below B22
  replace hW := hW.trans (B22.mono hW.size)
  clear B22
  have O_a := H_a
  have O_b := H_b
  have O_r := H_r
  obtain ⟨w23, hw23⟩ : ∃ x, x = w22.alloc (.cells #[.bool s22, .slice A22 n22 c22] 25) := ⟨_, rfl⟩
  have z23 : Below w22.heap.size w22 w23 := by rw [hw23]; exact zba _ _
  have HW23 : Hid (w22.alloc (.cells #[.bool s22, .slice A22 n22 c22] 25) = w23) := Lib.hid hw23.symm
  have nn_a_c : ¬ (w.heap.size = w22.heap.size) := by have := H_a.out.2.2.2.2; omega
  have nm_a_c : ¬ (w22.heap.size = w.heap.size) := by omega
  have nn_b_c : ¬ ((w.heap.size + 1) = w22.heap.size) := by have := H_b.out.2.2.2.2; omega
  have nm_b_c : ¬ (w22.heap.size = (w.heap.size + 1)) := by omega
  have nn_r_c : ¬ ((w.heap.size + 1 + 1) = w22.heap.size) := by have := H_r.out.2.2.2.2.2.2.2.2; omega
  have nm_r_c : ¬ (w22.heap.size = (w.heap.size + 1 + 1)) := by omega
  have lw_c : w.heap.size ≤ w22.heap.size := hW.size
  replace H_a := Lib.hid (H_a.out.below z23)
  replace H_b := Lib.hid (H_b.out.below z23)
  replace H_r := Lib.hid (H_r.out.below z23)
  replace hn := hn.below z23
  replace hd := hd.below z23
  replace pg := pg.below z23
  replace hW := hW.trans (z23.mono hW.size)
  have H_c : Hid (Ib w23 w22.heap.size s22 A22 n22 c22) := Lib.hid (by rw [hw23]; exact Ib.new _ _ _ _ _ _)
  clear z23 hw23
  obtain ⟨a1, a2, a3, a4, a5⟩ := O_a.out
  obtain ⟨b1, b2, b3, b4, b5⟩ := O_b.out
  obtain ⟨r1, r2, r3, r4, r5, r6, r7, r8, r9⟩ := O_r.out
  go_wp2_with fail
  rw [HW23.out]
  clear a1 a2 a3 a4 a5 b1 b2 b3 b4 b5 r1 r2 r3 r4 r5 r6 r7 r8 r9 O_a O_b O_r
  refine (zsign_v hd (by omega) HSR.out).mono ?_
  rintro e w24 ⟨rfl, B24⟩
  replace H_a := Lib.hid (H_a.out.below B24)
  replace H_b := Lib.hid (H_b.out.below B24)
  replace H_r := Lib.hid (H_r.out.below B24)
  replace H_c := Lib.hid (H_c.out.below B24)
  replace hn := hn.below B24
  replace hd := hd.below B24
  replace pg := pg.below B24
  replace hW := hW.trans (B24.mono hW.size)
  clear B24
  obtain ⟨a1, a2, a3, a4, a5⟩ := H_a.out
  obtain ⟨b1, b2, b3, b4, b5⟩ := H_b.out
  obtain ⟨r1, r2, r3, r4, r5, r6, r7, r8, r9⟩ := H_r.out
  obtain ⟨c1, c2, c3, c4, c5⟩ := H_c.out
  go_wp2_with fail
  clear a1 a2 a3 a4 a5 b1 b2 b3 b4 b5 r1 r2 r3 r4 r5 r6 r7 r8 r9 c1 c2 c3 c4 c5
  refine (zneg_v pg.zv (by omega)).mono ?_
  rintro e w25 ⟨s25, A25, n25, c25, rfl, ph, k25, B25⟩
  replace H_a := Lib.hid (H_a.out.below B25)
  replace H_b := Lib.hid (H_b.out.below B25)
  replace H_r := Lib.hid (H_r.out.below B25)
  replace H_c := Lib.hid (H_c.out.below B25)
  replace hn := hn.below B25
  replace hd := hd.below B25
  replace pg := pg.below B25
  replace hW := hW.trans (B25.mono hW.size)
  clear B25
  have O_a := H_a
  have O_b := H_b
  have O_r := H_r
  have O_c := H_c
  obtain ⟨w26, hw26⟩ : ∃ x, x = zput w25 w22.heap.size s25 A25 n25 c25 := ⟨_, rfl⟩
  have HW26 : Hid (((w25.setCell ⟨w22.heap.size, 0, none⟩ (.bool s25)).setCell ⟨w22.heap.size, 1, none⟩ (.slice A25 n25 c25)) = w26) := Lib.hid hw26.symm
  have OI := H_c.out
  replace H_a : Hid (Ib w26 w.heap.size s A n c) := Lib.hid (by rw [hw26]; exact H_a.out.zput (by omega))
  replace H_b : Hid (Ib w26 (w.heap.size + 1) t B m d) := Lib.hid (by rw [hw26]; exact H_b.out.zput (by omega))
  replace H_r : Hid (Rb w26 (w.heap.size + 1 + 1) false none 0 0 false none 0 0) := Lib.hid (by rw [hw26]; exact H_r.out.zput (by omega))
  replace hn := hn.zput (s' := s25) (A' := A25) (n' := n25) (c' := c25) OI
  replace hd := hd.zput (s' := s25) (A' := A25) (n' := n25) (c' := c25) OI
  replace pg := pg.zput (s' := s25) (A' := A25) (n' := n25) (c' := c25) OI
  replace ph := ph.zput (s' := s25) (A' := A25) (n' := n25) (c' := c25) OI
  rw [← hw26] at hn
  rw [← hw26] at hd
  rw [← hw26] at pg
  rw [← hw26] at ph
  replace hW : Below w.heap.size w w26 := by rw [hw26]; exact below_put hW lw_c
  replace H_c : Hid (Ib w26 w22.heap.size s25 A25 n25 c25) := Lib.hid (by rw [hw26]; exact OI.own)
  clear hw26 OI
  clear pg
  obtain ⟨a1, a2, a3, a4, a5⟩ := O_a.out
  obtain ⟨b1, b2, b3, b4, b5⟩ := O_b.out
  obtain ⟨r1, r2, r3, r4, r5, r6, r7, r8, r9⟩ := O_r.out
  obtain ⟨c1, c2, c3, c4, c5⟩ := O_c.out
  go_wp2_with fail
  rw [HW26.out]
  clear a1 a2 a3 a4 a5 b1 b2 b3 b4 b5 r1 r2 r3 r4 r5 r6 r7 r8 r9 c1 c2 c3 c4 c5 O_a O_b O_r O_c
  refine (zexact_yes hn ph.zv (by omega) (by omega) hC0 HN.out).mono ?_
  rintro e w27 ⟨s27, A27, n27, c27, rfl, pn, k27, B27⟩
  replace H_a := Lib.hid (H_a.out.below B27)
  replace H_b := Lib.hid (H_b.out.below B27)
  replace H_r := Lib.hid (H_r.out.below B27)
  replace H_c := Lib.hid (H_c.out.below B27)
  replace hn := hn.below B27
  replace hd := hd.below B27
  replace ph := ph.below B27
  replace hW := hW.trans (B27.mono hW.size)
  clear B27
  have O_a := H_a
  have O_b := H_b
  have O_r := H_r
  have O_c := H_c
  obtain ⟨w28, hw28⟩ : ∃ x, x = zput w27 w.heap.size s27 A27 n27 c27 := ⟨_, rfl⟩
  have HW28 : Hid (((w27.setCell ⟨w.heap.size, 0, none⟩ (.bool s27)).setCell ⟨w.heap.size, 1, none⟩ (.slice A27 n27 c27)) = w28) := Lib.hid hw28.symm
  have OI := H_a.out
  replace H_b : Hid (Ib w28 (w.heap.size + 1) t B m d) := Lib.hid (by rw [hw28]; exact H_b.out.zput (by omega))
  replace H_r : Hid (Rb w28 (w.heap.size + 1 + 1) false none 0 0 false none 0 0) := Lib.hid (by rw [hw28]; exact H_r.out.zput (by omega))
  replace H_c : Hid (Ib w28 w22.heap.size s25 A25 n25 c25) := Lib.hid (by rw [hw28]; exact H_c.out.zput (by omega))
  replace hn := hn.zput (s' := s27) (A' := A27) (n' := n27) (c' := c27) OI
  replace hd := hd.zput (s' := s27) (A' := A27) (n' := n27) (c' := c27) OI
  replace ph := ph.zput (s' := s27) (A' := A27) (n' := n27) (c' := c27) OI
  replace pn := pn.zput (s' := s27) (A' := A27) (n' := n27) (c' := c27) OI
  rw [← hw28] at hn
  rw [← hw28] at hd
  rw [← hw28] at ph
  rw [← hw28] at pn
  replace hW : Below w.heap.size w w28 := by rw [hw28]; exact below_put hW lw_a
  replace H_a : Hid (Ib w28 w.heap.size s27 A27 n27 c27) := Lib.hid (by rw [hw28]; exact OI.own)
  clear hw28 OI
  obtain ⟨a1, a2, a3, a4, a5⟩ := O_a.out
  obtain ⟨b1, b2, b3, b4, b5⟩ := O_b.out
  obtain ⟨r1, r2, r3, r4, r5, r6, r7, r8, r9⟩ := O_r.out
  obtain ⟨c1, c2, c3, c4, c5⟩ := O_c.out
  go_wp2_with fail
  rw [HW28.out]
  clear a1 a2 a3 a4 a5 b1 b2 b3 b4 b5 r1 r2 r3 r4 r5 r6 r7 r8 r9 c1 c2 c3 c4 c5 O_a O_b O_r O_c
  refine (zexact_yes hd ph.zv (by omega) (by omega) hC0 HD.out).mono ?_
  rintro e w29 ⟨s29, A29, n29, c29, rfl, pd, k29, B29⟩
  replace H_a := Lib.hid (H_a.out.below B29)
  replace H_b := Lib.hid (H_b.out.below B29)
  replace H_r := Lib.hid (H_r.out.below B29)
  replace H_c := Lib.hid (H_c.out.below B29)
  replace hn := hn.below B29
  replace hd := hd.below B29
  replace ph := ph.below B29
  replace pn := pn.below B29
  replace hW := hW.trans (B29.mono hW.size)
  clear B29
  have O_a := H_a
  have O_b := H_b
  have O_r := H_r
  have O_c := H_c
  obtain ⟨w30, hw30⟩ : ∃ x, x = zput w29 (w.heap.size + 1) s29 A29 n29 c29 := ⟨_, rfl⟩
  have HW30 : Hid (((w29.setCell ⟨(w.heap.size + 1), 0, none⟩ (.bool s29)).setCell ⟨(w.heap.size + 1), 1, none⟩ (.slice A29 n29 c29)) = w30) := Lib.hid hw30.symm
  have OI := H_b.out
  replace H_a : Hid (Ib w30 w.heap.size s27 A27 n27 c27) := Lib.hid (by rw [hw30]; exact H_a.out.zput (by omega))
  replace H_r : Hid (Rb w30 (w.heap.size + 1 + 1) false none 0 0 false none 0 0) := Lib.hid (by rw [hw30]; exact H_r.out.zput (by omega))
  replace H_c : Hid (Ib w30 w22.heap.size s25 A25 n25 c25) := Lib.hid (by rw [hw30]; exact H_c.out.zput (by omega))
  replace hn := hn.zput (s' := s29) (A' := A29) (n' := n29) (c' := c29) OI
  replace hd := hd.zput (s' := s29) (A' := A29) (n' := n29) (c' := c29) OI
  replace ph := ph.zput (s' := s29) (A' := A29) (n' := n29) (c' := c29) OI
  replace pn := pn.zput (s' := s29) (A' := A29) (n' := n29) (c' := c29) OI
  replace pd := pd.zput (s' := s29) (A' := A29) (n' := n29) (c' := c29) OI
  rw [← hw30] at hn
  rw [← hw30] at hd
  rw [← hw30] at ph
  rw [← hw30] at pn
  rw [← hw30] at pd
  replace hW : Below w.heap.size w w30 := by rw [hw30]; exact below_put hW lw_b
  replace H_b : Hid (Ib w30 (w.heap.size + 1) s29 A29 n29 c29) := Lib.hid (by rw [hw30]; exact OI.own)
  clear hw30 OI
  have P := Lib.hid (qfin (w := w) (k := k) ⟨pn, pd⟩ H_r.out (by omega) (by omega) lw_r hW)
  unfold rput at P
  obtain ⟨a1, a2, a3, a4, a5⟩ := O_a.out
  obtain ⟨b1, b2, b3, b4, b5⟩ := O_b.out
  obtain ⟨r1, r2, r3, r4, r5, r6, r7, r8, r9⟩ := O_r.out
  obtain ⟨c1, c2, c3, c4, c5⟩ := O_c.out
  go_wp2_with fail
  rw [HW30.out]
  clear a1 a2 a3 a4 a5 b1 b2 b3 b4 b5 r1 r2 r3 r4 r5 r6 r7 r8 r9 c1 c2 c3 c4 c5 O_a O_b O_r O_c
  obtain ⟨r1, r2, r3, r4, r5, r6, r7, r8, r9⟩ := H_r.out
  exact bodyPost_ret (v := (.agg #[.bool s27, .slice A27 n27 c27, .bool s29, .slice A29 n29 c29])) (by simp [results, Tryz.results16, go_sem, r1, r2, r3, r4]) rfl P.out
set_option maxRecDepth 100000 in
set_option maxHeartbeats 4000000 in
theorem normal_zero {A B : Option Addr} {n c m d k : Nat} {s t : Bool} {N D : Int} {w : World} (hn : Zv w s A n c N) (hd : Zv w t B m d D) (hnk : n ≤ k) (hmk : m ≤ k) (h1 : 1 ≤ k) (hk : k ≤ 137438953472) (h0 : D = 0) :
    Calls Tryz.prog 16 #[.agg #[.bool s, .slice A n c], .agg #[.bool t, .slice B m d]] w (QPost (Rat.divInt N D) k w) := by
  have hW := Below.refl w.heap.size w
  obtain ⟨wp0, hwp0⟩ : ∃ x, x = w.alloc (.cells #[.bool s, .slice A n c] 25) := ⟨_, rfl⟩
  have zp0 : Below w.heap.size w wp0 := by rw [hwp0]; exact zba _ _
  have sp0 : wp0.heap.size = w.heap.size + 1 := by rw [hwp0, World.size_alloc]
  have Ia : Ib wp0 w.heap.size s A n c := by rw [hwp0]; exact Ib.new _ _ _ _ _ _
  replace hn := hn.below zp0
  replace hd := hd.below zp0
  replace hW := hW.trans (zp0.mono hW.size)
  have H_a := Lib.hid Ia
  clear Ia zp0
  obtain ⟨wp1, hwp1⟩ : ∃ x, x = wp0.alloc (.cells #[.bool t, .slice B m d] 25) := ⟨_, rfl⟩
  have zp1 : Below wp0.heap.size wp0 wp1 := by rw [hwp1]; exact zba _ _
  have sp1 : wp1.heap.size = w.heap.size + 1 + 1 := by rw [hwp1, World.size_alloc, sp0]
  have Ib : Ib wp1 (w.heap.size + 1) t B m d := by rw [hwp1, ← sp0]; exact Ib.new _ _ _ _ _ _
  replace H_a := Lib.hid (H_a.out.below zp1)
  replace hn := hn.below zp1
  replace hd := hd.below zp1
  replace hW := hW.trans (zp1.mono hW.size)
  have H_b := Lib.hid Ib
  clear Ib zp1
  obtain ⟨wp2, hwp2⟩ : ∃ x, x = wp1.alloc (.cells #[.bool false, .slice none 0 0, .bool false, .slice none 0 0] 27) := ⟨_, rfl⟩
  have zp2 : Below wp1.heap.size wp1 wp2 := by rw [hwp2]; exact zba _ _
  have sp2 : wp2.heap.size = w.heap.size + 1 + 1 + 1 := by rw [hwp2, World.size_alloc, sp1]
  have Ir : Rb wp2 (w.heap.size + 1 + 1) false none 0 0 false none 0 0 := by rw [hwp2, ← sp1]; exact Rb.new _ _ _ _ _ _ _ _ _ _
  replace H_a := Lib.hid (H_a.out.below zp2)
  replace H_b := Lib.hid (H_b.out.below zp2)
  replace hn := hn.below zp2
  replace hd := hd.below zp2
  replace hW := hW.trans (zp2.mono hW.size)
  have H_r := Lib.hid Ir
  clear Ir zp2
  have HW : Hid ((((w.alloc (.cells #[.bool s, .slice A n c] 25)).alloc (.cells #[.bool t, .slice B m d] 25)).alloc (.cells #[.bool false, .slice none 0 0, .bool false, .slice none 0 0] 27)) = wp2) := Lib.hid (by rw [hwp2, hwp1, hwp0])
  have nn_a_b : ¬ (w.heap.size = (w.heap.size + 1)) := by omega
  have nm_a_b : ¬ ((w.heap.size + 1) = w.heap.size) := by omega
  have nn_a_r : ¬ (w.heap.size = (w.heap.size + 1 + 1)) := by omega
  have nm_a_r : ¬ ((w.heap.size + 1 + 1) = w.heap.size) := by omega
  have nn_b_r : ¬ ((w.heap.size + 1) = (w.heap.size + 1 + 1)) := by omega
  have nm_b_r : ¬ ((w.heap.size + 1 + 1) = (w.heap.size + 1)) := by omega
  have lw_a : w.heap.size ≤ w.heap.size := by omega
  have lw_b : w.heap.size ≤ (w.heap.size + 1) := by omega
  have lw_r : w.heap.size ≤ (w.heap.size + 1 + 1) := by omega
  clear hwp0 hwp1 hwp2 sp0 sp1 sp2
  subst h0
  rw [rq_zero]
  have HSR : Hid ((0 : Int).sign = 0) := Lib.hid rfl
  have HG : Hid (((Nat.gcd (0 : Int).natAbs (1 : Int).natAbs : Nat) : Int) = 1) := Lib.hid rfl
  go_enter Tryz.func16, Tryz.ntmps16
  obtain ⟨a1, a2, a3, a4, a5⟩ := H_a.out
  obtain ⟨b1, b2, b3, b4, b5⟩ := H_b.out
  obtain ⟨r1, r2, r3, r4, r5, r6, r7, r8, r9⟩ := H_r.out
  go_wp2_with fail
  rw [HW.out]
  clear a1 a2 a3 a4 a5 b1 b2 b3 b4 b5 r1 r2 r3 r4 r5 r6 r7 r8 r9
  refine (zsign_v hd (by omega) HSR.out).mono ?_
  rintro e w21 ⟨rfl, B21⟩
  replace H_a := Lib.hid (H_a.out.below B21)
  replace H_b := Lib.hid (H_b.out.below B21)
  replace H_r := Lib.hid (H_r.out.below B21)
  replace hn := hn.below B21
  replace hd := hd.below B21
  replace hW := hW.trans (B21.mono hW.size)
  clear B21
  obtain ⟨a1, a2, a3, a4, a5⟩ := H_a.out
  obtain ⟨b1, b2, b3, b4, b5⟩ := H_b.out
  obtain ⟨r1, r2, r3, r4, r5, r6, r7, r8, r9⟩ := H_r.out
  go_wp2_with fail
  clear a1 a2 a3 a4 a5 b1 b2 b3 b4 b5 r1 r2 r3 r4 r5 r6 r7 r8 r9
  refine (zof_v 1 (by omega) (by omega) _).mono ?_
  rintro e w22 ⟨s22, A22, n22, c22, rfl, p1, k22, B22⟩
  replace H_a := Lib.hid (H_a.out.below B22)
  replace H_b := Lib.hid (H_b.out.below B22)
  replace H_r := Lib.hid (H_r.out.below B22)
  replace hn := hn.below B22
  replace hd := hd.below B22
  replace hW := hW.trans (B22.mono hW.size)
  clear B22
  have pz : Zc w22 false none 0 0 0 := zc_nought _
  have O_a := H_a
  have O_b := H_b
  have O_r := H_r
  obtain ⟨w23, hw23⟩ : ∃ x, x = zput w22 w.heap.size false none 0 0 := ⟨_, rfl⟩
  have HW23 : Hid (((w22.setCell ⟨w.heap.size, 0, none⟩ (.bool false)).setCell ⟨w.heap.size, 1, none⟩ (.slice none 0 0)) = w23) := Lib.hid hw23.symm
  have OI := H_a.out
  replace H_b : Hid (Ib w23 (w.heap.size + 1) t B m d) := Lib.hid (by rw [hw23]; exact H_b.out.zput (by omega))
  replace H_r : Hid (Rb w23 (w.heap.size + 1 + 1) false none 0 0 false none 0 0) := Lib.hid (by rw [hw23]; exact H_r.out.zput (by omega))
  replace hn := hn.zput (s' := false) (A' := none) (n' := 0) (c' := 0) OI
  replace hd := hd.zput (s' := false) (A' := none) (n' := 0) (c' := 0) OI
  replace p1 := p1.zput (s' := false) (A' := none) (n' := 0) (c' := 0) OI
  replace pz := pz.zput (s' := false) (A' := none) (n' := 0) (c' := 0) OI
  rw [← hw23] at hn
  rw [← hw23] at hd
  rw [← hw23] at p1
  rw [← hw23] at pz
  replace hW : Below w.heap.size w w23 := by rw [hw23]; exact below_put hW lw_a
  replace H_a : Hid (Ib w23 w.heap.size false none 0 0) := Lib.hid (by rw [hw23]; exact OI.own)
  clear hw23 OI
  obtain ⟨w24, hw24⟩ : ∃ x, x = zput w23 (w.heap.size + 1) s22 A22 n22 c22 := ⟨_, rfl⟩
  have HW24 : Hid (((w23.setCell ⟨(w.heap.size + 1), 0, none⟩ (.bool s22)).setCell ⟨(w.heap.size + 1), 1, none⟩ (.slice A22 n22 c22)) = w24) := Lib.hid hw24.symm
  have OI := H_b.out
  replace H_a : Hid (Ib w24 w.heap.size false none 0 0) := Lib.hid (by rw [hw24]; exact H_a.out.zput (by omega))
  replace H_r : Hid (Rb w24 (w.heap.size + 1 + 1) false none 0 0 false none 0 0) := Lib.hid (by rw [hw24]; exact H_r.out.zput (by omega))
  replace hn := hn.zput (s' := s22) (A' := A22) (n' := n22) (c' := c22) OI
  replace hd := hd.zput (s' := s22) (A' := A22) (n' := n22) (c' := c22) OI
  replace p1 := p1.zput (s' := s22) (A' := A22) (n' := n22) (c' := c22) OI
  replace pz := pz.zput (s' := s22) (A' := A22) (n' := n22) (c' := c22) OI
  rw [← hw24] at hn
  rw [← hw24] at hd
  rw [← hw24] at p1
  rw [← hw24] at pz
  replace hW : Below w.heap.size w w24 := by rw [hw24]; exact below_put hW lw_b
  replace H_b : Hid (Ib w24 (w.heap.size + 1) s22 A22 n22 c22) := Lib.hid (by rw [hw24]; exact OI.own)
  clear hw24 OI
  clear hn hd
  obtain ⟨a1, a2, a3, a4, a5⟩ := O_a.out
  obtain ⟨b1, b2, b3, b4, b5⟩ := O_b.out
  obtain ⟨r1, r2, r3, r4, r5, r6, r7, r8, r9⟩ := O_r.out
  go_wp2_with fail
  rw [HW23.out]
  rw [HW24.out]
  clear a1 a2 a3 a4 a5 b1 b2 b3 b4 b5 r1 r2 r3 r4 r5 r6 r7 r8 r9 O_a O_b O_r
  refine (zgcd_v pz.zv p1.zv (by omega) (by omega) HG.out).mono ?_
  rintro e w25 ⟨s25, A25, n25, c25, rfl, pg, k25, B25⟩
  replace H_a := Lib.hid (H_a.out.below B25)
  replace H_b := Lib.hid (H_b.out.below B25)
  replace H_r := Lib.hid (H_r.out.below B25)
  replace p1 := p1.below B25
  replace pz := pz.below B25
  replace hW := hW.trans (B25.mono hW.size)
  clear B25
  have O_a := H_a
  have O_b := H_b
  have O_r := H_r
  obtain ⟨w26, hw26⟩ : ∃ x, x = w25.alloc (.cells #[.bool s25, .slice A25 n25 c25] 25) := ⟨_, rfl⟩
  have z26 : Below w25.heap.size w25 w26 := by rw [hw26]; exact zba _ _
  have HW26 : Hid (w25.alloc (.cells #[.bool s25, .slice A25 n25 c25] 25) = w26) := Lib.hid hw26.symm
  have nn_a_c : ¬ (w.heap.size = w25.heap.size) := by have := H_a.out.2.2.2.2; omega
  have nm_a_c : ¬ (w25.heap.size = w.heap.size) := by omega
  have nn_b_c : ¬ ((w.heap.size + 1) = w25.heap.size) := by have := H_b.out.2.2.2.2; omega
  have nm_b_c : ¬ (w25.heap.size = (w.heap.size + 1)) := by omega
  have nn_r_c : ¬ ((w.heap.size + 1 + 1) = w25.heap.size) := by have := H_r.out.2.2.2.2.2.2.2.2; omega
  have nm_r_c : ¬ (w25.heap.size = (w.heap.size + 1 + 1)) := by omega
  have lw_c : w.heap.size ≤ w25.heap.size := hW.size
  replace H_a := Lib.hid (H_a.out.below z26)
  replace H_b := Lib.hid (H_b.out.below z26)
  replace H_r := Lib.hid (H_r.out.below z26)
  replace p1 := p1.below z26
  replace pz := pz.below z26
  replace pg := pg.below z26
  replace hW := hW.trans (z26.mono hW.size)
  have H_c : Hid (Ib w26 w25.heap.size s25 A25 n25 c25) := Lib.hid (by rw [hw26]; exact Ib.new _ _ _ _ _ _)
  clear z26 hw26
  obtain ⟨a1, a2, a3, a4, a5⟩ := O_a.out
  obtain ⟨b1, b2, b3, b4, b5⟩ := O_b.out
  obtain ⟨r1, r2, r3, r4, r5, r6, r7, r8, r9⟩ := O_r.out
  go_wp2_with fail
  rw [HW26.out]
  clear a1 a2 a3 a4 a5 b1 b2 b3 b4 b5 r1 r2 r3 r4 r5 r6 r7 r8 r9 O_a O_b O_r
  refine (zsign_v p1.zv (by omega) (show (1 : Int).sign = 1 from rfl)).mono ?_
  rintro e w27 ⟨rfl, B27⟩
  replace H_a := Lib.hid (H_a.out.below B27)
  replace H_b := Lib.hid (H_b.out.below B27)
  replace H_r := Lib.hid (H_r.out.below B27)
  replace H_c := Lib.hid (H_c.out.below B27)
  replace p1 := p1.below B27
  replace pz := pz.below B27
  replace pg := pg.below B27
  replace hW := hW.trans (B27.mono hW.size)
  clear B27
  obtain ⟨a1, a2, a3, a4, a5⟩ := H_a.out
  obtain ⟨b1, b2, b3, b4, b5⟩ := H_b.out
  obtain ⟨r1, r2, r3, r4, r5, r6, r7, r8, r9⟩ := H_r.out
  obtain ⟨c1, c2, c3, c4, c5⟩ := H_c.out
  go_wp2_with fail
  clear a1 a2 a3 a4 a5 b1 b2 b3 b4 b5 r1 r2 r3 r4 r5 r6 r7 r8 r9 c1 c2 c3 c4 c5
  refine (zexact_yes pz.zv pg.zv (by omega) (by omega) (by omega) (show (0 : Int) * 1 = 0 from rfl)).mono ?_
  rintro e w28 ⟨s28, A28, n28, c28, rfl, pn, k28, B28⟩
  replace H_a := Lib.hid (H_a.out.below B28)
  replace H_b := Lib.hid (H_b.out.below B28)
  replace H_r := Lib.hid (H_r.out.below B28)
  replace H_c := Lib.hid (H_c.out.below B28)
  replace p1 := p1.below B28
  replace pz := pz.below B28
  replace pg := pg.below B28
  replace hW := hW.trans (B28.mono hW.size)
  clear B28
  have O_a := H_a
  have O_b := H_b
  have O_r := H_r
  have O_c := H_c
  obtain ⟨w29, hw29⟩ : ∃ x, x = zput w28 w.heap.size s28 A28 n28 c28 := ⟨_, rfl⟩
  have HW29 : Hid (((w28.setCell ⟨w.heap.size, 0, none⟩ (.bool s28)).setCell ⟨w.heap.size, 1, none⟩ (.slice A28 n28 c28)) = w29) := Lib.hid hw29.symm
  have OI := H_a.out
  replace H_b : Hid (Ib w29 (w.heap.size + 1) s22 A22 n22 c22) := Lib.hid (by rw [hw29]; exact H_b.out.zput (by omega))
  replace H_r : Hid (Rb w29 (w.heap.size + 1 + 1) false none 0 0 false none 0 0) := Lib.hid (by rw [hw29]; exact H_r.out.zput (by omega))
  replace H_c : Hid (Ib w29 w25.heap.size s25 A25 n25 c25) := Lib.hid (by rw [hw29]; exact H_c.out.zput (by omega))
  replace p1 := p1.zput (s' := s28) (A' := A28) (n' := n28) (c' := c28) OI
  replace pz := pz.zput (s' := s28) (A' := A28) (n' := n28) (c' := c28) OI
  replace pg := pg.zput (s' := s28) (A' := A28) (n' := n28) (c' := c28) OI
  replace pn := pn.zput (s' := s28) (A' := A28) (n' := n28) (c' := c28) OI
  rw [← hw29] at p1
  rw [← hw29] at pz
  rw [← hw29] at pg
  rw [← hw29] at pn
  replace hW : Below w.heap.size w w29 := by rw [hw29]; exact below_put hW lw_a
  replace H_a : Hid (Ib w29 w.heap.size s28 A28 n28 c28) := Lib.hid (by rw [hw29]; exact OI.own)
  clear hw29 OI
  obtain ⟨a1, a2, a3, a4, a5⟩ := O_a.out
  obtain ⟨b1, b2, b3, b4, b5⟩ := O_b.out
  obtain ⟨r1, r2, r3, r4, r5, r6, r7, r8, r9⟩ := O_r.out
  obtain ⟨c1, c2, c3, c4, c5⟩ := O_c.out
  go_wp2_with fail
  rw [HW29.out]
  clear a1 a2 a3 a4 a5 b1 b2 b3 b4 b5 r1 r2 r3 r4 r5 r6 r7 r8 r9 c1 c2 c3 c4 c5 O_a O_b O_r O_c
  refine (zexact_yes p1.zv pg.zv (by omega) (by omega) (by omega) (show (1 : Int) * 1 = 1 from rfl)).mono ?_
  rintro e w30 ⟨s30, A30, n30, c30, rfl, pd, k30, B30⟩
  replace H_a := Lib.hid (H_a.out.below B30)
  replace H_b := Lib.hid (H_b.out.below B30)
  replace H_r := Lib.hid (H_r.out.below B30)
  replace H_c := Lib.hid (H_c.out.below B30)
  replace p1 := p1.below B30
  replace pz := pz.below B30
  replace pg := pg.below B30
  replace pn := pn.below B30
  replace hW := hW.trans (B30.mono hW.size)
  clear B30
  have O_a := H_a
  have O_b := H_b
  have O_r := H_r
  have O_c := H_c
  obtain ⟨w31, hw31⟩ : ∃ x, x = zput w30 (w.heap.size + 1) s30 A30 n30 c30 := ⟨_, rfl⟩
  have HW31 : Hid (((w30.setCell ⟨(w.heap.size + 1), 0, none⟩ (.bool s30)).setCell ⟨(w.heap.size + 1), 1, none⟩ (.slice A30 n30 c30)) = w31) := Lib.hid hw31.symm
  have OI := H_b.out
  replace H_a : Hid (Ib w31 w.heap.size s28 A28 n28 c28) := Lib.hid (by rw [hw31]; exact H_a.out.zput (by omega))
  replace H_r : Hid (Rb w31 (w.heap.size + 1 + 1) false none 0 0 false none 0 0) := Lib.hid (by rw [hw31]; exact H_r.out.zput (by omega))
  replace H_c : Hid (Ib w31 w25.heap.size s25 A25 n25 c25) := Lib.hid (by rw [hw31]; exact H_c.out.zput (by omega))
  replace p1 := p1.zput (s' := s30) (A' := A30) (n' := n30) (c' := c30) OI
  replace pz := pz.zput (s' := s30) (A' := A30) (n' := n30) (c' := c30) OI
  replace pg := pg.zput (s' := s30) (A' := A30) (n' := n30) (c' := c30) OI
  replace pn := pn.zput (s' := s30) (A' := A30) (n' := n30) (c' := c30) OI
  replace pd := pd.zput (s' := s30) (A' := A30) (n' := n30) (c' := c30) OI
  rw [← hw31] at p1
  rw [← hw31] at pz
  rw [← hw31] at pg
  rw [← hw31] at pn
  rw [← hw31] at pd
  replace hW : Below w.heap.size w w31 := by rw [hw31]; exact below_put hW lw_b
  replace H_b : Hid (Ib w31 (w.heap.size + 1) s30 A30 n30 c30) := Lib.hid (by rw [hw31]; exact OI.own)
  clear hw31 OI
  have P := Lib.hid (qfin (q := 0) (w := w) (k := k) ⟨pn, pd⟩ H_r.out (by omega) (by omega) lw_r hW)
  unfold rput at P
  obtain ⟨a1, a2, a3, a4, a5⟩ := O_a.out
  obtain ⟨b1, b2, b3, b4, b5⟩ := O_b.out
  obtain ⟨r1, r2, r3, r4, r5, r6, r7, r8, r9⟩ := O_r.out
  obtain ⟨c1, c2, c3, c4, c5⟩ := O_c.out
  go_wp2_with fail
  rw [HW31.out]
  clear a1 a2 a3 a4 a5 b1 b2 b3 b4 b5 r1 r2 r3 r4 r5 r6 r7 r8 r9 c1 c2 c3 c4 c5 O_a O_b O_r O_c
  obtain ⟨r1, r2, r3, r4, r5, r6, r7, r8, r9⟩ := H_r.out
  exact bodyPost_ret (v := (.agg #[.bool s28, .slice A28 n28 c28, .bool s30, .slice A30 n30 c30])) (by simp [results, Tryz.results16, go_sem, r1, r2, r3, r4]) rfl P.out
/-- rat.normal. -/
theorem normal_v {A B : Option Addr} {n c m d k : Nat} {s t : Bool} {N D : Int} {w : World} (hn : Zv w s A n c N) (hd : Zv w t B m d D) (hnk : n ≤ k) (hmk : m ≤ k) (h1 : 1 ≤ k) (hk : k ≤ 137438953472) :
    Calls Tryz.prog 16 #[.agg #[.bool s, .slice A n c], .agg #[.bool t, .slice B m d]] w (QPost (Rat.divInt N D) k w) := by
  rcases Int.lt_trichotomy D 0 with h | h | h
  · exact normal_neg hn hd hnk hmk h1 hk h
  · exact normal_zero hn hd hnk hmk h1 hk h
  · exact normal_pos hn hd hnk hmk h1 hk h
end Go.Proofs.YtfpncmhaoadfdaaGreat
