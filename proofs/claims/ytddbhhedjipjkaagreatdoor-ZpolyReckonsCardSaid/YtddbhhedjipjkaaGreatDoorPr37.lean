/-
  ZintG ZlF
-/
import Derived.Test.YtddbhhedjipjkaaGreatDoorPr33
import Derived.Test.YtddbhhedjipjkaaGreatDoorPr36
import Derived.Test.YtddbhhedjipjkaaGreatDoorPr17

section
namespace Go.Proofs.YtddbhhedjipjkaaGreatDoor
open Go.RowKit
set_option linter.unusedVariables false
set_option linter.unusedSimpArgs false
set_option maxHeartbeats 400000 in
theorem zgcd_v {A B : Option Addr} {n m c d : Nat} {s t : Bool} {x y : Int} {w : World} (hx : Zv w s A n c x) (hy : Zv w t B m d y) (hn : n ≤ 137438953472) (hm : m ≤ 137438953472) {G : Int} (hG : ((Nat.gcd x.natAbs y.natAbs : Nat) : Int) = G) :
    Calls Tryz.prog 32 #[.agg #[.bool s, .slice A n c], .agg #[.bool t, .slice B m d]] w (ZPost G (max n m) w) := by
  obtain ⟨w3, hw3, IA, IB, IR, z0⟩ := open3 w s t A B n c m d
  obtain ⟨hx1, ex⟩ := hx.up z0
  obtain ⟨hy1, ey⟩ := hy.up z0
  have HZ := Lib.hid z0
  have hs : sg false (Nat.gcd x.natAbs y.natAbs) = G := by rw [← hG]; rfl
  have HS := Lib.hid hs
  have HW := Lib.hid hw3.symm
  clear hx hy ex ey hs z0 hw3 hG
  have HA := Lib.hid IA
  have HB := Lib.hid IB
  have HR := Lib.hid IR
  obtain ⟨a1, a2, a3, a4, a5⟩ := IA
  obtain ⟨b1, b2, b3, b4, b5⟩ := IB
  clear IR
  have n1 : ¬ (w.heap.size + 1 + 1 = w.heap.size) := by omega
  have n2 : ¬ (w.heap.size = w.heap.size + 1 + 1) := by omega
  go_enter Tryz.func32, Tryz.ntmps32
  go_wp2_with fail
  rw [HW.out]
  go_wp2_with fail
  refine (gcd_v hx1 hy1 hn hm).mono ?_
  rintro e w4 ⟨A4, n4, c4, rfl, p4, k4, B4⟩
  clear a1 a2 a3 a4 b1 b2 b3 b4
  obtain ⟨r1, r2, r3, r4, r5⟩ := HR.out.below B4
  have Q4 := B4
  go_wp2_with fail
  refine (signed_v p4).mono ?_
  rintro e w5 ⟨s5, A5, n5, c5, rfl, p5, k5, B5⟩
  clear r1 r2 r3 r4 r5
  have Q5 := zup Q4 B5
  obtain ⟨r1, r2, r3, r4, r5⟩ := HR.out.below Q5
  rw [HS.out] at p5
  have P := Lib.hid (zfin p5 ⟨r1, r2, r3, r4, r5⟩ (k := max n m) (by omega) (by omega) (zup HZ.out Q5))
  clear p4 p5 B4 B5 Q4 Q5 k4 k5
  go_wp2_with fail
  exact bodyPost_ret (v := .agg #[.bool s5, .slice A5 n5 c5]) (by simp [results, Tryz.results32, go_sem, r1, r2]) rfl P.out
end Go.Proofs.YtddbhhedjipjkaaGreatDoor
end

section
namespace Go.Proofs.YtddbhhedjipjkaaGreatDoor
open Go.RowKit
set_option linter.unusedVariables false
set_option linter.unusedSimpArgs false
theorem bl_one {v : Nat} (h : bl v = 1) : v = 1 := by
  have h1 := bl_le.1 (Nat.le_of_eq h)
  rcases Nat.eq_zero_or_pos v with e | e
  · rw [e] at h; cases h
  · omega
set_option maxRecDepth 100000 in
set_option maxHeartbeats 1000000 in
theorem zcontent_v {q : Bool} {A : Option Addr} {n c k : Nat} {zs : List Int} {w : World} (hx : ZL q w A n c k zs) (hk : k ≤ 137438953472) (hn : n ≤ 1099511627776) :
    Calls Tryz.prog 33 #[.slice A n c] w (ZPost (cont zs : Int) k w) := by
  have HX0 := Lib.hid hx
  have HN := Lib.hid hx.len
  clear hx
  have hW := Below.refl w.heap.size w
  obtain ⟨wp0, hwp0⟩ : ∃ xw, xw = w.alloc (.cells #[.bool false, .slice none 0 0] 27) := ⟨_, rfl⟩
  have zp0 : Below w.heap.size w wp0 := by rw [hwp0]; exact zba _ _
  have sp0 : wp0.heap.size = w.heap.size + 1 := by rw [hwp0, World.size_alloc]
  have Ir : Ib wp0 w.heap.size false none 0 0 := by rw [hwp0]; exact Ib.new _ _ _ _ _ _
  replace hW := hW.trans (zp0.mono hW.size)
  have H_r := Lib.hid Ir
  clear Ir zp0
  have HW : Hid ((w.alloc (.cells #[.bool false, .slice none 0 0] 27)) = wp0) := Lib.hid (by rw [hwp0])
  have lw_r : w.heap.size ≤ w.heap.size := by omega
  clear hwp0 sp0
  go_enter Tryz.func33, Tryz.ntmps33
  obtain ⟨r1, r2, r3, r4, r5⟩ := H_r.out
  go_upto_region 1 with fail
  rw [HW.out]
  clear r1 r2 r3 r4 r5
  have O_r := H_r
  obtain ⟨w21, hw21⟩ : ∃ xw, xw = wp0.alloc (.cells #[.bool false, .slice none 0 0] 27) := ⟨_, rfl⟩
  have z21 : Below wp0.heap.size wp0 w21 := by rw [hw21]; exact zba _ _
  have HW21 : Hid (wp0.alloc (.cells #[.bool false, .slice none 0 0] 27) = w21) := Lib.hid hw21.symm
  have nn_r_c : ¬ (w.heap.size = wp0.heap.size) := by have := H_r.out.2.2.2.2; omega
  have nm_r_c : ¬ (wp0.heap.size = w.heap.size) := by omega
  have lw_c : w.heap.size ≤ wp0.heap.size := by have := hW.size; omega
  replace H_r := Lib.hid (H_r.out.below z21)
  replace hW := hW.trans (z21.mono hW.size)
  have H_c : Hid (Ib w21 wp0.heap.size false none 0 0) := Lib.hid (by rw [hw21]; exact Ib.new _ _ _ _ _ _)
  clear z21 hw21
  obtain ⟨r1, r2, r3, r4, r5⟩ := O_r.out
  go_upto_region 2 with fail
  rw [HW21.out]
  clear r1 r2 r3 r4 r5 O_r
  obtain ⟨gC, hgC⟩ : ∃ q, wp0.heap.size = q := ⟨_, rfl⟩
  rw [hgC] at H_c nn_r_c nm_r_c lw_c
  rw [hgC]
  clear hgC
  have HB : Hid (Ib w21 w.heap.size false none 0 0 ∧ Below w.heap.size w w21 ∧ ∃ sc Ac nc cc, Ib w21 gC sc Ac nc cc ∧ Zc w21 sc Ac nc cc (cont (zs.take 0) : Int) ∧ nc ≤ k) := Lib.hid ⟨H_r.out, hW, _, _, _, _, H_c.out, Zc.nought _, Nat.zero_le _⟩
  clear hW H_r H_c HW
  go_wp2_with fail
  go_loopw [9] (fun s9 wr => ∃ j : Nat, s9 = .int .i64 (j : Int) ∧ j ≤ n ∧ Hid (Ib wr w.heap.size false none 0 0 ∧ Below w.heap.size w wr ∧ ∃ sc Ac nc cc, Ib wr gC sc Ac nc cc ∧ Zc wr sc Ac nc cc (cont (zs.take j) : Int) ∧ nc ≤ k)) (fun s9 _ => n - (intOf s9).toNat)
  case atStart => exact ⟨0, rfl, Nat.zero_le _, HB⟩
  case round =>
    clear HB
    obtain ⟨j, rfl, hj, HB⟩ := hrel
    obtain ⟨I1, hW, sc, Ac, nc, cc, I2, hc, knc⟩ := HB.out
    have H_r := Lib.hid I1
    have H_c := Lib.hid I2
    clear HB I1 I2
    by_cases hlt : j < n
    · obtain ⟨ad, rfl, hab, s, A', m, d, c1, c2, ze, hm⟩ := (HX0.out.below hW).at (j := j) hlt
      have hv := ze.1
      have u1 : (0 : Int) ≤ (j : Int) := by omega
      have u2 : (j : Int) < (n : Int) := by omega
      obtain ⟨G, hG⟩ : ∃ G : Nat, cont (zs.take (j + 1)) = G := ⟨_, rfl⟩
      have hg : ((Nat.gcd (cont (zs.take j) : Int).natAbs (ith zs j).natAbs : Nat) : Int) = (G : Int) := by rw [Int.natAbs_natCast, ← cont_take_succ (by rw [HN.out]; exact hlt), hG]
      have HG := Lib.hid hG
      have Hg := Lib.hid hg
      clear ze hG hg
      have O_r := H_r
      have O_c := H_c
      obtain ⟨w22, hw22⟩ : ∃ xw, xw = wr.alloc (.cells #[.bool s, .slice A' m d] 27) := ⟨_, rfl⟩
      have z22 : Below wr.heap.size wr w22 := by rw [hw22]; exact zba _ _
      have HW22 : Hid (wr.alloc (.cells #[.bool s, .slice A' m d] 27) = w22) := Lib.hid hw22.symm
      have nn_r_x : ¬ (w.heap.size = wr.heap.size) := by have := H_r.out.2.2.2.2; omega
      have nm_r_x : ¬ (wr.heap.size = w.heap.size) := by omega
      have nn_c_x : ¬ (gC = wr.heap.size) := by have := H_c.out.2.2.2.2; omega
      have nm_c_x : ¬ (wr.heap.size = gC) := by omega
      have lw_x : w.heap.size ≤ wr.heap.size := by have := hW.size; omega
      replace H_r := Lib.hid (H_r.out.below z22)
      replace H_c := Lib.hid (H_c.out.below z22)
      replace hv := hv.below z22
      replace hc := hc.below z22
      replace hW := hW.trans (z22.mono hW.size)
      have H_x : Hid (Ib w22 wr.heap.size s A' m d) := Lib.hid (by rw [hw22]; exact Ib.new _ _ _ _ _ _)
      clear z22 hw22
      obtain ⟨r1, r2, r3, r4, r5⟩ := O_r.out
      obtain ⟨c1, c2, c3, c4, c5⟩ := O_c.out
      go_wp2_with fail
      rw [HW22.out]
      clear r1 r2 r3 r4 r5 c1 c2 c3 c4 c5 O_r O_c
      refine (zgcd_v hc.zv hv (by omega) (by omega) Hg.out).mono ?_
      rintro e w23 ⟨s23, A23, n23, c23, rfl, hG2, k23, B23⟩
      replace H_r := Lib.hid (H_r.out.below B23)
      replace H_c := Lib.hid (H_c.out.below B23)
      replace H_x := Lib.hid (H_x.out.below B23)
      replace hv := hv.below B23
      replace hc := hc.below B23
      replace hW := hW.trans (B23.mono hW.size)
      clear B23
      have knn : n23 ≤ k := by omega
      clear hc hv
      have O_r := H_r
      have O_c := H_c
      have O_x := H_x
      obtain ⟨w24, hw24⟩ : ∃ xw, xw = zput w23 gC s23 A23 n23 c23 := ⟨_, rfl⟩
      have HW24 : Hid (((w23.setCell ⟨gC, 0, none⟩ (.bool s23)).setCell ⟨gC, 1, none⟩ (.slice A23 n23 c23)) = w24) := Lib.hid hw24.symm
      have OI := H_c.out
      replace H_r : Hid (Ib w24 w.heap.size false none 0 0) := Lib.hid (by rw [hw24]; exact H_r.out.zput (by omega))
      replace H_x : Hid (Ib w24 wr.heap.size s A' m d) := Lib.hid (by rw [hw24]; exact H_x.out.zput (by omega))
      replace hG2 := hG2.zput (s' := s23) (A' := A23) (n' := n23) (c' := c23) OI
      rw [← hw24] at hG2
      replace hW : Below w.heap.size w w24 := by rw [hw24]; exact below_put hW lw_c
      replace H_c : Hid (Ib w24 gC s23 A23 n23 c23) := Lib.hid (by rw [hw24]; exact OI.own)
      clear hw24 OI
      obtain ⟨bb, hbb⟩ : ∃ bb, bl (G : Int).natAbs = bb := ⟨_, rfl⟩
      have HBB := Lib.hid hbb
      clear hbb
      obtain ⟨r1, r2, r3, r4, r5⟩ := O_r.out
      obtain ⟨c1, c2, c3, c4, c5⟩ := O_c.out
      obtain ⟨x1, x2, x3, x4, x5⟩ := O_x.out
      go_wp2_with fail
      rw [HW24.out]
      clear r1 r2 r3 r4 r5 c1 c2 c3 c4 c5 x1 x2 x3 x4 x5 O_r O_c O_x
      refine (zbits_v hG2.zv (by omega) HBB.out).mono ?_
      rintro e w25 ⟨rfl, B25⟩
      replace H_r := Lib.hid (H_r.out.below B25)
      replace H_c := Lib.hid (H_c.out.below B25)
      replace H_x := Lib.hid (H_x.out.below B25)
      replace hG2 := hG2.below B25
      replace hW := hW.trans (B25.mono hW.size)
      clear B25
      by_cases h1 : bb = 1
      · subst h1
        have e1 : (G : Int) = (cont zs : Int) := by
          have e2 := bl_one HBB.out
          rw [Int.natAbs_natCast] at e2
          rw [e2, cont_one (HG.out.trans e2)]
        have P := Lib.hid (zfin (w := w) (k := k) hG2 H_r.out knn lw_r hW)
        rw [e1] at P
        clear hG2 hW
        obtain ⟨r1, r2, r3, r4, r5⟩ := H_r.out
        obtain ⟨c1, c2, c3, c4, c5⟩ := H_c.out
        obtain ⟨x1, x2, x3, x4, x5⟩ := H_x.out
        go_wp2_with fail
        clear r1 r2 r3 r4 r5 c1 c2 c3 c4 c5 x1 x2 x3 x4 x5
        obtain ⟨r1, r2, r3, r4, r5⟩ := H_r.out
        exact bodyPost_ret (v := .agg #[.bool s23, .slice A23 n23 c23]) (by simp [results, Tryz.results33, go_sem, r1, r2]) rfl P.out
      · have hne : ((bb : Int) == 1) = false := by rw [beq_eq_false_iff_ne]; omega
        rw [← HG.out] at hG2
        have HRel : Hid (Ib w25 w.heap.size false none 0 0 ∧ Below w.heap.size w w25 ∧ ∃ sc Ac nc cc, Ib w25 gC sc Ac nc cc ∧ Zc w25 sc Ac nc cc (cont (zs.take (j + 1)) : Int) ∧ nc ≤ k) := Lib.hid ⟨H_r.out, hW, _, _, _, _, H_c.out, hG2, knn⟩
        clear hG2 hW H_x
        obtain ⟨r1, r2, r3, r4, r5⟩ := H_r.out
        obtain ⟨c1, c2, c3, c4, c5⟩ := H_c.out
        go_wp2_with fail
        clear r1 r2 r3 r4 r5 c1 c2 c3 c4 c5
        go_roundw
        case rel => exact ⟨j + 1, by go_num, by omega, HRel⟩
        case measure => first | (simp [intOf]; done) | (simp [intOf]; omega)
    · obtain rfl : j = n := by omega
      have e1 : (cont (zs.take j) : Int) = (cont zs : Int) := by rw [List.take_of_length_le (by rw [HN.out]; exact Nat.le_refl _)]
      have P := Lib.hid (zfin (w := w) (k := k) hc H_r.out knc lw_r hW)
      rw [e1] at P
      clear hc hW
      obtain ⟨r1, r2, r3, r4, r5⟩ := H_r.out
      obtain ⟨c1, c2, c3, c4, c5⟩ := H_c.out
      go_wp2_with fail
      clear r1 r2 r3 r4 r5 c1 c2 c3 c4 c5
      obtain ⟨r1, r2, r3, r4, r5⟩ := H_r.out
      exact bodyPost_ret (v := .agg #[.bool sc, .slice Ac nc cc]) (by simp [results, Tryz.results33, go_sem, r1, r2]) rfl P.out
end Go.Proofs.YtddbhhedjipjkaaGreatDoor
end
