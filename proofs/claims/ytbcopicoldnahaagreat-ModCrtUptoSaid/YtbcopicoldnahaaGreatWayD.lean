/-
  Package zint: the way's order.
-/
import Derived.Test.YtbcopicoldnahaaGreatWayC
import Derived.BigRegion
/-! Contract: zint.way.order. -/
namespace Go.Proofs.YtbcopicoldnahaaGreat
open Go.RowKit
set_option linter.unusedVariables false

/-- What order leaves. -/
def OrPost (w : World) (base h u m G N g : Nat) (e : Ending) (w' : World) : Prop := e = .returned (.tuple #[]) ∧ ∃ g', g' < g ∧ WayAt w' base h u m G N g' ∧ Below base w w'
/-- Behind the exchange. -/
def OrEx (w : World) (base h u m G N g : Nat) (wx : World) : Prop :=
  ∃ (n ga gb gx gy a b x y : Nat) (La Lb Lx Ly : List Nat) (t : Bool), Wy wx h (.slice (some ⟨ga, 0, none⟩) n N) (.slice (some ⟨gb, 0, none⟩) n N) (.slice (some ⟨gx, 0, none⟩) N N) (.slice (some ⟨gy, 0, none⟩) N N) t ∧ Wh base h ga gb gx gy ∧
    Four wx base N n ga gb gx gy La Lb Lx Ly a b x y ∧ Wm u m G a b x y t ∧ a + b < g ∧ b ≤ a ∧ Below base w wx
theorem Four.set {w : World} {base N n ga gb gx gy a b x y h : Nat} {La Lb Lx Ly : List Nat} (f : Four w base N n ga gb gx gy La Lb Lx Ly a b x y) (k : Wh base h ga gb gx gy) (j : Nat) (v : Value) : Four (w.setCell ⟨h, j, none⟩ v) base N n ga gb gx gy La Lb Lx Ly a b x y :=
  ⟨f.dab, f.dax, f.day, f.dbx, f.dby, f.dxy, f.ba, f.bb, f.bx, f.bY, f.la, f.lb, f.lx, f.ly, f.hn, f.hN, f.wa.far k.ha.symm _, f.wb.far k.hb.symm _, f.wx.far k.hx.symm _, f.wy.far k.hy.symm _, f.va, f.vb, f.vx, f.vy⟩
theorem Four.trim {w : World} {base N n ga gb gx gy a b x y : Nat} {La Lb Lx Ly : List Nat} (f : Four w base N n ga gb gx gy La Lb Lx Ly a b x y) (hle : b ≤ a) :
    Four w base N (sl (La.take n)) ga gb gx gy La Lb Lx Ly a b x y ∧ sl (La.take n) ≤ n ∧ (sl (La.take n) = 0 ∨ nth La (sl (La.take n) - 1) ≠ 0) := by
  have hl : (La.take n).length = n := by have := f.la; have := f.hn; simp; omega
  have hlb : (Lb.take n).length = n := by have := f.lb; have := f.hn; simp; omega
  have hs := sl_le (La.take n)
  rw [hl] at hs
  have e1 : ev 18446744073709551616 (La.take (sl (La.take n))) = ev 18446744073709551616 (La.take n) := by
    have := ev_take_sl 18446744073709551616 (La.take n)
    rwa [List.take_take, Nat.min_eq_left hs] at this
  have e2 : ev 18446744073709551616 (Lb.take (sl (La.take n))) = ev 18446744073709551616 (Lb.take n) := by
    have := take_fits (us := Lb.take n) (by omega) (f.wa.2.take n) (by rw [f.va, f.vb]; exact hle) (by omega)
    rwa [List.take_take, Nat.min_eq_left hs] at this
  refine ⟨{ f with hn := by have := f.hn; omega, va := by rw [e1]; exact f.va, vb := by rw [e2]; exact f.vb }, hs, ?_⟩
  rcases Nat.eq_zero_or_pos (sl (La.take n)) with h0 | h0
  · exact .inl h0
  · have := sl_top h0
    rw [nth_take (by omega)] at this
    exact .inr this

set_option maxRecDepth 100000 in
set_option maxHeartbeats 4000000 in
theorem worder_calls (w : World) (base h u m G N g : Nat) (hb : base ≤ w.heap.size) (P : WayMid w base h u m G N g) :
    Calls Tryz.prog 89 #[.pointer (some ⟨h, 0, none⟩)] w (OrPost w base h u m G N g) := by
  obtain ⟨n, ga, gb, gx, gy, a, b, x, y, La, Lb, Lx, Ly, t, hW, hH, f, M, hlt⟩ := P
  have hN := f.hN
  have hn := f.hn
  obtain ⟨rc, hrc⟩ : ∃ r, cmpN a b = r := ⟨_, rfl⟩
  have HRC := Lib.hid hrc
  have HW := Lib.hid hW
  have HF := Lib.hid f
  have HM := Lib.hid M
  have HLT := Lib.hid hlt
  obtain ⟨c0, c1, c2, c3, c4, _⟩ := hW.cells
  clear hrc hW f M hlt
  go_enter Tryz.func89, Tryz.ntmps89
  go_wp2_with fail
  go_region_held3 (fun w' => w'.cell? ⟨h, 0, none⟩ = some (.slice (some ⟨ga, 0, none⟩) n N) ∧ w'.cell? ⟨h, 1, none⟩ = some (.slice (some ⟨gb, 0, none⟩) n N)) (go_keep) (first
    | (go_at_call 57; (with_reducible refine (cmp_as (x := a) (y := b) (HF.out.nva.below (below_drew _)) (HF.out.nvb.below (below_drew _)) HRC.out).mono ?_); rintro e w1 ⟨rfl, B1⟩; have Q1 := zup (below_drew _) B1; obtain ⟨d0, d1, d2, d3, d4, _⟩ := (HW.out.below Q1).cells)
    | fail)
  have HF1 := Lib.hid (HF.out.below Q1)
  have HW1 := Lib.hid (HW.out.below Q1)
  have HB1 := Lib.hid (Q1.mono hb)
  have hb1 : base ≤ w1.heap.size := by have := Q1.size; omega
  clear Q1 B1 c0 c1 c2 c3 c4 HF HW
  go_upto_if 12 with fail
  go_cut [] (OrEx w base h u m G N g)
  case first =>
    by_cases hlt2 : a < b
    · have hr1 : rc = -1 := by rw [← HRC.out, cmpN_lt hlt2]
      subst hr1
      obtain ⟨_, _, _, _, _, f0, f1, f2, f3, f4⟩ := HW1.out.cells
      have HLT2 := Lib.hid hlt2
      clear hlt2
      go_wp2_with fail
      go_region
      all_goals
        go_wp2_with fail
        go_meet
        have K := ((((HW1.out.put0 (.slice (some ⟨gb, 0, none⟩) n N)).put1 (.slice (some ⟨ga, 0, none⟩) n N)).put2 (.slice (some ⟨gy, 0, none⟩) N N)).put3 (.slice (some ⟨gx, 0, none⟩) N N)).put4 (!t)
        have F := (((((HF1.out.set hH 0 (.slice (some ⟨gb, 0, none⟩) n N)).set hH 1 (.slice (some ⟨ga, 0, none⟩) n N)).set hH 2 (.slice (some ⟨gy, 0, none⟩) N N)).set hH 3 (.slice (some ⟨gx, 0, none⟩) N N)).set hH 4 (.bool (!t)))
        exact ⟨n, gb, ga, gy, gx, b, a, y, x, Lb, La, Ly, Lx, !t, K.below (below_drew _), hH.swap, F.swap.below (below_drew _), HM.out.swap, by have := HLT.out; omega, Nat.le_of_lt HLT2.out,
          (below_set (below_set (below_set (below_set (below_set HB1.out hH.h0 _) hH.h0 _) hH.h0 _) hH.h0 _) hH.h0 _).drew⟩
    · have hr1 : ¬ rc < 0 := by
        rw [← HRC.out]
        rcases Nat.lt_or_eq_of_le (Nat.le_of_not_lt hlt2) with h | h
        · rw [cmpN_gt h]; omega
        · rw [cmpN_eq h.symm]; omega
      have HLT2 := Lib.hid hlt2
      clear hlt2
      go_wp2_with fail
      go_meet
      exact ⟨n, ga, gb, gx, gy, a, b, x, y, La, Lb, Lx, Ly, t, HW1.out, hH, HF1.out, HM.out, HLT.out, Nat.le_of_not_lt HLT2.out, HB1.out⟩
  case rest =>
    clear HF1 HW1 HB1 HM HLT HRC hH hn hb1 d0 d1 d2 d3 d4
    obtain ⟨n, ga, gb, gx, gy, a, b, x, y, La, Lb, Lx, Ly, t, hW, hH, f, M, hlt, hle, hB⟩ := hcut
    obtain ⟨f2, hs, htop⟩ := f.trim hle
    have hn := f.hn
    obtain ⟨B, hBl⟩ : ∃ B, bl a = B := ⟨_, rfl⟩
    have h1 := bl_sl (f.wa.2.take n)
    rw [f.va, hBl] at h1
    have HBL := Lib.hid hBl
    obtain ⟨q, hq⟩ : ∃ q, sl (La.take n) = q := ⟨_, rfl⟩
    rw [hq] at h1 hs htop f2
    have E1 := Lib.hid (show ((B : Int) + 64 - 1) / 64 = (q : Int) by omega)
    have hB2 : B ≤ 70368744177664 := by omega
    have hqN : q ≤ N := by omega
    have nva := f.nva
    obtain ⟨c0, c1, c2, c3, c4, g0, g1, _, _, _⟩ := hW.cells
    have HW := Lib.hid hW
    have HF := Lib.hid f2
    have HM := Lib.hid M
    have HLT := Lib.hid hlt
    have HTOP := Lib.hid htop
    have HBe := Lib.hid hB
    clear h1 hq hW f f2 M hlt htop hB hBl
    go_wp2_with fail
    refine (zbits_n nva (by omega) HBL.out).mono ?_
    rintro e w2 ⟨rfl, rfl⟩
    clear nva
    go_wp2_with fail
    rw [E1.out]
    go_region
    all_goals
      have K := ((HW.out.put0 (.slice (some ⟨ga, 0, none⟩) q N)).put1 (.slice (some ⟨gb, 0, none⟩) q N)).below (below_drew _)
      have F := ((HF.out.set hH 0 (.slice (some ⟨ga, 0, none⟩) q N)).set hH 1 (.slice (some ⟨gb, 0, none⟩) q N)).below (below_drew _)
      have P : Hid (OrPost w base h u m G N g (.returned (.tuple #[])) ((wc.setCell ⟨h, 0, none⟩ (.slice (some ⟨ga, 0, none⟩) q N)).setCell ⟨h, 1, none⟩ (.slice (some ⟨gb, 0, none⟩) q N)).drew) := Lib.hid ⟨rfl, a + b, HLT.out, ⟨q, ga, gb, gx, gy, a, b, x, y, La, Lb, Lx, Ly, t, K, hH, F, HM.out, hle, HTOP.out, rfl⟩,
        (below_set (below_set HBe.out hH.h0 _) hH.h0 _).drew⟩
      clear K F
      go_wp2_with fail
      go_end0
      exact P.out
end Go.Proofs.YtbcopicoldnahaaGreat
