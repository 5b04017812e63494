/-
  quincunxlaw06.awake, few.
-/
import Derived.Test.YtbcopicoldnahaaGreatModA
/-! Contracts: quincunxlaw06.awake. -/
namespace Go.Proofs.YtbcopicoldnahaaGreat
open Go.RowKit
set_option linter.unusedVariables false
set_option linter.unusedSimpArgs false

theorem five_only {X : Int} (h0 : 0 ≤ X) (h1 : X < 7) (h : X * 3 % 7 = 1 % 7) : X = 5 := by
  have : X = 0 ∨ X = 1 ∨ X = 2 ∨ X = 3 ∨ X = 4 ∨ X = 5 ∨ X = 6 := by omega
  rcases this with rfl | rfl | rfl | rfl | rfl | rfl | rfl
  all_goals first
    | rfl
    | (exfalso; revert h; decide)

set_option maxHeartbeats 2000000 in
theorem mawake_calls (w : World) : Calls Tryz.prog 4 #[] w (TruePost w) := by
  have hW := Below.refl w.heap.size w
  go_enter Tryz.func4, Tryz.ntmps4
  go_wp2_with fail
  refine (zof_v 3 (by omega) (by omega) _).mono ?_
  rintro e w21 ⟨s21, A21, n21, c21, rfl, p3, k21, B21⟩
  replace hW := hW.trans (B21.mono hW.size)
  clear B21
  go_wp2_with fail
  refine (zof_v 7 (by omega) (by omega) _).mono ?_
  rintro e w22 ⟨s22, A22, n22, c22, rfl, p7, k22, B22⟩
  replace p3 := p3.below B22
  replace hW := hW.trans (B22.mono hW.size)
  clear B22
  go_wp2_with fail
  refine (inv_yes p3.zv p7.zv (by omega) (by omega) (by omega) (by decide)).mono ?_
  rintro e w23 ⟨X, ⟨s23, A23, n23, c23, rfl, px, k23, B23⟩, HX⟩
  replace p3 := p3.below B23
  replace p7 := p7.below B23
  replace hW := hW.trans (B23.mono hW.size)
  clear B23
  clear p3 p7
  obtain rfl : X = 5 := five_only HX.out.1 HX.out.2.1 HX.out.2.2
  clear HX
  have z24 := zba w23 (.cells #[.bool s23, .slice A23 n23 c23] 27)
  obtain ⟨w24, hw24⟩ : ∃ w', w' = w23.alloc (.cells #[.bool s23, .slice A23 n23 c23] 27) := ⟨_, rfl⟩
  have I24 : Ib w24 w23.heap.size s23 A23 n23 c23 := by rw [hw24]; exact Ib.new _ _ _ _ _ _
  rw [← hw24] at z24
  have HW24 := Lib.hid hw24.symm
  have lw_x : w.heap.size ≤ w23.heap.size := hW.size
  replace px := px.below z24
  replace hW := hW.trans (z24.mono hW.size)
  have H_x := Lib.hid I24
  clear z24 hw24 I24
  go_wp2_with fail
  rw [HW24.out]
  obtain ⟨x1, x2, x3, x4, x5⟩ := H_x.out
  go_region_held3 (fun w' => w'.cell? ⟨w23.heap.size, 0, none⟩ = some (.bool s23) ∧ w'.cell? ⟨w23.heap.size, 1, none⟩ = some (.slice A23 n23 c23)) (go_keep) (first
    | (go_at_call 9; (with_reducible refine (zof_v 5 (by omega) (by omega) _).mono ?_); rintro e w25 ⟨s25, A25, n25, c25, rfl, p25, k25, B25⟩; have Q25 := zup (below_drew _) B25; obtain ⟨xx25, xy25, xf25, xg25, xz25⟩ := H_x.out.below Q25)
    | (go_at_call 12; (with_reducible refine (zsame_yes (px.below Q25).zv p25.zv (by omega) (by omega) rfl).mono ?_); rintro e w26 ⟨rfl, B26⟩; have Q26 := zup Q25 B26; obtain ⟨xx26, xy26, xf26, xg26, xz26⟩ := H_x.out.below Q26)
    | (go_at_call 6; (with_reducible refine (zsign_v (px.below Q26).zv (by omega) (show (5 : Int).sign = 1 from rfl)).mono ?_); rintro e w27 ⟨rfl, B27⟩; have Q27 := zup Q26 B27; obtain ⟨xx27, xy27, xf27, xg27, xz27⟩ := H_x.out.below Q27)
    | fail)
  clear x1 x2 x3 x4 x5 xx25 xy25 xf25 xg25 xz25 xx26 xy26 xf26 xg26 xz26 xx27 xy27 xf27 xg27 xz27
  replace H_x := Lib.hid (H_x.out.below Q27)
  replace px := px.below Q27
  replace hW := hW.trans (Q27.mono hW.size)
  clear B25 Q25 B26 Q26 B27 Q27 p25
  go_wp2_with fail
  go_ret
  exact ⟨rfl, hW⟩
end Go.Proofs.YtbcopicoldnahaaGreat
