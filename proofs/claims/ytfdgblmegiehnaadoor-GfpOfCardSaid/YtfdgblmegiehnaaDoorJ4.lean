/-
  The walk of GfpOf.
-/
import Derived.Test.YtfdgblmegiehnaaDoorGfpC
import Derived.Test.YtfdgblmegiehnaaDoorGfpE
import Derived.Test.YtfdgblmegiehnaaDoorRegZ
import Derived.Test.YtfdgblmegiehnaaDoorModC
/-! The walk of GfpOf. -/
namespace Go.Proofs.YtfdgblmegiehnaaDoor
open Go.RowKit
set_option linter.unusedVariables false
set_option linter.unusedSimpArgs false

theorem zv_of {A : Option Addr} {n c v : Nat} {s : Bool} {w : World} (h : Nv w A n c v) : Zv w s A n c (sg s v) := ⟨v, h, Lib.hid rfl⟩
theorem rest_nat {z : Int} {p : Nat} (hp : 0 < p) : ∃ r : Nat, z % (p : Int) = (r : Int) ∧ r < p := by
  have h1 := Int.emod_nonneg z (show (p : Int) ≠ 0 by omega)
  have h2 := Int.emod_lt_of_pos z (show 0 < (p : Int) by omega)
  exact ⟨(z % (p : Int)).toNat, by omega, by omega⟩
theorem of_add {p X Y S : Nat} {za zb : Int} (hX : za % (p : Int) = (X : Int)) (hY : zb % (p : Int) = (Y : Int)) (hS : (za + zb) % (p : Int) = (S : Int)) : (X + Y) % p = S := by
  have : (((X + Y) % p : Nat) : Int) = (S : Int) := by rw [Int.natCast_emod, Int.natCast_add, ← hX, ← hY, ← Int.add_emod, hS]
  exact Int.ofNat_inj.1 this
theorem of_mul {p X Y S : Nat} {za zb : Int} (hX : za % (p : Int) = (X : Int)) (hY : zb % (p : Int) = (Y : Int)) (hS : (za * zb) % (p : Int) = (S : Int)) : X * Y % p = S := by
  have : ((X * Y % p : Nat) : Int) = (S : Int) := by rw [Int.natCast_emod, Int.natCast_mul, ← hX, ← hY, ← Int.mul_emod, hS]
  exact Int.ofNat_inj.1 this
theorem of_neg {p X S : Nat} {za : Int} (hp : 0 < p) (hX : za % (p : Int) = (X : Int)) (hS : (-za) % (p : Int) = (S : Int)) : (p - X % p) % p = S := by
  have h1 := neg_rest (v := X) hp
  have h2 := Int.emod_add_mul_ediv za (p : Int)
  have : (-za) % (p : Int) = (-(X : Int)) % (p : Int) := by
    conv => lhs; rw [← h2, hX, Int.neg_add, ← Int.mul_neg, Int.add_mul_emod_self_left]
  rw [hS, h1] at this
  exact (Int.ofNat_inj.1 this).symm
theorem of_cong {p X : Nat} {za : Int} (hX : za % (p : Int) = (X : Int)) : (p : Int) ∣ za - (X : Int) := by
  have h2 := Int.emod_add_mul_ediv za (p : Int)
  rw [hX] at h2
  exact ⟨za / (p : Int), by omega⟩
set_option maxRecDepth 100000 in
set_option maxHeartbeats 4000000 in
theorem of_few1 {n m c l d : Nat} {s t : Bool} {A B : Option Addr} {za zb : Int} {w : World} (hn : n < 256) (ha : Zv w s A m c za) (hb : Zv w t B l d zb) (h1 : 4 < m) (m9 : m ≤ 9223372036854775807) (hT : TabHas w) : Calls Tryd.prog 6 #[.int .u8 (n : Int), .agg #[.bool s, .slice A m c], .agg #[.bool t, .slice B l d]] w (fun e w' => e = .returned (.bool true) ∧ Below w.heap.size w w') := by
  have hW := Below.refl w.heap.size w
  obtain ⟨wp0, hwp0⟩ : ∃ xw, xw = w.alloc (.cells #[.bool s, .slice A m c] 41) := ⟨_, rfl⟩
  have zp0 : Below w.heap.size w wp0 := by rw [hwp0]; exact zba _ _
  have sp0 : wp0.heap.size = w.heap.size + 1 := by rw [hwp0, World.size_alloc]
  have Ix : Ib wp0 w.heap.size s A m c := by rw [hwp0]; exact Ib.new _ _ _ _ _ _
  replace ha := ha.below zp0
  replace hb := hb.below zp0
  replace hT := hT.below zp0
  replace hW := hW.trans (zp0.mono hW.size)
  have H_x := Lib.hid Ix
  clear Ix zp0
  obtain ⟨wp1, hwp1⟩ : ∃ xw, xw = wp0.alloc (.cells #[.bool t, .slice B l d] 41) := ⟨_, rfl⟩
  have zp1 : Below wp0.heap.size wp0 wp1 := by rw [hwp1]; exact zba _ _
  have sp1 : wp1.heap.size = w.heap.size + 1 + 1 := by rw [hwp1, World.size_alloc, sp0]
  have Iy : Ib wp1 (w.heap.size + 1) t B l d := by rw [hwp1, ← sp0]; exact Ib.new _ _ _ _ _ _
  replace H_x := Lib.hid (H_x.out.below zp1)
  replace ha := ha.below zp1
  replace hb := hb.below zp1
  replace hT := hT.below zp1
  replace hW := hW.trans (zp1.mono hW.size)
  have H_y := Lib.hid Iy
  clear Iy zp1
  have HW : Hid (((w.alloc (.cells #[.bool s, .slice A m c] 41)).alloc (.cells #[.bool t, .slice B l d] 41)) = wp1) := Lib.hid (by rw [hwp1, hwp0])
  have nn_x_y : ¬ (w.heap.size = (w.heap.size + 1)) := by omega
  have nm_x_y : ¬ ((w.heap.size + 1) = w.heap.size) := by omega
  have lw_x : w.heap.size ≤ w.heap.size := by omega
  have lw_y : w.heap.size ≤ (w.heap.size + 1) := by omega
  clear hwp0 hwp1 sp0 sp1
  go_enter Tryd.func6, Tryd.ntmps6
  obtain ⟨x1, x2, x3, x4, x5⟩ := H_x.out
  obtain ⟨y1, y2, y3, y4, y5⟩ := H_y.out
  go_wp2_with fail
  rw [HW.out]
  clear x1 x2 x3 x4 x5 y1 y2 y3 y4 y5
  refine (gawake_v hT).mono ?_
  rintro e w21 ⟨rfl, B21⟩
  replace H_x := Lib.hid (H_x.out.below B21)
  replace H_y := Lib.hid (H_y.out.below B21)
  replace ha := ha.below B21
  replace hb := hb.below B21
  replace hT := hT.below B21
  replace hW := hW.trans (B21.mono hW.size)
  clear B21
  obtain ⟨x1, x2, x3, x4, x5⟩ := H_x.out
  obtain ⟨y1, y2, y3, y4, y5⟩ := H_y.out
  go_wp2_with fail
  clear x1 x2 x3 x4 x5 y1 y2 y3 y4 y5
  refine (gawake_v hT).mono ?_
  rintro e w22 ⟨rfl, B22⟩
  replace H_x := Lib.hid (H_x.out.below B22)
  replace H_y := Lib.hid (H_y.out.below B22)
  replace ha := ha.below B22
  replace hb := hb.below B22
  replace hT := hT.below B22
  replace hW := hW.trans (B22.mono hW.size)
  clear B22
  obtain ⟨x1, x2, x3, x4, x5⟩ := H_x.out
  obtain ⟨y1, y2, y3, y4, y5⟩ := H_y.out
  go_wp2_with fail
  clear x1 x2 x3 x4 x5 y1 y2 y3 y4 y5
  exact bodyPost_ret (v := .bool true) (by simp [results, Tryd.results6, go_sem]) rfl ⟨rfl, hW⟩
set_option maxRecDepth 100000 in
set_option maxHeartbeats 4000000 in
theorem of_few2 {n m c l d : Nat} {s t : Bool} {A B : Option Addr} {za zb : Int} {w : World} (hn : n < 256) (ha : Zv w s A m c za) (hb : Zv w t B l d zb) (h1 : m ≤ 4) (h2 : 4 < l) (l9 : l ≤ 9223372036854775807) (hT : TabHas w) : Calls Tryd.prog 6 #[.int .u8 (n : Int), .agg #[.bool s, .slice A m c], .agg #[.bool t, .slice B l d]] w (fun e w' => e = .returned (.bool true) ∧ Below w.heap.size w w') := by
  have hW := Below.refl w.heap.size w
  obtain ⟨wp0, hwp0⟩ : ∃ xw, xw = w.alloc (.cells #[.bool s, .slice A m c] 41) := ⟨_, rfl⟩
  have zp0 : Below w.heap.size w wp0 := by rw [hwp0]; exact zba _ _
  have sp0 : wp0.heap.size = w.heap.size + 1 := by rw [hwp0, World.size_alloc]
  have Ix : Ib wp0 w.heap.size s A m c := by rw [hwp0]; exact Ib.new _ _ _ _ _ _
  replace ha := ha.below zp0
  replace hb := hb.below zp0
  replace hT := hT.below zp0
  replace hW := hW.trans (zp0.mono hW.size)
  have H_x := Lib.hid Ix
  clear Ix zp0
  obtain ⟨wp1, hwp1⟩ : ∃ xw, xw = wp0.alloc (.cells #[.bool t, .slice B l d] 41) := ⟨_, rfl⟩
  have zp1 : Below wp0.heap.size wp0 wp1 := by rw [hwp1]; exact zba _ _
  have sp1 : wp1.heap.size = w.heap.size + 1 + 1 := by rw [hwp1, World.size_alloc, sp0]
  have Iy : Ib wp1 (w.heap.size + 1) t B l d := by rw [hwp1, ← sp0]; exact Ib.new _ _ _ _ _ _
  replace H_x := Lib.hid (H_x.out.below zp1)
  replace ha := ha.below zp1
  replace hb := hb.below zp1
  replace hT := hT.below zp1
  replace hW := hW.trans (zp1.mono hW.size)
  have H_y := Lib.hid Iy
  clear Iy zp1
  have HW : Hid (((w.alloc (.cells #[.bool s, .slice A m c] 41)).alloc (.cells #[.bool t, .slice B l d] 41)) = wp1) := Lib.hid (by rw [hwp1, hwp0])
  have nn_x_y : ¬ (w.heap.size = (w.heap.size + 1)) := by omega
  have nm_x_y : ¬ ((w.heap.size + 1) = w.heap.size) := by omega
  have lw_x : w.heap.size ≤ w.heap.size := by omega
  have lw_y : w.heap.size ≤ (w.heap.size + 1) := by omega
  clear hwp0 hwp1 sp0 sp1
  go_enter Tryd.func6, Tryd.ntmps6
  obtain ⟨x1, x2, x3, x4, x5⟩ := H_x.out
  obtain ⟨y1, y2, y3, y4, y5⟩ := H_y.out
  go_wp2_with fail
  rw [HW.out]
  clear x1 x2 x3 x4 x5 y1 y2 y3 y4 y5
  refine (gawake_v hT).mono ?_
  rintro e w21 ⟨rfl, B21⟩
  replace H_x := Lib.hid (H_x.out.below B21)
  replace H_y := Lib.hid (H_y.out.below B21)
  replace ha := ha.below B21
  replace hb := hb.below B21
  replace hT := hT.below B21
  replace hW := hW.trans (B21.mono hW.size)
  clear B21
  obtain ⟨x1, x2, x3, x4, x5⟩ := H_x.out
  obtain ⟨y1, y2, y3, y4, y5⟩ := H_y.out
  go_wp2_with fail
  clear x1 x2 x3 x4 x5 y1 y2 y3 y4 y5
  refine (gawake_v hT).mono ?_
  rintro e w22 ⟨rfl, B22⟩
  replace H_x := Lib.hid (H_x.out.below B22)
  replace H_y := Lib.hid (H_y.out.below B22)
  replace ha := ha.below B22
  replace hb := hb.below B22
  replace hT := hT.below B22
  replace hW := hW.trans (B22.mono hW.size)
  clear B22
  obtain ⟨x1, x2, x3, x4, x5⟩ := H_x.out
  obtain ⟨y1, y2, y3, y4, y5⟩ := H_y.out
  go_wp2_with fail
  clear x1 x2 x3 x4 x5 y1 y2 y3 y4 y5
  exact bodyPost_ret (v := .bool true) (by simp [results, Tryd.results6, go_sem]) rfl ⟨rfl, hW⟩
set_option maxRecDepth 100000 in
set_option maxHeartbeats 4000000 in
theorem of_all {n m c l d : Nat} {s t : Bool} {A B : Option Addr} {za zb : Int} {w : World} (hn : n < 256) (ha : Zv w s A m c za) (hb : Zv w t B l d zb) (h1 : m ≤ 4) (h2' : l ≤ 4) (hT : TabHas w) : Calls Tryd.prog 6 #[.int .u8 (n : Int), .agg #[.bool s, .slice A m c], .agg #[.bool t, .slice B l d]] w (fun e w' => e = .returned (.bool true) ∧ Below w.heap.size w w') := by
  obtain ⟨p, hp0⟩ : ∃ p, pn (n % 12) = p := ⟨_, rfl⟩
  have hp := pn_pr (n % 12) (by omega)
  rw [hp0] at hp
  have hW := Below.refl w.heap.size w
  obtain ⟨wp0, hwp0⟩ : ∃ xw, xw = w.alloc (.cells #[.bool s, .slice A m c] 41) := ⟨_, rfl⟩
  have zp0 : Below w.heap.size w wp0 := by rw [hwp0]; exact zba _ _
  have sp0 : wp0.heap.size = w.heap.size + 1 := by rw [hwp0, World.size_alloc]
  have Ix : Ib wp0 w.heap.size s A m c := by rw [hwp0]; exact Ib.new _ _ _ _ _ _
  replace ha := ha.below zp0
  replace hb := hb.below zp0
  replace hT := hT.below zp0
  replace hW := hW.trans (zp0.mono hW.size)
  have H_x := Lib.hid Ix
  clear Ix zp0
  obtain ⟨wp1, hwp1⟩ : ∃ xw, xw = wp0.alloc (.cells #[.bool t, .slice B l d] 41) := ⟨_, rfl⟩
  have zp1 : Below wp0.heap.size wp0 wp1 := by rw [hwp1]; exact zba _ _
  have sp1 : wp1.heap.size = w.heap.size + 1 + 1 := by rw [hwp1, World.size_alloc, sp0]
  have Iy : Ib wp1 (w.heap.size + 1) t B l d := by rw [hwp1, ← sp0]; exact Ib.new _ _ _ _ _ _
  replace H_x := Lib.hid (H_x.out.below zp1)
  replace ha := ha.below zp1
  replace hb := hb.below zp1
  replace hT := hT.below zp1
  replace hW := hW.trans (zp1.mono hW.size)
  have H_y := Lib.hid Iy
  clear Iy zp1
  have HW : Hid (((w.alloc (.cells #[.bool s, .slice A m c] 41)).alloc (.cells #[.bool t, .slice B l d] 41)) = wp1) := Lib.hid (by rw [hwp1, hwp0])
  have nn_x_y : ¬ (w.heap.size = (w.heap.size + 1)) := by omega
  have nm_x_y : ¬ ((w.heap.size + 1) = w.heap.size) := by omega
  have lw_x : w.heap.size ≤ w.heap.size := by omega
  have lw_y : w.heap.size ≤ (w.heap.size + 1) := by omega
  clear hwp0 hwp1 sp0 sp1
  have h2 : 2 ≤ p := hp.2.2
  have h : p < 2147483648 := hp.2.1
  have HPR := Lib.hid hp.1
  clear hp
  obtain ⟨ab, hab⟩ : ∃ ab, ab + 2 = p := ⟨p - 2, by omega⟩
  have HP := Lib.hid hab
  clear hab
  have HP0 := Lib.hid hp0
  clear hp0
  have hpn : ¬ (p = 0) := by omega
  obtain ⟨X, hX, lX⟩ := rest_nat (z := za) (show 0 < p by omega)
  obtain ⟨Y, hY, lY⟩ := rest_nat (z := zb) (show 0 < p by omega)
  obtain ⟨S, hS, lS⟩ := rest_nat (z := za + zb) (show 0 < p by omega)
  obtain ⟨M, hM, lM⟩ := rest_nat (z := za * zb) (show 0 < p by omega)
  obtain ⟨N, hN, lN⟩ := rest_nat (z := -za) (show 0 < p by omega)
  have HX := Lib.hid hX
  have HY := Lib.hid hY
  have HS := Lib.hid hS
  have HM := Lib.hid hM
  have HN := Lib.hid hN
  have HS2 := Lib.hid (of_add hX hY hS)
  have HM2 := Lib.hid (of_mul hX hY hM)
  have HN2 := Lib.hid (of_neg (by omega) hX hN)
  have HC : Hid (decide ((p : Int) ∣ za - (X : Int)) = true) := Lib.hid (decide_eq_true (of_cong hX))
  have HW1 : Hid (IntKind.i64.wrap (X : Int) = (X : Int)) := Lib.hid (by rw [IntKind.wrap_i64]; omega)
  have HW2 : Hid (IntKind.i64.wrap (p : Int) = (p : Int)) := Lib.hid (by rw [IntKind.wrap_i64]; omega)
  have bX : decide ((X : Int) < (p : Int)) = true := decide_eq_true (by omega)
  have hpz : (p : Int) ≠ 0 := by omega
  clear hX hY hS hM hN
  go_enter Tryd.func6, Tryd.ntmps6
  obtain ⟨x1, x2, x3, x4, x5⟩ := H_x.out
  obtain ⟨y1, y2, y3, y4, y5⟩ := H_y.out
  go_wp2_with fail
  rw [HW.out]
  clear x1 x2 x3 x4 x5 y1 y2 y3 y4 y5
  refine (gawake_v hT).mono ?_
  rintro e w21 ⟨rfl, B21⟩
  replace H_x := Lib.hid (H_x.out.below B21)
  replace H_y := Lib.hid (H_y.out.below B21)
  replace ha := ha.below B21
  replace hb := hb.below B21
  replace hT := hT.below B21
  replace hW := hW.trans (B21.mono hW.size)
  clear B21
  obtain ⟨x1, x2, x3, x4, x5⟩ := H_x.out
  obtain ⟨y1, y2, y3, y4, y5⟩ := H_y.out
  go_wp2_with fail
  clear x1 x2 x3 x4 x5 y1 y2 y3 y4 y5
  refine (rp_calls (p := p) hn HP0.out _).mono ?_
  rintro e w22 ⟨rfl, B22⟩
  replace H_x := Lib.hid (H_x.out.below B22)
  replace H_y := Lib.hid (H_y.out.below B22)
  replace ha := ha.below B22
  replace hb := hb.below B22
  replace hT := hT.below B22
  replace hW := hW.trans (B22.mono hW.size)
  clear B22
  obtain ⟨x1, x2, x3, x4, x5⟩ := H_x.out
  obtain ⟨y1, y2, y3, y4, y5⟩ := H_y.out
  go_wp2_with fail
  clear x1 x2 x3 x4 x5 y1 y2 y3 y4 y5
  refine (fnew_yes (ab := ab) (by omega) hT HPR.out h HP.out).mono ?_
  rintro e w23 ⟨rfl, B23⟩
  replace H_x := Lib.hid (H_x.out.below B23)
  replace H_y := Lib.hid (H_y.out.below B23)
  replace ha := ha.below B23
  replace hb := hb.below B23
  replace hT := hT.below B23
  replace hW := hW.trans (B23.mono hW.size)
  clear B23
  have O_x := H_x
  have O_y := H_y
  obtain ⟨w24, hw24⟩ : ∃ xw, xw = w23.alloc (.cells #[.int .u64 (ab : Int)] 25) := ⟨_, rfl⟩
  have z24 : Below w23.heap.size w23 w24 := by rw [hw24]; exact zba _ _
  have HW24 : Hid (w23.alloc (.cells #[.int .u64 (ab : Int)] 25) = w24) := Lib.hid hw24.symm
  have nn_x_f : ¬ (w.heap.size = w23.heap.size) := by have := H_x.out.2.2.2.2; omega
  have nm_x_f : ¬ (w23.heap.size = w.heap.size) := by omega
  have nn_y_f : ¬ ((w.heap.size + 1) = w23.heap.size) := by have := H_y.out.2.2.2.2; omega
  have nm_y_f : ¬ (w23.heap.size = (w.heap.size + 1)) := by omega
  have lw_f : w.heap.size ≤ w23.heap.size := by have := hW.size; omega
  replace H_x := Lib.hid (H_x.out.below z24)
  replace H_y := Lib.hid (H_y.out.below z24)
  replace ha := ha.below z24
  replace hb := hb.below z24
  replace hT := hT.below z24
  replace hW := hW.trans (z24.mono hW.size)
  have H_f : Hid (Fb w24 w23.heap.size ab) := Lib.hid (by rw [hw24]; exact Fb.new _ _ _)
  clear z24 hw24
  obtain ⟨x1, x2, x3, x4, x5⟩ := O_x.out
  obtain ⟨y1, y2, y3, y4, y5⟩ := O_y.out
  go_wp2_with fail
  rw [HW24.out]
  clear x1 x2 x3 x4 x5 y1 y2 y3 y4 y5 O_x O_y
  refine region8 [] 8 [IsK (.agg #[.int .u64 (ab : Int)]), IsK (.agg #[.bool s, .slice A m c]), IsK (.int .u64 (X : Int)), IsK (.agg #[.int .u64 (ab : Int)]), IsK (.agg #[.bool t, .slice B l d]), IsK (.int .u64 (Y : Int)), IsK (.int .u64 (X : Int)), IsK (.int .u64 (Y : Int))] (fun _ _ d _ _ h => by cases d <;> exact h) (by kernel_rfl) (by kernel_rfl) (by kernel_rfl) ⟨stay_k _, stay_k _, stay_k _, stay_k _, stay_k _, stay_k _, stay_k _, stay_k _, trivial⟩ ?_ ?_
  · refine HopAll.cons rfl ?_ (HopAll.cons rfl ?_ (HopAll.cons rfl ?_ (HopAll.cons rfl ?_ (HopAll.cons rfl ?_ (HopAll.cons rfl ?_ (HopAll.cons rfl ?_ (HopAll.cons rfl ?_ HopAll.nil)))))))
    · intro a w1 hB ho hp K hK
      have e8 : a.eval (.tmp 8) = (.pointer (some ⟨w23.heap.size, 0, none⟩)) := ho 8 (by kernel_rfl)
      obtain ⟨u1, u2, u3⟩ := H_f.out.below hB
      exact hop_load (wanted_none rfl) rfl e8 (run_ldf u1) (hK _ _ rfl (Below.refl _ _))
    · intro a w1 hB ho hp K hK
      have e4 : a.eval (.tmp 4) = (.pointer (some ⟨w.heap.size, 0, none⟩)) := ho 4 (by kernel_rfl)
      obtain ⟨u1, u2, u3, u4, u5⟩ := H_x.out.below hB
      exact hop_load (wanted_none rfl) rfl e4 (run_ldz u1 u2) (hK _ _ rfl (Below.refl _ _))
    · intro a w1 hB ho hp K hK
      have e34 : a.eval (.tmp 34) = (.agg #[.int .u64 (ab : Int)]) := hp 0 34 (by kernel_rfl)
      have e35 : a.eval (.tmp 35) = (.agg #[.bool s, .slice A m c]) := hp 1 35 (by kernel_rfl)
      refine hop_call (wanted_none rfl) rfl (args := #[(.agg #[.int .u64 (ab : Int)]), (.agg #[.bool s, .slice A m c])]) (by simp only [List.map_toArray, List.map_cons, List.map_nil, eval_const, e34, e35]) (ent7 (by kernel_rfl) _ _) (fof_v HP.out h (ha.below hB) HX.out) ?_
      rintro e w2 ⟨rfl, B⟩
      exact ⟨_, rfl, hK _ _ rfl B⟩
    · intro a w1 hB ho hp K hK
      have e8 : a.eval (.tmp 8) = (.pointer (some ⟨w23.heap.size, 0, none⟩)) := ho 8 (by kernel_rfl)
      obtain ⟨u1, u2, u3⟩ := H_f.out.below hB
      exact hop_load (wanted_none rfl) rfl e8 (run_ldf u1) (hK _ _ rfl (Below.refl _ _))
    · intro a w1 hB ho hp K hK
      have e5 : a.eval (.tmp 5) = (.pointer (some ⟨(w.heap.size + 1), 0, none⟩)) := ho 5 (by kernel_rfl)
      obtain ⟨u1, u2, u3, u4, u5⟩ := H_y.out.below hB
      exact hop_load (wanted_none rfl) rfl e5 (run_ldz u1 u2) (hK _ _ rfl (Below.refl _ _))
    · intro a w1 hB ho hp K hK
      have e37 : a.eval (.tmp 37) = (.agg #[.int .u64 (ab : Int)]) := hp 3 37 (by kernel_rfl)
      have e38 : a.eval (.tmp 38) = (.agg #[.bool t, .slice B l d]) := hp 4 38 (by kernel_rfl)
      refine hop_call (wanted_none rfl) rfl (args := #[(.agg #[.int .u64 (ab : Int)]), (.agg #[.bool t, .slice B l d])]) (by simp only [List.map_toArray, List.map_cons, List.map_nil, eval_const, e37, e38]) (ent7 (by kernel_rfl) _ _) (fof_v HP.out h (hb.below hB) HY.out) ?_
      rintro e w2 ⟨rfl, B⟩
      exact ⟨_, rfl, hK _ _ rfl B⟩
    · intro a w1 hB ho hp K hK
      have e36 : a.eval (.tmp 36) = (.int .u64 (X : Int)) := hp 2 36 (by kernel_rfl)
      refine hop_val (wanted_none rfl) ?_ (hK (.int .u64 (X : Int)) _ rfl (Below.refl _ _))
      unfold execOp; simp only [eval_const, e36]; simp [go_sem]
    · intro a w1 hB ho hp K hK
      have e39 : a.eval (.tmp 39) = (.int .u64 (Y : Int)) := hp 5 39 (by kernel_rfl)
      refine hop_val (wanted_none rfl) ?_ (hK (.int .u64 (Y : Int)) _ rfl (Below.refl _ _))
      unfold execOp; simp only [eval_const, e39]; simp [go_sem]
  intro w25 B25
  refine EndAll.one rfl fun vv hv => ?_
  obtain rfl : vv = (.agg #[.int .u64 (ab : Int)]) := hv
  refine EndAll.one rfl fun vv hv => ?_
  obtain rfl : vv = (.agg #[.bool s, .slice A m c]) := hv
  refine EndAll.one rfl fun vv hv => ?_
  obtain rfl : vv = (.int .u64 (X : Int)) := hv
  refine EndAll.one rfl fun vv hv => ?_
  obtain rfl : vv = (.agg #[.int .u64 (ab : Int)]) := hv
  refine EndAll.one rfl fun vv hv => ?_
  obtain rfl : vv = (.agg #[.bool t, .slice B l d]) := hv
  refine EndAll.one rfl fun vv hv => ?_
  obtain rfl : vv = (.int .u64 (Y : Int)) := hv
  refine EndAll.one rfl fun vv hv => ?_
  obtain rfl : vv = (.int .u64 (X : Int)) := hv
  refine EndAll.one rfl fun vv hv => ?_
  obtain rfl : vv = (.int .u64 (Y : Int)) := hv
  refine EndAll.nil (l := []) rfl ?_
  simp only [Act.put, List.setIfInBounds_toArray, List.set_cons_zero, List.set_cons_succ]
  replace H_x := Lib.hid (H_x.out.below B25)
  replace H_y := Lib.hid (H_y.out.below B25)
  replace H_f := Lib.hid (H_f.out.below B25)
  replace ha := ha.below B25
  replace hb := hb.below B25
  replace hT := hT.below B25
  replace hW := hW.trans (B25.mono hW.size)
  clear B25
  obtain ⟨x1, x2, x3, x4, x5⟩ := H_x.out
  obtain ⟨y1, y2, y3, y4, y5⟩ := H_y.out
  obtain ⟨f1, f2, f3⟩ := H_f.out
  go_wp2_with fail
  clear x1 x2 x3 x4 x5 y1 y2 y3 y4 y5 f1 f2 f3
  refine region8 [] 48 [IsK (.int .u64 (X : Int)), IsK (.int .u64 (p : Int)), IsK (.bool true), IsK (.bool true), IsK (.agg #[.bool s, .slice A m c]), IsK (.int .u64 (X : Int)), IsK (.int .i64 (X : Int)), IsC (X : Int) 1, IsK (.int .u64 (p : Int)), IsK (.int .i64 (p : Int)), IsC (p : Int) 1, IsK (.bool true), IsK (.bool true), IsK (.bool true), IsK (.agg #[.int .u64 (ab : Int)]), IsK (.agg #[.bool s, .slice A m c]), IsK (.agg #[.bool t, .slice B l d]), IsC (za + zb) 5, IsK (.int .u64 (S : Int)), IsK (.agg #[.int .u64 (ab : Int)]), IsK (.int .u64 (X : Int)), IsK (.int .u64 (Y : Int)), IsK (.int .u64 (S : Int)), IsK (.bool true), IsK (.bool true), IsK (.bool true), IsK (.agg #[.int .u64 (ab : Int)]), IsK (.agg #[.bool s, .slice A m c]), IsK (.agg #[.bool t, .slice B l d]), IsC (za * zb) 8, IsK (.int .u64 (M : Int)), IsK (.agg #[.int .u64 (ab : Int)]), IsK (.int .u64 (X : Int)), IsK (.int .u64 (Y : Int)), IsK (.int .u64 (M : Int)), IsK (.bool true), IsK (.bool true), IsK (.bool true), IsK (.agg #[.int .u64 (ab : Int)]), IsK (.agg #[.bool s, .slice A m c]), IsC (-za) 4, IsK (.int .u64 (N : Int)), IsK (.agg #[.int .u64 (ab : Int)]), IsK (.int .u64 (X : Int)), IsK (.int .u64 (N : Int)), IsK (.bool true), IsK (.bool true), IsK (.bool true)] (fun _ _ d _ _ h => by cases d <;> exact h) (by kernel_rfl) (by kernel_rfl) (by kernel_rfl) ⟨stay_k _, stay_k _, stay_k _, stay_k _, stay_k _, stay_k _, stay_k _, stay_c _ _, stay_k _, stay_k _, stay_c _ _, stay_k _, stay_k _, stay_k _, stay_k _, stay_k _, stay_k _, stay_c _ _, stay_k _, stay_k _, stay_k _, stay_k _, stay_k _, stay_k _, stay_k _, stay_k _, stay_k _, stay_k _, stay_k _, stay_c _ _, stay_k _, stay_k _, stay_k _, stay_k _, stay_k _, stay_k _, stay_k _, stay_k _, stay_k _, stay_k _, stay_c _ _, stay_k _, stay_k _, stay_k _, stay_k _, stay_k _, stay_k _, stay_k _, trivial⟩ ?_ ?_
  · refine HopAll.cons rfl ?_ (HopAll.cons rfl ?_ (HopAll.cons rfl ?_ (HopAll.cons rfl ?_ (HopAll.cons rfl ?_ (HopAll.cons rfl ?_ (HopAll.cons rfl ?_ (HopAll.cons rfl ?_ (HopAll.cons rfl ?_ (HopAll.cons rfl ?_ (HopAll.cons rfl ?_ (HopAll.cons rfl ?_ (HopAll.cons rfl ?_ (HopAll.cons rfl ?_ (HopAll.cons rfl ?_ (HopAll.cons rfl ?_ (HopAll.cons rfl ?_ (HopAll.cons rfl ?_ (HopAll.cons rfl ?_ (HopAll.cons rfl ?_ (HopAll.cons rfl ?_ (HopAll.cons rfl ?_ (HopAll.cons rfl ?_ (HopAll.cons rfl ?_ (HopAll.cons rfl ?_ (HopAll.cons rfl ?_ (HopAll.cons rfl ?_ (HopAll.cons rfl ?_ (HopAll.cons rfl ?_ (HopAll.cons rfl ?_ (HopAll.cons rfl ?_ (HopAll.cons rfl ?_ (HopAll.cons rfl ?_ (HopAll.cons rfl ?_ (HopAll.cons rfl ?_ (HopAll.cons rfl ?_ (HopAll.cons rfl ?_ (HopAll.cons rfl ?_ (HopAll.cons rfl ?_ (HopAll.cons rfl ?_ (HopAll.cons rfl ?_ (HopAll.cons rfl ?_ (HopAll.cons rfl ?_ (HopAll.cons rfl ?_ (HopAll.cons rfl ?_ (HopAll.cons rfl ?_ (HopAll.cons rfl ?_ (HopAll.cons rfl ?_ HopAll.nil)))))))))))))))))))))))))))))))))))))))))))))))
    · intro a w1 hB ho hp K hK
      have e10 : a.eval (.tmp 10) = (.int .u64 (X : Int)) := ho 10 (by kernel_rfl)
      refine hop_val (wanted_none rfl) ?_ (hK (.int .u64 (X : Int)) _ rfl (Below.refl _ _))
      unfold execOp; simp only [eval_const, e10]; simp [go_sem]
    · intro a w1 hB ho hp K hK
      have e7 : a.eval (.tmp 7) = (.int .u64 (p : Int)) := ho 7 (by kernel_rfl)
      refine hop_val (wanted_none rfl) ?_ (hK (.int .u64 (p : Int)) _ rfl (Below.refl _ _))
      unfold execOp; simp only [eval_const, e7]; simp [go_sem]
    · intro a w1 hB ho hp K hK
      have e40 : a.eval (.tmp 40) = (.int .u64 (X : Int)) := hp 0 40 (by kernel_rfl)
      have e41 : a.eval (.tmp 41) = (.int .u64 (p : Int)) := hp 1 41 (by kernel_rfl)
      refine hop_val (wanted_none rfl) ?_ (hK (.bool true) _ rfl (Below.refl _ _))
      unfold execOp; simp only [eval_const, e40, e41]; simp [go_sem, lX]
    · intro a w1 hB ho hp K hK
      have e42 : a.eval (.tmp 42) = (.bool true) := hp 2 42 (by kernel_rfl)
      refine hop_val (wanted_none rfl) ?_ (hK (.bool true) _ rfl (Below.refl _ _))
      unfold execOp; simp only [eval_const, e42]; simp [go_sem]
    · intro a w1 hB ho hp K hK
      have e4 : a.eval (.tmp 4) = (.pointer (some ⟨w.heap.size, 0, none⟩)) := ho 4 (by kernel_rfl)
      obtain ⟨u1, u2, u3, u4, u5⟩ := H_x.out.below hB
      exact hop_load (wanted_at rfl (j := 3) (d := 43) (b := true) (by kernel_rfl) (hp 3 43 (by kernel_rfl))) rfl e4 (run_ldz u1 u2) (hK _ _ rfl (Below.refl _ _))
    · intro a w1 hB ho hp K hK
      have e10 : a.eval (.tmp 10) = (.int .u64 (X : Int)) := ho 10 (by kernel_rfl)
      refine hop_val (wanted_at rfl (j := 3) (d := 43) (b := true) (by kernel_rfl) (hp 3 43 (by kernel_rfl))) ?_ (hK (.int .u64 (X : Int)) _ rfl (Below.refl _ _))
      unfold execOp; simp only [eval_const, e10]; simp [go_sem]
    · intro a w1 hB ho hp K hK
      have e45 : a.eval (.tmp 45) = (.int .u64 (X : Int)) := hp 5 45 (by kernel_rfl)
      refine hop_val (wanted_at rfl (j := 3) (d := 43) (b := true) (by kernel_rfl) (hp 3 43 (by kernel_rfl))) ?_ (hK (.int .i64 (X : Int)) _ rfl (Below.refl _ _))
      unfold execOp; simp only [eval_const, e45]; simp [go_sem, HW1.out]
    · intro a w1 hB ho hp K hK
      have e46 : a.eval (.tmp 46) = (.int .i64 (X : Int)) := hp 6 46 (by kernel_rfl)
      refine hop_call (wanted_at rfl (j := 3) (d := 43) (b := true) (by kernel_rfl) (hp 3 43 (by kernel_rfl))) rfl (args := #[(.int .i64 (X : Int))]) (by simp only [List.map_toArray, List.map_cons, List.map_nil, eval_const, e46]) (ent7 (by kernel_rfl) _ _) (zof_v (X : Int) (by omega) (by omega) _) ?_
      rintro e w2 ⟨s, A, n, c, rfl, p, k, B⟩
      exact ⟨_, rfl, hK _ _ ⟨s, A, n, c, rfl, p, by omega⟩ B⟩
    · intro a w1 hB ho hp K hK
      have e7 : a.eval (.tmp 7) = (.int .u64 (p : Int)) := ho 7 (by kernel_rfl)
      refine hop_val (wanted_at rfl (j := 3) (d := 43) (b := true) (by kernel_rfl) (hp 3 43 (by kernel_rfl))) ?_ (hK (.int .u64 (p : Int)) _ rfl (Below.refl _ _))
      unfold execOp; simp only [eval_const, e7]; simp [go_sem]
    · intro a w1 hB ho hp K hK
      have e48 : a.eval (.tmp 48) = (.int .u64 (p : Int)) := hp 8 48 (by kernel_rfl)
      refine hop_val (wanted_at rfl (j := 3) (d := 43) (b := true) (by kernel_rfl) (hp 3 43 (by kernel_rfl))) ?_ (hK (.int .i64 (p : Int)) _ rfl (Below.refl _ _))
      unfold execOp; simp only [eval_const, e48]; simp [go_sem, HW2.out]
    · intro a w1 hB ho hp K hK
      have e49 : a.eval (.tmp 49) = (.int .i64 (p : Int)) := hp 9 49 (by kernel_rfl)
      refine hop_call (wanted_at rfl (j := 3) (d := 43) (b := true) (by kernel_rfl) (hp 3 43 (by kernel_rfl))) rfl (args := #[(.int .i64 (p : Int))]) (by simp only [List.map_toArray, List.map_cons, List.map_nil, eval_const, e49]) (ent7 (by kernel_rfl) _ _) (zof_v (p : Int) (by omega) (by omega) _) ?_
      rintro e w2 ⟨s, A, n, c, rfl, p, k, B⟩
      exact ⟨_, rfl, hK _ _ ⟨s, A, n, c, rfl, p, by omega⟩ B⟩
    · intro a w1 hB ho hp K hK
      have e44 : a.eval (.tmp 44) = (.agg #[.bool s, .slice A m c]) := hp 4 44 (by kernel_rfl)
      obtain ⟨s47, A47, n47, c47, e47, p47, k47⟩ : IsC (X : Int) 1 (a.eval (.tmp 47)) w1 := hp 7 47 (by kernel_rfl)
      obtain ⟨s50, A50, n50, c50, e50, p50, k50⟩ : IsC (p : Int) 1 (a.eval (.tmp 50)) w1 := hp 10 50 (by kernel_rfl)
      refine hop_call (wanted_at rfl (j := 3) (d := 43) (b := true) (by kernel_rfl) (hp 3 43 (by kernel_rfl))) rfl (args := #[(.agg #[.bool s, .slice A m c]), (.agg #[.bool s47, .slice A47 n47 c47]), (.agg #[.bool s50, .slice A50 n50 c50])]) (by simp only [List.map_toArray, List.map_cons, List.map_nil, eval_const, e44, e47, e50]) (ent7 (by kernel_rfl) _ _) (rcong_v (ha.below hB) p47.zv p50.zv (by omega) (by omega) (by omega) hpz HC.out) ?_
      rintro e w2 ⟨rfl, B⟩
      exact ⟨_, rfl, hK _ _ rfl B⟩
    · intro a w1 hB ho hp K hK
      have e43 : a.eval (.tmp 43) = (.bool true) := hp 3 43 (by kernel_rfl)
      have e51 : a.eval (.tmp 51) = (.bool true) := hp 11 51 (by kernel_rfl)
      refine hop_val (wanted_none rfl) ?_ (hK (.bool true) _ rfl (Below.refl _ _))
      unfold execOp; simp only [eval_const, e43, e51]; simp [go_sem]
    · intro a w1 hB ho hp K hK
      have e52 : a.eval (.tmp 52) = (.bool true) := hp 12 52 (by kernel_rfl)
      refine hop_val (wanted_none rfl) ?_ (hK (.bool true) _ rfl (Below.refl _ _))
      unfold execOp; simp only [eval_const, e52]; simp [go_sem]
    · intro a w1 hB ho hp K hK
      have e8 : a.eval (.tmp 8) = (.pointer (some ⟨w23.heap.size, 0, none⟩)) := ho 8 (by kernel_rfl)
      obtain ⟨u1, u2, u3⟩ := H_f.out.below hB
      exact hop_load (wanted_at rfl (j := 13) (d := 53) (b := true) (by kernel_rfl) (hp 13 53 (by kernel_rfl))) rfl e8 (run_ldf u1) (hK _ _ rfl (Below.refl _ _))
    · intro a w1 hB ho hp K hK
      have e4 : a.eval (.tmp 4) = (.pointer (some ⟨w.heap.size, 0, none⟩)) := ho 4 (by kernel_rfl)
      obtain ⟨u1, u2, u3, u4, u5⟩ := H_x.out.below hB
      exact hop_load (wanted_at rfl (j := 13) (d := 53) (b := true) (by kernel_rfl) (hp 13 53 (by kernel_rfl))) rfl e4 (run_ldz u1 u2) (hK _ _ rfl (Below.refl _ _))
    · intro a w1 hB ho hp K hK
      have e5 : a.eval (.tmp 5) = (.pointer (some ⟨(w.heap.size + 1), 0, none⟩)) := ho 5 (by kernel_rfl)
      obtain ⟨u1, u2, u3, u4, u5⟩ := H_y.out.below hB
      exact hop_load (wanted_at rfl (j := 13) (d := 53) (b := true) (by kernel_rfl) (hp 13 53 (by kernel_rfl))) rfl e5 (run_ldz u1 u2) (hK _ _ rfl (Below.refl _ _))
    · intro a w1 hB ho hp K hK
      have e55 : a.eval (.tmp 55) = (.agg #[.bool s, .slice A m c]) := hp 15 55 (by kernel_rfl)
      have e56 : a.eval (.tmp 56) = (.agg #[.bool t, .slice B l d]) := hp 16 56 (by kernel_rfl)
      refine hop_call (wanted_at rfl (j := 13) (d := 53) (b := true) (by kernel_rfl) (hp 13 53 (by kernel_rfl))) rfl (args := #[(.agg #[.bool s, .slice A m c]), (.agg #[.bool t, .slice B l d])]) (by simp only [List.map_toArray, List.map_cons, List.map_nil, eval_const, e55, e56]) (ent7 (by kernel_rfl) _ _) (zadd_v (ha.below hB) (hb.below hB) (by omega) (by omega)) ?_
      rintro e w2 ⟨s, A, n, c, rfl, p, k, B⟩
      exact ⟨_, rfl, hK _ _ ⟨s, A, n, c, rfl, p, by omega⟩ B⟩
    · intro a w1 hB ho hp K hK
      have e54 : a.eval (.tmp 54) = (.agg #[.int .u64 (ab : Int)]) := hp 14 54 (by kernel_rfl)
      obtain ⟨s57, A57, n57, c57, e57, p57, k57⟩ : IsC (za + zb) 5 (a.eval (.tmp 57)) w1 := hp 17 57 (by kernel_rfl)
      refine hop_call (wanted_at rfl (j := 13) (d := 53) (b := true) (by kernel_rfl) (hp 13 53 (by kernel_rfl))) rfl (args := #[(.agg #[.int .u64 (ab : Int)]), (.agg #[.bool s57, .slice A57 n57 c57])]) (by simp only [List.map_toArray, List.map_cons, List.map_nil, eval_const, e54, e57]) (ent7 (by kernel_rfl) _ _) (fof_v HP.out h p57.zv HS.out) ?_
      rintro e w2 ⟨rfl, B⟩
      exact ⟨_, rfl, hK _ _ rfl B⟩
    · intro a w1 hB ho hp K hK
      have e8 : a.eval (.tmp 8) = (.pointer (some ⟨w23.heap.size, 0, none⟩)) := ho 8 (by kernel_rfl)
      obtain ⟨u1, u2, u3⟩ := H_f.out.below hB
      exact hop_load (wanted_at rfl (j := 13) (d := 53) (b := true) (by kernel_rfl) (hp 13 53 (by kernel_rfl))) rfl e8 (run_ldf u1) (hK _ _ rfl (Below.refl _ _))
    · intro a w1 hB ho hp K hK
      have e10 : a.eval (.tmp 10) = (.int .u64 (X : Int)) := ho 10 (by kernel_rfl)
      refine hop_val (wanted_at rfl (j := 13) (d := 53) (b := true) (by kernel_rfl) (hp 13 53 (by kernel_rfl))) ?_ (hK (.int .u64 (X : Int)) _ rfl (Below.refl _ _))
      unfold execOp; simp only [eval_const, e10]; simp [go_sem]
    · intro a w1 hB ho hp K hK
      have e11 : a.eval (.tmp 11) = (.int .u64 (Y : Int)) := ho 11 (by kernel_rfl)
      refine hop_val (wanted_at rfl (j := 13) (d := 53) (b := true) (by kernel_rfl) (hp 13 53 (by kernel_rfl))) ?_ (hK (.int .u64 (Y : Int)) _ rfl (Below.refl _ _))
      unfold execOp; simp only [eval_const, e11]; simp [go_sem]
    · intro a w1 hB ho hp K hK
      have e59 : a.eval (.tmp 59) = (.agg #[.int .u64 (ab : Int)]) := hp 19 59 (by kernel_rfl)
      have e60 : a.eval (.tmp 60) = (.int .u64 (X : Int)) := hp 20 60 (by kernel_rfl)
      have e61 : a.eval (.tmp 61) = (.int .u64 (Y : Int)) := hp 21 61 (by kernel_rfl)
      refine hop_call (wanted_at rfl (j := 13) (d := 53) (b := true) (by kernel_rfl) (hp 13 53 (by kernel_rfl))) rfl (args := #[(.agg #[.int .u64 (ab : Int)]), (.int .u64 (X : Int)), (.int .u64 (Y : Int))]) (by simp only [List.map_toArray, List.map_cons, List.map_nil, eval_const, e59, e60, e61]) (ent7 (by kernel_rfl) _ _) (fadd_v HP.out h (by omega) (by omega) HS2.out _) ?_
      rintro e w2 ⟨rfl, B⟩
      exact ⟨_, rfl, hK _ _ rfl B⟩
    · intro a w1 hB ho hp K hK
      have e58 : a.eval (.tmp 58) = (.int .u64 (S : Int)) := hp 18 58 (by kernel_rfl)
      have e62 : a.eval (.tmp 62) = (.int .u64 (S : Int)) := hp 22 62 (by kernel_rfl)
      refine hop_val (wanted_at rfl (j := 13) (d := 53) (b := true) (by kernel_rfl) (hp 13 53 (by kernel_rfl))) ?_ (hK (.bool true) _ rfl (Below.refl _ _))
      unfold execOp; simp only [eval_const, e58, e62]; simp [go_sem]
    · intro a w1 hB ho hp K hK
      have e53 : a.eval (.tmp 53) = (.bool true) := hp 13 53 (by kernel_rfl)
      have e63 : a.eval (.tmp 63) = (.bool true) := hp 23 63 (by kernel_rfl)
      refine hop_val (wanted_none rfl) ?_ (hK (.bool true) _ rfl (Below.refl _ _))
      unfold execOp; simp only [eval_const, e53, e63]; simp [go_sem]
    · intro a w1 hB ho hp K hK
      have e64 : a.eval (.tmp 64) = (.bool true) := hp 24 64 (by kernel_rfl)
      refine hop_val (wanted_none rfl) ?_ (hK (.bool true) _ rfl (Below.refl _ _))
      unfold execOp; simp only [eval_const, e64]; simp [go_sem]
    · intro a w1 hB ho hp K hK
      have e8 : a.eval (.tmp 8) = (.pointer (some ⟨w23.heap.size, 0, none⟩)) := ho 8 (by kernel_rfl)
      obtain ⟨u1, u2, u3⟩ := H_f.out.below hB
      exact hop_load (wanted_at rfl (j := 25) (d := 65) (b := true) (by kernel_rfl) (hp 25 65 (by kernel_rfl))) rfl e8 (run_ldf u1) (hK _ _ rfl (Below.refl _ _))
    · intro a w1 hB ho hp K hK
      have e4 : a.eval (.tmp 4) = (.pointer (some ⟨w.heap.size, 0, none⟩)) := ho 4 (by kernel_rfl)
      obtain ⟨u1, u2, u3, u4, u5⟩ := H_x.out.below hB
      exact hop_load (wanted_at rfl (j := 25) (d := 65) (b := true) (by kernel_rfl) (hp 25 65 (by kernel_rfl))) rfl e4 (run_ldz u1 u2) (hK _ _ rfl (Below.refl _ _))
    · intro a w1 hB ho hp K hK
      have e5 : a.eval (.tmp 5) = (.pointer (some ⟨(w.heap.size + 1), 0, none⟩)) := ho 5 (by kernel_rfl)
      obtain ⟨u1, u2, u3, u4, u5⟩ := H_y.out.below hB
      exact hop_load (wanted_at rfl (j := 25) (d := 65) (b := true) (by kernel_rfl) (hp 25 65 (by kernel_rfl))) rfl e5 (run_ldz u1 u2) (hK _ _ rfl (Below.refl _ _))
    · intro a w1 hB ho hp K hK
      have e67 : a.eval (.tmp 67) = (.agg #[.bool s, .slice A m c]) := hp 27 67 (by kernel_rfl)
      have e68 : a.eval (.tmp 68) = (.agg #[.bool t, .slice B l d]) := hp 28 68 (by kernel_rfl)
      refine hop_call (wanted_at rfl (j := 25) (d := 65) (b := true) (by kernel_rfl) (hp 25 65 (by kernel_rfl))) rfl (args := #[(.agg #[.bool s, .slice A m c]), (.agg #[.bool t, .slice B l d])]) (by simp only [List.map_toArray, List.map_cons, List.map_nil, eval_const, e67, e68]) (ent7 (by kernel_rfl) _ _) (zmul_v (ha.below hB) (hb.below hB) (by omega) (by omega)) ?_
      rintro e w2 ⟨s, A, n, c, rfl, p, k, B⟩
      exact ⟨_, rfl, hK _ _ ⟨s, A, n, c, rfl, p, by omega⟩ B⟩
    · intro a w1 hB ho hp K hK
      have e66 : a.eval (.tmp 66) = (.agg #[.int .u64 (ab : Int)]) := hp 26 66 (by kernel_rfl)
      obtain ⟨s69, A69, n69, c69, e69, p69, k69⟩ : IsC (za * zb) 8 (a.eval (.tmp 69)) w1 := hp 29 69 (by kernel_rfl)
      refine hop_call (wanted_at rfl (j := 25) (d := 65) (b := true) (by kernel_rfl) (hp 25 65 (by kernel_rfl))) rfl (args := #[(.agg #[.int .u64 (ab : Int)]), (.agg #[.bool s69, .slice A69 n69 c69])]) (by simp only [List.map_toArray, List.map_cons, List.map_nil, eval_const, e66, e69]) (ent7 (by kernel_rfl) _ _) (fof_v HP.out h p69.zv HM.out) ?_
      rintro e w2 ⟨rfl, B⟩
      exact ⟨_, rfl, hK _ _ rfl B⟩
    · intro a w1 hB ho hp K hK
      have e8 : a.eval (.tmp 8) = (.pointer (some ⟨w23.heap.size, 0, none⟩)) := ho 8 (by kernel_rfl)
      obtain ⟨u1, u2, u3⟩ := H_f.out.below hB
      exact hop_load (wanted_at rfl (j := 25) (d := 65) (b := true) (by kernel_rfl) (hp 25 65 (by kernel_rfl))) rfl e8 (run_ldf u1) (hK _ _ rfl (Below.refl _ _))
    · intro a w1 hB ho hp K hK
      have e10 : a.eval (.tmp 10) = (.int .u64 (X : Int)) := ho 10 (by kernel_rfl)
      refine hop_val (wanted_at rfl (j := 25) (d := 65) (b := true) (by kernel_rfl) (hp 25 65 (by kernel_rfl))) ?_ (hK (.int .u64 (X : Int)) _ rfl (Below.refl _ _))
      unfold execOp; simp only [eval_const, e10]; simp [go_sem]
    · intro a w1 hB ho hp K hK
      have e11 : a.eval (.tmp 11) = (.int .u64 (Y : Int)) := ho 11 (by kernel_rfl)
      refine hop_val (wanted_at rfl (j := 25) (d := 65) (b := true) (by kernel_rfl) (hp 25 65 (by kernel_rfl))) ?_ (hK (.int .u64 (Y : Int)) _ rfl (Below.refl _ _))
      unfold execOp; simp only [eval_const, e11]; simp [go_sem]
    · intro a w1 hB ho hp K hK
      have e71 : a.eval (.tmp 71) = (.agg #[.int .u64 (ab : Int)]) := hp 31 71 (by kernel_rfl)
      have e72 : a.eval (.tmp 72) = (.int .u64 (X : Int)) := hp 32 72 (by kernel_rfl)
      have e73 : a.eval (.tmp 73) = (.int .u64 (Y : Int)) := hp 33 73 (by kernel_rfl)
      refine hop_call (wanted_at rfl (j := 25) (d := 65) (b := true) (by kernel_rfl) (hp 25 65 (by kernel_rfl))) rfl (args := #[(.agg #[.int .u64 (ab : Int)]), (.int .u64 (X : Int)), (.int .u64 (Y : Int))]) (by simp only [List.map_toArray, List.map_cons, List.map_nil, eval_const, e71, e72, e73]) (ent7 (by kernel_rfl) _ _) (fmul_v HP.out h (by omega) (by omega) HM2.out _) ?_
      rintro e w2 ⟨rfl, B⟩
      exact ⟨_, rfl, hK _ _ rfl B⟩
    · intro a w1 hB ho hp K hK
      have e70 : a.eval (.tmp 70) = (.int .u64 (M : Int)) := hp 30 70 (by kernel_rfl)
      have e74 : a.eval (.tmp 74) = (.int .u64 (M : Int)) := hp 34 74 (by kernel_rfl)
      refine hop_val (wanted_at rfl (j := 25) (d := 65) (b := true) (by kernel_rfl) (hp 25 65 (by kernel_rfl))) ?_ (hK (.bool true) _ rfl (Below.refl _ _))
      unfold execOp; simp only [eval_const, e70, e74]; simp [go_sem]
    · intro a w1 hB ho hp K hK
      have e65 : a.eval (.tmp 65) = (.bool true) := hp 25 65 (by kernel_rfl)
      have e75 : a.eval (.tmp 75) = (.bool true) := hp 35 75 (by kernel_rfl)
      refine hop_val (wanted_none rfl) ?_ (hK (.bool true) _ rfl (Below.refl _ _))
      unfold execOp; simp only [eval_const, e65, e75]; simp [go_sem]
    · intro a w1 hB ho hp K hK
      have e76 : a.eval (.tmp 76) = (.bool true) := hp 36 76 (by kernel_rfl)
      refine hop_val (wanted_none rfl) ?_ (hK (.bool true) _ rfl (Below.refl _ _))
      unfold execOp; simp only [eval_const, e76]; simp [go_sem]
    · intro a w1 hB ho hp K hK
      have e8 : a.eval (.tmp 8) = (.pointer (some ⟨w23.heap.size, 0, none⟩)) := ho 8 (by kernel_rfl)
      obtain ⟨u1, u2, u3⟩ := H_f.out.below hB
      exact hop_load (wanted_at rfl (j := 37) (d := 77) (b := true) (by kernel_rfl) (hp 37 77 (by kernel_rfl))) rfl e8 (run_ldf u1) (hK _ _ rfl (Below.refl _ _))
    · intro a w1 hB ho hp K hK
      have e4 : a.eval (.tmp 4) = (.pointer (some ⟨w.heap.size, 0, none⟩)) := ho 4 (by kernel_rfl)
      obtain ⟨u1, u2, u3, u4, u5⟩ := H_x.out.below hB
      exact hop_load (wanted_at rfl (j := 37) (d := 77) (b := true) (by kernel_rfl) (hp 37 77 (by kernel_rfl))) rfl e4 (run_ldz u1 u2) (hK _ _ rfl (Below.refl _ _))
    · intro a w1 hB ho hp K hK
      have e79 : a.eval (.tmp 79) = (.agg #[.bool s, .slice A m c]) := hp 39 79 (by kernel_rfl)
      refine hop_call (wanted_at rfl (j := 37) (d := 77) (b := true) (by kernel_rfl) (hp 37 77 (by kernel_rfl))) rfl (args := #[(.agg #[.bool s, .slice A m c])]) (by simp only [List.map_toArray, List.map_cons, List.map_nil, eval_const, e79]) (ent7 (by kernel_rfl) _ _) (zneg_v (ha.below hB) (by omega)) ?_
      rintro e w2 ⟨s, A, n, c, rfl, p, k, B⟩
      exact ⟨_, rfl, hK _ _ ⟨s, A, n, c, rfl, p, by omega⟩ B⟩
    · intro a w1 hB ho hp K hK
      have e78 : a.eval (.tmp 78) = (.agg #[.int .u64 (ab : Int)]) := hp 38 78 (by kernel_rfl)
      obtain ⟨s80, A80, n80, c80, e80, p80, k80⟩ : IsC (-za) 4 (a.eval (.tmp 80)) w1 := hp 40 80 (by kernel_rfl)
      refine hop_call (wanted_at rfl (j := 37) (d := 77) (b := true) (by kernel_rfl) (hp 37 77 (by kernel_rfl))) rfl (args := #[(.agg #[.int .u64 (ab : Int)]), (.agg #[.bool s80, .slice A80 n80 c80])]) (by simp only [List.map_toArray, List.map_cons, List.map_nil, eval_const, e78, e80]) (ent7 (by kernel_rfl) _ _) (fof_v HP.out h p80.zv HN.out) ?_
      rintro e w2 ⟨rfl, B⟩
      exact ⟨_, rfl, hK _ _ rfl B⟩
    · intro a w1 hB ho hp K hK
      have e8 : a.eval (.tmp 8) = (.pointer (some ⟨w23.heap.size, 0, none⟩)) := ho 8 (by kernel_rfl)
      obtain ⟨u1, u2, u3⟩ := H_f.out.below hB
      exact hop_load (wanted_at rfl (j := 37) (d := 77) (b := true) (by kernel_rfl) (hp 37 77 (by kernel_rfl))) rfl e8 (run_ldf u1) (hK _ _ rfl (Below.refl _ _))
    · intro a w1 hB ho hp K hK
      have e10 : a.eval (.tmp 10) = (.int .u64 (X : Int)) := ho 10 (by kernel_rfl)
      refine hop_val (wanted_at rfl (j := 37) (d := 77) (b := true) (by kernel_rfl) (hp 37 77 (by kernel_rfl))) ?_ (hK (.int .u64 (X : Int)) _ rfl (Below.refl _ _))
      unfold execOp; simp only [eval_const, e10]; simp [go_sem]
    · intro a w1 hB ho hp K hK
      have e82 : a.eval (.tmp 82) = (.agg #[.int .u64 (ab : Int)]) := hp 42 82 (by kernel_rfl)
      have e83 : a.eval (.tmp 83) = (.int .u64 (X : Int)) := hp 43 83 (by kernel_rfl)
      refine hop_call (wanted_at rfl (j := 37) (d := 77) (b := true) (by kernel_rfl) (hp 37 77 (by kernel_rfl))) rfl (args := #[(.agg #[.int .u64 (ab : Int)]), (.int .u64 (X : Int))]) (by simp only [List.map_toArray, List.map_cons, List.map_nil, eval_const, e82, e83]) (ent7 (by kernel_rfl) _ _) (fneg_v HP.out h (by omega) HN2.out _) ?_
      rintro e w2 ⟨rfl, B⟩
      exact ⟨_, rfl, hK _ _ rfl B⟩
    · intro a w1 hB ho hp K hK
      have e81 : a.eval (.tmp 81) = (.int .u64 (N : Int)) := hp 41 81 (by kernel_rfl)
      have e84 : a.eval (.tmp 84) = (.int .u64 (N : Int)) := hp 44 84 (by kernel_rfl)
      refine hop_val (wanted_at rfl (j := 37) (d := 77) (b := true) (by kernel_rfl) (hp 37 77 (by kernel_rfl))) ?_ (hK (.bool true) _ rfl (Below.refl _ _))
      unfold execOp; simp only [eval_const, e81, e84]; simp [go_sem]
    · intro a w1 hB ho hp K hK
      have e77 : a.eval (.tmp 77) = (.bool true) := hp 37 77 (by kernel_rfl)
      have e85 : a.eval (.tmp 85) = (.bool true) := hp 45 85 (by kernel_rfl)
      refine hop_val (wanted_none rfl) ?_ (hK (.bool true) _ rfl (Below.refl _ _))
      unfold execOp; simp only [eval_const, e77, e85]; simp [go_sem]
    · intro a w1 hB ho hp K hK
      have e86 : a.eval (.tmp 86) = (.bool true) := hp 46 86 (by kernel_rfl)
      refine hop_val (wanted_none rfl) ?_ (hK (.bool true) _ rfl (Below.refl _ _))
      unfold execOp; simp only [eval_const, e86]; simp [go_sem]
  intro w26 B26
  refine EndAll.one rfl fun vv hv => ?_
  obtain rfl : vv = (.int .u64 (X : Int)) := hv
  refine EndAll.one rfl fun vv hv => ?_
  obtain rfl : vv = (.int .u64 (p : Int)) := hv
  refine EndAll.one rfl fun vv hv => ?_
  obtain rfl : vv = (.bool true) := hv
  refine EndAll.one rfl fun vv hv => ?_
  obtain rfl : vv = (.bool true) := hv
  refine EndAll.one rfl fun vv hv => ?_
  obtain rfl : vv = (.agg #[.bool s, .slice A m c]) := hv
  refine EndAll.one rfl fun vv hv => ?_
  obtain rfl : vv = (.int .u64 (X : Int)) := hv
  refine EndAll.one rfl fun vv hv => ?_
  obtain rfl : vv = (.int .i64 (X : Int)) := hv
  refine EndAll.one rfl fun vv hv => ?_
  obtain ⟨s27, A27, n27, c27, rfl, p27, k27⟩ : IsC (X : Int) 1 vv w26 := hv
  refine EndAll.one rfl fun vv hv => ?_
  obtain rfl : vv = (.int .u64 (p : Int)) := hv
  refine EndAll.one rfl fun vv hv => ?_
  obtain rfl : vv = (.int .i64 (p : Int)) := hv
  refine EndAll.one rfl fun vv hv => ?_
  obtain ⟨s28, A28, n28, c28, rfl, p28, k28⟩ : IsC (p : Int) 1 vv w26 := hv
  refine EndAll.one rfl fun vv hv => ?_
  obtain rfl : vv = (.bool true) := hv
  refine EndAll.one rfl fun vv hv => ?_
  obtain rfl : vv = (.bool true) := hv
  refine EndAll.one rfl fun vv hv => ?_
  obtain rfl : vv = (.bool true) := hv
  refine EndAll.one rfl fun vv hv => ?_
  obtain rfl : vv = (.agg #[.int .u64 (ab : Int)]) := hv
  refine EndAll.one rfl fun vv hv => ?_
  obtain rfl : vv = (.agg #[.bool s, .slice A m c]) := hv
  refine EndAll.one rfl fun vv hv => ?_
  obtain rfl : vv = (.agg #[.bool t, .slice B l d]) := hv
  refine EndAll.one rfl fun vv hv => ?_
  obtain ⟨s29, A29, n29, c29, rfl, p29, k29⟩ : IsC (za + zb) 5 vv w26 := hv
  refine EndAll.one rfl fun vv hv => ?_
  obtain rfl : vv = (.int .u64 (S : Int)) := hv
  refine EndAll.one rfl fun vv hv => ?_
  obtain rfl : vv = (.agg #[.int .u64 (ab : Int)]) := hv
  refine EndAll.one rfl fun vv hv => ?_
  obtain rfl : vv = (.int .u64 (X : Int)) := hv
  refine EndAll.one rfl fun vv hv => ?_
  obtain rfl : vv = (.int .u64 (Y : Int)) := hv
  refine EndAll.one rfl fun vv hv => ?_
  obtain rfl : vv = (.int .u64 (S : Int)) := hv
  refine EndAll.one rfl fun vv hv => ?_
  obtain rfl : vv = (.bool true) := hv
  refine EndAll.one rfl fun vv hv => ?_
  obtain rfl : vv = (.bool true) := hv
  refine EndAll.one rfl fun vv hv => ?_
  obtain rfl : vv = (.bool true) := hv
  refine EndAll.one rfl fun vv hv => ?_
  obtain rfl : vv = (.agg #[.int .u64 (ab : Int)]) := hv
  refine EndAll.one rfl fun vv hv => ?_
  obtain rfl : vv = (.agg #[.bool s, .slice A m c]) := hv
  refine EndAll.one rfl fun vv hv => ?_
  obtain rfl : vv = (.agg #[.bool t, .slice B l d]) := hv
  refine EndAll.one rfl fun vv hv => ?_
  obtain ⟨s30, A30, n30, c30, rfl, p30, k30⟩ : IsC (za * zb) 8 vv w26 := hv
  refine EndAll.one rfl fun vv hv => ?_
  obtain rfl : vv = (.int .u64 (M : Int)) := hv
  refine EndAll.one rfl fun vv hv => ?_
  obtain rfl : vv = (.agg #[.int .u64 (ab : Int)]) := hv
  refine EndAll.one rfl fun vv hv => ?_
  obtain rfl : vv = (.int .u64 (X : Int)) := hv
  refine EndAll.one rfl fun vv hv => ?_
  obtain rfl : vv = (.int .u64 (Y : Int)) := hv
  refine EndAll.one rfl fun vv hv => ?_
  obtain rfl : vv = (.int .u64 (M : Int)) := hv
  refine EndAll.one rfl fun vv hv => ?_
  obtain rfl : vv = (.bool true) := hv
  refine EndAll.one rfl fun vv hv => ?_
  obtain rfl : vv = (.bool true) := hv
  refine EndAll.one rfl fun vv hv => ?_
  obtain rfl : vv = (.bool true) := hv
  refine EndAll.one rfl fun vv hv => ?_
  obtain rfl : vv = (.agg #[.int .u64 (ab : Int)]) := hv
  refine EndAll.one rfl fun vv hv => ?_
  obtain rfl : vv = (.agg #[.bool s, .slice A m c]) := hv
  refine EndAll.one rfl fun vv hv => ?_
  obtain ⟨s31, A31, n31, c31, rfl, p31, k31⟩ : IsC (-za) 4 vv w26 := hv
  refine EndAll.one rfl fun vv hv => ?_
  obtain rfl : vv = (.int .u64 (N : Int)) := hv
  refine EndAll.one rfl fun vv hv => ?_
  obtain rfl : vv = (.agg #[.int .u64 (ab : Int)]) := hv
  refine EndAll.one rfl fun vv hv => ?_
  obtain rfl : vv = (.int .u64 (X : Int)) := hv
  refine EndAll.one rfl fun vv hv => ?_
  obtain rfl : vv = (.int .u64 (N : Int)) := hv
  refine EndAll.one rfl fun vv hv => ?_
  obtain rfl : vv = (.bool true) := hv
  refine EndAll.one rfl fun vv hv => ?_
  obtain rfl : vv = (.bool true) := hv
  refine EndAll.one rfl fun vv hv => ?_
  obtain rfl : vv = (.bool true) := hv
  refine EndAll.nil (l := []) rfl ?_
  simp only [Act.put, List.setIfInBounds_toArray, List.set_cons_zero, List.set_cons_succ]
  replace H_x := Lib.hid (H_x.out.below B26)
  replace H_y := Lib.hid (H_y.out.below B26)
  replace H_f := Lib.hid (H_f.out.below B26)
  replace ha := ha.below B26
  replace hb := hb.below B26
  replace hT := hT.below B26
  replace hW := hW.trans (B26.mono hW.size)
  clear B26
  obtain ⟨x1, x2, x3, x4, x5⟩ := H_x.out
  obtain ⟨y1, y2, y3, y4, y5⟩ := H_y.out
  obtain ⟨f1, f2, f3⟩ := H_f.out
  go_wp2_with fail
  clear x1 x2 x3 x4 x5 y1 y2 y3 y4 y5 f1 f2 f3
  exact bodyPost_ret (v := .bool true) (by simp [results, Tryd.results6, go_sem]) rfl ⟨rfl, hW⟩
theorem gfpof_calls {n m c l d : Nat} {s t : Bool} {A B : Option Addr} {za zb : Int} {w : World} (hn : n < 256) (ha : Zv w s A m c za) (m9 : m ≤ 9223372036854775807) (hb : Zv w t B l d zb) (l9 : l ≤ 9223372036854775807) (hT : TabHas w) : Calls Tryd.prog 6 #[.int .u8 (n : Int), .agg #[.bool s, .slice A m c], .agg #[.bool t, .slice B l d]] w (fun e w' => e = .returned (.bool true) ∧ Below w.heap.size w w') := by
  by_cases h1 : m ≤ 4
  · by_cases h2 : l ≤ 4
    · exact of_all hn ha hb h1 h2 hT
    · exact of_few2 hn ha hb h1 (by omega) l9 hT
  · exact of_few1 hn ha hb (by omega) m9 hT
end Go.Proofs.YtfdgblmegiehnaaDoor
