/-
  Package rat: Pow, Print; zint.Pow.
-/
import Derived.Test.YtfpncmhaoadfdaaRatC
/-! Contracts: rat.Pow, Print; zint.Pow. -/
namespace Go.Proofs.Ytfpncmhaoadfdaa
open Go.RowKit
set_option linter.unusedVariables false
set_option linter.unusedSimpArgs false

theorem sg_pow_even {N : Int} {e : Nat} (h : e % 2 = 0) : ((N.natAbs ^ e : Nat) : Int) = N ^ e := by
  rw [Int.natCast_pow]
  rcases Int.natAbs_eq N with k | k
  · rw [← k]
  · generalize N.natAbs = v at *
    subst k
    obtain ⟨j, rfl⟩ : ∃ j, e = 2 * j := ⟨e / 2, by omega⟩
    rw [Int.pow_mul, Int.pow_mul]
    congr 1
    rw [Int.pow_succ, Int.pow_succ, Int.pow_zero, Int.pow_succ, Int.pow_succ, Int.pow_zero]
    simp [Int.neg_mul_neg]
theorem sg_pow_odd {v e : Nat} (h : e % 2 = 1) : -((v ^ e : Nat) : Int) = (-(v : Int)) ^ e := by
  obtain ⟨j, rfl⟩ : ∃ j, e = j + 1 := ⟨e - 1, by omega⟩
  have h2 := sg_pow_even (N := -(v : Int)) (e := j) (by omega)
  rw [Int.natAbs_neg, Int.natAbs_natCast] at h2
  rw [Int.pow_succ, ← h2, Nat.pow_succ, Int.natCast_mul]
  rw [Int.mul_neg]
theorem sg_pow_false {N : Int} {e : Nat} (h : N = sg false N.natAbs) : sg false (N.natAbs ^ e) = N ^ e := by
  have : ((N.natAbs : Nat) : Int) = N := by rw [sg_false] at h; exact h.symm
  rw [sg_false, Int.natCast_pow, this]
set_option maxRecDepth 100000 in
set_option maxHeartbeats 4000000 in
theorem zpow_f {A : Option Addr} {n c e K : Nat} {N : Int} {w : World} (hn : Zv w false A n c N) (hnk : n ≤ 1099511627776) (he : e ≤ 9223372036854775807) (hab : aboveB (bl N.natAbs) e = false) (hK : n * e ≤ K) :
    Calls Try.prog 53 #[.agg #[.bool false, .slice A n c], .int .i64 (e : Int)] w (ZPowPost (N ^ e) (K + 1) w) := by
  have hW := Below.refl w.heap.size w
  obtain ⟨wp0, hwp0⟩ : ∃ x, x = w.alloc (.cells #[.bool false, .slice A n c] 25) := ⟨_, rfl⟩
  have zp0 : Below w.heap.size w wp0 := by rw [hwp0]; exact zba _ _
  have sp0 : wp0.heap.size = w.heap.size + 1 := by rw [hwp0, World.size_alloc]
  have Ia : Ib wp0 w.heap.size false A n c := by rw [hwp0]; exact Ib.new _ _ _ _ _ _
  replace hn := hn.below zp0
  replace hW := hW.trans (zp0.mono hW.size)
  have H_a := Lib.hid Ia
  clear Ia zp0
  obtain ⟨wp1, hwp1⟩ : ∃ x, x = wp0.alloc (.cells #[.bool false, .slice none 0 0] 25) := ⟨_, rfl⟩
  have zp1 : Below wp0.heap.size wp0 wp1 := by rw [hwp1]; exact zba _ _
  have sp1 : wp1.heap.size = w.heap.size + 1 + 1 := by rw [hwp1, World.size_alloc, sp0]
  have Ir : Ib wp1 (w.heap.size + 1) false none 0 0 := by rw [hwp1, ← sp0]; exact Ib.new _ _ _ _ _ _
  replace H_a := Lib.hid (H_a.out.below zp1)
  replace hn := hn.below zp1
  replace hW := hW.trans (zp1.mono hW.size)
  have H_r := Lib.hid Ir
  clear Ir zp1
  have HW : Hid (((w.alloc (.cells #[.bool false, .slice A n c] 25)).alloc (.cells #[.bool false, .slice none 0 0] 25)) = wp1) := Lib.hid (by rw [hwp1, hwp0])
  have nn_a_r : ¬ (w.heap.size = (w.heap.size + 1)) := by omega
  have nm_a_r : ¬ ((w.heap.size + 1) = w.heap.size) := by omega
  have lw_a : w.heap.size ≤ w.heap.size := by omega
  have lw_r : w.heap.size ≤ (w.heap.size + 1) := by omega
  clear hwp0 hwp1 sp0 sp1
  have HS := Lib.hid (sg_pow_false (e := e) hn.abs.2.out)
  have HAB := Lib.hid hab
  clear hab
  go_enter Try.func53, Try.ntmps53
  replace hn := hn.abs.1
  obtain ⟨a1, a2, a3, a4, a5⟩ := H_a.out
  obtain ⟨r1, r2, r3, r4, r5⟩ := H_r.out
  go_wp2_with fail
  rw [HW.out]
  clear a1 a2 a3 a4 a5 r1 r2 r3 r4 r5
  refine (powc_v (k := e) (K := K) hn (by omega) (by omega) HAB.out hK).mono ?_
  rintro e w21 ⟨A21, n21, c21, rfl, pv, k21, B21⟩
  replace H_a := Lib.hid (H_a.out.below B21)
  replace H_r := Lib.hid (H_r.out.below B21)
  replace hn := hn.below B21
  replace hW := hW.trans (B21.mono hW.size)
  clear B21
  obtain ⟨a1, a2, a3, a4, a5⟩ := H_a.out
  obtain ⟨r1, r2, r3, r4, r5⟩ := H_r.out
  go_wp2_with fail
  clear a1 a2 a3 a4 a5 r1 r2 r3 r4 r5
  refine (signed_v pv).mono ?_
  rintro e w22 ⟨s22, A22, n22, c22, rfl, ps, k22, B22⟩
  replace H_a := Lib.hid (H_a.out.below B22)
  replace H_r := Lib.hid (H_r.out.below B22)
  replace hn := hn.below B22
  replace pv := pv.below B22
  replace hW := hW.trans (B22.mono hW.size)
  clear B22
  rw [HS.out] at ps
  have P := Lib.hid (zfin2 (w := w) (k := (K + 1)) ps H_r.out (by omega) lw_r hW)
  obtain ⟨a1, a2, a3, a4, a5⟩ := H_a.out
  obtain ⟨r1, r2, r3, r4, r5⟩ := H_r.out
  go_wp2_with fail
  clear a1 a2 a3 a4 a5 r1 r2 r3 r4 r5
  obtain ⟨r1, r2, r3, r4, r5⟩ := H_r.out
  exact bodyPost_ret (v := .tuple #[.agg #[.bool s22, .slice A22 n22 c22], .bool true]) (by simp [results, Try.results53, go_sem, r1, r2]) rfl P.out
set_option maxRecDepth 100000 in
set_option maxHeartbeats 4000000 in
theorem zpow_e {A : Option Addr} {n c e K : Nat} {N : Int} {w : World} (hn : Zv w true A n c N) (hnk : n ≤ 1099511627776) (he : e ≤ 9223372036854775807) (hab : aboveB (bl N.natAbs) e = false) (hK : n * e ≤ K) (hp : e % 2 = 0) :
    Calls Try.prog 53 #[.agg #[.bool true, .slice A n c], .int .i64 (e : Int)] w (ZPowPost (N ^ e) (K + 1) w) := by
  have hW := Below.refl w.heap.size w
  obtain ⟨wp0, hwp0⟩ : ∃ x, x = w.alloc (.cells #[.bool true, .slice A n c] 25) := ⟨_, rfl⟩
  have zp0 : Below w.heap.size w wp0 := by rw [hwp0]; exact zba _ _
  have sp0 : wp0.heap.size = w.heap.size + 1 := by rw [hwp0, World.size_alloc]
  have Ia : Ib wp0 w.heap.size true A n c := by rw [hwp0]; exact Ib.new _ _ _ _ _ _
  replace hn := hn.below zp0
  replace hW := hW.trans (zp0.mono hW.size)
  have H_a := Lib.hid Ia
  clear Ia zp0
  obtain ⟨wp1, hwp1⟩ : ∃ x, x = wp0.alloc (.cells #[.bool false, .slice none 0 0] 25) := ⟨_, rfl⟩
  have zp1 : Below wp0.heap.size wp0 wp1 := by rw [hwp1]; exact zba _ _
  have sp1 : wp1.heap.size = w.heap.size + 1 + 1 := by rw [hwp1, World.size_alloc, sp0]
  have Ir : Ib wp1 (w.heap.size + 1) false none 0 0 := by rw [hwp1, ← sp0]; exact Ib.new _ _ _ _ _ _
  replace H_a := Lib.hid (H_a.out.below zp1)
  replace hn := hn.below zp1
  replace hW := hW.trans (zp1.mono hW.size)
  have H_r := Lib.hid Ir
  clear Ir zp1
  have HW : Hid (((w.alloc (.cells #[.bool true, .slice A n c] 25)).alloc (.cells #[.bool false, .slice none 0 0] 25)) = wp1) := Lib.hid (by rw [hwp1, hwp0])
  have nn_a_r : ¬ (w.heap.size = (w.heap.size + 1)) := by omega
  have nm_a_r : ¬ ((w.heap.size + 1) = w.heap.size) := by omega
  have lw_a : w.heap.size ≤ w.heap.size := by omega
  have lw_r : w.heap.size ≤ (w.heap.size + 1) := by omega
  clear hwp0 hwp1 sp0 sp1
  have HS : Hid (sg false (N.natAbs ^ e) = N ^ e) := Lib.hid (by rw [sg_false]; exact sg_pow_even hp)
  have HAB := Lib.hid hab
  have hm : (e : Int).tmod 2 = 0 := by rw [Int.tmod_eq_emod_of_nonneg (by omega)]; omega
  clear hab hp
  go_enter Try.func53, Try.ntmps53
  replace hn := hn.abs.1
  obtain ⟨a1, a2, a3, a4, a5⟩ := H_a.out
  obtain ⟨r1, r2, r3, r4, r5⟩ := H_r.out
  go_wp2_with fail
  rw [HW.out]
  clear a1 a2 a3 a4 a5 r1 r2 r3 r4 r5
  refine (powc_v (k := e) (K := K) hn (by omega) (by omega) HAB.out hK).mono ?_
  rintro e w21 ⟨A21, n21, c21, rfl, pv, k21, B21⟩
  replace H_a := Lib.hid (H_a.out.below B21)
  replace H_r := Lib.hid (H_r.out.below B21)
  replace hn := hn.below B21
  replace hW := hW.trans (B21.mono hW.size)
  clear B21
  obtain ⟨a1, a2, a3, a4, a5⟩ := H_a.out
  obtain ⟨r1, r2, r3, r4, r5⟩ := H_r.out
  go_wp2_with fail
  clear a1 a2 a3 a4 a5 r1 r2 r3 r4 r5
  refine (signed_v pv).mono ?_
  rintro e w22 ⟨s22, A22, n22, c22, rfl, ps, k22, B22⟩
  replace H_a := Lib.hid (H_a.out.below B22)
  replace H_r := Lib.hid (H_r.out.below B22)
  replace hn := hn.below B22
  replace pv := pv.below B22
  replace hW := hW.trans (B22.mono hW.size)
  clear B22
  rw [HS.out] at ps
  have P := Lib.hid (zfin2 (w := w) (k := (K + 1)) ps H_r.out (by omega) lw_r hW)
  obtain ⟨a1, a2, a3, a4, a5⟩ := H_a.out
  obtain ⟨r1, r2, r3, r4, r5⟩ := H_r.out
  go_wp2_with fail
  clear a1 a2 a3 a4 a5 r1 r2 r3 r4 r5
  obtain ⟨r1, r2, r3, r4, r5⟩ := H_r.out
  exact bodyPost_ret (v := .tuple #[.agg #[.bool s22, .slice A22 n22 c22], .bool true]) (by simp [results, Try.results53, go_sem, r1, r2]) rfl P.out
set_option maxRecDepth 100000 in
set_option maxHeartbeats 4000000 in
theorem zpow_o {A : Option Addr} {n c e K : Nat} {N : Int} {w : World} (hn : Zv w true A n c N) (hnk : n ≤ 1099511627776) (he : e ≤ 9223372036854775807) (hab : aboveB (bl N.natAbs) e = false) (hK : n * e ≤ K) (hp : e % 2 = 1) :
    Calls Try.prog 53 #[.agg #[.bool true, .slice A n c], .int .i64 (e : Int)] w (ZPowPost (N ^ e) (K + 1) w) := by
  have hW := Below.refl w.heap.size w
  obtain ⟨wp0, hwp0⟩ : ∃ x, x = w.alloc (.cells #[.bool true, .slice A n c] 25) := ⟨_, rfl⟩
  have zp0 : Below w.heap.size w wp0 := by rw [hwp0]; exact zba _ _
  have sp0 : wp0.heap.size = w.heap.size + 1 := by rw [hwp0, World.size_alloc]
  have Ia : Ib wp0 w.heap.size true A n c := by rw [hwp0]; exact Ib.new _ _ _ _ _ _
  replace hn := hn.below zp0
  replace hW := hW.trans (zp0.mono hW.size)
  have H_a := Lib.hid Ia
  clear Ia zp0
  obtain ⟨wp1, hwp1⟩ : ∃ x, x = wp0.alloc (.cells #[.bool false, .slice none 0 0] 25) := ⟨_, rfl⟩
  have zp1 : Below wp0.heap.size wp0 wp1 := by rw [hwp1]; exact zba _ _
  have sp1 : wp1.heap.size = w.heap.size + 1 + 1 := by rw [hwp1, World.size_alloc, sp0]
  have Ir : Ib wp1 (w.heap.size + 1) false none 0 0 := by rw [hwp1, ← sp0]; exact Ib.new _ _ _ _ _ _
  replace H_a := Lib.hid (H_a.out.below zp1)
  replace hn := hn.below zp1
  replace hW := hW.trans (zp1.mono hW.size)
  have H_r := Lib.hid Ir
  clear Ir zp1
  have HW : Hid (((w.alloc (.cells #[.bool true, .slice A n c] 25)).alloc (.cells #[.bool false, .slice none 0 0] 25)) = wp1) := Lib.hid (by rw [hwp1, hwp0])
  have nn_a_r : ¬ (w.heap.size = (w.heap.size + 1)) := by omega
  have nm_a_r : ¬ ((w.heap.size + 1) = w.heap.size) := by omega
  have lw_a : w.heap.size ≤ w.heap.size := by omega
  have lw_r : w.heap.size ≤ (w.heap.size + 1) := by omega
  clear hwp0 hwp1 sp0 sp1
  have HS : Hid (sg true (N.natAbs ^ e) = N ^ e) := Lib.hid (by have h2 := hn.abs.2.out; rw [show sg true (N.natAbs ^ e) = -((N.natAbs ^ e : Nat) : Int) from rfl, sg_pow_odd hp]; congr 1; exact h2.symm)
  have HAB := Lib.hid hab
  have hm : (e : Int).tmod 2 = 1 := by rw [Int.tmod_eq_emod_of_nonneg (by omega)]; omega
  clear hab hp
  go_enter Try.func53, Try.ntmps53
  replace hn := hn.abs.1
  obtain ⟨a1, a2, a3, a4, a5⟩ := H_a.out
  obtain ⟨r1, r2, r3, r4, r5⟩ := H_r.out
  go_wp2_with fail
  rw [HW.out]
  clear a1 a2 a3 a4 a5 r1 r2 r3 r4 r5
  refine (powc_v (k := e) (K := K) hn (by omega) (by omega) HAB.out hK).mono ?_
  rintro e w21 ⟨A21, n21, c21, rfl, pv, k21, B21⟩
  replace H_a := Lib.hid (H_a.out.below B21)
  replace H_r := Lib.hid (H_r.out.below B21)
  replace hn := hn.below B21
  replace hW := hW.trans (B21.mono hW.size)
  clear B21
  obtain ⟨a1, a2, a3, a4, a5⟩ := H_a.out
  obtain ⟨r1, r2, r3, r4, r5⟩ := H_r.out
  go_wp2_with fail
  clear a1 a2 a3 a4 a5 r1 r2 r3 r4 r5
  refine (signed_v pv).mono ?_
  rintro e w22 ⟨s22, A22, n22, c22, rfl, ps, k22, B22⟩
  replace H_a := Lib.hid (H_a.out.below B22)
  replace H_r := Lib.hid (H_r.out.below B22)
  replace hn := hn.below B22
  replace pv := pv.below B22
  replace hW := hW.trans (B22.mono hW.size)
  clear B22
  rw [HS.out] at ps
  have P := Lib.hid (zfin2 (w := w) (k := (K + 1)) ps H_r.out (by omega) lw_r hW)
  obtain ⟨a1, a2, a3, a4, a5⟩ := H_a.out
  obtain ⟨r1, r2, r3, r4, r5⟩ := H_r.out
  go_wp2_with fail
  clear a1 a2 a3 a4 a5 r1 r2 r3 r4 r5
  obtain ⟨r1, r2, r3, r4, r5⟩ := H_r.out
  exact bodyPost_ret (v := .tuple #[.agg #[.bool s22, .slice A22 n22 c22], .bool true]) (by simp [results, Try.results53, go_sem, r1, r2]) rfl P.out
/-- zint.Pow. -/
theorem zpow_v {A : Option Addr} {n c e K : Nat} {s : Bool} {N : Int} {w : World} (hn : Zv w s A n c N) (hnk : n ≤ 1099511627776) (he : e ≤ 9223372036854775807) (hab : aboveB (bl N.natAbs) e = false) (hK : n * e ≤ K) :
    Calls Try.prog 53 #[.agg #[.bool s, .slice A n c], .int .i64 (e : Int)] w (ZPowPost (N ^ e) (K + 1) w) := by
  cases s
  · exact zpow_f hn hnk he hab hK
  · rcases Nat.mod_two_eq_zero_or_one e with h | h
    · exact zpow_e hn hnk he hab hK h
    · exact zpow_o hn hnk he hab hK h
set_option maxRecDepth 100000 in
set_option maxHeartbeats 4000000 in
theorem zpow_min_false {A : Option Addr} {n c : Nat} {w : World} :
    Calls Try.prog 53 #[.agg #[.bool false, .slice A n c], .int .i64 (-9223372036854775808)] w (ZNoPost w) := by
  have hW := Below.refl w.heap.size w
  obtain ⟨wp0, hwp0⟩ : ∃ x, x = w.alloc (.cells #[.bool false, .slice A n c] 25) := ⟨_, rfl⟩
  have zp0 : Below w.heap.size w wp0 := by rw [hwp0]; exact zba _ _
  have sp0 : wp0.heap.size = w.heap.size + 1 := by rw [hwp0, World.size_alloc]
  have Ia : Ib wp0 w.heap.size false A n c := by rw [hwp0]; exact Ib.new _ _ _ _ _ _
  replace hW := hW.trans (zp0.mono hW.size)
  have H_a := Lib.hid Ia
  clear Ia zp0
  obtain ⟨wp1, hwp1⟩ : ∃ x, x = wp0.alloc (.cells #[.bool false, .slice none 0 0] 25) := ⟨_, rfl⟩
  have zp1 : Below wp0.heap.size wp0 wp1 := by rw [hwp1]; exact zba _ _
  have sp1 : wp1.heap.size = w.heap.size + 1 + 1 := by rw [hwp1, World.size_alloc, sp0]
  have Ir : Ib wp1 (w.heap.size + 1) false none 0 0 := by rw [hwp1, ← sp0]; exact Ib.new _ _ _ _ _ _
  replace H_a := Lib.hid (H_a.out.below zp1)
  replace hW := hW.trans (zp1.mono hW.size)
  have H_r := Lib.hid Ir
  clear Ir zp1
  have HW : Hid (((w.alloc (.cells #[.bool false, .slice A n c] 25)).alloc (.cells #[.bool false, .slice none 0 0] 25)) = wp1) := Lib.hid (by rw [hwp1, hwp0])
  have nn_a_r : ¬ (w.heap.size = (w.heap.size + 1)) := by omega
  have nm_a_r : ¬ ((w.heap.size + 1) = w.heap.size) := by omega
  have lw_a : w.heap.size ≤ w.heap.size := by omega
  have lw_r : w.heap.size ≤ (w.heap.size + 1) := by omega
  clear hwp0 hwp1 sp0 sp1
  go_enter Try.func53, Try.ntmps53
  obtain ⟨a1, a2, a3, a4, a5⟩ := H_a.out
  obtain ⟨r1, r2, r3, r4, r5⟩ := H_r.out
  go_wp2_with fail
  rw [HW.out]
  clear a1 a2 a3 a4 a5 r1 r2 r3 r4 r5
  refine (pow_neg (k := -9223372036854775808) (by omega)).mono ?_
  rintro e w2 ⟨rfl, rfl⟩
  obtain ⟨a1, a2, a3, a4, a5⟩ := H_a.out
  obtain ⟨r1, r2, r3, r4, r5⟩ := H_r.out
  go_wp2_with fail
  clear a1 a2 a3 a4 a5 r1 r2 r3 r4 r5
  refine (signed_calls none 0 0 _ false wp1 (by simp)).mono ?_
  rintro e w22 ⟨rfl, B22⟩
  replace H_a := Lib.hid (H_a.out.below B22)
  replace H_r := Lib.hid (H_r.out.below B22)
  replace hW := hW.trans (B22.mono hW.size)
  clear B22
  have P := Lib.hid (below_put (g := w.heap.size + 1) (A := none) (n := 0) (c := 0) (s := false) hW (by omega))
  unfold zput at P
  obtain ⟨a1, a2, a3, a4, a5⟩ := H_a.out
  obtain ⟨r1, r2, r3, r4, r5⟩ := H_r.out
  go_wp2_with fail
  clear a1 a2 a3 a4 a5 r1 r2 r3 r4 r5
  obtain ⟨r1, r2, r3, r4, r5⟩ := H_r.out
  exact bodyPost_ret (v := .tuple #[.agg #[.bool false, .slice none 0 0], .bool false]) (by simp [results, Try.results53, go_sem, r1, r2]) rfl ⟨rfl, P.out⟩
set_option maxRecDepth 100000 in
set_option maxHeartbeats 4000000 in
theorem zpow_min_true {A : Option Addr} {n c : Nat} {w : World} :
    Calls Try.prog 53 #[.agg #[.bool true, .slice A n c], .int .i64 (-9223372036854775808)] w (ZNoPost w) := by
  have hW := Below.refl w.heap.size w
  obtain ⟨wp0, hwp0⟩ : ∃ x, x = w.alloc (.cells #[.bool true, .slice A n c] 25) := ⟨_, rfl⟩
  have zp0 : Below w.heap.size w wp0 := by rw [hwp0]; exact zba _ _
  have sp0 : wp0.heap.size = w.heap.size + 1 := by rw [hwp0, World.size_alloc]
  have Ia : Ib wp0 w.heap.size true A n c := by rw [hwp0]; exact Ib.new _ _ _ _ _ _
  replace hW := hW.trans (zp0.mono hW.size)
  have H_a := Lib.hid Ia
  clear Ia zp0
  obtain ⟨wp1, hwp1⟩ : ∃ x, x = wp0.alloc (.cells #[.bool false, .slice none 0 0] 25) := ⟨_, rfl⟩
  have zp1 : Below wp0.heap.size wp0 wp1 := by rw [hwp1]; exact zba _ _
  have sp1 : wp1.heap.size = w.heap.size + 1 + 1 := by rw [hwp1, World.size_alloc, sp0]
  have Ir : Ib wp1 (w.heap.size + 1) false none 0 0 := by rw [hwp1, ← sp0]; exact Ib.new _ _ _ _ _ _
  replace H_a := Lib.hid (H_a.out.below zp1)
  replace hW := hW.trans (zp1.mono hW.size)
  have H_r := Lib.hid Ir
  clear Ir zp1
  have HW : Hid (((w.alloc (.cells #[.bool true, .slice A n c] 25)).alloc (.cells #[.bool false, .slice none 0 0] 25)) = wp1) := Lib.hid (by rw [hwp1, hwp0])
  have nn_a_r : ¬ (w.heap.size = (w.heap.size + 1)) := by omega
  have nm_a_r : ¬ ((w.heap.size + 1) = w.heap.size) := by omega
  have lw_a : w.heap.size ≤ w.heap.size := by omega
  have lw_r : w.heap.size ≤ (w.heap.size + 1) := by omega
  clear hwp0 hwp1 sp0 sp1
  go_enter Try.func53, Try.ntmps53
  obtain ⟨a1, a2, a3, a4, a5⟩ := H_a.out
  obtain ⟨r1, r2, r3, r4, r5⟩ := H_r.out
  go_wp2_with fail
  rw [HW.out]
  clear a1 a2 a3 a4 a5 r1 r2 r3 r4 r5
  refine (pow_neg (k := -9223372036854775808) (by omega)).mono ?_
  rintro e w2 ⟨rfl, rfl⟩
  obtain ⟨a1, a2, a3, a4, a5⟩ := H_a.out
  obtain ⟨r1, r2, r3, r4, r5⟩ := H_r.out
  go_wp2_with fail
  clear a1 a2 a3 a4 a5 r1 r2 r3 r4 r5
  refine (signed_calls none 0 0 _ false wp1 (by simp)).mono ?_
  rintro e w22 ⟨rfl, B22⟩
  replace H_a := Lib.hid (H_a.out.below B22)
  replace H_r := Lib.hid (H_r.out.below B22)
  replace hW := hW.trans (B22.mono hW.size)
  clear B22
  have P := Lib.hid (below_put (g := w.heap.size + 1) (A := none) (n := 0) (c := 0) (s := false) hW (by omega))
  unfold zput at P
  obtain ⟨a1, a2, a3, a4, a5⟩ := H_a.out
  obtain ⟨r1, r2, r3, r4, r5⟩ := H_r.out
  go_wp2_with fail
  clear a1 a2 a3 a4 a5 r1 r2 r3 r4 r5
  obtain ⟨r1, r2, r3, r4, r5⟩ := H_r.out
  exact bodyPost_ret (v := .tuple #[.agg #[.bool false, .slice none 0 0], .bool false]) (by simp [results, Try.results53, go_sem, r1, r2]) rfl ⟨rfl, P.out⟩
theorem zpow_min {A : Option Addr} {n c : Nat} {s : Bool} {w : World} :
    Calls Try.prog 53 #[.agg #[.bool s, .slice A n c], .int .i64 (-9223372036854775808)] w (ZNoPost w) := by
  cases s
  · exact zpow_min_false
  · exact zpow_min_true
set_option maxRecDepth 100000 in
set_option maxHeartbeats 4000000 in
theorem qpow_v {A B : Option Addr} {n c m d k e K : Nat} {s t : Bool} {N D : Int} {w : World} (hn : Zv w s A n c N) (hd : Zv w t B m d D) (hnk : n ≤ k) (hmk : m ≤ k) (h1 : 1 ≤ k) (hk : 64 * k * e ≤ 1048576) (hK : k * e + 1 ≤ K) (hk9 : k ≤ 16384) (he9 : e ≤ 1048576) (hK9 : K ≤ 1073741824) :
    Calls Try.prog 34 #[.agg #[.bool s, .slice A n c, .bool t, .slice B m d], .int .i64 (e : Int)] w (QbPost (Rat.divInt N D ^ e) true K w) := by
  have hW := Below.refl w.heap.size w
  obtain ⟨wp0, hwp0⟩ : ∃ x, x = w.alloc (.cells #[.bool s, .slice A n c, .bool t, .slice B m d] 28) := ⟨_, rfl⟩
  have zp0 : Below w.heap.size w wp0 := by rw [hwp0]; exact zba _ _
  have sp0 : wp0.heap.size = w.heap.size + 1 := by rw [hwp0, World.size_alloc]
  have Ia : Rb wp0 w.heap.size s A n c t B m d := by rw [hwp0]; exact Rb.new _ _ _ _ _ _ _ _ _ _
  replace hn := hn.below zp0
  replace hd := hd.below zp0
  replace hW := hW.trans (zp0.mono hW.size)
  have H_a := Lib.hid Ia
  clear Ia zp0
  obtain ⟨wp1, hwp1⟩ : ∃ x, x = wp0.alloc (.cells #[.bool false, .slice none 0 0, .bool false, .slice none 0 0] 28) := ⟨_, rfl⟩
  have zp1 : Below wp0.heap.size wp0 wp1 := by rw [hwp1]; exact zba _ _
  have sp1 : wp1.heap.size = w.heap.size + 1 + 1 := by rw [hwp1, World.size_alloc, sp0]
  have Ir : Rb wp1 (w.heap.size + 1) false none 0 0 false none 0 0 := by rw [hwp1, ← sp0]; exact Rb.new _ _ _ _ _ _ _ _ _ _
  replace H_a := Lib.hid (H_a.out.below zp1)
  replace hn := hn.below zp1
  replace hd := hd.below zp1
  replace hW := hW.trans (zp1.mono hW.size)
  have H_r := Lib.hid Ir
  clear Ir zp1
  have HW : Hid (((w.alloc (.cells #[.bool s, .slice A n c, .bool t, .slice B m d] 28)).alloc (.cells #[.bool false, .slice none 0 0, .bool false, .slice none 0 0] 28)) = wp1) := Lib.hid (by rw [hwp1, hwp0])
  have nn_a_r : ¬ (w.heap.size = (w.heap.size + 1)) := by omega
  have nm_a_r : ¬ ((w.heap.size + 1) = w.heap.size) := by omega
  have lw_a : w.heap.size ≤ w.heap.size := by omega
  have lw_r : w.heap.size ≤ (w.heap.size + 1) := by omega
  clear hwp0 hwp1 sp0 sp1
  obtain ⟨q, hq⟩ : ∃ q, Rat.divInt N D = q := ⟨_, rfl⟩
  have HQ := Lib.hid hq
  rw [hq]
  have HB : Hid (decide ((q.den : Int) ^ e ≠ 0) = true) := Lib.hid (decide_eq_true (Int.pow_ne_zero (rden_ne q)))
  rw [← rpow_divInt]
  clear hq
  go_enter Try.func34, Try.ntmps34
  obtain ⟨a1, a2, a3, a4, a5, a6, a7, a8, a9⟩ := H_a.out
  obtain ⟨r1, r2, r3, r4, r5, r6, r7, r8, r9⟩ := H_r.out
  go_wp2_with fail
  rw [HW.out]
  clear a1 a2 a3 a4 a5 a6 a7 a8 a9 r1 r2 r3 r4 r5 r6 r7 r8 r9
  refine (normal_v (k := k) hn hd hnk hmk h1 (by omega)).mono ?_
  rintro e w21 ⟨s21, A21, n21, c21, t21, D21, m21, d21, rfl, pq, k21, l21, B21⟩
  replace H_a := Lib.hid (H_a.out.below B21)
  replace H_r := Lib.hid (H_r.out.below B21)
  replace hn := hn.below B21
  replace hd := hd.below B21
  replace hW := hW.trans (B21.mono hW.size)
  clear B21
  rw [HQ.out] at pq
  have O_a := H_a
  have O_r := H_r
  obtain ⟨w22, hw22⟩ : ∃ x, x = rput w21 w.heap.size s21 A21 n21 c21 t21 D21 m21 d21 := ⟨_, rfl⟩
  have HW22 : Hid (((((w21.setCell ⟨w.heap.size, 0, none⟩ (.bool s21)).setCell ⟨w.heap.size, 1, none⟩ (.slice A21 n21 c21)).setCell ⟨w.heap.size, 2, none⟩ (.bool t21)).setCell ⟨w.heap.size, 3, none⟩ (.slice D21 m21 d21)) = w22) := Lib.hid hw22.symm
  have OI := H_a.out
  replace H_r : Hid (Rb w22 (w.heap.size + 1) false none 0 0 false none 0 0) := Lib.hid (by rw [hw22]; exact H_r.out.rput (by omega))
  replace hn := hn.rput (s' := s21) (A' := A21) (n' := n21) (c' := c21) (t' := t21) (B' := D21) (m' := m21) (d' := d21) OI
  replace hd := hd.rput (s' := s21) (A' := A21) (n' := n21) (c' := c21) (t' := t21) (B' := D21) (m' := m21) (d' := d21) OI
  replace pq := pq.rput (s' := s21) (A' := A21) (n' := n21) (c' := c21) (t' := t21) (B' := D21) (m' := m21) (d' := d21) OI
  rw [← hw22] at hn
  rw [← hw22] at hd
  rw [← hw22] at pq
  replace hW : Below w.heap.size w w22 := by rw [hw22]; exact below_rput hW lw_a
  replace H_a : Hid (Rb w22 w.heap.size s21 A21 n21 c21 t21 D21 m21 d21) := Lib.hid (by rw [hw22]; exact OI.own)
  clear hw22 OI
  clear hn hd
  have pn := pq.nv
  have pd := pq.dv
  clear pq
  have hm1 : n21 * e ≤ k * e := Nat.mul_le_mul_right _ (by omega)
  have hm2 : m21 * e ≤ k * e := Nat.mul_le_mul_right _ (by omega)
  have ab1 := Lib.hid (above_words pn.abs.1 k e (by omega) (Nat.le_refl _) hk)
  have ab2 := Lib.hid (above_words pd.abs.1 k e (by omega) (Nat.le_refl _) hk)
  clear hk
  obtain ⟨a1, a2, a3, a4, a5, a6, a7, a8, a9⟩ := O_a.out
  obtain ⟨r1, r2, r3, r4, r5, r6, r7, r8, r9⟩ := O_r.out
  go_wp2_with fail
  rw [HW22.out]
  clear a1 a2 a3 a4 a5 a6 a7 a8 a9 r1 r2 r3 r4 r5 r6 r7 r8 r9 O_a O_r
  refine (zpow_v (K := k * e) pn (by omega) (by omega) ab1.out hm1).mono ?_
  rintro e w23 ⟨s23, A23, n23, c23, rfl, px, k23, B23⟩
  replace H_a := Lib.hid (H_a.out.below B23)
  replace H_r := Lib.hid (H_r.out.below B23)
  replace pn := pn.below B23
  replace pd := pd.below B23
  replace hW := hW.trans (B23.mono hW.size)
  clear B23
  have O_a := H_a
  have O_r := H_r
  obtain ⟨w24, hw24⟩ : ∃ x, x = w23.alloc (.cells #[.bool s23, .slice A23 n23 c23] 25) := ⟨_, rfl⟩
  have z24 : Below w23.heap.size w23 w24 := by rw [hw24]; exact zba _ _
  have HW24 : Hid (w23.alloc (.cells #[.bool s23, .slice A23 n23 c23] 25) = w24) := Lib.hid hw24.symm
  have nn_a_x : ¬ (w.heap.size = w23.heap.size) := by have := H_a.out.2.2.2.2.2.2.2.2; omega
  have nm_a_x : ¬ (w23.heap.size = w.heap.size) := by omega
  have nn_r_x : ¬ ((w.heap.size + 1) = w23.heap.size) := by have := H_r.out.2.2.2.2.2.2.2.2; omega
  have nm_r_x : ¬ (w23.heap.size = (w.heap.size + 1)) := by omega
  have lw_x : w.heap.size ≤ w23.heap.size := hW.size
  replace H_a := Lib.hid (H_a.out.below z24)
  replace H_r := Lib.hid (H_r.out.below z24)
  replace pn := pn.below z24
  replace pd := pd.below z24
  replace px := px.below z24
  replace hW := hW.trans (z24.mono hW.size)
  have H_x : Hid (Ib w24 w23.heap.size s23 A23 n23 c23) := Lib.hid (by rw [hw24]; exact Ib.new _ _ _ _ _ _)
  clear z24 hw24
  obtain ⟨a1, a2, a3, a4, a5, a6, a7, a8, a9⟩ := O_a.out
  obtain ⟨r1, r2, r3, r4, r5, r6, r7, r8, r9⟩ := O_r.out
  go_wp2_with fail
  rw [HW24.out]
  clear a1 a2 a3 a4 a5 a6 a7 a8 a9 r1 r2 r3 r4 r5 r6 r7 r8 r9 O_a O_r
  refine (zpow_v (K := k * e) pd (by omega) (by omega) ab2.out hm2).mono ?_
  rintro e w25 ⟨s25, A25, n25, c25, rfl, py, k25, B25⟩
  replace H_a := Lib.hid (H_a.out.below B25)
  replace H_r := Lib.hid (H_r.out.below B25)
  replace H_x := Lib.hid (H_x.out.below B25)
  replace pn := pn.below B25
  replace pd := pd.below B25
  replace px := px.below B25
  replace hW := hW.trans (B25.mono hW.size)
  clear B25
  have O_a := H_a
  have O_r := H_r
  have O_x := H_x
  obtain ⟨w26, hw26⟩ : ∃ x, x = w25.alloc (.cells #[.bool s25, .slice A25 n25 c25] 25) := ⟨_, rfl⟩
  have z26 : Below w25.heap.size w25 w26 := by rw [hw26]; exact zba _ _
  have HW26 : Hid (w25.alloc (.cells #[.bool s25, .slice A25 n25 c25] 25) = w26) := Lib.hid hw26.symm
  have nn_a_y : ¬ (w.heap.size = w25.heap.size) := by have := H_a.out.2.2.2.2.2.2.2.2; omega
  have nm_a_y : ¬ (w25.heap.size = w.heap.size) := by omega
  have nn_r_y : ¬ ((w.heap.size + 1) = w25.heap.size) := by have := H_r.out.2.2.2.2.2.2.2.2; omega
  have nm_r_y : ¬ (w25.heap.size = (w.heap.size + 1)) := by omega
  have nn_x_y : ¬ (w23.heap.size = w25.heap.size) := by have := H_x.out.2.2.2.2; omega
  have nm_x_y : ¬ (w25.heap.size = w23.heap.size) := by omega
  have lw_y : w.heap.size ≤ w25.heap.size := hW.size
  replace H_a := Lib.hid (H_a.out.below z26)
  replace H_r := Lib.hid (H_r.out.below z26)
  replace H_x := Lib.hid (H_x.out.below z26)
  replace pn := pn.below z26
  replace pd := pd.below z26
  replace px := px.below z26
  replace py := py.below z26
  replace hW := hW.trans (z26.mono hW.size)
  have H_y : Hid (Ib w26 w25.heap.size s25 A25 n25 c25) := Lib.hid (by rw [hw26]; exact Ib.new _ _ _ _ _ _)
  clear z26 hw26
  obtain ⟨a1, a2, a3, a4, a5, a6, a7, a8, a9⟩ := O_a.out
  obtain ⟨r1, r2, r3, r4, r5, r6, r7, r8, r9⟩ := O_r.out
  obtain ⟨x1, x2, x3, x4, x5⟩ := O_x.out
  go_wp2_with fail
  rw [HW26.out]
  clear a1 a2 a3 a4 a5 a6 a7 a8 a9 r1 r2 r3 r4 r5 r6 r7 r8 r9 x1 x2 x3 x4 x5 O_a O_r O_x
  refine (make_v (k := K) (b := true) px.zv py.zv (by omega) (by omega) (by omega) (by omega) HB.out).mono ?_
  rintro e w27 ⟨s27, A27, n27, c27, t27, D27, m27, d27, rfl, pr, k27, l27, B27⟩
  replace H_a := Lib.hid (H_a.out.below B27)
  replace H_r := Lib.hid (H_r.out.below B27)
  replace H_x := Lib.hid (H_x.out.below B27)
  replace H_y := Lib.hid (H_y.out.below B27)
  replace pn := pn.below B27
  replace pd := pd.below B27
  replace px := px.below B27
  replace py := py.below B27
  replace hW := hW.trans (B27.mono hW.size)
  clear B27
  have P := Lib.hid (qbfin (b := true) (w := w) (k := K) pr H_r.out (by omega) (by omega) lw_r hW)
  unfold rput at P
  obtain ⟨a1, a2, a3, a4, a5, a6, a7, a8, a9⟩ := H_a.out
  obtain ⟨r1, r2, r3, r4, r5, r6, r7, r8, r9⟩ := H_r.out
  obtain ⟨x1, x2, x3, x4, x5⟩ := H_x.out
  obtain ⟨y1, y2, y3, y4, y5⟩ := H_y.out
  go_wp2_with fail
  clear a1 a2 a3 a4 a5 a6 a7 a8 a9 r1 r2 r3 r4 r5 r6 r7 r8 r9 x1 x2 x3 x4 x5 y1 y2 y3 y4 y5
  obtain ⟨r1, r2, r3, r4, r5, r6, r7, r8, r9⟩ := H_r.out
  exact bodyPost_ret (v := (.tuple #[.agg #[.bool s27, .slice A27 n27 c27, .bool t27, .slice D27 m27 d27], .bool true])) (by simp [results, Try.results34, go_sem, r1, r2, r3, r4]) rfl P.out
set_option maxRecDepth 100000 in
set_option maxHeartbeats 4000000 in
theorem qpow_neg {A B : Option Addr} {n c m d k e K : Nat} {s t : Bool} {N D : Int} {w : World} (hn : Zv w s A n c N) (hd : Zv w t B m d D) (hnk : n ≤ k) (hmk : m ≤ k) (h1 : 1 ≤ k) (hk : 64 * k * e ≤ 1048576) (hK : k * e + 1 ≤ K) (hk9 : k ≤ 16384) (he9 : e ≤ 1048576) (hK9 : K ≤ 1073741824) (he0 : 0 < e) {b : Bool} (hb0 : decide (Rat.divInt N D ≠ 0) = b) :
    Calls Try.prog 34 #[.agg #[.bool s, .slice A n c, .bool t, .slice B m d], .int .i64 (-(e : Int))] w (QbPost ((Rat.divInt N D)⁻¹ ^ e) b K w) := by
  have hW := Below.refl w.heap.size w
  obtain ⟨wp0, hwp0⟩ : ∃ x, x = w.alloc (.cells #[.bool s, .slice A n c, .bool t, .slice B m d] 28) := ⟨_, rfl⟩
  have zp0 : Below w.heap.size w wp0 := by rw [hwp0]; exact zba _ _
  have sp0 : wp0.heap.size = w.heap.size + 1 := by rw [hwp0, World.size_alloc]
  have Ia : Rb wp0 w.heap.size s A n c t B m d := by rw [hwp0]; exact Rb.new _ _ _ _ _ _ _ _ _ _
  replace hn := hn.below zp0
  replace hd := hd.below zp0
  replace hW := hW.trans (zp0.mono hW.size)
  have H_a := Lib.hid Ia
  clear Ia zp0
  obtain ⟨wp1, hwp1⟩ : ∃ x, x = wp0.alloc (.cells #[.bool false, .slice none 0 0, .bool false, .slice none 0 0] 28) := ⟨_, rfl⟩
  have zp1 : Below wp0.heap.size wp0 wp1 := by rw [hwp1]; exact zba _ _
  have sp1 : wp1.heap.size = w.heap.size + 1 + 1 := by rw [hwp1, World.size_alloc, sp0]
  have Ir : Rb wp1 (w.heap.size + 1) false none 0 0 false none 0 0 := by rw [hwp1, ← sp0]; exact Rb.new _ _ _ _ _ _ _ _ _ _
  replace H_a := Lib.hid (H_a.out.below zp1)
  replace hn := hn.below zp1
  replace hd := hd.below zp1
  replace hW := hW.trans (zp1.mono hW.size)
  have H_r := Lib.hid Ir
  clear Ir zp1
  have HW : Hid (((w.alloc (.cells #[.bool s, .slice A n c, .bool t, .slice B m d] 28)).alloc (.cells #[.bool false, .slice none 0 0, .bool false, .slice none 0 0] 28)) = wp1) := Lib.hid (by rw [hwp1, hwp0])
  have nn_a_r : ¬ (w.heap.size = (w.heap.size + 1)) := by omega
  have nm_a_r : ¬ ((w.heap.size + 1) = w.heap.size) := by omega
  have lw_a : w.heap.size ≤ w.heap.size := by omega
  have lw_r : w.heap.size ≤ (w.heap.size + 1) := by omega
  clear hwp0 hwp1 sp0 sp1
  obtain ⟨q, hq⟩ : ∃ q, Rat.divInt N D = q := ⟨_, rfl⟩
  have HQ := Lib.hid hq
  rw [hq]
  have HB : Hid (decide (q.num ^ e ≠ 0) = b) := Lib.hid (by rw [← hb0, decide_eq_decide, hq]; constructor
                                                            · intro h h2; exact h (by rw [h2]; exact Int.zero_pow (by omega))
                                                            · intro h h2; exact Int.pow_ne_zero (fun h3 => h (Rat.num_eq_zero.1 h3)) h2)
  have hneg : -(e : Int) < 0 := by omega
  have hwr : wrap64 (e : Int) = (e : Int) := by unfold wrap64; omega
  rw [← rinv_divInt]
  clear hq hb0
  go_enter Try.func34, Try.ntmps34
  obtain ⟨a1, a2, a3, a4, a5, a6, a7, a8, a9⟩ := H_a.out
  obtain ⟨r1, r2, r3, r4, r5, r6, r7, r8, r9⟩ := H_r.out
  go_wp2_with fail
  rw [HW.out]
  clear a1 a2 a3 a4 a5 a6 a7 a8 a9 r1 r2 r3 r4 r5 r6 r7 r8 r9
  refine (normal_v (k := k) hn hd hnk hmk h1 (by omega)).mono ?_
  rintro e w21 ⟨s21, A21, n21, c21, t21, D21, m21, d21, rfl, pq, k21, l21, B21⟩
  replace H_a := Lib.hid (H_a.out.below B21)
  replace H_r := Lib.hid (H_r.out.below B21)
  replace hn := hn.below B21
  replace hd := hd.below B21
  replace hW := hW.trans (B21.mono hW.size)
  clear B21
  rw [HQ.out] at pq
  have O_a := H_a
  have O_r := H_r
  obtain ⟨w22, hw22⟩ : ∃ x, x = rput w21 w.heap.size s21 A21 n21 c21 t21 D21 m21 d21 := ⟨_, rfl⟩
  have HW22 : Hid (((((w21.setCell ⟨w.heap.size, 0, none⟩ (.bool s21)).setCell ⟨w.heap.size, 1, none⟩ (.slice A21 n21 c21)).setCell ⟨w.heap.size, 2, none⟩ (.bool t21)).setCell ⟨w.heap.size, 3, none⟩ (.slice D21 m21 d21)) = w22) := Lib.hid hw22.symm
  have OI := H_a.out
  replace H_r : Hid (Rb w22 (w.heap.size + 1) false none 0 0 false none 0 0) := Lib.hid (by rw [hw22]; exact H_r.out.rput (by omega))
  replace hn := hn.rput (s' := s21) (A' := A21) (n' := n21) (c' := c21) (t' := t21) (B' := D21) (m' := m21) (d' := d21) OI
  replace hd := hd.rput (s' := s21) (A' := A21) (n' := n21) (c' := c21) (t' := t21) (B' := D21) (m' := m21) (d' := d21) OI
  replace pq := pq.rput (s' := s21) (A' := A21) (n' := n21) (c' := c21) (t' := t21) (B' := D21) (m' := m21) (d' := d21) OI
  rw [← hw22] at hn
  rw [← hw22] at hd
  rw [← hw22] at pq
  replace hW : Below w.heap.size w w22 := by rw [hw22]; exact below_rput hW lw_a
  replace H_a : Hid (Rb w22 w.heap.size s21 A21 n21 c21 t21 D21 m21 d21) := Lib.hid (by rw [hw22]; exact OI.own)
  clear hw22 OI
  clear hn hd
  have pn := pq.nv
  have pd := pq.dv
  clear pq
  obtain ⟨a1, a2, a3, a4, a5, a6, a7, a8, a9⟩ := O_a.out
  obtain ⟨r1, r2, r3, r4, r5, r6, r7, r8, r9⟩ := O_r.out
  go_upto_region 3 with fail
  rw [HW22.out]
  clear a1 a2 a3 a4 a5 a6 a7 a8 a9 r1 r2 r3 r4 r5 r6 r7 r8 r9 O_a O_r
  have O_a := H_a
  have O_r := H_r
  obtain ⟨w23, hw23⟩ : ∃ x, x = rput w22 w.heap.size t21 D21 m21 d21 s21 A21 n21 c21 := ⟨_, rfl⟩
  have HW23 : Hid (((((w22.setCell ⟨w.heap.size, 0, none⟩ (.bool t21)).setCell ⟨w.heap.size, 1, none⟩ (.slice D21 m21 d21)).setCell ⟨w.heap.size, 2, none⟩ (.bool s21)).setCell ⟨w.heap.size, 3, none⟩ (.slice A21 n21 c21)) = w23) := Lib.hid hw23.symm
  have OI := H_a.out
  replace H_r : Hid (Rb w23 (w.heap.size + 1) false none 0 0 false none 0 0) := Lib.hid (by rw [hw23]; exact H_r.out.rput (by omega))
  replace pn := pn.rput (s' := t21) (A' := D21) (n' := m21) (c' := d21) (t' := s21) (B' := A21) (m' := n21) (d' := c21) OI
  replace pd := pd.rput (s' := t21) (A' := D21) (n' := m21) (c' := d21) (t' := s21) (B' := A21) (m' := n21) (d' := c21) OI
  rw [← hw23] at pn
  rw [← hw23] at pd
  replace hW : Below w.heap.size w w23 := by rw [hw23]; exact below_rput hW lw_a
  replace H_a : Hid (Rb w23 w.heap.size t21 D21 m21 d21 s21 A21 n21 c21) := Lib.hid (by rw [hw23]; exact OI.own)
  clear hw23 OI
  have hm1 : m21 * e ≤ k * e := Nat.mul_le_mul_right _ (by omega)
  have hm2 : n21 * e ≤ k * e := Nat.mul_le_mul_right _ (by omega)
  have ab1 := Lib.hid (above_words pd.abs.1 k e (by omega) (Nat.le_refl _) hk)
  have ab2 := Lib.hid (above_words pn.abs.1 k e (by omega) (Nat.le_refl _) hk)
  clear hk
  obtain ⟨a1, a2, a3, a4, a5, a6, a7, a8, a9⟩ := O_a.out
  obtain ⟨r1, r2, r3, r4, r5, r6, r7, r8, r9⟩ := O_r.out
  go_wp2_with fail
  rw [HW23.out]
  clear a1 a2 a3 a4 a5 a6 a7 a8 a9 r1 r2 r3 r4 r5 r6 r7 r8 r9 O_a O_r
  refine (zpow_v (K := k * e) pd (by omega) (by omega) ab1.out hm1).mono ?_
  rintro e w24 ⟨s24, A24, n24, c24, rfl, px, k24, B24⟩
  replace H_a := Lib.hid (H_a.out.below B24)
  replace H_r := Lib.hid (H_r.out.below B24)
  replace pn := pn.below B24
  replace pd := pd.below B24
  replace hW := hW.trans (B24.mono hW.size)
  clear B24
  have O_a := H_a
  have O_r := H_r
  obtain ⟨w25, hw25⟩ : ∃ x, x = w24.alloc (.cells #[.bool s24, .slice A24 n24 c24] 25) := ⟨_, rfl⟩
  have z25 : Below w24.heap.size w24 w25 := by rw [hw25]; exact zba _ _
  have HW25 : Hid (w24.alloc (.cells #[.bool s24, .slice A24 n24 c24] 25) = w25) := Lib.hid hw25.symm
  have nn_a_x : ¬ (w.heap.size = w24.heap.size) := by have := H_a.out.2.2.2.2.2.2.2.2; omega
  have nm_a_x : ¬ (w24.heap.size = w.heap.size) := by omega
  have nn_r_x : ¬ ((w.heap.size + 1) = w24.heap.size) := by have := H_r.out.2.2.2.2.2.2.2.2; omega
  have nm_r_x : ¬ (w24.heap.size = (w.heap.size + 1)) := by omega
  have lw_x : w.heap.size ≤ w24.heap.size := hW.size
  replace H_a := Lib.hid (H_a.out.below z25)
  replace H_r := Lib.hid (H_r.out.below z25)
  replace pn := pn.below z25
  replace pd := pd.below z25
  replace px := px.below z25
  replace hW := hW.trans (z25.mono hW.size)
  have H_x : Hid (Ib w25 w24.heap.size s24 A24 n24 c24) := Lib.hid (by rw [hw25]; exact Ib.new _ _ _ _ _ _)
  clear z25 hw25
  obtain ⟨a1, a2, a3, a4, a5, a6, a7, a8, a9⟩ := O_a.out
  obtain ⟨r1, r2, r3, r4, r5, r6, r7, r8, r9⟩ := O_r.out
  go_wp2_with fail
  rw [HW25.out]
  clear a1 a2 a3 a4 a5 a6 a7 a8 a9 r1 r2 r3 r4 r5 r6 r7 r8 r9 O_a O_r
  refine (zpow_v (K := k * e) pn (by omega) (by omega) ab2.out hm2).mono ?_
  rintro e w26 ⟨s26, A26, n26, c26, rfl, py, k26, B26⟩
  replace H_a := Lib.hid (H_a.out.below B26)
  replace H_r := Lib.hid (H_r.out.below B26)
  replace H_x := Lib.hid (H_x.out.below B26)
  replace pn := pn.below B26
  replace pd := pd.below B26
  replace px := px.below B26
  replace hW := hW.trans (B26.mono hW.size)
  clear B26
  have O_a := H_a
  have O_r := H_r
  have O_x := H_x
  obtain ⟨w27, hw27⟩ : ∃ x, x = w26.alloc (.cells #[.bool s26, .slice A26 n26 c26] 25) := ⟨_, rfl⟩
  have z27 : Below w26.heap.size w26 w27 := by rw [hw27]; exact zba _ _
  have HW27 : Hid (w26.alloc (.cells #[.bool s26, .slice A26 n26 c26] 25) = w27) := Lib.hid hw27.symm
  have nn_a_y : ¬ (w.heap.size = w26.heap.size) := by have := H_a.out.2.2.2.2.2.2.2.2; omega
  have nm_a_y : ¬ (w26.heap.size = w.heap.size) := by omega
  have nn_r_y : ¬ ((w.heap.size + 1) = w26.heap.size) := by have := H_r.out.2.2.2.2.2.2.2.2; omega
  have nm_r_y : ¬ (w26.heap.size = (w.heap.size + 1)) := by omega
  have nn_x_y : ¬ (w24.heap.size = w26.heap.size) := by have := H_x.out.2.2.2.2; omega
  have nm_x_y : ¬ (w26.heap.size = w24.heap.size) := by omega
  have lw_y : w.heap.size ≤ w26.heap.size := hW.size
  replace H_a := Lib.hid (H_a.out.below z27)
  replace H_r := Lib.hid (H_r.out.below z27)
  replace H_x := Lib.hid (H_x.out.below z27)
  replace pn := pn.below z27
  replace pd := pd.below z27
  replace px := px.below z27
  replace py := py.below z27
  replace hW := hW.trans (z27.mono hW.size)
  have H_y : Hid (Ib w27 w26.heap.size s26 A26 n26 c26) := Lib.hid (by rw [hw27]; exact Ib.new _ _ _ _ _ _)
  clear z27 hw27
  obtain ⟨a1, a2, a3, a4, a5, a6, a7, a8, a9⟩ := O_a.out
  obtain ⟨r1, r2, r3, r4, r5, r6, r7, r8, r9⟩ := O_r.out
  obtain ⟨x1, x2, x3, x4, x5⟩ := O_x.out
  go_wp2_with fail
  rw [HW27.out]
  clear a1 a2 a3 a4 a5 a6 a7 a8 a9 r1 r2 r3 r4 r5 r6 r7 r8 r9 x1 x2 x3 x4 x5 O_a O_r O_x
  refine (make_v (k := K) (b := b) px.zv py.zv (by omega) (by omega) (by omega) (by omega) HB.out).mono ?_
  rintro e w28 ⟨s28, A28, n28, c28, t28, D28, m28, d28, rfl, pr, k28, l28, B28⟩
  replace H_a := Lib.hid (H_a.out.below B28)
  replace H_r := Lib.hid (H_r.out.below B28)
  replace H_x := Lib.hid (H_x.out.below B28)
  replace H_y := Lib.hid (H_y.out.below B28)
  replace pn := pn.below B28
  replace pd := pd.below B28
  replace px := px.below B28
  replace py := py.below B28
  replace hW := hW.trans (B28.mono hW.size)
  clear B28
  have P := Lib.hid (qbfin (b := b) (w := w) (k := K) pr H_r.out (by omega) (by omega) lw_r hW)
  unfold rput at P
  obtain ⟨a1, a2, a3, a4, a5, a6, a7, a8, a9⟩ := H_a.out
  obtain ⟨r1, r2, r3, r4, r5, r6, r7, r8, r9⟩ := H_r.out
  obtain ⟨x1, x2, x3, x4, x5⟩ := H_x.out
  obtain ⟨y1, y2, y3, y4, y5⟩ := H_y.out
  go_wp2_with fail
  clear a1 a2 a3 a4 a5 a6 a7 a8 a9 r1 r2 r3 r4 r5 r6 r7 r8 r9 x1 x2 x3 x4 x5 y1 y2 y3 y4 y5
  obtain ⟨r1, r2, r3, r4, r5, r6, r7, r8, r9⟩ := H_r.out
  exact bodyPost_ret (v := (.tuple #[.agg #[.bool s28, .slice A28 n28 c28, .bool t28, .slice D28 m28 d28], .bool b])) (by simp [results, Try.results34, go_sem, r1, r2, r3, r4]) rfl P.out
theorem zstr_size {w : World} {s : Bool} {A : Option Addr} {n c : Nat} {z : Int} (h : Zv w s A n c z) (hn : n ≤ 900) : (zstr z).size ≤ 20001 := by
  have hsz : (str (dgs z.natAbs)).size ≤ 20000 := by
    rw [← bys_length, bys_str (dig_dgs z.natAbs).low, dgs_length]
    exact nv_digits h.abs.1 hn
  unfold zstr
  split
  · rw [ByteArray.size_append]
    have : ({ data := #[45] } : ByteArray).size = 1 := rfl
    omega
  · omega
/-- The text of a fraction. -/
def qstr (q : Rat) : ByteArray := if q.den = 1 then zstr q.num else zstr q.num ++ ({ data := #[47] } : ByteArray) ++ zstr (q.den : Int)
def QPrPost (q : Rat) (w : World) (e : Ending) (w' : World) : Prop := e = .returned (.string (qstr q)) ∧ Below w.heap.size w w'
set_option maxRecDepth 100000 in
set_option maxHeartbeats 4000000 in
theorem qprint_one {A B : Option Addr} {n c m d k : Nat} {s t : Bool} {N D : Int} {w : World} (hn : Zv w s A n c N) (hd : Zv w t B m d D) (hnk : n ≤ k) (hmk : m ≤ k) (h1 : 1 ≤ k) (hk : k ≤ 900) (h : (Rat.divInt N D).den = 1) :
    Calls Try.prog 36 #[.agg #[.bool s, .slice A n c, .bool t, .slice B m d]] w (QPrPost (Rat.divInt N D) w) := by
  have hW := Below.refl w.heap.size w
  obtain ⟨wp0, hwp0⟩ : ∃ x, x = w.alloc (.cells #[.bool s, .slice A n c, .bool t, .slice B m d] 28) := ⟨_, rfl⟩
  have zp0 : Below w.heap.size w wp0 := by rw [hwp0]; exact zba _ _
  have sp0 : wp0.heap.size = w.heap.size + 1 := by rw [hwp0, World.size_alloc]
  have Ia : Rb wp0 w.heap.size s A n c t B m d := by rw [hwp0]; exact Rb.new _ _ _ _ _ _ _ _ _ _
  replace hn := hn.below zp0
  replace hd := hd.below zp0
  replace hW := hW.trans (zp0.mono hW.size)
  have H_a := Lib.hid Ia
  clear Ia zp0
  have HW : Hid ((w.alloc (.cells #[.bool s, .slice A n c, .bool t, .slice B m d] 28)) = wp0) := Lib.hid (by rw [hwp0])
  have lw_a : w.heap.size ≤ w.heap.size := by omega
  clear hwp0 sp0
  obtain ⟨q, hq⟩ : ∃ q, Rat.divInt N D = q := ⟨_, rfl⟩
  have HQ := Lib.hid hq
  rw [hq] at h
  rw [hq]
  have HB : Hid (decide ((q.den : Int) = 1) = true) := Lib.hid (by simp; omega)
  obtain ⟨S1, hS1⟩ : ∃ S, zstr q.num = S := ⟨_, rfl⟩
  obtain ⟨S2, hS2⟩ : ∃ S, zstr (q.den : Int) = S := ⟨_, rfl⟩
  have HS1 := Lib.hid hS1
  have HS2 := Lib.hid hS2
  have HS : Hid (qstr q = S1) := Lib.hid (by unfold qstr; rw [if_pos h, hS1])
  clear hq hS1 hS2 h
  go_enter Try.func36, Try.ntmps36
  obtain ⟨a1, a2, a3, a4, a5, a6, a7, a8, a9⟩ := H_a.out
  go_wp2_with fail
  rw [HW.out]
  clear a1 a2 a3 a4 a5 a6 a7 a8 a9
  refine (normal_v (k := k) hn hd hnk hmk h1 (by omega)).mono ?_
  rintro e w21 ⟨s21, A21, n21, c21, t21, D21, m21, d21, rfl, pq, k21, l21, B21⟩
  replace H_a := Lib.hid (H_a.out.below B21)
  replace hn := hn.below B21
  replace hd := hd.below B21
  replace hW := hW.trans (B21.mono hW.size)
  clear B21
  rw [HQ.out] at pq
  have O_a := H_a
  obtain ⟨w22, hw22⟩ : ∃ x, x = rput w21 w.heap.size s21 A21 n21 c21 t21 D21 m21 d21 := ⟨_, rfl⟩
  have HW22 : Hid (((((w21.setCell ⟨w.heap.size, 0, none⟩ (.bool s21)).setCell ⟨w.heap.size, 1, none⟩ (.slice A21 n21 c21)).setCell ⟨w.heap.size, 2, none⟩ (.bool t21)).setCell ⟨w.heap.size, 3, none⟩ (.slice D21 m21 d21)) = w22) := Lib.hid hw22.symm
  have OI := H_a.out
  replace hn := hn.rput (s' := s21) (A' := A21) (n' := n21) (c' := c21) (t' := t21) (B' := D21) (m' := m21) (d' := d21) OI
  replace hd := hd.rput (s' := s21) (A' := A21) (n' := n21) (c' := c21) (t' := t21) (B' := D21) (m' := m21) (d' := d21) OI
  replace pq := pq.rput (s' := s21) (A' := A21) (n' := n21) (c' := c21) (t' := t21) (B' := D21) (m' := m21) (d' := d21) OI
  rw [← hw22] at hn
  rw [← hw22] at hd
  rw [← hw22] at pq
  replace hW : Below w.heap.size w w22 := by rw [hw22]; exact below_rput hW lw_a
  replace H_a : Hid (Rb w22 w.heap.size s21 A21 n21 c21 t21 D21 m21 d21) := Lib.hid (by rw [hw22]; exact OI.own)
  clear hw22 OI
  clear hn hd
  have hz1 : S1.size ≤ 9223372036854775806 := by have := zstr_size pq.nv (by omega); rw [HS1.out] at this; omega
  have hz2 : S1.size + 1 + S2.size ≤ 9223372036854775807 := by have k1 := zstr_size pq.nv (by omega); have k2 := zstr_size pq.dv (by omega); rw [HS1.out] at k1; rw [HS2.out] at k2; omega
  obtain ⟨a1, a2, a3, a4, a5, a6, a7, a8, a9⟩ := O_a.out
  go_wp2_with fail
  rw [HW22.out]
  clear a1 a2 a3 a4 a5 a6 a7 a8 a9 O_a
  refine (isone_v pq.dv (by omega) HB.out).mono ?_
  rintro e w23 ⟨rfl, B23⟩
  replace H_a := Lib.hid (H_a.out.below B23)
  replace pq := pq.below B23
  replace hW := hW.trans (B23.mono hW.size)
  clear B23
  have PR1 : ∀ w : World, ZPrPost q.num w = fun e w' => e = .returned (.string S1) ∧ Below w.heap.size w w' := fun w => by unfold ZPrPost; rw [HS1.out]
  have PR2 : ∀ w : World, ZPrPost (q.den : Int) w = fun e w' => e = .returned (.string S2) ∧ Below w.heap.size w w' := fun w => by unfold ZPrPost; rw [HS2.out]
  obtain ⟨a1, a2, a3, a4, a5, a6, a7, a8, a9⟩ := H_a.out
  go_wp2_with fail
  clear a1 a2 a3 a4 a5 a6 a7 a8 a9
  refine ((PR1 _) ▸ zprint_v pq.nv (by omega)).mono ?_
  rintro e w24 ⟨rfl, B24⟩
  replace H_a := Lib.hid (H_a.out.below B24)
  replace pq := pq.below B24
  replace hW := hW.trans (B24.mono hW.size)
  clear B24
  go_wp2_with fail
  go_ret
  unfold QPrPost
  rw [HS.out]
  exact ⟨rfl, hW⟩
set_option maxRecDepth 100000 in
set_option maxHeartbeats 4000000 in
theorem qprint_two {A B : Option Addr} {n c m d k : Nat} {s t : Bool} {N D : Int} {w : World} (hn : Zv w s A n c N) (hd : Zv w t B m d D) (hnk : n ≤ k) (hmk : m ≤ k) (h1 : 1 ≤ k) (hk : k ≤ 900) (h : (Rat.divInt N D).den ≠ 1) :
    Calls Try.prog 36 #[.agg #[.bool s, .slice A n c, .bool t, .slice B m d]] w (QPrPost (Rat.divInt N D) w) := by
  have hW := Below.refl w.heap.size w
  obtain ⟨wp0, hwp0⟩ : ∃ x, x = w.alloc (.cells #[.bool s, .slice A n c, .bool t, .slice B m d] 28) := ⟨_, rfl⟩
  have zp0 : Below w.heap.size w wp0 := by rw [hwp0]; exact zba _ _
  have sp0 : wp0.heap.size = w.heap.size + 1 := by rw [hwp0, World.size_alloc]
  have Ia : Rb wp0 w.heap.size s A n c t B m d := by rw [hwp0]; exact Rb.new _ _ _ _ _ _ _ _ _ _
  replace hn := hn.below zp0
  replace hd := hd.below zp0
  replace hW := hW.trans (zp0.mono hW.size)
  have H_a := Lib.hid Ia
  clear Ia zp0
  have HW : Hid ((w.alloc (.cells #[.bool s, .slice A n c, .bool t, .slice B m d] 28)) = wp0) := Lib.hid (by rw [hwp0])
  have lw_a : w.heap.size ≤ w.heap.size := by omega
  clear hwp0 sp0
  obtain ⟨q, hq⟩ : ∃ q, Rat.divInt N D = q := ⟨_, rfl⟩
  have HQ := Lib.hid hq
  rw [hq] at h
  rw [hq]
  have HB : Hid (decide ((q.den : Int) = 1) = false) := Lib.hid (by simp; omega)
  obtain ⟨S1, hS1⟩ : ∃ S, zstr q.num = S := ⟨_, rfl⟩
  obtain ⟨S2, hS2⟩ : ∃ S, zstr (q.den : Int) = S := ⟨_, rfl⟩
  have HS1 := Lib.hid hS1
  have HS2 := Lib.hid hS2
  have HS : Hid (qstr q = S1 ++ ({ data := #[47] } : ByteArray) ++ S2) := Lib.hid (by unfold qstr; rw [if_neg h, hS1, hS2])
  clear hq hS1 hS2 h
  go_enter Try.func36, Try.ntmps36
  obtain ⟨a1, a2, a3, a4, a5, a6, a7, a8, a9⟩ := H_a.out
  go_wp2_with fail
  rw [HW.out]
  clear a1 a2 a3 a4 a5 a6 a7 a8 a9
  refine (normal_v (k := k) hn hd hnk hmk h1 (by omega)).mono ?_
  rintro e w21 ⟨s21, A21, n21, c21, t21, D21, m21, d21, rfl, pq, k21, l21, B21⟩
  replace H_a := Lib.hid (H_a.out.below B21)
  replace hn := hn.below B21
  replace hd := hd.below B21
  replace hW := hW.trans (B21.mono hW.size)
  clear B21
  rw [HQ.out] at pq
  have O_a := H_a
  obtain ⟨w22, hw22⟩ : ∃ x, x = rput w21 w.heap.size s21 A21 n21 c21 t21 D21 m21 d21 := ⟨_, rfl⟩
  have HW22 : Hid (((((w21.setCell ⟨w.heap.size, 0, none⟩ (.bool s21)).setCell ⟨w.heap.size, 1, none⟩ (.slice A21 n21 c21)).setCell ⟨w.heap.size, 2, none⟩ (.bool t21)).setCell ⟨w.heap.size, 3, none⟩ (.slice D21 m21 d21)) = w22) := Lib.hid hw22.symm
  have OI := H_a.out
  replace hn := hn.rput (s' := s21) (A' := A21) (n' := n21) (c' := c21) (t' := t21) (B' := D21) (m' := m21) (d' := d21) OI
  replace hd := hd.rput (s' := s21) (A' := A21) (n' := n21) (c' := c21) (t' := t21) (B' := D21) (m' := m21) (d' := d21) OI
  replace pq := pq.rput (s' := s21) (A' := A21) (n' := n21) (c' := c21) (t' := t21) (B' := D21) (m' := m21) (d' := d21) OI
  rw [← hw22] at hn
  rw [← hw22] at hd
  rw [← hw22] at pq
  replace hW : Below w.heap.size w w22 := by rw [hw22]; exact below_rput hW lw_a
  replace H_a : Hid (Rb w22 w.heap.size s21 A21 n21 c21 t21 D21 m21 d21) := Lib.hid (by rw [hw22]; exact OI.own)
  clear hw22 OI
  clear hn hd
  have hz1 : S1.size ≤ 9223372036854775806 := by have := zstr_size pq.nv (by omega); rw [HS1.out] at this; omega
  have hz2 : S1.size + 1 + S2.size ≤ 9223372036854775807 := by have k1 := zstr_size pq.nv (by omega); have k2 := zstr_size pq.dv (by omega); rw [HS1.out] at k1; rw [HS2.out] at k2; omega
  obtain ⟨a1, a2, a3, a4, a5, a6, a7, a8, a9⟩ := O_a.out
  go_wp2_with fail
  rw [HW22.out]
  clear a1 a2 a3 a4 a5 a6 a7 a8 a9 O_a
  refine (isone_v pq.dv (by omega) HB.out).mono ?_
  rintro e w23 ⟨rfl, B23⟩
  replace H_a := Lib.hid (H_a.out.below B23)
  replace pq := pq.below B23
  replace hW := hW.trans (B23.mono hW.size)
  clear B23
  have PR1 : ∀ w : World, ZPrPost q.num w = fun e w' => e = .returned (.string S1) ∧ Below w.heap.size w w' := fun w => by unfold ZPrPost; rw [HS1.out]
  have PR2 : ∀ w : World, ZPrPost (q.den : Int) w = fun e w' => e = .returned (.string S2) ∧ Below w.heap.size w w' := fun w => by unfold ZPrPost; rw [HS2.out]
  obtain ⟨a1, a2, a3, a4, a5, a6, a7, a8, a9⟩ := H_a.out
  go_wp2_with fail
  clear a1 a2 a3 a4 a5 a6 a7 a8 a9
  refine region7 [] 9 [IsK (.pointer (some ⟨w.heap.size, 0, none⟩)), IsK (.agg #[.bool s21, .slice A21 n21 c21]), IsK (.string S1), IsK (.string (S1 ++ ({ data := #[47] } : ByteArray))), IsK (.pointer (some ⟨w.heap.size, 2, none⟩)), IsK (.agg #[.bool t21, .slice D21 m21 d21]), IsK (.string S2), IsK (.string (S1 ++ ({ data := #[47] } : ByteArray) ++ S2)), IsK (.string (S1 ++ ({ data := #[47] } : ByteArray) ++ S2))] (fun _ _ d _ _ h => by cases d <;> exact h) (by kernel_rfl) (by kernel_rfl) (by kernel_rfl) ⟨stay_k _, stay_k _, stay_k _, stay_k _, stay_k _, stay_k _, stay_k _, stay_k _, stay_k _, trivial⟩ ?_ ?_
  · refine HopAll.cons rfl ?_ (HopAll.cons rfl ?_ (HopAll.cons rfl ?_ (HopAll.cons rfl ?_ (HopAll.cons rfl ?_ (HopAll.cons rfl ?_ (HopAll.cons rfl ?_ (HopAll.cons rfl ?_ (HopAll.cons rfl ?_ HopAll.nil))))))))
    · intro a w1 hB ho hp K hK
      have e1 : a.eval (.tmp 1) = (.pointer (some ⟨w.heap.size, 0, none⟩)) := ho 1 (by kernel_rfl)
      refine hop_val (wanted_none rfl) ?_ (hK (.pointer (some ⟨w.heap.size, 0, none⟩)) _ rfl (Below.refl _ _))
      unfold execOp; simp only [e1]; simp [go_sem]
    · intro a w1 hB ho hp K hK
      have e14 : a.eval (.tmp 14) = (.pointer (some ⟨w.heap.size, 0, none⟩)) := hp 0 14 (by kernel_rfl)
      obtain ⟨u1, u2, u3, u4, u5, u6, u7, u8, u9⟩ := H_a.out.below hB
      exact hop_load (wanted_none rfl) rfl e14 (run_ldz u1 u2) (hK _ _ rfl (Below.refl _ _))
    · intro a w1 hB ho hp K hK
      have e15 : a.eval (.tmp 15) = (.agg #[.bool s21, .slice A21 n21 c21]) := hp 1 15 (by kernel_rfl)
      refine hop_call (wanted_none rfl) rfl (args := #[(.agg #[.bool s21, .slice A21 n21 c21])]) (by simp only [List.map_toArray, List.map_cons, List.map_nil, eval_const, e15]) (ent7 (by kernel_rfl) _ _) ((PR1 _) ▸ zprint_v (pq.below hB).nv (by omega)) ?_
      rintro e w2 ⟨rfl, B⟩
      exact ⟨_, rfl, hK _ _ rfl B⟩
    · intro a w1 hB ho hp K hK
      have e16 : a.eval (.tmp 16) = (.string S1) := hp 2 16 (by kernel_rfl)
      refine hop_val (wanted_none rfl) ?_ (hK (.string (S1 ++ ({ data := #[47] } : ByteArray))) _ rfl (Below.refl _ _))
      unfold execOp; simp only [eval_const, e16]; simp [go_sem, hz1]
    · intro a w1 hB ho hp K hK
      have e1 : a.eval (.tmp 1) = (.pointer (some ⟨w.heap.size, 0, none⟩)) := ho 1 (by kernel_rfl)
      refine hop_val (wanted_none rfl) ?_ (hK (.pointer (some ⟨w.heap.size, 2, none⟩)) _ rfl (Below.refl _ _))
      unfold execOp; simp only [e1]; simp [go_sem]
    · intro a w1 hB ho hp K hK
      have e18 : a.eval (.tmp 18) = (.pointer (some ⟨w.heap.size, 2, none⟩)) := hp 4 18 (by kernel_rfl)
      obtain ⟨u1, u2, u3, u4, u5, u6, u7, u8, u9⟩ := H_a.out.below hB
      exact hop_load (wanted_none rfl) rfl e18 (run_ldz u3 u4) (hK _ _ rfl (Below.refl _ _))
    · intro a w1 hB ho hp K hK
      have e19 : a.eval (.tmp 19) = (.agg #[.bool t21, .slice D21 m21 d21]) := hp 5 19 (by kernel_rfl)
      refine hop_call (wanted_none rfl) rfl (args := #[(.agg #[.bool t21, .slice D21 m21 d21])]) (by simp only [List.map_toArray, List.map_cons, List.map_nil, eval_const, e19]) (ent7 (by kernel_rfl) _ _) ((PR2 _) ▸ zprint_v (pq.below hB).dv (by omega)) ?_
      rintro e w2 ⟨rfl, B⟩
      exact ⟨_, rfl, hK _ _ rfl B⟩
    · intro a w1 hB ho hp K hK
      have e17 : a.eval (.tmp 17) = (.string (S1 ++ ({ data := #[47] } : ByteArray))) := hp 3 17 (by kernel_rfl)
      have e20 : a.eval (.tmp 20) = (.string S2) := hp 6 20 (by kernel_rfl)
      refine hop_val (wanted_none rfl) ?_ (hK (.string (S1 ++ ({ data := #[47] } : ByteArray) ++ S2)) _ rfl (Below.refl _ _))
      unfold execOp; simp only [eval_const, e17, e20]; simp [go_sem, hz2]
    · intro a w1 hB ho hp K hK
      have e21 : a.eval (.tmp 21) = (.string (S1 ++ ({ data := #[47] } : ByteArray) ++ S2)) := hp 7 21 (by kernel_rfl)
      refine hop_val (wanted_none rfl) ?_ (hK (.string (S1 ++ ({ data := #[47] } : ByteArray) ++ S2)) _ rfl (Below.refl _ _))
      unfold execOp; simp only [eval_const, e21]; simp [go_sem]
  intro w24 B24
  refine EndAll.one rfl fun vv hv => ?_
  obtain rfl : vv = (.pointer (some ⟨w.heap.size, 0, none⟩)) := hv
  refine EndAll.one rfl fun vv hv => ?_
  obtain rfl : vv = (.agg #[.bool s21, .slice A21 n21 c21]) := hv
  refine EndAll.one rfl fun vv hv => ?_
  obtain rfl : vv = (.string S1) := hv
  refine EndAll.one rfl fun vv hv => ?_
  obtain rfl : vv = (.string (S1 ++ ({ data := #[47] } : ByteArray))) := hv
  refine EndAll.one rfl fun vv hv => ?_
  obtain rfl : vv = (.pointer (some ⟨w.heap.size, 2, none⟩)) := hv
  refine EndAll.one rfl fun vv hv => ?_
  obtain rfl : vv = (.agg #[.bool t21, .slice D21 m21 d21]) := hv
  refine EndAll.one rfl fun vv hv => ?_
  obtain rfl : vv = (.string S2) := hv
  refine EndAll.one rfl fun vv hv => ?_
  obtain rfl : vv = (.string (S1 ++ ({ data := #[47] } : ByteArray) ++ S2)) := hv
  refine EndAll.one rfl fun vv hv => ?_
  obtain rfl : vv = (.string (S1 ++ ({ data := #[47] } : ByteArray) ++ S2)) := hv
  refine EndAll.nil (l := []) rfl ?_
  simp only [Act.put, List.setIfInBounds_toArray, List.set_cons_zero, List.set_cons_succ]
  replace H_a := Lib.hid (H_a.out.below B24)
  replace pq := pq.below B24
  replace hW := hW.trans (B24.mono hW.size)
  clear B24
  go_wp2_with fail
  go_ret
  unfold QPrPost
  rw [HS.out]
  exact ⟨rfl, hW⟩
theorem qprint_v {A B : Option Addr} {n c m d k : Nat} {s t : Bool} {N D : Int} {w : World} (hn : Zv w s A n c N) (hd : Zv w t B m d D) (hnk : n ≤ k) (hmk : m ≤ k) (h1 : 1 ≤ k) (hk : k ≤ 900) :
    Calls Try.prog 36 #[.agg #[.bool s, .slice A n c, .bool t, .slice B m d]] w (QPrPost (Rat.divInt N D) w) := by
  by_cases h : (Rat.divInt N D).den = 1
  · exact qprint_one hn hd hnk hmk h1 hk h
  · exact qprint_two hn hd hnk hmk h1 hk h
end Go.Proofs.Ytfpncmhaoadfdaa
