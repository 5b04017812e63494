/-
  FpR FpS FpT
-/
import Derived.Test.YtddbhhedjipjkaaGreatDoorPk27
import Derived.Test.YtddbhhedjipjkaaGreatDoorPk21
import Derived.Test.YtddbhhedjipjkaaGreatDoorPk29

section
/-! Contracts of polynomials over a field: the reference. -/
namespace Go.Proofs.YtddbhhedjipjkaaGreatDoor
open Go.RowKit
set_option linter.unusedVariables false
set_option linter.unusedSimpArgs false

theorem run_ixr {w : World} {ad : Addr} {n c k : Nat} (h : k < n) : (Instr.indexAt 24 (.slice (some ad) n c) (.int .i64 (k : Int))).run Tryz.prog w = .ok (.pointer (some (ad.add k))) w := by
  simp [go_sem, Tryz.underlying24]
  omega
/-- A truth is answered. -/
def BlPost (b : Bool) (w : World) (e : Ending) (w' : World) : Prop := e = .returned (.bool b) ∧ Below w.heap.size w w'
theorem eq_step {xs ys : List Nat} {k : Nat} (h : ∀ j, j < k → nth xs j = nth ys j) (e : nth xs k = nth ys k) : ∀ j, j < k + 1 → nth xs j = nth ys j := fun j hj => by
  by_cases hk : j = k
  · subst hk; exact e
  · exact h j (by omega)
theorem eq_upto {xs ys : List Nat} {k : Nat} (hl : xs.length = ys.length) (h : ∀ j, j < k → nth xs j = nth ys j) (hk : xs.length ≤ k) : xs = ys := ext_nth hl fun j hj => h j (by omega)
set_option maxRecDepth 100000 in
set_option maxHeartbeats 1000000 in
/-- quincunx/quincunxref09.Same. -/
theorem rsame_v {n c m d : Nat} {A D : Option Addr} {xs ys : List Nat} {w : World} (hx : Lv w A n c xs) (hy : Lv w D m d ys) {b : Bool} (hb : b = true ↔ xs = ys) :
    Calls Tryz.prog 39 #[.slice A n c, .slice D m d] w (BlPost b w) := by
  have HN := Lib.hid hx.len
  have HM := Lib.hid hy.len
  have hnc := hx.le
  have hcm := hx.cap
  have HB0 := Lib.hid hb
  clear hb
  by_cases hl : n = m
  · have hne : ((n : Int) != (m : Int)) = false := by rw [bne_eq_false_iff_eq]; omega
    subst hl
    have hW := Below.refl w.heap.size w
    go_enter Tryz.func39, Tryz.ntmps39
    go_wp2_with fail
    have HB : Hid ((∀ j, j < 0 → nth xs j = nth ys j) ∧ Below w.heap.size w w) := Lib.hid ⟨fun j hj => by omega, hW⟩
    have HX0 := Lib.hid hx
    have HY0 := Lib.hid hy
    clear hx hy hW
    go_loopw [5] (fun s1 wr => ∃ k : Nat, s1 = .int .i64 (k : Int) ∧ k ≤ n ∧ Hid ((∀ j, j < k → nth xs j = nth ys j) ∧ Below w.heap.size w wr)) (fun s1 _ => n - (intOf s1).toNat)
    case atStart => exact ⟨0, rfl, Nat.zero_le _, HB⟩
    case round =>
      clear HB
      obtain ⟨k, rfl, hk, HB⟩ := hrel
      obtain ⟨hE, hW⟩ := HB.out
      have hx := HX0.out.below hW
      have hy := HY0.out.below hW
      have HE := Lib.hid hE
      clear HB hE
      by_cases hlt : k < n
      · obtain ⟨ad, rfl, _, c1⟩ := hx.at (k := k) hlt
        obtain ⟨ae, rfl, _, c2⟩ := hy.at (k := k) hlt
        obtain ⟨X, hX⟩ : ∃ X, nth xs k = X := ⟨_, rfl⟩
        obtain ⟨Y, hY⟩ : ∃ Y, nth ys k = Y := ⟨_, rfl⟩
        have HXX := Lib.hid hX
        have HYY := Lib.hid hY
        clear c1 c2 hX hY
        by_cases hq : X = Y
        · have hbq : ((X : Int) != (Y : Int)) = false := by rw [bne_eq_false_iff_eq]; omega
          have HBQ := Lib.hid hbq
          clear hbq
          go_wp2_with fail
          refine region8 [] 9 [IsK (.slice (some ad) n c), IsK (.int .i64 (k : Int)), IsK (.pointer (some (ad.add k))), IsK (.int .u64 (X : Int)), IsK (.slice (some ae) n d), IsK (.int .i64 (k : Int)), IsK (.pointer (some (ae.add k))), IsK (.int .u64 (Y : Int)), IsK (.bool false)] (fun _ _ d _ _ h => by cases d <;> exact h) (by kernel_rfl) (by kernel_rfl) (by kernel_rfl) ⟨stay_k _, stay_k _, stay_k _, stay_k _, stay_k _, stay_k _, stay_k _, stay_k _, stay_k _, trivial⟩ ?_ ?_
          · refine HopAll.cons rfl ?_ (HopAll.cons rfl ?_ (HopAll.cons rfl ?_ (HopAll.cons rfl ?_ (HopAll.cons rfl ?_ (HopAll.cons rfl ?_ (HopAll.cons rfl ?_ (HopAll.cons rfl ?_ (HopAll.cons rfl ?_ HopAll.nil))))))))
            · intro a w1 hB ho hp K hK
              have e0 : a.eval (.tmp 0) = (.slice (some ad) n c) := ho 0 (by kernel_rfl)
              refine hop_val (wanted_none rfl) ?_ (hK (.slice (some ad) n c) _ rfl (Below.refl _ _))
              unfold execOp; simp only [eval_const, e0]; simp [go_sem]
            · intro a w1 hB ho hp K hK
              have e5 : a.eval (.tmp 5) = (.int .i64 (k : Int)) := ho 5 (by kernel_rfl)
              refine hop_val (wanted_none rfl) ?_ (hK (.int .i64 (k : Int)) _ rfl (Below.refl _ _))
              unfold execOp; simp only [eval_const, e5]; simp [go_sem]
            · intro a w1 hB ho hp K hK
              have e17 : a.eval (.tmp 17) = (.slice (some ad) n c) := hp 0 17 (by kernel_rfl)
              have e18 : a.eval (.tmp 18) = (.int .i64 (k : Int)) := hp 1 18 (by kernel_rfl)
              refine hop_val (wanted_none rfl) ?_ (hK (.pointer (some (ad.add k))) _ rfl (Below.refl _ _))
              unfold execOp; simp only [eval_const, Option.map_some, Option.map_none, e17, e18]; simp [run_ixr hlt]
            · intro a w1 hB ho hp K hK
              have e19 : a.eval (.tmp 19) = (.pointer (some (ad.add k))) := hp 2 19 (by kernel_rfl)
              exact hop_load (wanted_none rfl) rfl e19 (run_ldw (by rw [← HXX.out]; exact (hx.below hB).rd.cell rfl (by rw [HN.out]; omega))) (hK _ _ rfl (Below.refl _ _))
            · intro a w1 hB ho hp K hK
              have e1 : a.eval (.tmp 1) = (.slice (some ae) n d) := ho 1 (by kernel_rfl)
              refine hop_val (wanted_none rfl) ?_ (hK (.slice (some ae) n d) _ rfl (Below.refl _ _))
              unfold execOp; simp only [eval_const, e1]; simp [go_sem]
            · intro a w1 hB ho hp K hK
              have e5 : a.eval (.tmp 5) = (.int .i64 (k : Int)) := ho 5 (by kernel_rfl)
              refine hop_val (wanted_none rfl) ?_ (hK (.int .i64 (k : Int)) _ rfl (Below.refl _ _))
              unfold execOp; simp only [eval_const, e5]; simp [go_sem]
            · intro a w1 hB ho hp K hK
              have e21 : a.eval (.tmp 21) = (.slice (some ae) n d) := hp 4 21 (by kernel_rfl)
              have e22 : a.eval (.tmp 22) = (.int .i64 (k : Int)) := hp 5 22 (by kernel_rfl)
              refine hop_val (wanted_none rfl) ?_ (hK (.pointer (some (ae.add k))) _ rfl (Below.refl _ _))
              unfold execOp; simp only [eval_const, Option.map_some, Option.map_none, e21, e22]; simp [run_ixr hlt]
            · intro a w1 hB ho hp K hK
              have e23 : a.eval (.tmp 23) = (.pointer (some (ae.add k))) := hp 6 23 (by kernel_rfl)
              exact hop_load (wanted_none rfl) rfl e23 (run_ldw (by rw [← HYY.out]; exact (hy.below hB).rd.cell rfl (by rw [HM.out]; omega))) (hK _ _ rfl (Below.refl _ _))
            · intro a w1 hB ho hp K hK
              have e20 : a.eval (.tmp 20) = (.int .u64 (X : Int)) := hp 3 20 (by kernel_rfl)
              have e24 : a.eval (.tmp 24) = (.int .u64 (Y : Int)) := hp 7 24 (by kernel_rfl)
              refine hop_val (wanted_none rfl) ?_ (hK (.bool false) _ rfl (Below.refl _ _))
              unfold execOp; simp only [eval_const, e20, e24]; simp [go_sem, HBQ.out]
          intro w21 B21
          refine EndAll.one rfl fun vv hv => ?_
          obtain rfl : vv = (.slice (some ad) n c) := hv
          refine EndAll.one rfl fun vv hv => ?_
          obtain rfl : vv = (.int .i64 (k : Int)) := hv
          refine EndAll.one rfl fun vv hv => ?_
          obtain rfl : vv = (.pointer (some (ad.add k))) := hv
          refine EndAll.one rfl fun vv hv => ?_
          obtain rfl : vv = (.int .u64 (X : Int)) := hv
          refine EndAll.one rfl fun vv hv => ?_
          obtain rfl : vv = (.slice (some ae) n d) := hv
          refine EndAll.one rfl fun vv hv => ?_
          obtain rfl : vv = (.int .i64 (k : Int)) := hv
          refine EndAll.one rfl fun vv hv => ?_
          obtain rfl : vv = (.pointer (some (ae.add k))) := hv
          refine EndAll.one rfl fun vv hv => ?_
          obtain rfl : vv = (.int .u64 (Y : Int)) := hv
          refine EndAll.one rfl fun vv hv => ?_
          obtain rfl : vv = (.bool false) := hv
          refine EndAll.nil (l := []) rfl ?_
          simp only [Act.put, List.setIfInBounds_toArray, List.set_cons_zero, List.set_cons_succ]
          replace hx := hx.below B21
          replace hy := hy.below B21
          replace hW := hW.trans (B21.mono hW.size)
          clear B21
          go_wp2_with fail
          go_round
          case rel => exact ⟨k + 1, by go_num, by omega, Lib.hid ⟨eq_step HE.out (by rw [HXX.out, HYY.out, hq]), hW⟩⟩
          case measure => first | (simp [intOf]; done) | (simp [intOf]; omega)
        · have hbq : ((X : Int) != (Y : Int)) = true := by rw [bne_iff_ne]; omega
          have HBQ := Lib.hid hbq
          clear hbq
          go_wp2_with fail
          refine region8 [] 9 [IsK (.slice (some ad) n c), IsK (.int .i64 (k : Int)), IsK (.pointer (some (ad.add k))), IsK (.int .u64 (X : Int)), IsK (.slice (some ae) n d), IsK (.int .i64 (k : Int)), IsK (.pointer (some (ae.add k))), IsK (.int .u64 (Y : Int)), IsK (.bool true)] (fun _ _ d _ _ h => by cases d <;> exact h) (by kernel_rfl) (by kernel_rfl) (by kernel_rfl) ⟨stay_k _, stay_k _, stay_k _, stay_k _, stay_k _, stay_k _, stay_k _, stay_k _, stay_k _, trivial⟩ ?_ ?_
          · refine HopAll.cons rfl ?_ (HopAll.cons rfl ?_ (HopAll.cons rfl ?_ (HopAll.cons rfl ?_ (HopAll.cons rfl ?_ (HopAll.cons rfl ?_ (HopAll.cons rfl ?_ (HopAll.cons rfl ?_ (HopAll.cons rfl ?_ HopAll.nil))))))))
            · intro a w1 hB ho hp K hK
              have e0 : a.eval (.tmp 0) = (.slice (some ad) n c) := ho 0 (by kernel_rfl)
              refine hop_val (wanted_none rfl) ?_ (hK (.slice (some ad) n c) _ rfl (Below.refl _ _))
              unfold execOp; simp only [eval_const, e0]; simp [go_sem]
            · intro a w1 hB ho hp K hK
              have e5 : a.eval (.tmp 5) = (.int .i64 (k : Int)) := ho 5 (by kernel_rfl)
              refine hop_val (wanted_none rfl) ?_ (hK (.int .i64 (k : Int)) _ rfl (Below.refl _ _))
              unfold execOp; simp only [eval_const, e5]; simp [go_sem]
            · intro a w1 hB ho hp K hK
              have e17 : a.eval (.tmp 17) = (.slice (some ad) n c) := hp 0 17 (by kernel_rfl)
              have e18 : a.eval (.tmp 18) = (.int .i64 (k : Int)) := hp 1 18 (by kernel_rfl)
              refine hop_val (wanted_none rfl) ?_ (hK (.pointer (some (ad.add k))) _ rfl (Below.refl _ _))
              unfold execOp; simp only [eval_const, Option.map_some, Option.map_none, e17, e18]; simp [run_ixr hlt]
            · intro a w1 hB ho hp K hK
              have e19 : a.eval (.tmp 19) = (.pointer (some (ad.add k))) := hp 2 19 (by kernel_rfl)
              exact hop_load (wanted_none rfl) rfl e19 (run_ldw (by rw [← HXX.out]; exact (hx.below hB).rd.cell rfl (by rw [HN.out]; omega))) (hK _ _ rfl (Below.refl _ _))
            · intro a w1 hB ho hp K hK
              have e1 : a.eval (.tmp 1) = (.slice (some ae) n d) := ho 1 (by kernel_rfl)
              refine hop_val (wanted_none rfl) ?_ (hK (.slice (some ae) n d) _ rfl (Below.refl _ _))
              unfold execOp; simp only [eval_const, e1]; simp [go_sem]
            · intro a w1 hB ho hp K hK
              have e5 : a.eval (.tmp 5) = (.int .i64 (k : Int)) := ho 5 (by kernel_rfl)
              refine hop_val (wanted_none rfl) ?_ (hK (.int .i64 (k : Int)) _ rfl (Below.refl _ _))
              unfold execOp; simp only [eval_const, e5]; simp [go_sem]
            · intro a w1 hB ho hp K hK
              have e21 : a.eval (.tmp 21) = (.slice (some ae) n d) := hp 4 21 (by kernel_rfl)
              have e22 : a.eval (.tmp 22) = (.int .i64 (k : Int)) := hp 5 22 (by kernel_rfl)
              refine hop_val (wanted_none rfl) ?_ (hK (.pointer (some (ae.add k))) _ rfl (Below.refl _ _))
              unfold execOp; simp only [eval_const, Option.map_some, Option.map_none, e21, e22]; simp [run_ixr hlt]
            · intro a w1 hB ho hp K hK
              have e23 : a.eval (.tmp 23) = (.pointer (some (ae.add k))) := hp 6 23 (by kernel_rfl)
              exact hop_load (wanted_none rfl) rfl e23 (run_ldw (by rw [← HYY.out]; exact (hy.below hB).rd.cell rfl (by rw [HM.out]; omega))) (hK _ _ rfl (Below.refl _ _))
            · intro a w1 hB ho hp K hK
              have e20 : a.eval (.tmp 20) = (.int .u64 (X : Int)) := hp 3 20 (by kernel_rfl)
              have e24 : a.eval (.tmp 24) = (.int .u64 (Y : Int)) := hp 7 24 (by kernel_rfl)
              refine hop_val (wanted_none rfl) ?_ (hK (.bool true) _ rfl (Below.refl _ _))
              unfold execOp; simp only [eval_const, e20, e24]; simp [go_sem, HBQ.out]
          intro w21 B21
          refine EndAll.one rfl fun vv hv => ?_
          obtain rfl : vv = (.slice (some ad) n c) := hv
          refine EndAll.one rfl fun vv hv => ?_
          obtain rfl : vv = (.int .i64 (k : Int)) := hv
          refine EndAll.one rfl fun vv hv => ?_
          obtain rfl : vv = (.pointer (some (ad.add k))) := hv
          refine EndAll.one rfl fun vv hv => ?_
          obtain rfl : vv = (.int .u64 (X : Int)) := hv
          refine EndAll.one rfl fun vv hv => ?_
          obtain rfl : vv = (.slice (some ae) n d) := hv
          refine EndAll.one rfl fun vv hv => ?_
          obtain rfl : vv = (.int .i64 (k : Int)) := hv
          refine EndAll.one rfl fun vv hv => ?_
          obtain rfl : vv = (.pointer (some (ae.add k))) := hv
          refine EndAll.one rfl fun vv hv => ?_
          obtain rfl : vv = (.int .u64 (Y : Int)) := hv
          refine EndAll.one rfl fun vv hv => ?_
          obtain rfl : vv = (.bool true) := hv
          refine EndAll.nil (l := []) rfl ?_
          simp only [Act.put, List.setIfInBounds_toArray, List.set_cons_zero, List.set_cons_succ]
          replace hx := hx.below B21
          replace hy := hy.below B21
          replace hW := hW.trans (B21.mono hW.size)
          clear B21
          obtain rfl : b = false := Bool.eq_false_iff.2 fun e => hq (by rw [← HXX.out, ← HYY.out, HB0.out.1 e])
          go_wp2_with fail
          exact bodyPost_ret (v := (.bool false)) (by simp [results, Tryz.results39, go_sem]) rfl ⟨rfl, hW⟩
      · obtain rfl : b = true := HB0.out.2 (eq_upto (by rw [HN.out, HM.out]) HE.out (by rw [HN.out]; omega))
        obtain rfl : k = n := by omega
        go_wp2_with fail
        exact bodyPost_ret (v := (.bool true)) (by simp [results, Tryz.results39, go_sem]) rfl ⟨rfl, hW⟩
  · have hne : ((n : Int) != (m : Int)) = true := by rw [bne_iff_ne]; omega
    obtain rfl : b = false := Bool.eq_false_iff.2 fun e => hl (by rw [← HN.out, ← HM.out, HB0.out.1 e])
    have hW := Below.refl w.heap.size w
    go_enter Tryz.func39, Tryz.ntmps39
    go_wp2_with fail
    exact bodyPost_ret (v := (.bool false)) (by simp [results, Tryz.results39, go_sem]) rfl ⟨rfl, hW⟩
end Go.Proofs.YtddbhhedjipjkaaGreatDoor
end

section
/-! Contracts of polynomials over a field: the reference's sums and products, derivatives. -/
namespace Go.Proofs.YtddbhhedjipjkaaGreatDoor
open Go.RowKit
set_option linter.unusedVariables false
set_option linter.unusedSimpArgs false

set_option maxRecDepth 100000 in
set_option maxHeartbeats 1000000 in
/-- fpoly.Derive. -/
theorem derive_v {ab p n c : Nat} {A : Option Addr} {xs : List Nat} {w : World} (hp : ab + 2 = p) (h : p < 2147483648) (hx : Lv w A n c xs) (hn : n ≤ 1099511627776) :
    Calls Tryz.prog 42 #[.agg #[.int .u64 (ab : Int)], .slice A n c] w (LPost (nrm p (drl xs)) w) := by
  have HX0 := Lib.hid hx
  have hW := Below.refl w.heap.size w
  obtain ⟨wp0, hwp0⟩ : ∃ xw, xw = w.alloc (.cells #[.int .u64 (ab : Int)] 54) := ⟨_, rfl⟩
  have zp0 : Below w.heap.size w wp0 := by rw [hwp0]; exact zba _ _
  have sp0 : wp0.heap.size = w.heap.size + 1 := by rw [hwp0, World.size_alloc]
  have If : Fb wp0 w.heap.size ab := by rw [hwp0]; exact Fb.new _ _ _
  replace hx := hx.below zp0
  replace hW := hW.trans (zp0.mono hW.size)
  have H_f := Lib.hid If
  clear If zp0
  have HW : Hid ((w.alloc (.cells #[.int .u64 (ab : Int)] 54)) = wp0) := Lib.hid (by rw [hwp0])
  have lw_f : w.heap.size ≤ w.heap.size := by omega
  clear hwp0 sp0
  have h2 : 2 ≤ p := by omega
  have HP := Lib.hid hp
  have HN := Lib.hid hx.len
  have hnc := hx.le
  have hcm := hx.cap
  clear hp
  go_enter Tryz.func42, Tryz.ntmps42
  rcases Nat.eq_zero_or_pos n with rfl | hn0
  · have e : nrm p (drl xs) = [] := by rw [List.length_eq_zero_iff.1 HN.out]; rfl
    have E := Lib.hid e
    clear e
    obtain ⟨f1, f2, f3⟩ := H_f.out
    go_wp2_with fail
    rw [HW.out]
    clear f1 f2 f3
    exact bodyPost_ret (v := (.slice none 0 0)) (by simp [results, Tryz.results42, go_sem]) rfl ⟨none, 0, 0, rfl, by rw [E.out]; exact Lv.nil _, hW⟩
  · skip
    obtain ⟨L, rfl⟩ : ∃ L, n = L + 1 := ⟨n - 1, by omega⟩
    have hne : (((L + 1 : Nat) : Int) == 0) = false := by rw [beq_eq_false_iff_ne]; omega
    have hne2 : ((L : Int) + 1 == 0) = false := by rw [beq_eq_false_iff_ne]; omega
    have HDL : Hid ((drl xs).length = L) := Lib.hid (by rw [drl_length, HN.out]; rfl)
    have hLw : IntKind.i64.wrap (L : Int) = (L : Int) := by rw [IntKind.wrap_i64]; omega
    obtain ⟨f1, f2, f3⟩ := H_f.out
    go_wp2_with (at_make; refine wpList_make_blk _ rfl _ _ 56 rfl 52 .u64 8 Tryz.underlying56 info_u64 _ _ _ _ L rfl rfl (by omega) (by omega) (by omega) (by omega) ?_)
    rw [HW.out]
    intro w1 hb1 hw1 hz1
    rw [show w.heap.size + 1 = wp0.heap.size by rw [← HW.out, World.size_alloc]] at hw1
    clear f1 f2 f3
    obtain ⟨gB, hgB⟩ : ∃ q, w.heap.size + 1 = q := ⟨_, rfl⟩
    have hg1 : w.heap.size < gB := by omega
    rw [hgB] at hb1
    have HB : Hid (Fb w1 w.heap.size ab ∧ Below w.heap.size w w1 ∧ Blk w1 gB 52 .u64 (mdl p L (drl xs) 0)) := Lib.hid ⟨H_f.out.below hw1, hW.trans (hw1.mono hW.size), by rw [mdl_zero]; exact hb1⟩
    rw [hgB]
    clear hW H_f hx hb1 hw1 hz1 hgB HW hne hne2 hLw
    go_wp2_with fail
    go_loopw [16] (fun s16 wr => ∃ k : Nat, s16 = .int .i64 (k : Int) ∧ k ≤ L ∧ Hid (Fb wr w.heap.size ab ∧ Below w.heap.size w wr ∧ Blk wr gB 52 .u64 (mdl p L (drl xs) k))) (fun s16 _ => L - (intOf s16).toNat)
    case atStart => exact ⟨0, rfl, Nat.zero_le _, HB⟩
    case round =>
      clear HB
      obtain ⟨k, rfl, hk, HB⟩ := hrel
      obtain ⟨I1, hW, hb⟩ := HB.out
      have hx := HX0.out.below hW
      have H_f := Lib.hid I1
      clear I1 HB
      by_cases hlt : k < L
      · obtain ⟨ad, rfl, _, c1⟩ := hx.at (k := k + 1) (by omega)
        obtain ⟨k1, hk1⟩ : ∃ q, k + 1 = q := ⟨_, rfl⟩
        have hk1n : k1 < L + 1 := by omega
        obtain ⟨X, hX⟩ : ∃ X, nth xs k1 = X := ⟨_, rfl⟩
        have lX : X < 18446744073709551616 := hX ▸ hx.lt k1
        obtain ⟨R, hR⟩ : ∃ R, k1 * X % p = R := ⟨_, rfl⟩
        have HR := Lib.hid hR
        have HX := Lib.hid hX
        have hl := mdl_len (p := p) (xs := drl xs) (show k ≤ L by omega) (by rw [HDL.out]; omega)
        have W1 : Hid (IntKind.i64.wrap ((k : Int) + 1) = (k1 : Int)) := Lib.hid (by rw [show (k : Int) + 1 = (k1 : Int) by omega, IntKind.wrap_i64]; omega)
        have W2 : Hid (IntKind.u64.wrap (k1 : Int) = (k1 : Int)) := Lib.hid (wrap_small (by omega))
        have HS : Hid ((mdl p L (drl xs) k).set k R = mdl p L (drl xs) (k + 1)) := Lib.hid (by rw [← mdl_step hlt (by rw [HDL.out]; exact hlt), nth_drl, hk1, hX, hR])
        clear c1 hX hR
        obtain ⟨f1, f2, f3⟩ := H_f.out
        go_upto_region 7 with fail
        clear f1 f2 f3
        refine region8 [] 13 [IsK (.slice (some ⟨gB, 0, none⟩) L L), IsK (.int .i64 (k : Int)), IsK (.agg #[.int .u64 (ab : Int)]), IsK (.int .i64 (k : Int)), IsK (.int .i64 (k1 : Int)), IsK (.int .u64 (k1 : Int)), IsK (.slice (some ad) (L + 1) c), IsK (.int .i64 (k : Int)), IsK (.int .i64 (k1 : Int)), IsK (.pointer (some (ad.add k1))), IsK (.int .u64 (X : Int)), IsK (.int .u64 (R : Int)), IsK (.pointer (some ⟨gB, k, none⟩))] (fun _ _ d _ _ h => by cases d <;> exact h) (by kernel_rfl) (by kernel_rfl) (by kernel_rfl) ⟨stay_k _, stay_k _, stay_k _, stay_k _, stay_k _, stay_k _, stay_k _, stay_k _, stay_k _, stay_k _, stay_k _, stay_k _, stay_k _, trivial⟩ ?_ ?_
        · refine HopAll.cons rfl ?_ (HopAll.cons rfl ?_ (HopAll.cons rfl ?_ (HopAll.cons rfl ?_ (HopAll.cons rfl ?_ (HopAll.cons rfl ?_ (HopAll.cons rfl ?_ (HopAll.cons rfl ?_ (HopAll.cons rfl ?_ (HopAll.cons rfl ?_ (HopAll.cons rfl ?_ (HopAll.cons rfl ?_ (HopAll.cons rfl ?_ HopAll.nil))))))))))))
          · intro a w1 hB ho hp K hK
            have e5 : a.eval (.tmp 5) = (.slice (some ⟨gB, 0, none⟩) L L) := ho 5 (by kernel_rfl)
            refine hop_val (wanted_none rfl) ?_ (hK (.slice (some ⟨gB, 0, none⟩) L L) _ rfl (Below.refl _ _))
            unfold execOp; simp only [eval_const, e5]; simp [go_sem]
          · intro a w1 hB ho hp K hK
            have e6 : a.eval (.tmp 6) = (.int .i64 (k : Int)) := ho 6 (by kernel_rfl)
            refine hop_val (wanted_none rfl) ?_ (hK (.int .i64 (k : Int)) _ rfl (Below.refl _ _))
            unfold execOp; simp only [eval_const, e6]; simp [go_sem]
          · intro a w1 hB ho hp K hK
            have e2 : a.eval (.tmp 2) = (.pointer (some ⟨w.heap.size, 0, none⟩)) := ho 2 (by kernel_rfl)
            obtain ⟨u1, u2, u3⟩ := H_f.out.below hB
            exact hop_load (wanted_none rfl) rfl e2 (run_ldf u1) (hK _ _ rfl (Below.refl _ _))
          · intro a w1 hB ho hp K hK
            have e6 : a.eval (.tmp 6) = (.int .i64 (k : Int)) := ho 6 (by kernel_rfl)
            refine hop_val (wanted_none rfl) ?_ (hK (.int .i64 (k : Int)) _ rfl (Below.refl _ _))
            unfold execOp; simp only [eval_const, e6]; simp [go_sem]
          · intro a w1 hB ho hp K hK
            have e22 : a.eval (.tmp 22) = (.int .i64 (k : Int)) := hp 3 22 (by kernel_rfl)
            refine hop_val (wanted_none rfl) ?_ (hK (.int .i64 (k1 : Int)) _ rfl (Below.refl _ _))
            unfold execOp; simp only [eval_const, e22]; simp [go_sem, W1.out]
          · intro a w1 hB ho hp K hK
            have e23 : a.eval (.tmp 23) = (.int .i64 (k1 : Int)) := hp 4 23 (by kernel_rfl)
            refine hop_val (wanted_none rfl) ?_ (hK (.int .u64 (k1 : Int)) _ rfl (Below.refl _ _))
            unfold execOp; simp only [eval_const, e23]; simp [go_sem, W2.out]
          · intro a w1 hB ho hp K hK
            have e1 : a.eval (.tmp 1) = (.slice (some ad) (L + 1) c) := ho 1 (by kernel_rfl)
            refine hop_val (wanted_none rfl) ?_ (hK (.slice (some ad) (L + 1) c) _ rfl (Below.refl _ _))
            unfold execOp; simp only [eval_const, e1]; simp [go_sem]
          · intro a w1 hB ho hp K hK
            have e6 : a.eval (.tmp 6) = (.int .i64 (k : Int)) := ho 6 (by kernel_rfl)
            refine hop_val (wanted_none rfl) ?_ (hK (.int .i64 (k : Int)) _ rfl (Below.refl _ _))
            unfold execOp; simp only [eval_const, e6]; simp [go_sem]
          · intro a w1 hB ho hp K hK
            have e26 : a.eval (.tmp 26) = (.int .i64 (k : Int)) := hp 7 26 (by kernel_rfl)
            refine hop_val (wanted_none rfl) ?_ (hK (.int .i64 (k1 : Int)) _ rfl (Below.refl _ _))
            unfold execOp; simp only [eval_const, e26]; simp [go_sem, W1.out]
          · intro a w1 hB ho hp K hK
            have e25 : a.eval (.tmp 25) = (.slice (some ad) (L + 1) c) := hp 6 25 (by kernel_rfl)
            have e27 : a.eval (.tmp 27) = (.int .i64 (k1 : Int)) := hp 8 27 (by kernel_rfl)
            refine hop_val (wanted_none rfl) ?_ (hK (.pointer (some (ad.add k1))) _ rfl (Below.refl _ _))
            unfold execOp; simp only [eval_const, Option.map_some, Option.map_none, e25, e27]; simp [run_ixp hk1n]
          · intro a w1 hB ho hp K hK
            have e28 : a.eval (.tmp 28) = (.pointer (some (ad.add k1))) := hp 9 28 (by kernel_rfl)
            exact hop_load (wanted_none rfl) rfl e28 (run_ldw (by rw [← HX.out]; exact (hx.below hB).rd.cell rfl (by rw [HN.out]; exact hk1n))) (hK _ _ rfl (Below.refl _ _))
          · intro a w1 hB ho hp K hK
            have e21 : a.eval (.tmp 21) = (.agg #[.int .u64 (ab : Int)]) := hp 2 21 (by kernel_rfl)
            have e24 : a.eval (.tmp 24) = (.int .u64 (k1 : Int)) := hp 5 24 (by kernel_rfl)
            have e29 : a.eval (.tmp 29) = (.int .u64 (X : Int)) := hp 10 29 (by kernel_rfl)
            refine hop_call (wanted_none rfl) rfl (args := #[(.agg #[.int .u64 (ab : Int)]), (.int .u64 (k1 : Int)), (.int .u64 (X : Int))]) (by simp only [List.map_toArray, List.map_cons, List.map_nil, eval_const, e21, e24, e29]) (ent7 (by kernel_rfl) _ _) (fmul_v HP.out h (show k1 < 18446744073709551616 by omega) lX HR.out _) ?_
            rintro e w2 ⟨rfl, B⟩
            exact ⟨_, rfl, hK _ _ rfl B⟩
          · intro a w1 hB ho hp K hK
            have e19 : a.eval (.tmp 19) = (.slice (some ⟨gB, 0, none⟩) L L) := hp 0 19 (by kernel_rfl)
            have e20 : a.eval (.tmp 20) = (.int .i64 (k : Int)) := hp 1 20 (by kernel_rfl)
            refine hop_val (wanted_none rfl) ?_ (hK (.pointer (some ⟨gB, k, none⟩)) _ rfl (Below.refl _ _))
            unfold execOp; simp only [eval_const, Option.map_some, Option.map_none, e19, e20]; simp [run_ixp0 hlt]
        intro w21 B21
        refine EndAll.one rfl fun vv hv => ?_
        obtain rfl : vv = (.slice (some ⟨gB, 0, none⟩) L L) := hv
        refine EndAll.one rfl fun vv hv => ?_
        obtain rfl : vv = (.int .i64 (k : Int)) := hv
        refine EndAll.one rfl fun vv hv => ?_
        obtain rfl : vv = (.agg #[.int .u64 (ab : Int)]) := hv
        refine EndAll.one rfl fun vv hv => ?_
        obtain rfl : vv = (.int .i64 (k : Int)) := hv
        refine EndAll.one rfl fun vv hv => ?_
        obtain rfl : vv = (.int .i64 (k1 : Int)) := hv
        refine EndAll.one rfl fun vv hv => ?_
        obtain rfl : vv = (.int .u64 (k1 : Int)) := hv
        refine EndAll.one rfl fun vv hv => ?_
        obtain rfl : vv = (.slice (some ad) (L + 1) c) := hv
        refine EndAll.one rfl fun vv hv => ?_
        obtain rfl : vv = (.int .i64 (k : Int)) := hv
        refine EndAll.one rfl fun vv hv => ?_
        obtain rfl : vv = (.int .i64 (k1 : Int)) := hv
        refine EndAll.one rfl fun vv hv => ?_
        obtain rfl : vv = (.pointer (some (ad.add k1))) := hv
        refine EndAll.one rfl fun vv hv => ?_
        obtain rfl : vv = (.int .u64 (X : Int)) := hv
        refine EndAll.one rfl fun vv hv => ?_
        obtain rfl : vv = (.int .u64 (R : Int)) := hv
        refine EndAll.one rfl fun vv hv => ?_
        obtain rfl : vv = (.pointer (some ⟨gB, k, none⟩)) := hv
        refine EndAll.nil (l := [_]) rfl ?_
        simp only [Act.put, List.setIfInBounds_toArray, List.set_cons_zero, List.set_cons_succ]
        replace H_f := Lib.hid (H_f.out.below B21)
        replace hx := hx.below B21
        replace hW := hW.trans (B21.mono hW.size)
        replace hb := hb.below B21 hb.lt
        have c1 := hb.cell (j := k) (by rw [hl]; exact hlt)
        have c2 := hb.free k
        have hl3 := hb.lt
        go_wp2_with fail
        have hs := hb.set k R
        rw [HS.out] at hs
        have e9 : (k1 : Int) = ((k + 1 : Nat) : Int) := by omega
        go_roundw
        case rel => exact ⟨k + 1, by go_num, by omega, Lib.hid ⟨Fb.other H_f.out (q := ⟨gB, k, none⟩) (by simp only; omega) _, hW.setCell (p := ⟨gB, k, none⟩) (by simpa using Nat.le_of_lt hg1) _, hs⟩⟩
        case measure => first | (simp [intOf]; done) | (simp [intOf]; omega)
      · obtain rfl : k = L := by omega
        have hl := mdl_len (p := p) (xs := drl xs) (Nat.le_refl k) (by rw [HDL.out]; exact Nat.le_refl _)
        have hv := Lv.blk hb (Nat.le_refl _) (by rw [hl]; omega) (Low.of_any fun j => by have := mdl_low (p := p) (L := k) (xs := drl xs) (k := k) (by omega) (by rw [HDL.out]; exact Nat.le_refl _) j; omega)
        rw [hl] at hv
        have HE : Hid (nrm p (mdl p k (drl xs) k) = nrm p (drl xs)) := Lib.hid (nrm_eq (by have := eqm_mdl (p := p) (L := k) (xs := drl xs); rw [HDL.out] at this; exact this))
        clear hb hl hx
        obtain ⟨f1, f2, f3⟩ := H_f.out
        go_wp2_with fail
        clear f1 f2 f3
        refine (pnorm_v HP.out h hv (by omega)).mono ?_
        rintro e w6 ⟨A6, n6, c6, rfl, r6, B6⟩
        rw [HE.out] at r6
        go_wp2_with fail
        exact bodyPost_ret (v := .slice A6 n6 c6) (by simp [results, Tryz.results42, go_sem]) rfl ⟨_, _, _, rfl, r6, hW.trans (B6.mono hW.size)⟩
end Go.Proofs.YtddbhhedjipjkaaGreatDoor
end

section
/-! What the statements of layer 9 share. -/
namespace Go.Proofs.YtddbhhedjipjkaaGreatDoor
open Go.RowKit
set_option linter.unusedVariables false
set_option linter.unusedSimpArgs false

set_option maxRecDepth 100000 in
set_option maxHeartbeats 1000000 in
/-- Of: the field of a prime. -/
theorem fof9_v {ab p n : Nat} {w : World} (hn : n < 256) (hT : TabHas w) (hp0 : pn (n % 12) = p) (hp : ab + 2 = p) :
    Calls Tryz.prog 36 #[.int .u8 (n : Int)] w (fun e w' => e = .returned (.agg #[.int .u64 (ab : Int)]) ∧ Below w.heap.size w w') := by
  have hpr := pn_pr (n % 12) (by omega)
  rw [hp0] at hpr
  have HPR := Lib.hid hpr
  have hpl := hpr.2.1
  have HP := Lib.hid hp
  clear hpr hp
  have hW := Below.refl w.heap.size w
  obtain ⟨wp0, hwp0⟩ : ∃ xw, xw = w.alloc (.cells #[.int .u64 (0 : Int)] 54) := ⟨_, rfl⟩
  have zp0 : Below w.heap.size w wp0 := by rw [hwp0]; exact zba _ _
  have sp0 : wp0.heap.size = w.heap.size + 1 := by rw [hwp0, World.size_alloc]
  have Ir : Fb wp0 w.heap.size 0 := by rw [hwp0]; exact Fb.new _ _ _
  replace hT := hT.below zp0
  replace hW := hW.trans (zp0.mono hW.size)
  have H_r := Lib.hid Ir
  clear Ir zp0
  have HW : Hid ((w.alloc (.cells #[.int .u64 (0 : Int)] 54)) = wp0) := Lib.hid (by rw [hwp0])
  have lw_r : w.heap.size ≤ w.heap.size := by omega
  clear hwp0 sp0
  skip
  go_enter Tryz.func36, Tryz.ntmps36
  obtain ⟨r1, r2, r3⟩ := H_r.out
  go_wp2_with fail
  rw [HW.out]
  clear r1 r2 r3
  refine (rp_calls (p := p) hn hp0 _).mono ?_
  rintro e w21 ⟨rfl, B21⟩
  replace H_r := Lib.hid (H_r.out.below B21)
  replace hT := hT.below B21
  replace hW := hW.trans (B21.mono hW.size)
  clear B21
  obtain ⟨r1, r2, r3⟩ := H_r.out
  go_wp2_with fail
  clear r1 r2 r3
  refine (fnew_yes (ab := ab) (by omega) hT HPR.out.1 HPR.out.2.1 HP.out).mono ?_
  rintro e w22 ⟨rfl, B22⟩
  replace H_r := Lib.hid (H_r.out.below B22)
  replace hT := hT.below B22
  replace hW := hW.trans (B22.mono hW.size)
  clear B22
  have hge := H_r.out.2.2
  obtain ⟨r1, r2, r3⟩ := H_r.out
  go_wp2_with fail
  refine bodyPost_ret (v := .agg #[.int .u64 (ab : Int)]) (by simp [results, Tryz.results36, go_sem, r1, r2, r3]) rfl ⟨rfl, ?_⟩
  exact (hW.setCell (p := ⟨w.heap.size, 0, none⟩) (Nat.le_refl _) _).alloc (by simpa using hW.size) _
end Go.Proofs.YtddbhhedjipjkaaGreatDoor
end
