/-
  Package fpoly: Same, Derive; the reference of layer 9: at, Norm, Same, Monic, Add, Mul.
-/
import Derived.Test.YthigedcpiglmnaaDoorFpC
import Derived.Test.YthigedcpiglmnaaDoorPolE
/-! Contracts of polynomials over a field: the reference. -/
namespace Go.Proofs.YthigedcpiglmnaaDoor
open Go.RowKit
set_option linter.unusedVariables false
set_option linter.unusedSimpArgs false

theorem run_ixr {w : World} {ad : Addr} {n c k : Nat} (h : k < n) : (Instr.indexAt 22 (.slice (some ad) n c) (.int .i64 (k : Int))).run Tryd.prog w = .ok (.pointer (some (ad.add k))) w := by
  simp [go_sem, Tryd.underlying22]
  omega
/-- A truth is answered. -/
def BlPost (b : Bool) (w : World) (e : Ending) (w' : World) : Prop := e = .returned (.bool b) ∧ Below w.heap.size w w'
theorem below_drew9 (w : World) : Below w.heap.size w w.drew := ⟨rfl, rfl, rfl, Nat.le_refl _, fun _ _ => rfl⟩
theorem eq_step {xs ys : List Nat} {k : Nat} (h : ∀ j, j < k → nth xs j = nth ys j) (e : nth xs k = nth ys k) : ∀ j, j < k + 1 → nth xs j = nth ys j := fun j hj => by
  by_cases hk : j = k
  · subst hk; exact e
  · exact h j (by omega)
theorem eq_upto {xs ys : List Nat} {k : Nat} (hl : xs.length = ys.length) (h : ∀ j, j < k → nth xs j = nth ys j) (hk : xs.length ≤ k) : xs = ys := ext_nth hl fun j hj => h j (by omega)
set_option maxRecDepth 100000 in
set_option maxHeartbeats 1000000 in
/-- slices.Equal[quincunx/fpoly.Poly,uint64]. -/
theorem equal_v {n c m d : Nat} {A D : Option Addr} {xs ys : List Nat} {w : World} (hx : Lv w A n c xs) (hy : Lv w D m d ys) {b : Bool} (hb : b = true ↔ xs = ys) :
    Calls Tryd.prog 42 #[.slice A n c, .slice D m d] w (BlPost b w) := by
  have HN := Lib.hid hx.len
  have HM := Lib.hid hy.len
  have hnc := hx.le
  have hcm := hx.cap
  have HB0 := Lib.hid hb
  clear hb
  by_cases hl : n = m
  · have hne : ((n : Int) != (m : Int)) = false := by rw [bne_eq_false_iff_eq]; omega
    subst hl
    have hW := Below.refl w.heap.size w
    go_enter Tryd.func42, Tryd.ntmps42
    go_wp2_with fail
    have HB : Hid ((∀ j, j < 0 → nth xs j = nth ys j) ∧ Below w.heap.size w w) := Lib.hid ⟨fun j hj => by omega, hW⟩
    have HX0 := Lib.hid hx
    have HY0 := Lib.hid hy
    clear hx hy hW
    go_loopw [13] (fun s1 wr => ∃ k : Nat, s1 = .int .i64 (k : Int) ∧ k ≤ n ∧ Hid ((∀ j, j < k → nth xs j = nth ys j) ∧ Below w.heap.size w wr)) (fun s1 _ => n - (intOf s1).toNat)
    case atStart => exact ⟨0, rfl, Nat.zero_le _, HB⟩
    case round =>
      clear HB
      obtain ⟨k, rfl, hk, HB⟩ := hrel
      obtain ⟨hE, hW⟩ := HB.out
      have hx := HX0.out.below hW
      have hy := HY0.out.below hW
      have HE := Lib.hid hE
      clear HB hE
      by_cases hlt : k < n
      · obtain ⟨ad, rfl, _, c1⟩ := hx.at (k := k) hlt
        obtain ⟨ae, rfl, _, c2⟩ := hy.at (k := k) hlt
        obtain ⟨X, hX⟩ : ∃ X, nth xs k = X := ⟨_, rfl⟩
        obtain ⟨Y, hY⟩ : ∃ Y, nth ys k = Y := ⟨_, rfl⟩
        have HXX := Lib.hid hX
        have HYY := Lib.hid hY
        clear c1 c2 hX hY
        by_cases hq : X = Y
        · have hbq : ((X : Int) != (Y : Int)) = false := by rw [bne_eq_false_iff_eq]; omega
          have HBQ := Lib.hid hbq
          clear hbq
          go_wp2_with fail
          refine region8 [] 9 [IsK (.slice (some ad) n c), IsK (.int .i64 (k : Int)), IsK (.pointer (some (ad.add k))), IsK (.int .u64 (X : Int)), IsK (.slice (some ae) n d), IsK (.int .i64 (k : Int)), IsK (.pointer (some (ae.add k))), IsK (.int .u64 (Y : Int)), IsK (.bool false)] (fun _ _ d _ _ h => by cases d <;> exact h) (by kernel_rfl) (by kernel_rfl) (by kernel_rfl) ⟨stay_k _, stay_k _, stay_k _, stay_k _, stay_k _, stay_k _, stay_k _, stay_k _, stay_k _, trivial⟩ ?_ ?_
          · refine HopAll.cons rfl ?_ (HopAll.cons rfl ?_ (HopAll.cons rfl ?_ (HopAll.cons rfl ?_ (HopAll.cons rfl ?_ (HopAll.cons rfl ?_ (HopAll.cons rfl ?_ (HopAll.cons rfl ?_ (HopAll.cons rfl ?_ HopAll.nil))))))))
            · intro a w1 hB ho hp K hK
              have e0 : a.eval (.tmp 0) = (.slice (some ad) n c) := ho 0 (by kernel_rfl)
              refine hop_val (wanted_none rfl) ?_ (hK (.slice (some ad) n c) _ rfl (Below.refl _ _))
              unfold execOp; simp only [eval_const, e0]; simp [go_sem]
            · intro a w1 hB ho hp K hK
              have e5 : a.eval (.tmp 5) = (.int .i64 (k : Int)) := ho 5 (by kernel_rfl)
              refine hop_val (wanted_none rfl) ?_ (hK (.int .i64 (k : Int)) _ rfl (Below.refl _ _))
              unfold execOp; simp only [eval_const, e5]; simp [go_sem]
            · intro a w1 hB ho hp K hK
              have e16 : a.eval (.tmp 16) = (.slice (some ad) n c) := hp 0 16 (by kernel_rfl)
              have e17 : a.eval (.tmp 17) = (.int .i64 (k : Int)) := hp 1 17 (by kernel_rfl)
              refine hop_val (wanted_none rfl) ?_ (hK (.pointer (some (ad.add k))) _ rfl (Below.refl _ _))
              unfold execOp; simp only [eval_const, Option.map_some, Option.map_none, e16, e17]; simp [run_ixp hlt]
            · intro a w1 hB ho hp K hK
              have e18 : a.eval (.tmp 18) = (.pointer (some (ad.add k))) := hp 2 18 (by kernel_rfl)
              exact hop_load (wanted_none rfl) rfl e18 (run_ldw (by rw [← HXX.out]; exact (hx.below hB).rd.cell rfl (by rw [HN.out]; omega))) (hK _ _ rfl (Below.refl _ _))
            · intro a w1 hB ho hp K hK
              have e1 : a.eval (.tmp 1) = (.slice (some ae) n d) := ho 1 (by kernel_rfl)
              refine hop_val (wanted_none rfl) ?_ (hK (.slice (some ae) n d) _ rfl (Below.refl _ _))
              unfold execOp; simp only [eval_const, e1]; simp [go_sem]
            · intro a w1 hB ho hp K hK
              have e5 : a.eval (.tmp 5) = (.int .i64 (k : Int)) := ho 5 (by kernel_rfl)
              refine hop_val (wanted_none rfl) ?_ (hK (.int .i64 (k : Int)) _ rfl (Below.refl _ _))
              unfold execOp; simp only [eval_const, e5]; simp [go_sem]
            · intro a w1 hB ho hp K hK
              have e20 : a.eval (.tmp 20) = (.slice (some ae) n d) := hp 4 20 (by kernel_rfl)
              have e21 : a.eval (.tmp 21) = (.int .i64 (k : Int)) := hp 5 21 (by kernel_rfl)
              refine hop_val (wanted_none rfl) ?_ (hK (.pointer (some (ae.add k))) _ rfl (Below.refl _ _))
              unfold execOp; simp only [eval_const, Option.map_some, Option.map_none, e20, e21]; simp [run_ixp hlt]
            · intro a w1 hB ho hp K hK
              have e22 : a.eval (.tmp 22) = (.pointer (some (ae.add k))) := hp 6 22 (by kernel_rfl)
              exact hop_load (wanted_none rfl) rfl e22 (run_ldw (by rw [← HYY.out]; exact (hy.below hB).rd.cell rfl (by rw [HM.out]; omega))) (hK _ _ rfl (Below.refl _ _))
            · intro a w1 hB ho hp K hK
              have e19 : a.eval (.tmp 19) = (.int .u64 (X : Int)) := hp 3 19 (by kernel_rfl)
              have e23 : a.eval (.tmp 23) = (.int .u64 (Y : Int)) := hp 7 23 (by kernel_rfl)
              refine hop_val (wanted_none rfl) ?_ (hK (.bool false) _ rfl (Below.refl _ _))
              unfold execOp; simp only [eval_const, e19, e23]; simp [go_sem, HBQ.out]
          intro w21 B21
          refine EndAll.one rfl fun vv hv => ?_
          obtain rfl : vv = (.slice (some ad) n c) := hv
          refine EndAll.one rfl fun vv hv => ?_
          obtain rfl : vv = (.int .i64 (k : Int)) := hv
          refine EndAll.one rfl fun vv hv => ?_
          obtain rfl : vv = (.pointer (some (ad.add k))) := hv
          refine EndAll.one rfl fun vv hv => ?_
          obtain rfl : vv = (.int .u64 (X : Int)) := hv
          refine EndAll.one rfl fun vv hv => ?_
          obtain rfl : vv = (.slice (some ae) n d) := hv
          refine EndAll.one rfl fun vv hv => ?_
          obtain rfl : vv = (.int .i64 (k : Int)) := hv
          refine EndAll.one rfl fun vv hv => ?_
          obtain rfl : vv = (.pointer (some (ae.add k))) := hv
          refine EndAll.one rfl fun vv hv => ?_
          obtain rfl : vv = (.int .u64 (Y : Int)) := hv
          refine EndAll.one rfl fun vv hv => ?_
          obtain rfl : vv = (.bool false) := hv
          refine EndAll.nil (l := []) rfl ?_
          simp only [Act.put, List.setIfInBounds_toArray, List.set_cons_zero, List.set_cons_succ]
          replace hx := hx.below B21
          replace hy := hy.below B21
          replace hW := hW.trans (B21.mono hW.size)
          clear B21
          go_wp2_with fail
          go_round
          case rel => exact ⟨k + 1, by go_num, by omega, Lib.hid ⟨eq_step HE.out (by rw [HXX.out, HYY.out, hq]), hW⟩⟩
          case measure => first | (simp [intOf]; done) | (simp [intOf]; omega)
        · have hbq : ((X : Int) != (Y : Int)) = true := by rw [bne_iff_ne]; omega
          have HBQ := Lib.hid hbq
          clear hbq
          go_wp2_with fail
          refine region8 [] 9 [IsK (.slice (some ad) n c), IsK (.int .i64 (k : Int)), IsK (.pointer (some (ad.add k))), IsK (.int .u64 (X : Int)), IsK (.slice (some ae) n d), IsK (.int .i64 (k : Int)), IsK (.pointer (some (ae.add k))), IsK (.int .u64 (Y : Int)), IsK (.bool true)] (fun _ _ d _ _ h => by cases d <;> exact h) (by kernel_rfl) (by kernel_rfl) (by kernel_rfl) ⟨stay_k _, stay_k _, stay_k _, stay_k _, stay_k _, stay_k _, stay_k _, stay_k _, stay_k _, trivial⟩ ?_ ?_
          · refine HopAll.cons rfl ?_ (HopAll.cons rfl ?_ (HopAll.cons rfl ?_ (HopAll.cons rfl ?_ (HopAll.cons rfl ?_ (HopAll.cons rfl ?_ (HopAll.cons rfl ?_ (HopAll.cons rfl ?_ (HopAll.cons rfl ?_ HopAll.nil))))))))
            · intro a w1 hB ho hp K hK
              have e0 : a.eval (.tmp 0) = (.slice (some ad) n c) := ho 0 (by kernel_rfl)
              refine hop_val (wanted_none rfl) ?_ (hK (.slice (some ad) n c) _ rfl (Below.refl _ _))
              unfold execOp; simp only [eval_const, e0]; simp [go_sem]
            · intro a w1 hB ho hp K hK
              have e5 : a.eval (.tmp 5) = (.int .i64 (k : Int)) := ho 5 (by kernel_rfl)
              refine hop_val (wanted_none rfl) ?_ (hK (.int .i64 (k : Int)) _ rfl (Below.refl _ _))
              unfold execOp; simp only [eval_const, e5]; simp [go_sem]
            · intro a w1 hB ho hp K hK
              have e16 : a.eval (.tmp 16) = (.slice (some ad) n c) := hp 0 16 (by kernel_rfl)
              have e17 : a.eval (.tmp 17) = (.int .i64 (k : Int)) := hp 1 17 (by kernel_rfl)
              refine hop_val (wanted_none rfl) ?_ (hK (.pointer (some (ad.add k))) _ rfl (Below.refl _ _))
              unfold execOp; simp only [eval_const, Option.map_some, Option.map_none, e16, e17]; simp [run_ixp hlt]
            · intro a w1 hB ho hp K hK
              have e18 : a.eval (.tmp 18) = (.pointer (some (ad.add k))) := hp 2 18 (by kernel_rfl)
              exact hop_load (wanted_none rfl) rfl e18 (run_ldw (by rw [← HXX.out]; exact (hx.below hB).rd.cell rfl (by rw [HN.out]; omega))) (hK _ _ rfl (Below.refl _ _))
            · intro a w1 hB ho hp K hK
              have e1 : a.eval (.tmp 1) = (.slice (some ae) n d) := ho 1 (by kernel_rfl)
              refine hop_val (wanted_none rfl) ?_ (hK (.slice (some ae) n d) _ rfl (Below.refl _ _))
              unfold execOp; simp only [eval_const, e1]; simp [go_sem]
            · intro a w1 hB ho hp K hK
              have e5 : a.eval (.tmp 5) = (.int .i64 (k : Int)) := ho 5 (by kernel_rfl)
              refine hop_val (wanted_none rfl) ?_ (hK (.int .i64 (k : Int)) _ rfl (Below.refl _ _))
              unfold execOp; simp only [eval_const, e5]; simp [go_sem]
            · intro a w1 hB ho hp K hK
              have e20 : a.eval (.tmp 20) = (.slice (some ae) n d) := hp 4 20 (by kernel_rfl)
              have e21 : a.eval (.tmp 21) = (.int .i64 (k : Int)) := hp 5 21 (by kernel_rfl)
              refine hop_val (wanted_none rfl) ?_ (hK (.pointer (some (ae.add k))) _ rfl (Below.refl _ _))
              unfold execOp; simp only [eval_const, Option.map_some, Option.map_none, e20, e21]; simp [run_ixp hlt]
            · intro a w1 hB ho hp K hK
              have e22 : a.eval (.tmp 22) = (.pointer (some (ae.add k))) := hp 6 22 (by kernel_rfl)
              exact hop_load (wanted_none rfl) rfl e22 (run_ldw (by rw [← HYY.out]; exact (hy.below hB).rd.cell rfl (by rw [HM.out]; omega))) (hK _ _ rfl (Below.refl _ _))
            · intro a w1 hB ho hp K hK
              have e19 : a.eval (.tmp 19) = (.int .u64 (X : Int)) := hp 3 19 (by kernel_rfl)
              have e23 : a.eval (.tmp 23) = (.int .u64 (Y : Int)) := hp 7 23 (by kernel_rfl)
              refine hop_val (wanted_none rfl) ?_ (hK (.bool true) _ rfl (Below.refl _ _))
              unfold execOp; simp only [eval_const, e19, e23]; simp [go_sem, HBQ.out]
          intro w21 B21
          refine EndAll.one rfl fun vv hv => ?_
          obtain rfl : vv = (.slice (some ad) n c) := hv
          refine EndAll.one rfl fun vv hv => ?_
          obtain rfl : vv = (.int .i64 (k : Int)) := hv
          refine EndAll.one rfl fun vv hv => ?_
          obtain rfl : vv = (.pointer (some (ad.add k))) := hv
          refine EndAll.one rfl fun vv hv => ?_
          obtain rfl : vv = (.int .u64 (X : Int)) := hv
          refine EndAll.one rfl fun vv hv => ?_
          obtain rfl : vv = (.slice (some ae) n d) := hv
          refine EndAll.one rfl fun vv hv => ?_
          obtain rfl : vv = (.int .i64 (k : Int)) := hv
          refine EndAll.one rfl fun vv hv => ?_
          obtain rfl : vv = (.pointer (some (ae.add k))) := hv
          refine EndAll.one rfl fun vv hv => ?_
          obtain rfl : vv = (.int .u64 (Y : Int)) := hv
          refine EndAll.one rfl fun vv hv => ?_
          obtain rfl : vv = (.bool true) := hv
          refine EndAll.nil (l := []) rfl ?_
          simp only [Act.put, List.setIfInBounds_toArray, List.set_cons_zero, List.set_cons_succ]
          replace hx := hx.below B21
          replace hy := hy.below B21
          replace hW := hW.trans (B21.mono hW.size)
          clear B21
          obtain rfl : b = false := Bool.eq_false_iff.2 fun e => hq (by rw [← HXX.out, ← HYY.out, HB0.out.1 e])
          go_wp2_with fail
          exact bodyPost_ret (v := (.bool false)) (by simp [results, Tryd.results42, go_sem]) rfl ⟨rfl, hW⟩
      · obtain rfl : b = true := HB0.out.2 (eq_upto (by rw [HN.out, HM.out]) HE.out (by rw [HN.out]; omega))
        obtain rfl : k = n := by omega
        go_wp2_with fail
        exact bodyPost_ret (v := (.bool true)) (by simp [results, Tryd.results42, go_sem]) rfl ⟨rfl, hW⟩
  · have hne : ((n : Int) != (m : Int)) = true := by rw [bne_iff_ne]; omega
    obtain rfl : b = false := Bool.eq_false_iff.2 fun e => hl (by rw [← HN.out, ← HM.out, HB0.out.1 e])
    have hW := Below.refl w.heap.size w
    go_enter Tryd.func42, Tryd.ntmps42
    go_wp2_with fail
    exact bodyPost_ret (v := (.bool false)) (by simp [results, Tryd.results42, go_sem]) rfl ⟨rfl, hW⟩
set_option maxRecDepth 100000 in
set_option maxHeartbeats 1000000 in
/-- quincunx/quincunxref09.Same. -/
theorem rsame_v {n c m d : Nat} {A D : Option Addr} {xs ys : List Nat} {w : World} (hx : Lv w A n c xs) (hy : Lv w D m d ys) {b : Bool} (hb : b = true ↔ xs = ys) :
    Calls Tryd.prog 19 #[.slice A n c, .slice D m d] w (BlPost b w) := by
  have HN := Lib.hid hx.len
  have HM := Lib.hid hy.len
  have hnc := hx.le
  have hcm := hx.cap
  have HB0 := Lib.hid hb
  clear hb
  by_cases hl : n = m
  · have hne : ((n : Int) != (m : Int)) = false := by rw [bne_eq_false_iff_eq]; omega
    subst hl
    have hW := Below.refl w.heap.size w
    go_enter Tryd.func19, Tryd.ntmps19
    go_wp2_with fail
    have HB : Hid ((∀ j, j < 0 → nth xs j = nth ys j) ∧ Below w.heap.size w w) := Lib.hid ⟨fun j hj => by omega, hW⟩
    have HX0 := Lib.hid hx
    have HY0 := Lib.hid hy
    clear hx hy hW
    go_loopw [5] (fun s1 wr => ∃ k : Nat, s1 = .int .i64 (k : Int) ∧ k ≤ n ∧ Hid ((∀ j, j < k → nth xs j = nth ys j) ∧ Below w.heap.size w wr)) (fun s1 _ => n - (intOf s1).toNat)
    case atStart => exact ⟨0, rfl, Nat.zero_le _, HB⟩
    case round =>
      clear HB
      obtain ⟨k, rfl, hk, HB⟩ := hrel
      obtain ⟨hE, hW⟩ := HB.out
      have hx := HX0.out.below hW
      have hy := HY0.out.below hW
      have HE := Lib.hid hE
      clear HB hE
      by_cases hlt : k < n
      · obtain ⟨ad, rfl, _, c1⟩ := hx.at (k := k) hlt
        obtain ⟨ae, rfl, _, c2⟩ := hy.at (k := k) hlt
        obtain ⟨X, hX⟩ : ∃ X, nth xs k = X := ⟨_, rfl⟩
        obtain ⟨Y, hY⟩ : ∃ Y, nth ys k = Y := ⟨_, rfl⟩
        have HXX := Lib.hid hX
        have HYY := Lib.hid hY
        clear c1 c2 hX hY
        by_cases hq : X = Y
        · have hbq : ((X : Int) != (Y : Int)) = false := by rw [bne_eq_false_iff_eq]; omega
          have HBQ := Lib.hid hbq
          clear hbq
          go_wp2_with fail
          refine region8 [] 9 [IsK (.slice (some ad) n c), IsK (.int .i64 (k : Int)), IsK (.pointer (some (ad.add k))), IsK (.int .u64 (X : Int)), IsK (.slice (some ae) n d), IsK (.int .i64 (k : Int)), IsK (.pointer (some (ae.add k))), IsK (.int .u64 (Y : Int)), IsK (.bool false)] (fun _ _ d _ _ h => by cases d <;> exact h) (by kernel_rfl) (by kernel_rfl) (by kernel_rfl) ⟨stay_k _, stay_k _, stay_k _, stay_k _, stay_k _, stay_k _, stay_k _, stay_k _, stay_k _, trivial⟩ ?_ ?_
          · refine HopAll.cons rfl ?_ (HopAll.cons rfl ?_ (HopAll.cons rfl ?_ (HopAll.cons rfl ?_ (HopAll.cons rfl ?_ (HopAll.cons rfl ?_ (HopAll.cons rfl ?_ (HopAll.cons rfl ?_ (HopAll.cons rfl ?_ HopAll.nil))))))))
            · intro a w1 hB ho hp K hK
              have e0 : a.eval (.tmp 0) = (.slice (some ad) n c) := ho 0 (by kernel_rfl)
              refine hop_val (wanted_none rfl) ?_ (hK (.slice (some ad) n c) _ rfl (Below.refl _ _))
              unfold execOp; simp only [eval_const, e0]; simp [go_sem]
            · intro a w1 hB ho hp K hK
              have e5 : a.eval (.tmp 5) = (.int .i64 (k : Int)) := ho 5 (by kernel_rfl)
              refine hop_val (wanted_none rfl) ?_ (hK (.int .i64 (k : Int)) _ rfl (Below.refl _ _))
              unfold execOp; simp only [eval_const, e5]; simp [go_sem]
            · intro a w1 hB ho hp K hK
              have e17 : a.eval (.tmp 17) = (.slice (some ad) n c) := hp 0 17 (by kernel_rfl)
              have e18 : a.eval (.tmp 18) = (.int .i64 (k : Int)) := hp 1 18 (by kernel_rfl)
              refine hop_val (wanted_none rfl) ?_ (hK (.pointer (some (ad.add k))) _ rfl (Below.refl _ _))
              unfold execOp; simp only [eval_const, Option.map_some, Option.map_none, e17, e18]; simp [run_ixr hlt]
            · intro a w1 hB ho hp K hK
              have e19 : a.eval (.tmp 19) = (.pointer (some (ad.add k))) := hp 2 19 (by kernel_rfl)
              exact hop_load (wanted_none rfl) rfl e19 (run_ldw (by rw [← HXX.out]; exact (hx.below hB).rd.cell rfl (by rw [HN.out]; omega))) (hK _ _ rfl (Below.refl _ _))
            · intro a w1 hB ho hp K hK
              have e1 : a.eval (.tmp 1) = (.slice (some ae) n d) := ho 1 (by kernel_rfl)
              refine hop_val (wanted_none rfl) ?_ (hK (.slice (some ae) n d) _ rfl (Below.refl _ _))
              unfold execOp; simp only [eval_const, e1]; simp [go_sem]
            · intro a w1 hB ho hp K hK
              have e5 : a.eval (.tmp 5) = (.int .i64 (k : Int)) := ho 5 (by kernel_rfl)
              refine hop_val (wanted_none rfl) ?_ (hK (.int .i64 (k : Int)) _ rfl (Below.refl _ _))
              unfold execOp; simp only [eval_const, e5]; simp [go_sem]
            · intro a w1 hB ho hp K hK
              have e21 : a.eval (.tmp 21) = (.slice (some ae) n d) := hp 4 21 (by kernel_rfl)
              have e22 : a.eval (.tmp 22) = (.int .i64 (k : Int)) := hp 5 22 (by kernel_rfl)
              refine hop_val (wanted_none rfl) ?_ (hK (.pointer (some (ae.add k))) _ rfl (Below.refl _ _))
              unfold execOp; simp only [eval_const, Option.map_some, Option.map_none, e21, e22]; simp [run_ixr hlt]
            · intro a w1 hB ho hp K hK
              have e23 : a.eval (.tmp 23) = (.pointer (some (ae.add k))) := hp 6 23 (by kernel_rfl)
              exact hop_load (wanted_none rfl) rfl e23 (run_ldw (by rw [← HYY.out]; exact (hy.below hB).rd.cell rfl (by rw [HM.out]; omega))) (hK _ _ rfl (Below.refl _ _))
            · intro a w1 hB ho hp K hK
              have e20 : a.eval (.tmp 20) = (.int .u64 (X : Int)) := hp 3 20 (by kernel_rfl)
              have e24 : a.eval (.tmp 24) = (.int .u64 (Y : Int)) := hp 7 24 (by kernel_rfl)
              refine hop_val (wanted_none rfl) ?_ (hK (.bool false) _ rfl (Below.refl _ _))
              unfold execOp; simp only [eval_const, e20, e24]; simp [go_sem, HBQ.out]
          intro w21 B21
          refine EndAll.one rfl fun vv hv => ?_
          obtain rfl : vv = (.slice (some ad) n c) := hv
          refine EndAll.one rfl fun vv hv => ?_
          obtain rfl : vv = (.int .i64 (k : Int)) := hv
          refine EndAll.one rfl fun vv hv => ?_
          obtain rfl : vv = (.pointer (some (ad.add k))) := hv
          refine EndAll.one rfl fun vv hv => ?_
          obtain rfl : vv = (.int .u64 (X : Int)) := hv
          refine EndAll.one rfl fun vv hv => ?_
          obtain rfl : vv = (.slice (some ae) n d) := hv
          refine EndAll.one rfl fun vv hv => ?_
          obtain rfl : vv = (.int .i64 (k : Int)) := hv
          refine EndAll.one rfl fun vv hv => ?_
          obtain rfl : vv = (.pointer (some (ae.add k))) := hv
          refine EndAll.one rfl fun vv hv => ?_
          obtain rfl : vv = (.int .u64 (Y : Int)) := hv
          refine EndAll.one rfl fun vv hv => ?_
          obtain rfl : vv = (.bool false) := hv
          refine EndAll.nil (l := []) rfl ?_
          simp only [Act.put, List.setIfInBounds_toArray, List.set_cons_zero, List.set_cons_succ]
          replace hx := hx.below B21
          replace hy := hy.below B21
          replace hW := hW.trans (B21.mono hW.size)
          clear B21
          go_wp2_with fail
          go_round
          case rel => exact ⟨k + 1, by go_num, by omega, Lib.hid ⟨eq_step HE.out (by rw [HXX.out, HYY.out, hq]), hW⟩⟩
          case measure => first | (simp [intOf]; done) | (simp [intOf]; omega)
        · have hbq : ((X : Int) != (Y : Int)) = true := by rw [bne_iff_ne]; omega
          have HBQ := Lib.hid hbq
          clear hbq
          go_wp2_with fail
          refine region8 [] 9 [IsK (.slice (some ad) n c), IsK (.int .i64 (k : Int)), IsK (.pointer (some (ad.add k))), IsK (.int .u64 (X : Int)), IsK (.slice (some ae) n d), IsK (.int .i64 (k : Int)), IsK (.pointer (some (ae.add k))), IsK (.int .u64 (Y : Int)), IsK (.bool true)] (fun _ _ d _ _ h => by cases d <;> exact h) (by kernel_rfl) (by kernel_rfl) (by kernel_rfl) ⟨stay_k _, stay_k _, stay_k _, stay_k _, stay_k _, stay_k _, stay_k _, stay_k _, stay_k _, trivial⟩ ?_ ?_
          · refine HopAll.cons rfl ?_ (HopAll.cons rfl ?_ (HopAll.cons rfl ?_ (HopAll.cons rfl ?_ (HopAll.cons rfl ?_ (HopAll.cons rfl ?_ (HopAll.cons rfl ?_ (HopAll.cons rfl ?_ (HopAll.cons rfl ?_ HopAll.nil))))))))
            · intro a w1 hB ho hp K hK
              have e0 : a.eval (.tmp 0) = (.slice (some ad) n c) := ho 0 (by kernel_rfl)
              refine hop_val (wanted_none rfl) ?_ (hK (.slice (some ad) n c) _ rfl (Below.refl _ _))
              unfold execOp; simp only [eval_const, e0]; simp [go_sem]
            · intro a w1 hB ho hp K hK
              have e5 : a.eval (.tmp 5) = (.int .i64 (k : Int)) := ho 5 (by kernel_rfl)
              refine hop_val (wanted_none rfl) ?_ (hK (.int .i64 (k : Int)) _ rfl (Below.refl _ _))
              unfold execOp; simp only [eval_const, e5]; simp [go_sem]
            · intro a w1 hB ho hp K hK
              have e17 : a.eval (.tmp 17) = (.slice (some ad) n c) := hp 0 17 (by kernel_rfl)
              have e18 : a.eval (.tmp 18) = (.int .i64 (k : Int)) := hp 1 18 (by kernel_rfl)
              refine hop_val (wanted_none rfl) ?_ (hK (.pointer (some (ad.add k))) _ rfl (Below.refl _ _))
              unfold execOp; simp only [eval_const, Option.map_some, Option.map_none, e17, e18]; simp [run_ixr hlt]
            · intro a w1 hB ho hp K hK
              have e19 : a.eval (.tmp 19) = (.pointer (some (ad.add k))) := hp 2 19 (by kernel_rfl)
              exact hop_load (wanted_none rfl) rfl e19 (run_ldw (by rw [← HXX.out]; exact (hx.below hB).rd.cell rfl (by rw [HN.out]; omega))) (hK _ _ rfl (Below.refl _ _))
            · intro a w1 hB ho hp K hK
              have e1 : a.eval (.tmp 1) = (.slice (some ae) n d) := ho 1 (by kernel_rfl)
              refine hop_val (wanted_none rfl) ?_ (hK (.slice (some ae) n d) _ rfl (Below.refl _ _))
              unfold execOp; simp only [eval_const, e1]; simp [go_sem]
            · intro a w1 hB ho hp K hK
              have e5 : a.eval (.tmp 5) = (.int .i64 (k : Int)) := ho 5 (by kernel_rfl)
              refine hop_val (wanted_none rfl) ?_ (hK (.int .i64 (k : Int)) _ rfl (Below.refl _ _))
              unfold execOp; simp only [eval_const, e5]; simp [go_sem]
            · intro a w1 hB ho hp K hK
              have e21 : a.eval (.tmp 21) = (.slice (some ae) n d) := hp 4 21 (by kernel_rfl)
              have e22 : a.eval (.tmp 22) = (.int .i64 (k : Int)) := hp 5 22 (by kernel_rfl)
              refine hop_val (wanted_none rfl) ?_ (hK (.pointer (some (ae.add k))) _ rfl (Below.refl _ _))
              unfold execOp; simp only [eval_const, Option.map_some, Option.map_none, e21, e22]; simp [run_ixr hlt]
            · intro a w1 hB ho hp K hK
              have e23 : a.eval (.tmp 23) = (.pointer (some (ae.add k))) := hp 6 23 (by kernel_rfl)
              exact hop_load (wanted_none rfl) rfl e23 (run_ldw (by rw [← HYY.out]; exact (hy.below hB).rd.cell rfl (by rw [HM.out]; omega))) (hK _ _ rfl (Below.refl _ _))
            · intro a w1 hB ho hp K hK
              have e20 : a.eval (.tmp 20) = (.int .u64 (X : Int)) := hp 3 20 (by kernel_rfl)
              have e24 : a.eval (.tmp 24) = (.int .u64 (Y : Int)) := hp 7 24 (by kernel_rfl)
              refine hop_val (wanted_none rfl) ?_ (hK (.bool true) _ rfl (Below.refl _ _))
              unfold execOp; simp only [eval_const, e20, e24]; simp [go_sem, HBQ.out]
          intro w21 B21
          refine EndAll.one rfl fun vv hv => ?_
          obtain rfl : vv = (.slice (some ad) n c) := hv
          refine EndAll.one rfl fun vv hv => ?_
          obtain rfl : vv = (.int .i64 (k : Int)) := hv
          refine EndAll.one rfl fun vv hv => ?_
          obtain rfl : vv = (.pointer (some (ad.add k))) := hv
          refine EndAll.one rfl fun vv hv => ?_
          obtain rfl : vv = (.int .u64 (X : Int)) := hv
          refine EndAll.one rfl fun vv hv => ?_
          obtain rfl : vv = (.slice (some ae) n d) := hv
          refine EndAll.one rfl fun vv hv => ?_
          obtain rfl : vv = (.int .i64 (k : Int)) := hv
          refine EndAll.one rfl fun vv hv => ?_
          obtain rfl : vv = (.pointer (some (ae.add k))) := hv
          refine EndAll.one rfl fun vv hv => ?_
          obtain rfl : vv = (.int .u64 (Y : Int)) := hv
          refine EndAll.one rfl fun vv hv => ?_
          obtain rfl : vv = (.bool true) := hv
          refine EndAll.nil (l := []) rfl ?_
          simp only [Act.put, List.setIfInBounds_toArray, List.set_cons_zero, List.set_cons_succ]
          replace hx := hx.below B21
          replace hy := hy.below B21
          replace hW := hW.trans (B21.mono hW.size)
          clear B21
          obtain rfl : b = false := Bool.eq_false_iff.2 fun e => hq (by rw [← HXX.out, ← HYY.out, HB0.out.1 e])
          go_wp2_with fail
          exact bodyPost_ret (v := (.bool false)) (by simp [results, Tryd.results19, go_sem]) rfl ⟨rfl, hW⟩
      · obtain rfl : b = true := HB0.out.2 (eq_upto (by rw [HN.out, HM.out]) HE.out (by rw [HN.out]; omega))
        obtain rfl : k = n := by omega
        go_wp2_with fail
        exact bodyPost_ret (v := (.bool true)) (by simp [results, Tryd.results19, go_sem]) rfl ⟨rfl, hW⟩
  · have hne : ((n : Int) != (m : Int)) = true := by rw [bne_iff_ne]; omega
    obtain rfl : b = false := Bool.eq_false_iff.2 fun e => hl (by rw [← HN.out, ← HM.out, HB0.out.1 e])
    have hW := Below.refl w.heap.size w
    go_enter Tryd.func19, Tryd.ntmps19
    go_wp2_with fail
    exact bodyPost_ret (v := (.bool false)) (by simp [results, Tryd.results19, go_sem]) rfl ⟨rfl, hW⟩
set_option maxRecDepth 100000 in
set_option maxHeartbeats 1000000 in
/-- fpoly.Same. -/
theorem same9_v {ab p n c m d : Nat} {A D : Option Addr} {xs ys : List Nat} {w : World} (hp : ab + 2 = p) (h : p < 2147483648) (hx : Lv w A n c xs) (hn : n ≤ 1099511627776) (hy : Lv w D m d ys) (hm : m ≤ 1099511627776) {b : Bool} (hb : b = true ↔ nrm p xs = nrm p ys) :
    Calls Tryd.prog 18 #[.agg #[.int .u64 (ab : Int)], .slice A n c, .slice D m d] w (BlPost b w) := by
  have hW := Below.refl w.heap.size w
  obtain ⟨wp0, hwp0⟩ : ∃ xw, xw = w.alloc (.cells #[.int .u64 (ab : Int)] 28) := ⟨_, rfl⟩
  have zp0 : Below w.heap.size w wp0 := by rw [hwp0]; exact zba _ _
  have sp0 : wp0.heap.size = w.heap.size + 1 := by rw [hwp0, World.size_alloc]
  have If : Fb wp0 w.heap.size ab := by rw [hwp0]; exact Fb.new _ _ _
  replace hx := hx.below zp0
  replace hy := hy.below zp0
  replace hW := hW.trans (zp0.mono hW.size)
  have H_f := Lib.hid If
  clear If zp0
  have HW : Hid ((w.alloc (.cells #[.int .u64 (ab : Int)] 28)) = wp0) := Lib.hid (by rw [hwp0])
  have lw_f : w.heap.size ≤ w.heap.size := by omega
  clear hwp0 sp0
  have HP := Lib.hid hp
  have HB0 := Lib.hid hb
  clear hp hb
  go_enter Tryd.func18, Tryd.ntmps18
  obtain ⟨f1, f2, f3⟩ := H_f.out
  go_wp2_with fail
  rw [HW.out]
  clear f1 f2 f3
  refine region8 [] 7 [IsK (.agg #[.int .u64 (ab : Int)]), IsK (.slice A n c), IsP (nrm p xs), IsK (.agg #[.int .u64 (ab : Int)]), IsK (.slice D m d), IsP (nrm p ys), IsK (.bool b)] (fun _ _ d _ _ h => by cases d <;> exact h) (by kernel_rfl) (by kernel_rfl) (by kernel_rfl) ⟨stay_k _, stay_k _, stay_p _, stay_k _, stay_k _, stay_p _, stay_k _, trivial⟩ ?_ ?_
  · refine HopAll.cons rfl ?_ (HopAll.cons rfl ?_ (HopAll.cons rfl ?_ (HopAll.cons rfl ?_ (HopAll.cons rfl ?_ (HopAll.cons rfl ?_ (HopAll.cons rfl ?_ HopAll.nil))))))
    · intro a w1 hB ho hp K hK
      have e3 : a.eval (.tmp 3) = (.pointer (some ⟨w.heap.size, 0, none⟩)) := ho 3 (by kernel_rfl)
      obtain ⟨u1, u2, u3⟩ := H_f.out.below hB
      exact hop_load (wanted_none rfl) rfl e3 (run_ldf u1) (hK _ _ rfl (Below.refl _ _))
    · intro a w1 hB ho hp K hK
      have e1 : a.eval (.tmp 1) = (.slice A n c) := ho 1 (by kernel_rfl)
      refine hop_val (wanted_none rfl) ?_ (hK (.slice A n c) _ rfl (Below.refl _ _))
      unfold execOp; simp only [eval_const, e1]; simp [go_sem]
    · intro a w1 hB ho hp K hK
      have e7 : a.eval (.tmp 7) = (.agg #[.int .u64 (ab : Int)]) := hp 0 7 (by kernel_rfl)
      have e8 : a.eval (.tmp 8) = (.slice A n c) := hp 1 8 (by kernel_rfl)
      refine hop_call (wanted_none rfl) rfl (args := #[(.agg #[.int .u64 (ab : Int)]), (.slice A n c)]) (by simp only [List.map_toArray, List.map_cons, List.map_nil, eval_const, e7, e8]) (ent7 (by kernel_rfl) _ _) (norm_v HP.out h (hx.below hB) (by omega)) ?_
      rintro e w2 ⟨A, n, c, rfl, p, B⟩
      exact ⟨_, rfl, hK _ _ ⟨A, n, c, rfl, p⟩ B⟩
    · intro a w1 hB ho hp K hK
      have e3 : a.eval (.tmp 3) = (.pointer (some ⟨w.heap.size, 0, none⟩)) := ho 3 (by kernel_rfl)
      obtain ⟨u1, u2, u3⟩ := H_f.out.below hB
      exact hop_load (wanted_none rfl) rfl e3 (run_ldf u1) (hK _ _ rfl (Below.refl _ _))
    · intro a w1 hB ho hp K hK
      have e2 : a.eval (.tmp 2) = (.slice D m d) := ho 2 (by kernel_rfl)
      refine hop_val (wanted_none rfl) ?_ (hK (.slice D m d) _ rfl (Below.refl _ _))
      unfold execOp; simp only [eval_const, e2]; simp [go_sem]
    · intro a w1 hB ho hp K hK
      have e10 : a.eval (.tmp 10) = (.agg #[.int .u64 (ab : Int)]) := hp 3 10 (by kernel_rfl)
      have e11 : a.eval (.tmp 11) = (.slice D m d) := hp 4 11 (by kernel_rfl)
      refine hop_call (wanted_none rfl) rfl (args := #[(.agg #[.int .u64 (ab : Int)]), (.slice D m d)]) (by simp only [List.map_toArray, List.map_cons, List.map_nil, eval_const, e10, e11]) (ent7 (by kernel_rfl) _ _) (norm_v HP.out h (hy.below hB) (by omega)) ?_
      rintro e w2 ⟨A, n, c, rfl, p, B⟩
      exact ⟨_, rfl, hK _ _ ⟨A, n, c, rfl, p⟩ B⟩
    · intro a w1 hB ho hp K hK
      obtain ⟨A_9, n_9, c_9, e9, p9⟩ : IsP (nrm p xs) (a.eval (.tmp 9)) w1 := hp 2 9 (by kernel_rfl)
      obtain ⟨A_12, n_12, c_12, e12, p12⟩ : IsP (nrm p ys) (a.eval (.tmp 12)) w1 := hp 5 12 (by kernel_rfl)
      refine hop_call (wanted_none rfl) rfl (args := #[(.slice A_9 n_9 c_9), (.slice A_12 n_12 c_12)]) (by simp only [List.map_toArray, List.map_cons, List.map_nil, eval_const, e9, e12]) (ent7 (by kernel_rfl) _ _) (equal_v p9 p12 HB0.out) ?_
      rintro e w2 ⟨rfl, B⟩
      exact ⟨_, rfl, hK _ _ rfl B⟩
  intro w21 B21
  refine EndAll.one rfl fun vv hv => ?_
  obtain rfl : vv = (.agg #[.int .u64 (ab : Int)]) := hv
  refine EndAll.one rfl fun vv hv => ?_
  obtain rfl : vv = (.slice A n c) := hv
  refine EndAll.one rfl fun vv hv => ?_
  obtain ⟨A22, n22, c22, rfl, p22⟩ : IsP (nrm p xs) vv w21 := hv
  refine EndAll.one rfl fun vv hv => ?_
  obtain rfl : vv = (.agg #[.int .u64 (ab : Int)]) := hv
  refine EndAll.one rfl fun vv hv => ?_
  obtain rfl : vv = (.slice D m d) := hv
  refine EndAll.one rfl fun vv hv => ?_
  obtain ⟨A23, n23, c23, rfl, p23⟩ : IsP (nrm p ys) vv w21 := hv
  refine EndAll.one rfl fun vv hv => ?_
  obtain rfl : vv = (.bool b) := hv
  refine EndAll.nil (l := [_]) rfl ?_
  simp only [Act.put, List.setIfInBounds_toArray, List.set_cons_zero, List.set_cons_succ]
  replace H_f := Lib.hid (H_f.out.below B21)
  replace hx := hx.below B21
  replace hy := hy.below B21
  replace hW := hW.trans (B21.mono hW.size)
  clear p22 p23
  clear B21
  obtain ⟨f1, f2, f3⟩ := H_f.out
  go_wp2_with fail
  clear f1 f2 f3
  exact bodyPost_ret (v := (.bool b)) (by simp [results, Tryd.results18, go_sem]) rfl ⟨rfl, hW⟩
/-- A word is answered, and nothing is written. -/
def UqPost (x : Nat) (w : World) (e : Ending) (w' : World) : Prop := e = .returned (.int .u64 (x : Int)) ∧ Below w.heap.size w w'
set_option maxRecDepth 100000 in
set_option maxHeartbeats 1000000 in
/-- The reference's at. -/
theorem rat9_v {n c k x : Nat} {A : Option Addr} {xs : List Nat} {w : World} (hx : Lv w A n c xs) (hk : nth xs k = x) :
    Calls Tryd.prog 44 #[.slice A n c, .int .i64 (k : Int)] w (UPost x w) := by
  have hnc := hx.le
  have hcm := hx.cap
  have HN := Lib.hid hx.len
  have h0 : decide ((0 : Int) ≤ (k : Int)) = true := decide_eq_true (by omega)
  have HK := Lib.hid hk
  clear hk
  by_cases hlt : k < n
  · obtain ⟨ad, rfl, _, c1⟩ := hx.at (k := k) hlt
    rw [HK.out] at c1
    go_enter Tryd.func44, Tryd.ntmps44
    go_wp2_with fail
    exact bodyPost_ret (v := .int .u64 (x : Int)) (by simp [results, Tryd.results44, go_sem]) rfl ⟨rfl, Below.refl _ _⟩
  · obtain rfl : x = 0 := by rw [← HK.out]; exact nth_ge (by rw [HN.out]; omega)
    go_enter Tryd.func44, Tryd.ntmps44
    go_wp2_with fail
    exact bodyPost_ret (v := .int .u64 0) (by simp [results, Tryd.results44, go_sem]) rfl ⟨rfl, Below.refl _ _⟩
set_option maxRecDepth 100000 in
set_option maxHeartbeats 1000000 in
/-- The reference's Monic. -/
theorem rmonic_v {n c : Nat} {A : Option Addr} {xs : List Nat} {w : World} (hx : Lv w A n c xs) {b : Bool} (hb : b = true ↔ Mono xs) :
    Calls Tryd.prog 31 #[.slice A n c] w (BlPost b w) := by
  have hnc := hx.le
  have hcm := hx.cap
  have HN := Lib.hid hx.len
  have HB0 := Lib.hid hb
  clear hb
  rcases Nat.eq_zero_or_pos n with rfl | h0
  · obtain rfl : b = true := HB0.out.2 (.inl (List.length_eq_zero_iff.1 HN.out))
    go_enter Tryd.func31, Tryd.ntmps31
    go_wp2_with fail
    exact bodyPost_ret (v := .bool true) (by simp [results, Tryd.results31, go_sem]) rfl ⟨rfl, Below.refl _ _⟩
  · obtain ⟨m, rfl⟩ : ∃ q, n = q + 1 := ⟨n - 1, by omega⟩
    obtain ⟨ad, rfl, _, c1⟩ := hx.at (k := m) (by omega)
    obtain ⟨X, hX⟩ : ∃ X, nth xs m = X := ⟨_, rfl⟩
    rw [hX] at c1
    have hne : (((m + 1 : Nat) : Int) == 0) = false := by rw [beq_eq_false_iff_ne]; omega
    have hne2 : ((m : Int) + 1 == 0) = false := by rw [beq_eq_false_iff_ne]; omega
    have hne3 : ¬ ((m : Int) + 1 = 0) := by omega
    have hle : lead xs = X := by rw [← hX]; unfold lead; rw [HN.out, Nat.add_sub_cancel]
    have e1 : b = ((X : Int) == 1) := by
      rw [Bool.eq_iff_iff, HB0.out, beq_iff_eq]
      unfold Mono
      rw [hle]
      constructor
      · rintro (h1 | h1)
        · have := HN.out; rw [h1] at this; cases this
        · omega
      · intro h1; right; omega
    subst e1
    clear hX hle HB0
    go_enter Tryd.func31, Tryd.ntmps31
    go_wp2_with fail
    exact bodyPost_ret (v := .bool ((X : Int) == 1)) (by simp [results, Tryd.results31, go_sem]) rfl ⟨rfl, Below.refl _ _⟩
theorem zs_nrm {p k : Nat} {xs : List Nat} (hk : k ≤ xs.length) (hz : ∀ j, k ≤ j → nth (xs.map (· % p)) j = 0) (h1 : k = 0 ∨ nth (xs.map (· % p)) (k - 1) ≠ 0) : (xs.map (· % p)).take k = nrm p xs := by
  unfold nrm; rw [sl_eq hz h1]
set_option maxRecDepth 100000 in
set_option maxHeartbeats 1000000 in
/-- The reference's Norm. -/
theorem rnorm9_v {n c p : Nat} {A : Option Addr} {xs : List Nat} {w : World} (h2 : 2 ≤ p) (h : p < 2147483648) (hx : Lv w A n c xs) (hn : n ≤ 4398046511103) :
    Calls Tryd.prog 14 #[.slice A n c, .int .u64 (p : Int)] w (LPost (nrm p xs) w) := by
  have HN := Lib.hid hx.len
  have HX0 := Lib.hid hx
  clear hx
  go_enter Tryd.func14, Tryd.ntmps14
  go_wp2_with fail
  go_loopw [5, 6] (fun v i wr => ∃ k : Nat, k ≤ n ∧ i = .int .i64 (k : Int) ∧ OwnV w wr 26 .u64 v ((xs.map (· % p)).take k)) (fun _ i _ => n - (intOf i).toNat)
  case atStart => exact ⟨0, Nat.zero_le _, rfl, OwnV.nil _ _ _⟩
  case round =>
    obtain ⟨k, hk, rfl, ho⟩ := hrel
    by_cases hlt : k < n
    · obtain ⟨ad, rfl, _, hcell⟩ := (HX0.out.below ho.2).at (k := k) hlt
      obtain ⟨X, hX⟩ : ∃ X, nth xs k = X := ⟨_, rfl⟩
      rw [hX] at hcell
      obtain ⟨R, hR⟩ : ∃ R, X % p = R := ⟨_, rfl⟩
      have hz : (X : Int) % (p : Int) = (R : Int) := by rw [← hR, Int.natCast_emod]
      have hd0 : ((p : Int) == 0) = false := by rw [beq_eq_false_iff_ne]; omega
      have hl : ((xs.map (· % p)).take k).length ≤ 4398046511104 := by simp; omega
      have HT : Hid ((xs.map (· % p)).take k ++ [R] = (xs.map (· % p)).take (k + 1)) := Lib.hid (by rw [take_succ_nth (by rw [List.length_map, HN.out]; exact hlt), nth_map_mod, hX, hR])
      clear hX hR
      go_wp2_with (at_builtin; refine wpList_app1 w wr rfl _ _ _ rfl 26 .u64 Tryd.underlying22 info_u64 _ _ (by rfl) ho _ R (by omega) (by rfl) hl ?_)
      intro v1 w1 ho1
      rw [HT.out] at ho1
      clear ho
      go_wp2_with fail
      go_roundw
      case rel => exact ⟨k + 1, by omega, by go_num, ho1⟩
      case measure => simp [intOf]; omega
    · obtain rfl : k = n := by omega
      rw [List.take_of_length_le (by rw [List.length_map, HN.out]; exact Nat.le_refl _)] at ho
      obtain ⟨A5, c5, rfl, hg⟩ := ho.form
      have hml : (xs.map (· % p)).length = k := by rw [List.length_map, HN.out]
      have hc5 := hg.cap
      rw [hml] at hc5 ⊢
      have hc6 : c5 ≤ 9223372036854775807 := by have := hc5.2; unfold maxLen at this; omega
      have hc7 := hc5.1
      have HG := Lib.hid hg
      have HB : Below w.heap.size w wr := ho.2
      have HML := Lib.hid hml
      clear ho hg hlt hc5 hml
      go_wp2_with fail
      go_loop [5] (fun s5 => ∃ q : Nat, s5 = .slice A5 q c5 ∧ q ≤ k ∧ Hid (∀ j, q ≤ j → nth (xs.map (· % p)) j = 0)) (fun s5 => match s5 with | .slice _ q _ => q | _ => 0)
      case atStart => exact ⟨k, rfl, Nat.le_refl _, Lib.hid fun j hj => nth_ge (by rw [HML.out]; exact hj)⟩
      case round =>
        obtain ⟨q, rfl, hq, HZ⟩ := hrel
        have low : Low 18446744073709551616 (xs.map (· % p)) := Low.of_any fun j => by rw [nth_map_mod]; have := Nat.mod_lt (nth xs j) (show 0 < p by omega); omega
        have lv : ∀ zs, (xs.map (· % p)).take q = zs → Lv wr A5 q c5 zs := fun zs e => by
          subst e
          exact ⟨HG.out.rd.take q, by simp; have := HML.out; simp at this; omega, by omega, hc6, low.take q⟩
        rcases Nat.eq_zero_or_pos q with rfl | h0
        · have hP := lv _ (zs_nrm (by omega) HZ.out (.inl rfl))
          clear lv low
          go_wp2_with fail
          exact bodyPost_ret (v := .slice A5 0 c5) (by simp [results, Tryd.results14, go_sem]) rfl ⟨_, _, _, rfl, hP, HB⟩
        · obtain ⟨m, rfl⟩ : ∃ m, q = m + 1 := ⟨q - 1, by omega⟩
          obtain ⟨ad, rfl, _, hcell⟩ := HG.out.rd.at (k := m) (by rw [HML.out]; omega)
          by_cases hx : nth (xs.map (· % p)) m = 0
          · rw [hx] at hcell
            have HZ2 : Hid (∀ j, m ≤ j → nth (xs.map (· % p)) j = 0) := Lib.hid fun j hj => by
              rcases Nat.eq_or_lt_of_le hj with rfl | h1
              · exact hx
              · exact HZ.out j h1
            clear hx h0 lv low
            go_wp2_with fail
            go_round
            case rel => exact ⟨m, by go_num, by omega, HZ2⟩
            case measure => simp
          · have hP := lv _ (zs_nrm (by rw [HN.out]; omega) HZ.out (.inr hx))
            obtain ⟨X, hX⟩ : ∃ X, nth (xs.map (· % p)) m = X := ⟨_, rfl⟩
            rw [hX] at hcell hx
            have hb : ((X : Int) == 0) = false := by rw [beq_eq_false_iff_ne]; omega
            clear lv low hx hX h0
            go_wp2_with fail
            exact bodyPost_ret (v := .slice (some ad) (m + 1) c5) (by simp [results, Tryd.results14, go_sem]) rfl ⟨_, _, _, rfl, hP, HB⟩
end Go.Proofs.YthigedcpiglmnaaDoor
