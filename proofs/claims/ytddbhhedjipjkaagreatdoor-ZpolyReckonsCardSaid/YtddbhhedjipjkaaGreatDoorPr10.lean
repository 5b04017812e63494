/-
  GfpA GfpB
-/
import Derived.Test.YtddbhhedjipjkaaGreatDoorPr09
import Derived.Test.YtddbhhedjipjkaaGreatDoorPr04

section
namespace Go.Proofs.YtddbhhedjipjkaaGreatDoor
open Go.RowKit
set_option linter.unusedVariables false
set_option linter.unusedSimpArgs false
def UPost (r : Nat) (w : World) (e : Ending) (w' : World) : Prop := e = .returned (.int .u64 (r : Int)) ∧ Below w.heap.size w w'
def Fb (w : World) (g a : Nat) : Prop := w.cell? ⟨g, 0, none⟩ = some (.int .u64 (a : Int)) ∧ w.frozen? ⟨g, 0, none⟩ = false ∧ g < w.heap.size
theorem Fb.below {w w' : World} {g a : Nat} (h : Fb w g a) (hb : Below w.heap.size w w') : Fb w' g a :=
  ⟨(hb.cell (p := ⟨g, 0, none⟩) h.2.2).trans h.1, (hb.frozen (p := ⟨g, 0, none⟩) h.2.2).trans h.2.1, Nat.lt_of_lt_of_le h.2.2 hb.size⟩
theorem Fb.new (w : World) (a : Nat) (T : TypeId) : Fb (w.alloc (.cells #[.int .u64 (a : Int)] T)) w.heap.size a := by
  refine ⟨?_, ?_, ?_⟩ <;> simp [go_sem]
theorem run_ldf {w : World} {g a : Nat} (h : w.cell? ⟨g, 0, none⟩ = some (.int .u64 (a : Int))) : (Instr.loadAt 54 (.pointer (some ⟨g, 0, none⟩))).run Tryz.prog w = .ok (.agg #[.int .u64 (a : Int)]) w := by
  simp [go_sem, h]
theorem wrap_small {x : Nat} (h : x < 18446744073709551616) : IntKind.u64.wrap (x : Int) = (x : Int) := by
  rw [IntKind.wrap_u64]; omega
theorem uret {r : Nat} {w w' : World} {x : Int} (h : x = (r : Int)) (hb : Below w.heap.size w w') : UPost r w (.returned (.int .u64 x)) w' := ⟨by rw [h], hb⟩
theorem fp_v {a p : Nat} (hp : a + 2 = p) (h : p < 2147483648) (w : World) : Calls Tryz.prog 93 #[.agg #[.int .u64 (a : Int)]] w (UPost p w) := by
  go_enter Tryz.func93, Tryz.ntmps93
  go_wp2_with fail
  exact bodyPost_ret (v := .int .u64 (2 + (a : Int))) (by simp [results, Tryz.results93, go_sem]) rfl (uret (by omega) (zba _ _))
theorem fnorm_v {a p x r : Nat} (hp : a + 2 = p) (h : p < 2147483648) (hx : x < 18446744073709551616) (hr : x % p = r) (w : World) :
    Calls Tryz.prog 98 #[.agg #[.int .u64 (a : Int)], .int .u64 (x : Int)] w (UPost r w) := by
  have HR := Lib.hid hr
  clear hr
  have HP := Lib.hid hp
  clear hp
  go_enter Tryz.func98, Tryz.ntmps98
  go_wp2_with fail
  refine (fp_v HP.out h _).mono ?_
  rintro e w1 ⟨rfl, B1⟩
  have hb : Below w.heap.size w w1 := zup (zba _ _) B1
  have h2 : 2 ≤ p := by have := HP.out; omega
  by_cases hc : p ≤ x
  · have hz : (x : Int) % (p : Int) = (r : Int) := by rw [← Int.natCast_emod, HR.out]
    go_wp2_with fail
    exact bodyPost_ret (v := .int .u64 (r : Int)) (by simp [results, Tryz.results98, go_sem, hz]) rfl ⟨rfl, hb⟩
  · obtain rfl : x = r := by have := HR.out; rwa [Nat.mod_eq_of_lt (by omega)] at this
    go_wp2_with fail
    exact bodyPost_ret (v := .int .u64 (x : Int)) (by simp [results, Tryz.results98, go_sem]) rfl ⟨rfl, hb⟩
set_option maxRecDepth 100000 in
set_option maxHeartbeats 4000000 in
theorem fmul_v {ab p x y r : Nat} (hp : ab + 2 = p) (h : p < 2147483648) (hx : x < 18446744073709551616) (hy : y < 18446744073709551616) (hr : x * y % p = r) (w : World) :
    Calls Tryz.prog 71 #[.agg #[.int .u64 (ab : Int)], .int .u64 (x : Int), .int .u64 (y : Int)] w (UPost r w) := by
  have hW := Below.refl w.heap.size w
  obtain ⟨wp0, hwp0⟩ : ∃ xw, xw = w.alloc (.cells #[.int .u64 (ab : Int)] 54) := ⟨_, rfl⟩
  have zp0 : Below w.heap.size w wp0 := by rw [hwp0]; exact zba _ _
  have sp0 : wp0.heap.size = w.heap.size + 1 := by rw [hwp0, World.size_alloc]
  have If : Fb wp0 w.heap.size ab := by rw [hwp0]; exact Fb.new _ _ _
  replace hW := hW.trans (zp0.mono hW.size)
  have H_f := Lib.hid If
  clear If zp0
  have HW : Hid ((w.alloc (.cells #[.int .u64 (ab : Int)] 54)) = wp0) := Lib.hid (by rw [hwp0])
  have lw_f : w.heap.size ≤ w.heap.size := by omega
  clear hwp0 sp0
  have h2 : 2 ≤ p := by omega
  have HP := Lib.hid hp
  obtain ⟨X, hX⟩ : ∃ X, x % p = X := ⟨_, rfl⟩
  obtain ⟨Y, hY⟩ : ∃ Y, y % p = Y := ⟨_, rfl⟩
  obtain ⟨Z, hZ⟩ : ∃ Z, X * Y = Z := ⟨_, rfl⟩
  have l1 : X < p := hX ▸ Nat.mod_lt _ (by omega)
  have l2 : Y < p := hY ▸ Nat.mod_lt _ (by omega)
  have l3 : Z < 18446744073709551616 := by rw [← hZ]; have := mul_low (a := X) (b := Y) (by omega) (by omega); omega
  have hw : IntKind.u64.wrap ((X : Int) * (Y : Int)) = (Z : Int) := by rw [← Int.natCast_mul, hZ]; exact wrap_small (by omega)
  have HR : Hid (Z % p = r) := Lib.hid (by rw [← hr, Nat.mul_mod x y, hX, hY, hZ])
  have HX := Lib.hid hX
  have HY := Lib.hid hY
  have HWR := Lib.hid hw
  clear hX hY hZ hr hw hp
  go_enter Tryz.func71, Tryz.ntmps71
  obtain ⟨f1, f2, f3⟩ := H_f.out
  go_wp2_with fail
  rw [HW.out]
  clear f1 f2 f3
  refine region8 [] 10 [IsK (.agg #[.int .u64 (ab : Int)]), IsK (.agg #[.int .u64 (ab : Int)]), IsK (.int .u64 (x : Int)), IsK (.int .u64 (X : Int)), IsK (.agg #[.int .u64 (ab : Int)]), IsK (.int .u64 (y : Int)), IsK (.int .u64 (Y : Int)), IsK (.int .u64 (Z : Int)), IsK (.int .u64 (r : Int)), IsK (.int .u64 (r : Int))] (fun _ _ d _ _ h => by cases d <;> exact h) (by kernel_rfl) (by kernel_rfl) (by kernel_rfl) ⟨stay_k _, stay_k _, stay_k _, stay_k _, stay_k _, stay_k _, stay_k _, stay_k _, stay_k _, stay_k _, trivial⟩ ?_ ?_
  · refine HopAll.cons rfl ?_ (HopAll.cons rfl ?_ (HopAll.cons rfl ?_ (HopAll.cons rfl ?_ (HopAll.cons rfl ?_ (HopAll.cons rfl ?_ (HopAll.cons rfl ?_ (HopAll.cons rfl ?_ (HopAll.cons rfl ?_ (HopAll.cons rfl ?_ HopAll.nil)))))))))
    · intro a w1 hB ho hp K hK
      have e3 : a.eval (.tmp 3) = (.pointer (some ⟨w.heap.size, 0, none⟩)) := ho 3 (by kernel_rfl)
      obtain ⟨u1, u2, u3⟩ := H_f.out.below hB
      exact hop_load (wanted_none rfl) rfl e3 (run_ldf u1) (hK _ _ rfl (Below.refl _ _))
    · intro a w1 hB ho hp K hK
      have e3 : a.eval (.tmp 3) = (.pointer (some ⟨w.heap.size, 0, none⟩)) := ho 3 (by kernel_rfl)
      obtain ⟨u1, u2, u3⟩ := H_f.out.below hB
      exact hop_load (wanted_none rfl) rfl e3 (run_ldf u1) (hK _ _ rfl (Below.refl _ _))
    · intro a w1 hB ho hp K hK
      have e1 : a.eval (.tmp 1) = (.int .u64 (x : Int)) := ho 1 (by kernel_rfl)
      refine hop_val (wanted_none rfl) ?_ (hK (.int .u64 (x : Int)) _ rfl (Below.refl _ _))
      unfold execOp; simp only [eval_const, e1]; simp [go_sem]
    · intro a w1 hB ho hp K hK
      have e8 : a.eval (.tmp 8) = (.agg #[.int .u64 (ab : Int)]) := hp 1 8 (by kernel_rfl)
      have e9 : a.eval (.tmp 9) = (.int .u64 (x : Int)) := hp 2 9 (by kernel_rfl)
      refine hop_call (wanted_none rfl) rfl (args := #[(.agg #[.int .u64 (ab : Int)]), (.int .u64 (x : Int))]) (by simp only [List.map_toArray, List.map_cons, List.map_nil, eval_const, e8, e9]) (ent7 (by kernel_rfl) _ _) (fnorm_v HP.out h hx HX.out _) ?_
      rintro e w2 ⟨rfl, B⟩
      exact ⟨_, rfl, hK _ _ rfl B⟩
    · intro a w1 hB ho hp K hK
      have e3 : a.eval (.tmp 3) = (.pointer (some ⟨w.heap.size, 0, none⟩)) := ho 3 (by kernel_rfl)
      obtain ⟨u1, u2, u3⟩ := H_f.out.below hB
      exact hop_load (wanted_none rfl) rfl e3 (run_ldf u1) (hK _ _ rfl (Below.refl _ _))
    · intro a w1 hB ho hp K hK
      have e2 : a.eval (.tmp 2) = (.int .u64 (y : Int)) := ho 2 (by kernel_rfl)
      refine hop_val (wanted_none rfl) ?_ (hK (.int .u64 (y : Int)) _ rfl (Below.refl _ _))
      unfold execOp; simp only [eval_const, e2]; simp [go_sem]
    · intro a w1 hB ho hp K hK
      have e11 : a.eval (.tmp 11) = (.agg #[.int .u64 (ab : Int)]) := hp 4 11 (by kernel_rfl)
      have e12 : a.eval (.tmp 12) = (.int .u64 (y : Int)) := hp 5 12 (by kernel_rfl)
      refine hop_call (wanted_none rfl) rfl (args := #[(.agg #[.int .u64 (ab : Int)]), (.int .u64 (y : Int))]) (by simp only [List.map_toArray, List.map_cons, List.map_nil, eval_const, e11, e12]) (ent7 (by kernel_rfl) _ _) (fnorm_v HP.out h hy HY.out _) ?_
      rintro e w2 ⟨rfl, B⟩
      exact ⟨_, rfl, hK _ _ rfl B⟩
    · intro a w1 hB ho hp K hK
      have e10 : a.eval (.tmp 10) = (.int .u64 (X : Int)) := hp 3 10 (by kernel_rfl)
      have e13 : a.eval (.tmp 13) = (.int .u64 (Y : Int)) := hp 6 13 (by kernel_rfl)
      refine hop_val (wanted_none rfl) ?_ (hK (.int .u64 (Z : Int)) _ rfl (Below.refl _ _))
      unfold execOp; simp only [eval_const, e10, e13]; simp [go_sem, HWR.out]
    · intro a w1 hB ho hp K hK
      have e7 : a.eval (.tmp 7) = (.agg #[.int .u64 (ab : Int)]) := hp 0 7 (by kernel_rfl)
      have e14 : a.eval (.tmp 14) = (.int .u64 (Z : Int)) := hp 7 14 (by kernel_rfl)
      refine hop_call (wanted_none rfl) rfl (args := #[(.agg #[.int .u64 (ab : Int)]), (.int .u64 (Z : Int))]) (by simp only [List.map_toArray, List.map_cons, List.map_nil, eval_const, e7, e14]) (ent7 (by kernel_rfl) _ _) (fnorm_v HP.out h l3 HR.out _) ?_
      rintro e w2 ⟨rfl, B⟩
      exact ⟨_, rfl, hK _ _ rfl B⟩
    · intro a w1 hB ho hp K hK
      have e15 : a.eval (.tmp 15) = (.int .u64 (r : Int)) := hp 8 15 (by kernel_rfl)
      refine hop_val (wanted_none rfl) ?_ (hK (.int .u64 (r : Int)) _ rfl (Below.refl _ _))
      unfold execOp; simp only [eval_const, e15]; simp [go_sem]
  intro w21 B21
  refine EndAll.one rfl fun vv hv => ?_
  obtain rfl : vv = (.agg #[.int .u64 (ab : Int)]) := hv
  refine EndAll.one rfl fun vv hv => ?_
  obtain rfl : vv = (.agg #[.int .u64 (ab : Int)]) := hv
  refine EndAll.one rfl fun vv hv => ?_
  obtain rfl : vv = (.int .u64 (x : Int)) := hv
  refine EndAll.one rfl fun vv hv => ?_
  obtain rfl : vv = (.int .u64 (X : Int)) := hv
  refine EndAll.one rfl fun vv hv => ?_
  obtain rfl : vv = (.agg #[.int .u64 (ab : Int)]) := hv
  refine EndAll.one rfl fun vv hv => ?_
  obtain rfl : vv = (.int .u64 (y : Int)) := hv
  refine EndAll.one rfl fun vv hv => ?_
  obtain rfl : vv = (.int .u64 (Y : Int)) := hv
  refine EndAll.one rfl fun vv hv => ?_
  obtain rfl : vv = (.int .u64 (Z : Int)) := hv
  refine EndAll.one rfl fun vv hv => ?_
  obtain rfl : vv = (.int .u64 (r : Int)) := hv
  refine EndAll.one rfl fun vv hv => ?_
  obtain rfl : vv = (.int .u64 (r : Int)) := hv
  refine EndAll.nil (l := []) rfl ?_
  simp only [Act.put, List.setIfInBounds_toArray, List.set_cons_zero, List.set_cons_succ]
  replace H_f := Lib.hid (H_f.out.below B21)
  replace hW := hW.trans (B21.mono hW.size)
  clear B21
  obtain ⟨f1, f2, f3⟩ := H_f.out
  go_wp2_with fail
  clear f1 f2 f3
  exact bodyPost_ret (v := (.int .u64 (r : Int))) (by simp [results, Tryz.results71, go_sem]) rfl ⟨rfl, hW⟩
set_option maxRecDepth 100000 in
set_option maxHeartbeats 4000000 in
theorem fneg_v {ab p x r : Nat} (hp : ab + 2 = p) (h : p < 2147483648) (hx : x < 18446744073709551616) (hr : (p - x % p) % p = r) (w : World) :
    Calls Tryz.prog 96 #[.agg #[.int .u64 (ab : Int)], .int .u64 (x : Int)] w (UPost r w) := by
  have hW := Below.refl w.heap.size w
  obtain ⟨wp0, hwp0⟩ : ∃ xw, xw = w.alloc (.cells #[.int .u64 (ab : Int)] 54) := ⟨_, rfl⟩
  have zp0 : Below w.heap.size w wp0 := by rw [hwp0]; exact zba _ _
  have sp0 : wp0.heap.size = w.heap.size + 1 := by rw [hwp0, World.size_alloc]
  have If : Fb wp0 w.heap.size ab := by rw [hwp0]; exact Fb.new _ _ _
  replace hW := hW.trans (zp0.mono hW.size)
  have H_f := Lib.hid If
  clear If zp0
  have HW : Hid ((w.alloc (.cells #[.int .u64 (ab : Int)] 54)) = wp0) := Lib.hid (by rw [hwp0])
  have lw_f : w.heap.size ≤ w.heap.size := by omega
  clear hwp0 sp0
  have h2 : 2 ≤ p := by omega
  have HP := Lib.hid hp
  obtain ⟨X, hX⟩ : ∃ X, x % p = X := ⟨_, rfl⟩
  have l1 : X < p := hX ▸ Nat.mod_lt _ (by omega)
  obtain ⟨Z, hZ⟩ : ∃ Z, p - X = Z := ⟨_, rfl⟩
  have HWR : Hid (IntKind.u64.wrap ((p : Int) - (X : Int)) = (Z : Int)) := Lib.hid (by rw [show (p : Int) - (X : Int) = (Z : Int) by omega]; exact wrap_small (by omega))
  have HR : Hid (Z % p = r) := Lib.hid (by rw [← hr, hX, hZ])
  have l3 : Z < 18446744073709551616 := by omega
  have HX := Lib.hid hX
  clear hX hZ hr hp
  go_enter Tryz.func96, Tryz.ntmps96
  obtain ⟨f1, f2, f3⟩ := H_f.out
  go_wp2_with fail
  rw [HW.out]
  clear f1 f2 f3
  refine region8 [] 9 [IsK (.agg #[.int .u64 (ab : Int)]), IsK (.agg #[.int .u64 (ab : Int)]), IsK (.int .u64 (p : Int)), IsK (.agg #[.int .u64 (ab : Int)]), IsK (.int .u64 (x : Int)), IsK (.int .u64 (X : Int)), IsK (.int .u64 (Z : Int)), IsK (.int .u64 (r : Int)), IsK (.int .u64 (r : Int))] (fun _ _ d _ _ h => by cases d <;> exact h) (by kernel_rfl) (by kernel_rfl) (by kernel_rfl) ⟨stay_k _, stay_k _, stay_k _, stay_k _, stay_k _, stay_k _, stay_k _, stay_k _, stay_k _, trivial⟩ ?_ ?_
  · refine HopAll.cons rfl ?_ (HopAll.cons rfl ?_ (HopAll.cons rfl ?_ (HopAll.cons rfl ?_ (HopAll.cons rfl ?_ (HopAll.cons rfl ?_ (HopAll.cons rfl ?_ (HopAll.cons rfl ?_ (HopAll.cons rfl ?_ HopAll.nil))))))))
    · intro a w1 hB ho hp K hK
      have e2 : a.eval (.tmp 2) = (.pointer (some ⟨w.heap.size, 0, none⟩)) := ho 2 (by kernel_rfl)
      obtain ⟨u1, u2, u3⟩ := H_f.out.below hB
      exact hop_load (wanted_none rfl) rfl e2 (run_ldf u1) (hK _ _ rfl (Below.refl _ _))
    · intro a w1 hB ho hp K hK
      have e2 : a.eval (.tmp 2) = (.pointer (some ⟨w.heap.size, 0, none⟩)) := ho 2 (by kernel_rfl)
      obtain ⟨u1, u2, u3⟩ := H_f.out.below hB
      exact hop_load (wanted_none rfl) rfl e2 (run_ldf u1) (hK _ _ rfl (Below.refl _ _))
    · intro a w1 hB ho hp K hK
      have e6 : a.eval (.tmp 6) = (.agg #[.int .u64 (ab : Int)]) := hp 1 6 (by kernel_rfl)
      refine hop_call (wanted_none rfl) rfl (args := #[(.agg #[.int .u64 (ab : Int)])]) (by simp only [List.map_toArray, List.map_cons, List.map_nil, eval_const, e6]) (ent7 (by kernel_rfl) _ _) (fp_v HP.out h _) ?_
      rintro e w2 ⟨rfl, B⟩
      exact ⟨_, rfl, hK _ _ rfl B⟩
    · intro a w1 hB ho hp K hK
      have e2 : a.eval (.tmp 2) = (.pointer (some ⟨w.heap.size, 0, none⟩)) := ho 2 (by kernel_rfl)
      obtain ⟨u1, u2, u3⟩ := H_f.out.below hB
      exact hop_load (wanted_none rfl) rfl e2 (run_ldf u1) (hK _ _ rfl (Below.refl _ _))
    · intro a w1 hB ho hp K hK
      have e1 : a.eval (.tmp 1) = (.int .u64 (x : Int)) := ho 1 (by kernel_rfl)
      refine hop_val (wanted_none rfl) ?_ (hK (.int .u64 (x : Int)) _ rfl (Below.refl _ _))
      unfold execOp; simp only [eval_const, e1]; simp [go_sem]
    · intro a w1 hB ho hp K hK
      have e8 : a.eval (.tmp 8) = (.agg #[.int .u64 (ab : Int)]) := hp 3 8 (by kernel_rfl)
      have e9 : a.eval (.tmp 9) = (.int .u64 (x : Int)) := hp 4 9 (by kernel_rfl)
      refine hop_call (wanted_none rfl) rfl (args := #[(.agg #[.int .u64 (ab : Int)]), (.int .u64 (x : Int))]) (by simp only [List.map_toArray, List.map_cons, List.map_nil, eval_const, e8, e9]) (ent7 (by kernel_rfl) _ _) (fnorm_v HP.out h hx HX.out _) ?_
      rintro e w2 ⟨rfl, B⟩
      exact ⟨_, rfl, hK _ _ rfl B⟩
    · intro a w1 hB ho hp K hK
      have e7 : a.eval (.tmp 7) = (.int .u64 (p : Int)) := hp 2 7 (by kernel_rfl)
      have e10 : a.eval (.tmp 10) = (.int .u64 (X : Int)) := hp 5 10 (by kernel_rfl)
      refine hop_val (wanted_none rfl) ?_ (hK (.int .u64 (Z : Int)) _ rfl (Below.refl _ _))
      unfold execOp; simp only [eval_const, e7, e10]; simp [go_sem, HWR.out]
    · intro a w1 hB ho hp K hK
      have e5 : a.eval (.tmp 5) = (.agg #[.int .u64 (ab : Int)]) := hp 0 5 (by kernel_rfl)
      have e11 : a.eval (.tmp 11) = (.int .u64 (Z : Int)) := hp 6 11 (by kernel_rfl)
      refine hop_call (wanted_none rfl) rfl (args := #[(.agg #[.int .u64 (ab : Int)]), (.int .u64 (Z : Int))]) (by simp only [List.map_toArray, List.map_cons, List.map_nil, eval_const, e5, e11]) (ent7 (by kernel_rfl) _ _) (fnorm_v HP.out h l3 HR.out _) ?_
      rintro e w2 ⟨rfl, B⟩
      exact ⟨_, rfl, hK _ _ rfl B⟩
    · intro a w1 hB ho hp K hK
      have e12 : a.eval (.tmp 12) = (.int .u64 (r : Int)) := hp 7 12 (by kernel_rfl)
      refine hop_val (wanted_none rfl) ?_ (hK (.int .u64 (r : Int)) _ rfl (Below.refl _ _))
      unfold execOp; simp only [eval_const, e12]; simp [go_sem]
  intro w21 B21
  refine EndAll.one rfl fun vv hv => ?_
  obtain rfl : vv = (.agg #[.int .u64 (ab : Int)]) := hv
  refine EndAll.one rfl fun vv hv => ?_
  obtain rfl : vv = (.agg #[.int .u64 (ab : Int)]) := hv
  refine EndAll.one rfl fun vv hv => ?_
  obtain rfl : vv = (.int .u64 (p : Int)) := hv
  refine EndAll.one rfl fun vv hv => ?_
  obtain rfl : vv = (.agg #[.int .u64 (ab : Int)]) := hv
  refine EndAll.one rfl fun vv hv => ?_
  obtain rfl : vv = (.int .u64 (x : Int)) := hv
  refine EndAll.one rfl fun vv hv => ?_
  obtain rfl : vv = (.int .u64 (X : Int)) := hv
  refine EndAll.one rfl fun vv hv => ?_
  obtain rfl : vv = (.int .u64 (Z : Int)) := hv
  refine EndAll.one rfl fun vv hv => ?_
  obtain rfl : vv = (.int .u64 (r : Int)) := hv
  refine EndAll.one rfl fun vv hv => ?_
  obtain rfl : vv = (.int .u64 (r : Int)) := hv
  refine EndAll.nil (l := []) rfl ?_
  simp only [Act.put, List.setIfInBounds_toArray, List.set_cons_zero, List.set_cons_succ]
  replace H_f := Lib.hid (H_f.out.below B21)
  replace hW := hW.trans (B21.mono hW.size)
  clear B21
  obtain ⟨f1, f2, f3⟩ := H_f.out
  go_wp2_with fail
  clear f1 f2 f3
  exact bodyPost_ret (v := (.int .u64 (r : Int))) (by simp [results, Tryz.results96, go_sem]) rfl ⟨rfl, hW⟩
end Go.Proofs.YtddbhhedjipjkaaGreatDoor
end

section
namespace Go.Proofs.YtddbhhedjipjkaaGreatDoor
open Go.RowKit
set_option linter.unusedVariables false
set_option linter.unusedSimpArgs false
set_option maxRecDepth 100000 in
set_option maxHeartbeats 4000000 in
theorem fpower_v {ab p x n r : Nat} (hp : ab + 2 = p) (h : p < 2147483648) (hx : x < 18446744073709551616) (hn : n < 18446744073709551616) (hr : x ^ n % p = r) (w : World) :
    Calls Tryz.prog 148 #[.agg #[.int .u64 (ab : Int)], .int .u64 (x : Int), .int .u64 (n : Int)] w (UPost r w) := by
  have hW := Below.refl w.heap.size w
  obtain ⟨wp0, hwp0⟩ : ∃ xw, xw = w.alloc (.cells #[.int .u64 (ab : Int)] 54) := ⟨_, rfl⟩
  have zp0 : Below w.heap.size w wp0 := by rw [hwp0]; exact zba _ _
  have sp0 : wp0.heap.size = w.heap.size + 1 := by rw [hwp0, World.size_alloc]
  have If : Fb wp0 w.heap.size ab := by rw [hwp0]; exact Fb.new _ _ _
  replace hW := hW.trans (zp0.mono hW.size)
  have H_f := Lib.hid If
  clear If zp0
  have HW : Hid ((w.alloc (.cells #[.int .u64 (ab : Int)] 54)) = wp0) := Lib.hid (by rw [hwp0])
  have lw_f : w.heap.size ≤ w.heap.size := by omega
  clear hwp0 sp0
  have h2 : 2 ≤ p := by omega
  have HP := Lib.hid hp
  have HR := Lib.hid hr
  have HM : Hid (PwRest x n p x n 1) := Lib.hid (by unfold PwRest; rw [Nat.one_mul])
  clear hr hp
  go_enter Tryz.func148, Tryz.ntmps148
  obtain ⟨f1, f2, f3⟩ := H_f.out
  go_wp2_with fail
  rw [HW.out]
  clear f1 f2 f3
  have HB : Hid (Fb wp0 w.heap.size ab ∧ Below w.heap.size w wp0) := Lib.hid ⟨H_f.out, hW⟩
  clear hW H_f HW
  go_loopw [2, 7, 8] (fun s2 s7 s8 wr => ∃ k y z : Nat, s2 = .int .u64 (k : Int) ∧ s7 = .int .u64 (y : Int) ∧ s8 = .int .u64 (z : Int) ∧ k < 18446744073709551616 ∧ y < p ∧ z < 18446744073709551616 ∧ Hid (PwRest x n p z k y) ∧ Hid (Fb wr w.heap.size ab ∧ Below w.heap.size w wr)) (fun s2 _ _ _ => (intOf s2).toNat)
  case atStart => exact ⟨n, 1, x, rfl, rfl, rfl, hn, by omega, hx, HM, HB⟩
  case round =>
    clear HM HB
    obtain ⟨k, y, z, rfl, rfl, rfl, hk, hy, hz, HA, HB⟩ := hrel
    obtain ⟨I1, hW⟩ := HB.out
    have H_f := Lib.hid I1
    clear I1 HB
    rcases Nat.eq_zero_or_pos k with rfl | h0
    · have e1 : y = r := by
        have := HA.out
        unfold PwRest at this
        rw [Nat.pow_zero, Nat.mul_one, HR.out, Nat.mod_eq_of_lt hy] at this
        exact this
      clear HA HR H_f
      subst e1
      go_wp2_with fail
      exact bodyPost_ret (v := .int .u64 (y : Int)) (by simp [results, Tryz.results148, go_sem]) rfl ⟨rfl, hW⟩
    · have h1 := and_one hk
      obtain ⟨Z, hZ⟩ : ∃ Z, z * z % p = Z := ⟨_, rfl⟩
      have lZ : Z < p := hZ ▸ Nat.mod_lt _ (by omega)
      have HZ := Lib.hid hZ
      rcases Nat.mod_two_eq_zero_or_one k with e | e
      · rw [e] at h1
        have HN := Lib.hid (HA.out.even e)
        rw [hZ] at HN
        clear hZ HA e
        obtain ⟨f1, f2, f3⟩ := H_f.out
        go_wp2_with fail
        clear f1 f2 f3
        refine (fmul_v HP.out h hz hz HZ.out _).mono ?_
        rintro e w21 ⟨rfl, B21⟩
        replace H_f := Lib.hid (H_f.out.below B21)
        replace hW := hW.trans (B21.mono hW.size)
        clear B21
        obtain ⟨f1, f2, f3⟩ := H_f.out
        go_wp2_with fail
        clear f1 f2 f3
        go_round
        case rel => exact ⟨k / 2, y, Z, by go_num, rfl, rfl, by omega, hy, by omega, HN, Lib.hid ⟨H_f.out, hW⟩⟩
        case measure => simp [intOf]; omega
      · rw [e] at h1
        obtain ⟨Y, hY⟩ : ∃ Y, y * z % p = Y := ⟨_, rfl⟩
        have lY : Y < p := hY ▸ Nat.mod_lt _ (by omega)
        have HY := Lib.hid hY
        have HN := Lib.hid (HA.out.odd e)
        rw [hZ, hY] at HN
        clear hY hZ HA e
        obtain ⟨f1, f2, f3⟩ := H_f.out
        go_wp2_with fail
        clear f1 f2 f3
        refine (fmul_v HP.out h (by omega) hz HY.out _).mono ?_
        rintro e w21 ⟨rfl, B21⟩
        replace H_f := Lib.hid (H_f.out.below B21)
        replace hW := hW.trans (B21.mono hW.size)
        clear B21
        obtain ⟨f1, f2, f3⟩ := H_f.out
        go_wp2_with fail
        clear f1 f2 f3
        refine (fmul_v HP.out h hz hz HZ.out _).mono ?_
        rintro e w22 ⟨rfl, B22⟩
        replace H_f := Lib.hid (H_f.out.below B22)
        replace hW := hW.trans (B22.mono hW.size)
        clear B22
        obtain ⟨f1, f2, f3⟩ := H_f.out
        go_wp2_with fail
        clear f1 f2 f3
        go_round
        case rel => exact ⟨k / 2, Y, Z, by go_num, rfl, rfl, by omega, lY, by omega, HN, Lib.hid ⟨H_f.out, hW⟩⟩
        case measure => simp [intOf]; omega
def invW (p x : Nat) : Nat := if x % p = 0 then 0 else x ^ (p - 2) % p
set_option maxRecDepth 100000 in
set_option maxHeartbeats 4000000 in
theorem finv_v {ab p x r : Nat} (hp : ab + 2 = p) (h : p < 2147483648) (hx : x < 18446744073709551616) (hr : invW p x = r) (w : World) :
    Calls Tryz.prog 147 #[.agg #[.int .u64 (ab : Int)], .int .u64 (x : Int)] w (UPost r w) := by
  have hW := Below.refl w.heap.size w
  obtain ⟨wp0, hwp0⟩ : ∃ xw, xw = w.alloc (.cells #[.int .u64 (ab : Int)] 54) := ⟨_, rfl⟩
  have zp0 : Below w.heap.size w wp0 := by rw [hwp0]; exact zba _ _
  have sp0 : wp0.heap.size = w.heap.size + 1 := by rw [hwp0, World.size_alloc]
  have If : Fb wp0 w.heap.size ab := by rw [hwp0]; exact Fb.new _ _ _
  replace hW := hW.trans (zp0.mono hW.size)
  have H_f := Lib.hid If
  clear If zp0
  have HW : Hid ((w.alloc (.cells #[.int .u64 (ab : Int)] 54)) = wp0) := Lib.hid (by rw [hwp0])
  have lw_f : w.heap.size ≤ w.heap.size := by omega
  clear hwp0 sp0
  have h2 : 2 ≤ p := by omega
  have HP := Lib.hid hp
  obtain ⟨X, hX⟩ : ∃ X, x % p = X := ⟨_, rfl⟩
  have HX := Lib.hid hX
  have HW2 : Hid (IntKind.u64.wrap ((p : Int) - 2) = ((p - 2 : Nat) : Int)) := Lib.hid (by rw [show (p : Int) - 2 = ((p - 2 : Nat) : Int) by omega]; exact wrap_small (by omega))
  have HR : Hid ((if X = 0 then 0 else x ^ (p - 2) % p) = r) := Lib.hid (by rw [← hr]; unfold invW; rw [hX])
  clear hr hp hX
  go_enter Tryz.func147, Tryz.ntmps147
  obtain ⟨f1, f2, f3⟩ := H_f.out
  go_wp2_with fail
  rw [HW.out]
  clear f1 f2 f3
  refine (fnorm_v HP.out h hx HX.out _).mono ?_
  rintro e w21 ⟨rfl, B21⟩
  replace H_f := Lib.hid (H_f.out.below B21)
  replace hW := hW.trans (B21.mono hW.size)
  clear B21
  by_cases h0 : X = 0
  · obtain rfl : r = 0 := by rw [← HR.out, if_pos h0]
    subst h0
    clear HR
    obtain ⟨f1, f2, f3⟩ := H_f.out
    go_wp2_with fail
    clear f1 f2 f3
    exact bodyPost_ret (v := (.int .u64 0)) (by simp [results, Tryz.results147, go_sem]) rfl ⟨rfl, hW⟩
  · have HR2 : Hid (x ^ (p - 2) % p = r) := Lib.hid (by rw [← HR.out, if_neg h0])
    clear HR
    obtain ⟨q, hq⟩ : ∃ q, p - 2 = q := ⟨_, rfl⟩
    rw [hq] at HR2 HW2
    have lq : q < 18446744073709551616 := by omega
    clear hq
    obtain ⟨f1, f2, f3⟩ := H_f.out
    go_wp2_with fail
    clear f1 f2 f3
    refine region8 [] 7 [IsK (.agg #[.int .u64 (ab : Int)]), IsK (.int .u64 (x : Int)), IsK (.agg #[.int .u64 (ab : Int)]), IsK (.int .u64 (p : Int)), IsK (.int .u64 (q : Int)), IsK (.int .u64 (r : Int)), IsK (.int .u64 (r : Int))] (fun _ _ d _ _ h => by cases d <;> exact h) (by kernel_rfl) (by kernel_rfl) (by kernel_rfl) ⟨stay_k _, stay_k _, stay_k _, stay_k _, stay_k _, stay_k _, stay_k _, trivial⟩ ?_ ?_
    · refine HopAll.cons rfl ?_ (HopAll.cons rfl ?_ (HopAll.cons rfl ?_ (HopAll.cons rfl ?_ (HopAll.cons rfl ?_ (HopAll.cons rfl ?_ (HopAll.cons rfl ?_ HopAll.nil))))))
      · intro a w1 hB ho hp K hK
        have e2 : a.eval (.tmp 2) = (.pointer (some ⟨w.heap.size, 0, none⟩)) := ho 2 (by kernel_rfl)
        obtain ⟨u1, u2, u3⟩ := H_f.out.below hB
        exact hop_load (wanted_none rfl) rfl e2 (run_ldf u1) (hK _ _ rfl (Below.refl _ _))
      · intro a w1 hB ho hp K hK
        have e1 : a.eval (.tmp 1) = (.int .u64 (x : Int)) := ho 1 (by kernel_rfl)
        refine hop_val (wanted_none rfl) ?_ (hK (.int .u64 (x : Int)) _ rfl (Below.refl _ _))
        unfold execOp; simp only [eval_const, e1]; simp [go_sem]
      · intro a w1 hB ho hp K hK
        have e2 : a.eval (.tmp 2) = (.pointer (some ⟨w.heap.size, 0, none⟩)) := ho 2 (by kernel_rfl)
        obtain ⟨u1, u2, u3⟩ := H_f.out.below hB
        exact hop_load (wanted_none rfl) rfl e2 (run_ldf u1) (hK _ _ rfl (Below.refl _ _))
      · intro a w1 hB ho hp K hK
        have e11 : a.eval (.tmp 11) = (.agg #[.int .u64 (ab : Int)]) := hp 2 11 (by kernel_rfl)
        refine hop_call (wanted_none rfl) rfl (args := #[(.agg #[.int .u64 (ab : Int)])]) (by simp only [List.map_toArray, List.map_cons, List.map_nil, eval_const, e11]) (ent7 (by kernel_rfl) _ _) (fp_v HP.out h _) ?_
        rintro e w2 ⟨rfl, B⟩
        exact ⟨_, rfl, hK _ _ rfl B⟩
      · intro a w1 hB ho hp K hK
        have e12 : a.eval (.tmp 12) = (.int .u64 (p : Int)) := hp 3 12 (by kernel_rfl)
        refine hop_val (wanted_none rfl) ?_ (hK (.int .u64 (q : Int)) _ rfl (Below.refl _ _))
        unfold execOp; simp only [eval_const, e12]; simp [go_sem, HW2.out]
      · intro a w1 hB ho hp K hK
        have e9 : a.eval (.tmp 9) = (.agg #[.int .u64 (ab : Int)]) := hp 0 9 (by kernel_rfl)
        have e10 : a.eval (.tmp 10) = (.int .u64 (x : Int)) := hp 1 10 (by kernel_rfl)
        have e13 : a.eval (.tmp 13) = (.int .u64 (q : Int)) := hp 4 13 (by kernel_rfl)
        refine hop_call (wanted_none rfl) rfl (args := #[(.agg #[.int .u64 (ab : Int)]), (.int .u64 (x : Int)), (.int .u64 (q : Int))]) (by simp only [List.map_toArray, List.map_cons, List.map_nil, eval_const, e9, e10, e13]) (ent7 (by kernel_rfl) _ _) (fpower_v HP.out h hx lq HR2.out _) ?_
        rintro e w2 ⟨rfl, B⟩
        exact ⟨_, rfl, hK _ _ rfl B⟩
      · intro a w1 hB ho hp K hK
        have e14 : a.eval (.tmp 14) = (.int .u64 (r : Int)) := hp 5 14 (by kernel_rfl)
        refine hop_val (wanted_none rfl) ?_ (hK (.int .u64 (r : Int)) _ rfl (Below.refl _ _))
        unfold execOp; simp only [eval_const, e14]; simp [go_sem]
    intro w22 B22
    refine EndAll.one rfl fun vv hv => ?_
    obtain rfl : vv = (.agg #[.int .u64 (ab : Int)]) := hv
    refine EndAll.one rfl fun vv hv => ?_
    obtain rfl : vv = (.int .u64 (x : Int)) := hv
    refine EndAll.one rfl fun vv hv => ?_
    obtain rfl : vv = (.agg #[.int .u64 (ab : Int)]) := hv
    refine EndAll.one rfl fun vv hv => ?_
    obtain rfl : vv = (.int .u64 (p : Int)) := hv
    refine EndAll.one rfl fun vv hv => ?_
    obtain rfl : vv = (.int .u64 (q : Int)) := hv
    refine EndAll.one rfl fun vv hv => ?_
    obtain rfl : vv = (.int .u64 (r : Int)) := hv
    refine EndAll.one rfl fun vv hv => ?_
    obtain rfl : vv = (.int .u64 (r : Int)) := hv
    refine EndAll.nil (l := []) rfl ?_
    simp only [Act.put, List.setIfInBounds_toArray, List.set_cons_zero, List.set_cons_succ]
    replace H_f := Lib.hid (H_f.out.below B22)
    replace hW := hW.trans (B22.mono hW.size)
    clear B22
    obtain ⟨f1, f2, f3⟩ := H_f.out
    go_wp2_with fail
    clear f1 f2 f3
    exact bodyPost_ret (v := (.int .u64 (r : Int))) (by simp [results, Tryz.results147, go_sem]) rfl ⟨rfl, hW⟩
theorem invW_lt {p x : Nat} (h : 0 < p) : invW p x < p := by
  unfold invW
  split
  · exact h
  · exact Nat.mod_lt _ h
end Go.Proofs.YtddbhhedjipjkaaGreatDoor
end
