/-
  FpC
-/
import Derived.Test.YtddbhhedjipjkaaGreatDoorPr25

namespace Go.Proofs.YtddbhhedjipjkaaGreatDoor
open Go.RowKit
set_option linter.unusedVariables false
set_option linter.unusedSimpArgs false
def IsPn (g : Nat) (zs : List Nat) : FVal := fun v w => ∃ A n c, v = .slice A n c ∧ Lv w A n c zs ∧ ∀ ad, A = some ad → ad.block ≠ g
theorem stay_pn (g : Nat) (zs : List Nat) : Stays (IsPn g zs) := fun v w w' ⟨A, n, c, e, h, k⟩ hb => ⟨A, n, c, e, h.below hb, k⟩
theorem addr_add (a : Addr) : a.add 0 = a := by
  obtain ⟨b, o, i⟩ := a
  cases i <;> rfl
theorem run_slp {w : World} {g m cap k : Nat} (h : k < m) (hc : m ≤ cap) : (Instr.sliceAt 56 (.slice (some ⟨g, 0, none⟩) m cap) (some (.int .i64 (k : Int))) none none).run Tryz.prog w = .ok (.slice (some ⟨g, k, none⟩) (m - k) (cap - k)) w := by
  have e1 : ¬ (cap = k) := by omega
  simp [go_sem, Tryz.underlying56, Instr.slice, Instr.sliceBounds, Instr.sliceBound, add_lit0, e1]
  omega
set_option maxRecDepth 100000 in
set_option maxHeartbeats 4000000 in
theorem iot_v {ab p n c : Nat} {A : Option Addr} {xs : List Nat} {w : World} (hp : ab + 2 = p) (h : p < 2147483648) (hx : Lv w A n c xs) :
    Calls Tryz.prog 141 #[.agg #[.int .u64 (ab : Int)], .slice A n c] w (UPost (invW p (lead xs)) w) := by
  have hW := Below.refl w.heap.size w
  obtain ⟨wp0, hwp0⟩ : ∃ xw, xw = w.alloc (.cells #[.int .u64 (ab : Int)] 54) := ⟨_, rfl⟩
  have zp0 : Below w.heap.size w wp0 := by rw [hwp0]; exact zba _ _
  have sp0 : wp0.heap.size = w.heap.size + 1 := by rw [hwp0, World.size_alloc]
  have If : Fb wp0 w.heap.size ab := by rw [hwp0]; exact Fb.new _ _ _
  replace hx := hx.below zp0
  replace hW := hW.trans (zp0.mono hW.size)
  have H_f := Lib.hid If
  clear If zp0
  have HW : Hid ((w.alloc (.cells #[.int .u64 (ab : Int)] 54)) = wp0) := Lib.hid (by rw [hwp0])
  have lw_f : w.heap.size ≤ w.heap.size := by omega
  clear hwp0 sp0
  have h2 : 2 ≤ p := by omega
  have HP := Lib.hid hp
  have HN := Lib.hid hx.len
  have hnc := hx.le
  have hcm := hx.cap
  clear hp
  rcases Nat.eq_zero_or_pos n with rfl | h0
  · have e : invW p (lead xs) = 0 := by rw [List.length_eq_zero_iff.1 HN.out, lead_nil]; exact invW_of_zero (Nat.zero_mod p)
    have E := Lib.hid e
    clear e
    go_enter Tryz.func141, Tryz.ntmps141
    obtain ⟨f1, f2, f3⟩ := H_f.out
    go_wp2_with fail
    rw [HW.out]
    clear f1 f2 f3
    exact bodyPost_ret (v := (.int .u64 0)) (by simp [results, Tryz.results141, go_sem]) rfl ⟨by rw [E.out]; rfl, hW⟩
  · obtain ⟨m, rfl⟩ : ∃ q, n = q + 1 := ⟨n - 1, by omega⟩
    obtain ⟨ad, rfl, hblk, hcell⟩ := hx.at (k := m) (by omega)
    obtain ⟨v, hv⟩ : ∃ v, invW p (lead xs) = v := ⟨_, rfl⟩
    have HV : Hid (invW p (nth xs m) = v) := Lib.hid (by rw [← hv]; unfold lead; rw [HN.out, Nat.add_sub_cancel])
    have hne : (((m + 1 : Nat) : Int) == 0) = false := by rw [beq_eq_false_iff_ne]; omega
    have HW9 : Hid (IntKind.i64.wrap (m : Int) = (m : Int)) := Lib.hid (by rw [IntKind.wrap_i64]; omega)
    rw [hv]
    clear hblk hcell hv h0
    go_enter Tryz.func141, Tryz.ntmps141
    obtain ⟨f1, f2, f3⟩ := H_f.out
    go_wp2_with fail
    rw [HW.out]
    clear f1 f2 f3
    refine region8 [] 9 [IsK (.agg #[.int .u64 (ab : Int)]), IsK (.slice (some ad) (m + 1) c), IsK (.slice (some ad) (m + 1) c), IsK (.int .i64 ((m + 1 : Nat) : Int)), IsK (.int .i64 (m : Int)), IsK (.pointer (some (ad.add m))), IsK (.int .u64 (nth xs m : Int)), IsK (.int .u64 (v : Int)), IsK (.int .u64 (v : Int))] (fun _ _ d _ _ h => by cases d <;> exact h) (by kernel_rfl) (by kernel_rfl) (by kernel_rfl) ⟨stay_k _, stay_k _, stay_k _, stay_k _, stay_k _, stay_k _, stay_k _, stay_k _, stay_k _, trivial⟩ ?_ ?_
    · refine HopAll.cons rfl ?_ (HopAll.cons rfl ?_ (HopAll.cons rfl ?_ (HopAll.cons rfl ?_ (HopAll.cons rfl ?_ (HopAll.cons rfl ?_ (HopAll.cons rfl ?_ (HopAll.cons rfl ?_ (HopAll.cons rfl ?_ HopAll.nil))))))))
      · intro a w1 hB ho hp K hK
        have e2 : a.eval (.tmp 2) = (.pointer (some ⟨w.heap.size, 0, none⟩)) := ho 2 (by kernel_rfl)
        obtain ⟨u1, u2, u3⟩ := H_f.out.below hB
        exact hop_load (wanted_none rfl) rfl e2 (run_ldf u1) (hK _ _ rfl (Below.refl _ _))
      · intro a w1 hB ho hp K hK
        have e1 : a.eval (.tmp 1) = (.slice (some ad) (m + 1) c) := ho 1 (by kernel_rfl)
        refine hop_val (wanted_none rfl) ?_ (hK (.slice (some ad) (m + 1) c) _ rfl (Below.refl _ _))
        unfold execOp; simp only [eval_const, e1]; simp [go_sem]
      · intro a w1 hB ho hp K hK
        have e1 : a.eval (.tmp 1) = (.slice (some ad) (m + 1) c) := ho 1 (by kernel_rfl)
        refine hop_val (wanted_none rfl) ?_ (hK (.slice (some ad) (m + 1) c) _ rfl (Below.refl _ _))
        unfold execOp; simp only [eval_const, e1]; simp [go_sem]
      · intro a w1 hB ho hp K hK
        have e10 : a.eval (.tmp 10) = (.slice (some ad) (m + 1) c) := hp 2 10 (by kernel_rfl)
        refine hop_val (wanted_none rfl) ?_ (hK (.int .i64 ((m + 1 : Nat) : Int)) _ rfl (Below.refl _ _))
        unfold execOp; simp only [eval_const, resolve, Option.map_some, Option.map_none, List.map_toArray, List.map_cons, List.map_nil, e10]; simp [go_sem]
      · intro a w1 hB ho hp K hK
        have e11 : a.eval (.tmp 11) = (.int .i64 ((m + 1 : Nat) : Int)) := hp 3 11 (by kernel_rfl)
        refine hop_val (wanted_none rfl) ?_ (hK (.int .i64 (m : Int)) _ rfl (Below.refl _ _))
        unfold execOp; simp only [eval_const, e11]; simp [go_sem, HW9.out]
      · intro a w1 hB ho hp K hK
        have e9 : a.eval (.tmp 9) = (.slice (some ad) (m + 1) c) := hp 1 9 (by kernel_rfl)
        have e12 : a.eval (.tmp 12) = (.int .i64 (m : Int)) := hp 4 12 (by kernel_rfl)
        refine hop_val (wanted_none rfl) ?_ (hK (.pointer (some (ad.add m))) _ rfl (Below.refl _ _))
        unfold execOp; simp only [eval_const, Option.map_some, Option.map_none, e9, e12]; simp [run_ixp (show m < m + 1 by omega)]
      · intro a w1 hB ho hp K hK
        have e13 : a.eval (.tmp 13) = (.pointer (some (ad.add m))) := hp 5 13 (by kernel_rfl)
        exact hop_load (wanted_none rfl) rfl e13 (run_ldw ((hx.below hB).rd.cell rfl (by rw [HN.out]; omega))) (hK _ _ rfl (Below.refl _ _))
      · intro a w1 hB ho hp K hK
        have e8 : a.eval (.tmp 8) = (.agg #[.int .u64 (ab : Int)]) := hp 0 8 (by kernel_rfl)
        have e14 : a.eval (.tmp 14) = (.int .u64 (nth xs m : Int)) := hp 6 14 (by kernel_rfl)
        refine hop_call (wanted_none rfl) rfl (args := #[(.agg #[.int .u64 (ab : Int)]), (.int .u64 (nth xs m : Int))]) (by simp only [List.map_toArray, List.map_cons, List.map_nil, eval_const, e8, e14]) (ent7 (by kernel_rfl) _ _) (finv_v HP.out h (hx.lt m) HV.out _) ?_
        rintro e w2 ⟨rfl, B⟩
        exact ⟨_, rfl, hK _ _ rfl B⟩
      · intro a w1 hB ho hp K hK
        have e15 : a.eval (.tmp 15) = (.int .u64 (v : Int)) := hp 7 15 (by kernel_rfl)
        refine hop_val (wanted_none rfl) ?_ (hK (.int .u64 (v : Int)) _ rfl (Below.refl _ _))
        unfold execOp; simp only [eval_const, e15]; simp [go_sem]
    intro w21 B21
    refine EndAll.one rfl fun vv hv => ?_
    obtain rfl : vv = (.agg #[.int .u64 (ab : Int)]) := hv
    refine EndAll.one rfl fun vv hv => ?_
    obtain rfl : vv = (.slice (some ad) (m + 1) c) := hv
    refine EndAll.one rfl fun vv hv => ?_
    obtain rfl : vv = (.slice (some ad) (m + 1) c) := hv
    refine EndAll.one rfl fun vv hv => ?_
    obtain rfl : vv = (.int .i64 ((m + 1 : Nat) : Int)) := hv
    refine EndAll.one rfl fun vv hv => ?_
    obtain rfl : vv = (.int .i64 (m : Int)) := hv
    refine EndAll.one rfl fun vv hv => ?_
    obtain rfl : vv = (.pointer (some (ad.add m))) := hv
    refine EndAll.one rfl fun vv hv => ?_
    obtain rfl : vv = (.int .u64 (nth xs m : Int)) := hv
    refine EndAll.one rfl fun vv hv => ?_
    obtain rfl : vv = (.int .u64 (v : Int)) := hv
    refine EndAll.one rfl fun vv hv => ?_
    obtain rfl : vv = (.int .u64 (v : Int)) := hv
    refine EndAll.nil (l := []) rfl ?_
    simp only [Act.put, List.setIfInBounds_toArray, List.set_cons_zero, List.set_cons_succ]
    replace H_f := Lib.hid (H_f.out.below B21)
    replace hx := hx.below B21
    replace hW := hW.trans (B21.mono hW.size)
    clear B21
    obtain ⟨f1, f2, f3⟩ := H_f.out
    go_wp2_with fail
    clear f1 f2 f3
    exact bodyPost_ret (v := (.int .u64 (v : Int))) (by simp [results, Tryz.results141, go_sem]) rfl ⟨rfl, hW⟩
theorem grel_eqm {p o cc : Nat} {L L' ys : List Nat} (h : GRel p L o cc ys L') : Eqm p (pe L') (fun x => pe L x + (cc : Int) * (x ^ o * pe ys x)) := by
  have e : Eqm p (pe L') (pe (addl L (scl cc (shl o ys)))) := eqm_iff.2 fun j => by rw [nth_addl, nth_scl, h.2.2 j]
  exact e.to fun x => by rw [pe_addl, pe_scl, pe_shl]
theorem mdl_low {p L k : Nat} {xs : List Nat} (hp : 0 < p) (hk : k ≤ xs.length) (j : Nat) : nth (mdl p L xs k) j < p := by
  rw [nth_mdl hk]; split
  · exact Nat.mod_lt _ hp
  · exact hp
theorem eqm_mdl {p L : Nat} {xs : List Nat} : Eqm p (pe (mdl p L xs xs.length)) (pe xs) := eqm_iff.2 fun j => by
  rw [nth_mdl (Nat.le_refl _)]; split
  · rw [Nat.mod_mod]
  · rw [nth_ge (by omega)]
theorem amul_of {p L cc : Nat} {xs ys L' : List Nat} (h : GRel p (mdl p L xs xs.length) 0 (cc % p) (nrm p ys) L') : nrm p L' = amul p xs ys cc := by
  refine nrm_eq ((grel_eqm h).trans ?_)
  refine ((eqm_mdl (L := L)).add ((eqm_const (p := p) (m := cc % p) (n := cc) (Nat.mod_mod _ _)).left (ply_x.pow 0 |>.mul (ply_pe (nrm p ys))))).trans ?_
  refine ((Eqm.refl p (pe xs)).add (((eqm_nrm p ys).right (ply_c (cc : Int))).by fun x => by rw [Int.pow_zero, Int.one_mul])).to fun x => by rw [pe_addl, pe_scl]
set_option maxRecDepth 100000 in
set_option maxHeartbeats 4000000 in
theorem amul_new {ab p n c m d cc : Nat} {A D : Option Addr} {xs ys : List Nat} {w : World} (hp : ab + 2 = p) (h : p < 2147483648) (hx : Lv w A n c xs) (hn : n ≤ 1099511627776) (hy : Lv w D m d ys) (hm : m ≤ 1099511627776) (hcc : cc < 18446744073709551616) :
    Calls Tryz.prog 69 #[.agg #[.int .u64 (ab : Int)], .slice A n c, .slice D m d, .int .u64 (cc : Int)] w (LNew (amul p xs ys cc) w) := by
  have HX0 := Lib.hid hx
  have HY0 := Lib.hid hy
  have hW := Below.refl w.heap.size w
  obtain ⟨wp0, hwp0⟩ : ∃ xw, xw = w.alloc (.cells #[.int .u64 (ab : Int)] 54) := ⟨_, rfl⟩
  have zp0 : Below w.heap.size w wp0 := by rw [hwp0]; exact zba _ _
  have sp0 : wp0.heap.size = w.heap.size + 1 := by rw [hwp0, World.size_alloc]
  have If : Fb wp0 w.heap.size ab := by rw [hwp0]; exact Fb.new _ _ _
  replace hx := hx.below zp0
  replace hy := hy.below zp0
  replace hW := hW.trans (zp0.mono hW.size)
  have H_f := Lib.hid If
  clear If zp0
  have HW : Hid ((w.alloc (.cells #[.int .u64 (ab : Int)] 54)) = wp0) := Lib.hid (by rw [hwp0])
  have lw_f : w.heap.size ≤ w.heap.size := by omega
  clear hwp0 sp0
  have h2 : 2 ≤ p := by omega
  have HP := Lib.hid hp
  have HN := Lib.hid hx.len
  have HM := Lib.hid hy.len
  obtain ⟨L, hL⟩ : ∃ L, max n m = L := ⟨_, rfl⟩
  have hLi : max (n : Int) (m : Int) = (L : Int) := by omega
  have hnL : n ≤ L := by omega
  have hmL : m ≤ L := by omega
  have hLb : L ≤ 1099511627776 := by omega
  clear hp hL
  go_enter Tryz.func69, Tryz.ntmps69
  obtain ⟨f1, f2, f3⟩ := H_f.out
  go_wp2_with (at_make; refine wpList_make_blk _ rfl _ _ 56 rfl 52 .u64 8 Tryz.underlying56 info_u64 _ _ _ _ L rfl rfl (by omega) (by omega) (by omega) (by omega) ?_)
  rw [HW.out]
  intro w1 hb1 hw1 hz1
  rw [show w.heap.size + 1 = wp0.heap.size by rw [← HW.out, World.size_alloc]] at hw1
  clear f1 f2 f3
  obtain ⟨gB, hgB⟩ : ∃ q, w.heap.size + 1 = q := ⟨_, rfl⟩
  have hg1 : w.heap.size < gB := by omega
  rw [hgB] at hb1
  have HB : Hid (Fb w1 w.heap.size ab ∧ Below w.heap.size w w1 ∧ Blk w1 gB 52 .u64 (mdl p L xs 0)) := Lib.hid ⟨H_f.out.below hw1, hW.trans (hw1.mono hW.size), by rw [mdl_zero]; exact hb1⟩
  rw [hgB]
  clear hW H_f hx hy hb1 hw1 hz1 hgB HW
  go_wp2_with fail
  go_loopw [20] (fun s20 wr => ∃ k : Nat, s20 = .int .i64 (k : Int) ∧ k ≤ n ∧ Hid (Fb wr w.heap.size ab ∧ Below w.heap.size w wr ∧ Blk wr gB 52 .u64 (mdl p L xs k))) (fun s20 _ => n - (intOf s20).toNat)
  case atStart => exact ⟨0, rfl, Nat.zero_le _, HB⟩
  case round =>
    clear HB
    obtain ⟨k, rfl, hk, HB⟩ := hrel
    obtain ⟨I1, hW, hb⟩ := HB.out
    have hx := HX0.out.below hW
    have hy := HY0.out.below hW
    have H_f := Lib.hid I1
    clear I1 HB
    by_cases hlt : k < n
    · obtain ⟨ad, rfl, hblk, hcell⟩ := hx.at (k := k) hlt
      have hl := mdl_len (p := p) (xs := xs) (show k ≤ L by omega) (by rw [HN.out]; omega)
      obtain ⟨X, hX⟩ : ∃ X, nth xs k = X := ⟨_, rfl⟩
      rw [hX] at hcell
      have lX : X < 18446744073709551616 := hX ▸ hx.lt k
      obtain ⟨Y, hY⟩ : ∃ Y, X % p = Y := ⟨_, rfl⟩
      have HYY := Lib.hid hY
      have HXX := Lib.hid hX
      clear hX hY hy hblk
      obtain ⟨f1, f2, f3⟩ := H_f.out
      go_wp2_with fail
      clear f1 f2 f3
      refine (fnorm_v HP.out h lX HYY.out _).mono ?_
      rintro e w2 ⟨rfl, B2⟩
      replace hb := hb.below B2 hb.lt
      have c1 := hb.cell (j := k) (by rw [hl]; omega)
      have c2 := hb.free k
      have hWW : Below w.heap.size w w2 := hW.trans (B2.mono hW.size)
      have HF2 := Lib.hid (H_f.out.below B2)
      clear H_f hcell hx
      go_wp2_with fail
      have hs := hb.set k Y
      rw [← HYY.out, ← HXX.out, mdl_step (by omega) (by rw [HN.out]; exact hlt)] at hs
      rw [← HYY.out, ← HXX.out]
      go_roundw
      case rel => exact ⟨k + 1, by go_num, by omega, Lib.hid ⟨Fb.other HF2.out (q := ⟨gB, k, none⟩) (by simp only; omega) _, hWW.setCell (p := ⟨gB, k, none⟩) (by simpa using Nat.le_of_lt hg1) _, hs⟩⟩
      case measure => first | (simp [intOf]; done) | (simp [intOf]; omega)
    · obtain rfl : k = n := by omega
      have hgl := hb.lt
      clear hx
      obtain ⟨f1, f2, f3⟩ := H_f.out
      go_wp2_with fail
      clear f1 f2 f3
      refine region8 [] 8 [IsK (.agg #[.int .u64 (ab : Int)]), IsK (.slice (some ⟨gB, 0, none⟩) L L), IsK (.agg #[.int .u64 (ab : Int)]), IsK (.slice D m d), IsPn gB (nrm p ys), IsK (.agg #[.int .u64 (ab : Int)]), IsK (.int .u64 (cc : Int)), IsK (.int .u64 ((cc % p : Nat) : Int))] (fun _ _ d _ _ h => by cases d <;> exact h) (by kernel_rfl) (by kernel_rfl) (by kernel_rfl) ⟨stay_k _, stay_k _, stay_k _, stay_k _, stay_pn _ _, stay_k _, stay_k _, stay_k _, trivial⟩ ?_ ?_
      · refine HopAll.cons rfl ?_ (HopAll.cons rfl ?_ (HopAll.cons rfl ?_ (HopAll.cons rfl ?_ (HopAll.cons rfl ?_ (HopAll.cons rfl ?_ (HopAll.cons rfl ?_ (HopAll.cons rfl ?_ HopAll.nil)))))))
        · intro a w1 hB ho hp K hK
          have e4 : a.eval (.tmp 4) = (.pointer (some ⟨w.heap.size, 0, none⟩)) := ho 4 (by kernel_rfl)
          obtain ⟨u1, u2, u3⟩ := H_f.out.below hB
          exact hop_load (wanted_none rfl) rfl e4 (run_ldf u1) (hK _ _ rfl (Below.refl _ _))
        · intro a w1 hB ho hp K hK
          have e9 : a.eval (.tmp 9) = (.slice (some ⟨gB, 0, none⟩) L L) := ho 9 (by kernel_rfl)
          refine hop_val (wanted_none rfl) ?_ (hK (.slice (some ⟨gB, 0, none⟩) L L) _ rfl (Below.refl _ _))
          unfold execOp; simp only [eval_const, e9]; simp [go_sem]
        · intro a w1 hB ho hp K hK
          have e4 : a.eval (.tmp 4) = (.pointer (some ⟨w.heap.size, 0, none⟩)) := ho 4 (by kernel_rfl)
          obtain ⟨u1, u2, u3⟩ := H_f.out.below hB
          exact hop_load (wanted_none rfl) rfl e4 (run_ldf u1) (hK _ _ rfl (Below.refl _ _))
        · intro a w1 hB ho hp K hK
          have e2 : a.eval (.tmp 2) = (.slice D m d) := ho 2 (by kernel_rfl)
          refine hop_val (wanted_none rfl) ?_ (hK (.slice D m d) _ rfl (Below.refl _ _))
          unfold execOp; simp only [eval_const, e2]; simp [go_sem]
        · intro a w1 hB ho hp K hK
          have e34 : a.eval (.tmp 34) = (.agg #[.int .u64 (ab : Int)]) := hp 2 34 (by kernel_rfl)
          have e35 : a.eval (.tmp 35) = (.slice D m d) := hp 3 35 (by kernel_rfl)
          refine hop_call (wanted_none rfl) rfl (args := #[(.agg #[.int .u64 (ab : Int)]), (.slice D m d)]) (by simp only [List.map_toArray, List.map_cons, List.map_nil, eval_const, e34, e35]) (ent7 (by kernel_rfl) _ _) (norm_new HP.out h (hy.below hB) (by omega)) ?_
          rintro e w2 ⟨A, n, c, rfl, p, q, B⟩
          exact ⟨_, rfl, hK _ _ ⟨A, n, c, rfl, p, fun ad e => by have := q ad e; have := hB.size; omega⟩ B⟩
        · intro a w1 hB ho hp K hK
          have e4 : a.eval (.tmp 4) = (.pointer (some ⟨w.heap.size, 0, none⟩)) := ho 4 (by kernel_rfl)
          obtain ⟨u1, u2, u3⟩ := H_f.out.below hB
          exact hop_load (wanted_none rfl) rfl e4 (run_ldf u1) (hK _ _ rfl (Below.refl _ _))
        · intro a w1 hB ho hp K hK
          have e3 : a.eval (.tmp 3) = (.int .u64 (cc : Int)) := ho 3 (by kernel_rfl)
          refine hop_val (wanted_none rfl) ?_ (hK (.int .u64 (cc : Int)) _ rfl (Below.refl _ _))
          unfold execOp; simp only [eval_const, e3]; simp [go_sem]
        · intro a w1 hB ho hp K hK
          have e37 : a.eval (.tmp 37) = (.agg #[.int .u64 (ab : Int)]) := hp 5 37 (by kernel_rfl)
          have e38 : a.eval (.tmp 38) = (.int .u64 (cc : Int)) := hp 6 38 (by kernel_rfl)
          refine hop_call (wanted_none rfl) rfl (args := #[(.agg #[.int .u64 (ab : Int)]), (.int .u64 (cc : Int))]) (by simp only [List.map_toArray, List.map_cons, List.map_nil, eval_const, e37, e38]) (ent7 (by kernel_rfl) _ _) (fnorm_v HP.out h hcc rfl _) ?_
          rintro e w2 ⟨rfl, B⟩
          exact ⟨_, rfl, hK _ _ rfl B⟩
      intro w21 B21
      refine EndAll.one rfl fun vv hv => ?_
      obtain rfl : vv = (.agg #[.int .u64 (ab : Int)]) := hv
      refine EndAll.one rfl fun vv hv => ?_
      obtain rfl : vv = (.slice (some ⟨gB, 0, none⟩) L L) := hv
      refine EndAll.one rfl fun vv hv => ?_
      obtain rfl : vv = (.agg #[.int .u64 (ab : Int)]) := hv
      refine EndAll.one rfl fun vv hv => ?_
      obtain rfl : vv = (.slice D m d) := hv
      refine EndAll.one rfl fun vv hv => ?_
      obtain ⟨A22, n22, c22, rfl, p22⟩ : IsPn gB (nrm p ys) vv w21 := hv
      refine EndAll.one rfl fun vv hv => ?_
      obtain rfl : vv = (.agg #[.int .u64 (ab : Int)]) := hv
      refine EndAll.one rfl fun vv hv => ?_
      obtain rfl : vv = (.int .u64 (cc : Int)) := hv
      refine EndAll.one rfl fun vv hv => ?_
      obtain rfl : vv = (.int .u64 ((cc % p : Nat) : Int)) := hv
      refine EndAll.nil (l := [_]) rfl ?_
      simp only [Act.put, List.setIfInBounds_toArray, List.set_cons_zero, List.set_cons_succ]
      replace H_f := Lib.hid (H_f.out.below B21)
      replace hy := hy.below B21
      replace hW := hW.trans (B21.mono hW.size)
      have hz := p22
      clear p22
      replace hb := hb.below B21 hgl
      obtain ⟨hz, hzn⟩ := hz
      have hlen := hz.len
      have hle := nrm_le p ys
      rw [hz.len, HM.out] at hle
      obtain ⟨f1, f2, f3⟩ := H_f.out
      go_wp2_with fail
      clear f1 f2 f3
      have hq := mdl_len (p := p) (xs := xs) hnL (by rw [HN.out]; exact Nat.le_refl _)
      refine (gather_v (o := 0) HP.out h (Wr.of_blk hb) (fun j => Nat.lt_of_lt_of_le (mdl_low (by omega) (by rw [HN.out]; exact Nat.le_refl _) j) (by rw [Nat.mul_assoc]; have := Nat.mul_le_mul h2 (Nat.le_refl p); omega)) hz hzn (nm_nrm (show 0 < p by omega) ys).1 (Nat.mod_lt _ (by omega)) (by rw [hq]; omega) (by omega) (Nat.le_refl _) (by omega)).mono ?_
      rintro e w3 ⟨rfl, L', HG, hb3, hg3⟩
      have HF3 := Lib.hid (H_f.out.grown hg3 (by omega))
      replace hW := grown_to_below hW hg3 (by omega)
      rw [← HN.out] at HG hq
      have HA := Lib.hid (amul_of HG)
      have hl3 : L'.length = L := by rw [HG.1, hq]
      have low3 : Low 18446744073709551616 L' := low2 h HG.2.1
      have hv3 := Lv.wr hb3 (Nat.le_refl _) (by omega) low3
      rw [hl3] at hv3
      clear HG hg3 H_f hb3 hz hlen hle hzn hb hq hl3 low3 hy
      obtain ⟨f1, f2, f3⟩ := HF3.out
      go_wp2_with fail
      clear f1 f2 f3
      refine (norm_new HP.out h hv3 (by omega)).mono ?_
      rintro e w4 ⟨A4, n4, c4, rfl, p4, q4, B4⟩
      rw [HA.out] at p4
      go_wp2_with fail
      exact bodyPost_ret (v := .slice A4 n4 c4) (by simp [results, Tryz.results69, go_sem]) rfl ⟨A4, n4, c4, rfl, p4, fun ad e => by have := q4 ad e; have := hW.size; omega, hW.trans (B4.mono hW.size)⟩
theorem amul_v {ab p n c m d cc : Nat} {A D : Option Addr} {xs ys : List Nat} {w : World} (hp : ab + 2 = p) (h : p < 2147483648) (hx : Lv w A n c xs) (hn : n ≤ 1099511627776) (hy : Lv w D m d ys) (hm : m ≤ 1099511627776) (hcc : cc < 18446744073709551616) :
    Calls Tryz.prog 69 #[.agg #[.int .u64 (ab : Int)], .slice A n c, .slice D m d, .int .u64 (cc : Int)] w (LPost (amul p xs ys cc) w) := (amul_new hp h hx hn hy hm hcc).mono fun _ _ h => h.post
set_option maxRecDepth 100000 in
set_option maxHeartbeats 4000000 in
theorem scale_v {ab p n c cc : Nat} {A : Option Addr} {xs : List Nat} {w : World} (hp : ab + 2 = p) (h : p < 2147483648) (hx : Lv w A n c xs) (hn : n ≤ 1099511627776) (hcc : cc < 18446744073709551616) :
    Calls Tryz.prog 140 #[.agg #[.int .u64 (ab : Int)], .slice A n c, .int .u64 (cc : Int)] w (LPost (amul p [] xs cc) w) := by
  have hW := Below.refl w.heap.size w
  obtain ⟨wp0, hwp0⟩ : ∃ xw, xw = w.alloc (.cells #[.int .u64 (ab : Int)] 54) := ⟨_, rfl⟩
  have zp0 : Below w.heap.size w wp0 := by rw [hwp0]; exact zba _ _
  have sp0 : wp0.heap.size = w.heap.size + 1 := by rw [hwp0, World.size_alloc]
  have If : Fb wp0 w.heap.size ab := by rw [hwp0]; exact Fb.new _ _ _
  replace hx := hx.below zp0
  replace hW := hW.trans (zp0.mono hW.size)
  have H_f := Lib.hid If
  clear If zp0
  have HW : Hid ((w.alloc (.cells #[.int .u64 (ab : Int)] 54)) = wp0) := Lib.hid (by rw [hwp0])
  have lw_f : w.heap.size ≤ w.heap.size := by omega
  clear hwp0 sp0
  have HP := Lib.hid hp
  clear hp
  go_enter Tryz.func140, Tryz.ntmps140
  obtain ⟨f1, f2, f3⟩ := H_f.out
  go_wp2_with fail
  rw [HW.out]
  clear f1 f2 f3
  refine (amul_v (A := none) HP.out h (Lv.nil _) (by omega) hx hn hcc).mono ?_
  rintro e w21 ⟨A21, n21, c21, rfl, rr, B21⟩
  replace H_f := Lib.hid (H_f.out.below B21)
  replace hx := hx.below B21
  replace hW := hW.trans (B21.mono hW.size)
  clear B21
  obtain ⟨f1, f2, f3⟩ := H_f.out
  go_wp2_with fail
  clear f1 f2 f3
  exact bodyPost_ret (v := (.slice A21 n21 c21)) (by simp [results, Tryz.results140, go_sem]) rfl ⟨A21, n21, c21, rfl, rr, hW⟩
end Go.Proofs.YtddbhhedjipjkaaGreatDoor
