/-
  LReckons
-/
import Derived.Test.YtddbhhedjipjkaaGreatDoorPr40
import Derived.Test.YtddbhhedjipjkaaGreatDoorPr43

namespace Go.Proofs.YtddbhhedjipjkaaGreatDoor
open Go.RowKit
set_option linter.unusedVariables false
set_option linter.unusedSimpArgs false
theorem rpv_mulp (a b : List Int) (x : Int) : pv (mkz (a.length + b.length) fun i => cmz a b i (i + 1)) x = pv a x * pv b x := by
  rw [← pv_nrz, mul_places, pv_mulN]
theorem rpv_addp (a b : List Int) (x : Int) : pv (mkz (max a.length b.length) fun i => ith a i + ith b i) x = pv a x + pv b x := by
  rw [← pv_nrz, sum_places, pv_nrz, pv_addI]
theorem sub_places (a b : List Int) : nrz (mkz (max a.length (mkz ([(-1 : Int)].length + b.length) fun i => cmz [-1] b i (i + 1)).length) fun i => ith a i + ith (mkz ([(-1 : Int)].length + b.length) fun i => cmz [-1] b i (i + 1)) i) = nrz (addI a (mulC (-1) b)) := nrz_eq fun x => by
  rw [rpv_addp, rpv_mulp, pv_addI, pv_mulC, pv_cons, pv_nil]; simp
theorem rscale_places (a : List Int) (x : Int) : nrz (mkz (a.length + [x].length) fun i => cmz a [x] i (i + 1)) = nrz (mulC x a) := nrz_eq fun y => by
  rw [rpv_mulp, pv_mulC, pv_cons, pv_nil]; simp [Int.mul_comm]
theorem ZL.oneV {w : World} {s : Bool} {A : Option Addr} {n c k : Nat} {z : Int} (h : Zv w s A n c z) (hn : n ≤ k) : ZL false (w.alloc (.cells #[.bool s, .slice A n c] 27)) (some ⟨w.heap.size, 0, none⟩) 1 1 k [z] :=
  ⟨rfl, Nat.le_refl _, by omega, fun _ => ⟨_, rfl, by simp, fun j hj => by
    obtain rfl : j = 0 := by omega
    refine ⟨s, A, n, c, ?_, ?_, ⟨h.below (zba _ _), fun e => by cases e⟩, hn⟩
    · rw [Nat.zero_mul, addr_add0]; simp [go_sem]
    · rw [Nat.zero_mul, addr_add0]; simp [go_sem]⟩⟩
theorem run_bsz {w : World} {s : Bool} {A : Option Addr} {n c : Nat} : (Instr.buildSlice 22 1 #[(0, .agg #[.bool s, .slice A n c])]).run Tryz.prog w = .ok (.slice (some ⟨w.heap.size, 0, none⟩) 1 1) (w.alloc (.cells #[.bool s, .slice A n c] 27)) := by kernel_rfl
theorem hop_memz {P : Program} {ops : Array Oper} {Q : Exit → Act → World → Prop} {o : Oper} {a : Act} {w w' : World} {K : Act → World → Prop} {v : Value} (hw : Region.wanted o (yielded ops a.tmps) = true) (he : (execOp a.eval o).run P w = .ok (.value v) w') (hK : K (a.put o.dst v) w') : if Region.wanted o (yielded ops a.tmps) = true then o.wp P a w K Q else K (a.put o.dst undef) w := by
  rw [if_pos hw]
  unfold Oper.wp
  rw [he]
  exact hK
theorem ZlPost.up {zs : List Int} {k k' : Nat} {w w' : World} {e : Ending} (h : ZlPost zs k w e w') (hk : k ≤ k') : ZlPost zs k' w e w' := by
  obtain ⟨A, n, c, rfl, h1, h2⟩ := h
  exact ⟨A, n, c, rfl, h1.mono hk, h2⟩
theorem mulN_short (a b : List Int) : (mulN a b).length ≤ a.length + b.length := by
  unfold mulN
  have h1 := nrz_length (mulI a b)
  have h2 := slZ_le (mulI a b)
  have h3 := mulI_short a b
  omega
def CutNo (w : World) (v : Value) (wx : World) : Prop := v = .bool false ∧ Below w.heap.size w wx
set_option maxRecDepth 100000 in
set_option maxHeartbeats 1000000 in
theorem reckons10_law {A0 A1 A2 : Option Addr} {n0 c0 n1 c1 n2 c2 : Nat} {s2 : Bool} {R0 R1 : List Zr} {x : Int} {w : World} (h0 : RL w A0 n0 c0 R0) (h1 : RL w A1 n1 c1 R1) (hz : Zv w s2 A2 n2 c2 x) (h9 : n2 ≤ 9223372036854775807) (hT : TabHas w) :
    Calls Tryz.prog 3 #[.slice A0 n0 c0, .slice A1 n1 c1, .agg #[.bool s2, .slice A2 n2 c2]] w (TruePost w) := by
  have HT := Lib.hid hT
  have HX0 := Lib.hid h0
  have HX1 := Lib.hid h1
  clear h0 h1 hT
  have HF : ∀ (b : Bool) (w1 : World), Below w.heap.size w w1 → (fwb R0 10 3 && fwb R1 10 3) = b → Calls Tryz.prog 10 #[.slice A0 n0 c0, .slice A1 n1 c1, .int .i64 10, .int .i64 3] w1 fun e w' => e = .returned (.bool b) ∧ Below w1.heap.size w1 w' := fun b w1 hB hb => by
    have := few10_v (N := 10) (W := 3) (HX0.out.below hB) (HX1.out.below hB) (by omega) (by omega) hb
    rwa [(show ((10 : Nat) : Int) = 10 from rfl), (show ((3 : Nat) : Int) = 3 from rfl)] at this
  have HFH := Lib.hid HF
  clear HF
  obtain ⟨t, ht⟩ : ∃ t, (fwb R0 10 3 && fwb R1 10 3) = t := ⟨_, rfl⟩
  have Ht := Lib.hid ht
  clear ht
  have hW := Below.refl w.heap.size w
  obtain ⟨wp0, hwp0⟩ : ∃ xw, xw = w.alloc (.cells #[.bool s2, .slice A2 n2 c2] 27) := ⟨_, rfl⟩
  have zp0 : Below w.heap.size w wp0 := by rw [hwp0]; exact zba _ _
  have sp0 : wp0.heap.size = w.heap.size + 1 := by rw [hwp0, World.size_alloc]
  have Ix : Ib wp0 w.heap.size s2 A2 n2 c2 := by rw [hwp0]; exact Ib.new _ _ _ _ _ _
  replace hz := hz.below zp0
  replace hW := hW.trans (zp0.mono hW.size)
  have H_x := Lib.hid Ix
  clear Ix zp0
  have HW : Hid ((w.alloc (.cells #[.bool s2, .slice A2 n2 c2] 27)) = wp0) := Lib.hid (by rw [hwp0])
  have lw_x : w.heap.size ≤ w.heap.size := by omega
  clear hwp0 sp0
  go_enter Tryz.func3, Tryz.ntmps3
  obtain ⟨x1, x2, x3, x4, x5⟩ := H_x.out
  go_upto_region 1 with fail
  rw [HW.out]
  clear x1 x2 x3 x4 x5
  obtain ⟨x1, x2, x3, x4, x5⟩ := H_x.out
  go_wp2_with fail
  clear x1 x2 x3 x4 x5
  refine (awake10_v (HT.out.below hW)).mono ?_
  rintro e w21 ⟨rfl, B21⟩
  replace H_x := Lib.hid (H_x.out.below B21)
  replace hz := hz.below B21
  replace hW := hW.trans (B21.mono hW.size)
  clear B21
  obtain ⟨x1, x2, x3, x4, x5⟩ := H_x.out
  go_wp2_with fail
  clear x1 x2 x3 x4 x5
  refine (HFH.out _ _ hW Ht.out).mono ?_
  rintro e w22 ⟨rfl, B22⟩
  replace H_x := Lib.hid (H_x.out.below B22)
  replace hz := hz.below B22
  replace hW := hW.trans (B22.mono hW.size)
  clear B22
  clear HFH
  cases t
  · skip
    obtain ⟨x1, x2, x3, x4, x5⟩ := H_x.out
    go_wp2_with fail
    clear x1 x2 x3 x4 x5
    refine (awake10_v (HT.out.below hW)).mono ?_
    rintro e w23 ⟨rfl, B23⟩
    replace H_x := Lib.hid (H_x.out.below B23)
    replace hz := hz.below B23
    replace hW := hW.trans (B23.mono hW.size)
    clear B23
    obtain ⟨x1, x2, x3, x4, x5⟩ := H_x.out
    go_wp2_with fail
    clear x1 x2 x3 x4 x5
    exact bodyPost_ret (v := .bool true) (by simp [results, Tryz.results3, go_sem]) rfl ⟨rfl, hW⟩
  · by_cases h3 : n2 ≤ 3
    · have u0 : ¬ (3 : Int) < (n2 : Int) := by omega
      have ht := Ht.out
      rw [Bool.and_eq_true] at ht
      have f1 := of_fwb ht.1
      have f2 := of_fwb ht.2
      obtain ⟨zs, hzs⟩ : ∃ zs, nums R0 = zs := ⟨_, rfl⟩
      obtain ⟨zs', hzs'⟩ : ∃ zs, nums R1 = zs := ⟨_, rfl⟩
      have HZS := Lib.hid hzs
      have la : n0 ≤ 10 := by have := f1.1; rw [HX0.out.len] at this; exact this
      have lb : n1 ≤ 10 := by have := f2.1; rw [HX1.out.len] at this; exact this
      have HK0 : Hid (∀ j, j < n0 → (R0.getD j nzr).n ≤ 3) := Lib.hid fun j hj => fw_all f1 (by omega) j (by rw [HX0.out.len]; exact hj)
      have hza := HX0.out.zl (k := 3) HK0.out
      have hzb := HX1.out.zl (k := 3) fun j hj => fw_all f2 (by omega) j (by rw [HX1.out.len]; exact hj)
      rw [hzs] at hza
      rw [hzs'] at hzb
      have HA0 := Lib.hid hza
      have HB0 := Lib.hid hzb
      clear ht f1 f2 hzs hzs' hza hzb Ht HX1
      obtain ⟨x1, x2, x3, x4, x5⟩ := H_x.out
      go_wp2_with fail
      clear x1 x2 x3 x4 x5
      refine (zof_v (-1) (by omega) (by omega) _).mono ?_
      rintro e w23 ⟨s23, A23, n23, c23, rfl, hm, k23, B23⟩
      replace H_x := Lib.hid (H_x.out.below B23)
      replace hz := hz.below B23
      replace hW := hW.trans (B23.mono hW.size)
      clear B23
      have HO := Lib.hid (ZL.oneV hm.zv (k := 1) k23)
      have HZ := Lib.hid (zba w23 (.cells #[.bool s23, .slice A23 n23 c23] 27))
      clear hm
      obtain ⟨x1, x2, x3, x4, x5⟩ := H_x.out
      go_wp2_with fail
      clear x1 x2 x3 x4 x5
      have hmn := HO.out
      clear HO
      replace H_x := Lib.hid (H_x.out.below HZ.out)
      replace hz := hz.below HZ.out
      replace hW := hW.trans (HZ.out.mono hW.size)
      clear HZ
      obtain ⟨D, hD⟩ : ∃ D, slZ zs = D := ⟨_, rfl⟩
      have hDn : D ≤ n0 := by have := slZ_le zs; rw [HA0.out.len] at this; omega
      have HD := Lib.hid hD
      clear hD
      refine (zdeg_v (HA0.out.below hW) (by omega)).mono ?_
      rintro e wd ⟨rfl, Bd⟩
      rw [HD.out]
      obtain ⟨dd, hdd⟩ : ∃ d : Int, (D : Int) - 1 = d := ⟨_, rfl⟩
      rw [hdd]
      have HDD := Lib.hid hdd
      clear hdd
      replace H_x := Lib.hid (H_x.out.below Bd)
      replace hz := hz.below Bd
      replace hmn := hmn.below Bd
      replace hW := hW.trans (Bd.mono hW.size)
      clear Bd
      obtain ⟨x1, x2, x3, x4, x5⟩ := H_x.out
      go_upto_region 5 with fail
      clear x1 x2 x3 x4 x5
      go_cut [48] (CutNo wd)
      case first =>
        have hV := Below.refl wd.heap.size wd
        have hd1 := HDD.out
        have u1 : ¬ dd < -1 := by omega
        have u2 : ¬ (n0 : Int) ≤ dd := by omega
        rcases Nat.eq_zero_or_pos D with hD0 | hD0
        · have u3 : ¬ (0 : Int) ≤ dd := by omega
          clear HD hd1 hD0
          go_wp2_with fail
          go_meet
          exact ⟨rfl, hV⟩
        · obtain ⟨E, rfl⟩ : ∃ E, D = E + 1 := ⟨D - 1, by omega⟩
          obtain rfl : dd = (E : Int) := by omega
          clear hd1
          have u3 : (0 : Int) ≤ (E : Int) := by omega
          have u4 : (E : Int) < (n0 : Int) := by omega
          have hne : ith zs E ≠ 0 := by have := slZ_top (l := zs) (by rw [HD.out]; omega); rwa [HD.out] at this
          obtain ⟨sg, hsg⟩ : ∃ q, (ith zs E).sign = q := ⟨_, rfl⟩
          have hs0 : ¬ (sg = 0) := fun h => hne (by rw [← hsg] at h; exact Int.sign_eq_zero_iff_zero.1 h)
          have HSG := Lib.hid hsg
          obtain ⟨ad, rfl, hab, s, A', m, d, g1, g2, ze, hm⟩ := (HA0.out.below hW).at (j := E) (by omega)
          have hv := ze.1
          clear ze hne hsg
          go_wp2_with fail
          refine (zsign_v hv (by omega) HSG.out).mono ?_
          rintro e w30 ⟨rfl, B30⟩
          clear g1 g2 hv
          go_wp2_with fail
          go_meet
          exact ⟨congrArg Value.bool (beq_eq_false_iff_ne.2 hs0), B30⟩
      case rest =>
        obtain ⟨rfl, Bc⟩ := hcut
        obtain ⟨wv, hwv⟩ : ∃ x, x = wc := ⟨_, rfl⟩
        subst hwv
        replace H_x := Lib.hid (H_x.out.below Bc)
        replace hz := hz.below Bc
        replace hmn := hmn.below Bc
        replace hW := hW.trans (Bc.mono hW.size)
        clear Bc
        have hDw : IntKind.i64.wrap (dd + 1) = (D : Int) := by have := HDD.out; rw [IntKind.wrap_i64]; omega
        have HB : Hid (Below wv.heap.size wv wv) := Lib.hid (Below.refl _ _)
        go_wp2_with fail
        clear hDw
        go_loopw [9] (fun s9 wq => ∃ j : Nat, s9 = .int .i64 (j : Int) ∧ D ≤ j ∧ j ≤ n0 ∧ Hid (Below wv.heap.size wv wq)) (fun s9 _ => n0 - (intOf s9).toNat)
        case atStart => exact ⟨D, rfl, Nat.le_refl _, hDn, HB⟩
        case round =>
          clear HB
          obtain ⟨j, rfl, hDj, hj, HB⟩ := hrel
          replace H_x := Lib.hid (H_x.out.below HB.out)
          replace hz := hz.below HB.out
          replace hmn := hmn.below HB.out
          replace hW := hW.trans (HB.out.mono hW.size)
          by_cases hlt : j < n0
          · obtain ⟨ad, rfl, hab, s, A', m, d, g1, g2, ze, hm⟩ := (HA0.out.below hW).at (j := j) hlt
            have hv := ze.1
            have u1 : (0 : Int) ≤ (j : Int) := by omega
            have u2 : (j : Int) < (n0 : Int) := by omega
            have hs0 : (ith zs j).sign = 0 := by rw [slZ_zero (by rw [HD.out]; exact hDj)]; rfl
            have HSG := Lib.hid hs0
            clear ze hs0
            go_wp2_with fail
            refine (zsign_v hv (by omega) HSG.out).mono ?_
            rintro e w31 ⟨rfl, B31⟩
            have HR := Lib.hid (HB.out.trans (B31.mono HB.out.size))
            clear g1 g2 hv B31
            go_wp2_with fail
            go_roundw
            case rel => exact ⟨j + 1, by go_num, by omega, by omega, HR⟩
            case measure => first | (simp [intOf]; done) | (simp [intOf]; omega)
          · have u1 : ¬ (j : Int) < (n0 : Int) := by omega
            obtain ⟨bo, hbo⟩ : ∃ q, decide (nrz zs = nrz zs') = q := ⟨_, rfl⟩
            have HSM := Lib.hid hbo
            have hE1 : 3 + 2 + n0 * (n2 + 1) ≤ 100 := by have := Nat.mul_le_mul la (show n2 + 1 ≤ 4 by omega); omega
            have HL0 : Hid (zs.length = n0) := Lib.hid HA0.out.len
            have HL1 : Hid (zs'.length = n1) := Lib.hid HB0.out.len
            have HEV : Hid (∀ w1 : World, Below w.heap.size w w1 → ∀ (hz1 : Zv w1 s2 A2 n2 c2 x), Calls Tryz.prog 25 #[.slice A0 n0 c0, .agg #[.bool s2, .slice A2 n2 c2]] w1 (ZPost (pv zs x) (3 + n0 * (n2 + 1)) w1)) := Lib.hid fun w1 h hz1 => by
              have := zeval_v (k := 3) (HX0.out.below h) HK0.out hz1 (by omega) (by omega)
              rwa [HZS.out] at this
            clear hbo HB hDj hj HD HX0 HK0 HZS
            obtain ⟨x1, x2, x3, x4, x5⟩ := H_x.out
            go_wp2_with fail
            clear x1 x2 x3 x4 x5
            refine region9 [some 63, some 64, some 65, some 66, some 67, some 68, some 69, some 70, some 71, some 72, some 73, some 74, some 75, some 76, some 77, some 78, some 79, some 80, some 81, some 82, some 83, some 84, some 85, some 86, some 87, some 88, some 89, some 90, some 91, some 92, some 93, some 94, some 95, some 96, some 97, some 98, some 99, some 100, some 101, some 102, some 103, some 104, some 105, some 106, some 107, some 108, some 109, some 110, some 111, some 112, some 113, some 114, some 115, some 116, some 117, some 118, some 119, some 120, some 121, some 122, some 123, some 6] [] 62 [IsK (.slice A0 n0 c0), IsL true 3 (nrz zs), IsK (.slice A0 n0 c0), IsK (.bool true), IsK (.bool true), IsK (.slice A0 n0 c0), IsK (.slice A1 n1 c1), IsL true (max 3 3 + 1) (nrz (addI zs zs')), IsK (.slice A0 n0 c0), IsK (.slice A1 n1 c1), IsL true (max 3 3 + 1) (mkz (max zs.length zs'.length) fun i => ith zs i + ith zs' i), IsK (.bool true), IsK (.bool true), IsK (.bool true), IsK (.slice A0 n0 c0), IsK (.slice A1 n1 c1), IsL true (max 3 3 + 1) (nrz (addI zs (mulC (-1) zs'))), IsK (.slice A0 n0 c0), IsK (.slice (some ⟨w23.heap.size, 0, none⟩) 1 1), IsK (.slice A1 n1 c1), IsL true (1 + 3 + (1 + n1) + 1) (mkz ([(-1 : Int)].length + zs'.length) fun i => cmz [-1] zs' i (i + 1)), IsL true (max 3 (1 + 3 + (1 + n1) + 1) + 1) (mkz (max zs.length (mkz ([(-1 : Int)].length + zs'.length) fun i => cmz [-1] zs' i (i + 1)).length) fun i => ith zs i + ith (mkz ([(-1 : Int)].length + zs'.length) fun i => cmz [-1] zs' i (i + 1)) i), IsK (.bool true), IsK (.bool true), IsK (.bool true), IsK (.slice A0 n0 c0), IsK (.slice A1 n1 c1), IsL true 20 (mulN zs zs'), IsK (.slice A0 n0 c0), IsK (.slice A1 n1 c1), IsL true (3 + 3 + (n0 + n1) + 1) (mkz (zs.length + zs'.length) fun i => cmz zs zs' i (i + 1)), IsK (.bool true), IsK (.bool true), IsK (.bool true), IsK (.slice A0 n0 c0), IsK (.agg #[.bool s2, .slice A2 n2 c2]), IsL true (n2 + 3) (nrz (mulC x zs)), IsK (.slice A0 n0 c0), IsK (.agg #[.bool s2, .slice A2 n2 c2]), IsL false n2 [x], IsL true (3 + n2 + (n0 + 1) + 1) (mkz (zs.length + [x].length) fun i => cmz zs [x] i (i + 1)), IsK (.bool true), IsK (.bool true), IsK (.bool true), IsK (.slice A0 n0 c0), IsK (.slice A1 n1 c1), IsK (.bool bo), IsK (.slice A0 n0 c0), IsK (.slice A1 n1 c1), IsK (.bool bo), IsK (.bool true), IsK (.bool true), IsK (.bool true), IsK (.slice A0 n0 c0), IsK (.agg #[.bool s2, .slice A2 n2 c2]), IsC (pv zs x) 100, IsK (.slice A0 n0 c0), IsK (.agg #[.bool s2, .slice A2 n2 c2]), IsC (pv zs x) 100, IsK (.bool true), IsK (.bool true), IsK (.bool true)] (fun _ _ d _ _ h => by cases d <;> exact h) (by kernel_rfl) (by kernel_rfl) (by kernel_rfl) (by kernel_rfl) (by kernel_rfl) ⟨stay_k _, stay_l _ _ _, stay_k _, stay_k _, stay_k _, stay_k _, stay_k _, stay_l _ _ _, stay_k _, stay_k _, stay_l _ _ _, stay_k _, stay_k _, stay_k _, stay_k _, stay_k _, stay_l _ _ _, stay_k _, stay_k _, stay_k _, stay_l _ _ _, stay_l _ _ _, stay_k _, stay_k _, stay_k _, stay_k _, stay_k _, stay_l _ _ _, stay_k _, stay_k _, stay_l _ _ _, stay_k _, stay_k _, stay_k _, stay_k _, stay_k _, stay_l _ _ _, stay_k _, stay_k _, stay_l _ _ _, stay_l _ _ _, stay_k _, stay_k _, stay_k _, stay_k _, stay_k _, stay_k _, stay_k _, stay_k _, stay_k _, stay_k _, stay_k _, stay_k _, stay_k _, stay_k _, stay_c _ _, stay_k _, stay_k _, stay_c _ _, stay_k _, stay_k _, stay_k _, trivial⟩ ?_ ?_
            · refine HopAll.cons rfl ?_ (HopAll.cons rfl ?_ (HopAll.cons rfl ?_ (HopAll.cons rfl ?_ (HopAll.cons rfl ?_ (HopAll.cons rfl ?_ (HopAll.cons rfl ?_ (HopAll.cons rfl ?_ (HopAll.cons rfl ?_ (HopAll.cons rfl ?_ (HopAll.cons rfl ?_ (HopAll.cons rfl ?_ (HopAll.cons rfl ?_ (HopAll.cons rfl ?_ (HopAll.cons rfl ?_ (HopAll.cons rfl ?_ (HopAll.cons rfl ?_ (HopAll.cons rfl ?_ (HopAll.cons rfl ?_ (HopAll.cons rfl ?_ (HopAll.cons rfl ?_ (HopAll.cons rfl ?_ (HopAll.cons rfl ?_ (HopAll.cons rfl ?_ (HopAll.cons rfl ?_ (HopAll.cons rfl ?_ (HopAll.cons rfl ?_ (HopAll.cons rfl ?_ (HopAll.cons rfl ?_ (HopAll.cons rfl ?_ (HopAll.cons rfl ?_ (HopAll.cons rfl ?_ (HopAll.cons rfl ?_ (HopAll.cons rfl ?_ (HopAll.cons rfl ?_ (HopAll.cons rfl ?_ (HopAll.cons rfl ?_ (HopAll.cons rfl ?_ (HopAll.cons rfl ?_ (HopAll.cons rfl ?_ (HopAll.cons rfl ?_ (HopAll.cons rfl ?_ (HopAll.cons rfl ?_ (HopAll.cons rfl ?_ (HopAll.cons rfl ?_ (HopAll.cons rfl ?_ (HopAll.cons rfl ?_ (HopAll.cons rfl ?_ (HopAll.cons rfl ?_ (HopAll.cons rfl ?_ (HopAll.cons rfl ?_ (HopAll.cons rfl ?_ (HopAll.cons rfl ?_ (HopAll.cons rfl ?_ (HopAll.cons rfl ?_ (HopAll.cons rfl ?_ (HopAll.cons rfl ?_ (HopAll.cons rfl ?_ (HopAll.cons rfl ?_ (HopAll.cons rfl ?_ (HopAll.cons rfl ?_ (HopAll.cons rfl ?_ HopAll.nil)))))))))))))))))))))))))))))))))))))))))))))))))))))))))))))
              · intro a w1 hB ho hp Kq hKq
                have e0 : a.eval (.tmp 0) = (.slice A0 n0 c0) := ho 0 (by kernel_rfl)
                refine hop_val (wanted_none rfl) ?_ (hKq (.slice A0 n0 c0) _ rfl (Below.refl _ _))
                unfold execOp; simp only [eval_const, e0]; simp [go_sem]
              · intro a w1 hB ho hp Kq hKq
                have e63 : a.eval (.tmp 63) = (.slice A0 n0 c0) := hp 0 63 (by kernel_rfl)
                refine hop_call (wanted_none rfl) rfl (args := #[(.slice A0 n0 c0)]) (by simp only [List.map_toArray, List.map_cons, List.map_nil, eval_const, e63]) (ent7 (by kernel_rfl) _ _) ((znorm_v (HA0.out.below (hW.trans (hB.mono hW.size))) (by omega) (by omega)).mono fun _ _ h => h.zl) ?_
                rintro e w2 ⟨Aq, nq, cq, rfl, pq, Bq⟩
                exact ⟨_, rfl, hKq _ _ ⟨Aq, nq, cq, rfl, pq⟩ Bq⟩
              · intro a w1 hB ho hp Kq hKq
                have e0 : a.eval (.tmp 0) = (.slice A0 n0 c0) := ho 0 (by kernel_rfl)
                refine hop_val (wanted_none rfl) ?_ (hKq (.slice A0 n0 c0) _ rfl (Below.refl _ _))
                unfold execOp; simp only [eval_const, e0]; simp [go_sem]
              · intro a w1 hB ho hp Kq hKq
                obtain ⟨A_64, n_64, c_64, e64, p64⟩ : IsL true 3 (nrz zs) (a.eval (.tmp 64)) w1 := hp 1 64 (by kernel_rfl)
                have e65 : a.eval (.tmp 65) = (.slice A0 n0 c0) := hp 2 65 (by kernel_rfl)
                refine hop_call (wanted_none rfl) rfl (args := #[(.slice A_64 n_64 c_64), (.slice A0 n0 c0)]) (by simp only [List.map_toArray, List.map_cons, List.map_nil, eval_const, e64, e65]) (ent7 (by kernel_rfl) _ _) (ris10_v p64 (HA0.out.below (hW.trans (hB.mono hW.size))) (nz_nrz _) rfl (by omega) (by omega) (by have h1 := p64.len; have h2 := HL0.out; have h3 := HL1.out; have h4 := nrz_length (zs); have h5 := slZ_le (zs); omega) (by omega)) ?_
                rintro e w2 ⟨rfl, Bq⟩
                exact ⟨_, rfl, hKq _ _ rfl Bq⟩
              · intro a w1 hB ho hp Kq hKq
                have e66 : a.eval (.tmp 66) = (.bool true) := hp 3 66 (by kernel_rfl)
                refine hop_val (wanted_none rfl) ?_ (hKq (.bool true) _ rfl (Below.refl _ _))
                unfold execOp; simp only [eval_const, e66]; simp [go_sem]
              · intro a w1 hB ho hp Kq hKq
                have e0 : a.eval (.tmp 0) = (.slice A0 n0 c0) := ho 0 (by kernel_rfl)
                refine hop_val (wanted_at rfl (j := 4) (d := 67) (b := true) (by kernel_rfl) (hp 4 67 (by kernel_rfl))) ?_ (hKq (.slice A0 n0 c0) _ rfl (Below.refl _ _))
                unfold execOp; simp only [eval_const, e0]; simp [go_sem]
              · intro a w1 hB ho hp Kq hKq
                have e1 : a.eval (.tmp 1) = (.slice A1 n1 c1) := ho 1 (by kernel_rfl)
                refine hop_val (wanted_at rfl (j := 4) (d := 67) (b := true) (by kernel_rfl) (hp 4 67 (by kernel_rfl))) ?_ (hKq (.slice A1 n1 c1) _ rfl (Below.refl _ _))
                unfold execOp; simp only [eval_const, e1]; simp [go_sem]
              · intro a w1 hB ho hp Kq hKq
                have e68 : a.eval (.tmp 68) = (.slice A0 n0 c0) := hp 5 68 (by kernel_rfl)
                have e69 : a.eval (.tmp 69) = (.slice A1 n1 c1) := hp 6 69 (by kernel_rfl)
                refine hop_call (wanted_at rfl (j := 4) (d := 67) (b := true) (by kernel_rfl) (hp 4 67 (by kernel_rfl))) rfl (args := #[(.slice A0 n0 c0), (.slice A1 n1 c1)]) (by simp only [List.map_toArray, List.map_cons, List.map_nil, eval_const, e68, e69]) (ent7 (by kernel_rfl) _ _) (zaddp_v (HA0.out.below (hW.trans (hB.mono hW.size))) (HB0.out.below (hW.trans (hB.mono hW.size))) (by omega) (by omega) (by omega) (by omega)) ?_
                rintro e w2 ⟨Aq, nq, cq, rfl, pq, Bq⟩
                exact ⟨_, rfl, hKq _ _ ⟨Aq, nq, cq, rfl, pq⟩ Bq⟩
              · intro a w1 hB ho hp Kq hKq
                have e0 : a.eval (.tmp 0) = (.slice A0 n0 c0) := ho 0 (by kernel_rfl)
                refine hop_val (wanted_at rfl (j := 4) (d := 67) (b := true) (by kernel_rfl) (hp 4 67 (by kernel_rfl))) ?_ (hKq (.slice A0 n0 c0) _ rfl (Below.refl _ _))
                unfold execOp; simp only [eval_const, e0]; simp [go_sem]
              · intro a w1 hB ho hp Kq hKq
                have e1 : a.eval (.tmp 1) = (.slice A1 n1 c1) := ho 1 (by kernel_rfl)
                refine hop_val (wanted_at rfl (j := 4) (d := 67) (b := true) (by kernel_rfl) (hp 4 67 (by kernel_rfl))) ?_ (hKq (.slice A1 n1 c1) _ rfl (Below.refl _ _))
                unfold execOp; simp only [eval_const, e1]; simp [go_sem]
              · intro a w1 hB ho hp Kq hKq
                have e71 : a.eval (.tmp 71) = (.slice A0 n0 c0) := hp 8 71 (by kernel_rfl)
                have e72 : a.eval (.tmp 72) = (.slice A1 n1 c1) := hp 9 72 (by kernel_rfl)
                refine hop_call (wanted_at rfl (j := 4) (d := 67) (b := true) (by kernel_rfl) (hp 4 67 (by kernel_rfl))) rfl (args := #[(.slice A0 n0 c0), (.slice A1 n1 c1)]) (by simp only [List.map_toArray, List.map_cons, List.map_nil, eval_const, e71, e72]) (ent7 (by kernel_rfl) _ _) (radd10_v (HA0.out.below (hW.trans (hB.mono hW.size))) (HB0.out.below (hW.trans (hB.mono hW.size))) (by omega) (by omega) (by omega) (by omega)) ?_
                rintro e w2 ⟨Aq, nq, cq, rfl, pq, Bq⟩
                exact ⟨_, rfl, hKq _ _ ⟨Aq, nq, cq, rfl, pq⟩ Bq⟩
              · intro a w1 hB ho hp Kq hKq
                obtain ⟨A_70, n_70, c_70, e70, p70⟩ : IsL true (max 3 3 + 1) (nrz (addI zs zs')) (a.eval (.tmp 70)) w1 := hp 7 70 (by kernel_rfl)
                obtain ⟨A_73, n_73, c_73, e73, p73⟩ : IsL true (max 3 3 + 1) (mkz (max zs.length zs'.length) fun i => ith zs i + ith zs' i) (a.eval (.tmp 73)) w1 := hp 10 73 (by kernel_rfl)
                refine hop_call (wanted_at rfl (j := 4) (d := 67) (b := true) (by kernel_rfl) (hp 4 67 (by kernel_rfl))) rfl (args := #[(.slice A_70 n_70 c_70), (.slice A_73 n_73 c_73)]) (by simp only [List.map_toArray, List.map_cons, List.map_nil, eval_const, e70, e73]) (ent7 (by kernel_rfl) _ _) (ris10_v p70 p73 (nz_nrz _) (sum_places _ _) (by omega) (by omega) (by have h1 := p70.len; have h2 := HL0.out; have h3 := HL1.out; have h4 := nrz_length (addI zs zs'); have h5 := slZ_le (addI zs zs'); rw [addI_length] at h5; omega) (by have h1 := p73.len; have h2 := HL0.out; have h3 := HL1.out; simp only [mkz_length, List.length_cons, List.length_nil] at h1; omega)) ?_
                rintro e w2 ⟨rfl, Bq⟩
                exact ⟨_, rfl, hKq _ _ rfl Bq⟩
              · intro a w1 hB ho hp Kq hKq
                have e67 : a.eval (.tmp 67) = (.bool true) := hp 4 67 (by kernel_rfl)
                have e74 : a.eval (.tmp 74) = (.bool true) := hp 11 74 (by kernel_rfl)
                refine hop_val (wanted_none rfl) ?_ (hKq (.bool true) _ rfl (Below.refl _ _))
                unfold execOp; simp only [eval_const, e67, e74]; simp [go_sem]
              · intro a w1 hB ho hp Kq hKq
                have e75 : a.eval (.tmp 75) = (.bool true) := hp 12 75 (by kernel_rfl)
                refine hop_val (wanted_none rfl) ?_ (hKq (.bool true) _ rfl (Below.refl _ _))
                unfold execOp; simp only [eval_const, e75]; simp [go_sem]
              · intro a w1 hB ho hp Kq hKq
                have e0 : a.eval (.tmp 0) = (.slice A0 n0 c0) := ho 0 (by kernel_rfl)
                refine hop_val (wanted_at rfl (j := 13) (d := 76) (b := true) (by kernel_rfl) (hp 13 76 (by kernel_rfl))) ?_ (hKq (.slice A0 n0 c0) _ rfl (Below.refl _ _))
                unfold execOp; simp only [eval_const, e0]; simp [go_sem]
              · intro a w1 hB ho hp Kq hKq
                have e1 : a.eval (.tmp 1) = (.slice A1 n1 c1) := ho 1 (by kernel_rfl)
                refine hop_val (wanted_at rfl (j := 13) (d := 76) (b := true) (by kernel_rfl) (hp 13 76 (by kernel_rfl))) ?_ (hKq (.slice A1 n1 c1) _ rfl (Below.refl _ _))
                unfold execOp; simp only [eval_const, e1]; simp [go_sem]
              · intro a w1 hB ho hp Kq hKq
                have e77 : a.eval (.tmp 77) = (.slice A0 n0 c0) := hp 14 77 (by kernel_rfl)
                have e78 : a.eval (.tmp 78) = (.slice A1 n1 c1) := hp 15 78 (by kernel_rfl)
                refine hop_call (wanted_at rfl (j := 13) (d := 76) (b := true) (by kernel_rfl) (hp 13 76 (by kernel_rfl))) rfl (args := #[(.slice A0 n0 c0), (.slice A1 n1 c1)]) (by simp only [List.map_toArray, List.map_cons, List.map_nil, eval_const, e77, e78]) (ent7 (by kernel_rfl) _ _) (zsubp_v (HA0.out.below (hW.trans (hB.mono hW.size))) (HB0.out.below (hW.trans (hB.mono hW.size))) (by omega) (by omega) (by omega) (by omega)) ?_
                rintro e w2 ⟨Aq, nq, cq, rfl, pq, Bq⟩
                exact ⟨_, rfl, hKq _ _ ⟨Aq, nq, cq, rfl, pq⟩ Bq⟩
              · intro a w1 hB ho hp Kq hKq
                have e0 : a.eval (.tmp 0) = (.slice A0 n0 c0) := ho 0 (by kernel_rfl)
                refine hop_val (wanted_at rfl (j := 13) (d := 76) (b := true) (by kernel_rfl) (hp 13 76 (by kernel_rfl))) ?_ (hKq (.slice A0 n0 c0) _ rfl (Below.refl _ _))
                unfold execOp; simp only [eval_const, e0]; simp [go_sem]
              · intro a w1 hB ho hp Kq hKq
                have e7 : a.eval (.tmp 7) = (.slice (some ⟨w23.heap.size, 0, none⟩) 1 1) := ho 7 (by kernel_rfl)
                refine hop_val (wanted_at rfl (j := 13) (d := 76) (b := true) (by kernel_rfl) (hp 13 76 (by kernel_rfl))) ?_ (hKq (.slice (some ⟨w23.heap.size, 0, none⟩) 1 1) _ rfl (Below.refl _ _))
                unfold execOp; simp only [eval_const, e7]; simp [go_sem]
              · intro a w1 hB ho hp Kq hKq
                have e1 : a.eval (.tmp 1) = (.slice A1 n1 c1) := ho 1 (by kernel_rfl)
                refine hop_val (wanted_at rfl (j := 13) (d := 76) (b := true) (by kernel_rfl) (hp 13 76 (by kernel_rfl))) ?_ (hKq (.slice A1 n1 c1) _ rfl (Below.refl _ _))
                unfold execOp; simp only [eval_const, e1]; simp [go_sem]
              · intro a w1 hB ho hp Kq hKq
                have e81 : a.eval (.tmp 81) = (.slice (some ⟨w23.heap.size, 0, none⟩) 1 1) := hp 18 81 (by kernel_rfl)
                have e82 : a.eval (.tmp 82) = (.slice A1 n1 c1) := hp 19 82 (by kernel_rfl)
                refine hop_call (wanted_at rfl (j := 13) (d := 76) (b := true) (by kernel_rfl) (hp 13 76 (by kernel_rfl))) rfl (args := #[(.slice (some ⟨w23.heap.size, 0, none⟩) 1 1), (.slice A1 n1 c1)]) (by simp only [List.map_toArray, List.map_cons, List.map_nil, eval_const, e81, e82]) (ent7 (by kernel_rfl) _ _) (rmul10_v (hmn.below hB) (HB0.out.below (hW.trans (hB.mono hW.size))) (by omega) (by omega) (by omega) (by omega)) ?_
                rintro e w2 ⟨Aq, nq, cq, rfl, pq, Bq⟩
                exact ⟨_, rfl, hKq _ _ ⟨Aq, nq, cq, rfl, pq⟩ Bq⟩
              · intro a w1 hB ho hp Kq hKq
                have e80 : a.eval (.tmp 80) = (.slice A0 n0 c0) := hp 17 80 (by kernel_rfl)
                obtain ⟨A_83, n_83, c_83, e83, p83⟩ : IsL true (1 + 3 + (1 + n1) + 1) (mkz ([(-1 : Int)].length + zs'.length) fun i => cmz [-1] zs' i (i + 1)) (a.eval (.tmp 83)) w1 := hp 20 83 (by kernel_rfl)
                refine hop_call (wanted_at rfl (j := 13) (d := 76) (b := true) (by kernel_rfl) (hp 13 76 (by kernel_rfl))) rfl (args := #[(.slice A0 n0 c0), (.slice A_83 n_83 c_83)]) (by simp only [List.map_toArray, List.map_cons, List.map_nil, eval_const, e80, e83]) (ent7 (by kernel_rfl) _ _) (radd10_v (HA0.out.below (hW.trans (hB.mono hW.size))) p83 (by omega) (by omega) (by omega) (by have h1 := p83.len; have h2 := HL0.out; have h3 := HL1.out; simp only [mkz_length, List.length_cons, List.length_nil] at h1; omega)) ?_
                rintro e w2 ⟨Aq, nq, cq, rfl, pq, Bq⟩
                exact ⟨_, rfl, hKq _ _ ⟨Aq, nq, cq, rfl, pq⟩ Bq⟩
              · intro a w1 hB ho hp Kq hKq
                obtain ⟨A_79, n_79, c_79, e79, p79⟩ : IsL true (max 3 3 + 1) (nrz (addI zs (mulC (-1) zs'))) (a.eval (.tmp 79)) w1 := hp 16 79 (by kernel_rfl)
                obtain ⟨A_84, n_84, c_84, e84, p84⟩ : IsL true (max 3 (1 + 3 + (1 + n1) + 1) + 1) (mkz (max zs.length (mkz ([(-1 : Int)].length + zs'.length) fun i => cmz [-1] zs' i (i + 1)).length) fun i => ith zs i + ith (mkz ([(-1 : Int)].length + zs'.length) fun i => cmz [-1] zs' i (i + 1)) i) (a.eval (.tmp 84)) w1 := hp 21 84 (by kernel_rfl)
                refine hop_call (wanted_at rfl (j := 13) (d := 76) (b := true) (by kernel_rfl) (hp 13 76 (by kernel_rfl))) rfl (args := #[(.slice A_79 n_79 c_79), (.slice A_84 n_84 c_84)]) (by simp only [List.map_toArray, List.map_cons, List.map_nil, eval_const, e79, e84]) (ent7 (by kernel_rfl) _ _) (ris10_v p79 p84 (nz_nrz _) (sub_places _ _) (by omega) (by omega) (by have h1 := p79.len; have h2 := HL0.out; have h3 := HL1.out; have h4 := nrz_length (addI zs (mulC (-1) zs')); have h5 := slZ_le (addI zs (mulC (-1) zs')); rw [addI_length, mulC_length] at h5; omega) (by have h1 := p84.len; have h2 := HL0.out; have h3 := HL1.out; simp only [mkz_length, List.length_cons, List.length_nil] at h1; omega)) ?_
                rintro e w2 ⟨rfl, Bq⟩
                exact ⟨_, rfl, hKq _ _ rfl Bq⟩
              · intro a w1 hB ho hp Kq hKq
                have e76 : a.eval (.tmp 76) = (.bool true) := hp 13 76 (by kernel_rfl)
                have e85 : a.eval (.tmp 85) = (.bool true) := hp 22 85 (by kernel_rfl)
                refine hop_val (wanted_none rfl) ?_ (hKq (.bool true) _ rfl (Below.refl _ _))
                unfold execOp; simp only [eval_const, e76, e85]; simp [go_sem]
              · intro a w1 hB ho hp Kq hKq
                have e86 : a.eval (.tmp 86) = (.bool true) := hp 23 86 (by kernel_rfl)
                refine hop_val (wanted_none rfl) ?_ (hKq (.bool true) _ rfl (Below.refl _ _))
                unfold execOp; simp only [eval_const, e86]; simp [go_sem]
              · intro a w1 hB ho hp Kq hKq
                have e0 : a.eval (.tmp 0) = (.slice A0 n0 c0) := ho 0 (by kernel_rfl)
                refine hop_val (wanted_at rfl (j := 24) (d := 87) (b := true) (by kernel_rfl) (hp 24 87 (by kernel_rfl))) ?_ (hKq (.slice A0 n0 c0) _ rfl (Below.refl _ _))
                unfold execOp; simp only [eval_const, e0]; simp [go_sem]
              · intro a w1 hB ho hp Kq hKq
                have e1 : a.eval (.tmp 1) = (.slice A1 n1 c1) := ho 1 (by kernel_rfl)
                refine hop_val (wanted_at rfl (j := 24) (d := 87) (b := true) (by kernel_rfl) (hp 24 87 (by kernel_rfl))) ?_ (hKq (.slice A1 n1 c1) _ rfl (Below.refl _ _))
                unfold execOp; simp only [eval_const, e1]; simp [go_sem]
              · intro a w1 hB ho hp Kq hKq
                have e88 : a.eval (.tmp 88) = (.slice A0 n0 c0) := hp 25 88 (by kernel_rfl)
                have e89 : a.eval (.tmp 89) = (.slice A1 n1 c1) := hp 26 89 (by kernel_rfl)
                refine hop_call (wanted_at rfl (j := 24) (d := 87) (b := true) (by kernel_rfl) (hp 24 87 (by kernel_rfl))) rfl (args := #[(.slice A0 n0 c0), (.slice A1 n1 c1)]) (by simp only [List.map_toArray, List.map_cons, List.map_nil, eval_const, e88, e89]) (ent7 (by kernel_rfl) _ _) (zmulp_v (KK := 20) (HA0.out.below (hW.trans (hB.mono hW.size))) (HB0.out.below (hW.trans (hB.mono hW.size))) (by omega) (by omega) (by omega) (by omega)) ?_
                rintro e w2 ⟨Aq, nq, cq, rfl, pq, Bq⟩
                exact ⟨_, rfl, hKq _ _ ⟨Aq, nq, cq, rfl, pq⟩ Bq⟩
              · intro a w1 hB ho hp Kq hKq
                have e0 : a.eval (.tmp 0) = (.slice A0 n0 c0) := ho 0 (by kernel_rfl)
                refine hop_val (wanted_at rfl (j := 24) (d := 87) (b := true) (by kernel_rfl) (hp 24 87 (by kernel_rfl))) ?_ (hKq (.slice A0 n0 c0) _ rfl (Below.refl _ _))
                unfold execOp; simp only [eval_const, e0]; simp [go_sem]
              · intro a w1 hB ho hp Kq hKq
                have e1 : a.eval (.tmp 1) = (.slice A1 n1 c1) := ho 1 (by kernel_rfl)
                refine hop_val (wanted_at rfl (j := 24) (d := 87) (b := true) (by kernel_rfl) (hp 24 87 (by kernel_rfl))) ?_ (hKq (.slice A1 n1 c1) _ rfl (Below.refl _ _))
                unfold execOp; simp only [eval_const, e1]; simp [go_sem]
              · intro a w1 hB ho hp Kq hKq
                have e91 : a.eval (.tmp 91) = (.slice A0 n0 c0) := hp 28 91 (by kernel_rfl)
                have e92 : a.eval (.tmp 92) = (.slice A1 n1 c1) := hp 29 92 (by kernel_rfl)
                refine hop_call (wanted_at rfl (j := 24) (d := 87) (b := true) (by kernel_rfl) (hp 24 87 (by kernel_rfl))) rfl (args := #[(.slice A0 n0 c0), (.slice A1 n1 c1)]) (by simp only [List.map_toArray, List.map_cons, List.map_nil, eval_const, e91, e92]) (ent7 (by kernel_rfl) _ _) (rmul10_v (HA0.out.below (hW.trans (hB.mono hW.size))) (HB0.out.below (hW.trans (hB.mono hW.size))) (by omega) (by omega) (by omega) (by omega)) ?_
                rintro e w2 ⟨Aq, nq, cq, rfl, pq, Bq⟩
                exact ⟨_, rfl, hKq _ _ ⟨Aq, nq, cq, rfl, pq⟩ Bq⟩
              · intro a w1 hB ho hp Kq hKq
                obtain ⟨A_90, n_90, c_90, e90, p90⟩ : IsL true 20 (mulN zs zs') (a.eval (.tmp 90)) w1 := hp 27 90 (by kernel_rfl)
                obtain ⟨A_93, n_93, c_93, e93, p93⟩ : IsL true (3 + 3 + (n0 + n1) + 1) (mkz (zs.length + zs'.length) fun i => cmz zs zs' i (i + 1)) (a.eval (.tmp 93)) w1 := hp 30 93 (by kernel_rfl)
                refine hop_call (wanted_at rfl (j := 24) (d := 87) (b := true) (by kernel_rfl) (hp 24 87 (by kernel_rfl))) rfl (args := #[(.slice A_90 n_90 c_90), (.slice A_93 n_93 c_93)]) (by simp only [List.map_toArray, List.map_cons, List.map_nil, eval_const, e90, e93]) (ent7 (by kernel_rfl) _ _) (ris10_v p90 p93 (show Nz' (mulN zs zs') from nz_nrz _) (mul_places _ _) (by omega) (by omega) (by have h1 := p90.len; have h2 := HL0.out; have h3 := HL1.out; have h4 := mulN_short zs zs'; omega) (by have h1 := p93.len; have h2 := HL0.out; have h3 := HL1.out; simp only [mkz_length, List.length_cons, List.length_nil] at h1; omega)) ?_
                rintro e w2 ⟨rfl, Bq⟩
                exact ⟨_, rfl, hKq _ _ rfl Bq⟩
              · intro a w1 hB ho hp Kq hKq
                have e87 : a.eval (.tmp 87) = (.bool true) := hp 24 87 (by kernel_rfl)
                have e94 : a.eval (.tmp 94) = (.bool true) := hp 31 94 (by kernel_rfl)
                refine hop_val (wanted_none rfl) ?_ (hKq (.bool true) _ rfl (Below.refl _ _))
                unfold execOp; simp only [eval_const, e87, e94]; simp [go_sem]
              · intro a w1 hB ho hp Kq hKq
                have e95 : a.eval (.tmp 95) = (.bool true) := hp 32 95 (by kernel_rfl)
                refine hop_val (wanted_none rfl) ?_ (hKq (.bool true) _ rfl (Below.refl _ _))
                unfold execOp; simp only [eval_const, e95]; simp [go_sem]
              · intro a w1 hB ho hp Kq hKq
                have e0 : a.eval (.tmp 0) = (.slice A0 n0 c0) := ho 0 (by kernel_rfl)
                refine hop_val (wanted_at rfl (j := 33) (d := 96) (b := true) (by kernel_rfl) (hp 33 96 (by kernel_rfl))) ?_ (hKq (.slice A0 n0 c0) _ rfl (Below.refl _ _))
                unfold execOp; simp only [eval_const, e0]; simp [go_sem]
              · intro a w1 hB ho hp Kq hKq
                have e5 : a.eval (.tmp 5) = (.pointer (some ⟨w.heap.size, 0, none⟩)) := ho 5 (by kernel_rfl)
                obtain ⟨u1, u2, u3, u4, u5⟩ := H_x.out.below hB
                exact hop_load (wanted_at rfl (j := 33) (d := 96) (b := true) (by kernel_rfl) (hp 33 96 (by kernel_rfl))) rfl e5 (run_ldz u1 u2) (hKq _ _ rfl (Below.refl _ _))
              · intro a w1 hB ho hp Kq hKq
                have e97 : a.eval (.tmp 97) = (.slice A0 n0 c0) := hp 34 97 (by kernel_rfl)
                have e98 : a.eval (.tmp 98) = (.agg #[.bool s2, .slice A2 n2 c2]) := hp 35 98 (by kernel_rfl)
                refine hop_call (wanted_at rfl (j := 33) (d := 96) (b := true) (by kernel_rfl) (hp 33 96 (by kernel_rfl))) rfl (args := #[(.slice A0 n0 c0), (.agg #[.bool s2, .slice A2 n2 c2])]) (by simp only [List.map_toArray, List.map_cons, List.map_nil, eval_const, e97, e98]) (ent7 (by kernel_rfl) _ _) (zscale_v (HA0.out.below (hW.trans (hB.mono hW.size))) (hz.below hB) (by omega) (by omega) (by omega)) ?_
                rintro e w2 ⟨Aq, nq, cq, rfl, pq, Bq⟩
                exact ⟨_, rfl, hKq _ _ ⟨Aq, nq, cq, rfl, pq⟩ Bq⟩
              · intro a w1 hB ho hp Kq hKq
                have e0 : a.eval (.tmp 0) = (.slice A0 n0 c0) := ho 0 (by kernel_rfl)
                refine hop_val (wanted_at rfl (j := 33) (d := 96) (b := true) (by kernel_rfl) (hp 33 96 (by kernel_rfl))) ?_ (hKq (.slice A0 n0 c0) _ rfl (Below.refl _ _))
                unfold execOp; simp only [eval_const, e0]; simp [go_sem]
              · intro a w1 hB ho hp Kq hKq
                have e5 : a.eval (.tmp 5) = (.pointer (some ⟨w.heap.size, 0, none⟩)) := ho 5 (by kernel_rfl)
                obtain ⟨u1, u2, u3, u4, u5⟩ := H_x.out.below hB
                exact hop_load (wanted_at rfl (j := 33) (d := 96) (b := true) (by kernel_rfl) (hp 33 96 (by kernel_rfl))) rfl e5 (run_ldz u1 u2) (hKq _ _ rfl (Below.refl _ _))
              · intro a w1 hB ho hp Kq hKq
                have e101 : a.eval (.tmp 101) = (.agg #[.bool s2, .slice A2 n2 c2]) := hp 38 101 (by kernel_rfl)
                refine hop_memz (wanted_at rfl (j := 33) (d := 96) (b := true) (by kernel_rfl) (hp 33 96 (by kernel_rfl))) ?_ (hKq _ _ ⟨_, _, _, rfl, ZL.oneV (hz.below hB) (Nat.le_refl _)⟩ (zba _ _))
                unfold execOp; simp only [List.map_toArray, List.map_cons, List.map_nil, eval_const, e101]; simp [run_bsz]
              · intro a w1 hB ho hp Kq hKq
                have e100 : a.eval (.tmp 100) = (.slice A0 n0 c0) := hp 37 100 (by kernel_rfl)
                obtain ⟨A_102, n_102, c_102, e102, p102⟩ : IsL false n2 [x] (a.eval (.tmp 102)) w1 := hp 39 102 (by kernel_rfl)
                refine hop_call (wanted_at rfl (j := 33) (d := 96) (b := true) (by kernel_rfl) (hp 33 96 (by kernel_rfl))) rfl (args := #[(.slice A0 n0 c0), (.slice A_102 n_102 c_102)]) (by simp only [List.map_toArray, List.map_cons, List.map_nil, eval_const, e100, e102]) (ent7 (by kernel_rfl) _ _) ((rmul10_v (HA0.out.below (hW.trans (hB.mono hW.size))) p102 (by omega) (by omega) (by omega) (by have h1 : 1 = n_102 := p102.len; omega)).mono fun _ _ h => h.up (k' := 3 + n2 + (n0 + 1) + 1) (by have h1 : 1 = n_102 := p102.len; omega)) ?_
                rintro e w2 ⟨Aq, nq, cq, rfl, pq, Bq⟩
                exact ⟨_, rfl, hKq _ _ ⟨Aq, nq, cq, rfl, pq⟩ Bq⟩
              · intro a w1 hB ho hp Kq hKq
                obtain ⟨A_99, n_99, c_99, e99, p99⟩ : IsL true (n2 + 3) (nrz (mulC x zs)) (a.eval (.tmp 99)) w1 := hp 36 99 (by kernel_rfl)
                obtain ⟨A_103, n_103, c_103, e103, p103⟩ : IsL true (3 + n2 + (n0 + 1) + 1) (mkz (zs.length + [x].length) fun i => cmz zs [x] i (i + 1)) (a.eval (.tmp 103)) w1 := hp 40 103 (by kernel_rfl)
                refine hop_call (wanted_at rfl (j := 33) (d := 96) (b := true) (by kernel_rfl) (hp 33 96 (by kernel_rfl))) rfl (args := #[(.slice A_99 n_99 c_99), (.slice A_103 n_103 c_103)]) (by simp only [List.map_toArray, List.map_cons, List.map_nil, eval_const, e99, e103]) (ent7 (by kernel_rfl) _ _) (ris10_v p99 p103 (nz_nrz _) (rscale_places _ _) (by omega) (by omega) (by have h1 := p99.len; have h2 := HL0.out; have h3 := HL1.out; have h4 := nrz_length (mulC x zs); have h5 := slZ_le (mulC x zs); rw [mulC_length] at h5; omega) (by have h1 := p103.len; have h2 := HL0.out; have h3 := HL1.out; simp only [mkz_length, List.length_cons, List.length_nil] at h1; omega)) ?_
                rintro e w2 ⟨rfl, Bq⟩
                exact ⟨_, rfl, hKq _ _ rfl Bq⟩
              · intro a w1 hB ho hp Kq hKq
                have e96 : a.eval (.tmp 96) = (.bool true) := hp 33 96 (by kernel_rfl)
                have e104 : a.eval (.tmp 104) = (.bool true) := hp 41 104 (by kernel_rfl)
                refine hop_val (wanted_none rfl) ?_ (hKq (.bool true) _ rfl (Below.refl _ _))
                unfold execOp; simp only [eval_const, e96, e104]; simp [go_sem]
              · intro a w1 hB ho hp Kq hKq
                have e105 : a.eval (.tmp 105) = (.bool true) := hp 42 105 (by kernel_rfl)
                refine hop_val (wanted_none rfl) ?_ (hKq (.bool true) _ rfl (Below.refl _ _))
                unfold execOp; simp only [eval_const, e105]; simp [go_sem]
              · intro a w1 hB ho hp Kq hKq
                have e0 : a.eval (.tmp 0) = (.slice A0 n0 c0) := ho 0 (by kernel_rfl)
                refine hop_val (wanted_at rfl (j := 43) (d := 106) (b := true) (by kernel_rfl) (hp 43 106 (by kernel_rfl))) ?_ (hKq (.slice A0 n0 c0) _ rfl (Below.refl _ _))
                unfold execOp; simp only [eval_const, e0]; simp [go_sem]
              · intro a w1 hB ho hp Kq hKq
                have e1 : a.eval (.tmp 1) = (.slice A1 n1 c1) := ho 1 (by kernel_rfl)
                refine hop_val (wanted_at rfl (j := 43) (d := 106) (b := true) (by kernel_rfl) (hp 43 106 (by kernel_rfl))) ?_ (hKq (.slice A1 n1 c1) _ rfl (Below.refl _ _))
                unfold execOp; simp only [eval_const, e1]; simp [go_sem]
              · intro a w1 hB ho hp Kq hKq
                have e107 : a.eval (.tmp 107) = (.slice A0 n0 c0) := hp 44 107 (by kernel_rfl)
                have e108 : a.eval (.tmp 108) = (.slice A1 n1 c1) := hp 45 108 (by kernel_rfl)
                refine hop_call (wanted_at rfl (j := 43) (d := 106) (b := true) (by kernel_rfl) (hp 43 106 (by kernel_rfl))) rfl (args := #[(.slice A0 n0 c0), (.slice A1 n1 c1)]) (by simp only [List.map_toArray, List.map_cons, List.map_nil, eval_const, e107, e108]) (ent7 (by kernel_rfl) _ _) (zsamep_v (HA0.out.below (hW.trans (hB.mono hW.size))) (HB0.out.below (hW.trans (hB.mono hW.size))) (by omega) (by omega) HSM.out) ?_
                rintro e w2 ⟨rfl, Bq⟩
                exact ⟨_, rfl, hKq _ _ rfl Bq⟩
              · intro a w1 hB ho hp Kq hKq
                have e0 : a.eval (.tmp 0) = (.slice A0 n0 c0) := ho 0 (by kernel_rfl)
                refine hop_val (wanted_at rfl (j := 43) (d := 106) (b := true) (by kernel_rfl) (hp 43 106 (by kernel_rfl))) ?_ (hKq (.slice A0 n0 c0) _ rfl (Below.refl _ _))
                unfold execOp; simp only [eval_const, e0]; simp [go_sem]
              · intro a w1 hB ho hp Kq hKq
                have e1 : a.eval (.tmp 1) = (.slice A1 n1 c1) := ho 1 (by kernel_rfl)
                refine hop_val (wanted_at rfl (j := 43) (d := 106) (b := true) (by kernel_rfl) (hp 43 106 (by kernel_rfl))) ?_ (hKq (.slice A1 n1 c1) _ rfl (Below.refl _ _))
                unfold execOp; simp only [eval_const, e1]; simp [go_sem]
              · intro a w1 hB ho hp Kq hKq
                have e110 : a.eval (.tmp 110) = (.slice A0 n0 c0) := hp 47 110 (by kernel_rfl)
                have e111 : a.eval (.tmp 111) = (.slice A1 n1 c1) := hp 48 111 (by kernel_rfl)
                refine hop_call (wanted_at rfl (j := 43) (d := 106) (b := true) (by kernel_rfl) (hp 43 106 (by kernel_rfl))) rfl (args := #[(.slice A0 n0 c0), (.slice A1 n1 c1)]) (by simp only [List.map_toArray, List.map_cons, List.map_nil, eval_const, e110, e111]) (ent7 (by kernel_rfl) _ _) (rsame10_v (HA0.out.below (hW.trans (hB.mono hW.size))) (HB0.out.below (hW.trans (hB.mono hW.size))) (by omega) (by omega) (by omega) (by omega) HSM.out) ?_
                rintro e w2 ⟨rfl, Bq⟩
                exact ⟨_, rfl, hKq _ _ rfl Bq⟩
              · intro a w1 hB ho hp Kq hKq
                have e109 : a.eval (.tmp 109) = (.bool bo) := hp 46 109 (by kernel_rfl)
                have e112 : a.eval (.tmp 112) = (.bool bo) := hp 49 112 (by kernel_rfl)
                refine hop_val (wanted_at rfl (j := 43) (d := 106) (b := true) (by kernel_rfl) (hp 43 106 (by kernel_rfl))) ?_ (hKq (.bool true) _ rfl (Below.refl _ _))
                unfold execOp; simp only [eval_const, e109, e112]; simp [go_sem]
              · intro a w1 hB ho hp Kq hKq
                have e106 : a.eval (.tmp 106) = (.bool true) := hp 43 106 (by kernel_rfl)
                have e113 : a.eval (.tmp 113) = (.bool true) := hp 50 113 (by kernel_rfl)
                refine hop_val (wanted_none rfl) ?_ (hKq (.bool true) _ rfl (Below.refl _ _))
                unfold execOp; simp only [eval_const, e106, e113]; simp [go_sem]
              · intro a w1 hB ho hp Kq hKq
                have e114 : a.eval (.tmp 114) = (.bool true) := hp 51 114 (by kernel_rfl)
                refine hop_val (wanted_none rfl) ?_ (hKq (.bool true) _ rfl (Below.refl _ _))
                unfold execOp; simp only [eval_const, e114]; simp [go_sem]
              · intro a w1 hB ho hp Kq hKq
                have e0 : a.eval (.tmp 0) = (.slice A0 n0 c0) := ho 0 (by kernel_rfl)
                refine hop_val (wanted_at rfl (j := 52) (d := 115) (b := true) (by kernel_rfl) (hp 52 115 (by kernel_rfl))) ?_ (hKq (.slice A0 n0 c0) _ rfl (Below.refl _ _))
                unfold execOp; simp only [eval_const, e0]; simp [go_sem]
              · intro a w1 hB ho hp Kq hKq
                have e5 : a.eval (.tmp 5) = (.pointer (some ⟨w.heap.size, 0, none⟩)) := ho 5 (by kernel_rfl)
                obtain ⟨u1, u2, u3, u4, u5⟩ := H_x.out.below hB
                exact hop_load (wanted_at rfl (j := 52) (d := 115) (b := true) (by kernel_rfl) (hp 52 115 (by kernel_rfl))) rfl e5 (run_ldz u1 u2) (hKq _ _ rfl (Below.refl _ _))
              · intro a w1 hB ho hp Kq hKq
                have e116 : a.eval (.tmp 116) = (.slice A0 n0 c0) := hp 53 116 (by kernel_rfl)
                have e117 : a.eval (.tmp 117) = (.agg #[.bool s2, .slice A2 n2 c2]) := hp 54 117 (by kernel_rfl)
                refine hop_call (wanted_at rfl (j := 52) (d := 115) (b := true) (by kernel_rfl) (hp 52 115 (by kernel_rfl))) rfl (args := #[(.slice A0 n0 c0), (.agg #[.bool s2, .slice A2 n2 c2])]) (by simp only [List.map_toArray, List.map_cons, List.map_nil, eval_const, e116, e117]) (ent7 (by kernel_rfl) _ _) (HEV.out _ (hW.trans (hB.mono hW.size)) (hz.below hB)) ?_
                rintro e w2 ⟨sq, Aq, nq, cq, rfl, pq, kq, Bq⟩
                exact ⟨_, rfl, hKq _ _ ⟨sq, Aq, nq, cq, rfl, pq, by omega⟩ Bq⟩
              · intro a w1 hB ho hp Kq hKq
                have e0 : a.eval (.tmp 0) = (.slice A0 n0 c0) := ho 0 (by kernel_rfl)
                refine hop_val (wanted_at rfl (j := 52) (d := 115) (b := true) (by kernel_rfl) (hp 52 115 (by kernel_rfl))) ?_ (hKq (.slice A0 n0 c0) _ rfl (Below.refl _ _))
                unfold execOp; simp only [eval_const, e0]; simp [go_sem]
              · intro a w1 hB ho hp Kq hKq
                have e5 : a.eval (.tmp 5) = (.pointer (some ⟨w.heap.size, 0, none⟩)) := ho 5 (by kernel_rfl)
                obtain ⟨u1, u2, u3, u4, u5⟩ := H_x.out.below hB
                exact hop_load (wanted_at rfl (j := 52) (d := 115) (b := true) (by kernel_rfl) (hp 52 115 (by kernel_rfl))) rfl e5 (run_ldz u1 u2) (hKq _ _ rfl (Below.refl _ _))
              · intro a w1 hB ho hp Kq hKq
                have e119 : a.eval (.tmp 119) = (.slice A0 n0 c0) := hp 56 119 (by kernel_rfl)
                have e120 : a.eval (.tmp 120) = (.agg #[.bool s2, .slice A2 n2 c2]) := hp 57 120 (by kernel_rfl)
                refine hop_call (wanted_at rfl (j := 52) (d := 115) (b := true) (by kernel_rfl) (hp 52 115 (by kernel_rfl))) rfl (args := #[(.slice A0 n0 c0), (.agg #[.bool s2, .slice A2 n2 c2])]) (by simp only [List.map_toArray, List.map_cons, List.map_nil, eval_const, e119, e120]) (ent7 (by kernel_rfl) _ _) (reval10_v (HA0.out.below (hW.trans (hB.mono hW.size))) (hz.below hB) (by omega) (by omega)) ?_
                rintro e w2 ⟨sq, Aq, nq, cq, rfl, pq, kq, Bq⟩
                exact ⟨_, rfl, hKq _ _ ⟨sq, Aq, nq, cq, rfl, pq, by omega⟩ Bq⟩
              · intro a w1 hB ho hp Kq hKq
                obtain ⟨s_118, A_118, n_118, c_118, e118, ⟨p118, k118⟩⟩ : IsC (pv zs x) 100 (a.eval (.tmp 118)) w1 := hp 55 118 (by kernel_rfl)
                obtain ⟨s_121, A_121, n_121, c_121, e121, ⟨p121, k121⟩⟩ : IsC (pv zs x) 100 (a.eval (.tmp 121)) w1 := hp 58 121 (by kernel_rfl)
                refine hop_call (wanted_at rfl (j := 52) (d := 115) (b := true) (by kernel_rfl) (hp 52 115 (by kernel_rfl))) rfl (args := #[(.agg #[.bool s_118, .slice A_118 n_118 c_118]), (.agg #[.bool s_121, .slice A_121 n_121 c_121])]) (by simp only [List.map_toArray, List.map_cons, List.map_nil, eval_const, e118, e121]) (ent7 (by kernel_rfl) _ _) (zsame_v p118.zv p121.zv (by omega) (by omega) (decide_eq_true rfl)) ?_
                rintro e w2 ⟨rfl, Bq⟩
                exact ⟨_, rfl, hKq _ _ rfl Bq⟩
              · intro a w1 hB ho hp Kq hKq
                have e115 : a.eval (.tmp 115) = (.bool true) := hp 52 115 (by kernel_rfl)
                have e122 : a.eval (.tmp 122) = (.bool true) := hp 59 122 (by kernel_rfl)
                refine hop_val (wanted_none rfl) ?_ (hKq (.bool true) _ rfl (Below.refl _ _))
                unfold execOp; simp only [eval_const, e115, e122]; simp [go_sem]
              · intro a w1 hB ho hp Kq hKq
                have e123 : a.eval (.tmp 123) = (.bool true) := hp 60 123 (by kernel_rfl)
                refine hop_val (wanted_none rfl) ?_ (hKq (.bool true) _ rfl (Below.refl _ _))
                unfold execOp; simp only [eval_const, e123]; simp [go_sem]
            intro w24 B24
            refine Ends.one fun vv hv => ?_
            obtain rfl : vv = (.slice A0 n0 c0) := hv
            refine Ends.one fun vv hv => ?_
            obtain ⟨A25, n25, c25, rfl, p25⟩ : IsL true 3 (nrz zs) vv w24 := hv
            refine Ends.one fun vv hv => ?_
            obtain rfl : vv = (.slice A0 n0 c0) := hv
            refine Ends.one fun vv hv => ?_
            obtain rfl : vv = (.bool true) := hv
            refine Ends.one fun vv hv => ?_
            obtain rfl : vv = (.bool true) := hv
            refine Ends.one fun vv hv => ?_
            obtain rfl : vv = (.slice A0 n0 c0) := hv
            refine Ends.one fun vv hv => ?_
            obtain rfl : vv = (.slice A1 n1 c1) := hv
            refine Ends.one fun vv hv => ?_
            obtain ⟨A26, n26, c26, rfl, p26⟩ : IsL true (max 3 3 + 1) (nrz (addI zs zs')) vv w24 := hv
            refine Ends.one fun vv hv => ?_
            obtain rfl : vv = (.slice A0 n0 c0) := hv
            refine Ends.one fun vv hv => ?_
            obtain rfl : vv = (.slice A1 n1 c1) := hv
            refine Ends.one fun vv hv => ?_
            obtain ⟨A27, n27, c27, rfl, p27⟩ : IsL true (max 3 3 + 1) (mkz (max zs.length zs'.length) fun i => ith zs i + ith zs' i) vv w24 := hv
            refine Ends.one fun vv hv => ?_
            obtain rfl : vv = (.bool true) := hv
            refine Ends.one fun vv hv => ?_
            obtain rfl : vv = (.bool true) := hv
            refine Ends.one fun vv hv => ?_
            obtain rfl : vv = (.bool true) := hv
            refine Ends.one fun vv hv => ?_
            obtain rfl : vv = (.slice A0 n0 c0) := hv
            refine Ends.one fun vv hv => ?_
            obtain rfl : vv = (.slice A1 n1 c1) := hv
            refine Ends.one fun vv hv => ?_
            obtain ⟨A28, n28, c28, rfl, p28⟩ : IsL true (max 3 3 + 1) (nrz (addI zs (mulC (-1) zs'))) vv w24 := hv
            refine Ends.one fun vv hv => ?_
            obtain rfl : vv = (.slice A0 n0 c0) := hv
            refine Ends.one fun vv hv => ?_
            obtain rfl : vv = (.slice (some ⟨w23.heap.size, 0, none⟩) 1 1) := hv
            refine Ends.one fun vv hv => ?_
            obtain rfl : vv = (.slice A1 n1 c1) := hv
            refine Ends.one fun vv hv => ?_
            obtain ⟨A29, n29, c29, rfl, p29⟩ : IsL true (1 + 3 + (1 + n1) + 1) (mkz ([(-1 : Int)].length + zs'.length) fun i => cmz [-1] zs' i (i + 1)) vv w24 := hv
            refine Ends.one fun vv hv => ?_
            obtain ⟨A30, n30, c30, rfl, p30⟩ : IsL true (max 3 (1 + 3 + (1 + n1) + 1) + 1) (mkz (max zs.length (mkz ([(-1 : Int)].length + zs'.length) fun i => cmz [-1] zs' i (i + 1)).length) fun i => ith zs i + ith (mkz ([(-1 : Int)].length + zs'.length) fun i => cmz [-1] zs' i (i + 1)) i) vv w24 := hv
            refine Ends.one fun vv hv => ?_
            obtain rfl : vv = (.bool true) := hv
            refine Ends.one fun vv hv => ?_
            obtain rfl : vv = (.bool true) := hv
            refine Ends.one fun vv hv => ?_
            obtain rfl : vv = (.bool true) := hv
            refine Ends.one fun vv hv => ?_
            obtain rfl : vv = (.slice A0 n0 c0) := hv
            refine Ends.one fun vv hv => ?_
            obtain rfl : vv = (.slice A1 n1 c1) := hv
            refine Ends.one fun vv hv => ?_
            obtain ⟨A31, n31, c31, rfl, p31⟩ : IsL true 20 (mulN zs zs') vv w24 := hv
            refine Ends.one fun vv hv => ?_
            obtain rfl : vv = (.slice A0 n0 c0) := hv
            refine Ends.one fun vv hv => ?_
            obtain rfl : vv = (.slice A1 n1 c1) := hv
            refine Ends.one fun vv hv => ?_
            obtain ⟨A32, n32, c32, rfl, p32⟩ : IsL true (3 + 3 + (n0 + n1) + 1) (mkz (zs.length + zs'.length) fun i => cmz zs zs' i (i + 1)) vv w24 := hv
            refine Ends.one fun vv hv => ?_
            obtain rfl : vv = (.bool true) := hv
            refine Ends.one fun vv hv => ?_
            obtain rfl : vv = (.bool true) := hv
            refine Ends.one fun vv hv => ?_
            obtain rfl : vv = (.bool true) := hv
            refine Ends.one fun vv hv => ?_
            obtain rfl : vv = (.slice A0 n0 c0) := hv
            refine Ends.one fun vv hv => ?_
            obtain rfl : vv = (.agg #[.bool s2, .slice A2 n2 c2]) := hv
            refine Ends.one fun vv hv => ?_
            obtain ⟨A33, n33, c33, rfl, p33⟩ : IsL true (n2 + 3) (nrz (mulC x zs)) vv w24 := hv
            refine Ends.one fun vv hv => ?_
            obtain rfl : vv = (.slice A0 n0 c0) := hv
            refine Ends.one fun vv hv => ?_
            obtain rfl : vv = (.agg #[.bool s2, .slice A2 n2 c2]) := hv
            refine Ends.one fun vv hv => ?_
            obtain ⟨A34, n34, c34, rfl, p34⟩ : IsL false n2 [x] vv w24 := hv
            refine Ends.one fun vv hv => ?_
            obtain ⟨A35, n35, c35, rfl, p35⟩ : IsL true (3 + n2 + (n0 + 1) + 1) (mkz (zs.length + [x].length) fun i => cmz zs [x] i (i + 1)) vv w24 := hv
            refine Ends.one fun vv hv => ?_
            obtain rfl : vv = (.bool true) := hv
            refine Ends.one fun vv hv => ?_
            obtain rfl : vv = (.bool true) := hv
            refine Ends.one fun vv hv => ?_
            obtain rfl : vv = (.bool true) := hv
            refine Ends.one fun vv hv => ?_
            obtain rfl : vv = (.slice A0 n0 c0) := hv
            refine Ends.one fun vv hv => ?_
            obtain rfl : vv = (.slice A1 n1 c1) := hv
            refine Ends.one fun vv hv => ?_
            obtain rfl : vv = (.bool bo) := hv
            refine Ends.one fun vv hv => ?_
            obtain rfl : vv = (.slice A0 n0 c0) := hv
            refine Ends.one fun vv hv => ?_
            obtain rfl : vv = (.slice A1 n1 c1) := hv
            refine Ends.one fun vv hv => ?_
            obtain rfl : vv = (.bool bo) := hv
            refine Ends.one fun vv hv => ?_
            obtain rfl : vv = (.bool true) := hv
            refine Ends.one fun vv hv => ?_
            obtain rfl : vv = (.bool true) := hv
            refine Ends.one fun vv hv => ?_
            obtain rfl : vv = (.bool true) := hv
            refine Ends.one fun vv hv => ?_
            obtain rfl : vv = (.slice A0 n0 c0) := hv
            refine Ends.one fun vv hv => ?_
            obtain rfl : vv = (.agg #[.bool s2, .slice A2 n2 c2]) := hv
            refine Ends.one fun vv hv => ?_
            obtain ⟨s36, A36, n36, c36, rfl, ⟨p36, k36⟩⟩ : IsC (pv zs x) 100 vv w24 := hv
            refine Ends.one fun vv hv => ?_
            obtain rfl : vv = (.slice A0 n0 c0) := hv
            refine Ends.one fun vv hv => ?_
            obtain rfl : vv = (.agg #[.bool s2, .slice A2 n2 c2]) := hv
            refine Ends.one fun vv hv => ?_
            obtain ⟨s37, A37, n37, c37, rfl, ⟨p37, k37⟩⟩ : IsC (pv zs x) 100 vv w24 := hv
            refine Ends.one fun vv hv => ?_
            obtain rfl : vv = (.bool true) := hv
            refine Ends.one fun vv hv => ?_
            obtain rfl : vv = (.bool true) := hv
            refine Ends.one fun vv hv => ?_
            obtain rfl : vv = (.bool true) := hv
            refine Ends.nil (l := []) rfl ?_
            simp only [Act.put, List.setIfInBounds_toArray, List.set_cons_zero, List.set_cons_succ]
            replace H_x := Lib.hid (H_x.out.below B24)
            replace hz := hz.below B24
            replace hmn := hmn.below B24
            replace hW := hW.trans (B24.mono hW.size)
            clear p25 p26 p27 p28 p29 p30 p31 p32 p33 p34 p35 p36 p37
            clear B24
            go_wp2_with fail
            exact bodyPost_ret (v := .bool true) (by simp [results, Tryz.results3, go_sem]) rfl ⟨rfl, hW⟩
    · have u0 : (3 : Int) < (n2 : Int) := by omega
      obtain ⟨x1, x2, x3, x4, x5⟩ := H_x.out
      go_wp2_with fail
      clear x1 x2 x3 x4 x5
      refine (awake10_v (HT.out.below hW)).mono ?_
      rintro e w23 ⟨rfl, B23⟩
      replace H_x := Lib.hid (H_x.out.below B23)
      replace hz := hz.below B23
      replace hW := hW.trans (B23.mono hW.size)
      clear B23
      obtain ⟨x1, x2, x3, x4, x5⟩ := H_x.out
      go_wp2_with fail
      clear x1 x2 x3 x4 x5
      exact bodyPost_ret (v := .bool true) (by simp [results, Tryz.results3, go_sem]) rfl ⟨rfl, hW⟩
end Go.Proofs.YtddbhhedjipjkaaGreatDoor
