/-
  ZlK
-/
import Derived.Test.YtddbhhedjipjkaaGreatDoorPr17
import Derived.Test.YtddbhhedjipjkaaGreatDoorPr20
import Derived.Test.YtddbhhedjipjkaaGreatDoorPr21
import Derived.Test.YtddbhhedjipjkaaGreatDoorPr28

namespace Go.Proofs.YtddbhhedjipjkaaGreatDoor
open Go.RowKit
set_option linter.unusedVariables false
set_option linter.unusedSimpArgs false
set_option maxRecDepth 100000 in
set_option maxHeartbeats 1000000 in
theorem zreduce_v {q : Bool} {A : Option Addr} {n c k : Nat} {zs : List Int} {ab p : Nat} {w : World} (hp : ab + 2 = p) (h : p < 2147483648) (hx : ZL q w A n c k zs) (hn : n ≤ 1099511627776) :
    Calls Tryz.prog 37 #[.slice A n c, .agg #[.int .u64 (ab : Int)]] w (LPost (nrm p (rdz p zs)) w) := by
  have HX0 := Lib.hid hx
  have HN := Lib.hid hx.len
  have HP := Lib.hid hp
  clear hx hp
  have hW := Below.refl w.heap.size w
  obtain ⟨wp0, hwp0⟩ : ∃ xw, xw = w.alloc (.cells #[.int .u64 (ab : Int)] 54) := ⟨_, rfl⟩
  have zp0 : Below w.heap.size w wp0 := by rw [hwp0]; exact zba _ _
  have sp0 : wp0.heap.size = w.heap.size + 1 := by rw [hwp0, World.size_alloc]
  have If : Fb wp0 w.heap.size ab := by rw [hwp0]; exact Fb.new _ _ _
  replace hW := hW.trans (zp0.mono hW.size)
  have H_f := Lib.hid If
  clear If zp0
  have HW : Hid ((w.alloc (.cells #[.int .u64 (ab : Int)] 54)) = wp0) := Lib.hid (by rw [hwp0])
  have lw_f : w.heap.size ≤ w.heap.size := by omega
  clear hwp0 sp0
  go_enter Tryz.func37, Tryz.ntmps37
  obtain ⟨f1, f2, f3⟩ := H_f.out
  go_upto_region 1 with fail
  rw [HW.out]
  clear f1 f2 f3
  go_wp2_with (at_make; refine wpList_make_blk _ rfl _ _ 56 rfl 52 .u64 8 Tryz.underlying56 info_u64 _ _ _ _ n rfl rfl (by omega) (by omega) (by omega) (by omega) ?_)
  intro w2 hb hw2 hz2
  obtain ⟨gB, hgB⟩ : ∃ q, wp0.heap.size = q := ⟨_, rfl⟩
  have hg : w.heap.size < gB := by have := H_f.out.2.2; omega
  rw [hgB] at hb
  have HB : Hid (Fb w2 w.heap.size ab ∧ Below w.heap.size w w2 ∧ Blk w2 gB 52 .u64 ((rdz p zs).take 0 ++ List.replicate (n - 0) 0)) := Lib.hid ⟨H_f.out.below hw2, hW.trans (hw2.mono hW.size), by rw [List.take_zero, List.nil_append, Nat.sub_zero]; exact hb⟩
  rw [hgB]
  clear hb hw2 hz2 hgB hW H_f
  go_wp2_with fail
  go_loopw [13] (fun s13 wr => ∃ j : Nat, s13 = .int .i64 (j : Int) ∧ j ≤ n ∧ Hid (Fb wr w.heap.size ab ∧ Below w.heap.size w wr ∧ Blk wr gB 52 .u64 ((rdz p zs).take j ++ List.replicate (n - j) 0))) (fun s13 _ => n - (intOf s13).toNat)
  case atStart => exact ⟨0, rfl, Nat.zero_le _, HB⟩
  case round =>
    clear HB HW
    obtain ⟨j, rfl, hj, HB⟩ := hrel
    obtain ⟨I1, hW, hb⟩ := HB.out
    have H_f := Lib.hid I1
    have hlen : ((rdz p zs).take j ++ List.replicate (n - j) 0).length = n := by rw [List.length_append, List.length_take, rdz_length, HN.out, List.length_replicate]; omega
    clear HB I1
    by_cases hlt : j < n
    · obtain ⟨ad, rfl, hab, s, A', m, d, c1, c2, ze, hm⟩ := (HX0.out.below hW).at (j := j) hlt
      have hv := ze.1
      have u1 : (0 : Int) ≤ (j : Int) := by omega
      have u2 : (j : Int) < (n : Int) := by omega
      obtain ⟨v, hvv⟩ : ∃ v, nth (rdz p zs) j = v := ⟨_, rfl⟩
      have HV : Hid (ith zs j % (p : Int) = (v : Int)) := Lib.hid (by rw [← hvv, rdz_int (by have := HP.out; omega)])
      have hset : Hid (((rdz p zs).take j ++ List.replicate (n - j) 0).set j v = (rdz p zs).take (j + 1) ++ List.replicate (n - (j + 1)) 0) := Lib.hid (by
        have e := set_end0 ((rdz p zs).take j) (n - (j + 1)) v
        have hl : ((rdz p zs).take j).length = j := by rw [List.length_take, rdz_length, HN.out]; omega
        rw [hl, show n - (j + 1) + 1 = n - j by omega] at e
        rw [e, take_succ_nth (by rw [rdz_length, HN.out]; exact hlt), hvv])
      have HO := Lib.hid hb
      have hgl := hb.lt
      clear hb ze hvv
      have lw_f2 : w.heap.size ≤ w.heap.size := Nat.le_refl _
      have O_f := H_f
      obtain ⟨w21, hw21⟩ : ∃ xw, xw = wr.alloc (.cells #[.bool s, .slice A' m d] 27) := ⟨_, rfl⟩
      have z21 : Below wr.heap.size wr w21 := by rw [hw21]; exact zba _ _
      have HXB := z21
      have HW21 : Hid (wr.alloc (.cells #[.bool s, .slice A' m d] 27) = w21) := Lib.hid hw21.symm
      have nn_f_x : ¬ (w.heap.size = wr.heap.size) := by have := H_f.out.2.2; omega
      have nm_f_x : ¬ (wr.heap.size = w.heap.size) := by omega
      have lw_x : w.heap.size ≤ wr.heap.size := by have := hW.size; omega
      replace H_f := Lib.hid (H_f.out.below z21)
      replace hv := hv.below z21
      replace hW := hW.trans (z21.mono hW.size)
      have H_x : Hid (Ib w21 wr.heap.size s A' m d) := Lib.hid (by rw [hw21]; exact Ib.new _ _ _ _ _ _)
      clear z21 hw21
      obtain ⟨f1, f2, f3⟩ := O_f.out
      go_wp2_with fail
      rw [HW21.out]
      clear f1 f2 f3 O_f
      refine (fof_v HP.out h hv HV.out).mono ?_
      rintro e w9 ⟨rfl, B9⟩
      have hb := (HO.out.below HXB hgl).below B9 (by have := HXB.size; omega)
      replace hW := hW.trans (B9.mono hW.size)
      have x1 := hb.cell (j := j) (by rw [hlen]; exact hlt)
      have x2 := hb.free j
      have hs := hb.set j v
      rw [hset.out] at hs
      have HS := Lib.hid hs
      have HF := Lib.hid (Fb.other (H_f.out.below B9) (q := ⟨gB, j, none⟩) (by simp only; omega) (.int .u64 (v : Int)))
      have HW9 := Lib.hid (hW.setCell (p := ⟨gB, j, none⟩) (by simp only; omega) (.int .u64 (v : Int)) : Below w.heap.size w (w9.setCell ⟨gB, j, none⟩ (.int .u64 (v : Int))))
      clear hb hs hv HO HXB c1 c2 H_x H_f B9 hW
      go_wp2_with fail
      go_roundw
      case rel => exact ⟨j + 1, by go_num, by omega, Lib.hid ⟨HF.out, HW9.out, HS.out⟩⟩
      case measure => first | (simp [intOf]; done) | (simp [intOf]; omega)
    · obtain rfl : j = n := by omega
      rw [Nat.sub_self, List.replicate_zero, List.append_nil, List.take_of_length_le (by rw [rdz_length, HN.out]; exact Nat.le_refl _)] at hb
      have hl : (rdz p zs).length = j := by rw [rdz_length, HN.out]
      have hp0 : 0 < p := by have := HP.out; omega
      have hlv := Lv.blk hb (c := j) (by rw [hl]; exact Nat.le_refl _) (by omega) (Low.of_any fun i => by have := rdz_lt hp0 zs i; omega)
      rw [hl] at hlv
      obtain ⟨f1, f2, f3⟩ := H_f.out
      go_wp2_with fail
      refine (pnorm_v HP.out h hlv (by omega)).mono ?_
      rintro e w3 ⟨A3, n3, c3, rfl, p3, B3⟩
      clear f1 f2 f3 hlv hb
      go_wp2_with fail
      exact bodyPost_ret (v := .slice A3 n3 c3) (by simp [results, Tryz.results37, go_sem]) rfl ⟨A3, n3, c3, rfl, p3, hW.trans (B3.mono hW.size)⟩
theorem pr_top : MR.Pr 2147483647 := (pn_pr 11 (by omega)).1
def HnPost (a b : List Int) (w : World) (e : Ending) (w' : World) : Prop := ∃ t : Bool, e = .returned (.bool t) ∧ (t = true → Cmn a b [1]) ∧ Below w.heap.size w w'
set_option maxRecDepth 100000 in
set_option maxHeartbeats 1000000 in
theorem zhave_v {q : Bool} {A : Option Addr} {n c k : Nat} {zs : List Int} {q' : Bool} {A' : Option Addr} {n' c' k' : Nat} {zs' : List Int} {w : World} (hx : ZL q w A n c k zs) (hy : ZL q' w A' n' c' k' zs') (nz : Nz' zs) (hn : n ≤ 549755813888) (hn' : n' ≤ 549755813888) (hT : TabHas w) :
    Calls Tryz.prog 91 #[.slice A n c, .slice A' n' c'] w (HnPost zs zs' w) := by
  have HX0 := Lib.hid hx
  have HY0 := Lib.hid hy
  have HN := Lib.hid hx.len
  have HNZ := Lib.hid nz
  have hp : 2147483645 + 2 = 2147483647 := rfl
  obtain ⟨p, hpe⟩ : ∃ p, 2147483647 = p := ⟨_, rfl⟩
  obtain ⟨ab, hab⟩ : ∃ ab, 2147483645 = ab := ⟨_, rfl⟩
  rw [hpe, hab] at hp
  have hpl : p < 2147483648 := by omega
  have HP := Lib.hid hp
  have HPr : Hid (MR.Pr p) := Lib.hid (hpe ▸ pr_top)
  have HPE : Hid (2147483647 = p) := Lib.hid hpe
  have HTb := Lib.hid hT
  have hnp := fnew_yes (ab := ab) (p := p) (w := w) (by omega) hT (hpe ▸ pr_top) hpl hp
  rw [← hpe] at hnp
  have HNP := Lib.hid hnp
  clear hx hy nz hp hpe hab hnp hT
  go_enter Tryz.func91, Tryz.ntmps91
  go_wp2_with fail
  refine (HNP.out).mono ?_
  rintro e wa ⟨rfl, B1⟩
  have hW : Below w.heap.size w wa := B1
  clear B1 HNP
  obtain ⟨w21, hw21⟩ : ∃ xw, xw = wa.alloc (.cells #[.int .u64 (ab : Int)] 54) := ⟨_, rfl⟩
  have z21 : Below wa.heap.size wa w21 := by rw [hw21]; exact zba _ _
  have HW21 : Hid (wa.alloc (.cells #[.int .u64 (ab : Int)] 54) = w21) := Lib.hid hw21.symm
  have lw_f : w.heap.size ≤ wa.heap.size := by have := hW.size; omega
  replace hW := hW.trans (z21.mono hW.size)
  have H_f : Hid (Fb w21 wa.heap.size ab) := Lib.hid (by rw [hw21]; exact Fb.new _ _ _)
  clear z21 hw21
  go_upto_region 2 with fail
  rw [HW21.out]
  obtain ⟨f1, f2, f3⟩ := H_f.out
  go_wp2_with fail
  clear f1 f2 f3
  refine (zreduce_v HP.out hpl (HX0.out.below hW) (by omega)).mono ?_
  rintro e wc ⟨A3, n3, c3, rfl, p3, B3⟩
  replace hW := hW.trans (B3.mono hW.size)
  replace H_f := Lib.hid (H_f.out.below B3)
  clear B3
  have h3l := p3.len
  by_cases hs : 0 < n ∧ n3 = n
  · obtain ⟨h0, rfl⟩ := hs
    have hpos : (0 : Int) < (n3 : Int) := by omega
    obtain ⟨L, hL⟩ : ∃ L, (gcP p (nrm p (rdz p zs)) (nrm p (rdz p zs'))).length = L := ⟨_, rfl⟩
    have HL := Lib.hid hL
    clear hL
    by_cases h1 : L = 1
    · have hcm := none_of HPr.out (fun e => by have h9 := HN.out; rw [e] at h9; simp at h9; omega) HNZ.out (by rw [h3l, HN.out]) (by rw [HL.out]; exact h1)
      obtain ⟨f1, f2, f3⟩ := H_f.out
      go_wp2_with fail
      clear f1 f2 f3
      refine region8 [] 12 [IsK (.bool true), IsK (.bool true), IsK (.agg #[.int .u64 (ab : Int)]), IsK (.slice A3 n3 c3), IsK (.slice A' n' c'), IsK (.agg #[.int .u64 (ab : Int)]), IsP (nrm p (rdz p zs')), IsP (gcP p (nrm p (rdz p zs)) (nrm p (rdz p zs'))), IsK (.int .i64 (L : Int)), IsK (.bool true), IsK (.bool true), IsK (.bool true)] (fun _ _ d _ _ h => by cases d <;> exact h) (by kernel_rfl) (by kernel_rfl) (by kernel_rfl) ⟨stay_k _, stay_k _, stay_k _, stay_k _, stay_k _, stay_k _, stay_p _, stay_p _, stay_k _, stay_k _, stay_k _, stay_k _, trivial⟩ ?_ ?_
      · refine HopAll.cons rfl ?_ (HopAll.cons rfl ?_ (HopAll.cons rfl ?_ (HopAll.cons rfl ?_ (HopAll.cons rfl ?_ (HopAll.cons rfl ?_ (HopAll.cons rfl ?_ (HopAll.cons rfl ?_ (HopAll.cons rfl ?_ (HopAll.cons rfl ?_ (HopAll.cons rfl ?_ (HopAll.cons rfl ?_ HopAll.nil)))))))))))
        · intro a w1 hB ho hp Kq hKq
          have e8 : a.eval (.tmp 8) = (.bool true) := ho 8 (by kernel_rfl)
          refine hop_val (wanted_none rfl) ?_ (hKq (.bool true) _ rfl (Below.refl _ _))
          unfold execOp; simp only [eval_const, e8]; simp [go_sem]
        · intro a w1 hB ho hp Kq hKq
          have e26 : a.eval (.tmp 26) = (.bool true) := hp 0 26 (by kernel_rfl)
          refine hop_val (wanted_none rfl) ?_ (hKq (.bool true) _ rfl (Below.refl _ _))
          unfold execOp; simp only [eval_const, e26]; simp [go_sem]
        · intro a w1 hB ho hp Kq hKq
          have e5 : a.eval (.tmp 5) = (.pointer (some ⟨wa.heap.size, 0, none⟩)) := ho 5 (by kernel_rfl)
          obtain ⟨u1, u2, u3⟩ := H_f.out.below hB
          exact hop_load (wanted_at rfl (j := 1) (d := 27) (b := true) (by kernel_rfl) (hp 1 27 (by kernel_rfl))) rfl e5 (run_ldf u1) (hKq _ _ rfl (Below.refl _ _))
        · intro a w1 hB ho hp Kq hKq
          have e7 : a.eval (.tmp 7) = (.slice A3 n3 c3) := ho 7 (by kernel_rfl)
          refine hop_val (wanted_at rfl (j := 1) (d := 27) (b := true) (by kernel_rfl) (hp 1 27 (by kernel_rfl))) ?_ (hKq (.slice A3 n3 c3) _ rfl (Below.refl _ _))
          unfold execOp; simp only [eval_const, e7]; simp [go_sem]
        · intro a w1 hB ho hp Kq hKq
          have e1 : a.eval (.tmp 1) = (.slice A' n' c') := ho 1 (by kernel_rfl)
          refine hop_val (wanted_at rfl (j := 1) (d := 27) (b := true) (by kernel_rfl) (hp 1 27 (by kernel_rfl))) ?_ (hKq (.slice A' n' c') _ rfl (Below.refl _ _))
          unfold execOp; simp only [eval_const, e1]; simp [go_sem]
        · intro a w1 hB ho hp Kq hKq
          have e5 : a.eval (.tmp 5) = (.pointer (some ⟨wa.heap.size, 0, none⟩)) := ho 5 (by kernel_rfl)
          obtain ⟨u1, u2, u3⟩ := H_f.out.below hB
          exact hop_load (wanted_at rfl (j := 1) (d := 27) (b := true) (by kernel_rfl) (hp 1 27 (by kernel_rfl))) rfl e5 (run_ldf u1) (hKq _ _ rfl (Below.refl _ _))
        · intro a w1 hB ho hp Kq hKq
          have e30 : a.eval (.tmp 30) = (.slice A' n' c') := hp 4 30 (by kernel_rfl)
          have e31 : a.eval (.tmp 31) = (.agg #[.int .u64 (ab : Int)]) := hp 5 31 (by kernel_rfl)
          refine hop_call (wanted_at rfl (j := 1) (d := 27) (b := true) (by kernel_rfl) (hp 1 27 (by kernel_rfl))) rfl (args := #[(.slice A' n' c'), (.agg #[.int .u64 (ab : Int)])]) (by simp only [List.map_toArray, List.map_cons, List.map_nil, eval_const, e30, e31]) (ent7 (by kernel_rfl) _ _) (zreduce_v HP.out hpl (HY0.out.below (hW.trans (hB.mono hW.size))) (by omega)) ?_
          rintro e w2 ⟨Aq, nq, cq, rfl, pq, Bq⟩
          exact ⟨_, rfl, hKq _ _ ⟨Aq, nq, cq, rfl, pq⟩ Bq⟩
        · intro a w1 hB ho hp Kq hKq
          have e28 : a.eval (.tmp 28) = (.agg #[.int .u64 (ab : Int)]) := hp 2 28 (by kernel_rfl)
          have e29 : a.eval (.tmp 29) = (.slice A3 n3 c3) := hp 3 29 (by kernel_rfl)
          obtain ⟨A_32, n_32, c_32, e32, p32⟩ : IsP (nrm p (rdz p zs')) (a.eval (.tmp 32)) w1 := hp 6 32 (by kernel_rfl)
          refine hop_call (wanted_at rfl (j := 1) (d := 27) (b := true) (by kernel_rfl) (hp 1 27 (by kernel_rfl))) rfl (args := #[(.agg #[.int .u64 (ab : Int)]), (.slice A3 n3 c3), (.slice A_32 n_32 c_32)]) (by simp only [List.map_toArray, List.map_cons, List.map_nil, eval_const, e28, e29, e32]) (ent7 (by kernel_rfl) _ _) (gcd9_v HP.out hpl HPr.out (p3.below hB) (by omega) p32 (by have := p32.len; have := nrm_le p (rdz p zs'); rw [rdz_length] at this; have := HY0.out.len; omega)) ?_
          rintro e w2 ⟨Aq, nq, cq, rfl, pq, Bq⟩
          exact ⟨_, rfl, hKq _ _ ⟨Aq, nq, cq, rfl, pq⟩ Bq⟩
        · intro a w1 hB ho hp Kq hKq
          obtain ⟨A_33, n_33, c_33, e33, p33⟩ : IsP (gcP p (nrm p (rdz p zs)) (nrm p (rdz p zs'))) (a.eval (.tmp 33)) w1 := hp 7 33 (by kernel_rfl)
          refine hop_val (wanted_at rfl (j := 1) (d := 27) (b := true) (by kernel_rfl) (hp 1 27 (by kernel_rfl))) ?_ (hKq (.int .i64 (L : Int)) _ rfl (Below.refl _ _))
          unfold execOp; simp only [eval_const, resolve, Option.map_some, Option.map_none, List.map_toArray, List.map_cons, List.map_nil, e33]; simp [go_sem]; exact congrArg (fun (q : Nat) => (q : Int)) (p33.len.symm.trans HL.out)
        · intro a w1 hB ho hp Kq hKq
          have e34 : a.eval (.tmp 34) = (.int .i64 (L : Int)) := hp 8 34 (by kernel_rfl)
          refine hop_val (wanted_at rfl (j := 1) (d := 27) (b := true) (by kernel_rfl) (hp 1 27 (by kernel_rfl))) ?_ (hKq (.bool true) _ rfl (Below.refl _ _))
          unfold execOp; simp only [eval_const, e34]; simp [go_sem, h1]
        · intro a w1 hB ho hp Kq hKq
          have e27 : a.eval (.tmp 27) = (.bool true) := hp 1 27 (by kernel_rfl)
          have e35 : a.eval (.tmp 35) = (.bool true) := hp 9 35 (by kernel_rfl)
          refine hop_val (wanted_none rfl) ?_ (hKq (.bool true) _ rfl (Below.refl _ _))
          unfold execOp; simp only [eval_const, e27, e35]; simp [go_sem]
        · intro a w1 hB ho hp Kq hKq
          have e36 : a.eval (.tmp 36) = (.bool true) := hp 10 36 (by kernel_rfl)
          refine hop_val (wanted_none rfl) ?_ (hKq (.bool true) _ rfl (Below.refl _ _))
          unfold execOp; simp only [eval_const, e36]; simp [go_sem]
      intro w22 B22
      refine EndAll.one rfl fun vv hv => ?_
      obtain rfl : vv = (.bool true) := hv
      refine EndAll.one rfl fun vv hv => ?_
      obtain rfl : vv = (.bool true) := hv
      refine EndAll.one rfl fun vv hv => ?_
      obtain rfl : vv = (.agg #[.int .u64 (ab : Int)]) := hv
      refine EndAll.one rfl fun vv hv => ?_
      obtain rfl : vv = (.slice A3 n3 c3) := hv
      refine EndAll.one rfl fun vv hv => ?_
      obtain rfl : vv = (.slice A' n' c') := hv
      refine EndAll.one rfl fun vv hv => ?_
      obtain rfl : vv = (.agg #[.int .u64 (ab : Int)]) := hv
      refine EndAll.one rfl fun vv hv => ?_
      obtain ⟨A23, n23, c23, rfl, p23⟩ : IsP (nrm p (rdz p zs')) vv w22 := hv
      refine EndAll.one rfl fun vv hv => ?_
      obtain ⟨A24, n24, c24, rfl, p24⟩ : IsP (gcP p (nrm p (rdz p zs)) (nrm p (rdz p zs'))) vv w22 := hv
      refine EndAll.one rfl fun vv hv => ?_
      obtain rfl : vv = (.int .i64 (L : Int)) := hv
      refine EndAll.one rfl fun vv hv => ?_
      obtain rfl : vv = (.bool true) := hv
      refine EndAll.one rfl fun vv hv => ?_
      obtain rfl : vv = (.bool true) := hv
      refine EndAll.one rfl fun vv hv => ?_
      obtain rfl : vv = (.bool true) := hv
      refine EndAll.nil (l := []) rfl ?_
      simp only [Act.put, List.setIfInBounds_toArray, List.set_cons_zero, List.set_cons_succ]
      replace H_f := Lib.hid (H_f.out.below B22)
      replace p3 := p3.below B22
      replace hW := hW.trans (B22.mono hW.size)
      clear p23 p24
      clear B22
      obtain ⟨f1, f2, f3⟩ := H_f.out
      go_wp2_with fail
      clear f1 f2 f3
      exact bodyPost_ret (v := (.bool true)) (by simp [results, Tryz.results91, go_sem]) rfl ⟨true, rfl, fun _ => hcm, hW⟩
    · have h1b : ((L : Int) == 1) = false := by rw [beq_eq_false_iff_ne]; omega
      obtain ⟨f1, f2, f3⟩ := H_f.out
      go_wp2_with fail
      clear f1 f2 f3
      refine region8 [] 12 [IsK (.bool true), IsK (.bool true), IsK (.agg #[.int .u64 (ab : Int)]), IsK (.slice A3 n3 c3), IsK (.slice A' n' c'), IsK (.agg #[.int .u64 (ab : Int)]), IsP (nrm p (rdz p zs')), IsP (gcP p (nrm p (rdz p zs)) (nrm p (rdz p zs'))), IsK (.int .i64 (L : Int)), IsK (.bool false), IsK (.bool false), IsK (.bool false)] (fun _ _ d _ _ h => by cases d <;> exact h) (by kernel_rfl) (by kernel_rfl) (by kernel_rfl) ⟨stay_k _, stay_k _, stay_k _, stay_k _, stay_k _, stay_k _, stay_p _, stay_p _, stay_k _, stay_k _, stay_k _, stay_k _, trivial⟩ ?_ ?_
      · refine HopAll.cons rfl ?_ (HopAll.cons rfl ?_ (HopAll.cons rfl ?_ (HopAll.cons rfl ?_ (HopAll.cons rfl ?_ (HopAll.cons rfl ?_ (HopAll.cons rfl ?_ (HopAll.cons rfl ?_ (HopAll.cons rfl ?_ (HopAll.cons rfl ?_ (HopAll.cons rfl ?_ (HopAll.cons rfl ?_ HopAll.nil)))))))))))
        · intro a w1 hB ho hp Kq hKq
          have e8 : a.eval (.tmp 8) = (.bool true) := ho 8 (by kernel_rfl)
          refine hop_val (wanted_none rfl) ?_ (hKq (.bool true) _ rfl (Below.refl _ _))
          unfold execOp; simp only [eval_const, e8]; simp [go_sem]
        · intro a w1 hB ho hp Kq hKq
          have e26 : a.eval (.tmp 26) = (.bool true) := hp 0 26 (by kernel_rfl)
          refine hop_val (wanted_none rfl) ?_ (hKq (.bool true) _ rfl (Below.refl _ _))
          unfold execOp; simp only [eval_const, e26]; simp [go_sem]
        · intro a w1 hB ho hp Kq hKq
          have e5 : a.eval (.tmp 5) = (.pointer (some ⟨wa.heap.size, 0, none⟩)) := ho 5 (by kernel_rfl)
          obtain ⟨u1, u2, u3⟩ := H_f.out.below hB
          exact hop_load (wanted_at rfl (j := 1) (d := 27) (b := true) (by kernel_rfl) (hp 1 27 (by kernel_rfl))) rfl e5 (run_ldf u1) (hKq _ _ rfl (Below.refl _ _))
        · intro a w1 hB ho hp Kq hKq
          have e7 : a.eval (.tmp 7) = (.slice A3 n3 c3) := ho 7 (by kernel_rfl)
          refine hop_val (wanted_at rfl (j := 1) (d := 27) (b := true) (by kernel_rfl) (hp 1 27 (by kernel_rfl))) ?_ (hKq (.slice A3 n3 c3) _ rfl (Below.refl _ _))
          unfold execOp; simp only [eval_const, e7]; simp [go_sem]
        · intro a w1 hB ho hp Kq hKq
          have e1 : a.eval (.tmp 1) = (.slice A' n' c') := ho 1 (by kernel_rfl)
          refine hop_val (wanted_at rfl (j := 1) (d := 27) (b := true) (by kernel_rfl) (hp 1 27 (by kernel_rfl))) ?_ (hKq (.slice A' n' c') _ rfl (Below.refl _ _))
          unfold execOp; simp only [eval_const, e1]; simp [go_sem]
        · intro a w1 hB ho hp Kq hKq
          have e5 : a.eval (.tmp 5) = (.pointer (some ⟨wa.heap.size, 0, none⟩)) := ho 5 (by kernel_rfl)
          obtain ⟨u1, u2, u3⟩ := H_f.out.below hB
          exact hop_load (wanted_at rfl (j := 1) (d := 27) (b := true) (by kernel_rfl) (hp 1 27 (by kernel_rfl))) rfl e5 (run_ldf u1) (hKq _ _ rfl (Below.refl _ _))
        · intro a w1 hB ho hp Kq hKq
          have e30 : a.eval (.tmp 30) = (.slice A' n' c') := hp 4 30 (by kernel_rfl)
          have e31 : a.eval (.tmp 31) = (.agg #[.int .u64 (ab : Int)]) := hp 5 31 (by kernel_rfl)
          refine hop_call (wanted_at rfl (j := 1) (d := 27) (b := true) (by kernel_rfl) (hp 1 27 (by kernel_rfl))) rfl (args := #[(.slice A' n' c'), (.agg #[.int .u64 (ab : Int)])]) (by simp only [List.map_toArray, List.map_cons, List.map_nil, eval_const, e30, e31]) (ent7 (by kernel_rfl) _ _) (zreduce_v HP.out hpl (HY0.out.below (hW.trans (hB.mono hW.size))) (by omega)) ?_
          rintro e w2 ⟨Aq, nq, cq, rfl, pq, Bq⟩
          exact ⟨_, rfl, hKq _ _ ⟨Aq, nq, cq, rfl, pq⟩ Bq⟩
        · intro a w1 hB ho hp Kq hKq
          have e28 : a.eval (.tmp 28) = (.agg #[.int .u64 (ab : Int)]) := hp 2 28 (by kernel_rfl)
          have e29 : a.eval (.tmp 29) = (.slice A3 n3 c3) := hp 3 29 (by kernel_rfl)
          obtain ⟨A_32, n_32, c_32, e32, p32⟩ : IsP (nrm p (rdz p zs')) (a.eval (.tmp 32)) w1 := hp 6 32 (by kernel_rfl)
          refine hop_call (wanted_at rfl (j := 1) (d := 27) (b := true) (by kernel_rfl) (hp 1 27 (by kernel_rfl))) rfl (args := #[(.agg #[.int .u64 (ab : Int)]), (.slice A3 n3 c3), (.slice A_32 n_32 c_32)]) (by simp only [List.map_toArray, List.map_cons, List.map_nil, eval_const, e28, e29, e32]) (ent7 (by kernel_rfl) _ _) (gcd9_v HP.out hpl HPr.out (p3.below hB) (by omega) p32 (by have := p32.len; have := nrm_le p (rdz p zs'); rw [rdz_length] at this; have := HY0.out.len; omega)) ?_
          rintro e w2 ⟨Aq, nq, cq, rfl, pq, Bq⟩
          exact ⟨_, rfl, hKq _ _ ⟨Aq, nq, cq, rfl, pq⟩ Bq⟩
        · intro a w1 hB ho hp Kq hKq
          obtain ⟨A_33, n_33, c_33, e33, p33⟩ : IsP (gcP p (nrm p (rdz p zs)) (nrm p (rdz p zs'))) (a.eval (.tmp 33)) w1 := hp 7 33 (by kernel_rfl)
          refine hop_val (wanted_at rfl (j := 1) (d := 27) (b := true) (by kernel_rfl) (hp 1 27 (by kernel_rfl))) ?_ (hKq (.int .i64 (L : Int)) _ rfl (Below.refl _ _))
          unfold execOp; simp only [eval_const, resolve, Option.map_some, Option.map_none, List.map_toArray, List.map_cons, List.map_nil, e33]; simp [go_sem]; exact congrArg (fun (q : Nat) => (q : Int)) (p33.len.symm.trans HL.out)
        · intro a w1 hB ho hp Kq hKq
          have e34 : a.eval (.tmp 34) = (.int .i64 (L : Int)) := hp 8 34 (by kernel_rfl)
          refine hop_val (wanted_at rfl (j := 1) (d := 27) (b := true) (by kernel_rfl) (hp 1 27 (by kernel_rfl))) ?_ (hKq (.bool false) _ rfl (Below.refl _ _))
          unfold execOp; simp only [eval_const, e34]; simp [go_sem, h1]; omega
        · intro a w1 hB ho hp Kq hKq
          have e27 : a.eval (.tmp 27) = (.bool true) := hp 1 27 (by kernel_rfl)
          have e35 : a.eval (.tmp 35) = (.bool false) := hp 9 35 (by kernel_rfl)
          refine hop_val (wanted_none rfl) ?_ (hKq (.bool false) _ rfl (Below.refl _ _))
          unfold execOp; simp only [eval_const, e27, e35]; simp [go_sem]
        · intro a w1 hB ho hp Kq hKq
          have e36 : a.eval (.tmp 36) = (.bool false) := hp 10 36 (by kernel_rfl)
          refine hop_val (wanted_none rfl) ?_ (hKq (.bool false) _ rfl (Below.refl _ _))
          unfold execOp; simp only [eval_const, e36]; simp [go_sem]
      intro w22 B22
      refine EndAll.one rfl fun vv hv => ?_
      obtain rfl : vv = (.bool true) := hv
      refine EndAll.one rfl fun vv hv => ?_
      obtain rfl : vv = (.bool true) := hv
      refine EndAll.one rfl fun vv hv => ?_
      obtain rfl : vv = (.agg #[.int .u64 (ab : Int)]) := hv
      refine EndAll.one rfl fun vv hv => ?_
      obtain rfl : vv = (.slice A3 n3 c3) := hv
      refine EndAll.one rfl fun vv hv => ?_
      obtain rfl : vv = (.slice A' n' c') := hv
      refine EndAll.one rfl fun vv hv => ?_
      obtain rfl : vv = (.agg #[.int .u64 (ab : Int)]) := hv
      refine EndAll.one rfl fun vv hv => ?_
      obtain ⟨A23, n23, c23, rfl, p23⟩ : IsP (nrm p (rdz p zs')) vv w22 := hv
      refine EndAll.one rfl fun vv hv => ?_
      obtain ⟨A24, n24, c24, rfl, p24⟩ : IsP (gcP p (nrm p (rdz p zs)) (nrm p (rdz p zs'))) vv w22 := hv
      refine EndAll.one rfl fun vv hv => ?_
      obtain rfl : vv = (.int .i64 (L : Int)) := hv
      refine EndAll.one rfl fun vv hv => ?_
      obtain rfl : vv = (.bool false) := hv
      refine EndAll.one rfl fun vv hv => ?_
      obtain rfl : vv = (.bool false) := hv
      refine EndAll.one rfl fun vv hv => ?_
      obtain rfl : vv = (.bool false) := hv
      refine EndAll.nil (l := []) rfl ?_
      simp only [Act.put, List.setIfInBounds_toArray, List.set_cons_zero, List.set_cons_succ]
      replace H_f := Lib.hid (H_f.out.below B22)
      replace p3 := p3.below B22
      replace hW := hW.trans (B22.mono hW.size)
      clear p23 p24
      clear B22
      obtain ⟨f1, f2, f3⟩ := H_f.out
      go_wp2_with fail
      clear f1 f2 f3
      exact bodyPost_ret (v := (.bool false)) (by simp [results, Tryz.results91, go_sem]) rfl ⟨false, rfl, (fun e => nomatch e), hW⟩
  · have e : Hid (decide (0 < n ∧ n3 = n) = false) := Lib.hid (decide_eq_false hs)
    skip
    by_cases h0 : 0 < n
    · have hpos : (0 : Int) < (n : Int) := by omega
      have hnn : ((n3 : Int) == (n : Int)) = false := by rw [beq_eq_false_iff_ne]; omega
      obtain ⟨f1, f2, f3⟩ := H_f.out
      go_wp2_with fail
      clear f1 f2 f3
      refine region8 [] 12 [IsK (.bool false), IsK (.bool false), IsK undef, IsK undef, IsK undef, IsK undef, IsK undef, IsK undef, IsK undef, IsK undef, IsK (.bool false), IsK (.bool false)] (fun _ _ d _ _ h => by cases d <;> exact h) (by kernel_rfl) (by kernel_rfl) (by kernel_rfl) ⟨stay_k _, stay_k _, stay_k _, stay_k _, stay_k _, stay_k _, stay_k _, stay_k _, stay_k _, stay_k _, stay_k _, stay_k _, trivial⟩ ?_ ?_
      · refine HopAll.cons rfl ?_ (HopAll.cons rfl ?_ (HopAll.cons rfl ?_ (HopAll.cons rfl ?_ (HopAll.cons rfl ?_ (HopAll.cons rfl ?_ (HopAll.cons rfl ?_ (HopAll.cons rfl ?_ (HopAll.cons rfl ?_ (HopAll.cons rfl ?_ (HopAll.cons rfl ?_ (HopAll.cons rfl ?_ HopAll.nil)))))))))))
        · intro a w1 hB ho hp Kq hKq
          have e8 : a.eval (.tmp 8) = (.bool false) := ho 8 (by kernel_rfl)
          refine hop_val (wanted_none rfl) ?_ (hKq (.bool false) _ rfl (Below.refl _ _))
          unfold execOp; simp only [eval_const, e8]; simp [go_sem]
        · intro a w1 hB ho hp Kq hKq
          have e26 : a.eval (.tmp 26) = (.bool false) := hp 0 26 (by kernel_rfl)
          refine hop_val (wanted_none rfl) ?_ (hKq (.bool false) _ rfl (Below.refl _ _))
          unfold execOp; simp only [eval_const, e26]; simp [go_sem]
        · intro a w1 hB ho hp Kq hKq
          exact hop_not (unwanted_at rfl (j := 1) (d := 27) (b := true) (by kernel_rfl) (hp 1 27 (by kernel_rfl)) rfl) (hKq _ _ rfl (Below.refl _ _))
        · intro a w1 hB ho hp Kq hKq
          exact hop_not (unwanted_at rfl (j := 1) (d := 27) (b := true) (by kernel_rfl) (hp 1 27 (by kernel_rfl)) rfl) (hKq _ _ rfl (Below.refl _ _))
        · intro a w1 hB ho hp Kq hKq
          exact hop_not (unwanted_at rfl (j := 1) (d := 27) (b := true) (by kernel_rfl) (hp 1 27 (by kernel_rfl)) rfl) (hKq _ _ rfl (Below.refl _ _))
        · intro a w1 hB ho hp Kq hKq
          exact hop_not (unwanted_at rfl (j := 1) (d := 27) (b := true) (by kernel_rfl) (hp 1 27 (by kernel_rfl)) rfl) (hKq _ _ rfl (Below.refl _ _))
        · intro a w1 hB ho hp Kq hKq
          exact hop_not (unwanted_at rfl (j := 1) (d := 27) (b := true) (by kernel_rfl) (hp 1 27 (by kernel_rfl)) rfl) (hKq _ _ rfl (Below.refl _ _))
        · intro a w1 hB ho hp Kq hKq
          exact hop_not (unwanted_at rfl (j := 1) (d := 27) (b := true) (by kernel_rfl) (hp 1 27 (by kernel_rfl)) rfl) (hKq _ _ rfl (Below.refl _ _))
        · intro a w1 hB ho hp Kq hKq
          exact hop_not (unwanted_at rfl (j := 1) (d := 27) (b := true) (by kernel_rfl) (hp 1 27 (by kernel_rfl)) rfl) (hKq _ _ rfl (Below.refl _ _))
        · intro a w1 hB ho hp Kq hKq
          exact hop_not (unwanted_at rfl (j := 1) (d := 27) (b := true) (by kernel_rfl) (hp 1 27 (by kernel_rfl)) rfl) (hKq _ _ rfl (Below.refl _ _))
        · intro a w1 hB ho hp Kq hKq
          have e27 : a.eval (.tmp 27) = (.bool false) := hp 1 27 (by kernel_rfl)
          have e35 : a.eval (.tmp 35) = undef := hp 9 35 (by kernel_rfl)
          refine hop_val (wanted_none rfl) ?_ (hKq (.bool false) _ rfl (Below.refl _ _))
          unfold execOp; simp only [eval_const, e27, e35]; simp [go_sem]
        · intro a w1 hB ho hp Kq hKq
          have e36 : a.eval (.tmp 36) = (.bool false) := hp 10 36 (by kernel_rfl)
          refine hop_val (wanted_none rfl) ?_ (hKq (.bool false) _ rfl (Below.refl _ _))
          unfold execOp; simp only [eval_const, e36]; simp [go_sem]
      intro w22 B22
      refine EndAll.one rfl fun vv hv => ?_
      obtain rfl : vv = (.bool false) := hv
      refine EndAll.one rfl fun vv hv => ?_
      obtain rfl : vv = (.bool false) := hv
      refine EndAll.one rfl fun vv hv => ?_
      obtain rfl : vv = undef := hv
      refine EndAll.one rfl fun vv hv => ?_
      obtain rfl : vv = undef := hv
      refine EndAll.one rfl fun vv hv => ?_
      obtain rfl : vv = undef := hv
      refine EndAll.one rfl fun vv hv => ?_
      obtain rfl : vv = undef := hv
      refine EndAll.one rfl fun vv hv => ?_
      obtain rfl : vv = undef := hv
      refine EndAll.one rfl fun vv hv => ?_
      obtain rfl : vv = undef := hv
      refine EndAll.one rfl fun vv hv => ?_
      obtain rfl : vv = undef := hv
      refine EndAll.one rfl fun vv hv => ?_
      obtain rfl : vv = undef := hv
      refine EndAll.one rfl fun vv hv => ?_
      obtain rfl : vv = (.bool false) := hv
      refine EndAll.one rfl fun vv hv => ?_
      obtain rfl : vv = (.bool false) := hv
      refine EndAll.nil (l := []) rfl ?_
      simp only [Act.put, List.setIfInBounds_toArray, List.set_cons_zero, List.set_cons_succ]
      replace H_f := Lib.hid (H_f.out.below B22)
      replace p3 := p3.below B22
      replace hW := hW.trans (B22.mono hW.size)
      clear B22
      obtain ⟨f1, f2, f3⟩ := H_f.out
      go_wp2_with fail
      clear f1 f2 f3
      exact bodyPost_ret (v := (.bool false)) (by simp [results, Tryz.results91, go_sem]) rfl ⟨false, rfl, (fun e => nomatch e), hW⟩
    · have hpos : ¬ (0 : Int) < (n : Int) := by omega
      obtain ⟨f1, f2, f3⟩ := H_f.out
      go_wp2_with fail
      clear f1 f2 f3
      refine region8 [] 12 [IsK (.bool false), IsK (.bool false), IsK undef, IsK undef, IsK undef, IsK undef, IsK undef, IsK undef, IsK undef, IsK undef, IsK (.bool false), IsK (.bool false)] (fun _ _ d _ _ h => by cases d <;> exact h) (by kernel_rfl) (by kernel_rfl) (by kernel_rfl) ⟨stay_k _, stay_k _, stay_k _, stay_k _, stay_k _, stay_k _, stay_k _, stay_k _, stay_k _, stay_k _, stay_k _, stay_k _, trivial⟩ ?_ ?_
      · refine HopAll.cons rfl ?_ (HopAll.cons rfl ?_ (HopAll.cons rfl ?_ (HopAll.cons rfl ?_ (HopAll.cons rfl ?_ (HopAll.cons rfl ?_ (HopAll.cons rfl ?_ (HopAll.cons rfl ?_ (HopAll.cons rfl ?_ (HopAll.cons rfl ?_ (HopAll.cons rfl ?_ (HopAll.cons rfl ?_ HopAll.nil)))))))))))
        · intro a w1 hB ho hp Kq hKq
          have e8 : a.eval (.tmp 8) = (.bool false) := ho 8 (by kernel_rfl)
          refine hop_val (wanted_none rfl) ?_ (hKq (.bool false) _ rfl (Below.refl _ _))
          unfold execOp; simp only [eval_const, e8]; simp [go_sem]
        · intro a w1 hB ho hp Kq hKq
          have e26 : a.eval (.tmp 26) = (.bool false) := hp 0 26 (by kernel_rfl)
          refine hop_val (wanted_none rfl) ?_ (hKq (.bool false) _ rfl (Below.refl _ _))
          unfold execOp; simp only [eval_const, e26]; simp [go_sem]
        · intro a w1 hB ho hp Kq hKq
          exact hop_not (unwanted_at rfl (j := 1) (d := 27) (b := true) (by kernel_rfl) (hp 1 27 (by kernel_rfl)) rfl) (hKq _ _ rfl (Below.refl _ _))
        · intro a w1 hB ho hp Kq hKq
          exact hop_not (unwanted_at rfl (j := 1) (d := 27) (b := true) (by kernel_rfl) (hp 1 27 (by kernel_rfl)) rfl) (hKq _ _ rfl (Below.refl _ _))
        · intro a w1 hB ho hp Kq hKq
          exact hop_not (unwanted_at rfl (j := 1) (d := 27) (b := true) (by kernel_rfl) (hp 1 27 (by kernel_rfl)) rfl) (hKq _ _ rfl (Below.refl _ _))
        · intro a w1 hB ho hp Kq hKq
          exact hop_not (unwanted_at rfl (j := 1) (d := 27) (b := true) (by kernel_rfl) (hp 1 27 (by kernel_rfl)) rfl) (hKq _ _ rfl (Below.refl _ _))
        · intro a w1 hB ho hp Kq hKq
          exact hop_not (unwanted_at rfl (j := 1) (d := 27) (b := true) (by kernel_rfl) (hp 1 27 (by kernel_rfl)) rfl) (hKq _ _ rfl (Below.refl _ _))
        · intro a w1 hB ho hp Kq hKq
          exact hop_not (unwanted_at rfl (j := 1) (d := 27) (b := true) (by kernel_rfl) (hp 1 27 (by kernel_rfl)) rfl) (hKq _ _ rfl (Below.refl _ _))
        · intro a w1 hB ho hp Kq hKq
          exact hop_not (unwanted_at rfl (j := 1) (d := 27) (b := true) (by kernel_rfl) (hp 1 27 (by kernel_rfl)) rfl) (hKq _ _ rfl (Below.refl _ _))
        · intro a w1 hB ho hp Kq hKq
          exact hop_not (unwanted_at rfl (j := 1) (d := 27) (b := true) (by kernel_rfl) (hp 1 27 (by kernel_rfl)) rfl) (hKq _ _ rfl (Below.refl _ _))
        · intro a w1 hB ho hp Kq hKq
          have e27 : a.eval (.tmp 27) = (.bool false) := hp 1 27 (by kernel_rfl)
          have e35 : a.eval (.tmp 35) = undef := hp 9 35 (by kernel_rfl)
          refine hop_val (wanted_none rfl) ?_ (hKq (.bool false) _ rfl (Below.refl _ _))
          unfold execOp; simp only [eval_const, e27, e35]; simp [go_sem]
        · intro a w1 hB ho hp Kq hKq
          have e36 : a.eval (.tmp 36) = (.bool false) := hp 10 36 (by kernel_rfl)
          refine hop_val (wanted_none rfl) ?_ (hKq (.bool false) _ rfl (Below.refl _ _))
          unfold execOp; simp only [eval_const, e36]; simp [go_sem]
      intro w22 B22
      refine EndAll.one rfl fun vv hv => ?_
      obtain rfl : vv = (.bool false) := hv
      refine EndAll.one rfl fun vv hv => ?_
      obtain rfl : vv = (.bool false) := hv
      refine EndAll.one rfl fun vv hv => ?_
      obtain rfl : vv = undef := hv
      refine EndAll.one rfl fun vv hv => ?_
      obtain rfl : vv = undef := hv
      refine EndAll.one rfl fun vv hv => ?_
      obtain rfl : vv = undef := hv
      refine EndAll.one rfl fun vv hv => ?_
      obtain rfl : vv = undef := hv
      refine EndAll.one rfl fun vv hv => ?_
      obtain rfl : vv = undef := hv
      refine EndAll.one rfl fun vv hv => ?_
      obtain rfl : vv = undef := hv
      refine EndAll.one rfl fun vv hv => ?_
      obtain rfl : vv = undef := hv
      refine EndAll.one rfl fun vv hv => ?_
      obtain rfl : vv = undef := hv
      refine EndAll.one rfl fun vv hv => ?_
      obtain rfl : vv = (.bool false) := hv
      refine EndAll.one rfl fun vv hv => ?_
      obtain rfl : vv = (.bool false) := hv
      refine EndAll.nil (l := []) rfl ?_
      simp only [Act.put, List.setIfInBounds_toArray, List.set_cons_zero, List.set_cons_succ]
      replace H_f := Lib.hid (H_f.out.below B22)
      replace p3 := p3.below B22
      replace hW := hW.trans (B22.mono hW.size)
      clear B22
      obtain ⟨f1, f2, f3⟩ := H_f.out
      go_wp2_with fail
      clear f1 f2 f3
      exact bodyPost_ret (v := (.bool false)) (by simp [results, Tryz.results91, go_sem]) rfl ⟨false, rfl, (fun e => nomatch e), hW⟩
end Go.Proofs.YtddbhhedjipjkaaGreatDoor
