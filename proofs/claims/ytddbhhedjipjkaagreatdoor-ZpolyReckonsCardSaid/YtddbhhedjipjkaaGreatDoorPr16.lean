/-
  ZlD
-/
import Derived.Test.YtddbhhedjipjkaaGreatDoorPr15

namespace Go.Proofs.YtddbhhedjipjkaaGreatDoor
open Go.RowKit
set_option linter.unusedVariables false
set_option linter.unusedSimpArgs false
def ZgPost (zs : List Int) (g k : Nat) (w : World) (e : Ending) (w' : World) : Prop := e = .returned (.tuple #[]) ∧ ZB w' g k zs ∧ w.grownBy w' (some g)
theorem Zc.words {w : World} {s : Bool} {A : Option Addr} {n c : Nat} {z : Int} (h : Zc w s A n c z) : n = (cn 18446744073709551616 z.natAbs).length := h.1.2.1.symm
theorem gro_zput {w w' : World} {g gP n c : Nat} {s : Bool} {A : Option Addr} (h : w.grownBy w' (some g)) (hg : w.heap.size ≤ gP) : w.grownBy (zput w' gP s A n c) (some g) := by
  unfold zput
  have h1 : ∀ (v : World) (o : Nat) (u : Value), w.grownBy v (some g) → w.grownBy (v.setCell ⟨gP, o, none⟩ u) (some g) := fun v o u hv =>
    ⟨hv.os, hv.tape, hv.output, by simpa using hv.size, fun k hk hne => (Below.heap_setCell _ _ _ _ (fun e => by simp only at e; omega)).trans (hv.block k hk hne)⟩
  exact h1 _ _ _ (h1 _ _ _ h)
theorem heap_zput {w : World} {gP n c k : Nat} {s : Bool} {A : Option Addr} (h : k ≠ gP) : (zput w gP s A n c).heap[k]? = w.heap[k]? := by
  unfold zput
  exact (Below.heap_setCell _ _ _ _ h).trans (Below.heap_setCell _ _ _ _ h)
theorem ZB.zput {w : World} {g k gP n c m d : Nat} {zs : List Int} {s t : Bool} {A B : Option Addr} (h : ZB w g k zs) (hne : ¬ (gP = g)) (hi : Ib w gP t B m d) : ZB (zput w gP s A n c) g k zs := by
  obtain ⟨cs, h1, h2, h3⟩ := h
  refine ⟨cs, (heap_zput (Ne.symm hne)).trans h1, h2, fun j hj => ?_⟩
  obtain ⟨s', A', n', c', c1, c2, c3, c4⟩ := h3 j hj
  exact ⟨s', A', n', c', c1, c2, c3.put (s' := s) (A' := A) (n' := n) (c' := c) hi, c4⟩
set_option maxRecDepth 100000 in
set_option maxHeartbeats 1000000 in
theorem zgather_v {q : Bool} {D : Option Addr} {g o m cap n d k k' K n0 c0 : Nat} {zs ys : List Int} {s0 : Bool} {A0 : Option Addr} {z : Int} {w : World} (hb : ZB w g k zs) (hy : ZL q w D n d k' ys) (hD : ∀ ad, D = some ad → ad.block ≠ g) (hz : Zv w s0 A0 n0 c0 z)
    (ho : o + n ≤ zs.length) (hm : n ≤ m) (hK : max k (n0 + k') + 1 ≤ K) (hKb : K ≤ 549755813888) (hn : n ≤ 8796093022208) :
    Calls Tryz.prog 53 #[.slice (some ⟨g, o * 2, none⟩) m cap, .slice D n d, .agg #[.bool s0, .slice A0 n0 c0]] w (ZgPost (gat zs o ys z) g K w) := by
  have HY0 := Lib.hid hy
  have HZ0 := Lib.hid hz
  have HB0 := Lib.hid hb
  have HD0 := Lib.hid hD
  have HN := Lib.hid hy.len
  have hgl := hb.lt
  clear hy hz hb hD
  have hW := Below.refl w.heap.size w
  obtain ⟨wp0, hwp0⟩ : ∃ xw, xw = w.alloc (.cells #[.bool s0, .slice A0 n0 c0] 27) := ⟨_, rfl⟩
  have zp0 : Below w.heap.size w wp0 := by rw [hwp0]; exact zba _ _
  have sp0 : wp0.heap.size = w.heap.size + 1 := by rw [hwp0, World.size_alloc]
  have Iz : Ib wp0 w.heap.size s0 A0 n0 c0 := by rw [hwp0]; exact Ib.new _ _ _ _ _ _
  replace hW := hW.trans (zp0.mono hW.size)
  have H_z := Lib.hid Iz
  clear Iz zp0
  have HW : Hid ((w.alloc (.cells #[.bool s0, .slice A0 n0 c0] 27)) = wp0) := Lib.hid (by rw [hwp0])
  have lw_z : w.heap.size ≤ w.heap.size := by omega
  clear hwp0 sp0
  go_enter Tryz.func53, Tryz.ntmps53
  obtain ⟨z1, z2, z3, z4, z5⟩ := H_z.out
  go_upto_region 1 with fail
  rw [HW.out]
  clear z1 z2 z3 z4 z5
  obtain ⟨r, hr⟩ : ∃ r, z.sign = r := ⟨_, rfl⟩
  have HR := Lib.hid hr
  have hz := HZ0.out.below hW
  have hgg : ¬ (w.heap.size = g) := by omega
  clear hr
  obtain ⟨z1, z2, z3, z4, z5⟩ := H_z.out
  go_wp2_with fail
  clear z1 z2 z3 z4 z5
  refine (zsign_v hz (by omega) HR.out).mono ?_
  rintro e w21 ⟨rfl, B21⟩
  replace H_z := Lib.hid (H_z.out.below B21)
  replace hz := hz.below B21
  replace hW := hW.trans (B21.mono hW.size)
  clear B21
  by_cases h0 : r = 0
  · have e0 : z = 0 := by have := HR.out; rw [h0] at this; exact Int.sign_eq_zero_iff_zero.1 this
    subst h0
    have P : Hid (ZgPost (gat zs o ys z) g K w (.returned (.tuple #[])) w21) := Lib.hid ⟨rfl, by rw [e0, gat_zero]; exact (HB0.out.below hW).mono (by omega), gro_of hW _⟩
    clear e0 hz hW H_z
    go_wp2_with fail
    exact bodyPost_ret (v := .tuple #[]) (by simp [results, Tryz.results53, go_sem]) rfl P.out
  · skip
    have h0b : (r == 0) = false := by rw [beq_eq_false_iff_ne]; exact h0
    have HB : Hid (Ib w21 w.heap.size s0 A0 n0 c0 ∧ w.grownBy w21 (some g) ∧ ZB w21 g K (upd zs o 0 fun j => ith zs j + z * ith ys (j - o))) := Lib.hid ⟨H_z.out, gro_of hW _, by rw [upd_zero]; exact (HB0.out.below hW).mono (by omega)⟩
    clear hz hW H_z lw_z h0 HR
    go_wp2_with fail
    go_loopw [13] (fun s13 wr => ∃ j : Nat, s13 = .int .i64 (j : Int) ∧ j ≤ n ∧ Hid (Ib wr w.heap.size s0 A0 n0 c0 ∧ w.grownBy wr (some g) ∧ ZB wr g K (upd zs o j fun j => ith zs j + z * ith ys (j - o)))) (fun s13 _ => n - (intOf s13).toNat)
    case atStart => exact ⟨0, rfl, Nat.zero_le _, HB⟩
    case round =>
      clear HB h0b
      obtain ⟨j, rfl, hj, HB⟩ := hrel
      obtain ⟨I1, hgr0, hb⟩ := HB.out
      have H_z := Lib.hid I1
      clear HB I1
      by_cases hlt : j < n
      · obtain ⟨ad, rfl, hab, s, A', m', d', c1, c2, ze, hm'⟩ := (HY0.out.gro HD0.out HB0.out.now hgr0).at (j := j) hlt
        obtain ⟨y, hy⟩ : ∃ y, ith ys j = y := ⟨_, rfl⟩
        have HY := Lib.hid hy
        rw [hy] at ze
        have hv := ze.1
        have hz := HZ0.out.gro HB0.out.now hgr0
        have hW := Below.refl wr.heap.size wr
        have u1 : (0 : Int) ≤ (j : Int) := by omega
        have u2 : (j : Int) < (n : Int) := by omega
        have u3 : (j : Int) < (m : Int) := by omega
        have hlen : (upd zs o j fun j => ith zs j + z * ith ys (j - o)).length = zs.length := by rw [upd_length]
        have hgl2 : g < wr.heap.size := Nat.lt_of_lt_of_le hgl hgr0.size
        obtain ⟨s1, A1, n1, d1, x1, x2, zc, kz1⟩ := hb.cells (j := o + j) (by omega)
        rw [upd_at (by omega)] at zc
        obtain ⟨sx, Ax, n2, cx, zx1, zx2, zc2, kz2⟩ := HB0.out.cells (j := o + j) (by omega)
        have kn1 : n1 ≤ k := by have := zc.words.trans zc2.words.symm; omega
        clear zc2 kz2 kz1 zx1 zx2
        rw [Nat.add_mul] at x1 x2
        obtain ⟨x, hx⟩ : ∃ x, ith zs (o + j) = x := ⟨_, rfl⟩
        have HX := Lib.hid hx
        rw [hx] at zc
        have hgr := Lib.hid hgr0
        have HO := Lib.hid hb
        clear hb ze hx hy hgr0
        have lw_z : wr.heap.size ≤ wr.heap.size := Nat.le_refl _
        have O_z := H_z
        obtain ⟨w22, hw22⟩ : ∃ xw, xw = wr.alloc (.cells #[.bool s, .slice A' m' d'] 27) := ⟨_, rfl⟩
        have z22 : Below wr.heap.size wr w22 := by rw [hw22]; exact zba _ _
        have HXB := z22
        have HW22 : Hid (wr.alloc (.cells #[.bool s, .slice A' m' d'] 27) = w22) := Lib.hid hw22.symm
        have nn_z_x : ¬ (w.heap.size = wr.heap.size) := by have := H_z.out.2.2.2.2; omega
        have nm_z_x : ¬ (wr.heap.size = w.heap.size) := by omega
        have lw_x : wr.heap.size ≤ wr.heap.size := Nat.le_refl _
        replace H_z := Lib.hid (H_z.out.below z22)
        replace hv := hv.below z22
        replace hz := hz.below z22
        replace zc := zc.below z22
        replace hW := hW.trans (z22.mono hW.size)
        have H_x : Hid (Ib w22 wr.heap.size s A' m' d') := Lib.hid (by rw [hw22]; exact Ib.new _ _ _ _ _ _)
        clear z22 hw22
        have y1 := (HXB.cell (p := ⟨g, o * 2 + j * 2, none⟩) hgl2).trans x1
        have y2 := (HXB.cell (p := ⟨g, o * 2 + j * 2 + 1, none⟩) hgl2).trans x2
        have hgl3 : g < w22.heap.size := Nat.lt_of_lt_of_le hgl2 HXB.size
        clear x1 x2
        obtain ⟨z1, z2, z3, z4, z5⟩ := O_z.out
        go_wp2_with fail
        rw [HW22.out]
        clear z1 z2 z3 z4 z5 O_z
        refine region8 [] 11 [IsK (.slice (some ⟨g, o * 2, none⟩) m cap), IsK (.int .i64 (j : Int)), IsK (.slice (some ⟨g, o * 2, none⟩) m cap), IsK (.int .i64 (j : Int)), IsK (.pointer (some ⟨g, o * 2 + j * 2, none⟩)), IsK (.agg #[.bool s1, .slice A1 n1 d1]), IsK (.agg #[.bool s0, .slice A0 n0 c0]), IsK (.agg #[.bool s, .slice A' m' d']), IsC (z * y) (n0 + k'), IsC (x + z * y) K, IsK (.pointer (some ⟨g, o * 2 + j * 2, none⟩))] (fun _ _ d _ _ h => by cases d <;> exact h) (by kernel_rfl) (by kernel_rfl) (by kernel_rfl) ⟨stay_k _, stay_k _, stay_k _, stay_k _, stay_k _, stay_k _, stay_k _, stay_k _, stay_c _ _, stay_c _ _, stay_k _, trivial⟩ ?_ ?_
        · refine HopAll.cons rfl ?_ (HopAll.cons rfl ?_ (HopAll.cons rfl ?_ (HopAll.cons rfl ?_ (HopAll.cons rfl ?_ (HopAll.cons rfl ?_ (HopAll.cons rfl ?_ (HopAll.cons rfl ?_ (HopAll.cons rfl ?_ (HopAll.cons rfl ?_ (HopAll.cons rfl ?_ HopAll.nil))))))))))
          · intro a w1 hB ho hp Kq hKq
            have e0 : a.eval (.tmp 0) = (.slice (some ⟨g, o * 2, none⟩) m cap) := ho 0 (by kernel_rfl)
            refine hop_val (wanted_none rfl) ?_ (hKq (.slice (some ⟨g, o * 2, none⟩) m cap) _ rfl (Below.refl _ _))
            unfold execOp; simp only [eval_const, e0]; simp [go_sem]
          · intro a w1 hB ho hp Kq hKq
            have e6 : a.eval (.tmp 6) = (.int .i64 (j : Int)) := ho 6 (by kernel_rfl)
            refine hop_val (wanted_none rfl) ?_ (hKq (.int .i64 (j : Int)) _ rfl (Below.refl _ _))
            unfold execOp; simp only [eval_const, e6]; simp [go_sem]
          · intro a w1 hB ho hp Kq hKq
            have e0 : a.eval (.tmp 0) = (.slice (some ⟨g, o * 2, none⟩) m cap) := ho 0 (by kernel_rfl)
            refine hop_val (wanted_none rfl) ?_ (hKq (.slice (some ⟨g, o * 2, none⟩) m cap) _ rfl (Below.refl _ _))
            unfold execOp; simp only [eval_const, e0]; simp [go_sem]
          · intro a w1 hB ho hp Kq hKq
            have e6 : a.eval (.tmp 6) = (.int .i64 (j : Int)) := ho 6 (by kernel_rfl)
            refine hop_val (wanted_none rfl) ?_ (hKq (.int .i64 (j : Int)) _ rfl (Below.refl _ _))
            unfold execOp; simp only [eval_const, e6]; simp [go_sem]
          · intro a w1 hB ho hp Kq hKq
            have e20 : a.eval (.tmp 20) = (.slice (some ⟨g, o * 2, none⟩) m cap) := hp 2 20 (by kernel_rfl)
            have e21 : a.eval (.tmp 21) = (.int .i64 (j : Int)) := hp 3 21 (by kernel_rfl)
            refine hop_val (wanted_none rfl) ?_ (hKq (.pointer (some ⟨g, o * 2 + j * 2, none⟩)) _ rfl (Below.refl _ _))
            unfold execOp; simp only [eval_const, Option.map_some, Option.map_none, e20, e21]; simp [run_ixP0 (show j < m by omega)]
          · intro a w1 hB ho hp Kq hKq
            have e22 : a.eval (.tmp 22) = (.pointer (some ⟨g, o * 2 + j * 2, none⟩)) := hp 4 22 (by kernel_rfl)
            exact hop_load (wanted_none rfl) rfl e22 (run_ldz ((hB.cell (p := ⟨g, o * 2 + j * 2, none⟩) hgl3).trans y1) ((hB.cell (p := ⟨g, o * 2 + j * 2 + 1, none⟩) hgl3).trans y2)) (hKq _ _ rfl (Below.refl _ _))
          · intro a w1 hB ho hp Kq hKq
            have e5 : a.eval (.tmp 5) = (.pointer (some ⟨w.heap.size, 0, none⟩)) := ho 5 (by kernel_rfl)
            obtain ⟨u1, u2, u3, u4, u5⟩ := H_z.out.below hB
            exact hop_load (wanted_none rfl) rfl e5 (run_ldz u1 u2) (hKq _ _ rfl (Below.refl _ _))
          · intro a w1 hB ho hp Kq hKq
            have e7 : a.eval (.tmp 7) = (.pointer (some ⟨wr.heap.size, 0, none⟩)) := ho 7 (by kernel_rfl)
            obtain ⟨u1, u2, u3, u4, u5⟩ := H_x.out.below hB
            exact hop_load (wanted_none rfl) rfl e7 (run_ldz u1 u2) (hKq _ _ rfl (Below.refl _ _))
          · intro a w1 hB ho hp Kq hKq
            have e24 : a.eval (.tmp 24) = (.agg #[.bool s0, .slice A0 n0 c0]) := hp 6 24 (by kernel_rfl)
            have e25 : a.eval (.tmp 25) = (.agg #[.bool s, .slice A' m' d']) := hp 7 25 (by kernel_rfl)
            refine hop_call (wanted_none rfl) rfl (args := #[(.agg #[.bool s0, .slice A0 n0 c0]), (.agg #[.bool s, .slice A' m' d'])]) (by simp only [List.map_toArray, List.map_cons, List.map_nil, eval_const, e24, e25]) (ent7 (by kernel_rfl) _ _) (zmul_v (hz.below hB) (hv.below hB) (by omega) (by omega)) ?_
            rintro e w2 ⟨sq, Aq, nq, cq, rfl, pq, kq, Bq⟩
            exact ⟨_, rfl, hKq _ _ ⟨sq, Aq, nq, cq, rfl, pq, by omega⟩ Bq⟩
          · intro a w1 hB ho hp Kq hKq
            have e23 : a.eval (.tmp 23) = (.agg #[.bool s1, .slice A1 n1 d1]) := hp 5 23 (by kernel_rfl)
            obtain ⟨s_26, A_26, n_26, c_26, e26, ⟨p26, k26⟩⟩ : IsC (z * y) (n0 + k') (a.eval (.tmp 26)) w1 := hp 8 26 (by kernel_rfl)
            refine hop_call (wanted_none rfl) rfl (args := #[(.agg #[.bool s1, .slice A1 n1 d1]), (.agg #[.bool s_26, .slice A_26 n_26 c_26])]) (by simp only [List.map_toArray, List.map_cons, List.map_nil, eval_const, e23, e26]) (ent7 (by kernel_rfl) _ _) (zadd_v (zc.below hB).zv p26.zv (by omega) (by omega)) ?_
            rintro e w2 ⟨sq, Aq, nq, cq, rfl, pq, kq, Bq⟩
            exact ⟨_, rfl, hKq _ _ ⟨sq, Aq, nq, cq, rfl, pq, by omega⟩ Bq⟩
          · intro a w1 hB ho hp Kq hKq
            have e18 : a.eval (.tmp 18) = (.slice (some ⟨g, o * 2, none⟩) m cap) := hp 0 18 (by kernel_rfl)
            have e19 : a.eval (.tmp 19) = (.int .i64 (j : Int)) := hp 1 19 (by kernel_rfl)
            refine hop_val (wanted_none rfl) ?_ (hKq (.pointer (some ⟨g, o * 2 + j * 2, none⟩)) _ rfl (Below.refl _ _))
            unfold execOp; simp only [eval_const, Option.map_some, Option.map_none, e18, e19]; simp [run_ixP0 (show j < m by omega)]
        intro w23 B23
        refine EndAll.one rfl fun vv hv => ?_
        obtain rfl : vv = (.slice (some ⟨g, o * 2, none⟩) m cap) := hv
        refine EndAll.one rfl fun vv hv => ?_
        obtain rfl : vv = (.int .i64 (j : Int)) := hv
        refine EndAll.one rfl fun vv hv => ?_
        obtain rfl : vv = (.slice (some ⟨g, o * 2, none⟩) m cap) := hv
        refine EndAll.one rfl fun vv hv => ?_
        obtain rfl : vv = (.int .i64 (j : Int)) := hv
        refine EndAll.one rfl fun vv hv => ?_
        obtain rfl : vv = (.pointer (some ⟨g, o * 2 + j * 2, none⟩)) := hv
        refine EndAll.one rfl fun vv hv => ?_
        obtain rfl : vv = (.agg #[.bool s1, .slice A1 n1 d1]) := hv
        refine EndAll.one rfl fun vv hv => ?_
        obtain rfl : vv = (.agg #[.bool s0, .slice A0 n0 c0]) := hv
        refine EndAll.one rfl fun vv hv => ?_
        obtain rfl : vv = (.agg #[.bool s, .slice A' m' d']) := hv
        refine EndAll.one rfl fun vv hv => ?_
        obtain ⟨s24, A24, n24, c24, rfl, ⟨p24, k24⟩⟩ : IsC (z * y) (n0 + k') vv w23 := hv
        refine EndAll.one rfl fun vv hv => ?_
        obtain ⟨s25, A25, n25, c25, rfl, ⟨p25, k25⟩⟩ : IsC (x + z * y) K vv w23 := hv
        refine EndAll.one rfl fun vv hv => ?_
        obtain rfl : vv = (.pointer (some ⟨g, o * 2 + j * 2, none⟩)) := hv
        refine EndAll.nil (l := [_]) rfl ?_
        simp only [Act.put, List.setIfInBounds_toArray, List.set_cons_zero, List.set_cons_succ]
        replace H_z := Lib.hid (H_z.out.below B23)
        replace H_x := Lib.hid (H_x.out.below B23)
        replace hv := hv.below B23
        replace hz := hz.below B23
        replace zc := zc.below B23
        replace hW := hW.trans (B23.mono hW.size)
        have pz := p25
        clear p24 p25
        rw [← HX.out, ← HY.out] at pz
        have hb := HO.out.below hW
        have hgr2 := gro_trans hgr.out (gro_of hW (some g))
        have H_z2 := H_z
        clear hv hz zc HO hgr hW H_x H_z y1 y2 c1 c2
        obtain ⟨t1, t2, t3, t4, x1, x2, -, -⟩ := hb.cells (j := o + j) (by omega)
        have y1 := hb.free ((o + j) * 2)
        have y2 := hb.free ((o + j) * 2 + 1)
        have hs := hb.put (j := o + j) (by omega) pz k25
        have hgr := zputo_gro w23 g ((o + j) * 2) s25 A25 n25 c25
        have HG := Lib.hid (gro_trans hgr2 hgr)
        have hbx0 := Lib.hid (H_z2.out.gro hgr (by omega))
        have hu := upd_set (xs := zs) (o := o) (i := j) (f := fun j => ith zs j + z * ith ys (j - o)) (by omega)
        first | rw [show o + j - o = j by omega] at hu | skip
        rw [hu] at hs
        have HS := Lib.hid hs
        unfold zputo at HS HG hbx0
        rw [Nat.add_mul] at x1 x2 y1 y2 HS HG hbx0
        clear hs hu hgr hb hgr2
        go_wp2_with fail
        go_roundw
        case rel => exact ⟨j + 1, by go_num, by omega, Lib.hid ⟨hbx0.out, HG.out, HS.out⟩⟩
        case measure => first | (simp [intOf]; done) | (simp [intOf]; omega)
      · obtain rfl : j = n := by omega
        have P : Hid (ZgPost (gat zs o ys z) g K w (.returned (.tuple #[])) wr) := Lib.hid ⟨rfl, by unfold gat; rw [HN.out]; exact hb, hgr0⟩
        clear hb hgr0 H_z
        go_wp2_with fail
        exact bodyPost_ret (v := .tuple #[]) (by simp [results, Tryz.results53, go_sem]) rfl P.out
set_option maxRecDepth 100000 in
set_option maxHeartbeats 1000000 in
theorem zmultiply_v {g o m cap k K n0 c0 : Nat} {zs : List Int} {s0 : Bool} {A0 : Option Addr} {z : Int} {w : World} (hb : ZB w g k zs) (hz : Zv w s0 A0 n0 c0 z) (ho : o + m ≤ zs.length) (hK : n0 + k ≤ K) (hKb : K ≤ 549755813888) (hmb : m ≤ 8796093022208) :
    Calls Tryz.prog 57 #[.slice (some ⟨g, o * 2, none⟩) m cap, .agg #[.bool s0, .slice A0 n0 c0]] w (ZgPost (upd zs o m fun j => z * ith zs j) g K w) := by
  have HZ0 := Lib.hid hz
  have HB0 := Lib.hid hb
  have hgl := hb.lt
  clear hz hb
  have hW := Below.refl w.heap.size w
  obtain ⟨wp0, hwp0⟩ : ∃ xw, xw = w.alloc (.cells #[.bool s0, .slice A0 n0 c0] 27) := ⟨_, rfl⟩
  have zp0 : Below w.heap.size w wp0 := by rw [hwp0]; exact zba _ _
  have sp0 : wp0.heap.size = w.heap.size + 1 := by rw [hwp0, World.size_alloc]
  have Iz : Ib wp0 w.heap.size s0 A0 n0 c0 := by rw [hwp0]; exact Ib.new _ _ _ _ _ _
  replace hW := hW.trans (zp0.mono hW.size)
  have H_z := Lib.hid Iz
  clear Iz zp0
  have HW : Hid ((w.alloc (.cells #[.bool s0, .slice A0 n0 c0] 27)) = wp0) := Lib.hid (by rw [hwp0])
  have lw_z : w.heap.size ≤ w.heap.size := by omega
  clear hwp0 sp0
  go_enter Tryz.func57, Tryz.ntmps57
  obtain ⟨z1, z2, z3, z4, z5⟩ := H_z.out
  go_upto_region 1 with fail
  rw [HW.out]
  clear z1 z2 z3 z4 z5
  have hgg : ¬ (w.heap.size = g) := by omega
  have HB : Hid (Ib wp0 w.heap.size s0 A0 n0 c0 ∧ w.grownBy wp0 (some g) ∧ ZB wp0 g K (upd zs o 0 (fun j => z * ith zs j))) := Lib.hid ⟨H_z.out, gro_of hW _, by rw [upd_zero]; exact (HB0.out.below hW).mono (by omega)⟩
  clear hW H_z lw_z
  go_wp2_with fail
  go_loopw [8] (fun s8 wr => ∃ j : Nat, s8 = .int .i64 (j : Int) ∧ j ≤ m ∧ Hid (Ib wr w.heap.size s0 A0 n0 c0 ∧ w.grownBy wr (some g) ∧ ZB wr g K (upd zs o j (fun j => z * ith zs j)))) (fun s8 _ => m - (intOf s8).toNat)
  case atStart => exact ⟨0, rfl, Nat.zero_le _, HB⟩
  case round =>
    clear HB
    obtain ⟨j, rfl, hj, HB⟩ := hrel
    obtain ⟨I1, hgr0, hb⟩ := HB.out
    have H_z := Lib.hid I1
    clear HB I1
    by_cases hlt : j < m
    · obtain ⟨s1, A1, n1, d1, x1, x2, zc, kz1⟩ := hb.cells (j := o + j) (by rw [upd_length]; omega)
      rw [upd_at (by omega)] at zc
      obtain ⟨sx, Ax, n2, cx, zx1, zx2, zc2, kz2⟩ := HB0.out.cells (j := o + j) (by omega)
      have kn1 : n1 ≤ k := by have := zc.words.trans zc2.words.symm; omega
      clear zc2 kz2 kz1 zx1 zx2
      rw [Nat.add_mul] at x1 x2
      obtain ⟨x, hx⟩ : ∃ x, ith zs (o + j) = x := ⟨_, rfl⟩
      have HX := Lib.hid hx
      rw [hx] at zc
      have hz := HZ0.out.gro HB0.out.now hgr0
      have hW := Below.refl wr.heap.size wr
      have u1 : (0 : Int) ≤ (j : Int) := by omega
      have u2 : (j : Int) < (m : Int) := by omega
      have hlen : (upd zs o j (fun j => z * ith zs j)).length = zs.length := by rw [upd_length]
      have hgl2 : g < wr.heap.size := Nat.lt_of_lt_of_le hgl hgr0.size
      have hgr := Lib.hid hgr0
      have HO := Lib.hid hb
      clear hb hx hgr0
      have lw_z : wr.heap.size ≤ wr.heap.size := Nat.le_refl _
      have O_z := H_z
      obtain ⟨w21, hw21⟩ : ∃ xw, xw = wr.alloc (.cells #[.bool s1, .slice A1 n1 d1] 27) := ⟨_, rfl⟩
      have z21 : Below wr.heap.size wr w21 := by rw [hw21]; exact zba _ _
      have HXB := z21
      have HW21 : Hid (wr.alloc (.cells #[.bool s1, .slice A1 n1 d1] 27) = w21) := Lib.hid hw21.symm
      have nn_z_x : ¬ (w.heap.size = wr.heap.size) := by have := H_z.out.2.2.2.2; omega
      have nm_z_x : ¬ (wr.heap.size = w.heap.size) := by omega
      have lw_x : wr.heap.size ≤ wr.heap.size := Nat.le_refl _
      replace H_z := Lib.hid (H_z.out.below z21)
      replace hz := hz.below z21
      replace zc := zc.below z21
      replace hW := hW.trans (z21.mono hW.size)
      have H_x : Hid (Ib w21 wr.heap.size s1 A1 n1 d1) := Lib.hid (by rw [hw21]; exact Ib.new _ _ _ _ _ _)
      clear z21 hw21
      obtain ⟨z1, z2, z3, z4, z5⟩ := O_z.out
      go_wp2_with fail
      rw [HW21.out]
      clear z1 z2 z3 z4 z5 O_z
      refine (zmul_v hz zc.zv (by omega) (by omega)).mono ?_
      rintro e w9 ⟨s9, A9, n9, c9, rfl, pz, kz, B9⟩
      replace hW := hW.trans (B9.mono hW.size)
      rw [← HX.out] at pz
      have hb := HO.out.below hW
      have hgr2 := gro_trans hgr.out (gro_of hW (some g))
      have H_z2 := Lib.hid (H_z.out.below B9)
      replace kz : n9 ≤ K := by omega
      clear B9 hz zc HO hgr hW H_x H_z x1 x2
      obtain ⟨t1, t2, t3, t4, x1, x2, -, -⟩ := hb.cells (j := o + j) (by omega)
      have y1 := hb.free ((o + j) * 2)
      have y2 := hb.free ((o + j) * 2 + 1)
      have hs := hb.put (j := o + j) (by omega) pz kz
      have hgr := zputo_gro w9 g ((o + j) * 2) s9 A9 n9 c9
      have HG := Lib.hid (gro_trans hgr2 hgr)
      have hbx0 := Lib.hid (H_z2.out.gro hgr (by omega))
      have hu := upd_set (xs := zs) (o := o) (i := j) (f := fun j => z * ith zs j) (by omega)
      first | rw [show o + j - o = j by omega] at hu | skip
      rw [hu] at hs
      have HS := Lib.hid hs
      unfold zputo at HS HG hbx0
      rw [Nat.add_mul] at x1 x2 y1 y2 HS HG hbx0
      clear hs hu hgr hb hgr2
      go_wp2_with fail
      go_roundw
      case rel => exact ⟨j + 1, by go_num, by omega, Lib.hid ⟨hbx0.out, HG.out, HS.out⟩⟩
      case measure => first | (simp [intOf]; done) | (simp [intOf]; omega)
    · obtain rfl : j = m := by omega
      have P : Hid (ZgPost (upd zs o j (fun j => z * ith zs j)) g K w (.returned (.tuple #[])) wr) := Lib.hid ⟨rfl, hb, hgr0⟩
      clear hb hgr0 H_z
      go_wp2_with fail
      exact bodyPost_ret (v := .tuple #[]) (by simp [results, Tryz.results57, go_sem]) rfl P.out
set_option maxRecDepth 100000 in
set_option maxHeartbeats 1000000 in
theorem zraise_v {g o m cap k K n0 c0 : Nat} {zs : List Int} {s0 : Bool} {A0 : Option Addr} {z : Int} {w : World} (hb : ZB w g k zs) (hz : Zv w s0 A0 n0 c0 z) (hm : m = zs.length) (hK : k + 1 + m * n0 ≤ K) (hKb : K ≤ 549755813888) (hmb : m ≤ 8796093022208) :
    Calls Tryz.prog 59 #[.slice (some ⟨g, 0, none⟩) m cap, .agg #[.bool s0, .slice A0 n0 c0]] w (ZgPost (upd zs 0 m fun j => ith zs j * z ^ j) g K w) := by
  have HZ0 := Lib.hid hz
  have HB0 := Lib.hid hb
  have hgl := hb.lt
  clear hz hb
  have ho : 0 + m ≤ zs.length := by omega
  clear o
  have hW := Below.refl w.heap.size w
  obtain ⟨wp0, hwp0⟩ : ∃ xw, xw = w.alloc (.cells #[.bool s0, .slice A0 n0 c0] 27) := ⟨_, rfl⟩
  have zp0 : Below w.heap.size w wp0 := by rw [hwp0]; exact zba _ _
  have sp0 : wp0.heap.size = w.heap.size + 1 := by rw [hwp0, World.size_alloc]
  have Iz : Ib wp0 w.heap.size s0 A0 n0 c0 := by rw [hwp0]; exact Ib.new _ _ _ _ _ _
  replace hW := hW.trans (zp0.mono hW.size)
  have H_z := Lib.hid Iz
  clear Iz zp0
  have HW : Hid ((w.alloc (.cells #[.bool s0, .slice A0 n0 c0] 27)) = wp0) := Lib.hid (by rw [hwp0])
  have lw_z : w.heap.size ≤ w.heap.size := by omega
  clear hwp0 sp0
  go_enter Tryz.func59, Tryz.ntmps59
  obtain ⟨z1, z2, z3, z4, z5⟩ := H_z.out
  go_upto_region 1 with fail
  rw [HW.out]
  clear z1 z2 z3 z4 z5
  have hgg : ¬ (w.heap.size = g) := by omega
  obtain ⟨z1, z2, z3, z4, z5⟩ := H_z.out
  go_wp2_with fail
  clear z1 z2 z3 z4 z5
  refine (zof_v 1 (by omega) (by omega) _).mono ?_
  rintro e w21 ⟨s21, A21, n21, c21, rfl, hp, k21, B21⟩
  replace H_z := Lib.hid (H_z.out.below B21)
  replace hW := hW.trans (B21.mono hW.size)
  clear B21
  have O_z := H_z
  obtain ⟨w22, hw22⟩ : ∃ xw, xw = w21.alloc (.cells #[.bool s21, .slice A21 n21 c21] 27) := ⟨_, rfl⟩
  have z22 : Below w21.heap.size w21 w22 := by rw [hw22]; exact zba _ _
  have HW22 : Hid (w21.alloc (.cells #[.bool s21, .slice A21 n21 c21] 27) = w22) := Lib.hid hw22.symm
  have nn_z_p : ¬ (w.heap.size = w21.heap.size) := by have := H_z.out.2.2.2.2; omega
  have nm_z_p : ¬ (w21.heap.size = w.heap.size) := by omega
  have lw_p : w.heap.size ≤ w21.heap.size := by have := hW.size; omega
  replace H_z := Lib.hid (H_z.out.below z22)
  replace hp := hp.below z22
  replace hW := hW.trans (z22.mono hW.size)
  have H_p : Hid (Ib w22 w21.heap.size s21 A21 n21 c21) := Lib.hid (by rw [hw22]; exact Ib.new _ _ _ _ _ _)
  clear z22 hw22
  obtain ⟨z1, z2, z3, z4, z5⟩ := O_z.out
  go_upto_region 2 with fail
  rw [HW22.out]
  clear z1 z2 z3 z4 z5 O_z
  obtain ⟨gP, hgP⟩ : ∃ q, w21.heap.size = q := ⟨_, rfl⟩
  rw [hgP] at H_p nn_z_p nm_z_p lw_p
  have hgp : ¬ (gP = g) := by have := hW.size; omega
  rw [hgP]
  have HB : Hid (Ib w22 w.heap.size s0 A0 n0 c0 ∧ (∃ sp Ap np cp, Ib w22 gP sp Ap np cp ∧ Zc w22 sp Ap np cp (z ^ 0) ∧ np ≤ 1 + 0 * n0) ∧ w.grownBy w22 (some g) ∧ ZB w22 g K (upd zs 0 0 (fun j => ith zs j * z ^ j))) := Lib.hid ⟨H_z.out, ⟨_, _, _, _, H_p.out, by rw [Int.pow_zero]; exact hp, by omega⟩, gro_of hW _, by rw [upd_zero]; exact (HB0.out.below hW).mono (by omega)⟩
  clear hW H_z lw_z H_p hp
  go_wp2_with fail
  go_loopw [10] (fun s10 wr => ∃ j : Nat, s10 = .int .i64 (j : Int) ∧ j ≤ m ∧ Hid (Ib wr w.heap.size s0 A0 n0 c0 ∧ (∃ sp Ap np cp, Ib wr gP sp Ap np cp ∧ Zc wr sp Ap np cp (z ^ j) ∧ np ≤ 1 + j * n0) ∧ w.grownBy wr (some g) ∧ ZB wr g K (upd zs 0 j (fun j => ith zs j * z ^ j)))) (fun s10 _ => m - (intOf s10).toNat)
  case atStart => exact ⟨0, rfl, Nat.zero_le _, HB⟩
  case round =>
    clear HB
    obtain ⟨j, rfl, hj, HB⟩ := hrel
    obtain ⟨I1, ⟨sp, Ap, np, cp, I2, hp, knp⟩, hgr0, hb⟩ := HB.out
    have H_z := Lib.hid I1
    clear HB I1
    by_cases hlt : j < m
    · have H_p := Lib.hid I2
      clear I2
      obtain ⟨s1, A1, n1, d1, x1, x2, zc, kz1⟩ := hb.cells (j := 0 + j) (by rw [upd_length]; omega)
      have hjn := Nat.mul_le_mul_right n0 hj
      have hjm := Nat.mul_le_mul_right n0 (show 1 ≤ m by omega)
      rw [Nat.one_mul] at hjm
      rw [upd_at (by omega)] at zc
      obtain ⟨sx, Ax, n2, cx, zx1, zx2, zc2, kz2⟩ := HB0.out.cells (j := 0 + j) (by omega)
      have kn1 : n1 ≤ k := by have := zc.words.trans zc2.words.symm; omega
      clear zc2 kz2 kz1 zx1 zx2
      rw [Nat.zero_add] at x1 x2 zc
      obtain ⟨x, hx⟩ : ∃ x, ith zs (j) = x := ⟨_, rfl⟩
      have HX := Lib.hid hx
      rw [hx] at zc
      have hz := HZ0.out.gro HB0.out.now hgr0
      have hW := Below.refl wr.heap.size wr
      have u1 : (0 : Int) ≤ (j : Int) := by omega
      have u2 : (j : Int) < (m : Int) := by omega
      have hlen : (upd zs 0 j (fun j => ith zs j * z ^ j)).length = zs.length := by rw [upd_length]
      have hgl2 : g < wr.heap.size := Nat.lt_of_lt_of_le hgl hgr0.size
      have hgr := Lib.hid hgr0
      have HO := Lib.hid hb
      clear hb hx hgr0
      have lw_z : wr.heap.size ≤ wr.heap.size := Nat.le_refl _
      have O_z := H_z
      have O_p := H_p
      obtain ⟨w23, hw23⟩ : ∃ xw, xw = wr.alloc (.cells #[.bool s1, .slice A1 n1 d1] 27) := ⟨_, rfl⟩
      have z23 : Below wr.heap.size wr w23 := by rw [hw23]; exact zba _ _
      have HXB := z23
      have HW23 : Hid (wr.alloc (.cells #[.bool s1, .slice A1 n1 d1] 27) = w23) := Lib.hid hw23.symm
      have nn_z_x : ¬ (w.heap.size = wr.heap.size) := by have := H_z.out.2.2.2.2; omega
      have nm_z_x : ¬ (wr.heap.size = w.heap.size) := by omega
      have nn_p_x : ¬ (gP = wr.heap.size) := by have := H_p.out.2.2.2.2; omega
      have nm_p_x : ¬ (wr.heap.size = gP) := by omega
      have lw_x : wr.heap.size ≤ wr.heap.size := Nat.le_refl _
      replace H_z := Lib.hid (H_z.out.below z23)
      replace H_p := Lib.hid (H_p.out.below z23)
      replace hz := hz.below z23
      replace zc := zc.below z23
      replace hp := hp.below z23
      replace hW := hW.trans (z23.mono hW.size)
      have H_x : Hid (Ib w23 wr.heap.size s1 A1 n1 d1) := Lib.hid (by rw [hw23]; exact Ib.new _ _ _ _ _ _)
      clear z23 hw23
      obtain ⟨z1, z2, z3, z4, z5⟩ := O_z.out
      obtain ⟨p1, p2, p3, p4, p5⟩ := O_p.out
      go_wp2_with fail
      rw [HW23.out]
      clear z1 z2 z3 z4 z5 p1 p2 p3 p4 p5 O_z O_p
      refine (zmul_v zc.zv hp.zv (by omega) (by omega)).mono ?_
      rintro e w9 ⟨s9, A9, n9, c9, rfl, pz, kz, B9⟩
      replace hW := hW.trans (B9.mono hW.size)
      rw [← HX.out] at pz
      have hb := HO.out.below hW
      have hgr2 := gro_trans hgr.out (gro_of hW (some g))
      have H_z2 := Lib.hid (H_z.out.below B9)
      replace kz : n9 ≤ K := by omega
      have H_p2 := Lib.hid (H_p.out.below B9)
      replace hp := hp.below B9
      replace hz := hz.below B9
      clear B9 zc HO hgr H_x H_z H_p x1 x2
      obtain ⟨t1, t2, t3, t4, x1, x2, -, -⟩ := hb.cells (j := j) (by omega)
      have y1 := hb.free (j * 2)
      have y2 := hb.free (j * 2 + 1)
      have hs := hb.put (j := j) (by omega) pz kz
      have hno := hb.now
      have hgr := zputo_gro w9 g (j * 2) s9 A9 n9 c9
      have hu := upd_set (xs := zs) (o := 0) (i := j) (f := fun j => ith zs j * z ^ j) (by omega)
      rw [Nat.zero_add] at hu
      rw [hu] at hs
      have hW3 : Below wr.heap.size wr w9 := hW
      obtain ⟨w5, hw5⟩ : ∃ xw, xw = zputo w9 g (j * 2) s9 A9 n9 c9 := ⟨_, rfl⟩
      rw [← hw5] at hs hgr
      have HW5 : Hid ((w9.setCell ⟨g, j * 2, none⟩ (.bool s9)).setCell ⟨g, j * 2 + 1, none⟩ (.slice A9 n9 c9) = w5) := Lib.hid hw5.symm
      have HS := Lib.hid hs
      have HG := Lib.hid (gro_trans hgr2 hgr)
      replace H_z2 := Lib.hid (H_z2.out.gro hgr (by omega))
      replace H_p2 := Lib.hid (H_p2.out.gro hgr (by omega))
      replace hp := hp.gro hno hgr
      replace hz := hz.gro hno hgr
      have pzz := pz.gro hno hgr
      clear hs hu hb hw5 hgr2 hW3 hno
      go_upto_region 6 with fail
      rw [HW5.out]
      clear x1 x2 y1 y2
      obtain ⟨z1, z2, z3, z4, z5⟩ := H_z2.out
      obtain ⟨q1, q2, q3, q4, q5⟩ := H_p2.out
      go_wp2_with fail
      refine (zmul_v hp.zv hz (by omega) (by omega)).mono ?_
      rintro e w6 ⟨s6, A6, n6, c6, rfl, pp, kp, B6⟩
      clear z1 z2 z3 z4 z5 q1 q2 q3 q4 q5
      replace H_z2 := Lib.hid (H_z2.out.below B6)
      replace H_p2 := Lib.hid (H_p2.out.below B6)
      have P := Lib.hid (pp.put (s' := s6) (A' := A6) (n' := n6) (c' := c6) H_p2.out)
      rw [← Int.pow_succ] at P
      have I := Lib.hid (H_p2.out.own (t := s6) (B := A6) (m := n6) (d := c6))
      have J : Hid (Ib (zput w6 gP s6 A6 n6 c6) w.heap.size s0 A0 n0 c0) := Lib.hid (Ib.put (C := none) (l := 0) (e := 0) (u := false) H_z2.out nn_z_p)
      have HS2 := Lib.hid (HS.out.below B6)
      have HS3 := Lib.hid (HS2.out.zput hgp H_p2.out (s := s6) (A := A6) (n := n6) (c := c6))
      have HG2 := Lib.hid (gro_trans HG.out (gro_of B6 (some g)))
      have hsz : w.heap.size ≤ w6.heap.size := HG2.out.size
      have HG3 := Lib.hid (gro_zput HG2.out (gP := gP) (s := s6) (A := A6) (n := n6) (c := c6) lw_p)
      unfold zput at P I J HS3 HG3
      obtain ⟨q1, q2, q3, q4, q5⟩ := H_p2.out
      clear hp hz pzz H_z2 H_p2 HG HG2 HS HS2 HW5 B6 hgr pz pp
      go_wp2_with fail
      go_roundw
      case rel => exact ⟨j + 1, by go_num, by omega, Lib.hid ⟨J.out, ⟨_, _, _, _, I.out, P.out, by rw [Nat.succ_mul]; omega⟩, HG3.out, HS3.out⟩⟩
      case measure => first | (simp [intOf]; done) | (simp [intOf]; omega)
    · obtain rfl : j = m := by omega
      have P : Hid (ZgPost (upd zs 0 j (fun j => ith zs j * z ^ j)) g K w (.returned (.tuple #[])) wr) := Lib.hid ⟨rfl, hb, hgr0⟩
      clear hb hgr0 H_z
      go_wp2_with fail
      exact bodyPost_ret (v := .tuple #[]) (by simp [results, Tryz.results59, go_sem]) rfl P.out
end Go.Proofs.YtddbhhedjipjkaaGreatDoor
