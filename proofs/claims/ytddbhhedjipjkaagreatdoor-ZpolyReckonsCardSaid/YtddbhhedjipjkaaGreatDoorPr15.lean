/-
  ZlC
-/
import Derived.Test.YtddbhhedjipjkaaGreatDoorPr14
import Derived.Lib.Hide

namespace Go.Proofs.YtddbhhedjipjkaaGreatDoor
open Go.RowKit
set_option linter.unusedVariables false
set_option linter.unusedSimpArgs false
def IsL (q : Bool) (k : Nat) (zs : List Int) : FVal := fun v w => ∃ A n c, v = .slice A n c ∧ ZL q w A n c k zs
theorem stay_l (q : Bool) (k : Nat) (zs : List Int) : Stays (IsL q k zs) := fun v w w' ⟨A, n, c, e, h⟩ hb => ⟨A, n, c, e, h.below hb⟩
def IsZb (z : Int) (k : Nat) : FVal := fun v w => ∃ s A n c, v = .tuple #[.agg #[.bool s, .slice A n c], .bool true] ∧ Zc w s A n c z ∧ n ≤ k
theorem stay_zb (z : Int) (k : Nat) : Stays (IsZb z k) := fun v w w' ⟨s, A, n, c, e, h, hk⟩ hb => ⟨s, A, n, c, e, h.below hb, hk⟩
def ZlPost (zs : List Int) (k : Nat) (w : World) (e : Ending) (w' : World) : Prop := ∃ A n c, e = .returned (.slice A n c) ∧ ZL true w' A n c k zs ∧ Below w.heap.size w w'
def ZbPost (zs : List Int) (k : Nat) (w : World) (e : Ending) (w' : World) : Prop := ∃ g n, e = .returned (.slice (some ⟨g, 0, none⟩) n n) ∧ n = zs.length ∧ n ≤ 8796093022208 ∧ ZB w' g k zs ∧ w.heap.size ≤ g ∧ Below w.heap.size w w'
def ZvPost (z : Int) (k : Nat) (w : World) (e : Ending) (w' : World) : Prop := ∃ s A n c, e = .returned (.agg #[.bool s, .slice A n c]) ∧ Zv w' s A n c z ∧ n ≤ k ∧ Below w.heap.size w w'
theorem ZbPost.zl {zs : List Int} {k : Nat} {w w' : World} {e : Ending} (h : ZbPost zs k w e w') : ZlPost zs k w e w' := by
  obtain ⟨g, n, rfl, hn, hm, hb, _, hB⟩ := h
  refine ⟨_, n, n, rfl, ?_, hB⟩
  have := hb.zl0 true (n := n) (c := n) (by omega) (Nat.le_refl _) (by omega)
  rwa [List.take_of_length_le (by omega)] at this
theorem ZB.nrz {w : World} {g k n c : Nat} {zs : List Int} (h : ZB w g k zs) (hn : slZ zs = n) (hc : n ≤ c) (hm : c ≤ 9223372036854775807) : ZL true w (some ⟨g, 0, none⟩) n c k (nrz zs) := by
  have := h.zl0 true (n := n) (c := c) (by rw [← hn]; exact slZ_le _) hc hm
  rw [← hn] at this ⊢
  exact this
theorem zp_cells : Tryz.prog.cellsOf 27 = 2 := by kernel_rfl
theorem run_slP {w : World} {A : Option Addr} {n c L : Nat} (hL : L ≤ n) (hn : n ≤ c) : (Instr.sliceAt 23 (.slice A n c) none (some (.int .i64 (L : Int))) none).run Tryz.prog w = .ok (.slice A L c) w := by
  cases A <;> simp [go_sem, Tryz.underlying23, Instr.slice, Instr.sliceBounds, Instr.sliceBound, addr_add0] <;> omega
theorem run_ixP {w : World} {ad : Addr} {n c k : Nat} (h : k < n) : (Instr.indexAt 23 (.slice (some ad) n c) (.int .i64 (k : Int))).run Tryz.prog w = .ok (.pointer (some (ad.add (k * 2)))) w := by
  simp [go_sem, Tryz.underlying23, zp_cells]
  omega
theorem run_ixP0 {w : World} {g o n c k : Nat} (h : k < n) : (Instr.indexAt 23 (.slice (some ⟨g, o, none⟩) n c) (.int .i64 (k : Int))).run Tryz.prog w = .ok (.pointer (some ⟨g, o + k * 2, none⟩)) w := by
  have := run_ixP (w := w) (ad := ⟨g, o, none⟩) (n := n) (c := c) h
  rwa [add_lit] at this
theorem run_ixL {w : World} {ad : Addr} {n c k : Nat} (h : k < n) : (Instr.indexAt 22 (.slice (some ad) n c) (.int .i64 (k : Int))).run Tryz.prog w = .ok (.pointer (some (ad.add (k * 2)))) w := by
  simp [go_sem, Tryz.underlying22, zp_cells]
  omega
theorem run_ldN {w : World} {p : Addr} {A : Option Addr} {n c : Nat} (h : w.cell? p = some (.slice A n c)) : (Instr.loadAt 25 (.pointer (some p))).run Tryz.prog w = .ok (.slice A n c) w := by
  simp [go_sem, addr_add0, h]
theorem run_ldB {w : World} {p : Addr} {s : Bool} (h : w.cell? p = some (.bool s)) : (Instr.loadAt 4 (.pointer (some p))).run Tryz.prog w = .ok (.bool s) w := by
  simp [go_sem, addr_add0, h]
set_option maxRecDepth 100000 in
set_option maxHeartbeats 1000000 in
theorem ztrim_v {q : Bool} {A : Option Addr} {n c k : Nat} {zs : List Int} {w : World} (hx : ZL q w A n c k zs) (hk : k ≤ 1099511627776) {L : Nat} (hL : slZ zs = L) :
    Calls Tryz.prog 52 #[.slice A n c] w fun e w' => e = .returned (.slice A L c) ∧ Below w.heap.size w w' := by
  have hLn : L ≤ n := by have := slZ_le zs; rw [hx.len] at this; omega
  have hnc := hx.le
  have hcm := hx.cap
  have e1 : (slZ zs : Int) - 1 = (L : Int) - 1 := by rw [hL]
  have E1 := Lib.hid e1
  have e2 : (L : Int) - 1 + 1 = (L : Int) := by omega
  have HL := Lib.hid hL
  have hrun : ∀ w1 : World, (Instr.sliceAt 23 (.slice A n c) none (some (.int .i64 (L : Int))) none).run Tryz.prog w1 = .ok (.slice A L c) w1 := fun w1 => run_slP hLn hnc
  clear hL e1
  go_enter Tryz.func52, Tryz.ntmps52
  go_wp2_with fail
  refine (zdeg_v hx hk).mono ?_
  rintro e w1 ⟨rfl, B1⟩
  rw [E1.out]
  go_wp2_with fail
  exact bodyPost_ret (v := .slice A L c) (by simp [results, Tryz.results52, go_sem]) rfl ⟨rfl, B1⟩
set_option maxRecDepth 100000 in
set_option maxHeartbeats 1000000 in
theorem znorm_v {q : Bool} {A : Option Addr} {n c k : Nat} {zs : List Int} {w : World} (hx : ZL q w A n c k zs) (hk : k ≤ 1099511627776) (hn : n ≤ 8796093022208) :
    Calls Tryz.prog 15 #[.slice A n c] w (ZbPost (nrz zs) k w) := by
  obtain ⟨L, hL⟩ : ∃ L, slZ zs = L := ⟨_, rfl⟩
  have hLn : L ≤ n := by have := slZ_le zs; rw [hx.len] at this; omega
  have HX0 := Lib.hid hx
  have e1 : (slZ zs : Int) - 1 = (L : Int) - 1 := by rw [hL]
  have E1 := Lib.hid e1
  have e2 : (L : Int) - 1 + 1 = (L : Int) := by omega
  have HL := Lib.hid hL
  clear hL e1
  go_enter Tryz.func15, Tryz.ntmps15
  go_wp2_with fail
  refine (zdeg_v hx hk).mono ?_
  rintro e w1 ⟨rfl, B1⟩
  rw [E1.out]
  clear hx E1
  go_wp2_with (at_make; refine wpList_make_z _ rfl _ _ 23 rfl Tryz.underlying23 info_zint _ _ _ _ L rfl rfl (by omega) (by omega) (by omega) ?_)
  intro w2 hb hw2 hz2
  obtain ⟨gB, hgB⟩ : ∃ q, w1.heap.size = q := ⟨_, rfl⟩
  have hg : w.heap.size ≤ gB := by have := B1.size; omega
  rw [hgB] at hb
  have HB : Hid (Below w.heap.size w w2 ∧ ZB w2 gB k (upd (List.replicate L 0) 0 0 (ith zs))) := Lib.hid ⟨B1.trans (hw2.mono B1.size), by rw [upd_zero]; exact hb.mono (Nat.zero_le _)⟩
  rw [hgB]
  clear B1 hb hw2 hz2 hgB e2
  go_wp2_with fail
  go_loopw [11] (fun s11 wr => ∃ j : Nat, s11 = .int .i64 (j : Int) ∧ j ≤ L ∧ Hid (Below w.heap.size w wr ∧ ZB wr gB k (upd (List.replicate L 0) 0 j (ith zs)))) (fun s11 _ => L - (intOf s11).toNat)
  case atStart => exact ⟨0, rfl, Nat.zero_le _, HB⟩
  case round =>
    clear HB
    obtain ⟨j, rfl, hj, HB⟩ := hrel
    obtain ⟨hW, hb⟩ := HB.out
    clear HB
    by_cases hlt : j < L
    · obtain ⟨ad, rfl, hab, s, A', m, d, c1, c2, ze, hm⟩ := (HX0.out.below hW).at (j := j) (by omega)
      obtain ⟨x, hx⟩ : ∃ x, ith zs j = x := ⟨_, rfl⟩
      have HX := Lib.hid hx
      rw [hx] at ze
      obtain ⟨v, nv, hv⟩ := ze.1
      clear ze hx
      have hlen : (upd (List.replicate L 0) 0 j (ith zs)).length = L := by rw [upd_length, List.length_replicate]
      have hb0 := hb.lt
      go_wp2_with fail
      refine region8 [] 14 [IsK (.slice (some ⟨gB, 0, none⟩) L L), IsK (.int .i64 (j : Int)), IsK (.slice (some ad) n c), IsK (.int .i64 (j : Int)), IsK (.pointer (some (ad.add (j * 2)))), IsK (.pointer (some ⟨(ad.add (j * 2)).block, (ad.add (j * 2)).off + 1, none⟩)), IsK (.slice A' m d), IsK (.slice (some ad) n c), IsK (.int .i64 (j : Int)), IsK (.pointer (some (ad.add (j * 2)))), IsK (.pointer (some (ad.add (j * 2)))), IsK (.bool s), IsC (sg s v) k, IsK (.pointer (some ⟨gB, 0 + j * 2, none⟩))] (fun _ _ d _ _ h => by cases d <;> exact h) (by kernel_rfl) (by kernel_rfl) (by kernel_rfl) ⟨stay_k _, stay_k _, stay_k _, stay_k _, stay_k _, stay_k _, stay_k _, stay_k _, stay_k _, stay_k _, stay_k _, stay_k _, stay_c _ _, stay_k _, trivial⟩ ?_ ?_
      · refine HopAll.cons rfl ?_ (HopAll.cons rfl ?_ (HopAll.cons rfl ?_ (HopAll.cons rfl ?_ (HopAll.cons rfl ?_ (HopAll.cons rfl ?_ (HopAll.cons rfl ?_ (HopAll.cons rfl ?_ (HopAll.cons rfl ?_ (HopAll.cons rfl ?_ (HopAll.cons rfl ?_ (HopAll.cons rfl ?_ (HopAll.cons rfl ?_ (HopAll.cons rfl ?_ HopAll.nil)))))))))))))
        · intro a w1 hB ho hp K hK
          have e3 : a.eval (.tmp 3) = (.slice (some ⟨gB, 0, none⟩) L L) := ho 3 (by kernel_rfl)
          refine hop_val (wanted_none rfl) ?_ (hK (.slice (some ⟨gB, 0, none⟩) L L) _ rfl (Below.refl _ _))
          unfold execOp; simp only [eval_const, e3]; simp [go_sem]
        · intro a w1 hB ho hp K hK
          have e4 : a.eval (.tmp 4) = (.int .i64 (j : Int)) := ho 4 (by kernel_rfl)
          refine hop_val (wanted_none rfl) ?_ (hK (.int .i64 (j : Int)) _ rfl (Below.refl _ _))
          unfold execOp; simp only [eval_const, e4]; simp [go_sem]
        · intro a w1 hB ho hp K hK
          have e0 : a.eval (.tmp 0) = (.slice (some ad) n c) := ho 0 (by kernel_rfl)
          refine hop_val (wanted_none rfl) ?_ (hK (.slice (some ad) n c) _ rfl (Below.refl _ _))
          unfold execOp; simp only [eval_const, e0]; simp [go_sem]
        · intro a w1 hB ho hp K hK
          have e4 : a.eval (.tmp 4) = (.int .i64 (j : Int)) := ho 4 (by kernel_rfl)
          refine hop_val (wanted_none rfl) ?_ (hK (.int .i64 (j : Int)) _ rfl (Below.refl _ _))
          unfold execOp; simp only [eval_const, e4]; simp [go_sem]
        · intro a w1 hB ho hp K hK
          have e16 : a.eval (.tmp 16) = (.slice (some ad) n c) := hp 2 16 (by kernel_rfl)
          have e17 : a.eval (.tmp 17) = (.int .i64 (j : Int)) := hp 3 17 (by kernel_rfl)
          refine hop_val (wanted_none rfl) ?_ (hK (.pointer (some (ad.add (j * 2)))) _ rfl (Below.refl _ _))
          unfold execOp; simp only [eval_const, Option.map_some, Option.map_none, e16, e17]; simp [run_ixP (show j < n by omega)]
        · intro a w1 hB ho hp K hK
          have e18 : a.eval (.tmp 18) = (.pointer (some (ad.add (j * 2)))) := hp 4 18 (by kernel_rfl)
          refine hop_val (wanted_none rfl) ?_ (hK (.pointer (some ⟨(ad.add (j * 2)).block, (ad.add (j * 2)).off + 1, none⟩)) _ rfl (Below.refl _ _))
          unfold execOp; simp only [eval_const, e18]; simp [go_sem]
        · intro a w1 hB ho hp K hK
          have e19 : a.eval (.tmp 19) = (.pointer (some ⟨(ad.add (j * 2)).block, (ad.add (j * 2)).off + 1, none⟩)) := hp 5 19 (by kernel_rfl)
          exact hop_load (wanted_none rfl) rfl e19 (run_ldN ((hB.cell (p := ⟨(ad.add (j * 2)).block, (ad.add (j * 2)).off + 1, none⟩) (by show (ad.add (j * 2)).block < _; rw [add_block]; exact hab)).trans c2)) (hK _ _ rfl (Below.refl _ _))
        · intro a w1 hB ho hp K hK
          have e0 : a.eval (.tmp 0) = (.slice (some ad) n c) := ho 0 (by kernel_rfl)
          refine hop_val (wanted_none rfl) ?_ (hK (.slice (some ad) n c) _ rfl (Below.refl _ _))
          unfold execOp; simp only [eval_const, e0]; simp [go_sem]
        · intro a w1 hB ho hp K hK
          have e4 : a.eval (.tmp 4) = (.int .i64 (j : Int)) := ho 4 (by kernel_rfl)
          refine hop_val (wanted_none rfl) ?_ (hK (.int .i64 (j : Int)) _ rfl (Below.refl _ _))
          unfold execOp; simp only [eval_const, e4]; simp [go_sem]
        · intro a w1 hB ho hp K hK
          have e21 : a.eval (.tmp 21) = (.slice (some ad) n c) := hp 7 21 (by kernel_rfl)
          have e22 : a.eval (.tmp 22) = (.int .i64 (j : Int)) := hp 8 22 (by kernel_rfl)
          refine hop_val (wanted_none rfl) ?_ (hK (.pointer (some (ad.add (j * 2)))) _ rfl (Below.refl _ _))
          unfold execOp; simp only [eval_const, Option.map_some, Option.map_none, e21, e22]; simp [run_ixP (show j < n by omega)]
        · intro a w1 hB ho hp K hK
          have e23 : a.eval (.tmp 23) = (.pointer (some (ad.add (j * 2)))) := hp 9 23 (by kernel_rfl)
          refine hop_val (wanted_none rfl) ?_ (hK (.pointer (some (ad.add (j * 2)))) _ rfl (Below.refl _ _))
          unfold execOp; simp only [eval_const, e23]; simp [go_sem]
        · intro a w1 hB ho hp K hK
          have e24 : a.eval (.tmp 24) = (.pointer (some (ad.add (j * 2)))) := hp 10 24 (by kernel_rfl)
          exact hop_load (wanted_none rfl) rfl e24 (run_ldB ((hB.cell (p := ad.add (j * 2)) (by rw [add_block]; exact hab)).trans c1)) (hK _ _ rfl (Below.refl _ _))
        · intro a w1 hB ho hp K hK
          have e20 : a.eval (.tmp 20) = (.slice A' m d) := hp 6 20 (by kernel_rfl)
          have e25 : a.eval (.tmp 25) = (.bool s) := hp 11 25 (by kernel_rfl)
          refine hop_call (wanted_none rfl) rfl (args := #[(.slice A' m d), (.bool s)]) (by simp only [List.map_toArray, List.map_cons, List.map_nil, eval_const, e20, e25]) (ent7 (by kernel_rfl) _ _) (zfrom_v (nv.below hB) (by omega)) ?_
          rintro e w2 ⟨s, A, n, c, rfl, p, k, B⟩
          exact ⟨_, rfl, hK _ _ ⟨s, A, n, c, rfl, p, by omega⟩ B⟩
        · intro a w1 hB ho hp K hK
          have e14 : a.eval (.tmp 14) = (.slice (some ⟨gB, 0, none⟩) L L) := hp 0 14 (by kernel_rfl)
          have e15 : a.eval (.tmp 15) = (.int .i64 (j : Int)) := hp 1 15 (by kernel_rfl)
          refine hop_val (wanted_none rfl) ?_ (hK (.pointer (some ⟨gB, 0 + j * 2, none⟩)) _ rfl (Below.refl _ _))
          unfold execOp; simp only [eval_const, Option.map_some, Option.map_none, e14, e15]; simp [run_ixP0 hlt]
      intro w21 B21
      refine EndAll.one rfl fun vv hv => ?_
      obtain rfl : vv = (.slice (some ⟨gB, 0, none⟩) L L) := hv
      refine EndAll.one rfl fun vv hv => ?_
      obtain rfl : vv = (.int .i64 (j : Int)) := hv
      refine EndAll.one rfl fun vv hv => ?_
      obtain rfl : vv = (.slice (some ad) n c) := hv
      refine EndAll.one rfl fun vv hv => ?_
      obtain rfl : vv = (.int .i64 (j : Int)) := hv
      refine EndAll.one rfl fun vv hv => ?_
      obtain rfl : vv = (.pointer (some (ad.add (j * 2)))) := hv
      refine EndAll.one rfl fun vv hv => ?_
      obtain rfl : vv = (.pointer (some ⟨(ad.add (j * 2)).block, (ad.add (j * 2)).off + 1, none⟩)) := hv
      refine EndAll.one rfl fun vv hv => ?_
      obtain rfl : vv = (.slice A' m d) := hv
      refine EndAll.one rfl fun vv hv => ?_
      obtain rfl : vv = (.slice (some ad) n c) := hv
      refine EndAll.one rfl fun vv hv => ?_
      obtain rfl : vv = (.int .i64 (j : Int)) := hv
      refine EndAll.one rfl fun vv hv => ?_
      obtain rfl : vv = (.pointer (some (ad.add (j * 2)))) := hv
      refine EndAll.one rfl fun vv hv => ?_
      obtain rfl : vv = (.pointer (some (ad.add (j * 2)))) := hv
      refine EndAll.one rfl fun vv hv => ?_
      obtain rfl : vv = (.bool s) := hv
      refine EndAll.one rfl fun vv hv => ?_
      obtain ⟨s22, A22, n22, c22, rfl, p22⟩ : IsC (sg s v) k vv w21 := hv
      refine EndAll.one rfl fun vv hv => ?_
      obtain rfl : vv = (.pointer (some ⟨gB, 0 + j * 2, none⟩)) := hv
      refine EndAll.nil (l := [_]) rfl ?_
      simp only [Act.put, List.setIfInBounds_toArray, List.set_cons_zero, List.set_cons_succ]
      replace nv := nv.below B21
      replace hW := hW.trans (B21.mono hW.size)
      have pz := p22
      clear p22
      obtain ⟨pz, kz⟩ := pz
      rw [← hv.out, ← HX.out] at pz
      clear HX hv c1 c2 hab hm
      replace hb := hb.below B21
      have hW2 : Below w.heap.size w w21 := hW
      obtain ⟨t1, t2, t3, t4, x1, x2, -, -⟩ := hb.cells (j := j) (by omega)
      have y1 := hb.free (j * 2)
      have y2 := hb.free (j * 2 + 1)
      have hs := hb.put (j := j) (by omega) pz kz
      have hgr := zputo_gro w21 gB (j * 2) s22 A22 n22 c22
      have hno := hb.now
      have hG := Lib.hid (gro_up hW2 hgr hg)
      have hu := upd_set (xs := List.replicate L 0) (o := 0) (i := j) (f := ith zs) (by rw [List.length_replicate]; omega)
      rw [Nat.zero_add] at hu
      rw [hu] at hs
      have HS := Lib.hid hs
      unfold zputo at HS hG
      clear hs hu hgr hno hb hW2
      go_wp2_with fail
      go_roundw
      case rel => exact ⟨j + 1, by go_num, by omega, Lib.hid ⟨hG.out, HS.out⟩⟩
      case measure => first | (simp [intOf]; done) | (simp [intOf]; omega)
    · obtain rfl : j = L := by omega
      rw [upd_all, ← HL.out, norm_places] at hb
      have hq := nrz_length zs
      rw [HL.out] at hq
      go_wp2_with fail
      exact bodyPost_ret (v := .slice (some ⟨gB, 0, none⟩) j j) (by simp [results, Tryz.results15, go_sem]) rfl ⟨gB, j, rfl, hq.symm, by omega, hb, hg, hW⟩
theorem zvfin {w w2 : World} {A B : Option Addr} {n c g k m d : Nat} {s t : Bool} {z : Int} (h : Zv w2 s A n c z) (hi : Ib w2 g t B m d) (hk : n ≤ k) (hg : w.heap.size ≤ g) (hB : Below w.heap.size w w2) :
    ZvPost z k w (.returned (.agg #[.bool s, .slice A n c])) ((w2.setCell ⟨g, 0, none⟩ (.bool s)).setCell ⟨g, 1, none⟩ (.slice A n c)) :=
  ⟨s, A, n, c, rfl, h.put hi, hk, below_put hB hg⟩
theorem Zv.nought (w : World) : Zv w false none 0 0 0 := (Zc.nought w).zv
set_option maxRecDepth 100000 in
set_option maxHeartbeats 1000000 in
theorem zat_v {q : Bool} {A : Option Addr} {n c k : Nat} {zs : List Int} {w : World} (hx : ZL q w A n c k zs) (i : Nat) :
    Calls Tryz.prog 75 #[.slice A n c, .int .i64 (i : Int)] w (ZvPost (ith zs i) k w) := by
  have hW := Below.refl w.heap.size w
  obtain ⟨wp0, hwp0⟩ : ∃ xw, xw = w.alloc (.cells #[.bool false, .slice none 0 0] 27) := ⟨_, rfl⟩
  have zp0 : Below w.heap.size w wp0 := by rw [hwp0]; exact zba _ _
  have sp0 : wp0.heap.size = w.heap.size + 1 := by rw [hwp0, World.size_alloc]
  have Ir : Ib wp0 w.heap.size false none 0 0 := by rw [hwp0]; exact Ib.new _ _ _ _ _ _
  replace hx := hx.below zp0
  replace hW := hW.trans (zp0.mono hW.size)
  have H_r := Lib.hid Ir
  clear Ir zp0
  have HW : Hid ((w.alloc (.cells #[.bool false, .slice none 0 0] 27)) = wp0) := Lib.hid (by rw [hwp0])
  have lw_r : w.heap.size ≤ w.heap.size := by omega
  clear hwp0 sp0
  go_enter Tryz.func75, Tryz.ntmps75
  by_cases hi : i < n
  · obtain ⟨ad, rfl, hab, s, A', m, d, c1, c2, ze, hm⟩ := hx.at (j := i) hi
    have u1 : (0 : Int) ≤ (i : Int) := by omega
    have u2 : (i : Int) < (n : Int) := by omega
    have P := Lib.hid (zvfin (w := w) (k := k) ze.1 H_r.out hm lw_r hW)
    clear hab hx ze hi
    obtain ⟨r1, r2, r3, r4, r5⟩ := H_r.out
    go_upto_region 1 with fail
    rw [HW.out]
    clear r1 r2 r3 r4 r5
    obtain ⟨r1, r2, r3, r4, r5⟩ := H_r.out
    go_wp2_with fail
    clear r1 r2 r3 r4 r5
    obtain ⟨r1, r2, r3, r4, r5⟩ := H_r.out
    exact bodyPost_ret (v := .agg #[.bool s, .slice A' m d]) (by simp [results, Tryz.results75, go_sem, r1, r2]) rfl P.out
  · have e0 : ith zs i = 0 := ith_ge (by rw [hx.len]; omega)
    have u2 : ¬ (i : Int) < (n : Int) := by omega
    have P := Lib.hid (zvfin (w := w) (k := k) (Zv.nought _) H_r.out (Nat.zero_le _) lw_r hW)
    rw [← e0] at P
    clear hx hi e0
    obtain ⟨r1, r2, r3, r4, r5⟩ := H_r.out
    go_upto_region 1 with fail
    rw [HW.out]
    clear r1 r2 r3 r4 r5
    obtain ⟨r1, r2, r3, r4, r5⟩ := H_r.out
    go_wp2_with fail
    clear r1 r2 r3 r4 r5
    obtain ⟨r1, r2, r3, r4, r5⟩ := H_r.out
    exact bodyPost_ret (v := .agg #[.bool false, .slice none 0 0]) (by simp [results, Tryz.results75, go_sem, r1, r2]) rfl P.out
set_option maxRecDepth 100000 in
set_option maxHeartbeats 1000000 in
theorem zjoinA_v {q : Bool} {A : Option Addr} {n c k : Nat} {zs : List Int} {q' : Bool} {A' : Option Addr} {n' c' k' : Nat} {zs' : List Int} {w : World} (hx : ZL q w A n c k zs) (hy : ZL q' w A' n' c' k' zs') (hk : k ≤ 1099511627776) (hk' : k' ≤ 549755813888) (hn : n ≤ 8796093022208) (hn' : n' ≤ 8796093022208) (hK : max k k' + 1 ≤ 1099511627776) :
    Calls Tryz.prog 48 #[.slice A n c, .slice A' n' c', .func (.func 49) #[] #[]] w (ZlPost (nrz (mkz (max zs.length zs'.length) fun j => ith zs j + ith zs' j)) (max k k' + 1) w) := by
  obtain ⟨L, hL⟩ : ∃ L, max n n' = L := ⟨_, rfl⟩
  obtain ⟨K, hKK⟩ : ∃ K, max k k' + 1 = K := ⟨_, rfl⟩
  have hlen : max zs.length zs'.length = L := by rw [hx.len, hy.len, hL]
  rw [hlen, hKK]
  have HX0 := Lib.hid hx
  have HY0 := Lib.hid hy
  have hLi : max (n : Int) (n' : Int) = (L : Int) := by omega
  have hLb : L ≤ 8796093022208 := by omega
  clear hlen hx hy hL
  go_enter Tryz.func48, Tryz.ntmps48
  go_wp2_with (at_make; refine wpList_make_z _ rfl _ _ 23 rfl Tryz.underlying23 info_zint _ _ _ _ L rfl rfl (by omega) (by omega) (by omega) ?_)
  intro w2 hb hw2 hz2
  obtain ⟨gB, hgB⟩ : ∃ q, w.heap.size = q := ⟨_, rfl⟩
  have hg : w.heap.size ≤ gB := by omega
  rw [hgB] at hb
  have HB : Hid (Below w.heap.size w w2 ∧ ZB w2 gB K (upd (List.replicate L 0) 0 0 fun j => ith zs j + ith zs' j)) := Lib.hid ⟨hw2, by rw [upd_zero]; exact hb.mono (Nat.zero_le _)⟩
  rw [hgB]
  clear hb hw2 hz2 hgB hLi
  go_wp2_with fail
  go_loopw [17] (fun s17 wr => ∃ j : Nat, s17 = .int .i64 (j : Int) ∧ j ≤ L ∧ Hid (Below w.heap.size w wr ∧ ZB wr gB K (upd (List.replicate L 0) 0 j fun j => ith zs j + ith zs' j))) (fun s17 _ => L - (intOf s17).toNat)
  case atStart => exact ⟨0, rfl, Nat.zero_le _, HB⟩
  case round =>
    clear HB
    obtain ⟨j, rfl, hj, HB⟩ := hrel
    obtain ⟨hW, hb⟩ := HB.out
    clear HB
    by_cases hlt : j < L
    · have u2 : (j : Int) < (L : Int) := by omega
      have u1 : (0 : Int) ≤ (j : Int) := by omega
      have hlen : (upd (List.replicate L 0) 0 j fun j => ith zs j + ith zs' j).length = L := by rw [upd_length, List.length_replicate]
      have HO := Lib.hid hb
      clear hb
      go_wp2_with fail
      refine (zat_v (HX0.out.below hW) j).mono ?_
      rintro e w3 ⟨s3, A3, n3, c3, rfl, p3, k3, B3⟩
      replace hW := hW.trans (B3.mono hW.size)
      replace HO := Lib.hid (HO.out.below B3)
      clear B3
      go_wp2_with fail
      refine (zat_v (HY0.out.below hW) j).mono ?_
      rintro e w4 ⟨s4, A4, n4, c4, rfl, p4, k4, B4⟩
      replace hW := hW.trans (B4.mono hW.size)
      replace HO := Lib.hid (HO.out.below B4)
      replace p3 := p3.below B4
      clear B4
      go_wp2_with fail
      refine (zadd_v p3 p4 (by omega) (by omega)).mono ?_
      rintro e w5 ⟨s5, A5, n5, c5, rfl, pz, kz, B5⟩
      have hW2 := hW.trans (B5.mono hW.size)
      have hb := HO.out.below B5
      clear B5 p3 p4 hW HO
      replace kz : n5 ≤ K := by omega
      obtain ⟨t1, t2, t3, t4, x1, x2, -, -⟩ := hb.cells (j := j) (by omega)
      have y1 := hb.free (j * 2)
      have y2 := hb.free (j * 2 + 1)
      have hs := hb.put (j := j) (by omega) pz kz
      have hgr := zputo_gro w5 gB (j * 2) s5 A5 n5 c5
      have hno := hb.now
      have hG := Lib.hid (gro_up hW2 hgr hg)
      have hu := upd_set (xs := List.replicate L 0) (o := 0) (i := j) (f := fun j => ith zs j + ith zs' j) (by rw [List.length_replicate]; omega)
      rw [Nat.zero_add] at hu
      rw [hu] at hs
      have HS := Lib.hid hs
      unfold zputo at HS hG
      clear hs hu hgr hno hb hW2
      go_wp2_with fail
      go_roundw
      case rel => exact ⟨j + 1, by go_num, by omega, Lib.hid ⟨hG.out, HS.out⟩⟩
      case measure => first | (simp [intOf]; done) | (simp [intOf]; omega)
    · obtain rfl : j = L := by omega
      rw [upd_all] at hb
      obtain ⟨M, hM⟩ : ∃ M, slZ (mkz j fun j => ith zs j + ith zs' j) = M := ⟨_, rfl⟩
      have hMj : M ≤ j := by have := slZ_le (mkz j fun j => ith zs j + ith zs' j); rw [mkz_length] at this; omega
      have hlen : (mkz j fun j => ith zs j + ith zs' j).length = j := mkz_length _ _
      have hl := hb.zl0 false (n := j) (c := j) (by omega) (Nat.le_refl _) (by omega)
      rw [List.take_of_length_le (by omega)] at hl
      go_wp2_with fail
      refine (ztrim_v hl (by omega) hM).mono ?_
      rintro e w3 ⟨rfl, B3⟩
      have hr := (hb.below B3).nrz hM hMj (by omega)
      go_wp2_with fail
      exact bodyPost_ret (v := .slice (some ⟨gB, 0, none⟩) M j) (by simp [results, Tryz.results48, go_sem]) rfl ⟨_, M, j, rfl, hr, hW.trans (B3.mono hW.size)⟩
set_option maxRecDepth 100000 in
set_option maxHeartbeats 1000000 in
theorem zjoinS_v {q : Bool} {A : Option Addr} {n c k : Nat} {zs : List Int} {q' : Bool} {A' : Option Addr} {n' c' k' : Nat} {zs' : List Int} {w : World} (hx : ZL q w A n c k zs) (hy : ZL q' w A' n' c' k' zs') (hk : k ≤ 1099511627776) (hk' : k' ≤ 549755813888) (hn : n ≤ 8796093022208) (hn' : n' ≤ 8796093022208) (hK : max k k' + 1 ≤ 1099511627776) :
    Calls Tryz.prog 48 #[.slice A n c, .slice A' n' c', .func (.func 51) #[] #[]] w (ZlPost (nrz (mkz (max zs.length zs'.length) fun j => ith zs j - ith zs' j)) (max k k' + 1) w) := by
  obtain ⟨L, hL⟩ : ∃ L, max n n' = L := ⟨_, rfl⟩
  obtain ⟨K, hKK⟩ : ∃ K, max k k' + 1 = K := ⟨_, rfl⟩
  have hlen : max zs.length zs'.length = L := by rw [hx.len, hy.len, hL]
  rw [hlen, hKK]
  have HX0 := Lib.hid hx
  have HY0 := Lib.hid hy
  have hLi : max (n : Int) (n' : Int) = (L : Int) := by omega
  have hLb : L ≤ 8796093022208 := by omega
  clear hlen hx hy hL
  go_enter Tryz.func48, Tryz.ntmps48
  go_wp2_with (at_make; refine wpList_make_z _ rfl _ _ 23 rfl Tryz.underlying23 info_zint _ _ _ _ L rfl rfl (by omega) (by omega) (by omega) ?_)
  intro w2 hb hw2 hz2
  obtain ⟨gB, hgB⟩ : ∃ q, w.heap.size = q := ⟨_, rfl⟩
  have hg : w.heap.size ≤ gB := by omega
  rw [hgB] at hb
  have HB : Hid (Below w.heap.size w w2 ∧ ZB w2 gB K (upd (List.replicate L 0) 0 0 fun j => ith zs j - ith zs' j)) := Lib.hid ⟨hw2, by rw [upd_zero]; exact hb.mono (Nat.zero_le _)⟩
  rw [hgB]
  clear hb hw2 hz2 hgB hLi
  go_wp2_with fail
  go_loopw [17] (fun s17 wr => ∃ j : Nat, s17 = .int .i64 (j : Int) ∧ j ≤ L ∧ Hid (Below w.heap.size w wr ∧ ZB wr gB K (upd (List.replicate L 0) 0 j fun j => ith zs j - ith zs' j))) (fun s17 _ => L - (intOf s17).toNat)
  case atStart => exact ⟨0, rfl, Nat.zero_le _, HB⟩
  case round =>
    clear HB
    obtain ⟨j, rfl, hj, HB⟩ := hrel
    obtain ⟨hW, hb⟩ := HB.out
    clear HB
    by_cases hlt : j < L
    · have u2 : (j : Int) < (L : Int) := by omega
      have u1 : (0 : Int) ≤ (j : Int) := by omega
      have hlen : (upd (List.replicate L 0) 0 j fun j => ith zs j - ith zs' j).length = L := by rw [upd_length, List.length_replicate]
      have HO := Lib.hid hb
      clear hb
      go_wp2_with fail
      refine (zat_v (HX0.out.below hW) j).mono ?_
      rintro e w3 ⟨s3, A3, n3, c3, rfl, p3, k3, B3⟩
      replace hW := hW.trans (B3.mono hW.size)
      replace HO := Lib.hid (HO.out.below B3)
      clear B3
      go_wp2_with fail
      refine (zat_v (HY0.out.below hW) j).mono ?_
      rintro e w4 ⟨s4, A4, n4, c4, rfl, p4, k4, B4⟩
      replace hW := hW.trans (B4.mono hW.size)
      replace HO := Lib.hid (HO.out.below B4)
      replace p3 := p3.below B4
      clear B4
      go_wp2_with fail
      refine (zsub_v p3 p4 (by omega) (by omega)).mono ?_
      rintro e w5 ⟨s5, A5, n5, c5, rfl, pz, kz, B5⟩
      have hW2 := hW.trans (B5.mono hW.size)
      have hb := HO.out.below B5
      clear B5 p3 p4 hW HO
      replace kz : n5 ≤ K := by omega
      obtain ⟨t1, t2, t3, t4, x1, x2, -, -⟩ := hb.cells (j := j) (by omega)
      have y1 := hb.free (j * 2)
      have y2 := hb.free (j * 2 + 1)
      have hs := hb.put (j := j) (by omega) pz kz
      have hgr := zputo_gro w5 gB (j * 2) s5 A5 n5 c5
      have hno := hb.now
      have hG := Lib.hid (gro_up hW2 hgr hg)
      have hu := upd_set (xs := List.replicate L 0) (o := 0) (i := j) (f := fun j => ith zs j - ith zs' j) (by rw [List.length_replicate]; omega)
      rw [Nat.zero_add] at hu
      rw [hu] at hs
      have HS := Lib.hid hs
      unfold zputo at HS hG
      clear hs hu hgr hno hb hW2
      go_wp2_with fail
      go_roundw
      case rel => exact ⟨j + 1, by go_num, by omega, Lib.hid ⟨hG.out, HS.out⟩⟩
      case measure => first | (simp [intOf]; done) | (simp [intOf]; omega)
    · obtain rfl : j = L := by omega
      rw [upd_all] at hb
      obtain ⟨M, hM⟩ : ∃ M, slZ (mkz j fun j => ith zs j - ith zs' j) = M := ⟨_, rfl⟩
      have hMj : M ≤ j := by have := slZ_le (mkz j fun j => ith zs j - ith zs' j); rw [mkz_length] at this; omega
      have hlen : (mkz j fun j => ith zs j - ith zs' j).length = j := mkz_length _ _
      have hl := hb.zl0 false (n := j) (c := j) (by omega) (Nat.le_refl _) (by omega)
      rw [List.take_of_length_le (by omega)] at hl
      go_wp2_with fail
      refine (ztrim_v hl (by omega) hM).mono ?_
      rintro e w3 ⟨rfl, B3⟩
      have hr := (hb.below B3).nrz hM hMj (by omega)
      go_wp2_with fail
      exact bodyPost_ret (v := .slice (some ⟨gB, 0, none⟩) M j) (by simp [results, Tryz.results48, go_sem]) rfl ⟨_, M, j, rfl, hr, hW.trans (B3.mono hW.size)⟩
set_option maxRecDepth 100000 in
set_option maxHeartbeats 1000000 in
theorem zaddp_v {q : Bool} {A : Option Addr} {n c k : Nat} {zs : List Int} {q' : Bool} {A' : Option Addr} {n' c' k' : Nat} {zs' : List Int} {w : World} (hx : ZL q w A n c k zs) (hy : ZL q' w A' n' c' k' zs') (hk : k ≤ 549755813888) (hk' : k' ≤ 549755813888) (hn : n ≤ 8796093022208) (hn' : n' ≤ 8796093022208) :
    Calls Tryz.prog 16 #[.slice A n c, .slice A' n' c'] w (ZlPost (nrz (addI zs zs')) (max k k' + 1) w) := by
  have H := Lib.hid (zjoinA_v hx hy (by omega) hk' hn hn' (by omega))
  rw [sum_places] at H
  clear hx hy
  go_enter Tryz.func16, Tryz.ntmps16
  go_wp2_with fail
  refine H.out.mono ?_
  rintro e w1 ⟨A1, n1, c1, rfl, p1, B1⟩
  clear H
  go_wp2_with fail
  exact bodyPost_ret (v := .slice A1 n1 c1) (by simp [results, Tryz.results16, go_sem]) rfl ⟨A1, n1, c1, rfl, p1, B1⟩
set_option maxRecDepth 100000 in
set_option maxHeartbeats 1000000 in
theorem zsubp_v {q : Bool} {A : Option Addr} {n c k : Nat} {zs : List Int} {q' : Bool} {A' : Option Addr} {n' c' k' : Nat} {zs' : List Int} {w : World} (hx : ZL q w A n c k zs) (hy : ZL q' w A' n' c' k' zs') (hk : k ≤ 549755813888) (hk' : k' ≤ 549755813888) (hn : n ≤ 8796093022208) (hn' : n' ≤ 8796093022208) :
    Calls Tryz.prog 18 #[.slice A n c, .slice A' n' c'] w (ZlPost (nrz (addI zs (mulC (-1) zs'))) (max k k' + 1) w) := by
  have H := Lib.hid (zjoinS_v hx hy (by omega) hk' hn hn' (by omega))
  rw [dif_places] at H
  clear hx hy
  go_enter Tryz.func18, Tryz.ntmps18
  go_wp2_with fail
  refine H.out.mono ?_
  rintro e w1 ⟨A1, n1, c1, rfl, p1, B1⟩
  clear H
  go_wp2_with fail
  exact bodyPost_ret (v := .slice A1 n1 c1) (by simp [results, Tryz.results18, go_sem]) rfl ⟨A1, n1, c1, rfl, p1, B1⟩
set_option maxRecDepth 100000 in
set_option maxHeartbeats 1000000 in
theorem zscale_v {q : Bool} {A : Option Addr} {n c k : Nat} {zs : List Int} {w : World} {s0 : Bool} {A0 : Option Addr} {n0 c0 : Nat} {z : Int} (hx : ZL q w A n c k zs) (hz : Zv w s0 A0 n0 c0 z) (hk : k ≤ 549755813888) (hn0 : n0 ≤ 549755813888) (hn : n ≤ 8796093022208) :
    Calls Tryz.prog 21 #[.slice A n c, .agg #[.bool s0, .slice A0 n0 c0]] w (ZlPost (nrz (mulC z zs)) (n0 + k) w) := by
  have HX0 := Lib.hid hx
  have HZ0 := Lib.hid hz
  have HN := Lib.hid hx.len
  obtain ⟨K, hKK⟩ : ∃ K, n0 + k = K := ⟨_, rfl⟩
  rw [hKK]
  clear hx hz
  have hW := Below.refl w.heap.size w
  obtain ⟨wp0, hwp0⟩ : ∃ xw, xw = w.alloc (.cells #[.bool s0, .slice A0 n0 c0] 27) := ⟨_, rfl⟩
  have zp0 : Below w.heap.size w wp0 := by rw [hwp0]; exact zba _ _
  have sp0 : wp0.heap.size = w.heap.size + 1 := by rw [hwp0, World.size_alloc]
  have Iz : Ib wp0 w.heap.size s0 A0 n0 c0 := by rw [hwp0]; exact Ib.new _ _ _ _ _ _
  replace hW := hW.trans (zp0.mono hW.size)
  have H_z := Lib.hid Iz
  clear Iz zp0
  have HW : Hid ((w.alloc (.cells #[.bool s0, .slice A0 n0 c0] 27)) = wp0) := Lib.hid (by rw [hwp0])
  have lw_z : w.heap.size ≤ w.heap.size := by omega
  clear hwp0 sp0
  go_enter Tryz.func21, Tryz.ntmps21
  obtain ⟨z1, z2, z3, z4, z5⟩ := H_z.out
  go_upto_region 1 with fail
  rw [HW.out]
  clear z1 z2 z3 z4 z5
  go_wp2_with (at_make; refine wpList_make_z _ rfl _ _ 23 rfl Tryz.underlying23 info_zint _ _ _ _ n rfl rfl (by omega) (by omega) (by omega) ?_)
  intro w2 hb hw2 hz2
  obtain ⟨gB, hgB⟩ : ∃ q, wp0.heap.size = q := ⟨_, rfl⟩
  have hg : w.heap.size ≤ gB := by have := hW.size; omega
  have hgz : w.heap.size < gB := by have := H_z.out.2.2.2.2; omega
  rw [hgB] at hb
  have HB : Hid (Ib w2 w.heap.size s0 A0 n0 c0 ∧ Below w.heap.size w w2 ∧ ZB w2 gB K (upd (List.replicate n 0) 0 0 fun j => z * ith zs j)) := Lib.hid ⟨H_z.out.below hw2, hW.trans (hw2.mono hW.size), by rw [upd_zero]; exact hb.mono (Nat.zero_le _)⟩
  rw [hgB]
  clear hb hw2 hz2 hgB hW H_z
  go_wp2_with fail
  go_loopw [13] (fun s13 wr => ∃ j : Nat, s13 = .int .i64 (j : Int) ∧ j ≤ n ∧ Hid (Ib wr w.heap.size s0 A0 n0 c0 ∧ Below w.heap.size w wr ∧ ZB wr gB K (upd (List.replicate n 0) 0 j fun j => z * ith zs j))) (fun s13 _ => n - (intOf s13).toNat)
  case atStart => exact ⟨0, rfl, Nat.zero_le _, HB⟩
  case round =>
    clear HB HW
    obtain ⟨j, rfl, hj, HB⟩ := hrel
    obtain ⟨I1, hW, hb⟩ := HB.out
    have H_z := Lib.hid I1
    clear HB I1
    by_cases hlt : j < n
    · obtain ⟨ad, rfl, hab, s, A', m, d, c1, c2, ze, hm⟩ := (HX0.out.below hW).at (j := j) hlt
      obtain ⟨x, hx⟩ : ∃ x, ith zs j = x := ⟨_, rfl⟩
      have HX := Lib.hid hx
      rw [hx] at ze
      have hv := ze.1
      have hz := HZ0.out.below hW
      have u1 : (0 : Int) ≤ (j : Int) := by omega
      have u2 : (j : Int) < (n : Int) := by omega
      have hlen : (upd (List.replicate n 0) 0 j fun j => z * ith zs j).length = n := by rw [upd_length, List.length_replicate]
      have HO := Lib.hid hb
      clear hb ze hx
      have O_z := H_z
      obtain ⟨w21, hw21⟩ : ∃ xw, xw = wr.alloc (.cells #[.bool s, .slice A' m d] 27) := ⟨_, rfl⟩
      have z21 : Below wr.heap.size wr w21 := by rw [hw21]; exact zba _ _
      have HXB := z21
      have HW21 : Hid (wr.alloc (.cells #[.bool s, .slice A' m d] 27) = w21) := Lib.hid hw21.symm
      have nn_z_x : ¬ (w.heap.size = wr.heap.size) := by have := H_z.out.2.2.2.2; omega
      have nm_z_x : ¬ (wr.heap.size = w.heap.size) := by omega
      have lw_x : w.heap.size ≤ wr.heap.size := by have := hW.size; omega
      replace H_z := Lib.hid (H_z.out.below z21)
      replace hv := hv.below z21
      replace hz := hz.below z21
      replace hW := hW.trans (z21.mono hW.size)
      have H_x : Hid (Ib w21 wr.heap.size s A' m d) := Lib.hid (by rw [hw21]; exact Ib.new _ _ _ _ _ _)
      clear z21 hw21
      skip
      obtain ⟨z1, z2, z3, z4, z5⟩ := O_z.out
      go_wp2_with fail
      rw [HW21.out]
      clear z1 z2 z3 z4 z5 O_z
      refine (zmul_v hz hv (by omega) (by omega)).mono ?_
      rintro e w9 ⟨s9, A9, n9, c9, rfl, pz, kz, B9⟩
      rw [← HX.out] at pz
      replace kz : n9 ≤ K := by omega
      have hW2 := hW.trans (B9.mono hW.size)
      have hb := HO.out.below (zup (HXB : Below wr.heap.size wr w21) B9)
      have H_z2 := Lib.hid (H_z.out.below B9)
      clear B9 hz hv hW HO H_z H_x hm
      obtain ⟨t1, t2, t3, t4, x1, x2, -, -⟩ := hb.cells (j := j) (by omega)
      have y1 := hb.free (j * 2)
      have y2 := hb.free (j * 2 + 1)
      have hs := hb.put (j := j) (by omega) pz kz
      have hgr := zputo_gro w9 gB (j * 2) s9 A9 n9 c9
      have hno := hb.now
      have hG := Lib.hid (gro_up hW2 hgr hg)
      have hbx0 := Lib.hid (H_z2.out.gro hgr (by omega))
      have hu := upd_set (xs := List.replicate n 0) (o := 0) (i := j) (f := fun j => z * ith zs j) (by rw [List.length_replicate]; omega)
      rw [Nat.zero_add] at hu
      rw [hu] at hs
      have HS := Lib.hid hs
      unfold zputo at HS hG hbx0
      clear hs hu hgr hno hb hW2
      go_wp2_with fail
      go_roundw
      case rel => exact ⟨j + 1, by go_num, by omega, Lib.hid ⟨hbx0.out, hG.out, HS.out⟩⟩
      case measure => first | (simp [intOf]; done) | (simp [intOf]; omega)
    · obtain rfl : j = n := by omega
      rw [upd_all] at hb
      have e0 : (mkz j fun j => z * ith zs j) = mulC z zs := by rw [← HN.out]; exact scale_places _ _
      rw [e0] at hb
      have hlen : (mulC z zs).length = j := by rw [mulC_length]; exact HN.out
      obtain ⟨M, hM⟩ : ∃ M, slZ (mulC z zs) = M := ⟨_, rfl⟩
      have hMj : M ≤ j := by have := slZ_le (mulC z zs); omega
      have hl := hb.zl0 false (n := j) (c := j) (by omega) (Nat.le_refl _) (by omega)
      rw [List.take_of_length_le (by omega)] at hl
      clear e0
      go_wp2_with fail
      refine (ztrim_v hl (by omega) hM).mono ?_
      rintro e w3 ⟨rfl, B3⟩
      have hr := (hb.below B3).nrz hM hMj (by omega)
      go_wp2_with fail
      exact bodyPost_ret (v := .slice (some ⟨gB, 0, none⟩) M j) (by simp [results, Tryz.results21, go_sem]) rfl ⟨_, M, j, rfl, hr, hW.trans (B3.mono hW.size)⟩
end Go.Proofs.YtddbhhedjipjkaaGreatDoor
