/-
  ZlJ
-/
import Derived.Test.YtddbhhedjipjkaaGreatDoorPk17

/-! Contracts of polynomials over the whole numbers: of literals, whether both are the same, derivatives. -/
namespace Go.Proofs.YtddbhhedjipjkaaGreatDoor
open Go.RowKit
set_option linter.unusedVariables false
set_option linter.unusedSimpArgs false

/-- A list of ints in memory. -/
structure IL (w : World) (A : Option Addr) (n c : Nat) (xs : List Int) : Prop where
  len : xs.length = n
  le : n ≤ c
  cap : c ≤ 9223372036854775807
  at' : 0 < n → ∃ ad, A = some ad ∧ ad.block < w.heap.size ∧ ∀ j, j < n → w.cell? (ad.add j) = some (.int .i64 (ith xs j))
  small : ∀ j, -9223372036854775808 ≤ ith xs j ∧ ith xs j ≤ 9223372036854775807
theorem IL.below {w w' : World} {A : Option Addr} {n c : Nat} {xs : List Int} (h : IL w A n c xs) (hb : Below w.heap.size w w') : IL w' A n c xs := ⟨h.len, h.le, h.cap, fun h0 => by
  obtain ⟨ad, rfl, h1, h2⟩ := h.at' h0
  exact ⟨ad, rfl, Nat.lt_of_lt_of_le h1 hb.size, fun j hj => (hb.cell (by rw [add_block]; exact h1)).trans (h2 j hj)⟩, h.small⟩
theorem IL.at {w : World} {A : Option Addr} {n c : Nat} {xs : List Int} (h : IL w A n c xs) {j : Nat} (hj : j < n) : ∃ ad, A = some ad ∧ ad.block < w.heap.size ∧ w.cell? (ad.add j) = some (.int .i64 (ith xs j)) := by
  obtain ⟨ad, e, h1, h2⟩ := h.at' (by omega)
  exact ⟨ad, e, h1, h2 j hj⟩
set_option maxRecDepth 100000 in
set_option maxHeartbeats 1000000 in
/-- zpoly.Of. -/
theorem zpof_v {A : Option Addr} {n c : Nat} {xs : List Int} {w : World} (hx : IL w A n c xs) (hn : n ≤ 8796093022208) :
    Calls Tryz.prog 43 #[.slice A n c] w (ZlPost (nrz xs) 1 w) := by
  have HX0 := Lib.hid hx
  have HN := Lib.hid hx.len
  clear hx
  go_enter Tryz.func43, Tryz.ntmps43
  go_wp2_with (at_make; refine wpList_make_z _ rfl _ _ 23 rfl Tryz.underlying23 info_zint _ _ _ _ n rfl rfl (by omega) (by omega) (by omega) ?_)
  intro w2 hb hw2 hz2
  obtain ⟨gB, hgB⟩ : ∃ q, w.heap.size = q := ⟨_, rfl⟩
  have hg : w.heap.size ≤ gB := by omega
  rw [hgB] at hb
  have HB : Hid (Below w.heap.size w w2 ∧ ZB w2 gB 1 (upd (List.replicate n 0) 0 0 (ith xs))) := Lib.hid ⟨hw2, by rw [upd_zero]; exact hb.mono (Nat.zero_le _)⟩
  rw [hgB]
  clear hb hw2 hz2 hgB
  go_wp2_with fail
  go_loopw [11] (fun s11 wr => ∃ j : Nat, s11 = .int .i64 (j : Int) ∧ j ≤ n ∧ Hid (Below w.heap.size w wr ∧ ZB wr gB 1 (upd (List.replicate n 0) 0 j (ith xs)))) (fun s11 _ => n - (intOf s11).toNat)
  case atStart => exact ⟨0, rfl, Nat.zero_le _, HB⟩
  case round =>
    clear HB
    obtain ⟨j, rfl, hj, HB⟩ := hrel
    obtain ⟨hW, hb⟩ := HB.out
    clear HB
    by_cases hlt : j < n
    · obtain ⟨ad, rfl, hab, c1⟩ := (HX0.out.below hW).at hlt
      have hsm := HX0.out.small j
      obtain ⟨x, hx⟩ : ∃ x, ith xs j = x := ⟨_, rfl⟩
      have HX := Lib.hid hx
      rw [hx] at c1 hsm
      have u1 : (0 : Int) ≤ (j : Int) := by omega
      have u2 : (j : Int) < (n : Int) := by omega
      have hlen : (upd (List.replicate n 0) 0 j (ith xs)).length = n := by rw [upd_length, List.length_replicate]
      have HO := Lib.hid hb
      clear hb hx
      go_wp2_with fail
      refine (zof_v x hsm.1 hsm.2 _).mono ?_
      rintro e w5 ⟨s5, A5, n5, c5, rfl, pz, kz, B5⟩
      rw [← HX.out] at pz
      have hW2 := hW.trans (B5.mono hW.size)
      have hb := HO.out.below B5
      clear B5 hW HO c1 hsm
      obtain ⟨t1, t2, t3, t4, x1, x2, -, -⟩ := hb.cells (j := j) (by omega)
      have y1 := hb.free (j * 2)
      have y2 := hb.free (j * 2 + 1)
      have hs := hb.put (j := j) (by omega) pz kz
      have hgr := zputo_gro w5 gB (j * 2) s5 A5 n5 c5
      have hno := hb.now
      have hG := Lib.hid (gro_up hW2 hgr hg)
      have hu := upd_set (xs := List.replicate n 0) (o := 0) (i := j) (f := ith xs) (by rw [List.length_replicate]; omega)
      rw [Nat.zero_add] at hu
      rw [hu] at hs
      have HS := Lib.hid hs
      unfold zputo at HS hG
      clear hs hu hgr hno hb hW2
      go_wp2_with fail
      go_roundw
      case rel => exact ⟨j + 1, by go_num, by omega, Lib.hid ⟨hG.out, HS.out⟩⟩
      case measure => first | (simp [intOf]; done) | (simp [intOf]; omega)
    · obtain rfl : j = n := by omega
      have e0 : upd (List.replicate j 0) 0 j (ith xs) = xs := ext_ith (by rw [upd_length, List.length_replicate]; exact HN.out.symm) fun i hi => by
        rw [upd_length, List.length_replicate] at hi
        rw [ith_upd, List.length_replicate, if_pos hi, if_pos ⟨Nat.zero_le _, by omega⟩]
      rw [e0] at hb
      have hlx := HN.out
      clear e0
      obtain ⟨M, hM⟩ : ∃ M, slZ (xs) = M := ⟨_, rfl⟩
      have hMj : M ≤ j := by have := slZ_le (xs); omega
      have hl := hb.zl0 false (n := j) (c := j) (by omega) (Nat.le_refl _) (by omega)
      rw [List.take_of_length_le (by omega)] at hl
      go_wp2_with fail
      refine (ztrim_v hl (by omega) hM).mono ?_
      rintro e w3 ⟨rfl, B3⟩
      have hr := (hb.below B3).nrz hM hMj (by omega)
      go_wp2_with fail
      exact bodyPost_ret (v := .slice (some ⟨gB, 0, none⟩) M j) (by simp [results, Tryz.results43, go_sem]) rfl ⟨_, M, j, rfl, hr, hW.trans (B3.mono hW.size)⟩
set_option maxRecDepth 100000 in
set_option maxHeartbeats 1000000 in
/-- slices.EqualFunc, of whole numbers. -/
theorem zequal_v {q : Bool} {A : Option Addr} {n c k : Nat} {zs : List Int} {q' : Bool} {A' : Option Addr} {n' c' k' : Nat} {zs' : List Int} {b : Bool} {w : World} (hx : ZL q w A n c k zs) (hy : ZL q' w A' n' c' k' zs') (hk : k ≤ 1099511627776) (hk' : k' ≤ 1099511627776) (hb : decide (zs = zs') = b) :
    Calls Tryz.prog 54 #[.slice A n c, .slice A' n' c', .func (.func 24) #[] #[]] w (fun e w' => e = .returned (.bool b) ∧ Below w.heap.size w w') := by
  have HX0 := Lib.hid hx
  have HY0 := Lib.hid hy
  have HN := Lib.hid hx.len
  have HN' := Lib.hid hy.len
  have Hb := Lib.hid hb
  have hcm := hx.cap
  have hnc := hx.le
  have hdm := hy.cap
  have hnd := hy.le
  clear hx hy hb
  by_cases hnn : n = n'
  · skip
    subst hnn
    have HB : Hid (Below w.heap.size w w) := Lib.hid (Below.refl _ _)
    go_enter Tryz.func54, Tryz.ntmps54
    go_wp2_with fail
    go_loopw [17] (fun s17 wr => ∃ j : Nat, s17 = .int .i64 (j : Int) ∧ j ≤ n ∧ Hid (∀ i, i < j → ith zs i = ith zs' i) ∧ Hid (Below w.heap.size w wr)) (fun s17 _ => n - (intOf s17).toNat)
    case atStart => exact ⟨0, rfl, Nat.zero_le _, Lib.hid fun i hi => by omega, HB⟩
    case round =>
      clear HB
      obtain ⟨j, rfl, hj, HE, HB⟩ := hrel
      have hW := HB.out
      clear HB
      by_cases hlt : j < n
      · obtain ⟨ad, rfl, hab, s, A1, m, d, c1, c2, ze, hm⟩ := (HX0.out.below hW).at (j := j) hlt
        obtain ⟨ad', rfl, hab', s', A2, m', d', c3, c4, ze', hm'⟩ := (HY0.out.below hW).at (j := j) hlt
        have hv := ze.1
        have hv' := ze'.1
        have u1 : (0 : Int) ≤ (j : Int) := by omega
        have u2 : (j : Int) < (n : Int) := by omega
        obtain ⟨bb, hbb⟩ : ∃ bb, decide (ith zs j = ith zs' j) = bb := ⟨_, rfl⟩
        have HBB := Lib.hid hbb
        clear ze ze' hbb
        obtain ⟨w21, hw21⟩ : ∃ xw, xw = wr.alloc (.cells #[.bool s, .slice A1 m d] 27) := ⟨_, rfl⟩
        have z21 : Below wr.heap.size wr w21 := by rw [hw21]; exact zba _ _
        have HXB := z21
        have HW21 : Hid (wr.alloc (.cells #[.bool s, .slice A1 m d] 27) = w21) := Lib.hid hw21.symm
        have lw_x : w.heap.size ≤ wr.heap.size := by have := hW.size; omega
        replace hv := hv.below z21
        replace hv' := hv'.below z21
        replace hW := hW.trans (z21.mono hW.size)
        have H_x : Hid (Ib w21 wr.heap.size s A1 m d) := Lib.hid (by rw [hw21]; exact Ib.new _ _ _ _ _ _)
        clear z21 hw21
        replace c3 := (HXB.cell (p := ad'.add (j * 2)) (by rw [add_block]; exact hab')).trans c3
        replace c4 := (HXB.cell (p := ⟨(ad'.add (j * 2)).block, (ad'.add (j * 2)).off + 1, none⟩) (by show (ad'.add (j * 2)).block < _; rw [add_block]; exact hab')).trans c4
        go_upto_region 6 with fail
        rw [HW21.out]
        clear c1 c2 HXB hab hab'
        have O_x := H_x
        obtain ⟨w22, hw22⟩ : ∃ xw, xw = w21.alloc (.cells #[.bool s', .slice A2 m' d'] 27) := ⟨_, rfl⟩
        have z22 : Below w21.heap.size w21 w22 := by rw [hw22]; exact zba _ _
        have HW22 : Hid (w21.alloc (.cells #[.bool s', .slice A2 m' d'] 27) = w22) := Lib.hid hw22.symm
        have nn_x_y : ¬ (wr.heap.size = w21.heap.size) := by have := H_x.out.2.2.2.2; omega
        have nm_x_y : ¬ (w21.heap.size = wr.heap.size) := by omega
        have lw_y : w.heap.size ≤ w21.heap.size := by have := hW.size; omega
        replace H_x := Lib.hid (H_x.out.below z22)
        replace hv := hv.below z22
        replace hv' := hv'.below z22
        replace hW := hW.trans (z22.mono hW.size)
        have H_y : Hid (Ib w22 w21.heap.size s' A2 m' d') := Lib.hid (by rw [hw22]; exact Ib.new _ _ _ _ _ _)
        clear z22 hw22
        obtain ⟨x1, x2, x3, x4, x5⟩ := O_x.out
        go_upto_region 7 with fail
        rw [HW22.out]
        clear x1 x2 x3 x4 x5 O_x
        clear c3 c4
        obtain ⟨x1, x2, x3, x4, x5⟩ := H_x.out
        obtain ⟨y1, y2, y3, y4, y5⟩ := H_y.out
        go_wp2_with fail
        clear x1 x2 x3 x4 x5 y1 y2 y3 y4 y5
        refine (zsame_v hv hv' (by omega) (by omega) HBB.out).mono ?_
        rintro e w9 ⟨rfl, B9⟩
        replace hW := hW.trans (B9.mono hW.size)
        clear hv hv' B9 H_x H_y
        cases bb
        · have hne : zs ≠ zs' := fun e => by have h1 := HBB.out; rw [e] at h1; simp at h1
          have hbf : b = false := by rw [← Hb.out]; exact decide_eq_false hne
          have HBF := Lib.hid hbf
          clear hne hbf
          go_wp2_with fail
          exact bodyPost_ret (v := .bool false) (by simp [results, Tryz.results54, go_sem]) rfl ⟨by rw [HBF.out], hW⟩
        · have he : ith zs j = ith zs' j := of_decide_eq_true HBB.out
          have HE2 : Hid (∀ i, i < j + 1 → ith zs i = ith zs' i) := Lib.hid fun i hi => by
            rcases Nat.lt_or_ge i j with h | h
            · exact HE.out i h
            · rw [show i = j by omega]; exact he
          have HW2 := Lib.hid hW
          clear he hW
          go_wp2_with fail
          go_roundw
          case rel => exact ⟨j + 1, by go_num, by omega, HE2, HW2⟩
          case measure => first | (simp [intOf]; done) | (simp [intOf]; omega)
      · obtain rfl : j = n := by omega
        have he : zs = zs' := ext_ith (by rw [HN.out, HN'.out]) fun i hi => HE.out i (by rw [HN.out] at hi; exact hi)
        have hbt : b = true := by rw [← Hb.out]; exact decide_eq_true he
        have HBT := Lib.hid hbt
        clear he hbt
        go_wp2_with fail
        exact bodyPost_ret (v := .bool true) (by simp [results, Tryz.results54, go_sem]) rfl ⟨by rw [HBT.out], hW⟩
  · have hne : zs ≠ zs' := fun e => hnn (by rw [← HN.out, ← HN'.out, e])
    have hbf : b = false := by rw [← Hb.out]; exact decide_eq_false hne
    have HBF := Lib.hid hbf
    have hnb : (((n : Int) == (n' : Int))) = false := by rw [beq_eq_false_iff_ne]; omega
    have hnb2 : ¬ ((n : Int) = (n' : Int)) := by omega
    clear hne hbf
    go_enter Tryz.func54, Tryz.ntmps54
    go_wp2_with fail
    exact bodyPost_ret (v := .bool false) (by simp [results, Tryz.results54, go_sem]) rfl ⟨by rw [HBF.out], Below.refl _ _⟩
set_option maxRecDepth 100000 in
set_option maxHeartbeats 1000000 in
/-- zpoly.Same. -/
theorem zsamep_v {q : Bool} {A : Option Addr} {n c k : Nat} {zs : List Int} {q' : Bool} {A' : Option Addr} {n' c' k' : Nat} {zs' : List Int} {b : Bool} {w : World} (hx : ZL q w A n c k zs) (hy : ZL q' w A' n' c' k' zs') (hk : k ≤ 1099511627776) (hk' : k' ≤ 1099511627776) (hb : decide (nrz zs = nrz zs') = b) :
    Calls Tryz.prog 22 #[.slice A n c, .slice A' n' c'] w (fun e w' => e = .returned (.bool b) ∧ Below w.heap.size w w') := by
  obtain ⟨L1, hL1⟩ : ∃ L, slZ zs = L := ⟨_, rfl⟩
  obtain ⟨L2, hL2⟩ : ∃ L, slZ zs' = L := ⟨_, rfl⟩
  have b1 : L1 ≤ n := by have := slZ_le zs; rw [hx.len] at this; omega
  have b2 : L2 ≤ n' := by have := slZ_le zs'; rw [hy.len] at this; omega
  have HX := Lib.hid (hx.take (m := L1) (d := c) b1 (by have := hx.le; omega) hx.cap)
  have HY := Lib.hid (hy.take (m := L2) (d := c') b2 (by have := hy.le; omega) hy.cap)
  rw [show zs.take L1 = nrz zs by rw [← hL1]; rfl] at HX
  rw [show zs'.take L2 = nrz zs' by rw [← hL2]; rfl] at HY
  have HL1 := Lib.hid hL1
  have HL2 := Lib.hid hL2
  have HY0 := Lib.hid hy
  have Hb := Lib.hid hb
  clear hL1 hL2 hb
  go_enter Tryz.func22, Tryz.ntmps22
  go_wp2_with fail
  refine (ztrim_v hx (by omega) HL1.out).mono ?_
  rintro e w1 ⟨rfl, B1⟩
  clear hx hy
  go_wp2_with fail
  refine (ztrim_v (HY0.out.below B1) (by omega) HL2.out).mono ?_
  rintro e w2 ⟨rfl, B2⟩
  have hW : Below w.heap.size w w2 := B1.trans (B2.mono B1.size)
  clear B1 B2 HY0
  go_wp2_with fail
  refine (zequal_v (HX.out.below hW) (HY.out.below hW) hk hk' Hb.out).mono ?_
  rintro e w3 ⟨rfl, B3⟩
  go_wp2_with fail
  exact bodyPost_ret (v := .bool b) (by simp [results, Tryz.results22, go_sem]) rfl ⟨rfl, hW.trans (B3.mono hW.size)⟩
set_option maxRecDepth 100000 in
set_option maxHeartbeats 1000000 in
/-- zpoly.Derive. -/
theorem zderive_v {q : Bool} {A : Option Addr} {n c k : Nat} {zs : List Int} {w : World} (hx : ZL q w A n c k zs) (hk : k ≤ 549755813888) (hn : n ≤ 8796093022208) :
    Calls Tryz.prog 38 #[.slice A n c] w (ZlPost (nrz (derI zs)) (k + 1) w) := by
  have HX0 := Lib.hid hx
  have HN := Lib.hid hx.len
  clear hx
  rcases Nat.eq_zero_or_pos n with h0 | h0
  · have e : nrz (derI zs) = [] := by unfold derI; rw [HN.out, h0]; rfl
    have E := Lib.hid e
    subst h0
    clear e
    go_enter Tryz.func38, Tryz.ntmps38
    go_wp2_with fail
    exact bodyPost_ret (v := .slice none 0 0) (by simp [results, Tryz.results38, go_sem]) rfl ⟨none, 0, 0, rfl, by rw [E.out]; exact ZL.nil _ _ _, Below.refl _ _⟩
  · skip
    obtain ⟨L, hL⟩ : ∃ L, n = L + 1 := ⟨n - 1, by omega⟩
    have hLi : (n : Int) - 1 = (L : Int) := by omega
    have hne : ((n : Int) == 0) = false := by rw [beq_eq_false_iff_ne]; omega
    have hL1 : L + 1 ≤ n := by omega
    have hL2 : n ≤ L + 1 := by omega
    clear hL
    go_enter Tryz.func38, Tryz.ntmps38
    go_wp2_with (at_make; refine wpList_make_z _ rfl _ _ 23 rfl Tryz.underlying23 info_zint _ _ _ _ L rfl rfl (by omega) (by omega) (by omega) ?_)
    intro w2 hb hw2 hz2
    obtain ⟨gB, hgB⟩ : ∃ q, w.heap.size = q := ⟨_, rfl⟩
    have hg : w.heap.size ≤ gB := by omega
    rw [hgB] at hb
    have HB : Hid (Below w.heap.size w w2 ∧ ZB w2 gB (k + 1) (upd (List.replicate L 0) 0 0 (fun j => ((j + 1 : Nat) : Int) * ith zs (j + 1)))) := Lib.hid ⟨hw2, by rw [upd_zero]; exact hb.mono (Nat.zero_le _)⟩
    rw [hgB]
    clear hb hw2 hz2 hgB hLi hne
    go_wp2_with fail
    go_loopw [14] (fun s14 wr => ∃ j : Nat, s14 = .int .i64 (j : Int) ∧ j ≤ L ∧ Hid (Below w.heap.size w wr ∧ ZB wr gB (k + 1) (upd (List.replicate L 0) 0 j (fun j => ((j + 1 : Nat) : Int) * ith zs (j + 1))))) (fun s14 _ => L - (intOf s14).toNat)
    case atStart => exact ⟨0, rfl, Nat.zero_le _, HB⟩
    case round =>
      clear HB
      obtain ⟨j, rfl, hj, HB⟩ := hrel
      obtain ⟨hW, hb⟩ := HB.out
      clear HB
      by_cases hlt : j < L
      · obtain ⟨ad, rfl, hab, s, A', m, d, c1, c2, ze, hm⟩ := (HX0.out.below hW).at (j := j + 1) (by omega)
        have hv := ze.1
        obtain ⟨j1, hj1⟩ : ∃ q, j + 1 = q := ⟨_, rfl⟩
        rw [hj1] at c1 c2 hv
        obtain ⟨x, hx⟩ : ∃ x, ith zs j1 = x := ⟨_, rfl⟩
        rw [hx] at hv
        have HF : Hid ((j1 : Int) * x = ((j + 1 : Nat) : Int) * ith zs (j + 1)) := Lib.hid (by rw [hj1, hx])
        have hj1n : j1 < n := by omega
        have hlen : (upd (List.replicate L 0) 0 j (fun j => ((j + 1 : Nat) : Int) * ith zs (j + 1))).length = L := by rw [upd_length, List.length_replicate]
        have HO := Lib.hid hb
        have hjw : Hid (IntKind.i64.wrap ((j : Int) + 1) = (j1 : Int)) := Lib.hid (by rw [IntKind.wrap_i64]; omega)
        clear hb ze hx
        go_wp2_with fail
        refine region8 [] 12 [IsK (.slice (some ⟨gB, 0, none⟩) L L), IsK (.int .i64 (j : Int)), IsK (.int .i64 (j : Int)), IsK (.int .i64 (j1 : Int)), IsC (j1 : Int) 1, IsK (.slice (some ad) n c), IsK (.int .i64 (j : Int)), IsK (.int .i64 (j1 : Int)), IsK (.pointer (some (ad.add (j1 * 2)))), IsK (.agg #[.bool s, .slice A' m d]), IsC ((j1 : Int) * x) (k + 1), IsK (.pointer (some ⟨gB, 0 + j * 2, none⟩))] (fun _ _ d _ _ h => by cases d <;> exact h) (by kernel_rfl) (by kernel_rfl) (by kernel_rfl) ⟨stay_k _, stay_k _, stay_k _, stay_k _, stay_c _ _, stay_k _, stay_k _, stay_k _, stay_k _, stay_k _, stay_c _ _, stay_k _, trivial⟩ ?_ ?_
        · refine HopAll.cons rfl ?_ (HopAll.cons rfl ?_ (HopAll.cons rfl ?_ (HopAll.cons rfl ?_ (HopAll.cons rfl ?_ (HopAll.cons rfl ?_ (HopAll.cons rfl ?_ (HopAll.cons rfl ?_ (HopAll.cons rfl ?_ (HopAll.cons rfl ?_ (HopAll.cons rfl ?_ (HopAll.cons rfl ?_ HopAll.nil)))))))))))
          · intro a w1 hB ho hp Kq hKq
            have e3 : a.eval (.tmp 3) = (.slice (some ⟨gB, 0, none⟩) L L) := ho 3 (by kernel_rfl)
            refine hop_val (wanted_none rfl) ?_ (hKq (.slice (some ⟨gB, 0, none⟩) L L) _ rfl (Below.refl _ _))
            unfold execOp; simp only [eval_const, e3]; simp [go_sem]
          · intro a w1 hB ho hp Kq hKq
            have e4 : a.eval (.tmp 4) = (.int .i64 (j : Int)) := ho 4 (by kernel_rfl)
            refine hop_val (wanted_none rfl) ?_ (hKq (.int .i64 (j : Int)) _ rfl (Below.refl _ _))
            unfold execOp; simp only [eval_const, e4]; simp [go_sem]
          · intro a w1 hB ho hp Kq hKq
            have e4 : a.eval (.tmp 4) = (.int .i64 (j : Int)) := ho 4 (by kernel_rfl)
            refine hop_val (wanted_none rfl) ?_ (hKq (.int .i64 (j : Int)) _ rfl (Below.refl _ _))
            unfold execOp; simp only [eval_const, e4]; simp [go_sem]
          · intro a w1 hB ho hp Kq hKq
            have e19 : a.eval (.tmp 19) = (.int .i64 (j : Int)) := hp 2 19 (by kernel_rfl)
            refine hop_val (wanted_none rfl) ?_ (hKq (.int .i64 (j1 : Int)) _ rfl (Below.refl _ _))
            unfold execOp; simp only [eval_const, e19]; simp [go_sem, hjw.out]
          · intro a w1 hB ho hp Kq hKq
            have e20 : a.eval (.tmp 20) = (.int .i64 (j1 : Int)) := hp 3 20 (by kernel_rfl)
            refine hop_call (wanted_none rfl) rfl (args := #[(.int .i64 (j1 : Int))]) (by simp only [List.map_toArray, List.map_cons, List.map_nil, eval_const, e20]) (ent7 (by kernel_rfl) _ _) (zof_v (j1 : Int) (by omega) (by omega) _) ?_
            rintro e w2 ⟨sq, Aq, nq, cq, rfl, pq, kq, Bq⟩
            exact ⟨_, rfl, hKq _ _ ⟨sq, Aq, nq, cq, rfl, pq, by omega⟩ Bq⟩
          · intro a w1 hB ho hp Kq hKq
            have e0 : a.eval (.tmp 0) = (.slice (some ad) n c) := ho 0 (by kernel_rfl)
            refine hop_val (wanted_none rfl) ?_ (hKq (.slice (some ad) n c) _ rfl (Below.refl _ _))
            unfold execOp; simp only [eval_const, e0]; simp [go_sem]
          · intro a w1 hB ho hp Kq hKq
            have e4 : a.eval (.tmp 4) = (.int .i64 (j : Int)) := ho 4 (by kernel_rfl)
            refine hop_val (wanted_none rfl) ?_ (hKq (.int .i64 (j : Int)) _ rfl (Below.refl _ _))
            unfold execOp; simp only [eval_const, e4]; simp [go_sem]
          · intro a w1 hB ho hp Kq hKq
            have e23 : a.eval (.tmp 23) = (.int .i64 (j : Int)) := hp 6 23 (by kernel_rfl)
            refine hop_val (wanted_none rfl) ?_ (hKq (.int .i64 (j1 : Int)) _ rfl (Below.refl _ _))
            unfold execOp; simp only [eval_const, e23]; simp [go_sem, hjw.out]
          · intro a w1 hB ho hp Kq hKq
            have e22 : a.eval (.tmp 22) = (.slice (some ad) n c) := hp 5 22 (by kernel_rfl)
            have e24 : a.eval (.tmp 24) = (.int .i64 (j1 : Int)) := hp 7 24 (by kernel_rfl)
            refine hop_val (wanted_none rfl) ?_ (hKq (.pointer (some (ad.add (j1 * 2)))) _ rfl (Below.refl _ _))
            unfold execOp; simp only [eval_const, Option.map_some, Option.map_none, e22, e24]; simp [run_ixP hj1n]
          · intro a w1 hB ho hp Kq hKq
            have e25 : a.eval (.tmp 25) = (.pointer (some (ad.add (j1 * 2)))) := hp 8 25 (by kernel_rfl)
            exact hop_load (wanted_none rfl) rfl e25 (run_ldzA ((hB.cell (p := ad.add (j1 * 2)) (by rw [add_block]; exact hab)).trans c1) ((hB.cell (p := ⟨(ad.add (j1 * 2)).block, (ad.add (j1 * 2)).off + 1, none⟩) (by show (ad.add (j1 * 2)).block < _; rw [add_block]; exact hab)).trans c2)) (hKq _ _ rfl (Below.refl _ _))
          · intro a w1 hB ho hp Kq hKq
            obtain ⟨s_21, A_21, n_21, c_21, e21, ⟨p21, k21⟩⟩ : IsC (j1 : Int) 1 (a.eval (.tmp 21)) w1 := hp 4 21 (by kernel_rfl)
            have e26 : a.eval (.tmp 26) = (.agg #[.bool s, .slice A' m d]) := hp 9 26 (by kernel_rfl)
            refine hop_call (wanted_none rfl) rfl (args := #[(.agg #[.bool s_21, .slice A_21 n_21 c_21]), (.agg #[.bool s, .slice A' m d])]) (by simp only [List.map_toArray, List.map_cons, List.map_nil, eval_const, e21, e26]) (ent7 (by kernel_rfl) _ _) (zmul_v p21.zv (hv.below hB) (by omega) (by omega)) ?_
            rintro e w2 ⟨sq, Aq, nq, cq, rfl, pq, kq, Bq⟩
            exact ⟨_, rfl, hKq _ _ ⟨sq, Aq, nq, cq, rfl, pq, by omega⟩ Bq⟩
          · intro a w1 hB ho hp Kq hKq
            have e17 : a.eval (.tmp 17) = (.slice (some ⟨gB, 0, none⟩) L L) := hp 0 17 (by kernel_rfl)
            have e18 : a.eval (.tmp 18) = (.int .i64 (j : Int)) := hp 1 18 (by kernel_rfl)
            refine hop_val (wanted_none rfl) ?_ (hKq (.pointer (some ⟨gB, 0 + j * 2, none⟩)) _ rfl (Below.refl _ _))
            unfold execOp; simp only [eval_const, Option.map_some, Option.map_none, e17, e18]; simp [run_ixP0 hlt]
        intro w21 B21
        refine EndAll.one rfl fun vv hv => ?_
        obtain rfl : vv = (.slice (some ⟨gB, 0, none⟩) L L) := hv
        refine EndAll.one rfl fun vv hv => ?_
        obtain rfl : vv = (.int .i64 (j : Int)) := hv
        refine EndAll.one rfl fun vv hv => ?_
        obtain rfl : vv = (.int .i64 (j : Int)) := hv
        refine EndAll.one rfl fun vv hv => ?_
        obtain rfl : vv = (.int .i64 (j1 : Int)) := hv
        refine EndAll.one rfl fun vv hv => ?_
        obtain ⟨s22, A22, n22, c22, rfl, ⟨p22, k22⟩⟩ : IsC (j1 : Int) 1 vv w21 := hv
        refine EndAll.one rfl fun vv hv => ?_
        obtain rfl : vv = (.slice (some ad) n c) := hv
        refine EndAll.one rfl fun vv hv => ?_
        obtain rfl : vv = (.int .i64 (j : Int)) := hv
        refine EndAll.one rfl fun vv hv => ?_
        obtain rfl : vv = (.int .i64 (j1 : Int)) := hv
        refine EndAll.one rfl fun vv hv => ?_
        obtain rfl : vv = (.pointer (some (ad.add (j1 * 2)))) := hv
        refine EndAll.one rfl fun vv hv => ?_
        obtain rfl : vv = (.agg #[.bool s, .slice A' m d]) := hv
        refine EndAll.one rfl fun vv hv => ?_
        obtain ⟨s23, A23, n23, c23, rfl, ⟨p23, k23⟩⟩ : IsC ((j1 : Int) * x) (k + 1) vv w21 := hv
        refine EndAll.one rfl fun vv hv => ?_
        obtain rfl : vv = (.pointer (some ⟨gB, 0 + j * 2, none⟩)) := hv
        refine EndAll.nil (l := [_]) rfl ?_
        simp only [Act.put, List.setIfInBounds_toArray, List.set_cons_zero, List.set_cons_succ]
        replace hv := hv.below B21
        replace hW := hW.trans (B21.mono hW.size)
        have pz := p23
        clear p22 p23
        have kz := k23
        rw [HF.out] at pz
        have hb := HO.out.below B21
        have hW2 := hW
        clear HO hW hv c1 c2 B21
        obtain ⟨t1, t2, t3, t4, x1, x2, -, -⟩ := hb.cells (j := j) (by omega)
        have y1 := hb.free (j * 2)
        have y2 := hb.free (j * 2 + 1)
        have hs := hb.put (j := j) (by omega) pz kz
        have hgr := zputo_gro w21 gB (j * 2) s23 A23 n23 c23
        have hno := hb.now
        have hG := Lib.hid (gro_up hW2 hgr hg)
        have hu := upd_set (xs := List.replicate L 0) (o := 0) (i := j) (f := fun j => ((j + 1 : Nat) : Int) * ith zs (j + 1)) (by rw [List.length_replicate]; omega)
        rw [Nat.zero_add] at hu
        rw [hu] at hs
        have HS := Lib.hid hs
        unfold zputo at HS hG
        clear hs hu hgr hno hb hW2
        go_wp2_with fail
        go_roundw
        case rel => exact ⟨j + 1, by go_num, by omega, Lib.hid ⟨hG.out, HS.out⟩⟩
        case measure => first | (simp [intOf]; done) | (simp [intOf]; omega)
      · obtain rfl : j = L := by omega
        rw [upd_all] at hb
        have e0 : mkz j (fun j => ((j + 1 : Nat) : Int) * ith zs (j + 1)) = derI zs := by unfold derI; rw [HN.out, show n - 1 = j by omega]
        rw [e0] at hb
        have hlx : (derI zs).length = j := by rw [← e0, mkz_length]
        clear e0
        obtain ⟨M, hM⟩ : ∃ M, slZ (derI zs) = M := ⟨_, rfl⟩
        have hMj : M ≤ j := by have := slZ_le (derI zs); omega
        have hl := hb.zl0 false (n := j) (c := j) (by omega) (Nat.le_refl _) (by omega)
        rw [List.take_of_length_le (by omega)] at hl
        go_wp2_with fail
        refine (ztrim_v hl (by omega) hM).mono ?_
        rintro e w3 ⟨rfl, B3⟩
        have hr := (hb.below B3).nrz hM hMj (by omega)
        go_wp2_with fail
        exact bodyPost_ret (v := .slice (some ⟨gB, 0, none⟩) M j) (by simp [results, Tryz.results38, go_sem]) rfl ⟨_, M, j, rfl, hr, hW.trans (B3.mono hW.size)⟩
end Go.Proofs.YtddbhhedjipjkaaGreatDoor
