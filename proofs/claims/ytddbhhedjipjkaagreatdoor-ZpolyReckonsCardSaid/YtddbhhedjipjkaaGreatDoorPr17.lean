/-
  ZlE ZputA ZintB ZlJ
-/
import Derived.Test.YtddbhhedjipjkaaGreatDoorPr16
import Derived.Test.YtddbhhedjipjkaaGreatDoorPr07

section
namespace Go.Proofs.YtddbhhedjipjkaaGreatDoor
open Go.RowKit
set_option linter.unusedVariables false
set_option linter.unusedSimpArgs false
theorem run_sdP {w : World} {g m cap j : Nat} (h : j < m) (hc : m ≤ cap) : (Instr.sliceAt 23 (.slice (some ⟨g, 0, none⟩) m cap) (some (.int .i64 (j : Int))) none none).run Tryz.prog w = .ok (.slice (some ⟨g, j * 2, none⟩) (m - j) (cap - j)) w := by
  have e1 : ¬ (cap = j) := by omega
  simp [go_sem, Tryz.underlying23, Instr.slice, Instr.sliceBounds, Instr.sliceBound, add_lit0, zp_cells, e1]
  omega
set_option maxRecDepth 100000 in
set_option maxHeartbeats 1000000 in
theorem zmulp_v {q : Bool} {A : Option Addr} {n c k : Nat} {zs : List Int} {q' : Bool} {A' : Option Addr} {n' c' k' : Nat} {zs' : List Int} {KK : Nat} {w : World} (hx : ZL q w A n c k zs) (hy : ZL q' w A' n' c' k' zs') (hKK : k + k' + n + 1 ≤ KK) (hKb : KK ≤ 549755813888) (hn : n ≤ 1099511627776) (hn' : n' ≤ 1099511627776) :
    Calls Tryz.prog 20 #[.slice A n c, .slice A' n' c'] w (ZlPost (mulN zs zs') KK w) := by
  obtain ⟨L1, hL1⟩ : ∃ L, slZ zs = L := ⟨_, rfl⟩
  obtain ⟨L2, hL2⟩ : ∃ L, slZ zs' = L := ⟨_, rfl⟩
  have b1 : L1 ≤ n := by have := slZ_le zs; rw [hx.len] at this; omega
  have b2 : L2 ≤ n' := by have := slZ_le zs'; rw [hy.len] at this; omega
  have hnc := hx.le
  have hnd := hy.le
  have hcm := hx.cap
  have hdm := hy.cap
  have HX := Lib.hid (hx.take (m := L1) (d := c) b1 (by omega) hcm)
  have HY := Lib.hid (hy.take (m := L2) (d := c') b2 (by omega) hdm)
  rw [show zs.take L1 = nrz zs by rw [← hL1]; rfl] at HX
  rw [show zs'.take L2 = nrz zs' by rw [← hL2]; rfl] at HY
  have h1 : (nrz zs).length = L1 := by rw [nrz_length, hL1]
  have h2 : (nrz zs').length = L2 := by rw [nrz_length, hL2]
  have H1 := Lib.hid h1
  have H2 := Lib.hid h2
  have HL1 := Lib.hid hL1
  have HL2 := Lib.hid hL2
  have HY0 := Lib.hid hy
  clear h1 h2 hL1 hL2
  go_enter Tryz.func20, Tryz.ntmps20
  go_wp2_with fail
  refine (ztrim_v hx (by omega) HL1.out).mono ?_
  rintro e w1 ⟨rfl, B1⟩
  clear hx hy
  go_wp2_with fail
  refine (ztrim_v (HY0.out.below B1) (by omega) HL2.out).mono ?_
  rintro e w2 ⟨rfl, B2⟩
  have hW : Below w.heap.size w w2 := B1.trans (B2.mono B1.size)
  clear B1 B2 HY0
  rcases Nat.eq_zero_or_pos L1 with h0 | h0
  · have E := Lib.hid (mulN_nil zs zs' (.inl (List.length_eq_zero_iff.1 (H1.out.trans h0))))
    subst h0
    clear HL1 HX
    go_wp2_with fail
    exact bodyPost_ret (v := .slice none 0 0) (by simp [results, Tryz.results20, go_sem]) rfl ⟨none, 0, 0, rfl, by rw [E.out]; exact ZL.nil _ _ _, hW⟩
  · rcases Nat.eq_zero_or_pos L2 with h3 | h3
    · have E := Lib.hid (mulN_nil zs zs' (.inr (List.length_eq_zero_iff.1 (H2.out.trans h3))))
      have hne : ((L1 : Int) == 0) = false := by rw [beq_eq_false_iff_ne]; omega
      subst h3
      clear HL2 HY
      go_wp2_with fail
      exact bodyPost_ret (v := .slice none 0 0) (by simp [results, Tryz.results20, go_sem]) rfl ⟨none, 0, 0, rfl, by rw [E.out]; exact ZL.nil _ _ _, hW⟩
    · have hne : ((L1 : Int) == 0) = false := by rw [beq_eq_false_iff_ne]; omega
      have hme : ((L2 : Int) == 0) = false := by rw [beq_eq_false_iff_ne]; omega
      have hLi : (L1 : Int) + (L2 : Int) - 1 = ((L1 + L2 - 1 : Nat) : Int) := by omega
      obtain ⟨L, hL⟩ : ∃ L, L1 + L2 - 1 = L := ⟨_, rfl⟩
      rw [hL] at hLi
      have HL := Lib.hid hL
      have hLb : L ≤ 8796093022208 := by omega
      have hLw : IntKind.i64.wrap ((L1 : Int) + (L2 : Int)) = (L1 : Int) + (L2 : Int) := by rw [IntKind.wrap_i64]; omega
      clear hL
      go_wp2_with (at_make; refine wpList_make_z _ rfl _ _ 23 rfl Tryz.underlying23 info_zint _ _ _ _ L rfl rfl (by omega) (by omega) (by omega) ?_)
      intro w3 hb hw3 hz3
      obtain ⟨gB, hgB⟩ : ∃ q, w2.heap.size = q := ⟨_, rfl⟩
      have hg : w.heap.size ≤ gB := by have := hW.size; omega
      rw [hgB] at hb
      have HB : Hid (Below w.heap.size w w3 ∧ ∃ S : List Int, ZB w3 gB (k + k' + 0) S ∧ MulMid (nrz zs) (nrz zs') 0 S) := Lib.hid ⟨hW.trans (hw3.mono hW.size), _, hb.mono (Nat.zero_le _), by have := mulmid_zero (xs := nrz zs) (ys := nrz zs'); rwa [H1.out, H2.out, HL.out] at this⟩
      rw [hgB]
      clear hb hw3 hz3 hgB hLi hLw hne hme
      go_wp2_with fail
      go_loopw [29] (fun s29 wr => ∃ j : Nat, s29 = .int .i64 (j : Int) ∧ j ≤ L1 ∧ Hid (Below w.heap.size w wr ∧ ∃ S : List Int, ZB wr gB (k + k' + j) S ∧ MulMid (nrz zs) (nrz zs') j S)) (fun s29 _ => L1 - (intOf s29).toNat)
      case atStart => exact ⟨0, rfl, Nat.zero_le _, HB⟩
      case round =>
        clear HB
        obtain ⟨j, rfl, hj, HB⟩ := hrel
        obtain ⟨hW2, S, hb, hmid⟩ := HB.out
        have HM := Lib.hid hmid
        clear HB hmid hW
        by_cases hlt : j < L1
        · obtain ⟨ad, rfl, hab, s, Ax, m, d, c1, c2, ze, hm⟩ := (HX.out.below hW2).at (j := j) hlt
          have hv := ze.1
          have u1 : (0 : Int) ≤ (j : Int) := by omega
          have u2 : (j : Int) < (L1 : Int) := by omega
          have hS : S.length = L := by rw [HM.out.1, H1.out, H2.out]; exact HL.out
          have hjL : j < L := by have := HL.out; omega
          have hgl := hb.lt
          have HO := Lib.hid hb
          have hW := hW2
          clear hb ze hW2
          obtain ⟨w21, hw21⟩ : ∃ xw, xw = wr.alloc (.cells #[.bool s, .slice Ax m d] 27) := ⟨_, rfl⟩
          have z21 : Below wr.heap.size wr w21 := by rw [hw21]; exact zba _ _
          have HXB := z21
          have HW21 : Hid (wr.alloc (.cells #[.bool s, .slice Ax m d] 27) = w21) := Lib.hid hw21.symm
          have lw_x : w.heap.size ≤ wr.heap.size := by have := hW.size; omega
          replace hv := hv.below z21
          replace hW := hW.trans (z21.mono hW.size)
          have H_x : Hid (Ib w21 wr.heap.size s Ax m d) := Lib.hid (by rw [hw21]; exact Ib.new _ _ _ _ _ _)
          clear z21 hw21
          go_wp2_with fail
          rw [HW21.out]
          refine region8 [] 5 [IsK (.slice (some ⟨gB, 0, none⟩) L L), IsK (.int .i64 (j : Int)), IsK (.slice (some ⟨gB, j * 2, none⟩) (L - j) (L - j)), IsK (.slice A' L2 c'), IsK (.agg #[.bool s, .slice Ax m d])] (fun _ _ d _ _ h => by cases d <;> exact h) (by kernel_rfl) (by kernel_rfl) (by kernel_rfl) ⟨stay_k _, stay_k _, stay_k _, stay_k _, stay_k _, trivial⟩ ?_ ?_
          · refine HopAll.cons rfl ?_ (HopAll.cons rfl ?_ (HopAll.cons rfl ?_ (HopAll.cons rfl ?_ (HopAll.cons rfl ?_ HopAll.nil))))
            · intro a w1 hB ho hp Kq hKq
              have e5 : a.eval (.tmp 5) = (.slice (some ⟨gB, 0, none⟩) L L) := ho 5 (by kernel_rfl)
              refine hop_val (wanted_none rfl) ?_ (hKq (.slice (some ⟨gB, 0, none⟩) L L) _ rfl (Below.refl _ _))
              unfold execOp; simp only [eval_const, e5]; simp [go_sem]
            · intro a w1 hB ho hp Kq hKq
              have e6 : a.eval (.tmp 6) = (.int .i64 (j : Int)) := ho 6 (by kernel_rfl)
              refine hop_val (wanted_none rfl) ?_ (hKq (.int .i64 (j : Int)) _ rfl (Below.refl _ _))
              unfold execOp; simp only [eval_const, e6]; simp [go_sem]
            · intro a w1 hB ho hp Kq hKq
              have e34 : a.eval (.tmp 34) = (.slice (some ⟨gB, 0, none⟩) L L) := hp 0 34 (by kernel_rfl)
              have e35 : a.eval (.tmp 35) = (.int .i64 (j : Int)) := hp 1 35 (by kernel_rfl)
              refine hop_val (wanted_none rfl) ?_ (hKq (.slice (some ⟨gB, j * 2, none⟩) (L - j) (L - j)) _ rfl (Below.refl _ _))
              unfold execOp; simp only [eval_const, Option.map_some, Option.map_none, e34, e35]; simp [run_sdP hjL (Nat.le_refl L)]
            · intro a w1 hB ho hp Kq hKq
              have e1 : a.eval (.tmp 1) = (.slice A' L2 c') := ho 1 (by kernel_rfl)
              refine hop_val (wanted_none rfl) ?_ (hKq (.slice A' L2 c') _ rfl (Below.refl _ _))
              unfold execOp; simp only [eval_const, e1]; simp [go_sem]
            · intro a w1 hB ho hp Kq hKq
              have e7 : a.eval (.tmp 7) = (.pointer (some ⟨wr.heap.size, 0, none⟩)) := ho 7 (by kernel_rfl)
              obtain ⟨u1, u2, u3, u4, u5⟩ := H_x.out.below hB
              exact hop_load (wanted_none rfl) rfl e7 (run_ldz u1 u2) (hKq _ _ rfl (Below.refl _ _))
          intro w22 B22
          refine EndAll.one rfl fun vv hv => ?_
          obtain rfl : vv = (.slice (some ⟨gB, 0, none⟩) L L) := hv
          refine EndAll.one rfl fun vv hv => ?_
          obtain rfl : vv = (.int .i64 (j : Int)) := hv
          refine EndAll.one rfl fun vv hv => ?_
          obtain rfl : vv = (.slice (some ⟨gB, j * 2, none⟩) (L - j) (L - j)) := hv
          refine EndAll.one rfl fun vv hv => ?_
          obtain rfl : vv = (.slice A' L2 c') := hv
          refine EndAll.one rfl fun vv hv => ?_
          obtain rfl : vv = (.agg #[.bool s, .slice Ax m d]) := hv
          refine EndAll.nil (l := [_]) rfl ?_
          simp only [Act.put, List.setIfInBounds_toArray, List.set_cons_zero, List.set_cons_succ]
          replace H_x := Lib.hid (H_x.out.below B22)
          replace hv := hv.below B22
          replace hW := hW.trans (B22.mono hW.size)
          have hb2 := (HO.out.below HXB).below B22
          have hy2 := HY.out.below hW
          have hDg : ∀ ad, A' = some ad → ad.block ≠ gB := fun ad e => by
            obtain ⟨ad', e2, hlt2, _⟩ := HY.out.at' h3
            rw [e] at e2; cases e2; omega
          have HO2 := Lib.hid hb2
          clear c1 c2 HXB
          obtain ⟨x1, x2, x3, x4, x5⟩ := H_x.out
          go_wp2_with fail
          clear x1 x2 x3 x4 x5
          refine (zgather_v (K := k + k' + (j + 1)) hb2 hy2 hDg hv (by have := HL.out; omega) (by have := HL.out; omega) (by omega) (by omega) (by omega)).mono ?_
          rintro e w9 ⟨rfl, hb9, hg9⟩
          have hW9 := Lib.hid (gro_up hW hg9 hg)
          have HS := Lib.hid hb9
          have HM2 := Lib.hid (mulmid_step HM.out (by rw [H1.out]; exact hlt) (by rw [H2.out]; exact h3))
          clear hb2 hy2 hDg hb9 hg9 hv HO HO2 hW H_x
          go_wp2_with fail
          go_roundw
          case rel => exact ⟨j + 1, by go_num, by omega, Lib.hid ⟨hW9.out, _, HS.out, HM2.out⟩⟩
          case measure => first | (simp [intOf]; done) | (simp [intOf]; omega)
        · obtain rfl : j = L1 := by omega
          have n1 : nrz zs ≠ [] := fun e => by have := H1.out; rw [e] at this; simp at this; omega
          have n2 : nrz zs' ≠ [] := fun e => by have := H2.out; rw [e] at this; simp at this; omega
          have hm2 := HM.out
          rw [← H1.out] at hm2
          have hS := mulmid_end hm2 (nz_nrz zs) (nz_nrz zs') n1 n2
          rw [mulN_nrz zs zs' n1 n2] at hS
          have hl : S.length = L := by rw [HM.out.1, H1.out, H2.out]; exact HL.out
          have hr := hb.zl0 true (n := L) (c := L) (by omega) (Nat.le_refl _) (by omega)
          rw [List.take_of_length_le (by omega), hS] at hr
          have HR := Lib.hid (hr.mono (k' := KK) (by omega))
          clear hm2 hS hl hr n1 n2 hb
          go_wp2_with fail
          exact bodyPost_ret (v := .slice (some ⟨gB, 0, none⟩) L L) (by simp [results, Tryz.results20, go_sem]) rfl ⟨_, L, L, rfl, HR.out, hW2⟩
end Go.Proofs.YtddbhhedjipjkaaGreatDoor
end

section
namespace Go.Proofs.YtddbhhedjipjkaaGreatDoor
open Go.RowKit
set_option linter.unusedVariables false
set_option linter.unusedSimpArgs false
section
variable {w : World} {g g' n c n0 c0 n' c' : Nat} {s s0 s' : Bool} {A A0 A' : Option Addr}
theorem Ib.zput (h : Ib w g s A n c) (hg : g ≠ g') : Ib (zput w g' s' A' n' c') g s A n c := h.put (l := 0) (e := 0) (u := true) (C := none) hg
theorem Zc.zput {z : Int} (h : Zc w s A n c z) (hi : Ib w g s0 A0 n0 c0) : Zc (zput w g s' A' n' c') s A n c z := h.put hi
theorem Zv.zput {z : Int} (h : Zv w s A n c z) (hi : Ib w g s0 A0 n0 c0) : Zv (zput w g s' A' n' c') s A n c z := h.put hi
end
end Go.Proofs.YtddbhhedjipjkaaGreatDoor
end

section
namespace Go.Proofs.YtddbhhedjipjkaaGreatDoor
open Go.RowKit
set_option linter.unusedVariables false
set_option linter.unusedSimpArgs false
theorem open2 (w : World) (s t : Bool) (A B : Option Addr) (n c m d : Nat) :
    ∃ w3, w3 = ((w.alloc (.cells #[.bool s, .slice A n c] 27)).alloc (.cells #[.bool t, .slice B m d] 27)) ∧
      Ib w3 w.heap.size s A n c ∧ Ib w3 (w.heap.size + 1) t B m d ∧ Below w.heap.size w w3 := by
  refine ⟨_, rfl, ?_, ?_, zba2 _ _ _⟩
  · exact (Ib.new w s A n c _).below (zba _ _)
  · have := Ib.new (w.alloc (.cells #[.bool s, .slice A n c] 27)) t B m d 27
    simpa using this
theorem sign_apart {X Y : Int} (h : X.sign ≠ Y.sign) : (X.sign - Y.sign).sign = (X - Y).sign := by
  rcases Int.lt_trichotomy X 0 with h1 | h1 | h1
  · rw [Int.sign_eq_neg_one_of_neg h1] at *
    rcases Int.lt_trichotomy Y 0 with h2 | h2 | h2
    · rw [Int.sign_eq_neg_one_of_neg h2] at h; omega
    · subst h2; simp; rw [Int.sign_eq_neg_one_of_neg h1]
    · rw [Int.sign_eq_one_of_pos h2, Int.sign_eq_neg_one_of_neg (a := X - Y) (by omega)]; rfl
  · subst h1
    rcases Int.lt_trichotomy Y 0 with h2 | h2 | h2
    · rw [Int.sign_eq_neg_one_of_neg h2, Int.sign_eq_one_of_pos (a := 0 - Y) (by omega)]; rfl
    · subst h2; simp at h
    · rw [Int.sign_eq_one_of_pos h2, Int.sign_eq_neg_one_of_neg (a := 0 - Y) (by omega)]; rfl
  · rw [Int.sign_eq_one_of_pos h1] at *
    rcases Int.lt_trichotomy Y 0 with h2 | h2 | h2
    · rw [Int.sign_eq_neg_one_of_neg h2, Int.sign_eq_one_of_pos (a := X - Y) (by omega)]; rfl
    · subst h2; simp; rw [Int.sign_eq_one_of_pos h1]
    · rw [Int.sign_eq_one_of_pos h2] at h; omega
theorem sign_neg {X : Int} (h : X.sign < 0) : X < 0 := by
  rcases Int.lt_trichotomy X 0 with h1 | h1 | h1
  · exact h1
  · subst h1; simp at h
  · rw [Int.sign_eq_one_of_pos h1] at h; omega
theorem sign_nonneg {X : Int} (h : ¬ X.sign < 0) : 0 ≤ X := by
  rcases Int.lt_trichotomy X 0 with h1 | h1 | h1
  · rw [Int.sign_eq_neg_one_of_neg h1] at h; omega
  · omega
  · omega
set_option maxRecDepth 100000 in
set_option maxHeartbeats 400000 in
theorem zcmp_v {A B : Option Addr} {n m c d : Nat} {s t : Bool} {x y r : Int} {w : World} (hx : Zv w s A n c x) (hy : Zv w t B m d y) (hn : n ≤ 1099511627776) (hm : m ≤ 1099511627776) (hr : (x - y).sign = r) :
    Calls Tryz.prog 55 #[.agg #[.bool s, .slice A n c], .agg #[.bool t, .slice B m d]] w (IPost r w) := by
  obtain ⟨w3, hw3, IA, IB, z0⟩ := open2 w s t A B n c m d
  have hX := Lib.hid (hx.below z0)
  have hY := Lib.hid (hy.below z0)
  have HZ := Lib.hid z0
  have HW := Lib.hid hw3.symm
  obtain ⟨r1, hr1⟩ : ∃ r1, x.sign = r1 := ⟨_, rfl⟩
  obtain ⟨r2, hr2⟩ : ∃ r2, y.sign = r2 := ⟨_, rfl⟩
  have HR := Lib.hid hr
  have HR1 := Lib.hid hr1
  have HR2 := Lib.hid hr2
  clear hx hy z0 hw3 hr hr1 hr2
  have HA := Lib.hid IA
  have HB := Lib.hid IB
  obtain ⟨a1, a2, a3, a4, a5⟩ := IA
  obtain ⟨b1, b2, b3, b4, b5⟩ := IB
  go_enter Tryz.func55, Tryz.ntmps55
  go_wp2_with fail
  rw [HW.out]
  go_region_held3 (fun w' => w'.cell? ⟨w.heap.size, 0, none⟩ = some (.bool s) ∧ w'.cell? ⟨w.heap.size, 1, none⟩ = some (.slice A n c) ∧ w'.cell? ⟨w.heap.size + 1, 0, none⟩ = some (.bool t) ∧ w'.cell? ⟨w.heap.size + 1, 1, none⟩ = some (.slice B m d)) (go_keep) (first
    | (go_at_call 13; (with_reducible refine (zsign_v (z := x) (hX.out.below (below_drew _)) hn HR1.out).mono ?_); rintro e w4 ⟨rfl, B4⟩; have Q4 := zup (below_drew _) B4; obtain ⟨u1, u2, _⟩ := HA.out.below Q4; obtain ⟨u3, u4, _⟩ := HB.out.below Q4)
    | (go_at_call 13; (with_reducible refine (zsign_v (z := y) (hY.out.below Q4) hm HR2.out).mono ?_); rintro e w5 ⟨rfl, B5⟩; have Q5 := zup Q4 B5; obtain ⟨v1, v2, _⟩ := HA.out.below Q5; obtain ⟨v3, v4, _⟩ := HB.out.below Q5))
  clear u1 u2 u3 u4 a1 a2 a3 a4 a5 b1 b2 b3 b4 b5
  have HQ := Lib.hid (zup HZ.out Q5)
  have XQ := Lib.hid (hX.out.below Q5).abs
  have YQ := Lib.hid (hY.out.below Q5).abs
  clear Q4 Q5 B4 B5
  by_cases h : r1 = r2
  · subst h
    by_cases h0 : r1 < 0
    · have e1 : s = true := by
        have := sign_neg (X := x) (by rw [HR1.out]; exact h0)
        have e := XQ.out.2.out
        cases s
        · simp [sg] at e; omega
        · rfl
      have e2 : t = true := by
        have := sign_neg (X := y) (by rw [HR2.out]; exact h0)
        have e := YQ.out.2.out
        cases t
        · simp [sg] at e; omega
        · rfl
      have hc : cmpN y.natAbs x.natAbs = r := by
        rw [← HR.out, zcmp_tail true (by rw [← e1]; exact XQ.out.2.out) (by rw [← e2]; exact YQ.out.2.out)]; rfl
      have HC := Lib.hid hc
      clear e1 e2 hc
      go_wp2_with fail
      refine (cmp_as YQ.out.1 XQ.out.1 HC.out).mono ?_
      rintro e w6 ⟨rfl, B6⟩
      have HQ2 := Lib.hid (zup HQ.out B6)
      clear B6
      go_wp2_with fail
      go_ret
      exact ⟨rfl, HQ2.out⟩
    · have hc : cmpN x.natAbs y.natAbs = r := by
        have h1 := sign_nonneg (X := x) (by rw [HR1.out]; exact h0)
        have h2 := sign_nonneg (X := y) (by rw [HR2.out]; exact h0)
        rw [← HR.out, zcmp_tail (X := x) (Y := y) (x := x.natAbs) (y := y.natAbs) false (by simp [sg]; omega) (by simp [sg]; omega)]; rfl
      have HC := Lib.hid hc
      clear hc
      go_wp2_with fail
      refine (cmp_as XQ.out.1 YQ.out.1 HC.out).mono ?_
      rintro e w6 ⟨rfl, B6⟩
      have HQ2 := Lib.hid (zup HQ.out B6)
      clear B6
      go_wp2_with fail
      go_ret
      exact ⟨rfl, HQ2.out⟩
  · have q1 : (r1 == r2) = false := by rw [beq_eq_false_iff_ne]; exact h
    have q2 : (r1 != r2) = true := by rw [bne_iff_ne]; exact h
    have hc : (r1 - r2).sign = r := by
      rw [← HR1.out, ← HR2.out, ← HR.out]
      exact sign_apart (by rw [HR1.out, HR2.out]; exact h)
    have HC := Lib.hid hc
    clear hc h
    go_wp2_with fail
    refine (compare_calls r1 r2 r HC.out _).mono ?_
    rintro e w' ⟨rfl, rfl⟩
    go_wp2_with fail
    go_ret
    exact ⟨rfl, HQ.out⟩
theorem zsame_v {A B : Option Addr} {n m c d : Nat} {s t b : Bool} {x y : Int} {w : World} (hx : Zv w s A n c x) (hy : Zv w t B m d y) (hn : n ≤ 1099511627776) (hm : m ≤ 1099511627776) (hb : decide (x = y) = b) :
    Calls Tryz.prog 24 #[.agg #[.bool s, .slice A n c], .agg #[.bool t, .slice B m d]] w fun e w' => e = .returned (.bool b) ∧ Below w.heap.size w w' := by
  obtain ⟨w3, hw3, IA, IB, z0⟩ := open2 w s t A B n c m d
  have hX := hx.below z0
  have hY := hy.below z0
  have HZ := Lib.hid z0
  have HW := Lib.hid hw3.symm
  obtain ⟨r, hr⟩ : ∃ r, (x - y).sign = r := ⟨_, rfl⟩
  have HR := Lib.hid hr
  have q1 : (r == 0) = b := by
    rw [← hb, ← hr, Bool.eq_iff_iff, beq_iff_eq, decide_eq_true_iff, Int.sign_eq_zero_iff_zero]
    omega
  clear hx hy z0 hw3 hr hb
  obtain ⟨a1, a2, a3, a4, a5⟩ := IA
  obtain ⟨b1, b2, b3, b4, b5⟩ := IB
  go_enter Tryz.func24, Tryz.ntmps24
  go_wp2_with fail
  rw [HW.out]
  refine (zcmp_v hX hY hn hm HR.out).mono ?_
  rintro e w4 ⟨rfl, B4⟩
  have HQ := Lib.hid (zup HZ.out B4)
  clear B4 a1 a2 a3 a4 a5 b1 b2 b3 b4 b5 hX hY
  go_wp2_with fail
  go_ret
  exact ⟨rfl, HQ.out⟩
theorem zsame_yes {A B : Option Addr} {n m c d : Nat} {s t : Bool} {x y : Int} {w : World} (hx : Zv w s A n c x) (hy : Zv w t B m d y) (hn : n ≤ 1099511627776) (hm : m ≤ 1099511627776) (h : x = y) :
    Calls Tryz.prog 24 #[.agg #[.bool s, .slice A n c], .agg #[.bool t, .slice B m d]] w (TruePost w) :=
  zsame_v hx hy hn hm (by rw [h]; simp)
def SmallPost (z : Int) (w : World) (e : Ending) (w' : World) : Prop :=
  (e = .returned (.tuple #[.int .i64 (if -9223372036854775808 ≤ z ∧ z ≤ 9223372036854775807 then z else 0), .bool (decide (-9223372036854775808 ≤ z ∧ z ≤ 9223372036854775807))])) ∧ Below w.heap.size w w'
theorem SmallPost.yes {z : Int} {w w' : World} (h1 : -9223372036854775808 ≤ z) (h2 : z ≤ 9223372036854775807) (hb : Below w.heap.size w w') : SmallPost z w (.returned (.tuple #[.int .i64 z, .bool true])) w' :=
  ⟨by rw [if_pos ⟨h1, h2⟩, decide_eq_true ⟨h1, h2⟩], hb⟩
theorem SmallPost.no {z : Int} {w w' : World} (h : ¬ (-9223372036854775808 ≤ z ∧ z ≤ 9223372036854775807)) (hb : Below w.heap.size w w') : SmallPost z w (.returned (.tuple #[.int .i64 0, .bool false])) w' :=
  ⟨by rw [if_neg h, decide_eq_false h], hb⟩
def ZPowPost (z : Int) (k : Nat) (w : World) (e : Ending) (w' : World) : Prop :=
  ∃ s A n c, e = .returned (.tuple #[.agg #[.bool s, .slice A n c], .bool true]) ∧ Zc w' s A n c z ∧ n ≤ k ∧ Below w.heap.size w w'
theorem zfin2 {w w2 : World} {A B : Option Addr} {n c g k m d : Nat} {s t : Bool} {z : Int} (h : Zc w2 s A n c z) (hi : Ib w2 g t B m d) (hk : n ≤ k) (hg : w.heap.size ≤ g) (hB : Below w.heap.size w w2) :
    ZPowPost z k w (.returned (.tuple #[.agg #[.bool s, .slice A n c], .bool true])) ((w2.setCell ⟨g, 0, none⟩ (.bool s)).setCell ⟨g, 1, none⟩ (.slice A n c)) :=
  ⟨s, A, n, c, rfl, h.put hi, hk, below_put hB hg⟩
end Go.Proofs.YtddbhhedjipjkaaGreatDoor
end

section
namespace Go.Proofs.YtddbhhedjipjkaaGreatDoor
open Go.RowKit
set_option linter.unusedVariables false
set_option linter.unusedSimpArgs false
structure IL (w : World) (A : Option Addr) (n c : Nat) (xs : List Int) : Prop where
  len : xs.length = n
  le : n ≤ c
  cap : c ≤ 9223372036854775807
  at' : 0 < n → ∃ ad, A = some ad ∧ ad.block < w.heap.size ∧ ∀ j, j < n → w.cell? (ad.add j) = some (.int .i64 (ith xs j))
  small : ∀ j, -9223372036854775808 ≤ ith xs j ∧ ith xs j ≤ 9223372036854775807
theorem IL.below {w w' : World} {A : Option Addr} {n c : Nat} {xs : List Int} (h : IL w A n c xs) (hb : Below w.heap.size w w') : IL w' A n c xs := ⟨h.len, h.le, h.cap, fun h0 => by
  obtain ⟨ad, rfl, h1, h2⟩ := h.at' h0
  exact ⟨ad, rfl, Nat.lt_of_lt_of_le h1 hb.size, fun j hj => (hb.cell (by rw [add_block]; exact h1)).trans (h2 j hj)⟩, h.small⟩
theorem IL.at {w : World} {A : Option Addr} {n c : Nat} {xs : List Int} (h : IL w A n c xs) {j : Nat} (hj : j < n) : ∃ ad, A = some ad ∧ ad.block < w.heap.size ∧ w.cell? (ad.add j) = some (.int .i64 (ith xs j)) := by
  obtain ⟨ad, e, h1, h2⟩ := h.at' (by omega)
  exact ⟨ad, e, h1, h2 j hj⟩
set_option maxRecDepth 100000 in
set_option maxHeartbeats 1000000 in
theorem zpof_v {A : Option Addr} {n c : Nat} {xs : List Int} {w : World} (hx : IL w A n c xs) (hn : n ≤ 8796093022208) :
    Calls Tryz.prog 43 #[.slice A n c] w (ZlPost (nrz xs) 1 w) := by
  have HX0 := Lib.hid hx
  have HN := Lib.hid hx.len
  clear hx
  go_enter Tryz.func43, Tryz.ntmps43
  go_wp2_with (at_make; refine wpList_make_z _ rfl _ _ 23 rfl Tryz.underlying23 info_zint _ _ _ _ n rfl rfl (by omega) (by omega) (by omega) ?_)
  intro w2 hb hw2 hz2
  obtain ⟨gB, hgB⟩ : ∃ q, w.heap.size = q := ⟨_, rfl⟩
  have hg : w.heap.size ≤ gB := by omega
  rw [hgB] at hb
  have HB : Hid (Below w.heap.size w w2 ∧ ZB w2 gB 1 (upd (List.replicate n 0) 0 0 (ith xs))) := Lib.hid ⟨hw2, by rw [upd_zero]; exact hb.mono (Nat.zero_le _)⟩
  rw [hgB]
  clear hb hw2 hz2 hgB
  go_wp2_with fail
  go_loopw [11] (fun s11 wr => ∃ j : Nat, s11 = .int .i64 (j : Int) ∧ j ≤ n ∧ Hid (Below w.heap.size w wr ∧ ZB wr gB 1 (upd (List.replicate n 0) 0 j (ith xs)))) (fun s11 _ => n - (intOf s11).toNat)
  case atStart => exact ⟨0, rfl, Nat.zero_le _, HB⟩
  case round =>
    clear HB
    obtain ⟨j, rfl, hj, HB⟩ := hrel
    obtain ⟨hW, hb⟩ := HB.out
    clear HB
    by_cases hlt : j < n
    · obtain ⟨ad, rfl, hab, c1⟩ := (HX0.out.below hW).at hlt
      have hsm := HX0.out.small j
      obtain ⟨x, hx⟩ : ∃ x, ith xs j = x := ⟨_, rfl⟩
      have HX := Lib.hid hx
      rw [hx] at c1 hsm
      have u1 : (0 : Int) ≤ (j : Int) := by omega
      have u2 : (j : Int) < (n : Int) := by omega
      have hlen : (upd (List.replicate n 0) 0 j (ith xs)).length = n := by rw [upd_length, List.length_replicate]
      have HO := Lib.hid hb
      clear hb hx
      go_wp2_with fail
      refine (zof_v x hsm.1 hsm.2 _).mono ?_
      rintro e w5 ⟨s5, A5, n5, c5, rfl, pz, kz, B5⟩
      rw [← HX.out] at pz
      have hW2 := hW.trans (B5.mono hW.size)
      have hb := HO.out.below B5
      clear B5 hW HO c1 hsm
      obtain ⟨t1, t2, t3, t4, x1, x2, -, -⟩ := hb.cells (j := j) (by omega)
      have y1 := hb.free (j * 2)
      have y2 := hb.free (j * 2 + 1)
      have hs := hb.put (j := j) (by omega) pz kz
      have hgr := zputo_gro w5 gB (j * 2) s5 A5 n5 c5
      have hno := hb.now
      have hG := Lib.hid (gro_up hW2 hgr hg)
      have hu := upd_set (xs := List.replicate n 0) (o := 0) (i := j) (f := ith xs) (by rw [List.length_replicate]; omega)
      rw [Nat.zero_add] at hu
      rw [hu] at hs
      have HS := Lib.hid hs
      unfold zputo at HS hG
      clear hs hu hgr hno hb hW2
      go_wp2_with fail
      go_roundw
      case rel => exact ⟨j + 1, by go_num, by omega, Lib.hid ⟨hG.out, HS.out⟩⟩
      case measure => first | (simp [intOf]; done) | (simp [intOf]; omega)
    · obtain rfl : j = n := by omega
      have e0 : upd (List.replicate j 0) 0 j (ith xs) = xs := ext_ith (by rw [upd_length, List.length_replicate]; exact HN.out.symm) fun i hi => by
        rw [upd_length, List.length_replicate] at hi
        rw [ith_upd, List.length_replicate, if_pos hi, if_pos ⟨Nat.zero_le _, by omega⟩]
      rw [e0] at hb
      have hlx := HN.out
      clear e0
      obtain ⟨M, hM⟩ : ∃ M, slZ (xs) = M := ⟨_, rfl⟩
      have hMj : M ≤ j := by have := slZ_le (xs); omega
      have hl := hb.zl0 false (n := j) (c := j) (by omega) (Nat.le_refl _) (by omega)
      rw [List.take_of_length_le (by omega)] at hl
      go_wp2_with fail
      refine (ztrim_v hl (by omega) hM).mono ?_
      rintro e w3 ⟨rfl, B3⟩
      have hr := (hb.below B3).nrz hM hMj (by omega)
      go_wp2_with fail
      exact bodyPost_ret (v := .slice (some ⟨gB, 0, none⟩) M j) (by simp [results, Tryz.results43, go_sem]) rfl ⟨_, M, j, rfl, hr, hW.trans (B3.mono hW.size)⟩
set_option maxRecDepth 100000 in
set_option maxHeartbeats 1000000 in
theorem zequal_v {q : Bool} {A : Option Addr} {n c k : Nat} {zs : List Int} {q' : Bool} {A' : Option Addr} {n' c' k' : Nat} {zs' : List Int} {b : Bool} {w : World} (hx : ZL q w A n c k zs) (hy : ZL q' w A' n' c' k' zs') (hk : k ≤ 1099511627776) (hk' : k' ≤ 1099511627776) (hb : decide (zs = zs') = b) :
    Calls Tryz.prog 54 #[.slice A n c, .slice A' n' c', .func (.func 24) #[] #[]] w (fun e w' => e = .returned (.bool b) ∧ Below w.heap.size w w') := by
  have HX0 := Lib.hid hx
  have HY0 := Lib.hid hy
  have HN := Lib.hid hx.len
  have HN' := Lib.hid hy.len
  have Hb := Lib.hid hb
  have hcm := hx.cap
  have hnc := hx.le
  have hdm := hy.cap
  have hnd := hy.le
  clear hx hy hb
  by_cases hnn : n = n'
  · skip
    subst hnn
    have HB : Hid (Below w.heap.size w w) := Lib.hid (Below.refl _ _)
    go_enter Tryz.func54, Tryz.ntmps54
    go_wp2_with fail
    go_loopw [17] (fun s17 wr => ∃ j : Nat, s17 = .int .i64 (j : Int) ∧ j ≤ n ∧ Hid (∀ i, i < j → ith zs i = ith zs' i) ∧ Hid (Below w.heap.size w wr)) (fun s17 _ => n - (intOf s17).toNat)
    case atStart => exact ⟨0, rfl, Nat.zero_le _, Lib.hid fun i hi => by omega, HB⟩
    case round =>
      clear HB
      obtain ⟨j, rfl, hj, HE, HB⟩ := hrel
      have hW := HB.out
      clear HB
      by_cases hlt : j < n
      · obtain ⟨ad, rfl, hab, s, A1, m, d, c1, c2, ze, hm⟩ := (HX0.out.below hW).at (j := j) hlt
        obtain ⟨ad', rfl, hab', s', A2, m', d', c3, c4, ze', hm'⟩ := (HY0.out.below hW).at (j := j) hlt
        have hv := ze.1
        have hv' := ze'.1
        have u1 : (0 : Int) ≤ (j : Int) := by omega
        have u2 : (j : Int) < (n : Int) := by omega
        obtain ⟨bb, hbb⟩ : ∃ bb, decide (ith zs j = ith zs' j) = bb := ⟨_, rfl⟩
        have HBB := Lib.hid hbb
        clear ze ze' hbb
        obtain ⟨w21, hw21⟩ : ∃ xw, xw = wr.alloc (.cells #[.bool s, .slice A1 m d] 27) := ⟨_, rfl⟩
        have z21 : Below wr.heap.size wr w21 := by rw [hw21]; exact zba _ _
        have HXB := z21
        have HW21 : Hid (wr.alloc (.cells #[.bool s, .slice A1 m d] 27) = w21) := Lib.hid hw21.symm
        have lw_x : w.heap.size ≤ wr.heap.size := by have := hW.size; omega
        replace hv := hv.below z21
        replace hv' := hv'.below z21
        replace hW := hW.trans (z21.mono hW.size)
        have H_x : Hid (Ib w21 wr.heap.size s A1 m d) := Lib.hid (by rw [hw21]; exact Ib.new _ _ _ _ _ _)
        clear z21 hw21
        replace c3 := (HXB.cell (p := ad'.add (j * 2)) (by rw [add_block]; exact hab')).trans c3
        replace c4 := (HXB.cell (p := ⟨(ad'.add (j * 2)).block, (ad'.add (j * 2)).off + 1, none⟩) (by show (ad'.add (j * 2)).block < _; rw [add_block]; exact hab')).trans c4
        go_upto_region 6 with fail
        rw [HW21.out]
        clear c1 c2 HXB hab hab'
        have O_x := H_x
        obtain ⟨w22, hw22⟩ : ∃ xw, xw = w21.alloc (.cells #[.bool s', .slice A2 m' d'] 27) := ⟨_, rfl⟩
        have z22 : Below w21.heap.size w21 w22 := by rw [hw22]; exact zba _ _
        have HW22 : Hid (w21.alloc (.cells #[.bool s', .slice A2 m' d'] 27) = w22) := Lib.hid hw22.symm
        have nn_x_y : ¬ (wr.heap.size = w21.heap.size) := by have := H_x.out.2.2.2.2; omega
        have nm_x_y : ¬ (w21.heap.size = wr.heap.size) := by omega
        have lw_y : w.heap.size ≤ w21.heap.size := by have := hW.size; omega
        replace H_x := Lib.hid (H_x.out.below z22)
        replace hv := hv.below z22
        replace hv' := hv'.below z22
        replace hW := hW.trans (z22.mono hW.size)
        have H_y : Hid (Ib w22 w21.heap.size s' A2 m' d') := Lib.hid (by rw [hw22]; exact Ib.new _ _ _ _ _ _)
        clear z22 hw22
        obtain ⟨x1, x2, x3, x4, x5⟩ := O_x.out
        go_upto_region 7 with fail
        rw [HW22.out]
        clear x1 x2 x3 x4 x5 O_x
        clear c3 c4
        obtain ⟨x1, x2, x3, x4, x5⟩ := H_x.out
        obtain ⟨y1, y2, y3, y4, y5⟩ := H_y.out
        go_wp2_with fail
        clear x1 x2 x3 x4 x5 y1 y2 y3 y4 y5
        refine (zsame_v hv hv' (by omega) (by omega) HBB.out).mono ?_
        rintro e w9 ⟨rfl, B9⟩
        replace hW := hW.trans (B9.mono hW.size)
        clear hv hv' B9 H_x H_y
        cases bb
        · have hne : zs ≠ zs' := fun e => by have h1 := HBB.out; rw [e] at h1; simp at h1
          have hbf : b = false := by rw [← Hb.out]; exact decide_eq_false hne
          have HBF := Lib.hid hbf
          clear hne hbf
          go_wp2_with fail
          exact bodyPost_ret (v := .bool false) (by simp [results, Tryz.results54, go_sem]) rfl ⟨by rw [HBF.out], hW⟩
        · have he : ith zs j = ith zs' j := of_decide_eq_true HBB.out
          have HE2 : Hid (∀ i, i < j + 1 → ith zs i = ith zs' i) := Lib.hid fun i hi => by
            rcases Nat.lt_or_ge i j with h | h
            · exact HE.out i h
            · rw [show i = j by omega]; exact he
          have HW2 := Lib.hid hW
          clear he hW
          go_wp2_with fail
          go_roundw
          case rel => exact ⟨j + 1, by go_num, by omega, HE2, HW2⟩
          case measure => first | (simp [intOf]; done) | (simp [intOf]; omega)
      · obtain rfl : j = n := by omega
        have he : zs = zs' := ext_ith (by rw [HN.out, HN'.out]) fun i hi => HE.out i (by rw [HN.out] at hi; exact hi)
        have hbt : b = true := by rw [← Hb.out]; exact decide_eq_true he
        have HBT := Lib.hid hbt
        clear he hbt
        go_wp2_with fail
        exact bodyPost_ret (v := .bool true) (by simp [results, Tryz.results54, go_sem]) rfl ⟨by rw [HBT.out], hW⟩
  · have hne : zs ≠ zs' := fun e => hnn (by rw [← HN.out, ← HN'.out, e])
    have hbf : b = false := by rw [← Hb.out]; exact decide_eq_false hne
    have HBF := Lib.hid hbf
    have hnb : (((n : Int) == (n' : Int))) = false := by rw [beq_eq_false_iff_ne]; omega
    have hnb2 : ¬ ((n : Int) = (n' : Int)) := by omega
    clear hne hbf
    go_enter Tryz.func54, Tryz.ntmps54
    go_wp2_with fail
    exact bodyPost_ret (v := .bool false) (by simp [results, Tryz.results54, go_sem]) rfl ⟨by rw [HBF.out], Below.refl _ _⟩
set_option maxRecDepth 100000 in
set_option maxHeartbeats 1000000 in
theorem zsamep_v {q : Bool} {A : Option Addr} {n c k : Nat} {zs : List Int} {q' : Bool} {A' : Option Addr} {n' c' k' : Nat} {zs' : List Int} {b : Bool} {w : World} (hx : ZL q w A n c k zs) (hy : ZL q' w A' n' c' k' zs') (hk : k ≤ 1099511627776) (hk' : k' ≤ 1099511627776) (hb : decide (nrz zs = nrz zs') = b) :
    Calls Tryz.prog 22 #[.slice A n c, .slice A' n' c'] w (fun e w' => e = .returned (.bool b) ∧ Below w.heap.size w w') := by
  obtain ⟨L1, hL1⟩ : ∃ L, slZ zs = L := ⟨_, rfl⟩
  obtain ⟨L2, hL2⟩ : ∃ L, slZ zs' = L := ⟨_, rfl⟩
  have b1 : L1 ≤ n := by have := slZ_le zs; rw [hx.len] at this; omega
  have b2 : L2 ≤ n' := by have := slZ_le zs'; rw [hy.len] at this; omega
  have HX := Lib.hid (hx.take (m := L1) (d := c) b1 (by have := hx.le; omega) hx.cap)
  have HY := Lib.hid (hy.take (m := L2) (d := c') b2 (by have := hy.le; omega) hy.cap)
  rw [show zs.take L1 = nrz zs by rw [← hL1]; rfl] at HX
  rw [show zs'.take L2 = nrz zs' by rw [← hL2]; rfl] at HY
  have HL1 := Lib.hid hL1
  have HL2 := Lib.hid hL2
  have HY0 := Lib.hid hy
  have Hb := Lib.hid hb
  clear hL1 hL2 hb
  go_enter Tryz.func22, Tryz.ntmps22
  go_wp2_with fail
  refine (ztrim_v hx (by omega) HL1.out).mono ?_
  rintro e w1 ⟨rfl, B1⟩
  clear hx hy
  go_wp2_with fail
  refine (ztrim_v (HY0.out.below B1) (by omega) HL2.out).mono ?_
  rintro e w2 ⟨rfl, B2⟩
  have hW : Below w.heap.size w w2 := B1.trans (B2.mono B1.size)
  clear B1 B2 HY0
  go_wp2_with fail
  refine (zequal_v (HX.out.below hW) (HY.out.below hW) hk hk' Hb.out).mono ?_
  rintro e w3 ⟨rfl, B3⟩
  go_wp2_with fail
  exact bodyPost_ret (v := .bool b) (by simp [results, Tryz.results22, go_sem]) rfl ⟨rfl, hW.trans (B3.mono hW.size)⟩
end Go.Proofs.YtddbhhedjipjkaaGreatDoor
end
