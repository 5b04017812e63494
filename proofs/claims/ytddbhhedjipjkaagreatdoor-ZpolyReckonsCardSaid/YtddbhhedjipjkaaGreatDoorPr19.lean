/-
  ZlS ZlT RlO PolD PolE
-/
import Derived.Test.YtddbhhedjipjkaaGreatDoorPr18
import Derived.Test.YtddbhhedjipjkaaGreatDoorRows
import Derived.Lib.SmallJoins
import Derived.ChangeSlices
import Derived.Deep.Slices
import Derived.Deep.Fields
import Derived.Deep.Matrix
import Derived.Test.YtddbhhedjipjkaaGreatDoorPr11

section
namespace Go.Proofs.YtddbhhedjipjkaaGreatDoor
open Go.RowKit
set_option linter.unusedVariables false
set_option linter.unusedSimpArgs false
def adp (zs zs' : List Int) (j : Nat) : List Int := mkz j fun i => ith zs i + ith zs' i
theorem mkz_succ (n : Nat) (f : Nat → Int) : mkz (n + 1) f = mkz n f ++ [f n] := by simp [mkz, List.range_succ]
set_option maxRecDepth 100000 in
set_option maxHeartbeats 1000000 in
theorem radd10_v {q : Bool} {A : Option Addr} {n c k : Nat} {zs : List Int} {q' : Bool} {A' : Option Addr} {n' c' k' : Nat} {zs' : List Int} {w : World} (hx : ZL q w A n c k zs) (hy : ZL q' w A' n' c' k' zs') (hk : k ≤ 549755813888) (hk' : k' ≤ 549755813888) (hn : n ≤ 549755813888) (hn' : n' ≤ 549755813888) :
    Calls Tryz.prog 17 #[.slice A n c, .slice A' n' c'] w (ZlPost (mkz (max zs.length zs'.length) fun i => ith zs i + ith zs' i) (max k k' + 1) w) := by
  have HX0 := Lib.hid hx
  have HY0 := Lib.hid hy
  obtain ⟨L, hL⟩ : ∃ L, max n n' = L := ⟨_, rfl⟩
  have hlen : max zs.length zs'.length = L := by rw [hx.len, hy.len, hL]
  rw [hlen]
  have h1L : n ≤ L := by omega
  have h2L : n' ≤ L := by omega
  have hLb : L ≤ 1099511627776 := by omega
  have hLc : ∀ j, j < L → ¬ j < n → j < n' := by omega
  clear hx hy hL hlen
  have HB : Hid (OwnZ w w (max k k' + 1) (.slice none 0 0) (adp zs zs' 0)) := Lib.hid (OwnZ.nil w _)
  go_enter Tryz.func17, Tryz.ntmps17
  go_wp2_with fail
  go_loopw [5, 6] (fun v i wr => ∃ j : Nat, j ≤ L ∧ i = .int .i64 (j : Int) ∧ Hid (OwnZ w wr (max k k' + 1) v (adp zs zs' j))) (fun _ i _ => L - (intOf i).toNat)
  case atStart => exact ⟨0, Nat.zero_le _, rfl, HB⟩
  case round =>
    clear HB
    obtain ⟨j, hj, rfl, HO⟩ := hrel
    have hW := HO.out.old
    by_cases hlt : j < L
    · by_cases h1 : j < n
      · have u1 : (j : Int) < (n : Int) := by omega
        go_wp2_with fail
        refine (rat10_v (HX0.out.below hW) j).mono ?_
        rintro e w3 ⟨s3, A3, n3, c3, rfl, p3, k3, B3⟩
        replace HO := Lib.hid (HO.out.below B3)
        replace hW := hW.trans (B3.mono hW.size)
        clear B3
        go_wp2_with fail
        refine (rat10_v (HY0.out.below hW) j).mono ?_
        rintro e w4 ⟨s4, A4, n4, c4, rfl, p4, k4, B4⟩
        replace HO := Lib.hid (HO.out.below B4)
        replace hW := hW.trans (B4.mono hW.size)
        replace p3 := p3.below B4
        clear B4
        go_wp2_with fail
        refine (zadd_v p3 p4 (by omega) (by omega)).mono ?_
        rintro e w9 ⟨s9, A9, n9, c9, rfl, p9, k9, B9⟩
        have ho := HO.out.below B9
        have k9' : n9 ≤ max k k' + 1 := by omega
        have HT : Hid (adp zs zs' j ++ [ith zs j + ith zs' j] = adp zs zs' (j + 1)) := Lib.hid (mkz_succ _ _).symm
        clear p3 p4 B9 hW HO
        go_wp2_with (at_builtin; refine wpList_appz w w9 rfl _ _ 22 rfl Tryz.underlying22 info_zint _ _ _ (by rfl) ho _ _ _ _ _ p9 k9' (by rfl) (by unfold adp; rw [mkz_length]; omega) ?_)
        intro v1 w10 ho1
        rw [HT.out] at ho1
        have HO := Lib.hid ho1
        clear ho p9 ho1
        go_wp2_with fail
        go_roundw
        case rel => exact ⟨j + 1, by omega, by go_num, HO⟩
        case measure => first | (simp [intOf]; done) | (simp [intOf]; omega)
      · have u1 : ¬ (j : Int) < (n : Int) := by omega
        have u2 : (j : Int) < (n' : Int) := by have := hLc j hlt h1; omega
        go_wp2_with fail
        refine (rat10_v (HX0.out.below hW) j).mono ?_
        rintro e w3 ⟨s3, A3, n3, c3, rfl, p3, k3, B3⟩
        replace HO := Lib.hid (HO.out.below B3)
        replace hW := hW.trans (B3.mono hW.size)
        clear B3
        go_wp2_with fail
        refine (rat10_v (HY0.out.below hW) j).mono ?_
        rintro e w4 ⟨s4, A4, n4, c4, rfl, p4, k4, B4⟩
        replace HO := Lib.hid (HO.out.below B4)
        replace hW := hW.trans (B4.mono hW.size)
        replace p3 := p3.below B4
        clear B4
        go_wp2_with fail
        refine (zadd_v p3 p4 (by omega) (by omega)).mono ?_
        rintro e w9 ⟨s9, A9, n9, c9, rfl, p9, k9, B9⟩
        have ho := HO.out.below B9
        have k9' : n9 ≤ max k k' + 1 := by omega
        have HT : Hid (adp zs zs' j ++ [ith zs j + ith zs' j] = adp zs zs' (j + 1)) := Lib.hid (mkz_succ _ _).symm
        clear p3 p4 B9 hW HO
        go_wp2_with (at_builtin; refine wpList_appz w w9 rfl _ _ 22 rfl Tryz.underlying22 info_zint _ _ _ (by rfl) ho _ _ _ _ _ p9 k9' (by rfl) (by unfold adp; rw [mkz_length]; omega) ?_)
        intro v1 w10 ho1
        rw [HT.out] at ho1
        have HO := Lib.hid ho1
        clear ho p9 ho1
        go_wp2_with fail
        go_roundw
        case rel => exact ⟨j + 1, by omega, by go_num, HO⟩
        case measure => first | (simp [intOf]; done) | (simp [intOf]; omega)
    · obtain rfl : j = L := by omega
      have u1 : ¬ (j : Int) < (n : Int) := by omega
      have u2 : ¬ (j : Int) < (n' : Int) := by omega
      obtain ⟨A5, c5, rfl, hl⟩ := HO.out.form
      have HL := Lib.hid (hl true)
      clear hl HO
      go_wp2_with fail
      exact bodyPost_ret (v := .slice A5 (adp zs zs' j).length c5) (by simp [results, Tryz.results17, go_sem]) rfl ⟨A5, _, c5, rfl, HL.out, hW⟩
def cmz (a b : List Int) (i : Nat) : Nat → Int
  | 0 => 0
  | m + 1 => cmz a b i m + ith a m * ith b (i - m)
theorem cmz_cons (c : Int) (t b : List Int) (i : Nat) : ∀ m, cmz (c :: t) b i (m + 1) = c * ith b i + cmz t b (i - 1) m
  | 0 => by simp [cmz, ith_zero]
  | m + 1 => by
    have := cmz_cons c t b i m
    rw [cmz, this, cmz, ith_succ, show i - (m + 1) = i - 1 - m by omega]; omega
theorem cmz_nil (b : List Int) (i : Nat) : ∀ m, cmz [] b i m = 0
  | 0 => rfl
  | m + 1 => by rw [cmz, cmz_nil b i m, ith_nil]; simp
theorem ith_mulI (a b : List Int) : ∀ i, ith (mulI a b) i = cmz a b i (i + 1) := by
  induction a with
  | nil => intro i; rw [cmz_nil]; exact ith_nil i
  | cons c t ih =>
    intro i
    rw [cmz_cons]
    show ith (addI (mulC c b) (0 :: mulI t b)) i = _
    rw [ith_addI, ith_mulC]
    cases i with
    | zero => rw [ith_zero]; simp [cmz]
    | succ i => rw [ith_succ, ih, Nat.add_sub_cancel]
theorem mulI_short (a b : List Int) : (mulI a b).length ≤ a.length + b.length := by
  induction a with
  | nil => simp [mulI]
  | cons c t ih =>
    show (addI (mulC c b) (0 :: mulI t b)).length ≤ _
    rw [addI_length, mulC_length, List.length_cons, List.length_cons]
    omega
theorem mul_places (a b : List Int) : nrz (mkz (a.length + b.length) fun i => cmz a b i (i + 1)) = mulN a b := nrz_ext fun i => by
  rw [ith_mkz, ← ith_mulI]
  by_cases h : i < a.length + b.length
  · rw [if_pos h]
  · rw [if_neg h]; exact (ith_ge (by have := mulI_short a b; omega)).symm
theorem OwnZ.zput {w0 w : World} {k gP n c m d : Nat} {v : Value} {zs : List Int} {s t : Bool} {A B : Option Addr} (h : OwnZ w0 w k v zs) (hne : ∀ g, v.ownBlock = some g → g ≠ gP) (hi : Ib w gP t B m d) (hg : w0.heap.size ≤ gP) : OwnZ w0 (Go.Proofs.YtddbhhedjipjkaaGreatDoor.zput w gP s A n c) k v zs := by
  obtain ⟨⟨vs, ⟨h1, h2⟩, h3⟩, h4⟩ := h
  have hgr : w.grownBy (Go.Proofs.YtddbhhedjipjkaaGreatDoor.zput w gP s A n c) (some gP) := by
    unfold Go.Proofs.YtddbhhedjipjkaaGreatDoor.zput
    exact gro_set (q := ⟨gP, 1, none⟩) (gro_set (q := ⟨gP, 0, none⟩) (gro_refl w (some gP)) rfl _) rfl _
  refine ⟨⟨vs, ⟨h1.kept hgr ?_, fun g cs hq hc => h2 g cs hq ?_⟩, fun j hj => ?_⟩, gro_up h4 hgr hg⟩
  · cases hv : v.ownBlock with
    | none => exact .inl rfl
    | some g => exact .inr fun e => hne g hv (Option.some.inj e)
  · rw [heap_zput (hne g hq)] at hc; exact hc
  · obtain ⟨s', A', n', c', c1, c2, c3, c4⟩ := h3 j hj
    exact ⟨s', A', n', c', c1, c2, c3.put (s' := s) (A' := A) (n' := n) (c' := c) hi, c4⟩
theorem OwnZ.block {w0 w : World} {k : Nat} {v : Value} {zs : List Int} (h : OwnZ w0 w k v zs) : ∀ g, v.ownBlock = some g → g < w.heap.size := by
  obtain ⟨⟨vs, ⟨h1, h2⟩, h3⟩, h4⟩ := h
  exact fun g hg => (h1.lt g hg).2
set_option maxRecDepth 100000 in
set_option maxHeartbeats 1000000 in
theorem rmul10_v {q : Bool} {A : Option Addr} {n c k : Nat} {zs : List Int} {q' : Bool} {A' : Option Addr} {n' c' k' : Nat} {zs' : List Int} {w : World} (hx : ZL q w A n c k zs) (hy : ZL q' w A' n' c' k' zs') (hk : k ≤ 137438953472) (hk' : k' ≤ 137438953472) (hn : n ≤ 137438953472) (hn' : n' ≤ 137438953472) :
    Calls Tryz.prog 19 #[.slice A n c, .slice A' n' c'] w (ZlPost (mkz (zs.length + zs'.length) fun i => cmz zs zs' i (i + 1)) (k + k' + (n + n') + 1) w) := by
  have HX0 := Lib.hid hx
  have HY0 := Lib.hid hy
  obtain ⟨L, hL⟩ : ∃ L, n + n' = L := ⟨_, rfl⟩
  rw [hx.len, hy.len, hL]
  have hLi : (n : Int) + (n' : Int) = (L : Int) := by omega
  have hLb : L ≤ 274877906944 := by omega
  obtain ⟨KB, hKB⟩ : ∃ KB, k + k' + L + 1 = KB := ⟨_, rfl⟩
  rw [hKB]
  clear hx hy hL
  have HB : Hid (OwnZ w w KB (.slice none 0 0) (mkz 0 (fun i => cmz zs zs' i (i + 1)))) := Lib.hid (OwnZ.nil w _)
  go_enter Tryz.func19, Tryz.ntmps19
  go_wp2_with fail
  go_loopw [5, 6] (fun v i wr => ∃ j : Nat, j ≤ L ∧ i = .int .i64 (j : Int) ∧ Hid (OwnZ w wr KB v (mkz j (fun i => cmz zs zs' i (i + 1))))) (fun _ i _ => L - (intOf i).toNat)
  case atStart => exact ⟨0, Nat.zero_le _, rfl, HB⟩
  case round =>
    clear HB
    obtain ⟨j, hj, rfl, HO⟩ := hrel
    have hW := HO.out.old
    by_cases hlt : j < L
    · have hLi2 : Hid (IntKind.i64.wrap ((n : Int) + (n' : Int)) = (L : Int)) := Lib.hid (by rw [IntKind.wrap_i64]; omega)
      have u1 : (j : Int) < (L : Int) := by omega
      go_wp2_with fail
      refine (zof_v 0 (by omega) (by omega) _).mono ?_
      rintro e w3 ⟨s3, A3, n3, c3, rfl, p3, k3, B3⟩
      replace HO := Lib.hid (HO.out.below B3)
      replace hW := hW.trans (B3.mono hW.size)
      have HVB := Lib.hid HO.out.block
      clear B3
      obtain ⟨w21, hw21⟩ : ∃ xw, xw = w3.alloc (.cells #[.bool s3, .slice A3 n3 c3] 27) := ⟨_, rfl⟩
      have z21 : Below w3.heap.size w3 w21 := by rw [hw21]; exact zba _ _
      have HXB := z21
      have HW21 : Hid (w3.alloc (.cells #[.bool s3, .slice A3 n3 c3] 27) = w21) := Lib.hid hw21.symm
      have lw_x : w.heap.size ≤ w3.heap.size := by have := hW.size; omega
      replace p3 := p3.below z21
      replace hW := hW.trans (z21.mono hW.size)
      have H_x : Hid (Ib w21 w3.heap.size s3 A3 n3 c3) := Lib.hid (by rw [hw21]; exact Ib.new _ _ _ _ _ _)
      clear z21 hw21
      go_upto_region 6 with fail
      rw [HW21.out]
      replace HO := Lib.hid (HO.out.below HXB)
      obtain ⟨gx, hgx⟩ : ∃ q, w3.heap.size = q := ⟨_, rfl⟩
      rw [hgx] at H_x lw_x HVB
      rw [hgx]
      clear hgx HXB
      have HB : Hid (OwnZ w w21 KB u5 (mkz j (fun i => cmz zs zs' i (i + 1))) ∧ ∃ sx Ax nx cx, Ib w21 gx sx Ax nx cx ∧ Zc w21 sx Ax nx cx (cmz zs zs' j 0) ∧ nx ≤ k + k' + 0) := Lib.hid ⟨HO.out, _, _, _, _, H_x.out, p3, by have h1 := p3.words; rw [show (0 : Int).natAbs = 0 from rfl, cn_zero] at h1; simp at h1; omega⟩
      clear HO H_x p3 hW
      go_wp2_with fail
      go_loopw [8] (fun s8 wr => ∃ m : Nat, s8 = .int .i64 (m : Int) ∧ m ≤ j + 1 ∧ Hid (OwnZ w wr KB u5 (mkz j (fun i => cmz zs zs' i (i + 1))) ∧ ∃ sx Ax nx cx, Ib wr gx sx Ax nx cx ∧ Zc wr sx Ax nx cx (cmz zs zs' j m) ∧ nx ≤ k + k' + m)) (fun s8 _ => j + 1 - (intOf s8).toNat)
      case atStart => exact ⟨0, rfl, Nat.zero_le _, HB⟩
      case round =>
        clear HB
        obtain ⟨m, rfl, hm, HB⟩ := hrel
        obtain ⟨ho, sx, Ax, nx, cx, I1, hx, knx⟩ := HB.out
        have HO := Lib.hid ho
        have H_x := Lib.hid I1
        have hW := ho.old
        clear HB I1 ho
        by_cases hmj : m < j + 1
        · have u2 : (m : Int) ≤ (j : Int) := by omega
          obtain ⟨jm, hjm⟩ : ∃ q, j - m = q := ⟨_, rfl⟩
          have hjmw : Hid (IntKind.i64.wrap ((j : Int) - (m : Int)) = (jm : Int)) := Lib.hid (by rw [IntKind.wrap_i64]; omega)
          have HJM := Lib.hid hjm
          have hkb : k + k' + (m + 1) + 1 ≤ KB + 1 := by omega
          clear hjm
          obtain ⟨x1, x2, x3, x4, x5⟩ := H_x.out
          go_wp2_with fail
          clear x1 x2 x3 x4 x5
          refine region8 [] 11 [IsK (.agg #[.bool sx, .slice Ax nx cx]), IsK (.slice A n c), IsK (.int .i64 (m : Int)), IsV (ith zs m) k, IsK (.slice A' n' c'), IsK (.int .i64 (j : Int)), IsK (.int .i64 (m : Int)), IsK (.int .i64 (jm : Int)), IsV (ith zs' jm) k', IsC (ith zs m * ith zs' jm) (k + k'), IsC (cmz zs zs' j m + ith zs m * ith zs' jm) (k + k' + (m + 1))] (fun _ _ d _ _ h => by cases d <;> exact h) (by kernel_rfl) (by kernel_rfl) (by kernel_rfl) ⟨stay_k _, stay_k _, stay_k _, stay_v _ _, stay_k _, stay_k _, stay_k _, stay_k _, stay_v _ _, stay_c _ _, stay_c _ _, trivial⟩ ?_ ?_
          · refine HopAll.cons rfl ?_ (HopAll.cons rfl ?_ (HopAll.cons rfl ?_ (HopAll.cons rfl ?_ (HopAll.cons rfl ?_ (HopAll.cons rfl ?_ (HopAll.cons rfl ?_ (HopAll.cons rfl ?_ (HopAll.cons rfl ?_ (HopAll.cons rfl ?_ (HopAll.cons rfl ?_ HopAll.nil))))))))))
            · intro a w1 hB ho hp Kq hKq
              have e7 : a.eval (.tmp 7) = (.pointer (some ⟨gx, 0, none⟩)) := ho 7 (by kernel_rfl)
              obtain ⟨u1, u2, u3, u4, u5⟩ := H_x.out.below hB
              exact hop_load (wanted_none rfl) rfl e7 (run_ldz u1 u2) (hKq _ _ rfl (Below.refl _ _))
            · intro a w1 hB ho hp Kq hKq
              have e0 : a.eval (.tmp 0) = (.slice A n c) := ho 0 (by kernel_rfl)
              refine hop_val (wanted_none rfl) ?_ (hKq (.slice A n c) _ rfl (Below.refl _ _))
              unfold execOp; simp only [eval_const, e0]; simp [go_sem]
            · intro a w1 hB ho hp Kq hKq
              have e8 : a.eval (.tmp 8) = (.int .i64 (m : Int)) := ho 8 (by kernel_rfl)
              refine hop_val (wanted_none rfl) ?_ (hKq (.int .i64 (m : Int)) _ rfl (Below.refl _ _))
              unfold execOp; simp only [eval_const, e8]; simp [go_sem]
            · intro a w1 hB ho hp Kq hKq
              have e25 : a.eval (.tmp 25) = (.slice A n c) := hp 1 25 (by kernel_rfl)
              have e26 : a.eval (.tmp 26) = (.int .i64 (m : Int)) := hp 2 26 (by kernel_rfl)
              refine hop_call (wanted_none rfl) rfl (args := #[(.slice A n c), (.int .i64 (m : Int))]) (by simp only [List.map_toArray, List.map_cons, List.map_nil, eval_const, e25, e26]) (ent7 (by kernel_rfl) _ _) (rat10_v (HX0.out.below (hW.trans (hB.mono hW.size))) m) ?_
              rintro e w2 ⟨sq, Aq, nq, cq, rfl, pq, kq, Bq⟩
              exact ⟨_, rfl, hKq _ _ ⟨sq, Aq, nq, cq, rfl, pq, by omega⟩ Bq⟩
            · intro a w1 hB ho hp Kq hKq
              have e1 : a.eval (.tmp 1) = (.slice A' n' c') := ho 1 (by kernel_rfl)
              refine hop_val (wanted_none rfl) ?_ (hKq (.slice A' n' c') _ rfl (Below.refl _ _))
              unfold execOp; simp only [eval_const, e1]; simp [go_sem]
            · intro a w1 hB ho hp Kq hKq
              have e6 : a.eval (.tmp 6) = (.int .i64 (j : Int)) := ho 6 (by kernel_rfl)
              refine hop_val (wanted_none rfl) ?_ (hKq (.int .i64 (j : Int)) _ rfl (Below.refl _ _))
              unfold execOp; simp only [eval_const, e6]; simp [go_sem]
            · intro a w1 hB ho hp Kq hKq
              have e8 : a.eval (.tmp 8) = (.int .i64 (m : Int)) := ho 8 (by kernel_rfl)
              refine hop_val (wanted_none rfl) ?_ (hKq (.int .i64 (m : Int)) _ rfl (Below.refl _ _))
              unfold execOp; simp only [eval_const, e8]; simp [go_sem]
            · intro a w1 hB ho hp Kq hKq
              have e29 : a.eval (.tmp 29) = (.int .i64 (j : Int)) := hp 5 29 (by kernel_rfl)
              have e30 : a.eval (.tmp 30) = (.int .i64 (m : Int)) := hp 6 30 (by kernel_rfl)
              refine hop_val (wanted_none rfl) ?_ (hKq (.int .i64 (jm : Int)) _ rfl (Below.refl _ _))
              unfold execOp; simp only [eval_const, e29, e30]; simp [go_sem, hjmw.out]
            · intro a w1 hB ho hp Kq hKq
              have e28 : a.eval (.tmp 28) = (.slice A' n' c') := hp 4 28 (by kernel_rfl)
              have e31 : a.eval (.tmp 31) = (.int .i64 (jm : Int)) := hp 7 31 (by kernel_rfl)
              refine hop_call (wanted_none rfl) rfl (args := #[(.slice A' n' c'), (.int .i64 (jm : Int))]) (by simp only [List.map_toArray, List.map_cons, List.map_nil, eval_const, e28, e31]) (ent7 (by kernel_rfl) _ _) (rat10_v (HY0.out.below (hW.trans (hB.mono hW.size))) jm) ?_
              rintro e w2 ⟨sq, Aq, nq, cq, rfl, pq, kq, Bq⟩
              exact ⟨_, rfl, hKq _ _ ⟨sq, Aq, nq, cq, rfl, pq, by omega⟩ Bq⟩
            · intro a w1 hB ho hp Kq hKq
              obtain ⟨s_27, A_27, n_27, c_27, e27, ⟨p27, k27⟩⟩ : IsV (ith zs m) k (a.eval (.tmp 27)) w1 := hp 3 27 (by kernel_rfl)
              obtain ⟨s_32, A_32, n_32, c_32, e32, ⟨p32, k32⟩⟩ : IsV (ith zs' jm) k' (a.eval (.tmp 32)) w1 := hp 8 32 (by kernel_rfl)
              refine hop_call (wanted_none rfl) rfl (args := #[(.agg #[.bool s_27, .slice A_27 n_27 c_27]), (.agg #[.bool s_32, .slice A_32 n_32 c_32])]) (by simp only [List.map_toArray, List.map_cons, List.map_nil, eval_const, e27, e32]) (ent7 (by kernel_rfl) _ _) (zmul_v p27 p32 (by omega) (by omega)) ?_
              rintro e w2 ⟨sq, Aq, nq, cq, rfl, pq, kq, Bq⟩
              exact ⟨_, rfl, hKq _ _ ⟨sq, Aq, nq, cq, rfl, pq, by omega⟩ Bq⟩
            · intro a w1 hB ho hp Kq hKq
              have e24 : a.eval (.tmp 24) = (.agg #[.bool sx, .slice Ax nx cx]) := hp 0 24 (by kernel_rfl)
              obtain ⟨s_33, A_33, n_33, c_33, e33, ⟨p33, k33⟩⟩ : IsC (ith zs m * ith zs' jm) (k + k') (a.eval (.tmp 33)) w1 := hp 9 33 (by kernel_rfl)
              refine hop_call (wanted_none rfl) rfl (args := #[(.agg #[.bool sx, .slice Ax nx cx]), (.agg #[.bool s_33, .slice A_33 n_33 c_33])]) (by simp only [List.map_toArray, List.map_cons, List.map_nil, eval_const, e24, e33]) (ent7 (by kernel_rfl) _ _) (zadd_v (hx.below hB).zv p33.zv (by omega) (by omega)) ?_
              rintro e w2 ⟨sq, Aq, nq, cq, rfl, pq, kq, Bq⟩
              exact ⟨_, rfl, hKq _ _ ⟨sq, Aq, nq, cq, rfl, pq, by omega⟩ Bq⟩
          intro w22 B22
          refine EndAll.one rfl fun vv hv => ?_
          obtain rfl : vv = (.agg #[.bool sx, .slice Ax nx cx]) := hv
          refine EndAll.one rfl fun vv hv => ?_
          obtain rfl : vv = (.slice A n c) := hv
          refine EndAll.one rfl fun vv hv => ?_
          obtain rfl : vv = (.int .i64 (m : Int)) := hv
          refine EndAll.one rfl fun vv hv => ?_
          obtain ⟨s23, A23, n23, c23, rfl, ⟨p23, k23⟩⟩ : IsV (ith zs m) k vv w22 := hv
          refine EndAll.one rfl fun vv hv => ?_
          obtain rfl : vv = (.slice A' n' c') := hv
          refine EndAll.one rfl fun vv hv => ?_
          obtain rfl : vv = (.int .i64 (j : Int)) := hv
          refine EndAll.one rfl fun vv hv => ?_
          obtain rfl : vv = (.int .i64 (m : Int)) := hv
          refine EndAll.one rfl fun vv hv => ?_
          obtain rfl : vv = (.int .i64 (jm : Int)) := hv
          refine EndAll.one rfl fun vv hv => ?_
          obtain ⟨s24, A24, n24, c24, rfl, ⟨p24, k24⟩⟩ : IsV (ith zs' jm) k' vv w22 := hv
          refine EndAll.one rfl fun vv hv => ?_
          obtain ⟨s25, A25, n25, c25, rfl, ⟨p25, k25⟩⟩ : IsC (ith zs m * ith zs' jm) (k + k') vv w22 := hv
          refine EndAll.one rfl fun vv hv => ?_
          obtain ⟨s26, A26, n26, c26, rfl, ⟨p26, k26⟩⟩ : IsC (cmz zs zs' j m + ith zs m * ith zs' jm) (k + k' + (m + 1)) vv w22 := hv
          refine EndAll.nil (l := [_]) rfl ?_
          simp only [Act.put, List.setIfInBounds_toArray, List.set_cons_zero, List.set_cons_succ]
          replace H_x := Lib.hid (H_x.out.below B22)
          replace hx := hx.below B22
          replace hW := hW.trans (B22.mono hW.size)
          have pz := p26
          clear p23 p24 p25 p26
          have kz := k26
          replace HO := Lib.hid (HO.out.below B22)
          have HZ : Hid (cmz zs zs' j m + ith zs m * ith zs' jm = cmz zs zs' j (m + 1)) := Lib.hid (by rw [cmz, HJM.out])
          rw [HZ.out] at pz
          clear hx HZ B22
          have HO2 := Lib.hid (HO.out.zput (s := s26) (A := A26) (n := n26) (c := c26) (fun g hg => by have := HVB.out g hg; omega) H_x.out lw_x)
          have P2 := Lib.hid (pz.put (s' := s26) (A' := A26) (n' := n26) (c' := c26) H_x.out)
          have I2 := Lib.hid (H_x.out.own (t := s26) (B := A26) (m := n26) (d := c26))
          unfold zput at HO2 P2 I2
          obtain ⟨x1, x2, x3, x4, x5⟩ := H_x.out
          clear HO pz hW H_x
          go_wp2_with fail
          go_roundw
          case rel => exact ⟨m + 1, by go_num, by omega, Lib.hid ⟨HO2.out, _, _, _, _, I2.out, P2.out, kz⟩⟩
          case measure => first | (simp [intOf]; done) | (simp [intOf]; omega)
        · obtain rfl : m = j + 1 := by omega
          have u2 : ¬ (((j + 1 : Nat) : Int) ≤ (j : Int)) := by omega
          have ho := HO.out
          have knx' : nx ≤ KB := by omega
          have HT : Hid (mkz j (fun i => cmz zs zs' i (i + 1)) ++ [cmz zs zs' j (j + 1)] = mkz (j + 1) (fun i => cmz zs zs' i (i + 1))) := Lib.hid (mkz_succ _ _).symm
          obtain ⟨x1, x2, x3, x4, x5⟩ := H_x.out
          go_wp2_with (at_builtin; refine wpList_appz w wr rfl _ _ 22 rfl Tryz.underlying22 info_zint _ _ _ (by rfl) ho _ _ _ _ _ hx knx' (by rfl) (by rw [mkz_length]; omega) ?_)
          intro v1 w10 ho1
          rw [HT.out] at ho1
          have HO1 := Lib.hid ho1
          clear ho ho1 hx HO H_x x1 x2 x3 x4 x5
          go_wp2_with fail
          go_roundw
          case rel => exact ⟨j + 1, by omega, by go_num, HO1⟩
          case measure => first | (simp [intOf]; done) | (simp [intOf]; omega)
    · obtain rfl : j = L := by omega
      have hLi2 : Hid (IntKind.i64.wrap ((n : Int) + (n' : Int)) = (j : Int)) := Lib.hid (by rw [IntKind.wrap_i64]; omega)
      obtain ⟨A5, c5, rfl, hl⟩ := HO.out.form
      have HL := Lib.hid (hl true)
      clear hl HO
      go_wp2_with fail
      exact bodyPost_ret (v := .slice A5 (mkz j (fun i => cmz zs zs' i (i + 1))).length c5) (by simp [results, Tryz.results19, go_sem]) rfl ⟨A5, _, c5, rfl, HL.out, hW⟩
end Go.Proofs.YtddbhhedjipjkaaGreatDoor
end

section
namespace Go.Proofs.YtddbhhedjipjkaaGreatDoor
open Go.RowKit
set_option linter.unusedVariables false
set_option linter.unusedSimpArgs false
structure Zr where
  s : Bool
  A : Option Addr
  n : Nat
  c : Nat
  z : Int
def nzr : Zr := ⟨false, none, 0, 0, 0⟩
structure RL (w : World) (A : Option Addr) (n c : Nat) (R : List Zr) : Prop where
  len : R.length = n
  le : n ≤ c
  cap : c ≤ 9223372036854775807
  at' : 0 < n → ∃ ad, A = some ad ∧ ad.block < w.heap.size ∧ ∀ j, j < n → w.cell? (ad.add (j * 2)) = some (.bool (R.getD j nzr).s) ∧ w.cell? ⟨(ad.add (j * 2)).block, (ad.add (j * 2)).off + 1, none⟩ = some (.slice (R.getD j nzr).A (R.getD j nzr).n (R.getD j nzr).c)
  num : ∀ x, x ∈ R → Zv w x.s x.A x.n x.c x.z
theorem RL.below {w w' : World} {A : Option Addr} {n c : Nat} {R : List Zr} (h : RL w A n c R) (hb : Below w.heap.size w w') : RL w' A n c R := ⟨h.len, h.le, h.cap, fun h0 => by
  obtain ⟨ad, rfl, h1, h2⟩ := h.at' h0
  exact ⟨ad, rfl, Nat.lt_of_lt_of_le h1 hb.size, fun j hj => ⟨(hb.cell (by rw [add_block]; exact h1)).trans (h2 j hj).1, (hb.cell (p := ⟨(ad.add (j * 2)).block, (ad.add (j * 2)).off + 1, none⟩) (by show (ad.add (j * 2)).block < _; rw [add_block]; exact h1)).trans (h2 j hj).2⟩⟩, fun x hx => (h.num x hx).below hb⟩
def nums (R : List Zr) : List Int := R.map (·.z)
theorem RL.zl {w : World} {A : Option Addr} {n c k : Nat} {R : List Zr} (h : RL w A n c R) (hk : ∀ j, j < n → (R.getD j nzr).n ≤ k) : ZL false w A n c k (nums R) := ⟨by unfold nums; rw [List.length_map]; exact h.len, h.le, h.cap, fun h0 => by
  obtain ⟨ad, rfl, h1, h2⟩ := h.at' h0
  refine ⟨ad, rfl, h1, fun j hj => ?_⟩
  have hl : j < R.length := by rw [h.len]; exact hj
  have e : R.getD j nzr = R[j] := by simp [List.getD, hl]
  have e2 : ith (nums R) j = R[j].z := by simp [ith, nums, List.getD, hl]
  obtain ⟨c1, c2⟩ := h2 j hj
  refine ⟨_, _, _, _, c1, c2, ⟨?_, fun e => nomatch e⟩, hk j hj⟩
  rw [e, e2]
  exact h.num _ (List.getElem_mem hl)⟩
def Fw (R : List Zr) (N W : Nat) : Prop := R.length ≤ N ∧ ∀ j, j < R.length → j < 100 → (R.getD j nzr).n ≤ W
theorem fw_all {R : List Zr} {N W : Nat} (h : Fw R N W) (hN : N ≤ 100) (j : Nat) (hj : j < R.length) : (R.getD j nzr).n ≤ W := h.2 j hj (by have := h.1; omega)
instance (R : List Zr) (N W : Nat) : Decidable (Fw R N W) := by unfold Fw; infer_instance
def fwb (R : List Zr) (N W : Nat) : Bool := decide (Fw R N W)
theorem fwb_true {R : List Zr} {N W : Nat} (h : Fw R N W) : fwb R N W = true := by unfold fwb; exact decide_eq_true h
theorem fwb_false {R : List Zr} {N W : Nat} (h : ¬ Fw R N W) : fwb R N W = false := by unfold fwb; exact decide_eq_false h
theorem of_fwb {R : List Zr} {N W : Nat} (h : fwb R N W = true) : Fw R N W := by unfold fwb at h; exact of_decide_eq_true h
set_option maxRecDepth 100000 in
set_option maxHeartbeats 1000000 in
theorem rfew10_v {A : Option Addr} {n c N W : Nat} {R : List Zr} {b : Bool} {w : World} (hx : RL w A n c R) (hN : N ≤ 1000) (hW' : W ≤ 1000) (hb : fwb R N W = b) :
    Calls Tryz.prog 30 #[.slice A n c, .int .i64 (N : Int), .int .i64 (W : Int)] w (fun e w' => e = .returned (.bool b) ∧ Below w.heap.size w w') := by
  have HX0 := Lib.hid hx
  have HN := Lib.hid hx.len
  have Hb := Lib.hid hb
  have hnc := hx.le
  have hcm := hx.cap
  clear hx hb
  go_enter Tryz.func30, Tryz.ntmps30
  go_wp2_with fail
  go_loopw [7] (fun s7 wr => ∃ j : Nat, s7 = .int .i64 (j : Int) ∧ j ≤ n ∧ Hid (∀ i, i < j → (R.getD i nzr).n ≤ W) ∧ wr = w) (fun s7 _ => n - (intOf s7).toNat)
  case atStart => exact ⟨0, rfl, Nat.zero_le _, Lib.hid fun i hi => by omega, rfl⟩
  case round =>
    obtain ⟨j, rfl, hj, HE, rfl⟩ := hrel
    by_cases hlt : j < n
    · have u2 : (j : Int) < (n : Int) := by omega
      by_cases h100 : j < 100
      · have u3 : (j : Int) < 100 := by omega
        have u1 : (0 : Int) ≤ (j : Int) := by omega
        obtain ⟨ad, rfl, hab, hc⟩ := HX0.out.at' (by omega)
        obtain ⟨c1, c2⟩ := hc j hlt
        obtain ⟨x, hx⟩ : ∃ x, R.getD j nzr = x := ⟨_, rfl⟩
        rw [hx] at c1 c2
        have HX := Lib.hid hx
        clear hc hab hx
        by_cases hw : x.n ≤ W
        · have u4 : ¬ (W : Int) < (x.n : Int) := by omega
          have HE2 : Hid (∀ i, i < j + 1 → (R.getD i nzr).n ≤ W) := Lib.hid fun i hi => by
            rcases Nat.lt_or_ge i j with h | h
            · exact HE.out i h
            · rw [show i = j by omega, HX.out]; exact hw
          clear hw
          go_wp2_with fail
          go_roundw
          case rel => exact ⟨j + 1, by go_num, by omega, HE2, trivial⟩
          case measure => first | (simp [intOf]; done) | (simp [intOf]; omega)
        · have u4 : (W : Int) < (x.n : Int) := by omega
          have hbf : b = false := by
            rw [← Hb.out]
            exact fwb_false fun h => hw (by rw [← HX.out]; exact h.2 j (by rw [HN.out]; exact hlt) h100)
          have HBF := Lib.hid hbf
          clear hbf hw
          go_wp2_with fail
          exact bodyPost_ret (v := .bool false) (by simp [results, Tryz.results30, go_sem]) rfl ⟨by rw [HBF.out], Below.refl _ _⟩
      · have u3 : ¬ (j : Int) < 100 := by omega
        obtain ⟨t, ht⟩ : ∃ t, decide ((n : Int) ≤ (N : Int)) = t := ⟨_, rfl⟩
        have hbt : b = t := by
          rw [← Hb.out, ← ht]
          by_cases hnN : n ≤ N
          · rw [decide_eq_true (by omega)]
            exact fwb_true ⟨by rw [HN.out]; exact hnN, fun i hi h1 => HE.out i (by omega)⟩
          · rw [decide_eq_false (by omega)]
            exact fwb_false fun h => hnN (by have := h.1; rw [HN.out] at this; exact this)
        have HBT := Lib.hid hbt
        have HTT := Lib.hid ht
        clear hbt ht
        go_wp2_with fail
        exact bodyPost_ret (v := .bool (decide ((n : Int) ≤ (N : Int)))) (by simp [results, Tryz.results30, go_sem]) rfl ⟨by rw [HBT.out, HTT.out], Below.refl _ _⟩
    · obtain rfl : j = n := by omega
      have u3 : ¬ (j : Int) < (j : Int) := by omega
      obtain ⟨t, ht⟩ : ∃ t, decide ((j : Int) ≤ (N : Int)) = t := ⟨_, rfl⟩
      have hbt : b = t := by
        rw [← Hb.out, ← ht]
        by_cases hnN : j ≤ N
        · rw [decide_eq_true (by omega)]
          exact fwb_true ⟨by rw [HN.out]; exact hnN, fun i hi h1 => HE.out i (by rw [HN.out] at hi; exact hi)⟩
        · rw [decide_eq_false (by omega)]
          exact fwb_false fun h => hnN (by have := h.1; rw [HN.out] at this; exact this)
      have HBT := Lib.hid hbt
      have HTT := Lib.hid ht
      clear hbt ht
      go_wp2_with fail
      exact bodyPost_ret (v := .bool (decide ((j : Int) ≤ (N : Int)))) (by simp [results, Tryz.results30, go_sem]) rfl ⟨by rw [HBT.out, HTT.out], Below.refl _ _⟩
set_option maxRecDepth 100000 in
set_option maxHeartbeats 1000000 in
theorem few10_v {A A' : Option Addr} {n c n' c' N W : Nat} {R R' : List Zr} {b : Bool} {w : World} (hx : RL w A n c R) (hy : RL w A' n' c' R') (hN : N ≤ 1000) (hW' : W ≤ 1000) (hb : (fwb R N W && fwb R' N W) = b) :
    Calls Tryz.prog 10 #[.slice A n c, .slice A' n' c', .int .i64 (N : Int), .int .i64 (W : Int)] w (fun e w' => e = .returned (.bool b) ∧ Below w.heap.size w w') := by
  have HY0 := Lib.hid hy
  obtain ⟨t, ht⟩ : ∃ t, fwb R N W = t := ⟨_, rfl⟩
  obtain ⟨t', ht'⟩ : ∃ t, fwb R' N W = t := ⟨_, rfl⟩
  rw [ht, ht'] at hb
  have HT := Lib.hid ht
  have HT' := Lib.hid ht'
  have Hb := Lib.hid hb
  clear ht ht' hb hy
  have HF := Lib.hid (rfew10_v hx hN hW' HT.out)
  clear hx
  go_enter Tryz.func10, Tryz.ntmps10
  go_wp2_with fail
  refine HF.out.mono ?_
  clear HF
  rintro e w3 ⟨rfl, B3⟩
  cases t
  · go_wp2_with fail
    exact bodyPost_ret (v := .bool false) (by simp [results, Tryz.results10, go_sem]) rfl ⟨by rw [← Hb.out]; rfl, B3⟩
  · go_wp2_with fail
    refine (rfew10_v (HY0.out.below B3) hN hW' HT'.out).mono ?_
    rintro e w4 ⟨rfl, B4⟩
    go_wp2_with fail
    exact bodyPost_ret (v := .bool t') (by simp [results, Tryz.results10, go_sem]) rfl ⟨by rw [← Hb.out]; rfl, B3.trans (B4.mono B3.size)⟩
end Go.Proofs.YtddbhhedjipjkaaGreatDoor
end

section
namespace Go.Proofs.YtddbhhedjipjkaaGreatDoor
open Go.Joins Go.ChangeShapes Go.WideShapes Go.RowKit Go.Deep
set_option linter.unusedVariables false
section
variable {H : Type} {enc : TypeId × Value → H} {P : Program} {W : World} {base : Nat} {held : Bool}
theorem open_rl {t e : TypeId} {f0 f1 : Field} {q : TypeId} {A : Option Addr} {n c : Nat} {d : DataW H} {ps : List MemPlace} (ht : P.underlying t = some (.slice e)) (he : P.underlying e = some (.struct #[f0, f1])) (hone : oneCellFields P #[f0, f1] = true) (hC : P.cellsOf e = 2)
    (hb : P.underlying f0.type = some .bool) (hs : P.underlying f1.type = some (.slice q)) (hq : P.underlying q = some (.int .u64)) (hc : P.cellsOf q = 1)
    (h : DataW.Trod enc P W base (fun _ => true) held t (.slice A n c) d ps) (hlt : ∀ x ∈ ps, x.block < W.heap.size) :
    ∃ R : List Zr, RL W A n c R := by
  obtain ⟨fuel, hf⟩ := h
  rcases open_slice ht hf with ⟨hcs, hx⟩ | ⟨a, len, cap, m, n', D, Pl, hcs, hb0, hl, hm, hmm, hx, hi⟩
  · simp [Value.cells] at hcs
    obtain ⟨rfl, rfl, rfl⟩ := hcs
    exact ⟨[], rfl, Nat.le_refl _, by omega, fun h => by omega, fun x hx => (by cases hx)⟩
  · simp [Value.cells] at hcs
    obtain ⟨rfl, rfl, rfl⟩ := hcs
    simp only [if_true] at hmm
    subst hmm
    rw [hC] at hi hx
    have each : ∀ i, i < m → ∃ y : Zr, W.cell? (a.add (i * 2)) = some (.bool y.s) ∧ W.cell? ⟨(a.add (i * 2)).block, (a.add (i * 2)).off + 1, none⟩ = some (.slice y.A y.n y.c) ∧ Zv W y.s y.A y.n y.c y.z := by
      intro i him
      obtain ⟨cs', h1, h2⟩ := hi i him
      obtain ⟨_, h3, h4⟩ := World.cells?_some h1
      obtain ⟨xs, n'', _, hy, _, hlen, hg⟩ := DataW.trod_struct he h2
      obtain ⟨o0, k0⟩ := hone_of hone 0 f0 rfl
      obtain ⟨o1, k1⟩ := hone_of hone 1 f1 rfl
      match cs', h3 with
      | [v0, v1], _ =>
        match xs, hlen with
        | [y0, y1], _ =>
          have g0 := hg 0 f0 rfl
          have g1 := hg 1 f1 rfl
          rw [o0, k0] at g0
          rw [o1, k1] at g1
          simp at g0 g1
          have c0 : W.cell? (a.add (i * 2)) = some v0 := by have := h4 0 (by omega); simpa [Addr.add] using this
          have c1 : W.cell? ⟨(a.add (i * 2)).block, (a.add (i * 2)).off + 1, none⟩ = some v1 := by have := h4 1 (by omega); simpa [Addr.add] using this
          simp only [Prod.mk.injEq] at hy
          obtain ⟨s, hs0, _⟩ := DataW.trod_bool hb g0
          have hs0 : v0 = .bool s := by simpa using hs0
          subst hs0
          rcases open_ints hs hq hc g1 with ⟨hcs, hz⟩ | ⟨x, l, c, zs, hcs, _, hl', hm', hz, hdat, hcell, hwz⟩
          · have hcs : v1 = .slice none 0 0 := by simpa using hcs
            subst hcs
            obtain ⟨v, hv⟩ := (show IsRow .u64 W none 0 0 [] from .inl ⟨rfl, rfl, rfl, rfl⟩).nv
            exact ⟨⟨s, none, 0, 0, sg s v⟩, c0, c1, ⟨v, hv, Lib.hid rfl⟩⟩
          · have hcs : v1 = .slice (some x) l c := by simpa using hcs
            subst hcs
            obtain ⟨v, hv⟩ := (show IsRow .u64 W (some x) l c zs from .inr ⟨_, rfl, hl', hm', by simpa using hz, hcell, hwz⟩).nv
            exact ⟨⟨s, some x, l, c, sg s v⟩, c0, c1, ⟨v, hv, Lib.hid rfl⟩⟩
    haveI : Inhabited Zr := ⟨nzr⟩
    obtain ⟨y, hy⟩ := choose_lt each
    have hg : ∀ j, j < n → ((List.range n).map y).getD j nzr = y j := fun j hj => by simp [List.getD, hj]
    refine ⟨(List.range n).map y, by simp, (by first | omega | (simp only [maxLen] at *; omega)), (by first | omega | (simp only [maxLen] at *; omega)), fun h0 => ⟨a, rfl, ?_, fun j hj => ?_⟩, fun x hx => ?_⟩
    · have h1 := (hy 0 (by omega)).1
      have := World.block_lt_of_cell? W _ h1
      rwa [add_block] at this
    · rw [hg j hj]
      have := hy j (by omega)
      exact ⟨this.1, this.2.1⟩
    · obtain ⟨j, hj, rfl⟩ := List.mem_map.1 hx
      exact (hy j (by have := List.mem_range.1 hj; omega)).2.2
end
end Go.Proofs.YtddbhhedjipjkaaGreatDoor
end

section
namespace Go.Proofs.YtddbhhedjipjkaaGreatDoor
set_option linter.unusedVariables false
set_option linter.unusedSimpArgs false
def pw (p : Nat) (a : List Nat) : Nat → List Nat
  | 0 => nrm p [1]
  | n + 1 => mulp p (pw p a n) a
end Go.Proofs.YtddbhhedjipjkaaGreatDoor
end

section
namespace Go.Proofs.YtddbhhedjipjkaaGreatDoor
set_option linter.unusedVariables false
set_option linter.unusedSimpArgs false
end Go.Proofs.YtddbhhedjipjkaaGreatDoor
end
