/-
  The walk of PolyReckons.
-/
import Derived.Test.YthigedcpiglmnaaDoorFpU
import Derived.Test.YthigedcpiglmnaaDoorRegN
/-! The walk of PolyReckons. -/
namespace Go.Proofs.YthigedcpiglmnaaDoor
open Go.RowKit
set_option linter.unusedVariables false
set_option linter.unusedSimpArgs false

theorem run_bsc {w : World} {x : Nat} : (Instr.buildSlice 22 1 #[(0, .int .u64 (x : Int))]).run Tryd.prog w = .ok (.slice (some ⟨w.heap.size, 0, none⟩) 1 1) (w.alloc (.cells #[.int .u64 (x : Int)] 26)) := by simp [go_sem]
theorem lv_con {w : World} {x : Nat} (h : x < 18446744073709551616) : Lv (w.alloc (.cells #[.int .u64 (x : Int)] 26)) (some ⟨w.heap.size, 0, none⟩) 1 1 [x] :=
  Lv.wr (xs := [x]) ⟨_, heap_alloc_new w _, fun j hj => by
    have : j = 0 := by simp at hj; omega
    subst this; rfl⟩ (by simp) (by omega) (fun k hk => by
    have : k = 0 := by simp at hk; omega
    subst this; exact h)
set_option maxRecDepth 100000 in
set_option maxHeartbeats 1000000 in
/-- PolyReckons. -/
theorem reckons9_calls {n k1 c1 k2 c2 : Nat} {A1 A2 : Option Addr} {xs ys : List Nat} {w : World} (hn : n < 256) (hx : Lv w A1 k1 c1 xs) (hy : Lv w A2 k2 c2 ys) (hT : TabHas w) :
    Calls Tryd.prog 3 #[.int .u8 (n : Int), .slice A1 k1 c1, .slice A2 k2 c2] w (BlPost true w) := by
  obtain ⟨p, hp0⟩ : ∃ p, pn (n % 12) = p := ⟨_, rfl⟩
  have hp := pn_pr (n % 12) (by omega)
  rw [hp0] at hp
  obtain ⟨ab, hab⟩ : ∃ ab, ab + 2 = p := ⟨p - 2, by have := hp.2.2; omega⟩
  have hpr := hp.1
  have h := hp.2.1
  have h2 : 2 ≤ p := hp.2.2
  have HP := Lib.hid hab
  have HP0 := Lib.hid hp0
  clear hab hp hp0
  have hW := Below.refl w.heap.size w
  go_enter Tryd.func3, Tryd.ntmps3
  go_wp2_with fail
  refine (awake9_v hT).mono ?_
  rintro e w21 ⟨rfl, B21⟩
  replace hx := hx.below B21
  replace hy := hy.below B21
  replace hT := hT.below B21
  replace hW := hW.trans (B21.mono hW.size)
  clear B21
  by_cases hf : k1 ≤ 20 ∧ k2 ≤ 20
  · skip
    go_wp2_with fail
    refine (few9_yes (k := 20) hf.1 hf.2).mono ?_
    rintro e w22 ⟨rfl, B22⟩
    replace hx := hx.below B22
    replace hy := hy.below B22
    replace hT := hT.below B22
    replace hW := hW.trans (B22.mono hW.size)
    clear B22
    obtain ⟨hb1, hb2⟩ := hf
    have lx := hx.len
    have ly := hy.len
    go_wp2_with fail
    refine (fof9_v (ab := ab) hn hT HP0.out HP.out).mono ?_
    rintro e w23 ⟨rfl, B23⟩
    replace hx := hx.below B23
    replace hy := hy.below B23
    replace hT := hT.below B23
    replace hW := hW.trans (B23.mono hW.size)
    clear B23
    go_wp2_with fail
    refine (rp_calls (p := p) hn HP0.out _).mono ?_
    rintro e w24 ⟨rfl, B24⟩
    replace hx := hx.below B24
    replace hy := hy.below B24
    replace hT := hT.below B24
    replace hW := hW.trans (B24.mono hW.size)
    clear B24
    obtain ⟨w25, hw25⟩ : ∃ xw, xw = w24.alloc (.cells #[.int .u64 (ab : Int)] 28) := ⟨_, rfl⟩
    have z25 : Below w24.heap.size w24 w25 := by rw [hw25]; exact zba _ _
    have HW25 : Hid (w24.alloc (.cells #[.int .u64 (ab : Int)] 28) = w25) := Lib.hid hw25.symm
    have lw_f : w.heap.size ≤ w24.heap.size := by have := hW.size; omega
    replace hx := hx.below z25
    replace hy := hy.below z25
    replace hT := hT.below z25
    replace hW := hW.trans (z25.mono hW.size)
    have H_f : Hid (Fb w25 w24.heap.size ab) := Lib.hid (by rw [hw25]; exact Fb.new _ _ _)
    clear z25 hw25
    go_wp2_with fail
    rw [HW25.out]
    refine (rnorm9_v h2 h hx (by omega)).mono ?_
    rintro e w26 ⟨A26, n26, c26, rfl, rx, B26⟩
    replace H_f := Lib.hid (H_f.out.below B26)
    replace hx := hx.below B26
    replace hy := hy.below B26
    replace hT := hT.below B26
    replace hW := hW.trans (B26.mono hW.size)
    clear B26
    obtain ⟨f1, f2, f3⟩ := H_f.out
    go_wp2_with fail
    clear f1 f2 f3
    refine (rnorm9_v h2 h hy (by omega)).mono ?_
    rintro e w27 ⟨A27, n27, c27, rfl, ry, B27⟩
    replace H_f := Lib.hid (H_f.out.below B27)
    replace hx := hx.below B27
    replace hy := hy.below B27
    replace hT := hT.below B27
    replace rx := rx.below B27
    replace hW := hW.trans (B27.mono hW.size)
    clear B27
    have lx2 := nrm_le p xs
    have ly2 := nrm_le p ys
    have lxn := rx.len
    have lyn := ry.len
    have hp0 : 0 < p := by omega
    have hwi : IntKind.i64.wrap ((n26 : Int) - 1) = (n26 : Int) - 1 := by rw [IntKind.wrap_i64]; omega
    obtain ⟨q, hq⟩ : ∃ q : Bool, decide (nrm p xs = nrm p ys) = q := ⟨_, rfl⟩
    have HSB : Hid (q = true ↔ nrm p xs = nrm p ys) := Lib.hid (by rw [← hq]; exact decide_eq_true_iff)
    clear hq
    rcases Nat.eq_zero_or_pos k2 with rfl | hk2
    · have lC : (3 : Nat) < 18446744073709551616 := by decide
      obtain ⟨cp, hcp⟩ : ∃ q, 3 % p = q := ⟨_, rfl⟩
      have lcp : cp < p := hcp ▸ Nat.mod_lt _ (by omega)
      obtain ⟨EV, hEV⟩ : ∃ q, ev 3 xs % p = q := ⟨_, rfl⟩
      have hEV2 : ev 3 (nrm p xs) % p = EV := by rw [ev_nrm9]; exact hEV
      have hci : (3 : Int) % (p : Int) = (cp : Int) := by rw [← hcp]; exact (Int.natCast_emod 3 p).symm
      have hct : (3 : Int).tmod (p : Int) = (cp : Int) := by rw [Int.tmod_eq_emod_of_nonneg (by omega)]; exact hci
      have hpne : ¬ (p = 0) := by omega
      have HEV := Lib.hid hEV
      have HEV2 := Lib.hid hEV2
      have HCP := Lib.hid hcp
      have HCI := Lib.hid hci
      have HCT := Lib.hid hct
      clear hEV hEV2 hcp hci hct
      obtain ⟨sv, hsv⟩ : ∃ l : List Nat, l = [cp] := ⟨_, rfl⟩
      obtain ⟨f1, f2, f3⟩ := H_f.out
      go_wp2_with fail
      clear f1 f2 f3
      refine (norm_v HP.out h hx (by omega)).mono ?_
      rintro e w28 ⟨A28, n28, c28, rfl, r1, B28⟩
      replace H_f := Lib.hid (H_f.out.below B28)
      replace hx := hx.below B28
      replace hy := hy.below B28
      replace hT := hT.below B28
      replace rx := rx.below B28
      replace ry := ry.below B28
      replace hW := hW.trans (B28.mono hW.size)
      clear B28
      obtain ⟨f1, f2, f3⟩ := H_f.out
      go_wp2_with fail
      clear f1 f2 f3
      refine (is9_v (b := true) r1 rx ⟨fun _ => rfl, fun _ => rfl⟩).mono ?_
      rintro e w29 ⟨rfl, B29⟩
      replace H_f := Lib.hid (H_f.out.below B29)
      replace hx := hx.below B29
      replace hy := hy.below B29
      replace hT := hT.below B29
      replace rx := rx.below B29
      replace ry := ry.below B29
      replace r1 := r1.below B29
      replace hW := hW.trans (B29.mono hW.size)
      clear B29
      clear r1
      obtain ⟨f1, f2, f3⟩ := H_f.out
      go_wp2_with fail
      clear f1 f2 f3
      refine (deg_v HP.out h hx).mono ?_
      rintro e w30 ⟨rfl, B30⟩
      replace H_f := Lib.hid (H_f.out.below B30)
      replace hx := hx.below B30
      replace hy := hy.below B30
      replace hT := hT.below B30
      replace rx := rx.below B30
      replace ry := ry.below B30
      replace hW := hW.trans (B30.mono hW.size)
      clear B30
      rw [rx.len]
      obtain ⟨f1, f2, f3⟩ := H_f.out
      go_wp2_with fail
      clear f1 f2 f3
      refine (same9_v HP.out h hx (by omega) hy (by omega) HSB.out).mono ?_
      rintro e w31 ⟨rfl, B31⟩
      replace H_f := Lib.hid (H_f.out.below B31)
      replace hx := hx.below B31
      replace hy := hy.below B31
      replace hT := hT.below B31
      replace rx := rx.below B31
      replace ry := ry.below B31
      replace hW := hW.trans (B31.mono hW.size)
      clear B31
      obtain ⟨f1, f2, f3⟩ := H_f.out
      go_wp2_with fail
      clear f1 f2 f3
      refine (rsame_v rx ry HSB.out).mono ?_
      rintro e w32 ⟨rfl, B32⟩
      replace H_f := Lib.hid (H_f.out.below B32)
      replace hx := hx.below B32
      replace hy := hy.below B32
      replace hT := hT.below B32
      replace rx := rx.below B32
      replace ry := ry.below B32
      replace hW := hW.trans (B32.mono hW.size)
      clear B32
      obtain ⟨f1, f2, f3⟩ := H_f.out
      go_wp2_with fail
      clear f1 f2 f3
      refine (padd_v HP.out h hx (by omega) hy (by omega)).mono ?_
      rintro e w33 ⟨A33, n33, c33, rfl, ra, B33⟩
      replace H_f := Lib.hid (H_f.out.below B33)
      replace hx := hx.below B33
      replace hy := hy.below B33
      replace hT := hT.below B33
      replace rx := rx.below B33
      replace ry := ry.below B33
      replace hW := hW.trans (B33.mono hW.size)
      clear B33
      obtain ⟨f1, f2, f3⟩ := H_f.out
      go_wp2_with fail
      clear f1 f2 f3
      refine (radd9_v h2 h rx (by omega) ry (by omega)).mono ?_
      rintro e w34 ⟨A34, n34, c34, rfl, rb, B34⟩
      replace H_f := Lib.hid (H_f.out.below B34)
      replace hx := hx.below B34
      replace hy := hy.below B34
      replace hT := hT.below B34
      replace rx := rx.below B34
      replace ry := ry.below B34
      replace ra := ra.below B34
      replace hW := hW.trans (B34.mono hW.size)
      clear B34
      obtain ⟨f1, f2, f3⟩ := H_f.out
      go_wp2_with fail
      clear f1 f2 f3
      refine (is9_v (b := true) ra rb ⟨fun _ => add_eq9 hp0 xs ys, fun _ => rfl⟩).mono ?_
      rintro e w35 ⟨rfl, B35⟩
      replace H_f := Lib.hid (H_f.out.below B35)
      replace hx := hx.below B35
      replace hy := hy.below B35
      replace hT := hT.below B35
      replace rx := rx.below B35
      replace ry := ry.below B35
      replace ra := ra.below B35
      replace rb := rb.below B35
      replace hW := hW.trans (B35.mono hW.size)
      clear B35
      clear ra rb
      have l1 : (nrm p (ngl p (nrm p ys) (nrm p ys).length)).length ≤ 1000 := by have := nrm_le p (ngl p (nrm p ys) (nrm p ys).length); rw [ngl_len] at this; omega
      have hsl : sv.length = 1 := by rw [hsv]; rfl
      obtain ⟨f1, f2, f3⟩ := H_f.out
      go_wp2_with fail
      clear f1 f2 f3
      refine region9 [some 74, some 75, some 76, some 77, some 78, some 79, some 80, some 81, some 82, some 83, some 84, some 85, some 86, some 87, some 88, some 89, some 90, some 91, some 92, some 93, some 94, some 95, some 96, some 97, some 98, some 99, some 100, some 101, some 102, some 103, some 104, some 105, some 106, some 107, some 108, some 109, some 110, some 111, some 112, some 113, some 114, some 115, some 116, some 117, some 118, some 119, some 120] [] 47 [IsK (.agg #[.int .u64 (ab : Int)]), IsK (.slice A1 k1 c1), IsK (.slice A2 0 c2), IsP (amul p xs ys (p - 1)), IsK (.slice A26 n26 c26), IsK (.slice A27 n27 c27), IsK (.int .u64 (p : Int)), IsP (nrm p (ngl p (nrm p ys) (nrm p ys).length)), IsK (.int .u64 (p : Int)), IsP (nrm p (addl (nrm p xs) (nrm p (ngl p (nrm p ys) (nrm p ys).length)))), IsK (.bool true), IsK (.bool true), IsK (.agg #[.int .u64 (ab : Int)]), IsK (.slice A1 k1 c1), IsK (.slice A2 0 c2), IsP (mulp p xs ys), IsK (.slice A26 n26 c26), IsK (.slice A27 n27 c27), IsK (.int .u64 (p : Int)), IsP (mulp p (nrm p xs) (nrm p ys)), IsK (.bool true), IsK (.bool true), IsK (.bool true), IsK (.agg #[.int .u64 (ab : Int)]), IsK (.slice A1 k1 c1), IsK (.int .u64 3), IsP (amul p [] xs 3), IsK (.slice A26 n26 c26), IsK (.int .u64 3), IsK (.int .u64 (p : Int)), IsK (.int .u64 (cp : Int)), IsP sv, IsK (.int .u64 (p : Int)), IsP (mulp p (nrm p xs) sv), IsK (.bool true), IsK (.bool true), IsK (.bool true), IsK (.agg #[.int .u64 (ab : Int)]), IsK (.slice A1 k1 c1), IsK (.int .u64 3), IsK (.int .u64 (EV : Int)), IsK (.slice A26 n26 c26), IsK (.int .u64 3), IsK (.int .u64 (p : Int)), IsK (.int .u64 (EV : Int)), IsK (.bool true), IsK (.bool true)] (fun _ _ d _ _ h => by cases d <;> exact h) (by kernel_rfl) (by kernel_rfl) (by kernel_rfl) (by kernel_rfl) (by kernel_rfl) ⟨stay_k _, stay_k _, stay_k _, stay_p _, stay_k _, stay_k _, stay_k _, stay_p _, stay_k _, stay_p _, stay_k _, stay_k _, stay_k _, stay_k _, stay_k _, stay_p _, stay_k _, stay_k _, stay_k _, stay_p _, stay_k _, stay_k _, stay_k _, stay_k _, stay_k _, stay_k _, stay_p _, stay_k _, stay_k _, stay_k _, stay_k _, stay_p _, stay_k _, stay_p _, stay_k _, stay_k _, stay_k _, stay_k _, stay_k _, stay_k _, stay_k _, stay_k _, stay_k _, stay_k _, stay_k _, stay_k _, stay_k _, trivial⟩ ?_ ?_
      · refine HopAll.cons rfl ?_ (HopAll.cons rfl ?_ (HopAll.cons rfl ?_ (HopAll.cons rfl ?_ (HopAll.cons rfl ?_ (HopAll.cons rfl ?_ (HopAll.cons rfl ?_ (HopAll.cons rfl ?_ (HopAll.cons rfl ?_ (HopAll.cons rfl ?_ (HopAll.cons rfl ?_ (HopAll.cons rfl ?_ (HopAll.cons rfl ?_ (HopAll.cons rfl ?_ (HopAll.cons rfl ?_ (HopAll.cons rfl ?_ (HopAll.cons rfl ?_ (HopAll.cons rfl ?_ (HopAll.cons rfl ?_ (HopAll.cons rfl ?_ (HopAll.cons rfl ?_ (HopAll.cons rfl ?_ (HopAll.cons rfl ?_ (HopAll.cons rfl ?_ (HopAll.cons rfl ?_ (HopAll.cons rfl ?_ (HopAll.cons rfl ?_ (HopAll.cons rfl ?_ (HopAll.cons rfl ?_ (HopAll.cons rfl ?_ (HopAll.cons rfl ?_ (HopAll.cons rfl ?_ (HopAll.cons rfl ?_ (HopAll.cons rfl ?_ (HopAll.cons rfl ?_ (HopAll.cons rfl ?_ (HopAll.cons rfl ?_ (HopAll.cons rfl ?_ (HopAll.cons rfl ?_ (HopAll.cons rfl ?_ (HopAll.cons rfl ?_ (HopAll.cons rfl ?_ (HopAll.cons rfl ?_ (HopAll.cons rfl ?_ (HopAll.cons rfl ?_ (HopAll.cons rfl ?_ (HopAll.cons rfl ?_ HopAll.nil))))))))))))))))))))))))))))))))))))))))))))))
        · intro a w1 hB ho hp K hK
          have e7 : a.eval (.tmp 7) = (.pointer (some ⟨w24.heap.size, 0, none⟩)) := ho 7 (by kernel_rfl)
          obtain ⟨u1, u2, u3⟩ := H_f.out.below hB
          exact hop_load (wanted_none rfl) rfl e7 (run_ldf u1) (hK _ _ rfl (Below.refl _ _))
        · intro a w1 hB ho hp K hK
          have e1 : a.eval (.tmp 1) = (.slice A1 k1 c1) := ho 1 (by kernel_rfl)
          refine hop_val (wanted_none rfl) ?_ (hK (.slice A1 k1 c1) _ rfl (Below.refl _ _))
          unfold execOp; simp only [eval_const, e1]; simp [go_sem]
        · intro a w1 hB ho hp K hK
          have e2 : a.eval (.tmp 2) = (.slice A2 0 c2) := ho 2 (by kernel_rfl)
          refine hop_val (wanted_none rfl) ?_ (hK (.slice A2 0 c2) _ rfl (Below.refl _ _))
          unfold execOp; simp only [eval_const, e2]; simp [go_sem]
        · intro a w1 hB ho hp K hK
          have e74 : a.eval (.tmp 74) = (.agg #[.int .u64 (ab : Int)]) := hp 0 74 (by kernel_rfl)
          have e75 : a.eval (.tmp 75) = (.slice A1 k1 c1) := hp 1 75 (by kernel_rfl)
          have e76 : a.eval (.tmp 76) = (.slice A2 0 c2) := hp 2 76 (by kernel_rfl)
          refine hop_call (wanted_none rfl) rfl (args := #[(.agg #[.int .u64 (ab : Int)]), (.slice A1 k1 c1), (.slice A2 0 c2)]) (by simp only [List.map_toArray, List.map_cons, List.map_nil, eval_const, e74, e75, e76]) (ent7 (by kernel_rfl) _ _) (psub_v HP.out h (hx.below hB) (by omega) (hy.below hB) (by omega)) ?_
          rintro e w2 ⟨A, n, c, rfl, p, B⟩
          exact ⟨_, rfl, hK _ _ ⟨A, n, c, rfl, p⟩ B⟩
        · intro a w1 hB ho hp K hK
          have e9 : a.eval (.tmp 9) = (.slice A26 n26 c26) := ho 9 (by kernel_rfl)
          refine hop_val (wanted_none rfl) ?_ (hK (.slice A26 n26 c26) _ rfl (Below.refl _ _))
          unfold execOp; simp only [eval_const, e9]; simp [go_sem]
        · intro a w1 hB ho hp K hK
          have e10 : a.eval (.tmp 10) = (.slice A27 n27 c27) := ho 10 (by kernel_rfl)
          refine hop_val (wanted_none rfl) ?_ (hK (.slice A27 n27 c27) _ rfl (Below.refl _ _))
          unfold execOp; simp only [eval_const, e10]; simp [go_sem]
        · intro a w1 hB ho hp K hK
          have e8 : a.eval (.tmp 8) = (.int .u64 (p : Int)) := ho 8 (by kernel_rfl)
          refine hop_val (wanted_none rfl) ?_ (hK (.int .u64 (p : Int)) _ rfl (Below.refl _ _))
          unfold execOp; simp only [eval_const, e8]; simp [go_sem]
        · intro a w1 hB ho hp K hK
          have e79 : a.eval (.tmp 79) = (.slice A27 n27 c27) := hp 5 79 (by kernel_rfl)
          have e80 : a.eval (.tmp 80) = (.int .u64 (p : Int)) := hp 6 80 (by kernel_rfl)
          refine hop_call (wanted_none rfl) rfl (args := #[(.slice A27 n27 c27), (.int .u64 (p : Int))]) (by simp only [List.map_toArray, List.map_cons, List.map_nil, eval_const, e79, e80]) (ent7 (by kernel_rfl) _ _) (rneg9_v h2 h (ry.below hB) (by omega)) ?_
          rintro e w2 ⟨A, n, c, rfl, p, B⟩
          exact ⟨_, rfl, hK _ _ ⟨A, n, c, rfl, p⟩ B⟩
        · intro a w1 hB ho hp K hK
          have e8 : a.eval (.tmp 8) = (.int .u64 (p : Int)) := ho 8 (by kernel_rfl)
          refine hop_val (wanted_none rfl) ?_ (hK (.int .u64 (p : Int)) _ rfl (Below.refl _ _))
          unfold execOp; simp only [eval_const, e8]; simp [go_sem]
        · intro a w1 hB ho hp K hK
          have e78 : a.eval (.tmp 78) = (.slice A26 n26 c26) := hp 4 78 (by kernel_rfl)
          obtain ⟨A_81, n_81, c_81, e81, p81⟩ : IsP (nrm p (ngl p (nrm p ys) (nrm p ys).length)) (a.eval (.tmp 81)) w1 := hp 7 81 (by kernel_rfl)
          have e82 : a.eval (.tmp 82) = (.int .u64 (p : Int)) := hp 8 82 (by kernel_rfl)
          refine hop_call (wanted_none rfl) rfl (args := #[(.slice A26 n26 c26), (.slice A_81 n_81 c_81), (.int .u64 (p : Int))]) (by simp only [List.map_toArray, List.map_cons, List.map_nil, eval_const, e78, e81, e82]) (ent7 (by kernel_rfl) _ _) (radd9_v h2 h (rx.below hB) (by omega) p81 (by rw [← p81.len]; omega)) ?_
          rintro e w2 ⟨A, n, c, rfl, p, B⟩
          exact ⟨_, rfl, hK _ _ ⟨A, n, c, rfl, p⟩ B⟩
        · intro a w1 hB ho hp K hK
          obtain ⟨A_77, n_77, c_77, e77, p77⟩ : IsP (amul p xs ys (p - 1)) (a.eval (.tmp 77)) w1 := hp 3 77 (by kernel_rfl)
          obtain ⟨A_83, n_83, c_83, e83, p83⟩ : IsP (nrm p (addl (nrm p xs) (nrm p (ngl p (nrm p ys) (nrm p ys).length)))) (a.eval (.tmp 83)) w1 := hp 9 83 (by kernel_rfl)
          refine hop_call (wanted_none rfl) rfl (args := #[(.slice A_77 n_77 c_77), (.slice A_83 n_83 c_83)]) (by simp only [List.map_toArray, List.map_cons, List.map_nil, eval_const, e77, e83]) (ent7 (by kernel_rfl) _ _) (is9_v (b := true) p77 p83 ⟨fun _ => sub_eq9 hp0 xs ys, fun _ => rfl⟩) ?_
          rintro e w2 ⟨rfl, B⟩
          exact ⟨_, rfl, hK _ _ rfl B⟩
        · intro a w1 hB ho hp K hK
          have e84 : a.eval (.tmp 84) = (.bool true) := hp 10 84 (by kernel_rfl)
          refine hop_val (wanted_none rfl) ?_ (hK (.bool true) _ rfl (Below.refl _ _))
          unfold execOp; simp only [eval_const, e84]; simp [go_sem]
        · intro a w1 hB ho hp K hK
          have e7 : a.eval (.tmp 7) = (.pointer (some ⟨w24.heap.size, 0, none⟩)) := ho 7 (by kernel_rfl)
          obtain ⟨u1, u2, u3⟩ := H_f.out.below hB
          exact hop_load (wanted_at rfl (j := 11) (d := 85) (b := true) (by kernel_rfl) (hp 11 85 (by kernel_rfl))) rfl e7 (run_ldf u1) (hK _ _ rfl (Below.refl _ _))
        · intro a w1 hB ho hp K hK
          have e1 : a.eval (.tmp 1) = (.slice A1 k1 c1) := ho 1 (by kernel_rfl)
          refine hop_val (wanted_at rfl (j := 11) (d := 85) (b := true) (by kernel_rfl) (hp 11 85 (by kernel_rfl))) ?_ (hK (.slice A1 k1 c1) _ rfl (Below.refl _ _))
          unfold execOp; simp only [eval_const, e1]; simp [go_sem]
        · intro a w1 hB ho hp K hK
          have e2 : a.eval (.tmp 2) = (.slice A2 0 c2) := ho 2 (by kernel_rfl)
          refine hop_val (wanted_at rfl (j := 11) (d := 85) (b := true) (by kernel_rfl) (hp 11 85 (by kernel_rfl))) ?_ (hK (.slice A2 0 c2) _ rfl (Below.refl _ _))
          unfold execOp; simp only [eval_const, e2]; simp [go_sem]
        · intro a w1 hB ho hp K hK
          have e86 : a.eval (.tmp 86) = (.agg #[.int .u64 (ab : Int)]) := hp 12 86 (by kernel_rfl)
          have e87 : a.eval (.tmp 87) = (.slice A1 k1 c1) := hp 13 87 (by kernel_rfl)
          have e88 : a.eval (.tmp 88) = (.slice A2 0 c2) := hp 14 88 (by kernel_rfl)
          refine hop_call (wanted_at rfl (j := 11) (d := 85) (b := true) (by kernel_rfl) (hp 11 85 (by kernel_rfl))) rfl (args := #[(.agg #[.int .u64 (ab : Int)]), (.slice A1 k1 c1), (.slice A2 0 c2)]) (by simp only [List.map_toArray, List.map_cons, List.map_nil, eval_const, e86, e87, e88]) (ent7 (by kernel_rfl) _ _) (pmul_v HP.out h (hx.below hB) (by omega) (hy.below hB) (by omega)) ?_
          rintro e w2 ⟨A, n, c, rfl, p, B⟩
          exact ⟨_, rfl, hK _ _ ⟨A, n, c, rfl, p⟩ B⟩
        · intro a w1 hB ho hp K hK
          have e9 : a.eval (.tmp 9) = (.slice A26 n26 c26) := ho 9 (by kernel_rfl)
          refine hop_val (wanted_at rfl (j := 11) (d := 85) (b := true) (by kernel_rfl) (hp 11 85 (by kernel_rfl))) ?_ (hK (.slice A26 n26 c26) _ rfl (Below.refl _ _))
          unfold execOp; simp only [eval_const, e9]; simp [go_sem]
        · intro a w1 hB ho hp K hK
          have e10 : a.eval (.tmp 10) = (.slice A27 n27 c27) := ho 10 (by kernel_rfl)
          refine hop_val (wanted_at rfl (j := 11) (d := 85) (b := true) (by kernel_rfl) (hp 11 85 (by kernel_rfl))) ?_ (hK (.slice A27 n27 c27) _ rfl (Below.refl _ _))
          unfold execOp; simp only [eval_const, e10]; simp [go_sem]
        · intro a w1 hB ho hp K hK
          have e8 : a.eval (.tmp 8) = (.int .u64 (p : Int)) := ho 8 (by kernel_rfl)
          refine hop_val (wanted_at rfl (j := 11) (d := 85) (b := true) (by kernel_rfl) (hp 11 85 (by kernel_rfl))) ?_ (hK (.int .u64 (p : Int)) _ rfl (Below.refl _ _))
          unfold execOp; simp only [eval_const, e8]; simp [go_sem]
        · intro a w1 hB ho hp K hK
          have e90 : a.eval (.tmp 90) = (.slice A26 n26 c26) := hp 16 90 (by kernel_rfl)
          have e91 : a.eval (.tmp 91) = (.slice A27 n27 c27) := hp 17 91 (by kernel_rfl)
          have e92 : a.eval (.tmp 92) = (.int .u64 (p : Int)) := hp 18 92 (by kernel_rfl)
          refine hop_call (wanted_at rfl (j := 11) (d := 85) (b := true) (by kernel_rfl) (hp 11 85 (by kernel_rfl))) rfl (args := #[(.slice A26 n26 c26), (.slice A27 n27 c27), (.int .u64 (p : Int))]) (by simp only [List.map_toArray, List.map_cons, List.map_nil, eval_const, e90, e91, e92]) (ent7 (by kernel_rfl) _ _) (rmul9_v h2 h (rx.below hB) (by omega) (ry.below hB) (by omega)) ?_
          rintro e w2 ⟨A, n, c, rfl, p, B⟩
          exact ⟨_, rfl, hK _ _ ⟨A, n, c, rfl, p⟩ B⟩
        · intro a w1 hB ho hp K hK
          obtain ⟨A_89, n_89, c_89, e89, p89⟩ : IsP (mulp p xs ys) (a.eval (.tmp 89)) w1 := hp 15 89 (by kernel_rfl)
          obtain ⟨A_93, n_93, c_93, e93, p93⟩ : IsP (mulp p (nrm p xs) (nrm p ys)) (a.eval (.tmp 93)) w1 := hp 19 93 (by kernel_rfl)
          refine hop_call (wanted_at rfl (j := 11) (d := 85) (b := true) (by kernel_rfl) (hp 11 85 (by kernel_rfl))) rfl (args := #[(.slice A_89 n_89 c_89), (.slice A_93 n_93 c_93)]) (by simp only [List.map_toArray, List.map_cons, List.map_nil, eval_const, e89, e93]) (ent7 (by kernel_rfl) _ _) (is9_v (b := true) p89 p93 ⟨fun _ => (mulp_nrm p xs ys).symm, fun _ => rfl⟩) ?_
          rintro e w2 ⟨rfl, B⟩
          exact ⟨_, rfl, hK _ _ rfl B⟩
        · intro a w1 hB ho hp K hK
          have e85 : a.eval (.tmp 85) = (.bool true) := hp 11 85 (by kernel_rfl)
          have e94 : a.eval (.tmp 94) = (.bool true) := hp 20 94 (by kernel_rfl)
          refine hop_val (wanted_none rfl) ?_ (hK (.bool true) _ rfl (Below.refl _ _))
          unfold execOp; simp only [eval_const, e85, e94]; simp [go_sem]
        · intro a w1 hB ho hp K hK
          have e95 : a.eval (.tmp 95) = (.bool true) := hp 21 95 (by kernel_rfl)
          refine hop_val (wanted_none rfl) ?_ (hK (.bool true) _ rfl (Below.refl _ _))
          unfold execOp; simp only [eval_const, e95]; simp [go_sem]
        · intro a w1 hB ho hp K hK
          have e7 : a.eval (.tmp 7) = (.pointer (some ⟨w24.heap.size, 0, none⟩)) := ho 7 (by kernel_rfl)
          obtain ⟨u1, u2, u3⟩ := H_f.out.below hB
          exact hop_load (wanted_at rfl (j := 22) (d := 96) (b := true) (by kernel_rfl) (hp 22 96 (by kernel_rfl))) rfl e7 (run_ldf u1) (hK _ _ rfl (Below.refl _ _))
        · intro a w1 hB ho hp K hK
          have e1 : a.eval (.tmp 1) = (.slice A1 k1 c1) := ho 1 (by kernel_rfl)
          refine hop_val (wanted_at rfl (j := 22) (d := 96) (b := true) (by kernel_rfl) (hp 22 96 (by kernel_rfl))) ?_ (hK (.slice A1 k1 c1) _ rfl (Below.refl _ _))
          unfold execOp; simp only [eval_const, e1]; simp [go_sem]
        · intro a w1 hB ho hp K hK
          have e11 : a.eval (.tmp 11) = (.int .u64 3) := ho 11 (by kernel_rfl)
          refine hop_val (wanted_at rfl (j := 22) (d := 96) (b := true) (by kernel_rfl) (hp 22 96 (by kernel_rfl))) ?_ (hK (.int .u64 3) _ rfl (Below.refl _ _))
          unfold execOp; simp only [eval_const, e11]; simp [go_sem]
        · intro a w1 hB ho hp K hK
          have e97 : a.eval (.tmp 97) = (.agg #[.int .u64 (ab : Int)]) := hp 23 97 (by kernel_rfl)
          have e98 : a.eval (.tmp 98) = (.slice A1 k1 c1) := hp 24 98 (by kernel_rfl)
          have e99 : a.eval (.tmp 99) = (.int .u64 3) := hp 25 99 (by kernel_rfl)
          refine hop_call (wanted_at rfl (j := 22) (d := 96) (b := true) (by kernel_rfl) (hp 22 96 (by kernel_rfl))) rfl (args := #[(.agg #[.int .u64 (ab : Int)]), (.slice A1 k1 c1), (.int .u64 3)]) (by simp only [List.map_toArray, List.map_cons, List.map_nil, eval_const, e97, e98, e99]) (ent7 (by kernel_rfl) _ _) (scale_v HP.out h (hx.below hB) (by omega) lC) ?_
          rintro e w2 ⟨A, n, c, rfl, p, B⟩
          exact ⟨_, rfl, hK _ _ ⟨A, n, c, rfl, p⟩ B⟩
        · intro a w1 hB ho hp K hK
          have e9 : a.eval (.tmp 9) = (.slice A26 n26 c26) := ho 9 (by kernel_rfl)
          refine hop_val (wanted_at rfl (j := 22) (d := 96) (b := true) (by kernel_rfl) (hp 22 96 (by kernel_rfl))) ?_ (hK (.slice A26 n26 c26) _ rfl (Below.refl _ _))
          unfold execOp; simp only [eval_const, e9]; simp [go_sem]
        · intro a w1 hB ho hp K hK
          have e11 : a.eval (.tmp 11) = (.int .u64 3) := ho 11 (by kernel_rfl)
          refine hop_val (wanted_at rfl (j := 22) (d := 96) (b := true) (by kernel_rfl) (hp 22 96 (by kernel_rfl))) ?_ (hK (.int .u64 3) _ rfl (Below.refl _ _))
          unfold execOp; simp only [eval_const, e11]; simp [go_sem]
        · intro a w1 hB ho hp K hK
          have e8 : a.eval (.tmp 8) = (.int .u64 (p : Int)) := ho 8 (by kernel_rfl)
          refine hop_val (wanted_at rfl (j := 22) (d := 96) (b := true) (by kernel_rfl) (hp 22 96 (by kernel_rfl))) ?_ (hK (.int .u64 (p : Int)) _ rfl (Below.refl _ _))
          unfold execOp; simp only [eval_const, e8]; simp [go_sem]
        · intro a w1 hB ho hp K hK
          have e102 : a.eval (.tmp 102) = (.int .u64 3) := hp 28 102 (by kernel_rfl)
          have e103 : a.eval (.tmp 103) = (.int .u64 (p : Int)) := hp 29 103 (by kernel_rfl)
          refine hop_val (wanted_at rfl (j := 22) (d := 96) (b := true) (by kernel_rfl) (hp 22 96 (by kernel_rfl))) ?_ (hK (.int .u64 (cp : Int)) _ rfl (Below.refl _ _))
          unfold execOp; simp only [eval_const, e102, e103]; simp [go_sem, HCI.out, HCT.out, hpne]
        · intro a w1 hB ho hp K hK
          have e104 : a.eval (.tmp 104) = (.int .u64 (cp : Int)) := hp 30 104 (by kernel_rfl)
          refine hop_mem (wanted_at rfl (j := 22) (d := 96) (b := true) (by kernel_rfl) (hp 22 96 (by kernel_rfl))) ?_ (hK _ _ ⟨_, _, _, rfl, (hsv ▸ lv_con (by omega))⟩ (zba _ _))
          unfold execOp; simp only [List.map_toArray, List.map_cons, List.map_nil, eval_const, e104]; simp [run_bsc]
        · intro a w1 hB ho hp K hK
          have e8 : a.eval (.tmp 8) = (.int .u64 (p : Int)) := ho 8 (by kernel_rfl)
          refine hop_val (wanted_at rfl (j := 22) (d := 96) (b := true) (by kernel_rfl) (hp 22 96 (by kernel_rfl))) ?_ (hK (.int .u64 (p : Int)) _ rfl (Below.refl _ _))
          unfold execOp; simp only [eval_const, e8]; simp [go_sem]
        · intro a w1 hB ho hp K hK
          have e101 : a.eval (.tmp 101) = (.slice A26 n26 c26) := hp 27 101 (by kernel_rfl)
          obtain ⟨A_105, n_105, c_105, e105, p105⟩ : IsP sv (a.eval (.tmp 105)) w1 := hp 31 105 (by kernel_rfl)
          have e106 : a.eval (.tmp 106) = (.int .u64 (p : Int)) := hp 32 106 (by kernel_rfl)
          refine hop_call (wanted_at rfl (j := 22) (d := 96) (b := true) (by kernel_rfl) (hp 22 96 (by kernel_rfl))) rfl (args := #[(.slice A26 n26 c26), (.slice A_105 n_105 c_105), (.int .u64 (p : Int))]) (by simp only [List.map_toArray, List.map_cons, List.map_nil, eval_const, e101, e105, e106]) (ent7 (by kernel_rfl) _ _) (rmul9_v h2 h (rx.below hB) (by omega) p105 (by rw [← p105.len]; omega)) ?_
          rintro e w2 ⟨A, n, c, rfl, p, B⟩
          exact ⟨_, rfl, hK _ _ ⟨A, n, c, rfl, p⟩ B⟩
        · intro a w1 hB ho hp K hK
          obtain ⟨A_100, n_100, c_100, e100, p100⟩ : IsP (amul p [] xs 3) (a.eval (.tmp 100)) w1 := hp 26 100 (by kernel_rfl)
          obtain ⟨A_107, n_107, c_107, e107, p107⟩ : IsP (mulp p (nrm p xs) sv) (a.eval (.tmp 107)) w1 := hp 33 107 (by kernel_rfl)
          refine hop_call (wanted_at rfl (j := 22) (d := 96) (b := true) (by kernel_rfl) (hp 22 96 (by kernel_rfl))) rfl (args := #[(.slice A_100 n_100 c_100), (.slice A_107 n_107 c_107)]) (by simp only [List.map_toArray, List.map_cons, List.map_nil, eval_const, e100, e107]) (ent7 (by kernel_rfl) _ _) (is9_v (b := true) p100 p107 ⟨fun _ => by rw [hsv, ← HCP.out]; exact scale_eq9 hp0 xs 3, fun _ => rfl⟩) ?_
          rintro e w2 ⟨rfl, B⟩
          exact ⟨_, rfl, hK _ _ rfl B⟩
        · intro a w1 hB ho hp K hK
          have e96 : a.eval (.tmp 96) = (.bool true) := hp 22 96 (by kernel_rfl)
          have e108 : a.eval (.tmp 108) = (.bool true) := hp 34 108 (by kernel_rfl)
          refine hop_val (wanted_none rfl) ?_ (hK (.bool true) _ rfl (Below.refl _ _))
          unfold execOp; simp only [eval_const, e96, e108]; simp [go_sem]
        · intro a w1 hB ho hp K hK
          have e109 : a.eval (.tmp 109) = (.bool true) := hp 35 109 (by kernel_rfl)
          refine hop_val (wanted_none rfl) ?_ (hK (.bool true) _ rfl (Below.refl _ _))
          unfold execOp; simp only [eval_const, e109]; simp [go_sem]
        · intro a w1 hB ho hp K hK
          have e7 : a.eval (.tmp 7) = (.pointer (some ⟨w24.heap.size, 0, none⟩)) := ho 7 (by kernel_rfl)
          obtain ⟨u1, u2, u3⟩ := H_f.out.below hB
          exact hop_load (wanted_at rfl (j := 36) (d := 110) (b := true) (by kernel_rfl) (hp 36 110 (by kernel_rfl))) rfl e7 (run_ldf u1) (hK _ _ rfl (Below.refl _ _))
        · intro a w1 hB ho hp K hK
          have e1 : a.eval (.tmp 1) = (.slice A1 k1 c1) := ho 1 (by kernel_rfl)
          refine hop_val (wanted_at rfl (j := 36) (d := 110) (b := true) (by kernel_rfl) (hp 36 110 (by kernel_rfl))) ?_ (hK (.slice A1 k1 c1) _ rfl (Below.refl _ _))
          unfold execOp; simp only [eval_const, e1]; simp [go_sem]
        · intro a w1 hB ho hp K hK
          have e11 : a.eval (.tmp 11) = (.int .u64 3) := ho 11 (by kernel_rfl)
          refine hop_val (wanted_at rfl (j := 36) (d := 110) (b := true) (by kernel_rfl) (hp 36 110 (by kernel_rfl))) ?_ (hK (.int .u64 3) _ rfl (Below.refl _ _))
          unfold execOp; simp only [eval_const, e11]; simp [go_sem]
        · intro a w1 hB ho hp K hK
          have e111 : a.eval (.tmp 111) = (.agg #[.int .u64 (ab : Int)]) := hp 37 111 (by kernel_rfl)
          have e112 : a.eval (.tmp 112) = (.slice A1 k1 c1) := hp 38 112 (by kernel_rfl)
          have e113 : a.eval (.tmp 113) = (.int .u64 3) := hp 39 113 (by kernel_rfl)
          refine hop_call (wanted_at rfl (j := 36) (d := 110) (b := true) (by kernel_rfl) (hp 36 110 (by kernel_rfl))) rfl (args := #[(.agg #[.int .u64 (ab : Int)]), (.slice A1 k1 c1), (.int .u64 3)]) (by simp only [List.map_toArray, List.map_cons, List.map_nil, eval_const, e111, e112, e113]) (ent7 (by kernel_rfl) _ _) (eval9_v HP.out h (hx.below hB) lC HEV.out) ?_
          rintro e w2 ⟨rfl, B⟩
          exact ⟨_, rfl, hK _ _ rfl B⟩
        · intro a w1 hB ho hp K hK
          have e9 : a.eval (.tmp 9) = (.slice A26 n26 c26) := ho 9 (by kernel_rfl)
          refine hop_val (wanted_at rfl (j := 36) (d := 110) (b := true) (by kernel_rfl) (hp 36 110 (by kernel_rfl))) ?_ (hK (.slice A26 n26 c26) _ rfl (Below.refl _ _))
          unfold execOp; simp only [eval_const, e9]; simp [go_sem]
        · intro a w1 hB ho hp K hK
          have e11 : a.eval (.tmp 11) = (.int .u64 3) := ho 11 (by kernel_rfl)
          refine hop_val (wanted_at rfl (j := 36) (d := 110) (b := true) (by kernel_rfl) (hp 36 110 (by kernel_rfl))) ?_ (hK (.int .u64 3) _ rfl (Below.refl _ _))
          unfold execOp; simp only [eval_const, e11]; simp [go_sem]
        · intro a w1 hB ho hp K hK
          have e8 : a.eval (.tmp 8) = (.int .u64 (p : Int)) := ho 8 (by kernel_rfl)
          refine hop_val (wanted_at rfl (j := 36) (d := 110) (b := true) (by kernel_rfl) (hp 36 110 (by kernel_rfl))) ?_ (hK (.int .u64 (p : Int)) _ rfl (Below.refl _ _))
          unfold execOp; simp only [eval_const, e8]; simp [go_sem]
        · intro a w1 hB ho hp K hK
          have e115 : a.eval (.tmp 115) = (.slice A26 n26 c26) := hp 41 115 (by kernel_rfl)
          have e116 : a.eval (.tmp 116) = (.int .u64 3) := hp 42 116 (by kernel_rfl)
          have e117 : a.eval (.tmp 117) = (.int .u64 (p : Int)) := hp 43 117 (by kernel_rfl)
          refine hop_call (wanted_at rfl (j := 36) (d := 110) (b := true) (by kernel_rfl) (hp 36 110 (by kernel_rfl))) rfl (args := #[(.slice A26 n26 c26), (.int .u64 3), (.int .u64 (p : Int))]) (by simp only [List.map_toArray, List.map_cons, List.map_nil, eval_const, e115, e116, e117]) (ent7 (by kernel_rfl) _ _) (reval9_v h2 h (rx.below hB) lC HEV2.out) ?_
          rintro e w2 ⟨rfl, B⟩
          exact ⟨_, rfl, hK _ _ rfl B⟩
        · intro a w1 hB ho hp K hK
          have e114 : a.eval (.tmp 114) = (.int .u64 (EV : Int)) := hp 40 114 (by kernel_rfl)
          have e118 : a.eval (.tmp 118) = (.int .u64 (EV : Int)) := hp 44 118 (by kernel_rfl)
          refine hop_val (wanted_at rfl (j := 36) (d := 110) (b := true) (by kernel_rfl) (hp 36 110 (by kernel_rfl))) ?_ (hK (.bool true) _ rfl (Below.refl _ _))
          unfold execOp; simp only [eval_const, e114, e118]; simp [go_sem]
        · intro a w1 hB ho hp K hK
          have e110 : a.eval (.tmp 110) = (.bool true) := hp 36 110 (by kernel_rfl)
          have e119 : a.eval (.tmp 119) = (.bool true) := hp 45 119 (by kernel_rfl)
          refine hop_val (wanted_none rfl) ?_ (hK (.bool true) _ rfl (Below.refl _ _))
          unfold execOp; simp only [eval_const, e110, e119]; simp [go_sem]
      intro w36 B36
      refine @Ends.one _ _ _ _ _ _ _ _ _ _ fun vv hv => ?_
      obtain rfl : vv = (.agg #[.int .u64 (ab : Int)]) := hv
      refine @Ends.one _ _ _ _ _ _ _ _ _ _ fun vv hv => ?_
      obtain rfl : vv = (.slice A1 k1 c1) := hv
      refine @Ends.one _ _ _ _ _ _ _ _ _ _ fun vv hv => ?_
      obtain rfl : vv = (.slice A2 0 c2) := hv
      refine @Ends.one _ _ _ _ _ _ _ _ _ _ fun vv hv => ?_
      obtain ⟨A37, n37, c37, rfl, p37⟩ : IsP (amul p xs ys (p - 1)) vv w36 := hv
      refine @Ends.one _ _ _ _ _ _ _ _ _ _ fun vv hv => ?_
      obtain rfl : vv = (.slice A26 n26 c26) := hv
      refine @Ends.one _ _ _ _ _ _ _ _ _ _ fun vv hv => ?_
      obtain rfl : vv = (.slice A27 n27 c27) := hv
      refine @Ends.one _ _ _ _ _ _ _ _ _ _ fun vv hv => ?_
      obtain rfl : vv = (.int .u64 (p : Int)) := hv
      refine @Ends.one _ _ _ _ _ _ _ _ _ _ fun vv hv => ?_
      obtain ⟨A38, n38, c38, rfl, p38⟩ : IsP (nrm p (ngl p (nrm p ys) (nrm p ys).length)) vv w36 := hv
      refine @Ends.one _ _ _ _ _ _ _ _ _ _ fun vv hv => ?_
      obtain rfl : vv = (.int .u64 (p : Int)) := hv
      refine @Ends.one _ _ _ _ _ _ _ _ _ _ fun vv hv => ?_
      obtain ⟨A39, n39, c39, rfl, p39⟩ : IsP (nrm p (addl (nrm p xs) (nrm p (ngl p (nrm p ys) (nrm p ys).length)))) vv w36 := hv
      refine @Ends.one _ _ _ _ _ _ _ _ _ _ fun vv hv => ?_
      obtain rfl : vv = (.bool true) := hv
      refine @Ends.one _ _ _ _ _ _ _ _ _ _ fun vv hv => ?_
      obtain rfl : vv = (.bool true) := hv
      refine @Ends.one _ _ _ _ _ _ _ _ _ _ fun vv hv => ?_
      obtain rfl : vv = (.agg #[.int .u64 (ab : Int)]) := hv
      refine @Ends.one _ _ _ _ _ _ _ _ _ _ fun vv hv => ?_
      obtain rfl : vv = (.slice A1 k1 c1) := hv
      refine @Ends.one _ _ _ _ _ _ _ _ _ _ fun vv hv => ?_
      obtain rfl : vv = (.slice A2 0 c2) := hv
      refine @Ends.one _ _ _ _ _ _ _ _ _ _ fun vv hv => ?_
      obtain ⟨A40, n40, c40, rfl, p40⟩ : IsP (mulp p xs ys) vv w36 := hv
      refine @Ends.one _ _ _ _ _ _ _ _ _ _ fun vv hv => ?_
      obtain rfl : vv = (.slice A26 n26 c26) := hv
      refine @Ends.one _ _ _ _ _ _ _ _ _ _ fun vv hv => ?_
      obtain rfl : vv = (.slice A27 n27 c27) := hv
      refine @Ends.one _ _ _ _ _ _ _ _ _ _ fun vv hv => ?_
      obtain rfl : vv = (.int .u64 (p : Int)) := hv
      refine @Ends.one _ _ _ _ _ _ _ _ _ _ fun vv hv => ?_
      obtain ⟨A41, n41, c41, rfl, p41⟩ : IsP (mulp p (nrm p xs) (nrm p ys)) vv w36 := hv
      refine @Ends.one _ _ _ _ _ _ _ _ _ _ fun vv hv => ?_
      obtain rfl : vv = (.bool true) := hv
      refine @Ends.one _ _ _ _ _ _ _ _ _ _ fun vv hv => ?_
      obtain rfl : vv = (.bool true) := hv
      refine @Ends.one _ _ _ _ _ _ _ _ _ _ fun vv hv => ?_
      obtain rfl : vv = (.bool true) := hv
      refine @Ends.one _ _ _ _ _ _ _ _ _ _ fun vv hv => ?_
      obtain rfl : vv = (.agg #[.int .u64 (ab : Int)]) := hv
      refine @Ends.one _ _ _ _ _ _ _ _ _ _ fun vv hv => ?_
      obtain rfl : vv = (.slice A1 k1 c1) := hv
      refine @Ends.one _ _ _ _ _ _ _ _ _ _ fun vv hv => ?_
      obtain rfl : vv = (.int .u64 3) := hv
      refine @Ends.one _ _ _ _ _ _ _ _ _ _ fun vv hv => ?_
      obtain ⟨A42, n42, c42, rfl, p42⟩ : IsP (amul p [] xs 3) vv w36 := hv
      refine @Ends.one _ _ _ _ _ _ _ _ _ _ fun vv hv => ?_
      obtain rfl : vv = (.slice A26 n26 c26) := hv
      refine @Ends.one _ _ _ _ _ _ _ _ _ _ fun vv hv => ?_
      obtain rfl : vv = (.int .u64 3) := hv
      refine @Ends.one _ _ _ _ _ _ _ _ _ _ fun vv hv => ?_
      obtain rfl : vv = (.int .u64 (p : Int)) := hv
      refine @Ends.one _ _ _ _ _ _ _ _ _ _ fun vv hv => ?_
      obtain rfl : vv = (.int .u64 (cp : Int)) := hv
      refine @Ends.one _ _ _ _ _ _ _ _ _ _ fun vv hv => ?_
      obtain ⟨A43, n43, c43, rfl, p43⟩ : IsP sv vv w36 := hv
      refine @Ends.one _ _ _ _ _ _ _ _ _ _ fun vv hv => ?_
      obtain rfl : vv = (.int .u64 (p : Int)) := hv
      refine @Ends.one _ _ _ _ _ _ _ _ _ _ fun vv hv => ?_
      obtain ⟨A44, n44, c44, rfl, p44⟩ : IsP (mulp p (nrm p xs) sv) vv w36 := hv
      refine @Ends.one _ _ _ _ _ _ _ _ _ _ fun vv hv => ?_
      obtain rfl : vv = (.bool true) := hv
      refine @Ends.one _ _ _ _ _ _ _ _ _ _ fun vv hv => ?_
      obtain rfl : vv = (.bool true) := hv
      refine @Ends.one _ _ _ _ _ _ _ _ _ _ fun vv hv => ?_
      obtain rfl : vv = (.bool true) := hv
      refine @Ends.one _ _ _ _ _ _ _ _ _ _ fun vv hv => ?_
      obtain rfl : vv = (.agg #[.int .u64 (ab : Int)]) := hv
      refine @Ends.one _ _ _ _ _ _ _ _ _ _ fun vv hv => ?_
      obtain rfl : vv = (.slice A1 k1 c1) := hv
      refine @Ends.one _ _ _ _ _ _ _ _ _ _ fun vv hv => ?_
      obtain rfl : vv = (.int .u64 3) := hv
      refine @Ends.one _ _ _ _ _ _ _ _ _ _ fun vv hv => ?_
      obtain rfl : vv = (.int .u64 (EV : Int)) := hv
      refine @Ends.one _ _ _ _ _ _ _ _ _ _ fun vv hv => ?_
      obtain rfl : vv = (.slice A26 n26 c26) := hv
      refine @Ends.one _ _ _ _ _ _ _ _ _ _ fun vv hv => ?_
      obtain rfl : vv = (.int .u64 3) := hv
      refine @Ends.one _ _ _ _ _ _ _ _ _ _ fun vv hv => ?_
      obtain rfl : vv = (.int .u64 (p : Int)) := hv
      refine @Ends.one _ _ _ _ _ _ _ _ _ _ fun vv hv => ?_
      obtain rfl : vv = (.int .u64 (EV : Int)) := hv
      refine @Ends.one _ _ _ _ _ _ _ _ _ _ fun vv hv => ?_
      obtain rfl : vv = (.bool true) := hv
      refine @Ends.one _ _ _ _ _ _ _ _ _ _ fun vv hv => ?_
      obtain rfl : vv = (.bool true) := hv
      refine @Ends.nil _ _ _ _ _ _ _ _ [_] rfl ?_
      simp only [Act.put, List.setIfInBounds_toArray, List.set_cons_zero, List.set_cons_succ]
      replace H_f := Lib.hid (H_f.out.below B36)
      replace hx := hx.below B36
      replace hy := hy.below B36
      replace hT := hT.below B36
      replace rx := rx.below B36
      replace ry := ry.below B36
      replace hW := hW.trans (B36.mono hW.size)
      clear p37 p38 p39 p40 p41 p42 p43 p44
      clear B36
      go_wp2_with fail
      exact bodyPost_ret (v := .bool true) (by simp [results, Tryd.results3, go_sem]) rfl ⟨rfl, hW⟩
    · have hk2i : (0 : Int) < (k2 : Int) := by omega
      obtain ⟨ad, rfl, _, hcell⟩ := hy.at (k := 0) hk2
      rw [addr_add] at hcell
      obtain ⟨C, hC⟩ : ∃ C, nth ys 0 = C := ⟨_, rfl⟩
      rw [hC] at hcell
      have lC : C < 18446744073709551616 := hC ▸ hy.lt 0
      clear hC
      obtain ⟨cp, hcp⟩ : ∃ q, C % p = q := ⟨_, rfl⟩
      have lcp : cp < p := hcp ▸ Nat.mod_lt _ (by omega)
      obtain ⟨EV, hEV⟩ : ∃ q, ev C xs % p = q := ⟨_, rfl⟩
      have hEV2 : ev C (nrm p xs) % p = EV := by rw [ev_nrm9]; exact hEV
      have hci : ((C : Int) : Int) % (p : Int) = (cp : Int) := by rw [← hcp]; exact (Int.natCast_emod C p).symm
      have hct : ((C : Int) : Int).tmod (p : Int) = (cp : Int) := by rw [Int.tmod_eq_emod_of_nonneg (by omega)]; exact hci
      have hpne : ¬ (p = 0) := by omega
      have HEV := Lib.hid hEV
      have HEV2 := Lib.hid hEV2
      have HCP := Lib.hid hcp
      have HCI := Lib.hid hci
      have HCT := Lib.hid hct
      clear hEV hEV2 hcp hci hct
      obtain ⟨sv, hsv⟩ : ∃ l : List Nat, l = [cp] := ⟨_, rfl⟩
      obtain ⟨f1, f2, f3⟩ := H_f.out
      go_wp2_with fail
      clear f1 f2 f3
      refine (norm_v HP.out h hx (by omega)).mono ?_
      rintro e w28 ⟨A28, n28, c28, rfl, r1, B28⟩
      replace H_f := Lib.hid (H_f.out.below B28)
      replace hx := hx.below B28
      replace hy := hy.below B28
      replace hT := hT.below B28
      replace rx := rx.below B28
      replace ry := ry.below B28
      replace hW := hW.trans (B28.mono hW.size)
      clear B28
      clear hcell
      obtain ⟨f1, f2, f3⟩ := H_f.out
      go_wp2_with fail
      clear f1 f2 f3
      refine (is9_v (b := true) r1 rx ⟨fun _ => rfl, fun _ => rfl⟩).mono ?_
      rintro e w29 ⟨rfl, B29⟩
      replace H_f := Lib.hid (H_f.out.below B29)
      replace hx := hx.below B29
      replace hy := hy.below B29
      replace hT := hT.below B29
      replace rx := rx.below B29
      replace ry := ry.below B29
      replace r1 := r1.below B29
      replace hW := hW.trans (B29.mono hW.size)
      clear B29
      clear r1
      obtain ⟨f1, f2, f3⟩ := H_f.out
      go_wp2_with fail
      clear f1 f2 f3
      refine (deg_v HP.out h hx).mono ?_
      rintro e w30 ⟨rfl, B30⟩
      replace H_f := Lib.hid (H_f.out.below B30)
      replace hx := hx.below B30
      replace hy := hy.below B30
      replace hT := hT.below B30
      replace rx := rx.below B30
      replace ry := ry.below B30
      replace hW := hW.trans (B30.mono hW.size)
      clear B30
      rw [rx.len]
      obtain ⟨f1, f2, f3⟩ := H_f.out
      go_wp2_with fail
      clear f1 f2 f3
      refine (same9_v HP.out h hx (by omega) hy (by omega) HSB.out).mono ?_
      rintro e w31 ⟨rfl, B31⟩
      replace H_f := Lib.hid (H_f.out.below B31)
      replace hx := hx.below B31
      replace hy := hy.below B31
      replace hT := hT.below B31
      replace rx := rx.below B31
      replace ry := ry.below B31
      replace hW := hW.trans (B31.mono hW.size)
      clear B31
      obtain ⟨f1, f2, f3⟩ := H_f.out
      go_wp2_with fail
      clear f1 f2 f3
      refine (rsame_v rx ry HSB.out).mono ?_
      rintro e w32 ⟨rfl, B32⟩
      replace H_f := Lib.hid (H_f.out.below B32)
      replace hx := hx.below B32
      replace hy := hy.below B32
      replace hT := hT.below B32
      replace rx := rx.below B32
      replace ry := ry.below B32
      replace hW := hW.trans (B32.mono hW.size)
      clear B32
      obtain ⟨f1, f2, f3⟩ := H_f.out
      go_wp2_with fail
      clear f1 f2 f3
      refine (padd_v HP.out h hx (by omega) hy (by omega)).mono ?_
      rintro e w33 ⟨A33, n33, c33, rfl, ra, B33⟩
      replace H_f := Lib.hid (H_f.out.below B33)
      replace hx := hx.below B33
      replace hy := hy.below B33
      replace hT := hT.below B33
      replace rx := rx.below B33
      replace ry := ry.below B33
      replace hW := hW.trans (B33.mono hW.size)
      clear B33
      obtain ⟨f1, f2, f3⟩ := H_f.out
      go_wp2_with fail
      clear f1 f2 f3
      refine (radd9_v h2 h rx (by omega) ry (by omega)).mono ?_
      rintro e w34 ⟨A34, n34, c34, rfl, rb, B34⟩
      replace H_f := Lib.hid (H_f.out.below B34)
      replace hx := hx.below B34
      replace hy := hy.below B34
      replace hT := hT.below B34
      replace rx := rx.below B34
      replace ry := ry.below B34
      replace ra := ra.below B34
      replace hW := hW.trans (B34.mono hW.size)
      clear B34
      obtain ⟨f1, f2, f3⟩ := H_f.out
      go_wp2_with fail
      clear f1 f2 f3
      refine (is9_v (b := true) ra rb ⟨fun _ => add_eq9 hp0 xs ys, fun _ => rfl⟩).mono ?_
      rintro e w35 ⟨rfl, B35⟩
      replace H_f := Lib.hid (H_f.out.below B35)
      replace hx := hx.below B35
      replace hy := hy.below B35
      replace hT := hT.below B35
      replace rx := rx.below B35
      replace ry := ry.below B35
      replace ra := ra.below B35
      replace rb := rb.below B35
      replace hW := hW.trans (B35.mono hW.size)
      clear B35
      clear ra rb
      have l1 : (nrm p (ngl p (nrm p ys) (nrm p ys).length)).length ≤ 1000 := by have := nrm_le p (ngl p (nrm p ys) (nrm p ys).length); rw [ngl_len] at this; omega
      have hsl : sv.length = 1 := by rw [hsv]; rfl
      obtain ⟨f1, f2, f3⟩ := H_f.out
      go_wp2_with fail
      clear f1 f2 f3
      refine region9 [some 74, some 75, some 76, some 77, some 78, some 79, some 80, some 81, some 82, some 83, some 84, some 85, some 86, some 87, some 88, some 89, some 90, some 91, some 92, some 93, some 94, some 95, some 96, some 97, some 98, some 99, some 100, some 101, some 102, some 103, some 104, some 105, some 106, some 107, some 108, some 109, some 110, some 111, some 112, some 113, some 114, some 115, some 116, some 117, some 118, some 119, some 120] [] 47 [IsK (.agg #[.int .u64 (ab : Int)]), IsK (.slice A1 k1 c1), IsK (.slice (some ad) k2 c2), IsP (amul p xs ys (p - 1)), IsK (.slice A26 n26 c26), IsK (.slice A27 n27 c27), IsK (.int .u64 (p : Int)), IsP (nrm p (ngl p (nrm p ys) (nrm p ys).length)), IsK (.int .u64 (p : Int)), IsP (nrm p (addl (nrm p xs) (nrm p (ngl p (nrm p ys) (nrm p ys).length)))), IsK (.bool true), IsK (.bool true), IsK (.agg #[.int .u64 (ab : Int)]), IsK (.slice A1 k1 c1), IsK (.slice (some ad) k2 c2), IsP (mulp p xs ys), IsK (.slice A26 n26 c26), IsK (.slice A27 n27 c27), IsK (.int .u64 (p : Int)), IsP (mulp p (nrm p xs) (nrm p ys)), IsK (.bool true), IsK (.bool true), IsK (.bool true), IsK (.agg #[.int .u64 (ab : Int)]), IsK (.slice A1 k1 c1), IsK (.int .u64 (C : Int)), IsP (amul p [] xs C), IsK (.slice A26 n26 c26), IsK (.int .u64 (C : Int)), IsK (.int .u64 (p : Int)), IsK (.int .u64 (cp : Int)), IsP sv, IsK (.int .u64 (p : Int)), IsP (mulp p (nrm p xs) sv), IsK (.bool true), IsK (.bool true), IsK (.bool true), IsK (.agg #[.int .u64 (ab : Int)]), IsK (.slice A1 k1 c1), IsK (.int .u64 (C : Int)), IsK (.int .u64 (EV : Int)), IsK (.slice A26 n26 c26), IsK (.int .u64 (C : Int)), IsK (.int .u64 (p : Int)), IsK (.int .u64 (EV : Int)), IsK (.bool true), IsK (.bool true)] (fun _ _ d _ _ h => by cases d <;> exact h) (by kernel_rfl) (by kernel_rfl) (by kernel_rfl) (by kernel_rfl) (by kernel_rfl) ⟨stay_k _, stay_k _, stay_k _, stay_p _, stay_k _, stay_k _, stay_k _, stay_p _, stay_k _, stay_p _, stay_k _, stay_k _, stay_k _, stay_k _, stay_k _, stay_p _, stay_k _, stay_k _, stay_k _, stay_p _, stay_k _, stay_k _, stay_k _, stay_k _, stay_k _, stay_k _, stay_p _, stay_k _, stay_k _, stay_k _, stay_k _, stay_p _, stay_k _, stay_p _, stay_k _, stay_k _, stay_k _, stay_k _, stay_k _, stay_k _, stay_k _, stay_k _, stay_k _, stay_k _, stay_k _, stay_k _, stay_k _, trivial⟩ ?_ ?_
      · refine HopAll.cons rfl ?_ (HopAll.cons rfl ?_ (HopAll.cons rfl ?_ (HopAll.cons rfl ?_ (HopAll.cons rfl ?_ (HopAll.cons rfl ?_ (HopAll.cons rfl ?_ (HopAll.cons rfl ?_ (HopAll.cons rfl ?_ (HopAll.cons rfl ?_ (HopAll.cons rfl ?_ (HopAll.cons rfl ?_ (HopAll.cons rfl ?_ (HopAll.cons rfl ?_ (HopAll.cons rfl ?_ (HopAll.cons rfl ?_ (HopAll.cons rfl ?_ (HopAll.cons rfl ?_ (HopAll.cons rfl ?_ (HopAll.cons rfl ?_ (HopAll.cons rfl ?_ (HopAll.cons rfl ?_ (HopAll.cons rfl ?_ (HopAll.cons rfl ?_ (HopAll.cons rfl ?_ (HopAll.cons rfl ?_ (HopAll.cons rfl ?_ (HopAll.cons rfl ?_ (HopAll.cons rfl ?_ (HopAll.cons rfl ?_ (HopAll.cons rfl ?_ (HopAll.cons rfl ?_ (HopAll.cons rfl ?_ (HopAll.cons rfl ?_ (HopAll.cons rfl ?_ (HopAll.cons rfl ?_ (HopAll.cons rfl ?_ (HopAll.cons rfl ?_ (HopAll.cons rfl ?_ (HopAll.cons rfl ?_ (HopAll.cons rfl ?_ (HopAll.cons rfl ?_ (HopAll.cons rfl ?_ (HopAll.cons rfl ?_ (HopAll.cons rfl ?_ (HopAll.cons rfl ?_ (HopAll.cons rfl ?_ HopAll.nil))))))))))))))))))))))))))))))))))))))))))))))
        · intro a w1 hB ho hp K hK
          have e7 : a.eval (.tmp 7) = (.pointer (some ⟨w24.heap.size, 0, none⟩)) := ho 7 (by kernel_rfl)
          obtain ⟨u1, u2, u3⟩ := H_f.out.below hB
          exact hop_load (wanted_none rfl) rfl e7 (run_ldf u1) (hK _ _ rfl (Below.refl _ _))
        · intro a w1 hB ho hp K hK
          have e1 : a.eval (.tmp 1) = (.slice A1 k1 c1) := ho 1 (by kernel_rfl)
          refine hop_val (wanted_none rfl) ?_ (hK (.slice A1 k1 c1) _ rfl (Below.refl _ _))
          unfold execOp; simp only [eval_const, e1]; simp [go_sem]
        · intro a w1 hB ho hp K hK
          have e2 : a.eval (.tmp 2) = (.slice (some ad) k2 c2) := ho 2 (by kernel_rfl)
          refine hop_val (wanted_none rfl) ?_ (hK (.slice (some ad) k2 c2) _ rfl (Below.refl _ _))
          unfold execOp; simp only [eval_const, e2]; simp [go_sem]
        · intro a w1 hB ho hp K hK
          have e74 : a.eval (.tmp 74) = (.agg #[.int .u64 (ab : Int)]) := hp 0 74 (by kernel_rfl)
          have e75 : a.eval (.tmp 75) = (.slice A1 k1 c1) := hp 1 75 (by kernel_rfl)
          have e76 : a.eval (.tmp 76) = (.slice (some ad) k2 c2) := hp 2 76 (by kernel_rfl)
          refine hop_call (wanted_none rfl) rfl (args := #[(.agg #[.int .u64 (ab : Int)]), (.slice A1 k1 c1), (.slice (some ad) k2 c2)]) (by simp only [List.map_toArray, List.map_cons, List.map_nil, eval_const, e74, e75, e76]) (ent7 (by kernel_rfl) _ _) (psub_v HP.out h (hx.below hB) (by omega) (hy.below hB) (by omega)) ?_
          rintro e w2 ⟨A, n, c, rfl, p, B⟩
          exact ⟨_, rfl, hK _ _ ⟨A, n, c, rfl, p⟩ B⟩
        · intro a w1 hB ho hp K hK
          have e9 : a.eval (.tmp 9) = (.slice A26 n26 c26) := ho 9 (by kernel_rfl)
          refine hop_val (wanted_none rfl) ?_ (hK (.slice A26 n26 c26) _ rfl (Below.refl _ _))
          unfold execOp; simp only [eval_const, e9]; simp [go_sem]
        · intro a w1 hB ho hp K hK
          have e10 : a.eval (.tmp 10) = (.slice A27 n27 c27) := ho 10 (by kernel_rfl)
          refine hop_val (wanted_none rfl) ?_ (hK (.slice A27 n27 c27) _ rfl (Below.refl _ _))
          unfold execOp; simp only [eval_const, e10]; simp [go_sem]
        · intro a w1 hB ho hp K hK
          have e8 : a.eval (.tmp 8) = (.int .u64 (p : Int)) := ho 8 (by kernel_rfl)
          refine hop_val (wanted_none rfl) ?_ (hK (.int .u64 (p : Int)) _ rfl (Below.refl _ _))
          unfold execOp; simp only [eval_const, e8]; simp [go_sem]
        · intro a w1 hB ho hp K hK
          have e79 : a.eval (.tmp 79) = (.slice A27 n27 c27) := hp 5 79 (by kernel_rfl)
          have e80 : a.eval (.tmp 80) = (.int .u64 (p : Int)) := hp 6 80 (by kernel_rfl)
          refine hop_call (wanted_none rfl) rfl (args := #[(.slice A27 n27 c27), (.int .u64 (p : Int))]) (by simp only [List.map_toArray, List.map_cons, List.map_nil, eval_const, e79, e80]) (ent7 (by kernel_rfl) _ _) (rneg9_v h2 h (ry.below hB) (by omega)) ?_
          rintro e w2 ⟨A, n, c, rfl, p, B⟩
          exact ⟨_, rfl, hK _ _ ⟨A, n, c, rfl, p⟩ B⟩
        · intro a w1 hB ho hp K hK
          have e8 : a.eval (.tmp 8) = (.int .u64 (p : Int)) := ho 8 (by kernel_rfl)
          refine hop_val (wanted_none rfl) ?_ (hK (.int .u64 (p : Int)) _ rfl (Below.refl _ _))
          unfold execOp; simp only [eval_const, e8]; simp [go_sem]
        · intro a w1 hB ho hp K hK
          have e78 : a.eval (.tmp 78) = (.slice A26 n26 c26) := hp 4 78 (by kernel_rfl)
          obtain ⟨A_81, n_81, c_81, e81, p81⟩ : IsP (nrm p (ngl p (nrm p ys) (nrm p ys).length)) (a.eval (.tmp 81)) w1 := hp 7 81 (by kernel_rfl)
          have e82 : a.eval (.tmp 82) = (.int .u64 (p : Int)) := hp 8 82 (by kernel_rfl)
          refine hop_call (wanted_none rfl) rfl (args := #[(.slice A26 n26 c26), (.slice A_81 n_81 c_81), (.int .u64 (p : Int))]) (by simp only [List.map_toArray, List.map_cons, List.map_nil, eval_const, e78, e81, e82]) (ent7 (by kernel_rfl) _ _) (radd9_v h2 h (rx.below hB) (by omega) p81 (by rw [← p81.len]; omega)) ?_
          rintro e w2 ⟨A, n, c, rfl, p, B⟩
          exact ⟨_, rfl, hK _ _ ⟨A, n, c, rfl, p⟩ B⟩
        · intro a w1 hB ho hp K hK
          obtain ⟨A_77, n_77, c_77, e77, p77⟩ : IsP (amul p xs ys (p - 1)) (a.eval (.tmp 77)) w1 := hp 3 77 (by kernel_rfl)
          obtain ⟨A_83, n_83, c_83, e83, p83⟩ : IsP (nrm p (addl (nrm p xs) (nrm p (ngl p (nrm p ys) (nrm p ys).length)))) (a.eval (.tmp 83)) w1 := hp 9 83 (by kernel_rfl)
          refine hop_call (wanted_none rfl) rfl (args := #[(.slice A_77 n_77 c_77), (.slice A_83 n_83 c_83)]) (by simp only [List.map_toArray, List.map_cons, List.map_nil, eval_const, e77, e83]) (ent7 (by kernel_rfl) _ _) (is9_v (b := true) p77 p83 ⟨fun _ => sub_eq9 hp0 xs ys, fun _ => rfl⟩) ?_
          rintro e w2 ⟨rfl, B⟩
          exact ⟨_, rfl, hK _ _ rfl B⟩
        · intro a w1 hB ho hp K hK
          have e84 : a.eval (.tmp 84) = (.bool true) := hp 10 84 (by kernel_rfl)
          refine hop_val (wanted_none rfl) ?_ (hK (.bool true) _ rfl (Below.refl _ _))
          unfold execOp; simp only [eval_const, e84]; simp [go_sem]
        · intro a w1 hB ho hp K hK
          have e7 : a.eval (.tmp 7) = (.pointer (some ⟨w24.heap.size, 0, none⟩)) := ho 7 (by kernel_rfl)
          obtain ⟨u1, u2, u3⟩ := H_f.out.below hB
          exact hop_load (wanted_at rfl (j := 11) (d := 85) (b := true) (by kernel_rfl) (hp 11 85 (by kernel_rfl))) rfl e7 (run_ldf u1) (hK _ _ rfl (Below.refl _ _))
        · intro a w1 hB ho hp K hK
          have e1 : a.eval (.tmp 1) = (.slice A1 k1 c1) := ho 1 (by kernel_rfl)
          refine hop_val (wanted_at rfl (j := 11) (d := 85) (b := true) (by kernel_rfl) (hp 11 85 (by kernel_rfl))) ?_ (hK (.slice A1 k1 c1) _ rfl (Below.refl _ _))
          unfold execOp; simp only [eval_const, e1]; simp [go_sem]
        · intro a w1 hB ho hp K hK
          have e2 : a.eval (.tmp 2) = (.slice (some ad) k2 c2) := ho 2 (by kernel_rfl)
          refine hop_val (wanted_at rfl (j := 11) (d := 85) (b := true) (by kernel_rfl) (hp 11 85 (by kernel_rfl))) ?_ (hK (.slice (some ad) k2 c2) _ rfl (Below.refl _ _))
          unfold execOp; simp only [eval_const, e2]; simp [go_sem]
        · intro a w1 hB ho hp K hK
          have e86 : a.eval (.tmp 86) = (.agg #[.int .u64 (ab : Int)]) := hp 12 86 (by kernel_rfl)
          have e87 : a.eval (.tmp 87) = (.slice A1 k1 c1) := hp 13 87 (by kernel_rfl)
          have e88 : a.eval (.tmp 88) = (.slice (some ad) k2 c2) := hp 14 88 (by kernel_rfl)
          refine hop_call (wanted_at rfl (j := 11) (d := 85) (b := true) (by kernel_rfl) (hp 11 85 (by kernel_rfl))) rfl (args := #[(.agg #[.int .u64 (ab : Int)]), (.slice A1 k1 c1), (.slice (some ad) k2 c2)]) (by simp only [List.map_toArray, List.map_cons, List.map_nil, eval_const, e86, e87, e88]) (ent7 (by kernel_rfl) _ _) (pmul_v HP.out h (hx.below hB) (by omega) (hy.below hB) (by omega)) ?_
          rintro e w2 ⟨A, n, c, rfl, p, B⟩
          exact ⟨_, rfl, hK _ _ ⟨A, n, c, rfl, p⟩ B⟩
        · intro a w1 hB ho hp K hK
          have e9 : a.eval (.tmp 9) = (.slice A26 n26 c26) := ho 9 (by kernel_rfl)
          refine hop_val (wanted_at rfl (j := 11) (d := 85) (b := true) (by kernel_rfl) (hp 11 85 (by kernel_rfl))) ?_ (hK (.slice A26 n26 c26) _ rfl (Below.refl _ _))
          unfold execOp; simp only [eval_const, e9]; simp [go_sem]
        · intro a w1 hB ho hp K hK
          have e10 : a.eval (.tmp 10) = (.slice A27 n27 c27) := ho 10 (by kernel_rfl)
          refine hop_val (wanted_at rfl (j := 11) (d := 85) (b := true) (by kernel_rfl) (hp 11 85 (by kernel_rfl))) ?_ (hK (.slice A27 n27 c27) _ rfl (Below.refl _ _))
          unfold execOp; simp only [eval_const, e10]; simp [go_sem]
        · intro a w1 hB ho hp K hK
          have e8 : a.eval (.tmp 8) = (.int .u64 (p : Int)) := ho 8 (by kernel_rfl)
          refine hop_val (wanted_at rfl (j := 11) (d := 85) (b := true) (by kernel_rfl) (hp 11 85 (by kernel_rfl))) ?_ (hK (.int .u64 (p : Int)) _ rfl (Below.refl _ _))
          unfold execOp; simp only [eval_const, e8]; simp [go_sem]
        · intro a w1 hB ho hp K hK
          have e90 : a.eval (.tmp 90) = (.slice A26 n26 c26) := hp 16 90 (by kernel_rfl)
          have e91 : a.eval (.tmp 91) = (.slice A27 n27 c27) := hp 17 91 (by kernel_rfl)
          have e92 : a.eval (.tmp 92) = (.int .u64 (p : Int)) := hp 18 92 (by kernel_rfl)
          refine hop_call (wanted_at rfl (j := 11) (d := 85) (b := true) (by kernel_rfl) (hp 11 85 (by kernel_rfl))) rfl (args := #[(.slice A26 n26 c26), (.slice A27 n27 c27), (.int .u64 (p : Int))]) (by simp only [List.map_toArray, List.map_cons, List.map_nil, eval_const, e90, e91, e92]) (ent7 (by kernel_rfl) _ _) (rmul9_v h2 h (rx.below hB) (by omega) (ry.below hB) (by omega)) ?_
          rintro e w2 ⟨A, n, c, rfl, p, B⟩
          exact ⟨_, rfl, hK _ _ ⟨A, n, c, rfl, p⟩ B⟩
        · intro a w1 hB ho hp K hK
          obtain ⟨A_89, n_89, c_89, e89, p89⟩ : IsP (mulp p xs ys) (a.eval (.tmp 89)) w1 := hp 15 89 (by kernel_rfl)
          obtain ⟨A_93, n_93, c_93, e93, p93⟩ : IsP (mulp p (nrm p xs) (nrm p ys)) (a.eval (.tmp 93)) w1 := hp 19 93 (by kernel_rfl)
          refine hop_call (wanted_at rfl (j := 11) (d := 85) (b := true) (by kernel_rfl) (hp 11 85 (by kernel_rfl))) rfl (args := #[(.slice A_89 n_89 c_89), (.slice A_93 n_93 c_93)]) (by simp only [List.map_toArray, List.map_cons, List.map_nil, eval_const, e89, e93]) (ent7 (by kernel_rfl) _ _) (is9_v (b := true) p89 p93 ⟨fun _ => (mulp_nrm p xs ys).symm, fun _ => rfl⟩) ?_
          rintro e w2 ⟨rfl, B⟩
          exact ⟨_, rfl, hK _ _ rfl B⟩
        · intro a w1 hB ho hp K hK
          have e85 : a.eval (.tmp 85) = (.bool true) := hp 11 85 (by kernel_rfl)
          have e94 : a.eval (.tmp 94) = (.bool true) := hp 20 94 (by kernel_rfl)
          refine hop_val (wanted_none rfl) ?_ (hK (.bool true) _ rfl (Below.refl _ _))
          unfold execOp; simp only [eval_const, e85, e94]; simp [go_sem]
        · intro a w1 hB ho hp K hK
          have e95 : a.eval (.tmp 95) = (.bool true) := hp 21 95 (by kernel_rfl)
          refine hop_val (wanted_none rfl) ?_ (hK (.bool true) _ rfl (Below.refl _ _))
          unfold execOp; simp only [eval_const, e95]; simp [go_sem]
        · intro a w1 hB ho hp K hK
          have e7 : a.eval (.tmp 7) = (.pointer (some ⟨w24.heap.size, 0, none⟩)) := ho 7 (by kernel_rfl)
          obtain ⟨u1, u2, u3⟩ := H_f.out.below hB
          exact hop_load (wanted_at rfl (j := 22) (d := 96) (b := true) (by kernel_rfl) (hp 22 96 (by kernel_rfl))) rfl e7 (run_ldf u1) (hK _ _ rfl (Below.refl _ _))
        · intro a w1 hB ho hp K hK
          have e1 : a.eval (.tmp 1) = (.slice A1 k1 c1) := ho 1 (by kernel_rfl)
          refine hop_val (wanted_at rfl (j := 22) (d := 96) (b := true) (by kernel_rfl) (hp 22 96 (by kernel_rfl))) ?_ (hK (.slice A1 k1 c1) _ rfl (Below.refl _ _))
          unfold execOp; simp only [eval_const, e1]; simp [go_sem]
        · intro a w1 hB ho hp K hK
          have e11 : a.eval (.tmp 11) = (.int .u64 (C : Int)) := ho 11 (by kernel_rfl)
          refine hop_val (wanted_at rfl (j := 22) (d := 96) (b := true) (by kernel_rfl) (hp 22 96 (by kernel_rfl))) ?_ (hK (.int .u64 (C : Int)) _ rfl (Below.refl _ _))
          unfold execOp; simp only [eval_const, e11]; simp [go_sem]
        · intro a w1 hB ho hp K hK
          have e97 : a.eval (.tmp 97) = (.agg #[.int .u64 (ab : Int)]) := hp 23 97 (by kernel_rfl)
          have e98 : a.eval (.tmp 98) = (.slice A1 k1 c1) := hp 24 98 (by kernel_rfl)
          have e99 : a.eval (.tmp 99) = (.int .u64 (C : Int)) := hp 25 99 (by kernel_rfl)
          refine hop_call (wanted_at rfl (j := 22) (d := 96) (b := true) (by kernel_rfl) (hp 22 96 (by kernel_rfl))) rfl (args := #[(.agg #[.int .u64 (ab : Int)]), (.slice A1 k1 c1), (.int .u64 (C : Int))]) (by simp only [List.map_toArray, List.map_cons, List.map_nil, eval_const, e97, e98, e99]) (ent7 (by kernel_rfl) _ _) (scale_v HP.out h (hx.below hB) (by omega) lC) ?_
          rintro e w2 ⟨A, n, c, rfl, p, B⟩
          exact ⟨_, rfl, hK _ _ ⟨A, n, c, rfl, p⟩ B⟩
        · intro a w1 hB ho hp K hK
          have e9 : a.eval (.tmp 9) = (.slice A26 n26 c26) := ho 9 (by kernel_rfl)
          refine hop_val (wanted_at rfl (j := 22) (d := 96) (b := true) (by kernel_rfl) (hp 22 96 (by kernel_rfl))) ?_ (hK (.slice A26 n26 c26) _ rfl (Below.refl _ _))
          unfold execOp; simp only [eval_const, e9]; simp [go_sem]
        · intro a w1 hB ho hp K hK
          have e11 : a.eval (.tmp 11) = (.int .u64 (C : Int)) := ho 11 (by kernel_rfl)
          refine hop_val (wanted_at rfl (j := 22) (d := 96) (b := true) (by kernel_rfl) (hp 22 96 (by kernel_rfl))) ?_ (hK (.int .u64 (C : Int)) _ rfl (Below.refl _ _))
          unfold execOp; simp only [eval_const, e11]; simp [go_sem]
        · intro a w1 hB ho hp K hK
          have e8 : a.eval (.tmp 8) = (.int .u64 (p : Int)) := ho 8 (by kernel_rfl)
          refine hop_val (wanted_at rfl (j := 22) (d := 96) (b := true) (by kernel_rfl) (hp 22 96 (by kernel_rfl))) ?_ (hK (.int .u64 (p : Int)) _ rfl (Below.refl _ _))
          unfold execOp; simp only [eval_const, e8]; simp [go_sem]
        · intro a w1 hB ho hp K hK
          have e102 : a.eval (.tmp 102) = (.int .u64 (C : Int)) := hp 28 102 (by kernel_rfl)
          have e103 : a.eval (.tmp 103) = (.int .u64 (p : Int)) := hp 29 103 (by kernel_rfl)
          refine hop_val (wanted_at rfl (j := 22) (d := 96) (b := true) (by kernel_rfl) (hp 22 96 (by kernel_rfl))) ?_ (hK (.int .u64 (cp : Int)) _ rfl (Below.refl _ _))
          unfold execOp; simp only [eval_const, e102, e103]; simp [go_sem, HCI.out, HCT.out, hpne]
        · intro a w1 hB ho hp K hK
          have e104 : a.eval (.tmp 104) = (.int .u64 (cp : Int)) := hp 30 104 (by kernel_rfl)
          refine hop_mem (wanted_at rfl (j := 22) (d := 96) (b := true) (by kernel_rfl) (hp 22 96 (by kernel_rfl))) ?_ (hK _ _ ⟨_, _, _, rfl, (hsv ▸ lv_con (by omega))⟩ (zba _ _))
          unfold execOp; simp only [List.map_toArray, List.map_cons, List.map_nil, eval_const, e104]; simp [run_bsc]
        · intro a w1 hB ho hp K hK
          have e8 : a.eval (.tmp 8) = (.int .u64 (p : Int)) := ho 8 (by kernel_rfl)
          refine hop_val (wanted_at rfl (j := 22) (d := 96) (b := true) (by kernel_rfl) (hp 22 96 (by kernel_rfl))) ?_ (hK (.int .u64 (p : Int)) _ rfl (Below.refl _ _))
          unfold execOp; simp only [eval_const, e8]; simp [go_sem]
        · intro a w1 hB ho hp K hK
          have e101 : a.eval (.tmp 101) = (.slice A26 n26 c26) := hp 27 101 (by kernel_rfl)
          obtain ⟨A_105, n_105, c_105, e105, p105⟩ : IsP sv (a.eval (.tmp 105)) w1 := hp 31 105 (by kernel_rfl)
          have e106 : a.eval (.tmp 106) = (.int .u64 (p : Int)) := hp 32 106 (by kernel_rfl)
          refine hop_call (wanted_at rfl (j := 22) (d := 96) (b := true) (by kernel_rfl) (hp 22 96 (by kernel_rfl))) rfl (args := #[(.slice A26 n26 c26), (.slice A_105 n_105 c_105), (.int .u64 (p : Int))]) (by simp only [List.map_toArray, List.map_cons, List.map_nil, eval_const, e101, e105, e106]) (ent7 (by kernel_rfl) _ _) (rmul9_v h2 h (rx.below hB) (by omega) p105 (by rw [← p105.len]; omega)) ?_
          rintro e w2 ⟨A, n, c, rfl, p, B⟩
          exact ⟨_, rfl, hK _ _ ⟨A, n, c, rfl, p⟩ B⟩
        · intro a w1 hB ho hp K hK
          obtain ⟨A_100, n_100, c_100, e100, p100⟩ : IsP (amul p [] xs C) (a.eval (.tmp 100)) w1 := hp 26 100 (by kernel_rfl)
          obtain ⟨A_107, n_107, c_107, e107, p107⟩ : IsP (mulp p (nrm p xs) sv) (a.eval (.tmp 107)) w1 := hp 33 107 (by kernel_rfl)
          refine hop_call (wanted_at rfl (j := 22) (d := 96) (b := true) (by kernel_rfl) (hp 22 96 (by kernel_rfl))) rfl (args := #[(.slice A_100 n_100 c_100), (.slice A_107 n_107 c_107)]) (by simp only [List.map_toArray, List.map_cons, List.map_nil, eval_const, e100, e107]) (ent7 (by kernel_rfl) _ _) (is9_v (b := true) p100 p107 ⟨fun _ => by rw [hsv, ← HCP.out]; exact scale_eq9 hp0 xs C, fun _ => rfl⟩) ?_
          rintro e w2 ⟨rfl, B⟩
          exact ⟨_, rfl, hK _ _ rfl B⟩
        · intro a w1 hB ho hp K hK
          have e96 : a.eval (.tmp 96) = (.bool true) := hp 22 96 (by kernel_rfl)
          have e108 : a.eval (.tmp 108) = (.bool true) := hp 34 108 (by kernel_rfl)
          refine hop_val (wanted_none rfl) ?_ (hK (.bool true) _ rfl (Below.refl _ _))
          unfold execOp; simp only [eval_const, e96, e108]; simp [go_sem]
        · intro a w1 hB ho hp K hK
          have e109 : a.eval (.tmp 109) = (.bool true) := hp 35 109 (by kernel_rfl)
          refine hop_val (wanted_none rfl) ?_ (hK (.bool true) _ rfl (Below.refl _ _))
          unfold execOp; simp only [eval_const, e109]; simp [go_sem]
        · intro a w1 hB ho hp K hK
          have e7 : a.eval (.tmp 7) = (.pointer (some ⟨w24.heap.size, 0, none⟩)) := ho 7 (by kernel_rfl)
          obtain ⟨u1, u2, u3⟩ := H_f.out.below hB
          exact hop_load (wanted_at rfl (j := 36) (d := 110) (b := true) (by kernel_rfl) (hp 36 110 (by kernel_rfl))) rfl e7 (run_ldf u1) (hK _ _ rfl (Below.refl _ _))
        · intro a w1 hB ho hp K hK
          have e1 : a.eval (.tmp 1) = (.slice A1 k1 c1) := ho 1 (by kernel_rfl)
          refine hop_val (wanted_at rfl (j := 36) (d := 110) (b := true) (by kernel_rfl) (hp 36 110 (by kernel_rfl))) ?_ (hK (.slice A1 k1 c1) _ rfl (Below.refl _ _))
          unfold execOp; simp only [eval_const, e1]; simp [go_sem]
        · intro a w1 hB ho hp K hK
          have e11 : a.eval (.tmp 11) = (.int .u64 (C : Int)) := ho 11 (by kernel_rfl)
          refine hop_val (wanted_at rfl (j := 36) (d := 110) (b := true) (by kernel_rfl) (hp 36 110 (by kernel_rfl))) ?_ (hK (.int .u64 (C : Int)) _ rfl (Below.refl _ _))
          unfold execOp; simp only [eval_const, e11]; simp [go_sem]
        · intro a w1 hB ho hp K hK
          have e111 : a.eval (.tmp 111) = (.agg #[.int .u64 (ab : Int)]) := hp 37 111 (by kernel_rfl)
          have e112 : a.eval (.tmp 112) = (.slice A1 k1 c1) := hp 38 112 (by kernel_rfl)
          have e113 : a.eval (.tmp 113) = (.int .u64 (C : Int)) := hp 39 113 (by kernel_rfl)
          refine hop_call (wanted_at rfl (j := 36) (d := 110) (b := true) (by kernel_rfl) (hp 36 110 (by kernel_rfl))) rfl (args := #[(.agg #[.int .u64 (ab : Int)]), (.slice A1 k1 c1), (.int .u64 (C : Int))]) (by simp only [List.map_toArray, List.map_cons, List.map_nil, eval_const, e111, e112, e113]) (ent7 (by kernel_rfl) _ _) (eval9_v HP.out h (hx.below hB) lC HEV.out) ?_
          rintro e w2 ⟨rfl, B⟩
          exact ⟨_, rfl, hK _ _ rfl B⟩
        · intro a w1 hB ho hp K hK
          have e9 : a.eval (.tmp 9) = (.slice A26 n26 c26) := ho 9 (by kernel_rfl)
          refine hop_val (wanted_at rfl (j := 36) (d := 110) (b := true) (by kernel_rfl) (hp 36 110 (by kernel_rfl))) ?_ (hK (.slice A26 n26 c26) _ rfl (Below.refl _ _))
          unfold execOp; simp only [eval_const, e9]; simp [go_sem]
        · intro a w1 hB ho hp K hK
          have e11 : a.eval (.tmp 11) = (.int .u64 (C : Int)) := ho 11 (by kernel_rfl)
          refine hop_val (wanted_at rfl (j := 36) (d := 110) (b := true) (by kernel_rfl) (hp 36 110 (by kernel_rfl))) ?_ (hK (.int .u64 (C : Int)) _ rfl (Below.refl _ _))
          unfold execOp; simp only [eval_const, e11]; simp [go_sem]
        · intro a w1 hB ho hp K hK
          have e8 : a.eval (.tmp 8) = (.int .u64 (p : Int)) := ho 8 (by kernel_rfl)
          refine hop_val (wanted_at rfl (j := 36) (d := 110) (b := true) (by kernel_rfl) (hp 36 110 (by kernel_rfl))) ?_ (hK (.int .u64 (p : Int)) _ rfl (Below.refl _ _))
          unfold execOp; simp only [eval_const, e8]; simp [go_sem]
        · intro a w1 hB ho hp K hK
          have e115 : a.eval (.tmp 115) = (.slice A26 n26 c26) := hp 41 115 (by kernel_rfl)
          have e116 : a.eval (.tmp 116) = (.int .u64 (C : Int)) := hp 42 116 (by kernel_rfl)
          have e117 : a.eval (.tmp 117) = (.int .u64 (p : Int)) := hp 43 117 (by kernel_rfl)
          refine hop_call (wanted_at rfl (j := 36) (d := 110) (b := true) (by kernel_rfl) (hp 36 110 (by kernel_rfl))) rfl (args := #[(.slice A26 n26 c26), (.int .u64 (C : Int)), (.int .u64 (p : Int))]) (by simp only [List.map_toArray, List.map_cons, List.map_nil, eval_const, e115, e116, e117]) (ent7 (by kernel_rfl) _ _) (reval9_v h2 h (rx.below hB) lC HEV2.out) ?_
          rintro e w2 ⟨rfl, B⟩
          exact ⟨_, rfl, hK _ _ rfl B⟩
        · intro a w1 hB ho hp K hK
          have e114 : a.eval (.tmp 114) = (.int .u64 (EV : Int)) := hp 40 114 (by kernel_rfl)
          have e118 : a.eval (.tmp 118) = (.int .u64 (EV : Int)) := hp 44 118 (by kernel_rfl)
          refine hop_val (wanted_at rfl (j := 36) (d := 110) (b := true) (by kernel_rfl) (hp 36 110 (by kernel_rfl))) ?_ (hK (.bool true) _ rfl (Below.refl _ _))
          unfold execOp; simp only [eval_const, e114, e118]; simp [go_sem]
        · intro a w1 hB ho hp K hK
          have e110 : a.eval (.tmp 110) = (.bool true) := hp 36 110 (by kernel_rfl)
          have e119 : a.eval (.tmp 119) = (.bool true) := hp 45 119 (by kernel_rfl)
          refine hop_val (wanted_none rfl) ?_ (hK (.bool true) _ rfl (Below.refl _ _))
          unfold execOp; simp only [eval_const, e110, e119]; simp [go_sem]
      intro w36 B36
      refine @Ends.one _ _ _ _ _ _ _ _ _ _ fun vv hv => ?_
      obtain rfl : vv = (.agg #[.int .u64 (ab : Int)]) := hv
      refine @Ends.one _ _ _ _ _ _ _ _ _ _ fun vv hv => ?_
      obtain rfl : vv = (.slice A1 k1 c1) := hv
      refine @Ends.one _ _ _ _ _ _ _ _ _ _ fun vv hv => ?_
      obtain rfl : vv = (.slice (some ad) k2 c2) := hv
      refine @Ends.one _ _ _ _ _ _ _ _ _ _ fun vv hv => ?_
      obtain ⟨A37, n37, c37, rfl, p37⟩ : IsP (amul p xs ys (p - 1)) vv w36 := hv
      refine @Ends.one _ _ _ _ _ _ _ _ _ _ fun vv hv => ?_
      obtain rfl : vv = (.slice A26 n26 c26) := hv
      refine @Ends.one _ _ _ _ _ _ _ _ _ _ fun vv hv => ?_
      obtain rfl : vv = (.slice A27 n27 c27) := hv
      refine @Ends.one _ _ _ _ _ _ _ _ _ _ fun vv hv => ?_
      obtain rfl : vv = (.int .u64 (p : Int)) := hv
      refine @Ends.one _ _ _ _ _ _ _ _ _ _ fun vv hv => ?_
      obtain ⟨A38, n38, c38, rfl, p38⟩ : IsP (nrm p (ngl p (nrm p ys) (nrm p ys).length)) vv w36 := hv
      refine @Ends.one _ _ _ _ _ _ _ _ _ _ fun vv hv => ?_
      obtain rfl : vv = (.int .u64 (p : Int)) := hv
      refine @Ends.one _ _ _ _ _ _ _ _ _ _ fun vv hv => ?_
      obtain ⟨A39, n39, c39, rfl, p39⟩ : IsP (nrm p (addl (nrm p xs) (nrm p (ngl p (nrm p ys) (nrm p ys).length)))) vv w36 := hv
      refine @Ends.one _ _ _ _ _ _ _ _ _ _ fun vv hv => ?_
      obtain rfl : vv = (.bool true) := hv
      refine @Ends.one _ _ _ _ _ _ _ _ _ _ fun vv hv => ?_
      obtain rfl : vv = (.bool true) := hv
      refine @Ends.one _ _ _ _ _ _ _ _ _ _ fun vv hv => ?_
      obtain rfl : vv = (.agg #[.int .u64 (ab : Int)]) := hv
      refine @Ends.one _ _ _ _ _ _ _ _ _ _ fun vv hv => ?_
      obtain rfl : vv = (.slice A1 k1 c1) := hv
      refine @Ends.one _ _ _ _ _ _ _ _ _ _ fun vv hv => ?_
      obtain rfl : vv = (.slice (some ad) k2 c2) := hv
      refine @Ends.one _ _ _ _ _ _ _ _ _ _ fun vv hv => ?_
      obtain ⟨A40, n40, c40, rfl, p40⟩ : IsP (mulp p xs ys) vv w36 := hv
      refine @Ends.one _ _ _ _ _ _ _ _ _ _ fun vv hv => ?_
      obtain rfl : vv = (.slice A26 n26 c26) := hv
      refine @Ends.one _ _ _ _ _ _ _ _ _ _ fun vv hv => ?_
      obtain rfl : vv = (.slice A27 n27 c27) := hv
      refine @Ends.one _ _ _ _ _ _ _ _ _ _ fun vv hv => ?_
      obtain rfl : vv = (.int .u64 (p : Int)) := hv
      refine @Ends.one _ _ _ _ _ _ _ _ _ _ fun vv hv => ?_
      obtain ⟨A41, n41, c41, rfl, p41⟩ : IsP (mulp p (nrm p xs) (nrm p ys)) vv w36 := hv
      refine @Ends.one _ _ _ _ _ _ _ _ _ _ fun vv hv => ?_
      obtain rfl : vv = (.bool true) := hv
      refine @Ends.one _ _ _ _ _ _ _ _ _ _ fun vv hv => ?_
      obtain rfl : vv = (.bool true) := hv
      refine @Ends.one _ _ _ _ _ _ _ _ _ _ fun vv hv => ?_
      obtain rfl : vv = (.bool true) := hv
      refine @Ends.one _ _ _ _ _ _ _ _ _ _ fun vv hv => ?_
      obtain rfl : vv = (.agg #[.int .u64 (ab : Int)]) := hv
      refine @Ends.one _ _ _ _ _ _ _ _ _ _ fun vv hv => ?_
      obtain rfl : vv = (.slice A1 k1 c1) := hv
      refine @Ends.one _ _ _ _ _ _ _ _ _ _ fun vv hv => ?_
      obtain rfl : vv = (.int .u64 (C : Int)) := hv
      refine @Ends.one _ _ _ _ _ _ _ _ _ _ fun vv hv => ?_
      obtain ⟨A42, n42, c42, rfl, p42⟩ : IsP (amul p [] xs C) vv w36 := hv
      refine @Ends.one _ _ _ _ _ _ _ _ _ _ fun vv hv => ?_
      obtain rfl : vv = (.slice A26 n26 c26) := hv
      refine @Ends.one _ _ _ _ _ _ _ _ _ _ fun vv hv => ?_
      obtain rfl : vv = (.int .u64 (C : Int)) := hv
      refine @Ends.one _ _ _ _ _ _ _ _ _ _ fun vv hv => ?_
      obtain rfl : vv = (.int .u64 (p : Int)) := hv
      refine @Ends.one _ _ _ _ _ _ _ _ _ _ fun vv hv => ?_
      obtain rfl : vv = (.int .u64 (cp : Int)) := hv
      refine @Ends.one _ _ _ _ _ _ _ _ _ _ fun vv hv => ?_
      obtain ⟨A43, n43, c43, rfl, p43⟩ : IsP sv vv w36 := hv
      refine @Ends.one _ _ _ _ _ _ _ _ _ _ fun vv hv => ?_
      obtain rfl : vv = (.int .u64 (p : Int)) := hv
      refine @Ends.one _ _ _ _ _ _ _ _ _ _ fun vv hv => ?_
      obtain ⟨A44, n44, c44, rfl, p44⟩ : IsP (mulp p (nrm p xs) sv) vv w36 := hv
      refine @Ends.one _ _ _ _ _ _ _ _ _ _ fun vv hv => ?_
      obtain rfl : vv = (.bool true) := hv
      refine @Ends.one _ _ _ _ _ _ _ _ _ _ fun vv hv => ?_
      obtain rfl : vv = (.bool true) := hv
      refine @Ends.one _ _ _ _ _ _ _ _ _ _ fun vv hv => ?_
      obtain rfl : vv = (.bool true) := hv
      refine @Ends.one _ _ _ _ _ _ _ _ _ _ fun vv hv => ?_
      obtain rfl : vv = (.agg #[.int .u64 (ab : Int)]) := hv
      refine @Ends.one _ _ _ _ _ _ _ _ _ _ fun vv hv => ?_
      obtain rfl : vv = (.slice A1 k1 c1) := hv
      refine @Ends.one _ _ _ _ _ _ _ _ _ _ fun vv hv => ?_
      obtain rfl : vv = (.int .u64 (C : Int)) := hv
      refine @Ends.one _ _ _ _ _ _ _ _ _ _ fun vv hv => ?_
      obtain rfl : vv = (.int .u64 (EV : Int)) := hv
      refine @Ends.one _ _ _ _ _ _ _ _ _ _ fun vv hv => ?_
      obtain rfl : vv = (.slice A26 n26 c26) := hv
      refine @Ends.one _ _ _ _ _ _ _ _ _ _ fun vv hv => ?_
      obtain rfl : vv = (.int .u64 (C : Int)) := hv
      refine @Ends.one _ _ _ _ _ _ _ _ _ _ fun vv hv => ?_
      obtain rfl : vv = (.int .u64 (p : Int)) := hv
      refine @Ends.one _ _ _ _ _ _ _ _ _ _ fun vv hv => ?_
      obtain rfl : vv = (.int .u64 (EV : Int)) := hv
      refine @Ends.one _ _ _ _ _ _ _ _ _ _ fun vv hv => ?_
      obtain rfl : vv = (.bool true) := hv
      refine @Ends.one _ _ _ _ _ _ _ _ _ _ fun vv hv => ?_
      obtain rfl : vv = (.bool true) := hv
      refine @Ends.nil _ _ _ _ _ _ _ _ [_] rfl ?_
      simp only [Act.put, List.setIfInBounds_toArray, List.set_cons_zero, List.set_cons_succ]
      replace H_f := Lib.hid (H_f.out.below B36)
      replace hx := hx.below B36
      replace hy := hy.below B36
      replace hT := hT.below B36
      replace rx := rx.below B36
      replace ry := ry.below B36
      replace hW := hW.trans (B36.mono hW.size)
      clear p37 p38 p39 p40 p41 p42 p43 p44
      clear B36
      go_wp2_with fail
      exact bodyPost_ret (v := .bool true) (by simp [results, Tryd.results3, go_sem]) rfl ⟨rfl, hW⟩
  · skip
    go_wp2_with fail
    refine (few9_no (k := 20) hf).mono ?_
    rintro e w22 ⟨rfl, B22⟩
    replace hx := hx.below B22
    replace hy := hy.below B22
    replace hT := hT.below B22
    replace hW := hW.trans (B22.mono hW.size)
    clear B22
    go_wp2_with fail
    refine (awake9_v hT).mono ?_
    rintro e w23 ⟨rfl, B23⟩
    replace hx := hx.below B23
    replace hy := hy.below B23
    replace hT := hT.below B23
    replace hW := hW.trans (B23.mono hW.size)
    clear B23
    go_wp2_with fail
    exact bodyPost_ret (v := (.bool true)) (by simp [results, Tryd.results3, go_sem]) rfl ⟨rfl, hW⟩
end Go.Proofs.YthigedcpiglmnaaDoor
