/-
  The walk of PolyDerives.
-/
import Derived.Test.YthigedcpiglmnaaDoorFpT
import Derived.Test.YthigedcpiglmnaaDoorRegN
/-! The walk of PolyDerives. -/
namespace Go.Proofs.YthigedcpiglmnaaDoor
open Go.RowKit
set_option linter.unusedVariables false
set_option linter.unusedSimpArgs false

theorem der_mul {p : Nat} (a b : List Nat) : nrm p (drl (mulp p a b)) = amul p (mulp p (nrm p (drl a)) b) (mulp p a (nrm p (drl b))) 1 := by
  rw [drl_mul]
  refine nrm_eq ?_
  have e1 := (eqm_mulp p (nrm p (drl a)) b).trans ((eqm_nrm p (drl a)).left (ply_pe b))
  have e2 := (eqm_mulp p a (nrm p (drl b))).trans ((eqm_nrm p (drl b)).right (ply_pe a))
  refine Eqm.trans ?_ ((e1.add e2).symm.to fun x => by rw [pe_addl, pe_scl]; simp)
  exact .of fun x => by rw [pe_addl, pe_cvl, pe_cvl]
theorem der_add {p : Nat} (a b : List Nat) : nrm p (drl (amul p a b 1)) = amul p (nrm p (drl a)) (nrm p (drl b)) 1 := by
  rw [drl_add]
  refine nrm_eq ?_
  refine Eqm.trans (.of fun x => by rw [pe_addl, pe_scl]) (((eqm_nrm p (drl a)).add ((eqm_nrm p (drl b)).right (ply_c ((1 : Nat) : Int)))).symm.to fun x => by rw [pe_addl, pe_scl])
theorem der_len {p : Nat} (a : List Nat) : (nrm p (drl a)).length ≤ a.length := by
  have := nrm_le p (drl a); rw [drl_length] at this; omega
theorem drl7 (p : Nat) : nrm p (drl [7]) = [] := nrm_nil_iff.2 fun i => by rw [nth_drl, nth_ge (xs := [7]) (by simp), Nat.mul_zero, Nat.zero_mod]
theorem lv_seven {w : World} : Lv (w.alloc (.cells #[.int .u64 7] 26)) (some ⟨w.heap.size, 0, none⟩) 1 1 [7] :=
  Lv.wr (xs := [7]) ⟨_, heap_alloc_new w _, fun j hj => by
    have : j = 0 := by simp at hj; omega
    subst this; rfl⟩ (by decide) (by decide) (fun k hk => by
    have : k = 0 := by simp at hk; omega
    subst this; decide)
set_option maxRecDepth 100000 in
set_option maxHeartbeats 1000000 in
/-- PolyDerives. -/
theorem derives9_calls {n k1 c1 k2 c2 : Nat} {A1 A2 : Option Addr} {xs ys : List Nat} {w : World} (hn : n < 256) (hx : Lv w A1 k1 c1 xs) (hy : Lv w A2 k2 c2 ys) (hT : TabHas w) :
    Calls Tryd.prog 9 #[.int .u8 (n : Int), .slice A1 k1 c1, .slice A2 k2 c2] w (BlPost true w) := by
  obtain ⟨p, hp0⟩ : ∃ p, pn (n % 12) = p := ⟨_, rfl⟩
  have hp := pn_pr (n % 12) (by omega)
  rw [hp0] at hp
  obtain ⟨ab, hab⟩ : ∃ ab, ab + 2 = p := ⟨p - 2, by have := hp.2.2; omega⟩
  have hpr := hp.1
  have h := hp.2.1
  have h2 : 2 ≤ p := hp.2.2
  have HP := Lib.hid hab
  have HP0 := Lib.hid hp0
  clear hab hp hp0
  have hW := Below.refl w.heap.size w
  go_enter Tryd.func9, Tryd.ntmps9
  go_wp2_with fail
  refine (awake9_v hT).mono ?_
  rintro e w21 ⟨rfl, B21⟩
  replace hx := hx.below B21
  replace hy := hy.below B21
  replace hT := hT.below B21
  replace hW := hW.trans (B21.mono hW.size)
  clear B21
  by_cases hf : k1 ≤ 12 ∧ k2 ≤ 12
  · skip
    go_wp2_with fail
    refine (few9_yes (k := 12) hf.1 hf.2).mono ?_
    rintro e w22 ⟨rfl, B22⟩
    replace hx := hx.below B22
    replace hy := hy.below B22
    replace hT := hT.below B22
    replace hW := hW.trans (B22.mono hW.size)
    clear B22
    obtain ⟨hb1, hb2⟩ := hf
    have lx := hx.len
    have ly := hy.len
    go_wp2_with fail
    refine (fof9_v (ab := ab) hn hT HP0.out HP.out).mono ?_
    rintro e w23 ⟨rfl, B23⟩
    replace hx := hx.below B23
    replace hy := hy.below B23
    replace hT := hT.below B23
    replace hW := hW.trans (B23.mono hW.size)
    clear B23
    obtain ⟨w24, hw24⟩ : ∃ xw, xw = w23.alloc (.cells #[.int .u64 (ab : Int)] 28) := ⟨_, rfl⟩
    have z24 : Below w23.heap.size w23 w24 := by rw [hw24]; exact zba _ _
    have HW24 : Hid (w23.alloc (.cells #[.int .u64 (ab : Int)] 28) = w24) := Lib.hid hw24.symm
    have lw_f : w.heap.size ≤ w23.heap.size := by have := hW.size; omega
    replace hx := hx.below z24
    replace hy := hy.below z24
    replace hT := hT.below z24
    replace hW := hW.trans (z24.mono hW.size)
    have H_f : Hid (Fb w24 w23.heap.size ab) := Lib.hid (by rw [hw24]; exact Fb.new _ _ _)
    clear z24 hw24
    have m1 : (mulp p xs ys).length ≤ 100 := by have := mulp_le p xs ys; omega
    have m2 : (mulp p (nrm p (drl xs)) ys).length ≤ 100 := by have := mulp_le p (nrm p (drl xs)) ys; have := der_len (p := p) xs; omega
    have m3 : (mulp p xs (nrm p (drl ys))).length ≤ 100 := by have := mulp_le p xs (nrm p (drl ys)); have := der_len (p := p) ys; omega
    have m4 := der_len (p := p) xs
    have m5 := der_len (p := p) ys
    have m6 : (amul p xs ys 1).length ≤ 100 := by have := amul_len p xs ys 1; omega
    obtain ⟨sv, hsv⟩ : ∃ l : List Nat, l = [7] := ⟨_, rfl⟩
    go_wp2_with fail
    rw [HW24.out]
    refine region8 [] 6 [IsK (.agg #[.int .u64 (ab : Int)]), IsK (.agg #[.int .u64 (ab : Int)]), IsK (.slice A1 k1 c1), IsK (.slice A2 k2 c2), IsP (mulp p xs ys), IsP (nrm p (drl (mulp p xs ys)))] (fun _ _ d _ _ h => by cases d <;> exact h) (by kernel_rfl) (by kernel_rfl) (by kernel_rfl) ⟨stay_k _, stay_k _, stay_k _, stay_k _, stay_p _, stay_p _, trivial⟩ ?_ ?_
    · refine HopAll.cons rfl ?_ (HopAll.cons rfl ?_ (HopAll.cons rfl ?_ (HopAll.cons rfl ?_ (HopAll.cons rfl ?_ (HopAll.cons rfl ?_ HopAll.nil)))))
      · intro a w1 hB ho hp K hK
        have e7 : a.eval (.tmp 7) = (.pointer (some ⟨w23.heap.size, 0, none⟩)) := ho 7 (by kernel_rfl)
        obtain ⟨u1, u2, u3⟩ := H_f.out.below hB
        exact hop_load (wanted_none rfl) rfl e7 (run_ldf u1) (hK _ _ rfl (Below.refl _ _))
      · intro a w1 hB ho hp K hK
        have e7 : a.eval (.tmp 7) = (.pointer (some ⟨w23.heap.size, 0, none⟩)) := ho 7 (by kernel_rfl)
        obtain ⟨u1, u2, u3⟩ := H_f.out.below hB
        exact hop_load (wanted_none rfl) rfl e7 (run_ldf u1) (hK _ _ rfl (Below.refl _ _))
      · intro a w1 hB ho hp K hK
        have e1 : a.eval (.tmp 1) = (.slice A1 k1 c1) := ho 1 (by kernel_rfl)
        refine hop_val (wanted_none rfl) ?_ (hK (.slice A1 k1 c1) _ rfl (Below.refl _ _))
        unfold execOp; simp only [eval_const, e1]; simp [go_sem]
      · intro a w1 hB ho hp K hK
        have e2 : a.eval (.tmp 2) = (.slice A2 k2 c2) := ho 2 (by kernel_rfl)
        refine hop_val (wanted_none rfl) ?_ (hK (.slice A2 k2 c2) _ rfl (Below.refl _ _))
        unfold execOp; simp only [eval_const, e2]; simp [go_sem]
      · intro a w1 hB ho hp K hK
        have e23 : a.eval (.tmp 23) = (.agg #[.int .u64 (ab : Int)]) := hp 1 23 (by kernel_rfl)
        have e24 : a.eval (.tmp 24) = (.slice A1 k1 c1) := hp 2 24 (by kernel_rfl)
        have e25 : a.eval (.tmp 25) = (.slice A2 k2 c2) := hp 3 25 (by kernel_rfl)
        refine hop_call (wanted_none rfl) rfl (args := #[(.agg #[.int .u64 (ab : Int)]), (.slice A1 k1 c1), (.slice A2 k2 c2)]) (by simp only [List.map_toArray, List.map_cons, List.map_nil, eval_const, e23, e24, e25]) (ent7 (by kernel_rfl) _ _) (pmul_v HP.out h (hx.below hB) (by omega) (hy.below hB) (by omega)) ?_
        rintro e w2 ⟨A, n, c, rfl, p, B⟩
        exact ⟨_, rfl, hK _ _ ⟨A, n, c, rfl, p⟩ B⟩
      · intro a w1 hB ho hp K hK
        have e22 : a.eval (.tmp 22) = (.agg #[.int .u64 (ab : Int)]) := hp 0 22 (by kernel_rfl)
        obtain ⟨A_26, n_26, c_26, e26, p26⟩ : IsP (mulp p xs ys) (a.eval (.tmp 26)) w1 := hp 4 26 (by kernel_rfl)
        refine hop_call (wanted_none rfl) rfl (args := #[(.agg #[.int .u64 (ab : Int)]), (.slice A_26 n_26 c_26)]) (by simp only [List.map_toArray, List.map_cons, List.map_nil, eval_const, e22, e26]) (ent7 (by kernel_rfl) _ _) (derive_v HP.out h p26 (by rw [← p26.len]; omega)) ?_
        rintro e w2 ⟨A, n, c, rfl, p, B⟩
        exact ⟨_, rfl, hK _ _ ⟨A, n, c, rfl, p⟩ B⟩
    intro w25 B25
    refine @EndAll.one _ _ _ _ _ _ _ _ _ _ _ _ _ rfl fun vv hv => ?_
    obtain rfl : vv = (.agg #[.int .u64 (ab : Int)]) := hv
    refine @EndAll.one _ _ _ _ _ _ _ _ _ _ _ _ _ rfl fun vv hv => ?_
    obtain rfl : vv = (.agg #[.int .u64 (ab : Int)]) := hv
    refine @EndAll.one _ _ _ _ _ _ _ _ _ _ _ _ _ rfl fun vv hv => ?_
    obtain rfl : vv = (.slice A1 k1 c1) := hv
    refine @EndAll.one _ _ _ _ _ _ _ _ _ _ _ _ _ rfl fun vv hv => ?_
    obtain rfl : vv = (.slice A2 k2 c2) := hv
    refine @EndAll.one _ _ _ _ _ _ _ _ _ _ _ _ _ rfl fun vv hv => ?_
    obtain ⟨A26, n26, c26, rfl, p26⟩ : IsP (mulp p xs ys) vv w25 := hv
    refine @EndAll.one _ _ _ _ _ _ _ _ _ _ _ _ _ rfl fun vv hv => ?_
    obtain ⟨A27, n27, c27, rfl, p27⟩ : IsP (nrm p (drl (mulp p xs ys))) vv w25 := hv
    refine EndAll.nil (l := [_]) rfl ?_
    simp only [Act.put, List.setIfInBounds_toArray, List.set_cons_zero, List.set_cons_succ]
    replace H_f := Lib.hid (H_f.out.below B25)
    replace hx := hx.below B25
    replace hy := hy.below B25
    replace hT := hT.below B25
    replace hW := hW.trans (B25.mono hW.size)
    have rx := p27
    clear p26 p27
    clear B25
    obtain ⟨f1, f2, f3⟩ := H_f.out
    go_wp2_with fail
    clear f1 f2 f3
    refine region8 [] 14 [IsK (.agg #[.int .u64 (ab : Int)]), IsK (.agg #[.int .u64 (ab : Int)]), IsK (.agg #[.int .u64 (ab : Int)]), IsK (.slice A1 k1 c1), IsP (nrm p (drl xs)), IsK (.slice A2 k2 c2), IsP (mulp p (nrm p (drl xs)) ys), IsK (.agg #[.int .u64 (ab : Int)]), IsK (.slice A1 k1 c1), IsK (.agg #[.int .u64 (ab : Int)]), IsK (.slice A2 k2 c2), IsP (nrm p (drl ys)), IsP (mulp p xs (nrm p (drl ys))), IsP (amul p (mulp p (nrm p (drl xs)) ys) (mulp p xs (nrm p (drl ys))) 1)] (fun _ _ d _ _ h => by cases d <;> exact h) (by kernel_rfl) (by kernel_rfl) (by kernel_rfl) ⟨stay_k _, stay_k _, stay_k _, stay_k _, stay_p _, stay_k _, stay_p _, stay_k _, stay_k _, stay_k _, stay_k _, stay_p _, stay_p _, stay_p _, trivial⟩ ?_ ?_
    · refine HopAll.cons rfl ?_ (HopAll.cons rfl ?_ (HopAll.cons rfl ?_ (HopAll.cons rfl ?_ (HopAll.cons rfl ?_ (HopAll.cons rfl ?_ (HopAll.cons rfl ?_ (HopAll.cons rfl ?_ (HopAll.cons rfl ?_ (HopAll.cons rfl ?_ (HopAll.cons rfl ?_ (HopAll.cons rfl ?_ (HopAll.cons rfl ?_ (HopAll.cons rfl ?_ HopAll.nil)))))))))))))
      · intro a w1 hB ho hp K hK
        have e7 : a.eval (.tmp 7) = (.pointer (some ⟨w23.heap.size, 0, none⟩)) := ho 7 (by kernel_rfl)
        obtain ⟨u1, u2, u3⟩ := H_f.out.below hB
        exact hop_load (wanted_none rfl) rfl e7 (run_ldf u1) (hK _ _ rfl (Below.refl _ _))
      · intro a w1 hB ho hp K hK
        have e7 : a.eval (.tmp 7) = (.pointer (some ⟨w23.heap.size, 0, none⟩)) := ho 7 (by kernel_rfl)
        obtain ⟨u1, u2, u3⟩ := H_f.out.below hB
        exact hop_load (wanted_none rfl) rfl e7 (run_ldf u1) (hK _ _ rfl (Below.refl _ _))
      · intro a w1 hB ho hp K hK
        have e7 : a.eval (.tmp 7) = (.pointer (some ⟨w23.heap.size, 0, none⟩)) := ho 7 (by kernel_rfl)
        obtain ⟨u1, u2, u3⟩ := H_f.out.below hB
        exact hop_load (wanted_none rfl) rfl e7 (run_ldf u1) (hK _ _ rfl (Below.refl _ _))
      · intro a w1 hB ho hp K hK
        have e1 : a.eval (.tmp 1) = (.slice A1 k1 c1) := ho 1 (by kernel_rfl)
        refine hop_val (wanted_none rfl) ?_ (hK (.slice A1 k1 c1) _ rfl (Below.refl _ _))
        unfold execOp; simp only [eval_const, e1]; simp [go_sem]
      · intro a w1 hB ho hp K hK
        have e30 : a.eval (.tmp 30) = (.agg #[.int .u64 (ab : Int)]) := hp 2 30 (by kernel_rfl)
        have e31 : a.eval (.tmp 31) = (.slice A1 k1 c1) := hp 3 31 (by kernel_rfl)
        refine hop_call (wanted_none rfl) rfl (args := #[(.agg #[.int .u64 (ab : Int)]), (.slice A1 k1 c1)]) (by simp only [List.map_toArray, List.map_cons, List.map_nil, eval_const, e30, e31]) (ent7 (by kernel_rfl) _ _) (derive_v HP.out h (hx.below hB) (by omega)) ?_
        rintro e w2 ⟨A, n, c, rfl, p, B⟩
        exact ⟨_, rfl, hK _ _ ⟨A, n, c, rfl, p⟩ B⟩
      · intro a w1 hB ho hp K hK
        have e2 : a.eval (.tmp 2) = (.slice A2 k2 c2) := ho 2 (by kernel_rfl)
        refine hop_val (wanted_none rfl) ?_ (hK (.slice A2 k2 c2) _ rfl (Below.refl _ _))
        unfold execOp; simp only [eval_const, e2]; simp [go_sem]
      · intro a w1 hB ho hp K hK
        have e29 : a.eval (.tmp 29) = (.agg #[.int .u64 (ab : Int)]) := hp 1 29 (by kernel_rfl)
        obtain ⟨A_32, n_32, c_32, e32, p32⟩ : IsP (nrm p (drl xs)) (a.eval (.tmp 32)) w1 := hp 4 32 (by kernel_rfl)
        have e33 : a.eval (.tmp 33) = (.slice A2 k2 c2) := hp 5 33 (by kernel_rfl)
        refine hop_call (wanted_none rfl) rfl (args := #[(.agg #[.int .u64 (ab : Int)]), (.slice A_32 n_32 c_32), (.slice A2 k2 c2)]) (by simp only [List.map_toArray, List.map_cons, List.map_nil, eval_const, e29, e32, e33]) (ent7 (by kernel_rfl) _ _) (pmul_v HP.out h p32 (by rw [← p32.len]; omega) (hy.below hB) (by omega)) ?_
        rintro e w2 ⟨A, n, c, rfl, p, B⟩
        exact ⟨_, rfl, hK _ _ ⟨A, n, c, rfl, p⟩ B⟩
      · intro a w1 hB ho hp K hK
        have e7 : a.eval (.tmp 7) = (.pointer (some ⟨w23.heap.size, 0, none⟩)) := ho 7 (by kernel_rfl)
        obtain ⟨u1, u2, u3⟩ := H_f.out.below hB
        exact hop_load (wanted_none rfl) rfl e7 (run_ldf u1) (hK _ _ rfl (Below.refl _ _))
      · intro a w1 hB ho hp K hK
        have e1 : a.eval (.tmp 1) = (.slice A1 k1 c1) := ho 1 (by kernel_rfl)
        refine hop_val (wanted_none rfl) ?_ (hK (.slice A1 k1 c1) _ rfl (Below.refl _ _))
        unfold execOp; simp only [eval_const, e1]; simp [go_sem]
      · intro a w1 hB ho hp K hK
        have e7 : a.eval (.tmp 7) = (.pointer (some ⟨w23.heap.size, 0, none⟩)) := ho 7 (by kernel_rfl)
        obtain ⟨u1, u2, u3⟩ := H_f.out.below hB
        exact hop_load (wanted_none rfl) rfl e7 (run_ldf u1) (hK _ _ rfl (Below.refl _ _))
      · intro a w1 hB ho hp K hK
        have e2 : a.eval (.tmp 2) = (.slice A2 k2 c2) := ho 2 (by kernel_rfl)
        refine hop_val (wanted_none rfl) ?_ (hK (.slice A2 k2 c2) _ rfl (Below.refl _ _))
        unfold execOp; simp only [eval_const, e2]; simp [go_sem]
      · intro a w1 hB ho hp K hK
        have e37 : a.eval (.tmp 37) = (.agg #[.int .u64 (ab : Int)]) := hp 9 37 (by kernel_rfl)
        have e38 : a.eval (.tmp 38) = (.slice A2 k2 c2) := hp 10 38 (by kernel_rfl)
        refine hop_call (wanted_none rfl) rfl (args := #[(.agg #[.int .u64 (ab : Int)]), (.slice A2 k2 c2)]) (by simp only [List.map_toArray, List.map_cons, List.map_nil, eval_const, e37, e38]) (ent7 (by kernel_rfl) _ _) (derive_v HP.out h (hy.below hB) (by omega)) ?_
        rintro e w2 ⟨A, n, c, rfl, p, B⟩
        exact ⟨_, rfl, hK _ _ ⟨A, n, c, rfl, p⟩ B⟩
      · intro a w1 hB ho hp K hK
        have e35 : a.eval (.tmp 35) = (.agg #[.int .u64 (ab : Int)]) := hp 7 35 (by kernel_rfl)
        have e36 : a.eval (.tmp 36) = (.slice A1 k1 c1) := hp 8 36 (by kernel_rfl)
        obtain ⟨A_39, n_39, c_39, e39, p39⟩ : IsP (nrm p (drl ys)) (a.eval (.tmp 39)) w1 := hp 11 39 (by kernel_rfl)
        refine hop_call (wanted_none rfl) rfl (args := #[(.agg #[.int .u64 (ab : Int)]), (.slice A1 k1 c1), (.slice A_39 n_39 c_39)]) (by simp only [List.map_toArray, List.map_cons, List.map_nil, eval_const, e35, e36, e39]) (ent7 (by kernel_rfl) _ _) (pmul_v HP.out h (hx.below hB) (by omega) p39 (by rw [← p39.len]; omega)) ?_
        rintro e w2 ⟨A, n, c, rfl, p, B⟩
        exact ⟨_, rfl, hK _ _ ⟨A, n, c, rfl, p⟩ B⟩
      · intro a w1 hB ho hp K hK
        have e28 : a.eval (.tmp 28) = (.agg #[.int .u64 (ab : Int)]) := hp 0 28 (by kernel_rfl)
        obtain ⟨A_34, n_34, c_34, e34, p34⟩ : IsP (mulp p (nrm p (drl xs)) ys) (a.eval (.tmp 34)) w1 := hp 6 34 (by kernel_rfl)
        obtain ⟨A_40, n_40, c_40, e40, p40⟩ : IsP (mulp p xs (nrm p (drl ys))) (a.eval (.tmp 40)) w1 := hp 12 40 (by kernel_rfl)
        refine hop_call (wanted_none rfl) rfl (args := #[(.agg #[.int .u64 (ab : Int)]), (.slice A_34 n_34 c_34), (.slice A_40 n_40 c_40)]) (by simp only [List.map_toArray, List.map_cons, List.map_nil, eval_const, e28, e34, e40]) (ent7 (by kernel_rfl) _ _) (padd_v HP.out h p34 (by rw [← p34.len]; omega) p40 (by rw [← p40.len]; omega)) ?_
        rintro e w2 ⟨A, n, c, rfl, p, B⟩
        exact ⟨_, rfl, hK _ _ ⟨A, n, c, rfl, p⟩ B⟩
    intro w28 B28
    refine @EndAll.one _ _ _ _ _ _ _ _ _ _ _ _ _ rfl fun vv hv => ?_
    obtain rfl : vv = (.agg #[.int .u64 (ab : Int)]) := hv
    refine @EndAll.one _ _ _ _ _ _ _ _ _ _ _ _ _ rfl fun vv hv => ?_
    obtain rfl : vv = (.agg #[.int .u64 (ab : Int)]) := hv
    refine @EndAll.one _ _ _ _ _ _ _ _ _ _ _ _ _ rfl fun vv hv => ?_
    obtain rfl : vv = (.agg #[.int .u64 (ab : Int)]) := hv
    refine @EndAll.one _ _ _ _ _ _ _ _ _ _ _ _ _ rfl fun vv hv => ?_
    obtain rfl : vv = (.slice A1 k1 c1) := hv
    refine @EndAll.one _ _ _ _ _ _ _ _ _ _ _ _ _ rfl fun vv hv => ?_
    obtain ⟨A29, n29, c29, rfl, p29⟩ : IsP (nrm p (drl xs)) vv w28 := hv
    refine @EndAll.one _ _ _ _ _ _ _ _ _ _ _ _ _ rfl fun vv hv => ?_
    obtain rfl : vv = (.slice A2 k2 c2) := hv
    refine @EndAll.one _ _ _ _ _ _ _ _ _ _ _ _ _ rfl fun vv hv => ?_
    obtain ⟨A30, n30, c30, rfl, p30⟩ : IsP (mulp p (nrm p (drl xs)) ys) vv w28 := hv
    refine @EndAll.one _ _ _ _ _ _ _ _ _ _ _ _ _ rfl fun vv hv => ?_
    obtain rfl : vv = (.agg #[.int .u64 (ab : Int)]) := hv
    refine @EndAll.one _ _ _ _ _ _ _ _ _ _ _ _ _ rfl fun vv hv => ?_
    obtain rfl : vv = (.slice A1 k1 c1) := hv
    refine @EndAll.one _ _ _ _ _ _ _ _ _ _ _ _ _ rfl fun vv hv => ?_
    obtain rfl : vv = (.agg #[.int .u64 (ab : Int)]) := hv
    refine @EndAll.one _ _ _ _ _ _ _ _ _ _ _ _ _ rfl fun vv hv => ?_
    obtain rfl : vv = (.slice A2 k2 c2) := hv
    refine @EndAll.one _ _ _ _ _ _ _ _ _ _ _ _ _ rfl fun vv hv => ?_
    obtain ⟨A31, n31, c31, rfl, p31⟩ : IsP (nrm p (drl ys)) vv w28 := hv
    refine @EndAll.one _ _ _ _ _ _ _ _ _ _ _ _ _ rfl fun vv hv => ?_
    obtain ⟨A32, n32, c32, rfl, p32⟩ : IsP (mulp p xs (nrm p (drl ys))) vv w28 := hv
    refine @EndAll.one _ _ _ _ _ _ _ _ _ _ _ _ _ rfl fun vv hv => ?_
    obtain ⟨A33, n33, c33, rfl, p33⟩ : IsP (amul p (mulp p (nrm p (drl xs)) ys) (mulp p xs (nrm p (drl ys))) 1) vv w28 := hv
    refine EndAll.nil (l := [_]) rfl ?_
    simp only [Act.put, List.setIfInBounds_toArray, List.set_cons_zero, List.set_cons_succ]
    replace H_f := Lib.hid (H_f.out.below B28)
    replace hx := hx.below B28
    replace hy := hy.below B28
    replace hT := hT.below B28
    replace rx := rx.below B28
    replace hW := hW.trans (B28.mono hW.size)
    have ry := p33
    clear p29 p30 p31 p32 p33
    clear B28
    obtain ⟨f1, f2, f3⟩ := H_f.out
    go_wp2_with fail
    clear f1 f2 f3
    refine region8 [] 8 [IsK (.agg #[.int .u64 (ab : Int)]), IsK (.agg #[.int .u64 (ab : Int)]), IsK (.slice A1 k1 c1), IsP (nrm p (drl xs)), IsK (.agg #[.int .u64 (ab : Int)]), IsK (.slice A2 k2 c2), IsP (nrm p (drl ys)), IsP (amul p (nrm p (drl xs)) (nrm p (drl ys)) 1)] (fun _ _ d _ _ h => by cases d <;> exact h) (by kernel_rfl) (by kernel_rfl) (by kernel_rfl) ⟨stay_k _, stay_k _, stay_k _, stay_p _, stay_k _, stay_k _, stay_p _, stay_p _, trivial⟩ ?_ ?_
    · refine HopAll.cons rfl ?_ (HopAll.cons rfl ?_ (HopAll.cons rfl ?_ (HopAll.cons rfl ?_ (HopAll.cons rfl ?_ (HopAll.cons rfl ?_ (HopAll.cons rfl ?_ (HopAll.cons rfl ?_ HopAll.nil)))))))
      · intro a w1 hB ho hp K hK
        have e7 : a.eval (.tmp 7) = (.pointer (some ⟨w23.heap.size, 0, none⟩)) := ho 7 (by kernel_rfl)
        obtain ⟨u1, u2, u3⟩ := H_f.out.below hB
        exact hop_load (wanted_none rfl) rfl e7 (run_ldf u1) (hK _ _ rfl (Below.refl _ _))
      · intro a w1 hB ho hp K hK
        have e7 : a.eval (.tmp 7) = (.pointer (some ⟨w23.heap.size, 0, none⟩)) := ho 7 (by kernel_rfl)
        obtain ⟨u1, u2, u3⟩ := H_f.out.below hB
        exact hop_load (wanted_none rfl) rfl e7 (run_ldf u1) (hK _ _ rfl (Below.refl _ _))
      · intro a w1 hB ho hp K hK
        have e1 : a.eval (.tmp 1) = (.slice A1 k1 c1) := ho 1 (by kernel_rfl)
        refine hop_val (wanted_none rfl) ?_ (hK (.slice A1 k1 c1) _ rfl (Below.refl _ _))
        unfold execOp; simp only [eval_const, e1]; simp [go_sem]
      · intro a w1 hB ho hp K hK
        have e43 : a.eval (.tmp 43) = (.agg #[.int .u64 (ab : Int)]) := hp 1 43 (by kernel_rfl)
        have e44 : a.eval (.tmp 44) = (.slice A1 k1 c1) := hp 2 44 (by kernel_rfl)
        refine hop_call (wanted_none rfl) rfl (args := #[(.agg #[.int .u64 (ab : Int)]), (.slice A1 k1 c1)]) (by simp only [List.map_toArray, List.map_cons, List.map_nil, eval_const, e43, e44]) (ent7 (by kernel_rfl) _ _) (derive_v HP.out h (hx.below hB) (by omega)) ?_
        rintro e w2 ⟨A, n, c, rfl, p, B⟩
        exact ⟨_, rfl, hK _ _ ⟨A, n, c, rfl, p⟩ B⟩
      · intro a w1 hB ho hp K hK
        have e7 : a.eval (.tmp 7) = (.pointer (some ⟨w23.heap.size, 0, none⟩)) := ho 7 (by kernel_rfl)
        obtain ⟨u1, u2, u3⟩ := H_f.out.below hB
        exact hop_load (wanted_none rfl) rfl e7 (run_ldf u1) (hK _ _ rfl (Below.refl _ _))
      · intro a w1 hB ho hp K hK
        have e2 : a.eval (.tmp 2) = (.slice A2 k2 c2) := ho 2 (by kernel_rfl)
        refine hop_val (wanted_none rfl) ?_ (hK (.slice A2 k2 c2) _ rfl (Below.refl _ _))
        unfold execOp; simp only [eval_const, e2]; simp [go_sem]
      · intro a w1 hB ho hp K hK
        have e46 : a.eval (.tmp 46) = (.agg #[.int .u64 (ab : Int)]) := hp 4 46 (by kernel_rfl)
        have e47 : a.eval (.tmp 47) = (.slice A2 k2 c2) := hp 5 47 (by kernel_rfl)
        refine hop_call (wanted_none rfl) rfl (args := #[(.agg #[.int .u64 (ab : Int)]), (.slice A2 k2 c2)]) (by simp only [List.map_toArray, List.map_cons, List.map_nil, eval_const, e46, e47]) (ent7 (by kernel_rfl) _ _) (derive_v HP.out h (hy.below hB) (by omega)) ?_
        rintro e w2 ⟨A, n, c, rfl, p, B⟩
        exact ⟨_, rfl, hK _ _ ⟨A, n, c, rfl, p⟩ B⟩
      · intro a w1 hB ho hp K hK
        have e42 : a.eval (.tmp 42) = (.agg #[.int .u64 (ab : Int)]) := hp 0 42 (by kernel_rfl)
        obtain ⟨A_45, n_45, c_45, e45, p45⟩ : IsP (nrm p (drl xs)) (a.eval (.tmp 45)) w1 := hp 3 45 (by kernel_rfl)
        obtain ⟨A_48, n_48, c_48, e48, p48⟩ : IsP (nrm p (drl ys)) (a.eval (.tmp 48)) w1 := hp 6 48 (by kernel_rfl)
        refine hop_call (wanted_none rfl) rfl (args := #[(.agg #[.int .u64 (ab : Int)]), (.slice A_45 n_45 c_45), (.slice A_48 n_48 c_48)]) (by simp only [List.map_toArray, List.map_cons, List.map_nil, eval_const, e42, e45, e48]) (ent7 (by kernel_rfl) _ _) (padd_v HP.out h p45 (by rw [← p45.len]; omega) p48 (by rw [← p48.len]; omega)) ?_
        rintro e w2 ⟨A, n, c, rfl, p, B⟩
        exact ⟨_, rfl, hK _ _ ⟨A, n, c, rfl, p⟩ B⟩
    intro w34 B34
    refine @EndAll.one _ _ _ _ _ _ _ _ _ _ _ _ _ rfl fun vv hv => ?_
    obtain rfl : vv = (.agg #[.int .u64 (ab : Int)]) := hv
    refine @EndAll.one _ _ _ _ _ _ _ _ _ _ _ _ _ rfl fun vv hv => ?_
    obtain rfl : vv = (.agg #[.int .u64 (ab : Int)]) := hv
    refine @EndAll.one _ _ _ _ _ _ _ _ _ _ _ _ _ rfl fun vv hv => ?_
    obtain rfl : vv = (.slice A1 k1 c1) := hv
    refine @EndAll.one _ _ _ _ _ _ _ _ _ _ _ _ _ rfl fun vv hv => ?_
    obtain ⟨A35, n35, c35, rfl, p35⟩ : IsP (nrm p (drl xs)) vv w34 := hv
    refine @EndAll.one _ _ _ _ _ _ _ _ _ _ _ _ _ rfl fun vv hv => ?_
    obtain rfl : vv = (.agg #[.int .u64 (ab : Int)]) := hv
    refine @EndAll.one _ _ _ _ _ _ _ _ _ _ _ _ _ rfl fun vv hv => ?_
    obtain rfl : vv = (.slice A2 k2 c2) := hv
    refine @EndAll.one _ _ _ _ _ _ _ _ _ _ _ _ _ rfl fun vv hv => ?_
    obtain ⟨A36, n36, c36, rfl, p36⟩ : IsP (nrm p (drl ys)) vv w34 := hv
    refine @EndAll.one _ _ _ _ _ _ _ _ _ _ _ _ _ rfl fun vv hv => ?_
    obtain ⟨A37, n37, c37, rfl, p37⟩ : IsP (amul p (nrm p (drl xs)) (nrm p (drl ys)) 1) vv w34 := hv
    refine EndAll.nil (l := [_]) rfl ?_
    simp only [Act.put, List.setIfInBounds_toArray, List.set_cons_zero, List.set_cons_succ]
    replace H_f := Lib.hid (H_f.out.below B34)
    replace hx := hx.below B34
    replace hy := hy.below B34
    replace hT := hT.below B34
    replace rx := rx.below B34
    replace ry := ry.below B34
    replace hW := hW.trans (B34.mono hW.size)
    have rs := p37
    clear p35 p36 p37
    clear B34
    obtain ⟨f1, f2, f3⟩ := H_f.out
    go_wp2_with fail
    clear f1 f2 f3
    refine region9 [some 50, some 51, some 52, some 53, some 54, some 55, some 56, some 57, some 58, some 59, some 60, some 61, some 62, some 63, some 64, some 65] [] 16 [IsK (.slice A27 n27 c27), IsK (.slice A33 n33 c33), IsK (.bool true), IsK (.bool true), IsK (.agg #[.int .u64 (ab : Int)]), IsK (.agg #[.int .u64 (ab : Int)]), IsK (.slice A1 k1 c1), IsK (.slice A2 k2 c2), IsP (amul p xs ys 1), IsP (nrm p (drl (amul p xs ys 1))), IsK (.slice A37 n37 c37), IsK (.bool true), IsK (.bool true), IsK (.bool true), IsK (.agg #[.int .u64 (ab : Int)]), IsP sv] (fun _ _ d _ _ h => by cases d <;> exact h) (by kernel_rfl) (by kernel_rfl) (by kernel_rfl) (by kernel_rfl) (by kernel_rfl) ⟨stay_k _, stay_k _, stay_k _, stay_k _, stay_k _, stay_k _, stay_k _, stay_k _, stay_p _, stay_p _, stay_k _, stay_k _, stay_k _, stay_k _, stay_k _, stay_p _, trivial⟩ ?_ ?_
    · refine HopAll.cons rfl ?_ (HopAll.cons rfl ?_ (HopAll.cons rfl ?_ (HopAll.cons rfl ?_ (HopAll.cons rfl ?_ (HopAll.cons rfl ?_ (HopAll.cons rfl ?_ (HopAll.cons rfl ?_ (HopAll.cons rfl ?_ (HopAll.cons rfl ?_ (HopAll.cons rfl ?_ (HopAll.cons rfl ?_ (HopAll.cons rfl ?_ (HopAll.cons rfl ?_ (HopAll.cons rfl ?_ (HopAll.cons rfl ?_ HopAll.nil)))))))))))))))
      · intro a w1 hB ho hp K hK
        have e8 : a.eval (.tmp 8) = (.slice A27 n27 c27) := ho 8 (by kernel_rfl)
        refine hop_val (wanted_none rfl) ?_ (hK (.slice A27 n27 c27) _ rfl (Below.refl _ _))
        unfold execOp; simp only [eval_const, e8]; simp [go_sem]
      · intro a w1 hB ho hp K hK
        have e9 : a.eval (.tmp 9) = (.slice A33 n33 c33) := ho 9 (by kernel_rfl)
        refine hop_val (wanted_none rfl) ?_ (hK (.slice A33 n33 c33) _ rfl (Below.refl _ _))
        unfold execOp; simp only [eval_const, e9]; simp [go_sem]
      · intro a w1 hB ho hp K hK
        have e50 : a.eval (.tmp 50) = (.slice A27 n27 c27) := hp 0 50 (by kernel_rfl)
        have e51 : a.eval (.tmp 51) = (.slice A33 n33 c33) := hp 1 51 (by kernel_rfl)
        refine hop_call (wanted_none rfl) rfl (args := #[(.slice A27 n27 c27), (.slice A33 n33 c33)]) (by simp only [List.map_toArray, List.map_cons, List.map_nil, eval_const, e50, e51]) (ent7 (by kernel_rfl) _ _) (rsame_v (b := true) (rx.below hB) (ry.below hB) ⟨fun _ => der_mul xs ys, fun _ => rfl⟩) ?_
        rintro e w2 ⟨rfl, B⟩
        exact ⟨_, rfl, hK _ _ rfl B⟩
      · intro a w1 hB ho hp K hK
        have e52 : a.eval (.tmp 52) = (.bool true) := hp 2 52 (by kernel_rfl)
        refine hop_val (wanted_none rfl) ?_ (hK (.bool true) _ rfl (Below.refl _ _))
        unfold execOp; simp only [eval_const, e52]; simp [go_sem]
      · intro a w1 hB ho hp K hK
        have e7 : a.eval (.tmp 7) = (.pointer (some ⟨w23.heap.size, 0, none⟩)) := ho 7 (by kernel_rfl)
        obtain ⟨u1, u2, u3⟩ := H_f.out.below hB
        exact hop_load (wanted_at rfl (j := 3) (d := 53) (b := true) (by kernel_rfl) (hp 3 53 (by kernel_rfl))) rfl e7 (run_ldf u1) (hK _ _ rfl (Below.refl _ _))
      · intro a w1 hB ho hp K hK
        have e7 : a.eval (.tmp 7) = (.pointer (some ⟨w23.heap.size, 0, none⟩)) := ho 7 (by kernel_rfl)
        obtain ⟨u1, u2, u3⟩ := H_f.out.below hB
        exact hop_load (wanted_at rfl (j := 3) (d := 53) (b := true) (by kernel_rfl) (hp 3 53 (by kernel_rfl))) rfl e7 (run_ldf u1) (hK _ _ rfl (Below.refl _ _))
      · intro a w1 hB ho hp K hK
        have e1 : a.eval (.tmp 1) = (.slice A1 k1 c1) := ho 1 (by kernel_rfl)
        refine hop_val (wanted_at rfl (j := 3) (d := 53) (b := true) (by kernel_rfl) (hp 3 53 (by kernel_rfl))) ?_ (hK (.slice A1 k1 c1) _ rfl (Below.refl _ _))
        unfold execOp; simp only [eval_const, e1]; simp [go_sem]
      · intro a w1 hB ho hp K hK
        have e2 : a.eval (.tmp 2) = (.slice A2 k2 c2) := ho 2 (by kernel_rfl)
        refine hop_val (wanted_at rfl (j := 3) (d := 53) (b := true) (by kernel_rfl) (hp 3 53 (by kernel_rfl))) ?_ (hK (.slice A2 k2 c2) _ rfl (Below.refl _ _))
        unfold execOp; simp only [eval_const, e2]; simp [go_sem]
      · intro a w1 hB ho hp K hK
        have e55 : a.eval (.tmp 55) = (.agg #[.int .u64 (ab : Int)]) := hp 5 55 (by kernel_rfl)
        have e56 : a.eval (.tmp 56) = (.slice A1 k1 c1) := hp 6 56 (by kernel_rfl)
        have e57 : a.eval (.tmp 57) = (.slice A2 k2 c2) := hp 7 57 (by kernel_rfl)
        refine hop_call (wanted_at rfl (j := 3) (d := 53) (b := true) (by kernel_rfl) (hp 3 53 (by kernel_rfl))) rfl (args := #[(.agg #[.int .u64 (ab : Int)]), (.slice A1 k1 c1), (.slice A2 k2 c2)]) (by simp only [List.map_toArray, List.map_cons, List.map_nil, eval_const, e55, e56, e57]) (ent7 (by kernel_rfl) _ _) (padd_v HP.out h (hx.below hB) (by omega) (hy.below hB) (by omega)) ?_
        rintro e w2 ⟨A, n, c, rfl, p, B⟩
        exact ⟨_, rfl, hK _ _ ⟨A, n, c, rfl, p⟩ B⟩
      · intro a w1 hB ho hp K hK
        have e54 : a.eval (.tmp 54) = (.agg #[.int .u64 (ab : Int)]) := hp 4 54 (by kernel_rfl)
        obtain ⟨A_58, n_58, c_58, e58, p58⟩ : IsP (amul p xs ys 1) (a.eval (.tmp 58)) w1 := hp 8 58 (by kernel_rfl)
        refine hop_call (wanted_at rfl (j := 3) (d := 53) (b := true) (by kernel_rfl) (hp 3 53 (by kernel_rfl))) rfl (args := #[(.agg #[.int .u64 (ab : Int)]), (.slice A_58 n_58 c_58)]) (by simp only [List.map_toArray, List.map_cons, List.map_nil, eval_const, e54, e58]) (ent7 (by kernel_rfl) _ _) (derive_v HP.out h p58 (by rw [← p58.len]; omega)) ?_
        rintro e w2 ⟨A, n, c, rfl, p, B⟩
        exact ⟨_, rfl, hK _ _ ⟨A, n, c, rfl, p⟩ B⟩
      · intro a w1 hB ho hp K hK
        have e10 : a.eval (.tmp 10) = (.slice A37 n37 c37) := ho 10 (by kernel_rfl)
        refine hop_val (wanted_at rfl (j := 3) (d := 53) (b := true) (by kernel_rfl) (hp 3 53 (by kernel_rfl))) ?_ (hK (.slice A37 n37 c37) _ rfl (Below.refl _ _))
        unfold execOp; simp only [eval_const, e10]; simp [go_sem]
      · intro a w1 hB ho hp K hK
        obtain ⟨A_59, n_59, c_59, e59, p59⟩ : IsP (nrm p (drl (amul p xs ys 1))) (a.eval (.tmp 59)) w1 := hp 9 59 (by kernel_rfl)
        have e60 : a.eval (.tmp 60) = (.slice A37 n37 c37) := hp 10 60 (by kernel_rfl)
        refine hop_call (wanted_at rfl (j := 3) (d := 53) (b := true) (by kernel_rfl) (hp 3 53 (by kernel_rfl))) rfl (args := #[(.slice A_59 n_59 c_59), (.slice A37 n37 c37)]) (by simp only [List.map_toArray, List.map_cons, List.map_nil, eval_const, e59, e60]) (ent7 (by kernel_rfl) _ _) (rsame_v (b := true) p59 (rs.below hB) ⟨fun _ => der_add xs ys, fun _ => rfl⟩) ?_
        rintro e w2 ⟨rfl, B⟩
        exact ⟨_, rfl, hK _ _ rfl B⟩
      · intro a w1 hB ho hp K hK
        have e53 : a.eval (.tmp 53) = (.bool true) := hp 3 53 (by kernel_rfl)
        have e61 : a.eval (.tmp 61) = (.bool true) := hp 11 61 (by kernel_rfl)
        refine hop_val (wanted_none rfl) ?_ (hK (.bool true) _ rfl (Below.refl _ _))
        unfold execOp; simp only [eval_const, e53, e61]; simp [go_sem]
      · intro a w1 hB ho hp K hK
        have e62 : a.eval (.tmp 62) = (.bool true) := hp 12 62 (by kernel_rfl)
        refine hop_val (wanted_none rfl) ?_ (hK (.bool true) _ rfl (Below.refl _ _))
        unfold execOp; simp only [eval_const, e62]; simp [go_sem]
      · intro a w1 hB ho hp K hK
        have e7 : a.eval (.tmp 7) = (.pointer (some ⟨w23.heap.size, 0, none⟩)) := ho 7 (by kernel_rfl)
        obtain ⟨u1, u2, u3⟩ := H_f.out.below hB
        exact hop_load (wanted_at rfl (j := 13) (d := 63) (b := true) (by kernel_rfl) (hp 13 63 (by kernel_rfl))) rfl e7 (run_ldf u1) (hK _ _ rfl (Below.refl _ _))
      · intro a w1 hB ho hp K hK
        refine hop_mem (wanted_at rfl (j := 13) (d := 63) (b := true) (by kernel_rfl) (hp 13 63 (by kernel_rfl))) ?_ (hK _ _ ⟨_, _, _, rfl, (hsv ▸ lv_seven)⟩ (zba _ _))
        unfold execOp; simp only [List.map_toArray, List.map_cons, List.map_nil, eval_const]; simp [run_bs7]
    intro w38 B38
    refine @Ends.one _ _ _ _ _ _ _ _ _ _ fun vv hv => ?_
    obtain rfl : vv = (.slice A27 n27 c27) := hv
    refine @Ends.one _ _ _ _ _ _ _ _ _ _ fun vv hv => ?_
    obtain rfl : vv = (.slice A33 n33 c33) := hv
    refine @Ends.one _ _ _ _ _ _ _ _ _ _ fun vv hv => ?_
    obtain rfl : vv = (.bool true) := hv
    refine @Ends.one _ _ _ _ _ _ _ _ _ _ fun vv hv => ?_
    obtain rfl : vv = (.bool true) := hv
    refine @Ends.one _ _ _ _ _ _ _ _ _ _ fun vv hv => ?_
    obtain rfl : vv = (.agg #[.int .u64 (ab : Int)]) := hv
    refine @Ends.one _ _ _ _ _ _ _ _ _ _ fun vv hv => ?_
    obtain rfl : vv = (.agg #[.int .u64 (ab : Int)]) := hv
    refine @Ends.one _ _ _ _ _ _ _ _ _ _ fun vv hv => ?_
    obtain rfl : vv = (.slice A1 k1 c1) := hv
    refine @Ends.one _ _ _ _ _ _ _ _ _ _ fun vv hv => ?_
    obtain rfl : vv = (.slice A2 k2 c2) := hv
    refine @Ends.one _ _ _ _ _ _ _ _ _ _ fun vv hv => ?_
    obtain ⟨A39, n39, c39, rfl, p39⟩ : IsP (amul p xs ys 1) vv w38 := hv
    refine @Ends.one _ _ _ _ _ _ _ _ _ _ fun vv hv => ?_
    obtain ⟨A40, n40, c40, rfl, p40⟩ : IsP (nrm p (drl (amul p xs ys 1))) vv w38 := hv
    refine @Ends.one _ _ _ _ _ _ _ _ _ _ fun vv hv => ?_
    obtain rfl : vv = (.slice A37 n37 c37) := hv
    refine @Ends.one _ _ _ _ _ _ _ _ _ _ fun vv hv => ?_
    obtain rfl : vv = (.bool true) := hv
    refine @Ends.one _ _ _ _ _ _ _ _ _ _ fun vv hv => ?_
    obtain rfl : vv = (.bool true) := hv
    refine @Ends.one _ _ _ _ _ _ _ _ _ _ fun vv hv => ?_
    obtain rfl : vv = (.bool true) := hv
    refine @Ends.one _ _ _ _ _ _ _ _ _ _ fun vv hv => ?_
    obtain rfl : vv = (.agg #[.int .u64 (ab : Int)]) := hv
    refine @Ends.one _ _ _ _ _ _ _ _ _ _ fun vv hv => ?_
    obtain ⟨A41, n41, c41, rfl, p41⟩ : IsP sv vv w38 := hv
    refine @Ends.nil _ _ _ _ _ _ _ _ [_, _, _, _, _] rfl ?_
    simp only [Act.put, List.setIfInBounds_toArray, List.set_cons_zero, List.set_cons_succ]
    replace H_f := Lib.hid (H_f.out.below B38)
    replace hx := hx.below B38
    replace hy := hy.below B38
    replace hT := hT.below B38
    replace rx := rx.below B38
    replace ry := ry.below B38
    replace rs := rs.below B38
    replace hW := hW.trans (B38.mono hW.size)
    have r7 := p41
    clear p39 p40 p41
    clear B38
    obtain ⟨f1, f2, f3⟩ := H_f.out
    go_wp2_with fail
    clear f1 f2 f3
    refine (derive_v HP.out h r7 (by rw [← r7.len, hsv]; decide)).mono ?_
    rintro e w42 ⟨A42, n42, c42, rfl, r8, B42⟩
    replace H_f := Lib.hid (H_f.out.below B42)
    replace hx := hx.below B42
    replace hy := hy.below B42
    replace hT := hT.below B42
    replace rx := rx.below B42
    replace ry := ry.below B42
    replace rs := rs.below B42
    replace r7 := r7.below B42
    replace hW := hW.trans (B42.mono hW.size)
    clear B42
    clear r7
    rw [hsv, drl7] at r8
    obtain rfl : n42 = 0 := r8.len.symm
    clear r8 rx ry rs
    go_wp2_with fail
    exact bodyPost_ret (v := .bool true) (by simp [results, Tryd.results9, go_sem]) rfl ⟨rfl, hW⟩
  · skip
    go_wp2_with fail
    refine (few9_no (k := 12) hf).mono ?_
    rintro e w22 ⟨rfl, B22⟩
    replace hx := hx.below B22
    replace hy := hy.below B22
    replace hT := hT.below B22
    replace hW := hW.trans (B22.mono hW.size)
    clear B22
    go_wp2_with fail
    refine (awake9_v hT).mono ?_
    rintro e w23 ⟨rfl, B23⟩
    replace hx := hx.below B23
    replace hy := hy.below B23
    replace hT := hT.below B23
    replace hW := hW.trans (B23.mono hW.size)
    clear B23
    go_wp2_with fail
    exact bodyPost_ret (v := (.bool true)) (by simp [results, Tryd.results9, go_sem]) rfl ⟨rfl, hW⟩
end Go.Proofs.YthigedcpiglmnaaDoor
