/-
  The walk of PolyLcm.
-/
import Derived.Test.YthigedcpiglmnaaDoorKXgcd
/-! The walk of PolyLcm. -/
namespace Go.Proofs.YthigedcpiglmnaaDoor
open Go.RowKit
set_option linter.unusedVariables false
set_option linter.unusedSimpArgs false

/-- What the least common multiple is. -/
theorem lcm_is {p : Nat} (hp : MR.Pr p) (a b : List Nat) : Nm p (lcP p a b) ∧ Mono (lcP p a b) ∧
    ((nrm p a ≠ [] ∧ remP p (nrm p (lcP p a b)) (nrm p a) = []) ∨ (nrm p a = [] ∧ nrm p (lcP p a b) = [])) ∧
    ((nrm p b ≠ [] ∧ remP p (nrm p (lcP p a b)) (nrm p b) = []) ∨ (nrm p b = [] ∧ nrm p (lcP p a b) = [])) ∧
    nrm p (mulp p (lcP p a b) (gcP p a b)) = nrm p (mon p (mulp p a b)) := by
  have h0 := pr_pos hp
  have na := nm_nrm h0 a
  have nb := nm_nrm h0 b
  have hl : Nm p (lcP p a b) := nm_mon h0 _
  have hm : Mono (lcP p a b) := mono_mon hp _
  have ng := gcP_is hp a b
  obtain ⟨q, hq⟩ : ∃ q, quoP p (nrm p a) (gcP p a b) = q := ⟨_, rfl⟩
  have nqq : Nm p (nrm p q) := nm_nrm h0 q
  have hlc : lcP p a b = mon p (mulp p (nrm p q) (nrm p b)) := by unfold lcP; rw [hq]
  have hab : mon p (mulp p a b) = mon p (mulp p (nrm p a) (nrm p b)) := by rw [mulp_nrm]
  by_cases a0 : nrm p a = []
  · have q0 : q = [] := by
      rw [← hq, a0]
      by_cases g0 : gcP p a b = []
      · rw [g0]; exact (dmp_none _).1
      · have := quo_len hp ng.1 g0 (Nm.nil p)
        exact List.length_eq_zero_iff.1 (by simpa using this)
    have l0 : lcP p a b = [] := by rw [hlc, q0]; rfl
    have ln : nrm p (lcP p a b) = [] := by rw [l0]; rfl
    refine ⟨hl, hm, .inr ⟨a0, ln⟩, ?_, ?_⟩
    · by_cases b0 : nrm p b = []
      · exact .inr ⟨b0, ln⟩
      · refine .inl ⟨b0, (rem_nil_iff hp nb b0).2 ?_⟩
        rw [ln]; exact (Pdv.zero p _).congr (.of fun x => pe_nil x)
    · rw [l0, hab, a0]; rfl
  · have g0 : gcP p a b ≠ [] := fun e => a0 (gcP_nil hp e).1
    obtain ⟨ka, hka, eka⟩ := ng.2.2.1.congr (eqm_nrm p a)
    have eq1 : Eqm p (pe q) ka := hq ▸ quo_of hp ng.1 g0 hka eka
    have eqa : Eqm p (pe (nrm p a)) (fun x => pe q x * pe (gcP p a b) x) := eka.trans (eq1.symm.left (ply_pe _))
    have q0 : nrm p q ≠ [] := fun e => by
      have := (nrm_nil_iff.1 e)
      exact a0 (uniq h0 na (Nm.nil p) (eqa.trans ((((eqm_nrm p q).symm.left (ply_pe (gcP p a b))).trans (.of fun x => by rw [e, pe_nil]; grind)).to fun x => (pe_nil x).symm)))
    by_cases b0 : nrm p b = []
    · have l0 : lcP p a b = [] := by rw [hlc, b0, mulp_nil']; rfl
      have ln : nrm p (lcP p a b) = [] := by rw [l0]; rfl
      refine ⟨hl, hm, .inl ⟨a0, (rem_nil_iff hp na a0).2 ?_⟩, .inr ⟨b0, ln⟩, ?_⟩
      · rw [ln]; exact (Pdv.zero p _).congr (.of fun x => pe_nil x)
      · rw [l0, hab, b0, mulp_nil']; rfl
    · have nM := nm_mulp h0 (nrm p q) (nrm p b)
      have M0 := mulp_ne hp nqq nb q0 b0
      have mi := mon_is hp nM M0
      have l0 : lcP p a b ≠ [] := by
        rw [hlc]; intro e
        have := mi.1; rw [e] at this
        exact M0 (List.length_eq_zero_iff.1 this.symm)
      obtain ⟨cc, hcc⟩ : ∃ cc, invW p (lead (mulp p (nrm p q) (nrm p b))) = cc := ⟨_, rfl⟩
      have el : Eqm p (pe (lcP p a b)) (fun x => (cc : Int) * (pe (nrm p q) x * pe (nrm p b) x)) := by
        rw [hlc, ← hcc]
        exact mi.2.2.1.trans ((eqm_mulp p (nrm p q) (nrm p b)).right (ply_c _))
      have el2 : Eqm p (pe (lcP p a b)) (fun x => (cc : Int) * (pe q x * pe (nrm p b) x)) := el.trans (((eqm_nrm p q).left (ply_pe (nrm p b))).right (ply_c _))
      obtain ⟨kb, hkb, ekb⟩ := ng.2.2.2.1.congr (eqm_nrm p b)
      refine ⟨hl, hm, .inl ⟨a0, (rem_nil_iff hp na a0).2 ?_⟩, .inl ⟨b0, (rem_nil_iff hp nb b0).2 ?_⟩, ?_⟩
      · rw [nrm_of h0 hl]
        refine ⟨fun x => (cc : Int) * kb x, (ply_c _).mul hkb, el2.trans ?_⟩
        have e3 := ((ekb.right (ply_pe q)).right (ply_c (cc : Int)))
        refine e3.trans (Eqm.trans ?_ ((eqa.symm.right ((ply_c (cc : Int)).mul hkb))))
        exact .of fun x => by grind
      · rw [nrm_of h0 hl]
        exact ⟨fun x => (cc : Int) * pe q x, (ply_c _).mul (ply_pe q), el2.to fun x => by grind⟩
      · rw [nrm_of h0 (nm_mulp h0 _ _), nrm_of h0 (nm_mon h0 _), hab]
        have nN := nm_mulp h0 (nrm p a) (nrm p b)
        have N0 := mulp_ne hp na nb a0 b0
        have mN := mon_is hp nN N0
        have lg := mulp_ne hp hl ng.1 l0 g0
        have mlg : Mono (mulp p (lcP p a b) (gcP p a b)) := by
          right
          have ht := mulp_top hp hl ng.1 l0 g0
          have t1 : lead (lcP p a b) = 1 := hm.resolve_left l0
          have t2 : lead (gcP p a b) = 1 := ng.2.1.resolve_left g0
          unfold lead at t1 t2 ⊢
          rw [ht, t1, t2]; exact Nat.mod_eq_of_lt hp.1
        have e4 : Eqm p (pe (mulp p (lcP p a b) (gcP p a b))) (fun x => ((cc * lead (mulp p (nrm p a) (nrm p b)) : Nat) : Int) * pe (mon p (mulp p (nrm p a) (nrm p b))) x) := by
          refine (eqm_mulp _ _ _).trans ((el2.left (ply_pe (gcP p a b))).trans ?_)
          have e5 := (eqa.symm.left (ply_pe (nrm p b))).right (ply_c (cc : Int))
          have e6 := (eqm_mulp p (nrm p a) (nrm p b)).symm.trans mN.2.2.2
          refine Eqm.trans ?_ (e5.trans ((e6.right (ply_c (cc : Int))).to fun x => by rw [Int.natCast_mul]; grind))
          exact .of fun x => by grind
        refine mono_eq hp (nm_mulp h0 _ _) (nm_mon h0 _) mlg (mono_mon hp _) e4 (fun e => ?_) (fun e => absurd e lg)
        have := mN.1; rw [e] at this
        exact absurd (List.length_eq_zero_iff.1 this.symm) N0
theorem lcP_len {p : Nat} (hp : MR.Pr p) (a b : List Nat) : (lcP p a b).length ≤ a.length + b.length := by
  unfold lcP
  have h1 := scale_le (p := p) (mulp p (nrm p (quoP p (nrm p a) (gcP p a b))) (nrm p b)) (invW p (lead (nrm p (mulp p (nrm p (quoP p (nrm p a) (gcP p a b))) (nrm p b)))))
  have h2 := mulp_le p (nrm p (quoP p (nrm p a) (gcP p a b))) (nrm p b)
  have h3 := nrm_le p (quoP p (nrm p a) (gcP p a b))
  have h4 := quo_le hp (nm_nrm (pr_pos hp) a) (gcP_is hp a b).1
  have h5 := nrm_le p a
  have h6 := nrm_le p b
  have h7 : (mon p (mulp p (nrm p (quoP p (nrm p a) (gcP p a b))) (nrm p b))).length ≤ (mulp p (nrm p (quoP p (nrm p a) (gcP p a b))) (nrm p b)).length := h1
  omega
set_option maxRecDepth 100000 in
set_option maxHeartbeats 1000000 in
/-- PolyLcm. -/
theorem lcm9_calls {n k1 c1 k2 c2 : Nat} {A1 A2 : Option Addr} {xs ys : List Nat} {w : World} (hn : n < 256) (hx : Lv w A1 k1 c1 xs) (hy : Lv w A2 k2 c2 ys) (hT : TabHas w) :
    Calls Tryd.prog 6 #[.int .u8 (n : Int), .slice A1 k1 c1, .slice A2 k2 c2] w (BlPost true w) := by
  obtain ⟨p, hp0⟩ : ∃ p, pn (n % 12) = p := ⟨_, rfl⟩
  have hp := pn_pr (n % 12) (by omega)
  rw [hp0] at hp
  obtain ⟨ab, hab⟩ : ∃ ab, ab + 2 = p := ⟨p - 2, by have := hp.2.2; omega⟩
  have hpr := hp.1
  have h := hp.2.1
  have h2 : 2 ≤ p := hp.2.2
  have HP := Lib.hid hab
  have HP0 := Lib.hid hp0
  clear hab hp hp0
  have hW := Below.refl w.heap.size w
  go_enter Tryd.func6, Tryd.ntmps6
  go_wp2_with fail
  refine (awake9_v hT).mono ?_
  rintro e w21 ⟨rfl, B21⟩
  replace hx := hx.below B21
  replace hy := hy.below B21
  replace hT := hT.below B21
  replace hW := hW.trans (B21.mono hW.size)
  clear B21
  by_cases hf : k1 ≤ 12 ∧ k2 ≤ 12
  · skip
    go_wp2_with fail
    refine (few9_yes (k := 12) hf.1 hf.2).mono ?_
    rintro e w22 ⟨rfl, B22⟩
    replace hx := hx.below B22
    replace hy := hy.below B22
    replace hT := hT.below B22
    replace hW := hW.trans (B22.mono hW.size)
    clear B22
    obtain ⟨hb1, hb2⟩ := hf
    have lx := hx.len
    have ly := hy.len
    go_wp2_with fail
    refine (fof9_v (ab := ab) hn hT HP0.out HP.out).mono ?_
    rintro e w23 ⟨rfl, B23⟩
    replace hx := hx.below B23
    replace hy := hy.below B23
    replace hT := hT.below B23
    replace hW := hW.trans (B23.mono hW.size)
    clear B23
    obtain ⟨w24, hw24⟩ : ∃ xw, xw = w23.alloc (.cells #[.int .u64 (ab : Int)] 28) := ⟨_, rfl⟩
    have z24 : Below w23.heap.size w23 w24 := by rw [hw24]; exact zba _ _
    have HW24 : Hid (w23.alloc (.cells #[.int .u64 (ab : Int)] 28) = w24) := Lib.hid hw24.symm
    have lw_f : w.heap.size ≤ w23.heap.size := by have := hW.size; omega
    replace hx := hx.below z24
    replace hy := hy.below z24
    replace hT := hT.below z24
    replace hW := hW.trans (z24.mono hW.size)
    have H_f : Hid (Fb w24 w23.heap.size ab) := Lib.hid (by rw [hw24]; exact Fb.new _ _ _)
    clear z24 hw24
    have HL := Lib.hid (lcm_is hpr xs ys)
    have hll := lcP_len hpr xs ys
    have hgl := gcP_len hpr xs ys
    have m1 : (mulp p (lcP p xs ys) (gcP p xs ys)).length ≤ 1000 := by have := mulp_le p (lcP p xs ys) (gcP p xs ys); omega
    have m2 : (mulp p xs ys).length ≤ 1000 := by have := mulp_le p xs ys; omega
    have m3 : (mon p (mulp p xs ys)).length ≤ 1000 := Nat.le_trans (scale_le _ _) m2
    go_wp2_with fail
    rw [HW24.out]
    refine region8 [] 8 [IsK (.agg #[.int .u64 (ab : Int)]), IsK (.slice A1 k1 c1), IsK (.slice A2 k2 c2), IsP (lcP p xs ys), IsK (.agg #[.int .u64 (ab : Int)]), IsK (.slice A1 k1 c1), IsK (.slice A2 k2 c2), IsP (gcP p xs ys)] (fun _ _ d _ _ h => by cases d <;> exact h) (by kernel_rfl) (by kernel_rfl) (by kernel_rfl) ⟨stay_k _, stay_k _, stay_k _, stay_p _, stay_k _, stay_k _, stay_k _, stay_p _, trivial⟩ ?_ ?_
    · refine HopAll.cons rfl ?_ (HopAll.cons rfl ?_ (HopAll.cons rfl ?_ (HopAll.cons rfl ?_ (HopAll.cons rfl ?_ (HopAll.cons rfl ?_ (HopAll.cons rfl ?_ (HopAll.cons rfl ?_ HopAll.nil)))))))
      · intro a w1 hB ho hp K hK
        have e7 : a.eval (.tmp 7) = (.pointer (some ⟨w23.heap.size, 0, none⟩)) := ho 7 (by kernel_rfl)
        obtain ⟨u1, u2, u3⟩ := H_f.out.below hB
        exact hop_load (wanted_none rfl) rfl e7 (run_ldf u1) (hK _ _ rfl (Below.refl _ _))
      · intro a w1 hB ho hp K hK
        have e1 : a.eval (.tmp 1) = (.slice A1 k1 c1) := ho 1 (by kernel_rfl)
        refine hop_val (wanted_none rfl) ?_ (hK (.slice A1 k1 c1) _ rfl (Below.refl _ _))
        unfold execOp; simp only [eval_const, e1]; simp [go_sem]
      · intro a w1 hB ho hp K hK
        have e2 : a.eval (.tmp 2) = (.slice A2 k2 c2) := ho 2 (by kernel_rfl)
        refine hop_val (wanted_none rfl) ?_ (hK (.slice A2 k2 c2) _ rfl (Below.refl _ _))
        unfold execOp; simp only [eval_const, e2]; simp [go_sem]
      · intro a w1 hB ho hp K hK
        have e21 : a.eval (.tmp 21) = (.agg #[.int .u64 (ab : Int)]) := hp 0 21 (by kernel_rfl)
        have e22 : a.eval (.tmp 22) = (.slice A1 k1 c1) := hp 1 22 (by kernel_rfl)
        have e23 : a.eval (.tmp 23) = (.slice A2 k2 c2) := hp 2 23 (by kernel_rfl)
        refine hop_call (wanted_none rfl) rfl (args := #[(.agg #[.int .u64 (ab : Int)]), (.slice A1 k1 c1), (.slice A2 k2 c2)]) (by simp only [List.map_toArray, List.map_cons, List.map_nil, eval_const, e21, e22, e23]) (ent7 (by kernel_rfl) _ _) (lcm9_v HP.out h hpr (hx.below hB) (by omega) (hy.below hB) (by omega)) ?_
        rintro e w2 ⟨A, n, c, rfl, p, B⟩
        exact ⟨_, rfl, hK _ _ ⟨A, n, c, rfl, p⟩ B⟩
      · intro a w1 hB ho hp K hK
        have e7 : a.eval (.tmp 7) = (.pointer (some ⟨w23.heap.size, 0, none⟩)) := ho 7 (by kernel_rfl)
        obtain ⟨u1, u2, u3⟩ := H_f.out.below hB
        exact hop_load (wanted_none rfl) rfl e7 (run_ldf u1) (hK _ _ rfl (Below.refl _ _))
      · intro a w1 hB ho hp K hK
        have e1 : a.eval (.tmp 1) = (.slice A1 k1 c1) := ho 1 (by kernel_rfl)
        refine hop_val (wanted_none rfl) ?_ (hK (.slice A1 k1 c1) _ rfl (Below.refl _ _))
        unfold execOp; simp only [eval_const, e1]; simp [go_sem]
      · intro a w1 hB ho hp K hK
        have e2 : a.eval (.tmp 2) = (.slice A2 k2 c2) := ho 2 (by kernel_rfl)
        refine hop_val (wanted_none rfl) ?_ (hK (.slice A2 k2 c2) _ rfl (Below.refl _ _))
        unfold execOp; simp only [eval_const, e2]; simp [go_sem]
      · intro a w1 hB ho hp K hK
        have e25 : a.eval (.tmp 25) = (.agg #[.int .u64 (ab : Int)]) := hp 4 25 (by kernel_rfl)
        have e26 : a.eval (.tmp 26) = (.slice A1 k1 c1) := hp 5 26 (by kernel_rfl)
        have e27 : a.eval (.tmp 27) = (.slice A2 k2 c2) := hp 6 27 (by kernel_rfl)
        refine hop_call (wanted_none rfl) rfl (args := #[(.agg #[.int .u64 (ab : Int)]), (.slice A1 k1 c1), (.slice A2 k2 c2)]) (by simp only [List.map_toArray, List.map_cons, List.map_nil, eval_const, e25, e26, e27]) (ent7 (by kernel_rfl) _ _) (gcd9_v HP.out h hpr (hx.below hB) (by omega) (hy.below hB) (by omega)) ?_
        rintro e w2 ⟨A, n, c, rfl, p, B⟩
        exact ⟨_, rfl, hK _ _ ⟨A, n, c, rfl, p⟩ B⟩
    intro w25 B25
    refine EndAll.one rfl fun vv hv => ?_
    obtain rfl : vv = (.agg #[.int .u64 (ab : Int)]) := hv
    refine EndAll.one rfl fun vv hv => ?_
    obtain rfl : vv = (.slice A1 k1 c1) := hv
    refine EndAll.one rfl fun vv hv => ?_
    obtain rfl : vv = (.slice A2 k2 c2) := hv
    refine EndAll.one rfl fun vv hv => ?_
    obtain ⟨A26, n26, c26, rfl, p26⟩ : IsP (lcP p xs ys) vv w25 := hv
    refine EndAll.one rfl fun vv hv => ?_
    obtain rfl : vv = (.agg #[.int .u64 (ab : Int)]) := hv
    refine EndAll.one rfl fun vv hv => ?_
    obtain rfl : vv = (.slice A1 k1 c1) := hv
    refine EndAll.one rfl fun vv hv => ?_
    obtain rfl : vv = (.slice A2 k2 c2) := hv
    refine EndAll.one rfl fun vv hv => ?_
    obtain ⟨A27, n27, c27, rfl, p27⟩ : IsP (gcP p xs ys) vv w25 := hv
    refine EndAll.nil (l := [_, _]) rfl ?_
    simp only [Act.put, List.setIfInBounds_toArray, List.set_cons_zero, List.set_cons_succ]
    replace H_f := Lib.hid (H_f.out.below B25)
    replace hx := hx.below B25
    replace hy := hy.below B25
    replace hT := hT.below B25
    replace hW := hW.trans (B25.mono hW.size)
    have rl := p26
    have rg := p27
    clear p26 p27
    clear B25
    have ll := rl.len
    have lg := rg.len
    obtain ⟨f1, f2, f3⟩ := H_f.out
    go_wp2_with fail
    clear f1 f2 f3
    refine region8 [] 29 [IsK (.slice A26 n26 c26), IsK (.bool true), IsK (.bool true), IsK (.agg #[.int .u64 (ab : Int)]), IsK (.slice A1 k1 c1), IsK (.slice A26 n26 c26), IsK (.bool true), IsK (.bool true), IsK (.bool true), IsK (.agg #[.int .u64 (ab : Int)]), IsK (.slice A2 k2 c2), IsK (.slice A26 n26 c26), IsK (.bool true), IsK (.bool true), IsK (.bool true), IsK (.agg #[.int .u64 (ab : Int)]), IsK (.agg #[.int .u64 (ab : Int)]), IsK (.slice A26 n26 c26), IsK (.slice A27 n27 c27), IsP (mulp p (lcP p xs ys) (gcP p xs ys)), IsK (.agg #[.int .u64 (ab : Int)]), IsK (.agg #[.int .u64 (ab : Int)]), IsK (.slice A1 k1 c1), IsK (.slice A2 k2 c2), IsP (mulp p xs ys), IsP (mon p (mulp p xs ys)), IsK (.bool true), IsK (.bool true), IsK (.bool true)] (fun _ _ d _ _ h => by cases d <;> exact h) (by kernel_rfl) (by kernel_rfl) (by kernel_rfl) ⟨stay_k _, stay_k _, stay_k _, stay_k _, stay_k _, stay_k _, stay_k _, stay_k _, stay_k _, stay_k _, stay_k _, stay_k _, stay_k _, stay_k _, stay_k _, stay_k _, stay_k _, stay_k _, stay_k _, stay_p _, stay_k _, stay_k _, stay_k _, stay_k _, stay_p _, stay_p _, stay_k _, stay_k _, stay_k _, trivial⟩ ?_ ?_
    · refine HopAll.cons rfl ?_ (HopAll.cons rfl ?_ (HopAll.cons rfl ?_ (HopAll.cons rfl ?_ (HopAll.cons rfl ?_ (HopAll.cons rfl ?_ (HopAll.cons rfl ?_ (HopAll.cons rfl ?_ (HopAll.cons rfl ?_ (HopAll.cons rfl ?_ (HopAll.cons rfl ?_ (HopAll.cons rfl ?_ (HopAll.cons rfl ?_ (HopAll.cons rfl ?_ (HopAll.cons rfl ?_ (HopAll.cons rfl ?_ (HopAll.cons rfl ?_ (HopAll.cons rfl ?_ (HopAll.cons rfl ?_ (HopAll.cons rfl ?_ (HopAll.cons rfl ?_ (HopAll.cons rfl ?_ (HopAll.cons rfl ?_ (HopAll.cons rfl ?_ (HopAll.cons rfl ?_ (HopAll.cons rfl ?_ (HopAll.cons rfl ?_ (HopAll.cons rfl ?_ (HopAll.cons rfl ?_ HopAll.nil))))))))))))))))))))))))))))
      · intro a w1 hB ho hp K hK
        have e8 : a.eval (.tmp 8) = (.slice A26 n26 c26) := ho 8 (by kernel_rfl)
        refine hop_val (wanted_none rfl) ?_ (hK (.slice A26 n26 c26) _ rfl (Below.refl _ _))
        unfold execOp; simp only [eval_const, e8]; simp [go_sem]
      · intro a w1 hB ho hp K hK
        have e29 : a.eval (.tmp 29) = (.slice A26 n26 c26) := hp 0 29 (by kernel_rfl)
        refine hop_call (wanted_none rfl) rfl (args := #[(.slice A26 n26 c26)]) (by simp only [List.map_toArray, List.map_cons, List.map_nil, eval_const, e29]) (ent7 (by kernel_rfl) _ _) (rmonic_v (b := true) (rl.below hB) ⟨fun _ => HL.out.2.1, fun _ => rfl⟩) ?_
        rintro e w2 ⟨rfl, B⟩
        exact ⟨_, rfl, hK _ _ rfl B⟩
      · intro a w1 hB ho hp K hK
        have e30 : a.eval (.tmp 30) = (.bool true) := hp 1 30 (by kernel_rfl)
        refine hop_val (wanted_none rfl) ?_ (hK (.bool true) _ rfl (Below.refl _ _))
        unfold execOp; simp only [eval_const, e30]; simp [go_sem]
      · intro a w1 hB ho hp K hK
        have e7 : a.eval (.tmp 7) = (.pointer (some ⟨w23.heap.size, 0, none⟩)) := ho 7 (by kernel_rfl)
        obtain ⟨u1, u2, u3⟩ := H_f.out.below hB
        exact hop_load (wanted_at rfl (j := 2) (d := 31) (b := true) (by kernel_rfl) (hp 2 31 (by kernel_rfl))) rfl e7 (run_ldf u1) (hK _ _ rfl (Below.refl _ _))
      · intro a w1 hB ho hp K hK
        have e1 : a.eval (.tmp 1) = (.slice A1 k1 c1) := ho 1 (by kernel_rfl)
        refine hop_val (wanted_at rfl (j := 2) (d := 31) (b := true) (by kernel_rfl) (hp 2 31 (by kernel_rfl))) ?_ (hK (.slice A1 k1 c1) _ rfl (Below.refl _ _))
        unfold execOp; simp only [eval_const, e1]; simp [go_sem]
      · intro a w1 hB ho hp K hK
        have e8 : a.eval (.tmp 8) = (.slice A26 n26 c26) := ho 8 (by kernel_rfl)
        refine hop_val (wanted_at rfl (j := 2) (d := 31) (b := true) (by kernel_rfl) (hp 2 31 (by kernel_rfl))) ?_ (hK (.slice A26 n26 c26) _ rfl (Below.refl _ _))
        unfold execOp; simp only [eval_const, e8]; simp [go_sem]
      · intro a w1 hB ho hp K hK
        have e32 : a.eval (.tmp 32) = (.agg #[.int .u64 (ab : Int)]) := hp 3 32 (by kernel_rfl)
        have e33 : a.eval (.tmp 33) = (.slice A1 k1 c1) := hp 4 33 (by kernel_rfl)
        have e34 : a.eval (.tmp 34) = (.slice A26 n26 c26) := hp 5 34 (by kernel_rfl)
        refine hop_call (wanted_at rfl (j := 2) (d := 31) (b := true) (by kernel_rfl) (hp 2 31 (by kernel_rfl))) rfl (args := #[(.agg #[.int .u64 (ab : Int)]), (.slice A1 k1 c1), (.slice A26 n26 c26)]) (by simp only [List.map_toArray, List.map_cons, List.map_nil, eval_const, e32, e33, e34]) (ent7 (by kernel_rfl) _ _) (divides_v (b := true) HP.out h hpr (hx.below hB) (by omega) (rl.below hB) (by omega) ⟨fun _ => HL.out.2.2.1, fun _ => rfl⟩) ?_
        rintro e w2 ⟨rfl, B⟩
        exact ⟨_, rfl, hK _ _ rfl B⟩
      · intro a w1 hB ho hp K hK
        have e31 : a.eval (.tmp 31) = (.bool true) := hp 2 31 (by kernel_rfl)
        have e35 : a.eval (.tmp 35) = (.bool true) := hp 6 35 (by kernel_rfl)
        refine hop_val (wanted_none rfl) ?_ (hK (.bool true) _ rfl (Below.refl _ _))
        unfold execOp; simp only [eval_const, e31, e35]; simp [go_sem]
      · intro a w1 hB ho hp K hK
        have e36 : a.eval (.tmp 36) = (.bool true) := hp 7 36 (by kernel_rfl)
        refine hop_val (wanted_none rfl) ?_ (hK (.bool true) _ rfl (Below.refl _ _))
        unfold execOp; simp only [eval_const, e36]; simp [go_sem]
      · intro a w1 hB ho hp K hK
        have e7 : a.eval (.tmp 7) = (.pointer (some ⟨w23.heap.size, 0, none⟩)) := ho 7 (by kernel_rfl)
        obtain ⟨u1, u2, u3⟩ := H_f.out.below hB
        exact hop_load (wanted_at rfl (j := 8) (d := 37) (b := true) (by kernel_rfl) (hp 8 37 (by kernel_rfl))) rfl e7 (run_ldf u1) (hK _ _ rfl (Below.refl _ _))
      · intro a w1 hB ho hp K hK
        have e2 : a.eval (.tmp 2) = (.slice A2 k2 c2) := ho 2 (by kernel_rfl)
        refine hop_val (wanted_at rfl (j := 8) (d := 37) (b := true) (by kernel_rfl) (hp 8 37 (by kernel_rfl))) ?_ (hK (.slice A2 k2 c2) _ rfl (Below.refl _ _))
        unfold execOp; simp only [eval_const, e2]; simp [go_sem]
      · intro a w1 hB ho hp K hK
        have e8 : a.eval (.tmp 8) = (.slice A26 n26 c26) := ho 8 (by kernel_rfl)
        refine hop_val (wanted_at rfl (j := 8) (d := 37) (b := true) (by kernel_rfl) (hp 8 37 (by kernel_rfl))) ?_ (hK (.slice A26 n26 c26) _ rfl (Below.refl _ _))
        unfold execOp; simp only [eval_const, e8]; simp [go_sem]
      · intro a w1 hB ho hp K hK
        have e38 : a.eval (.tmp 38) = (.agg #[.int .u64 (ab : Int)]) := hp 9 38 (by kernel_rfl)
        have e39 : a.eval (.tmp 39) = (.slice A2 k2 c2) := hp 10 39 (by kernel_rfl)
        have e40 : a.eval (.tmp 40) = (.slice A26 n26 c26) := hp 11 40 (by kernel_rfl)
        refine hop_call (wanted_at rfl (j := 8) (d := 37) (b := true) (by kernel_rfl) (hp 8 37 (by kernel_rfl))) rfl (args := #[(.agg #[.int .u64 (ab : Int)]), (.slice A2 k2 c2), (.slice A26 n26 c26)]) (by simp only [List.map_toArray, List.map_cons, List.map_nil, eval_const, e38, e39, e40]) (ent7 (by kernel_rfl) _ _) (divides_v (b := true) HP.out h hpr (hy.below hB) (by omega) (rl.below hB) (by omega) ⟨fun _ => HL.out.2.2.2.1, fun _ => rfl⟩) ?_
        rintro e w2 ⟨rfl, B⟩
        exact ⟨_, rfl, hK _ _ rfl B⟩
      · intro a w1 hB ho hp K hK
        have e37 : a.eval (.tmp 37) = (.bool true) := hp 8 37 (by kernel_rfl)
        have e41 : a.eval (.tmp 41) = (.bool true) := hp 12 41 (by kernel_rfl)
        refine hop_val (wanted_none rfl) ?_ (hK (.bool true) _ rfl (Below.refl _ _))
        unfold execOp; simp only [eval_const, e37, e41]; simp [go_sem]
      · intro a w1 hB ho hp K hK
        have e42 : a.eval (.tmp 42) = (.bool true) := hp 13 42 (by kernel_rfl)
        refine hop_val (wanted_none rfl) ?_ (hK (.bool true) _ rfl (Below.refl _ _))
        unfold execOp; simp only [eval_const, e42]; simp [go_sem]
      · intro a w1 hB ho hp K hK
        have e7 : a.eval (.tmp 7) = (.pointer (some ⟨w23.heap.size, 0, none⟩)) := ho 7 (by kernel_rfl)
        obtain ⟨u1, u2, u3⟩ := H_f.out.below hB
        exact hop_load (wanted_at rfl (j := 14) (d := 43) (b := true) (by kernel_rfl) (hp 14 43 (by kernel_rfl))) rfl e7 (run_ldf u1) (hK _ _ rfl (Below.refl _ _))
      · intro a w1 hB ho hp K hK
        have e7 : a.eval (.tmp 7) = (.pointer (some ⟨w23.heap.size, 0, none⟩)) := ho 7 (by kernel_rfl)
        obtain ⟨u1, u2, u3⟩ := H_f.out.below hB
        exact hop_load (wanted_at rfl (j := 14) (d := 43) (b := true) (by kernel_rfl) (hp 14 43 (by kernel_rfl))) rfl e7 (run_ldf u1) (hK _ _ rfl (Below.refl _ _))
      · intro a w1 hB ho hp K hK
        have e8 : a.eval (.tmp 8) = (.slice A26 n26 c26) := ho 8 (by kernel_rfl)
        refine hop_val (wanted_at rfl (j := 14) (d := 43) (b := true) (by kernel_rfl) (hp 14 43 (by kernel_rfl))) ?_ (hK (.slice A26 n26 c26) _ rfl (Below.refl _ _))
        unfold execOp; simp only [eval_const, e8]; simp [go_sem]
      · intro a w1 hB ho hp K hK
        have e9 : a.eval (.tmp 9) = (.slice A27 n27 c27) := ho 9 (by kernel_rfl)
        refine hop_val (wanted_at rfl (j := 14) (d := 43) (b := true) (by kernel_rfl) (hp 14 43 (by kernel_rfl))) ?_ (hK (.slice A27 n27 c27) _ rfl (Below.refl _ _))
        unfold execOp; simp only [eval_const, e9]; simp [go_sem]
      · intro a w1 hB ho hp K hK
        have e45 : a.eval (.tmp 45) = (.agg #[.int .u64 (ab : Int)]) := hp 16 45 (by kernel_rfl)
        have e46 : a.eval (.tmp 46) = (.slice A26 n26 c26) := hp 17 46 (by kernel_rfl)
        have e47 : a.eval (.tmp 47) = (.slice A27 n27 c27) := hp 18 47 (by kernel_rfl)
        refine hop_call (wanted_at rfl (j := 14) (d := 43) (b := true) (by kernel_rfl) (hp 14 43 (by kernel_rfl))) rfl (args := #[(.agg #[.int .u64 (ab : Int)]), (.slice A26 n26 c26), (.slice A27 n27 c27)]) (by simp only [List.map_toArray, List.map_cons, List.map_nil, eval_const, e45, e46, e47]) (ent7 (by kernel_rfl) _ _) (pmul_v HP.out h (rl.below hB) (by omega) (rg.below hB) (by omega)) ?_
        rintro e w2 ⟨A, n, c, rfl, p, B⟩
        exact ⟨_, rfl, hK _ _ ⟨A, n, c, rfl, p⟩ B⟩
      · intro a w1 hB ho hp K hK
        have e7 : a.eval (.tmp 7) = (.pointer (some ⟨w23.heap.size, 0, none⟩)) := ho 7 (by kernel_rfl)
        obtain ⟨u1, u2, u3⟩ := H_f.out.below hB
        exact hop_load (wanted_at rfl (j := 14) (d := 43) (b := true) (by kernel_rfl) (hp 14 43 (by kernel_rfl))) rfl e7 (run_ldf u1) (hK _ _ rfl (Below.refl _ _))
      · intro a w1 hB ho hp K hK
        have e7 : a.eval (.tmp 7) = (.pointer (some ⟨w23.heap.size, 0, none⟩)) := ho 7 (by kernel_rfl)
        obtain ⟨u1, u2, u3⟩ := H_f.out.below hB
        exact hop_load (wanted_at rfl (j := 14) (d := 43) (b := true) (by kernel_rfl) (hp 14 43 (by kernel_rfl))) rfl e7 (run_ldf u1) (hK _ _ rfl (Below.refl _ _))
      · intro a w1 hB ho hp K hK
        have e1 : a.eval (.tmp 1) = (.slice A1 k1 c1) := ho 1 (by kernel_rfl)
        refine hop_val (wanted_at rfl (j := 14) (d := 43) (b := true) (by kernel_rfl) (hp 14 43 (by kernel_rfl))) ?_ (hK (.slice A1 k1 c1) _ rfl (Below.refl _ _))
        unfold execOp; simp only [eval_const, e1]; simp [go_sem]
      · intro a w1 hB ho hp K hK
        have e2 : a.eval (.tmp 2) = (.slice A2 k2 c2) := ho 2 (by kernel_rfl)
        refine hop_val (wanted_at rfl (j := 14) (d := 43) (b := true) (by kernel_rfl) (hp 14 43 (by kernel_rfl))) ?_ (hK (.slice A2 k2 c2) _ rfl (Below.refl _ _))
        unfold execOp; simp only [eval_const, e2]; simp [go_sem]
      · intro a w1 hB ho hp K hK
        have e50 : a.eval (.tmp 50) = (.agg #[.int .u64 (ab : Int)]) := hp 21 50 (by kernel_rfl)
        have e51 : a.eval (.tmp 51) = (.slice A1 k1 c1) := hp 22 51 (by kernel_rfl)
        have e52 : a.eval (.tmp 52) = (.slice A2 k2 c2) := hp 23 52 (by kernel_rfl)
        refine hop_call (wanted_at rfl (j := 14) (d := 43) (b := true) (by kernel_rfl) (hp 14 43 (by kernel_rfl))) rfl (args := #[(.agg #[.int .u64 (ab : Int)]), (.slice A1 k1 c1), (.slice A2 k2 c2)]) (by simp only [List.map_toArray, List.map_cons, List.map_nil, eval_const, e50, e51, e52]) (ent7 (by kernel_rfl) _ _) (pmul_v HP.out h (hx.below hB) (by omega) (hy.below hB) (by omega)) ?_
        rintro e w2 ⟨A, n, c, rfl, p, B⟩
        exact ⟨_, rfl, hK _ _ ⟨A, n, c, rfl, p⟩ B⟩
      · intro a w1 hB ho hp K hK
        have e49 : a.eval (.tmp 49) = (.agg #[.int .u64 (ab : Int)]) := hp 20 49 (by kernel_rfl)
        obtain ⟨A_53, n_53, c_53, e53, p53⟩ : IsP (mulp p xs ys) (a.eval (.tmp 53)) w1 := hp 24 53 (by kernel_rfl)
        refine hop_call (wanted_at rfl (j := 14) (d := 43) (b := true) (by kernel_rfl) (hp 14 43 (by kernel_rfl))) rfl (args := #[(.agg #[.int .u64 (ab : Int)]), (.slice A_53 n_53 c_53)]) (by simp only [List.map_toArray, List.map_cons, List.map_nil, eval_const, e49, e53]) (ent7 (by kernel_rfl) _ _) (mon_v HP.out h p53 (by rw [← p53.len]; omega)) ?_
        rintro e w2 ⟨A, n, c, rfl, p, B⟩
        exact ⟨_, rfl, hK _ _ ⟨A, n, c, rfl, p⟩ B⟩
      · intro a w1 hB ho hp K hK
        have e44 : a.eval (.tmp 44) = (.agg #[.int .u64 (ab : Int)]) := hp 15 44 (by kernel_rfl)
        obtain ⟨A_48, n_48, c_48, e48, p48⟩ : IsP (mulp p (lcP p xs ys) (gcP p xs ys)) (a.eval (.tmp 48)) w1 := hp 19 48 (by kernel_rfl)
        obtain ⟨A_54, n_54, c_54, e54, p54⟩ : IsP (mon p (mulp p xs ys)) (a.eval (.tmp 54)) w1 := hp 25 54 (by kernel_rfl)
        refine hop_call (wanted_at rfl (j := 14) (d := 43) (b := true) (by kernel_rfl) (hp 14 43 (by kernel_rfl))) rfl (args := #[(.agg #[.int .u64 (ab : Int)]), (.slice A_48 n_48 c_48), (.slice A_54 n_54 c_54)]) (by simp only [List.map_toArray, List.map_cons, List.map_nil, eval_const, e44, e48, e54]) (ent7 (by kernel_rfl) _ _) (same9_v (b := true) HP.out h p48 (by rw [← p48.len]; omega) p54 (by rw [← p54.len]; omega) ⟨fun _ => HL.out.2.2.2.2, fun _ => rfl⟩) ?_
        rintro e w2 ⟨rfl, B⟩
        exact ⟨_, rfl, hK _ _ rfl B⟩
      · intro a w1 hB ho hp K hK
        have e43 : a.eval (.tmp 43) = (.bool true) := hp 14 43 (by kernel_rfl)
        have e55 : a.eval (.tmp 55) = (.bool true) := hp 26 55 (by kernel_rfl)
        refine hop_val (wanted_none rfl) ?_ (hK (.bool true) _ rfl (Below.refl _ _))
        unfold execOp; simp only [eval_const, e43, e55]; simp [go_sem]
      · intro a w1 hB ho hp K hK
        have e56 : a.eval (.tmp 56) = (.bool true) := hp 27 56 (by kernel_rfl)
        refine hop_val (wanted_none rfl) ?_ (hK (.bool true) _ rfl (Below.refl _ _))
        unfold execOp; simp only [eval_const, e56]; simp [go_sem]
    intro w28 B28
    refine EndAll.one rfl fun vv hv => ?_
    obtain rfl : vv = (.slice A26 n26 c26) := hv
    refine EndAll.one rfl fun vv hv => ?_
    obtain rfl : vv = (.bool true) := hv
    refine EndAll.one rfl fun vv hv => ?_
    obtain rfl : vv = (.bool true) := hv
    refine EndAll.one rfl fun vv hv => ?_
    obtain rfl : vv = (.agg #[.int .u64 (ab : Int)]) := hv
    refine EndAll.one rfl fun vv hv => ?_
    obtain rfl : vv = (.slice A1 k1 c1) := hv
    refine EndAll.one rfl fun vv hv => ?_
    obtain rfl : vv = (.slice A26 n26 c26) := hv
    refine EndAll.one rfl fun vv hv => ?_
    obtain rfl : vv = (.bool true) := hv
    refine EndAll.one rfl fun vv hv => ?_
    obtain rfl : vv = (.bool true) := hv
    refine EndAll.one rfl fun vv hv => ?_
    obtain rfl : vv = (.bool true) := hv
    refine EndAll.one rfl fun vv hv => ?_
    obtain rfl : vv = (.agg #[.int .u64 (ab : Int)]) := hv
    refine EndAll.one rfl fun vv hv => ?_
    obtain rfl : vv = (.slice A2 k2 c2) := hv
    refine EndAll.one rfl fun vv hv => ?_
    obtain rfl : vv = (.slice A26 n26 c26) := hv
    refine EndAll.one rfl fun vv hv => ?_
    obtain rfl : vv = (.bool true) := hv
    refine EndAll.one rfl fun vv hv => ?_
    obtain rfl : vv = (.bool true) := hv
    refine EndAll.one rfl fun vv hv => ?_
    obtain rfl : vv = (.bool true) := hv
    refine EndAll.one rfl fun vv hv => ?_
    obtain rfl : vv = (.agg #[.int .u64 (ab : Int)]) := hv
    refine EndAll.one rfl fun vv hv => ?_
    obtain rfl : vv = (.agg #[.int .u64 (ab : Int)]) := hv
    refine EndAll.one rfl fun vv hv => ?_
    obtain rfl : vv = (.slice A26 n26 c26) := hv
    refine EndAll.one rfl fun vv hv => ?_
    obtain rfl : vv = (.slice A27 n27 c27) := hv
    refine EndAll.one rfl fun vv hv => ?_
    obtain ⟨A29, n29, c29, rfl, p29⟩ : IsP (mulp p (lcP p xs ys) (gcP p xs ys)) vv w28 := hv
    refine EndAll.one rfl fun vv hv => ?_
    obtain rfl : vv = (.agg #[.int .u64 (ab : Int)]) := hv
    refine EndAll.one rfl fun vv hv => ?_
    obtain rfl : vv = (.agg #[.int .u64 (ab : Int)]) := hv
    refine EndAll.one rfl fun vv hv => ?_
    obtain rfl : vv = (.slice A1 k1 c1) := hv
    refine EndAll.one rfl fun vv hv => ?_
    obtain rfl : vv = (.slice A2 k2 c2) := hv
    refine EndAll.one rfl fun vv hv => ?_
    obtain ⟨A30, n30, c30, rfl, p30⟩ : IsP (mulp p xs ys) vv w28 := hv
    refine EndAll.one rfl fun vv hv => ?_
    obtain ⟨A31, n31, c31, rfl, p31⟩ : IsP (mon p (mulp p xs ys)) vv w28 := hv
    refine EndAll.one rfl fun vv hv => ?_
    obtain rfl : vv = (.bool true) := hv
    refine EndAll.one rfl fun vv hv => ?_
    obtain rfl : vv = (.bool true) := hv
    refine EndAll.one rfl fun vv hv => ?_
    obtain rfl : vv = (.bool true) := hv
    refine EndAll.nil (l := []) rfl ?_
    simp only [Act.put, List.setIfInBounds_toArray, List.set_cons_zero, List.set_cons_succ]
    replace H_f := Lib.hid (H_f.out.below B28)
    replace hx := hx.below B28
    replace hy := hy.below B28
    replace hT := hT.below B28
    replace rl := rl.below B28
    replace rg := rg.below B28
    replace hW := hW.trans (B28.mono hW.size)
    clear p29 p30 p31
    clear B28
    obtain ⟨f1, f2, f3⟩ := H_f.out
    go_wp2_with fail
    clear f1 f2 f3
    exact bodyPost_ret (v := (.bool true)) (by simp [results, Tryd.results6, go_sem]) rfl ⟨rfl, hW⟩
  · skip
    go_wp2_with fail
    refine (few9_no (k := 12) hf).mono ?_
    rintro e w22 ⟨rfl, B22⟩
    replace hx := hx.below B22
    replace hy := hy.below B22
    replace hT := hT.below B22
    replace hW := hW.trans (B22.mono hW.size)
    clear B22
    go_wp2_with fail
    refine (awake9_v hT).mono ?_
    rintro e w23 ⟨rfl, B23⟩
    replace hx := hx.below B23
    replace hy := hy.below B23
    replace hT := hT.below B23
    replace hW := hW.trans (B23.mono hW.size)
    clear B23
    go_wp2_with fail
    exact bodyPost_ret (v := (.bool true)) (by simp [results, Tryd.results6, go_sem]) rfl ⟨rfl, hW⟩
end Go.Proofs.YthigedcpiglmnaaDoor
