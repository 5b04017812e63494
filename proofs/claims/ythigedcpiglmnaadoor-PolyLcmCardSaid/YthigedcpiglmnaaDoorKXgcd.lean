/-
  The walk of PolyXgcd.
-/
import Derived.Test.YthigedcpiglmnaaDoorFpT
/-! The walk of PolyXgcd. -/
namespace Go.Proofs.YthigedcpiglmnaaDoor
open Go.RowKit
set_option linter.unusedVariables false
set_option linter.unusedSimpArgs false

theorem xg_list {p : Nat} (hp : MR.Pr p) (a b : List Nat) : nrm p (addl (mulp p (xs1 p a b) (nrm p a)) (mulp p (xt1 p a b) (nrm p b))) = xg p a b := by
  have h0 := pr_pos hp
  have e : nrm p (xg p a b) = xg p a b := nrm_of h0 (nm_amul h0 [] (xgs p a b).1 (invW p (lead (xgs p a b).1)))
  rw [← e]
  refine nrm_eq ?_
  refine (Eqm.of fun x => pe_addl _ _ x).trans (Eqm.trans ?_ (xg_sum hp a b).symm)
  exact (eqm_mulp _ _ _).add (eqm_mulp _ _ _)
theorem nm_xg {p : Nat} (hp : MR.Pr p) (a b : List Nat) : Nm p (xg p a b) := nm_amul (pr_pos hp) _ _ _
theorem dv_law {p : Nat} (hp : MR.Pr p) {g a : List Nat} (hg : Nm p g) (h : Pdv p (pe g) (pe a)) : (nrm p g ≠ [] ∧ remP p (nrm p a) (nrm p g) = []) ∨ (nrm p g = [] ∧ nrm p a = []) := by
  have h0 := pr_pos hp
  rw [nrm_of h0 hg]
  have h1 := h.congr (eqm_nrm p a)
  by_cases e : g = []
  · exact .inr ⟨e, dv_zero_iff h0 (nm_nrm h0 a) (e ▸ h1)⟩
  · exact .inl ⟨e, (rem_nil_iff hp hg e).2 h1⟩
set_option maxRecDepth 100000 in
set_option maxHeartbeats 1000000 in
/-- PolyXgcd. -/
theorem xgcd9_calls {n k1 c1 k2 c2 : Nat} {A1 A2 : Option Addr} {xs ys : List Nat} {w : World} (hn : n < 256) (hx : Lv w A1 k1 c1 xs) (hy : Lv w A2 k2 c2 ys) (hT : TabHas w) :
    Calls Tryd.prog 5 #[.int .u8 (n : Int), .slice A1 k1 c1, .slice A2 k2 c2] w (BlPost true w) := by
  obtain ⟨p, hp0⟩ : ∃ p, pn (n % 12) = p := ⟨_, rfl⟩
  have hp := pn_pr (n % 12) (by omega)
  rw [hp0] at hp
  obtain ⟨ab, hab⟩ : ∃ ab, ab + 2 = p := ⟨p - 2, by have := hp.2.2; omega⟩
  have hpr := hp.1
  have h := hp.2.1
  have h2 : 2 ≤ p := hp.2.2
  have HP := Lib.hid hab
  have HP0 := Lib.hid hp0
  clear hab hp hp0
  have hW := Below.refl w.heap.size w
  go_enter Tryd.func5, Tryd.ntmps5
  go_wp2_with fail
  refine (awake9_v hT).mono ?_
  rintro e w21 ⟨rfl, B21⟩
  replace hx := hx.below B21
  replace hy := hy.below B21
  replace hT := hT.below B21
  replace hW := hW.trans (B21.mono hW.size)
  clear B21
  by_cases hf : k1 ≤ 12 ∧ k2 ≤ 12
  · skip
    go_wp2_with fail
    refine (few9_yes (k := 12) hf.1 hf.2).mono ?_
    rintro e w22 ⟨rfl, B22⟩
    replace hx := hx.below B22
    replace hy := hy.below B22
    replace hT := hT.below B22
    replace hW := hW.trans (B22.mono hW.size)
    clear B22
    obtain ⟨hb1, hb2⟩ := hf
    have lx := hx.len
    have ly := hy.len
    go_wp2_with fail
    refine (fof9_v (ab := ab) hn hT HP0.out HP.out).mono ?_
    rintro e w23 ⟨rfl, B23⟩
    replace hx := hx.below B23
    replace hy := hy.below B23
    replace hT := hT.below B23
    replace hW := hW.trans (B23.mono hW.size)
    clear B23
    go_wp2_with fail
    refine (rp_calls (p := p) hn HP0.out _).mono ?_
    rintro e w24 ⟨rfl, B24⟩
    replace hx := hx.below B24
    replace hy := hy.below B24
    replace hT := hT.below B24
    replace hW := hW.trans (B24.mono hW.size)
    clear B24
    obtain ⟨w25, hw25⟩ : ∃ xw, xw = w24.alloc (.cells #[.int .u64 (ab : Int)] 28) := ⟨_, rfl⟩
    have z25 : Below w24.heap.size w24 w25 := by rw [hw25]; exact zba _ _
    have HW25 : Hid (w24.alloc (.cells #[.int .u64 (ab : Int)] 28) = w25) := Lib.hid hw25.symm
    have lw_f : w.heap.size ≤ w24.heap.size := by have := hW.size; omega
    replace hx := hx.below z25
    replace hy := hy.below z25
    replace hT := hT.below z25
    replace hW := hW.trans (z25.mono hW.size)
    have H_f : Hid (Fb w25 w24.heap.size ab) := Lib.hid (by rw [hw25]; exact Fb.new _ _ _)
    clear z25 hw25
    have hg := gcP_is hpr xs ys
    have hgx := xg_gcP hpr xs ys
    rw [← hgx] at hg
    have HG := Lib.hid hg
    have HGX := Lib.hid hgx
    have hle := gcP_len hpr xs ys
    rw [← hgx] at hle
    have HXL := Lib.hid (xg_list hpr xs ys)
    have HSL := Lib.hid (xs_len hpr xs ys)
    have lnx := nrm_le p xs
    have lny := nrm_le p ys
    have lq := quo_le hpr (nm_nrm (pr_pos hpr) ys) (nm_xg hpr xs ys)
    have HNG : Hid (nrm p (xg p xs ys) = xg p xs ys) := Lib.hid (nrm_of (pr_pos hpr) (nm_xg hpr xs ys))
    clear hg hgx
    go_wp2_with fail
    rw [HW25.out]
    refine (xgcd9_v HP.out h hpr hx (by omega) hy (by omega)).mono ?_
    rintro e w26 ⟨A26, n26, c26, D26, m26, d26, Q26, k26, l26, rfl, ⟨rg, rs, rt⟩, B26⟩
    replace H_f := Lib.hid (H_f.out.below B26)
    replace hx := hx.below B26
    replace hy := hy.below B26
    replace hT := hT.below B26
    replace hW := hW.trans (B26.mono hW.size)
    clear B26
    have lg := rg.len
    have ls := rs.len
    have lt := rt.len
    have hsb : (xs1 p xs ys).length ≤ 100 := by
      by_cases e : nrm p ys = []
      · have := (HSL.out.1 e).1; omega
      · rcases HSL.out.2 e with h1 | h1
        · rw [h1]; simp
        · omega
    have htb : (xt1 p xs ys).length ≤ 1000 := by
      have h1 := quo_le hpr (nm_amul (pr_pos hpr) (xg p xs ys) (mulp p (nrm p (xs1 p xs ys)) (nrm p xs)) (p - 1)) (nm_nrm (pr_pos hpr) ys)
      have h2 := amul_len p (xg p xs ys) (mulp p (nrm p (xs1 p xs ys)) (nrm p xs)) (p - 1)
      have h3 := mulp_le p (nrm p (xs1 p xs ys)) (nrm p xs)
      have h4 := nrm_le p (xs1 p xs ys)
      have h5 : (xt1 p xs ys).length ≤ (amul p (xg p xs ys) (mulp p (nrm p (xs1 p xs ys)) (nrm p xs)) (p - 1)).length := h1
      omega
    obtain ⟨f1, f2, f3⟩ := H_f.out
    go_wp2_with fail
    clear f1 f2 f3
    refine (rnorm9_v h2 h hx (by omega)).mono ?_
    rintro e w27 ⟨A27, n27, c27, rfl, r1, B27⟩
    replace H_f := Lib.hid (H_f.out.below B27)
    replace hx := hx.below B27
    replace hy := hy.below B27
    replace hT := hT.below B27
    replace rg := rg.below B27
    replace rs := rs.below B27
    replace rt := rt.below B27
    replace hW := hW.trans (B27.mono hW.size)
    clear B27
    have l1 := r1.len
    obtain ⟨f1, f2, f3⟩ := H_f.out
    go_wp2_with fail
    clear f1 f2 f3
    refine (rmul9_v h2 h rs (by omega) r1 (by omega)).mono ?_
    rintro e w28 ⟨A28, n28, c28, rfl, r2, B28⟩
    replace H_f := Lib.hid (H_f.out.below B28)
    replace hx := hx.below B28
    replace hy := hy.below B28
    replace hT := hT.below B28
    replace rg := rg.below B28
    replace rs := rs.below B28
    replace rt := rt.below B28
    replace r1 := r1.below B28
    replace hW := hW.trans (B28.mono hW.size)
    clear B28
    have l2 := r2.len
    have m2 := mulp_le p (xs1 p xs ys) (nrm p xs)
    obtain ⟨f1, f2, f3⟩ := H_f.out
    go_wp2_with fail
    clear f1 f2 f3
    refine (rnorm9_v h2 h hy (by omega)).mono ?_
    rintro e w29 ⟨A29, n29, c29, rfl, r3, B29⟩
    replace H_f := Lib.hid (H_f.out.below B29)
    replace hx := hx.below B29
    replace hy := hy.below B29
    replace hT := hT.below B29
    replace rg := rg.below B29
    replace rs := rs.below B29
    replace rt := rt.below B29
    replace r1 := r1.below B29
    replace r2 := r2.below B29
    replace hW := hW.trans (B29.mono hW.size)
    clear B29
    have l3 := r3.len
    obtain ⟨f1, f2, f3⟩ := H_f.out
    go_wp2_with fail
    clear f1 f2 f3
    refine (rmul9_v h2 h rt (by omega) r3 (by omega)).mono ?_
    rintro e w30 ⟨A30, n30, c30, rfl, r4, B30⟩
    replace H_f := Lib.hid (H_f.out.below B30)
    replace hx := hx.below B30
    replace hy := hy.below B30
    replace hT := hT.below B30
    replace rg := rg.below B30
    replace rs := rs.below B30
    replace rt := rt.below B30
    replace r1 := r1.below B30
    replace r2 := r2.below B30
    replace r3 := r3.below B30
    replace hW := hW.trans (B30.mono hW.size)
    clear B30
    have l4 := r4.len
    have m4 := mulp_le p (xt1 p xs ys) (nrm p ys)
    obtain ⟨f1, f2, f3⟩ := H_f.out
    go_wp2_with fail
    clear f1 f2 f3
    refine (radd9_v h2 h r2 (by omega) r4 (by omega)).mono ?_
    rintro e w31 ⟨A31, n31, c31, rfl, r5, B31⟩
    replace H_f := Lib.hid (H_f.out.below B31)
    replace hx := hx.below B31
    replace hy := hy.below B31
    replace hT := hT.below B31
    replace rg := rg.below B31
    replace rs := rs.below B31
    replace rt := rt.below B31
    replace r1 := r1.below B31
    replace r2 := r2.below B31
    replace r3 := r3.below B31
    replace r4 := r4.below B31
    replace hW := hW.trans (B31.mono hW.size)
    clear B31
    rw [HXL.out] at r5
    clear r1 r2 r3 r4 l1 l2 l3 l4 m2 m4
    obtain ⟨f1, f2, f3⟩ := H_f.out
    go_wp2_with fail
    clear f1 f2 f3
    refine (is9_v (b := true) rg r5 ⟨fun _ => rfl, fun _ => rfl⟩).mono ?_
    rintro e w32 ⟨rfl, B32⟩
    replace H_f := Lib.hid (H_f.out.below B32)
    replace hx := hx.below B32
    replace hy := hy.below B32
    replace hT := hT.below B32
    replace rg := rg.below B32
    replace rs := rs.below B32
    replace rt := rt.below B32
    replace r5 := r5.below B32
    replace hW := hW.trans (B32.mono hW.size)
    clear B32
    clear r5
    obtain ⟨f1, f2, f3⟩ := H_f.out
    go_wp2_with fail
    clear f1 f2 f3
    refine (rmonic_v (b := true) rg ⟨fun _ => HG.out.2.1, fun _ => rfl⟩).mono ?_
    rintro e w33 ⟨rfl, B33⟩
    replace H_f := Lib.hid (H_f.out.below B33)
    replace hx := hx.below B33
    replace hy := hy.below B33
    replace hT := hT.below B33
    replace rg := rg.below B33
    replace rs := rs.below B33
    replace rt := rt.below B33
    replace hW := hW.trans (B33.mono hW.size)
    clear B33
    obtain ⟨f1, f2, f3⟩ := H_f.out
    go_wp2_with fail
    clear f1 f2 f3
    refine (gcd9_v HP.out h hpr hx (by omega) hy (by omega)).mono ?_
    rintro e w34 ⟨A34, n34, c34, rfl, r6, B34⟩
    replace H_f := Lib.hid (H_f.out.below B34)
    replace hx := hx.below B34
    replace hy := hy.below B34
    replace hT := hT.below B34
    replace rg := rg.below B34
    replace rs := rs.below B34
    replace rt := rt.below B34
    replace hW := hW.trans (B34.mono hW.size)
    clear B34
    rw [← HGX.out] at r6
    obtain ⟨f1, f2, f3⟩ := H_f.out
    go_wp2_with fail
    clear f1 f2 f3
    refine (is9_v (b := true) r6 rg ⟨fun _ => rfl, fun _ => rfl⟩).mono ?_
    rintro e w35 ⟨rfl, B35⟩
    replace H_f := Lib.hid (H_f.out.below B35)
    replace hx := hx.below B35
    replace hy := hy.below B35
    replace hT := hT.below B35
    replace rg := rg.below B35
    replace rs := rs.below B35
    replace rt := rt.below B35
    replace r6 := r6.below B35
    replace hW := hW.trans (B35.mono hW.size)
    clear B35
    clear r6
    obtain ⟨f1, f2, f3⟩ := H_f.out
    go_wp2_with fail
    clear f1 f2 f3
    refine (divides_v (b := true) HP.out h hpr rg (by omega) hx (by omega) ⟨fun _ => dv_law hpr HG.out.1 HG.out.2.2.1, fun _ => rfl⟩).mono ?_
    rintro e w36 ⟨rfl, B36⟩
    replace H_f := Lib.hid (H_f.out.below B36)
    replace hx := hx.below B36
    replace hy := hy.below B36
    replace hT := hT.below B36
    replace rg := rg.below B36
    replace rs := rs.below B36
    replace rt := rt.below B36
    replace hW := hW.trans (B36.mono hW.size)
    clear B36
    obtain ⟨f1, f2, f3⟩ := H_f.out
    go_wp2_with fail
    clear f1 f2 f3
    refine (divides_v (b := true) HP.out h hpr rg (by omega) hy (by omega) ⟨fun _ => dv_law hpr HG.out.1 HG.out.2.2.2.1, fun _ => rfl⟩).mono ?_
    rintro e w37 ⟨rfl, B37⟩
    replace H_f := Lib.hid (H_f.out.below B37)
    replace hx := hx.below B37
    replace hy := hy.below B37
    replace hT := hT.below B37
    replace rg := rg.below B37
    replace rs := rs.below B37
    replace rt := rt.below B37
    replace hW := hW.trans (B37.mono hW.size)
    clear B37
    obtain ⟨Lb, hLb⟩ : ∃ L : Nat, (nrm p ys).length = L := ⟨_, rfl⟩
    have HLb := Lib.hid hLb
    clear hLb
    obtain ⟨f1, f2, f3⟩ := H_f.out
    go_wp2_with fail
    clear f1 f2 f3
    refine (deg_v HP.out h hy).mono ?_
    rintro e w38 ⟨rfl, B38⟩
    replace H_f := Lib.hid (H_f.out.below B38)
    replace hx := hx.below B38
    replace hy := hy.below B38
    replace hT := hT.below B38
    replace rg := rg.below B38
    replace rs := rs.below B38
    replace rt := rt.below B38
    replace hW := hW.trans (B38.mono hW.size)
    clear B38
    rw [HLb.out]
    by_cases y0 : nrm p ys = []
    · obtain rfl : Lb = 0 := by rw [← HLb.out, y0]; rfl
      have hs1 := (HSL.out.1 y0).1
      have ht1 := (HSL.out.1 y0).2
      rw [ht1] at lt
      obtain rfl : k26 = 0 := lt.symm
      have hd1 : decide ((m26 : Int) ≤ 1) = true := decide_eq_true (by omega)
      have hdd : decide (((0 : Nat) : Int) - 1 < 0) = true := by decide
      clear y0 hs1 ht1 lt rt
      obtain ⟨f1, f2, f3⟩ := H_f.out
      go_wp2_with fail
      clear f1 f2 f3
      exact bodyPost_ret (v := (.bool true)) (by simp [results, Tryd.results5, go_sem, hd1]) rfl ⟨rfl, hW⟩
    · have hl0 := List.length_pos_iff.2 y0
      rw [HLb.out] at hl0
      have hdd : decide ((Lb : Int) - 1 < 0) = false := decide_eq_false (by omega)
      have hs2 := HSL.out.2 y0
      obtain ⟨q, hq⟩ : ∃ q : Bool, decide (nrm p (xg p xs ys) ≠ []) = q := ⟨_, rfl⟩
      have HQ : Hid (q = true ↔ nrm p (xg p xs ys) ≠ []) := Lib.hid (by rw [← hq]; exact decide_eq_true_iff)
      have HS2 := Lib.hid hs2
      clear hq y0 hs2
      obtain ⟨f1, f2, f3⟩ := H_f.out
      go_wp2_with fail
      clear f1 f2 f3
      refine (divmod_v HP.out h hy (by omega) rg (by omega) hpr HQ.out).mono ?_
      rintro e w39 ⟨A39, n39, c39, D39, m39, d39, rfl, ⟨rq, rr⟩, B39⟩
      replace H_f := Lib.hid (H_f.out.below B39)
      replace hx := hx.below B39
      replace hy := hy.below B39
      replace hT := hT.below B39
      replace rg := rg.below B39
      replace rs := rs.below B39
      replace rt := rt.below B39
      replace hW := hW.trans (B39.mono hW.size)
      clear B39
      have lqq := rq.len
      rw [HNG.out] at lqq
      have hs2 := HS2.out
      clear rq rr HS2
      by_cases hsl : m26 < n39
      · have hd2 : decide ((m26 : Int) < (n39 : Int)) = true := decide_eq_true (by omega)
        clear hs2
        obtain ⟨f1, f2, f3⟩ := H_f.out
        go_wp2_with fail
        clear f1 f2 f3
        exact bodyPost_ret (v := (.bool true)) (by simp [results, Tryd.results5, go_sem]) rfl ⟨rfl, hW⟩
      · have hd2 : decide ((m26 : Int) < (n39 : Int)) = false := decide_eq_false (by omega)
        obtain rfl : m26 = 0 := by
          rcases hs2 with h1 | h1
          · rw [h1] at ls; exact ls.symm
          · omega
        clear hs2
        obtain ⟨f1, f2, f3⟩ := H_f.out
        go_wp2_with fail
        clear f1 f2 f3
        exact bodyPost_ret (v := (.bool true)) (by simp [results, Tryd.results5, go_sem]) rfl ⟨rfl, hW⟩
  · skip
    go_wp2_with fail
    refine (few9_no (k := 12) hf).mono ?_
    rintro e w22 ⟨rfl, B22⟩
    replace hx := hx.below B22
    replace hy := hy.below B22
    replace hT := hT.below B22
    replace hW := hW.trans (B22.mono hW.size)
    clear B22
    go_wp2_with fail
    refine (awake9_v hT).mono ?_
    rintro e w23 ⟨rfl, B23⟩
    replace hx := hx.below B23
    replace hy := hy.below B23
    replace hT := hT.below B23
    replace hW := hW.trans (B23.mono hW.size)
    clear B23
    go_wp2_with fail
    exact bodyPost_ret (v := (.bool true)) (by simp [results, Tryd.results5, go_sem]) rfl ⟨rfl, hW⟩
end Go.Proofs.YthigedcpiglmnaaDoor
