/-
  The walk of PolyDivides.
-/
import Derived.Test.YthigedcpiglmnaaDoorFpT
/-! The walk of PolyDivides. -/
namespace Go.Proofs.YthigedcpiglmnaaDoor
open Go.RowKit
set_option linter.unusedVariables false
set_option linter.unusedSimpArgs false

theorem div_back {p : Nat} (hp : MR.Pr p) (a b : List Nat) (b0 : nrm p b ≠ []) : nrm p (addl (mulp p (quoP p (nrm p a) (nrm p b)) (nrm p b)) (remP p (nrm p a) (nrm p b))) = nrm p a := by
  have sp := dm_spec hp (a := nrm p a) (nm_nrm (pr_pos hp) b) b0
  have e : nrm p (addl (mulp p (quoP p (nrm p a) (nrm p b)) (nrm p b)) (remP p (nrm p a) (nrm p b))) = nrm p (nrm p a) := by
    refine nrm_eq ?_
    refine (Eqm.of fun x => pe_addl _ _ x).trans (Eqm.trans ?_ sp.eq.symm)
    exact (eqm_mulp _ _ _).add (Eqm.refl _ _)
  rw [e, nrm_nrm (pr_pos hp)]
set_option maxRecDepth 100000 in
set_option maxHeartbeats 1000000 in
/-- PolyDivides. -/
theorem divides9_calls {n k1 c1 k2 c2 : Nat} {A1 A2 : Option Addr} {xs ys : List Nat} {w : World} (hn : n < 256) (hx : Lv w A1 k1 c1 xs) (hy : Lv w A2 k2 c2 ys) (hT : TabHas w) :
    Calls Tryd.prog 4 #[.int .u8 (n : Int), .slice A1 k1 c1, .slice A2 k2 c2] w (BlPost true w) := by
  obtain ⟨p, hp0⟩ : ∃ p, pn (n % 12) = p := ⟨_, rfl⟩
  have hp := pn_pr (n % 12) (by omega)
  rw [hp0] at hp
  obtain ⟨ab, hab⟩ : ∃ ab, ab + 2 = p := ⟨p - 2, by have := hp.2.2; omega⟩
  have hpr := hp.1
  have h := hp.2.1
  have h2 : 2 ≤ p := hp.2.2
  have HP := Lib.hid hab
  have HP0 := Lib.hid hp0
  clear hab hp hp0
  have hW := Below.refl w.heap.size w
  go_enter Tryd.func4, Tryd.ntmps4
  go_wp2_with fail
  refine (awake9_v hT).mono ?_
  rintro e w21 ⟨rfl, B21⟩
  replace hx := hx.below B21
  replace hy := hy.below B21
  replace hT := hT.below B21
  replace hW := hW.trans (B21.mono hW.size)
  clear B21
  by_cases hf : k1 ≤ 20 ∧ k2 ≤ 20
  · skip
    go_wp2_with fail
    refine (few9_yes (k := 20) hf.1 hf.2).mono ?_
    rintro e w22 ⟨rfl, B22⟩
    replace hx := hx.below B22
    replace hy := hy.below B22
    replace hT := hT.below B22
    replace hW := hW.trans (B22.mono hW.size)
    clear B22
    obtain ⟨hb1, hb2⟩ := hf
    have lx := hx.len
    have ly := hy.len
    go_wp2_with fail
    refine (fof9_v (ab := ab) hn hT HP0.out HP.out).mono ?_
    rintro e w23 ⟨rfl, B23⟩
    replace hx := hx.below B23
    replace hy := hy.below B23
    replace hT := hT.below B23
    replace hW := hW.trans (B23.mono hW.size)
    clear B23
    go_wp2_with fail
    refine (rp_calls (p := p) hn HP0.out _).mono ?_
    rintro e w24 ⟨rfl, B24⟩
    replace hx := hx.below B24
    replace hy := hy.below B24
    replace hT := hT.below B24
    replace hW := hW.trans (B24.mono hW.size)
    clear B24
    obtain ⟨w25, hw25⟩ : ∃ xw, xw = w24.alloc (.cells #[.int .u64 (ab : Int)] 28) := ⟨_, rfl⟩
    have z25 : Below w24.heap.size w24 w25 := by rw [hw25]; exact zba _ _
    have HW25 : Hid (w24.alloc (.cells #[.int .u64 (ab : Int)] 28) = w25) := Lib.hid hw25.symm
    have lw_f : w.heap.size ≤ w24.heap.size := by have := hW.size; omega
    replace hx := hx.below z25
    replace hy := hy.below z25
    replace hT := hT.below z25
    replace hW := hW.trans (z25.mono hW.size)
    have H_f : Hid (Fb w25 w24.heap.size ab) := Lib.hid (by rw [hw25]; exact Fb.new _ _ _)
    clear z25 hw25
    obtain ⟨q, hq⟩ : ∃ q : Bool, decide (nrm p ys ≠ []) = q := ⟨_, rfl⟩
    have HQ : Hid (q = true ↔ nrm p ys ≠ []) := Lib.hid (by rw [← hq]; exact decide_eq_true_iff)
    clear hq
    go_wp2_with fail
    rw [HW25.out]
    refine (divmod_v HP.out h hx (by omega) hy (by omega) hpr HQ.out).mono ?_
    rintro e w26 ⟨A26, n26, c26, D26, m26, d26, rfl, ⟨rq, rr⟩, B26⟩
    replace H_f := Lib.hid (H_f.out.below B26)
    replace hx := hx.below B26
    replace hy := hy.below B26
    replace hT := hT.below B26
    replace hW := hW.trans (B26.mono hW.size)
    clear B26
    obtain ⟨f1, f2, f3⟩ := H_f.out
    go_wp2_with fail
    clear f1 f2 f3
    refine (rnorm9_v h2 h hy (by omega)).mono ?_
    rintro e w27 ⟨A27, n27, c27, rfl, rz, B27⟩
    replace H_f := Lib.hid (H_f.out.below B27)
    replace hx := hx.below B27
    replace hy := hy.below B27
    replace hT := hT.below B27
    replace rq := rq.below B27
    replace rr := rr.below B27
    replace hW := hW.trans (B27.mono hW.size)
    clear B27
    have hzl := rz.len
    cases q
    · have y0 : nrm p ys = [] := Classical.byContradiction fun e => absurd (HQ.out.2 e) (by decide)
      have hq0 : quoP p (nrm p xs) (nrm p ys) = [] ∧ remP p (nrm p xs) (nrm p ys) = [] := by rw [y0]; exact dmp_none _
      rw [hq0.1] at rq
      rw [hq0.2] at rr
      rw [y0] at hzl
      obtain rfl : n26 = 0 := rq.len.symm
      obtain rfl : m26 = 0 := rr.len.symm
      obtain rfl : n27 = 0 := hzl.symm
      clear hq0 rq rr rz y0
      obtain ⟨f1, f2, f3⟩ := H_f.out
      go_wp2_with fail
      clear f1 f2 f3
      exact bodyPost_ret (v := (.bool true)) (by simp [results, Tryd.results4, go_sem]) rfl ⟨rfl, hW⟩
    · have y0 : nrm p ys ≠ [] := HQ.out.1 rfl
      have sp := dm_spec hpr (a := nrm p xs) (nm_nrm (pr_pos hpr) ys) y0
      have HSP := Lib.hid sp
      have hnz : ((n27 : Int) == 0) = false := by have := List.length_pos_iff.2 y0; rw [beq_eq_false_iff_ne]; omega
      have lq := quo_le hpr (nm_nrm (pr_pos hpr) xs) (nm_nrm (pr_pos hpr) ys)
      have lx2 := nrm_le p xs
      have ly2 := nrm_le p ys
      have lrr := sp.lt
      have hlq := rq.len
      have hlr := rr.len
      have hml : (mulp p (quoP p (nrm p xs) (nrm p ys)) (nrm p ys)).length ≤ 1000 := by have := mulp_le p (quoP p (nrm p xs) (nrm p ys)) (nrm p ys); omega
      have hlt9 : (m26 : Int) < (n27 : Int) := by omega
      have hd9 : decide ((m26 : Int) < (n27 : Int)) = true := decide_eq_true hlt9
      have HBK := Lib.hid (div_back hpr xs ys y0)
      clear sp lrr
      obtain ⟨f1, f2, f3⟩ := H_f.out
      go_wp2_with fail
      clear f1 f2 f3
      refine (rmul9_v h2 h rq (by omega) rz (by omega)).mono ?_
      rintro e w28 ⟨A28, n28, c28, rfl, rm, B28⟩
      replace H_f := Lib.hid (H_f.out.below B28)
      replace hx := hx.below B28
      replace hy := hy.below B28
      replace hT := hT.below B28
      replace rq := rq.below B28
      replace rr := rr.below B28
      replace rz := rz.below B28
      replace hW := hW.trans (B28.mono hW.size)
      clear B28
      have hlm := rm.len
      obtain ⟨f1, f2, f3⟩ := H_f.out
      go_wp2_with fail
      clear f1 f2 f3
      refine (radd9_v h2 h rm (by omega) rr (by omega)).mono ?_
      rintro e w29 ⟨A29, n29, c29, rfl, rb, B29⟩
      replace H_f := Lib.hid (H_f.out.below B29)
      replace hx := hx.below B29
      replace hy := hy.below B29
      replace hT := hT.below B29
      replace rq := rq.below B29
      replace rr := rr.below B29
      replace rz := rz.below B29
      replace rm := rm.below B29
      replace hW := hW.trans (B29.mono hW.size)
      clear B29
      rw [HBK.out] at rb
      obtain ⟨f1, f2, f3⟩ := H_f.out
      go_wp2_with fail
      clear f1 f2 f3
      refine (rnorm9_v h2 h rq (by omega)).mono ?_
      rintro e w30 ⟨A30, n30, c30, rfl, r1, B30⟩
      replace H_f := Lib.hid (H_f.out.below B30)
      replace hx := hx.below B30
      replace hy := hy.below B30
      replace hT := hT.below B30
      replace rq := rq.below B30
      replace rr := rr.below B30
      replace rz := rz.below B30
      replace rm := rm.below B30
      replace rb := rb.below B30
      replace hW := hW.trans (B30.mono hW.size)
      clear B30
      rw [nrm_of (pr_pos hpr) HSP.out.nq] at r1
      obtain ⟨f1, f2, f3⟩ := H_f.out
      go_wp2_with fail
      clear f1 f2 f3
      refine (is9_v (b := true) rq r1 ⟨fun _ => rfl, fun _ => rfl⟩).mono ?_
      rintro e w31 ⟨rfl, B31⟩
      replace H_f := Lib.hid (H_f.out.below B31)
      replace hx := hx.below B31
      replace hy := hy.below B31
      replace hT := hT.below B31
      replace rq := rq.below B31
      replace rr := rr.below B31
      replace rz := rz.below B31
      replace rm := rm.below B31
      replace rb := rb.below B31
      replace r1 := r1.below B31
      replace hW := hW.trans (B31.mono hW.size)
      clear B31
      obtain ⟨f1, f2, f3⟩ := H_f.out
      go_wp2_with fail
      clear f1 f2 f3
      refine (rnorm9_v h2 h rr (by omega)).mono ?_
      rintro e w32 ⟨A32, n32, c32, rfl, r2, B32⟩
      replace H_f := Lib.hid (H_f.out.below B32)
      replace hx := hx.below B32
      replace hy := hy.below B32
      replace hT := hT.below B32
      replace rq := rq.below B32
      replace rr := rr.below B32
      replace rz := rz.below B32
      replace rm := rm.below B32
      replace rb := rb.below B32
      replace r1 := r1.below B32
      replace hW := hW.trans (B32.mono hW.size)
      clear B32
      rw [nrm_of (pr_pos hpr) HSP.out.nr] at r2
      obtain ⟨f1, f2, f3⟩ := H_f.out
      go_wp2_with fail
      clear f1 f2 f3
      refine (is9_v (b := true) rr r2 ⟨fun _ => rfl, fun _ => rfl⟩).mono ?_
      rintro e w33 ⟨rfl, B33⟩
      replace H_f := Lib.hid (H_f.out.below B33)
      replace hx := hx.below B33
      replace hy := hy.below B33
      replace hT := hT.below B33
      replace rq := rq.below B33
      replace rr := rr.below B33
      replace rz := rz.below B33
      replace rm := rm.below B33
      replace rb := rb.below B33
      replace r1 := r1.below B33
      replace r2 := r2.below B33
      replace hW := hW.trans (B33.mono hW.size)
      clear B33
      obtain ⟨f1, f2, f3⟩ := H_f.out
      go_wp2_with fail
      clear f1 f2 f3
      refine (rnorm9_v h2 h hx (by omega)).mono ?_
      rintro e w34 ⟨A34, n34, c34, rfl, r3, B34⟩
      replace H_f := Lib.hid (H_f.out.below B34)
      replace hx := hx.below B34
      replace hy := hy.below B34
      replace hT := hT.below B34
      replace rq := rq.below B34
      replace rr := rr.below B34
      replace rz := rz.below B34
      replace rm := rm.below B34
      replace rb := rb.below B34
      replace r1 := r1.below B34
      replace r2 := r2.below B34
      replace hW := hW.trans (B34.mono hW.size)
      clear B34
      obtain ⟨f1, f2, f3⟩ := H_f.out
      go_wp2_with fail
      clear f1 f2 f3
      refine (rsame_v (b := true) rb r3 ⟨fun _ => rfl, fun _ => rfl⟩).mono ?_
      rintro e w35 ⟨rfl, B35⟩
      replace H_f := Lib.hid (H_f.out.below B35)
      replace hx := hx.below B35
      replace hy := hy.below B35
      replace hT := hT.below B35
      replace rq := rq.below B35
      replace rr := rr.below B35
      replace rz := rz.below B35
      replace rm := rm.below B35
      replace rb := rb.below B35
      replace r1 := r1.below B35
      replace r2 := r2.below B35
      replace r3 := r3.below B35
      replace hW := hW.trans (B35.mono hW.size)
      clear B35
      obtain ⟨f1, f2, f3⟩ := H_f.out
      go_wp2_with fail
      clear f1 f2 f3
      exact bodyPost_ret (v := (.bool true)) (by simp [results, Tryd.results4, go_sem]) rfl ⟨rfl, hW⟩
  · skip
    go_wp2_with fail
    refine (few9_no (k := 20) hf).mono ?_
    rintro e w22 ⟨rfl, B22⟩
    replace hx := hx.below B22
    replace hy := hy.below B22
    replace hT := hT.below B22
    replace hW := hW.trans (B22.mono hW.size)
    clear B22
    go_wp2_with fail
    refine (awake9_v hT).mono ?_
    rintro e w23 ⟨rfl, B23⟩
    replace hx := hx.below B23
    replace hy := hy.below B23
    replace hT := hT.below B23
    replace hW := hW.trans (B23.mono hW.size)
    clear B23
    go_wp2_with fail
    exact bodyPost_ret (v := (.bool true)) (by simp [results, Tryd.results4, go_sem]) rfl ⟨rfl, hW⟩
end Go.Proofs.YthigedcpiglmnaaDoor
