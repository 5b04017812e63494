/-
  BarK
-/
import Derived.Test.YtmdheeahameonaaPk32
import Derived.Test.YtmdheeahameonaaPk34

/-! What the laws of layer 12 share. -/
namespace Go.Proofs.Ytmdheeahameonaa
open Go.RowKit
set_option linter.unusedVariables false
set_option linter.unusedSimpArgs false

theorem Mt.fput {q : Bool} {w0 w : World} {A B : Option Addr} {r c n d k g m e : Nat} {s' t : Bool} {A' : Option Addr} {n' c' : Nat} {F : Nat → Nat → Int} (h : Mt q w0 r c A n d k F) (hb : Below w0.heap.size w0 w) (hg : w0.heap.size ≤ g) (b : Bx w g 30 [.bool t, .slice B m e]) : Mt q (Go.Proofs.Ytmdheeahameonaa.zput w g s' A' n' c') r c A n d k F :=
  ⟨(h.zl.below hb).gro0 (fun h0 ad e he => by
    obtain ⟨ad', e', hl, -⟩ := h.zl.at' h0
    rw [e] at e'; cases e'
    omega) (b.now (by simp)) (zput_gro _ _ _ _ _ _), h.hr, h.hc⟩
/-- Det, whatever it is of. -/
theorem det_no' {r c : Int} {n d K : Nat} {A : Option Addr} {w : World} (h : (fmd r c n && decide (r = c)) = false) : Calls Try.prog 9 #[.agg #[.int .i64 r, .int .i64 c, .slice A n d]] w (RetK (kT (kC 0 K) (.k (.int .i64 2))) w) :=
  (det_no h).mono fun e w' h => h.mono fun v w2 hv => by
    obtain rfl : v = _ := hv
    exact ⟨_, _, rfl, ⟨_, _, _, _, rfl, Zc.nought w2, Nat.zero_le _⟩, rfl⟩
set_option maxRecDepth 100000 in
/-- The law's square. -/
theorem lsq_q {r c : Int} {A : Option Addr} {n d : Nat} {b : Bool} (hb : (fmd r c n && decide (r = c)) = b) (w : World) : Calls Try.prog 10 #[.agg #[.int .i64 r, .int .i64 c, .slice A n d]] w (RetK (.k (.bool b)) w) := by
  obtain ⟨t1, h1⟩ : ∃ t, fmd r c n = t := ⟨_, rfl⟩
  obtain ⟨t2, h2⟩ : ∃ t, decide (r = c) = t := ⟨_, rfl⟩
  have hb' : b = (t1 && t2) := by rw [← hb, h1, h2]
  have hbb := Lib.hid hb'
  obtain ⟨w1, hw1, b1, z1, s1⟩ := boxes1 w 24 [.int .i64 r, .int .i64 c, .slice A n d]
  have HW := Lib.hid hw1
  have HZ := Lib.hid z1
  have h1_ := Lib.hid h1
  have h2_ := Lib.hid h2
  clear hw1 z1 h1 h2 s1 hb hb'
  go_enter Try.func10, Try.ntmps10
  go_upto_region 1 with fail
  rw [HW.out]
  cases t1
  · refine Run.start 10 ?_
    refine .ld .o (ldM b1 0) ?_
    refine .c1 (.i 0) (x := .k (.bool false)) (by rintro u w2 hB rfl; exact rformed_q h1_.out w2) ?_
    refine .mv (.i 1) ?_
    refine .no ?_
    refine .no ?_
    refine .no ?_
    refine .no ?_
    refine .no ?_
    refine .pk (.i 2) .o false ?_
    refine .mv (.i 8) ?_
    refine .donep [some 3, some 4, some 5, some 6, some 7, some 8, some 9, some 10, some 11, some 2] ?_
    intro w2 B2
    change Shut (wpList _ _ _ [] _ _)
    refine ⟨?_⟩
    simp only [Act.put, List.setIfInBounds_toArray, List.set_cons_zero, List.set_cons_succ]
    cases hbb.out
    go_wp2_with fail
    exact bodyPost_ret (v := .bool false) (by simp [results, Try.results10, go_sem]) rfl (ret_k rfl (zup HZ.out B2))
  · refine Run.start 10 ?_
    refine .ld .o (ldM b1 0) ?_
    refine .c1 (.i 0) (x := .k (.bool true)) (by rintro u w2 hB rfl; exact rformed_q h1_.out w2) ?_
    refine .mv (.i 1) ?_
    refine .fa .o (fM0 0) ?_
    refine .ld (.i 3) (ldInt b1 0) ?_
    refine .fa .o (fM1 1) ?_
    refine .ld (.i 5) (ldInt b1 1) ?_
    refine .two (.i 4) (.i 6) (opEq h2_.out) ?_
    refine .pk (.i 2) (.i 7) true ?_
    refine .mv (.i 8) ?_
    refine .donep [some 3, some 4, some 5, some 6, some 7, some 8, some 9, some 10, some 11, some 2] ?_
    intro w2 B2
    change Shut (wpList _ _ _ [] _ _)
    refine ⟨?_⟩
    simp only [Act.put, List.setIfInBounds_toArray, List.set_cons_zero, List.set_cons_succ]
    cases hbb.out
    go_wp2_with fail
    exact bodyPost_ret (v := .bool t2) (by simp [results, Try.results10, go_sem]) rfl (ret_k rfl (zup HZ.out B2))
set_option maxRecDepth 100000 in
set_option maxHeartbeats 1000000 in
/-- The law's awake. -/
theorem awake12_q (w : World) : Calls Try.prog 7 #[] w (RetK (.k (.bool true)) w) := by
  have B0 := Below.refl w.heap.size w
  go_enter Try.func7, Try.ntmps7
  go_upto_region 1 with fail
  refine Run.start 6 ?_
  refine .bsJ4 .o .o .o .o (x := 1) (y := 2) (z := 3) (u := 4) (by decide) ?_
  refine .c3 .o .o (.i 0) (x := kT (kM true 2 2 1 (fun i j => ([1, 2, 3, 4] : List Int).getD (i * 2 + j) 0)) (.k (.int .i64 0))) (by rintro u v x w2 hB rfl rfl ⟨g, rfl, hl⟩; exact mof_yes (r := 2) (c := 2) hl rfl (by decide) (by decide)) ?_
  refine .mf (.i 1) ?_
  refine .ex (.i 2) 0 kT_0 ?_
  refine .ex (.i 2) 1 kT_1 ?_
  refine .al ?_
  refine .donep [some 6, some 7, some 5, some 8, some 9, some 1] ?_
  intro w2 B2
  rintro v0 -
  rintro v1 -
  rintro v2 -
  rintro v3 ⟨A1, n1, d1, rfl, m1⟩
  rintro g1 hg1 hl1 hc1 -
  change Shut (wpList _ _ _ [_, _] _ _)
  refine ⟨?_⟩
  simp only [Act.put, List.setIfInBounds_toArray, List.set_cons_zero, List.set_cons_succ]
  have b1 := zeroM hc1
  replace B0 := zup B0 B2
  clear B2 hc1
  obtain ⟨w3, hw3⟩ : ∃ x, mput w2 g1 2 2 A1 n1 d1 = x := ⟨_, rfl⟩
  obtain ⟨f0_, f1_, f2_, f3_, f4_, f5_, f6_⟩ := b1.m3
  replace m1 := m1.put (r' := 2) (c' := 2) (C := A1) (n' := n1) (d' := d1) b1
  rw [hw3] at m1
  replace B0 := below_mput (g := g1) (r := 2) (c := 2) (A := A1) (n := n1) (d := d1) B0 (by omega)
  rw [hw3] at B0
  replace b1 := b1.mp (g := g1) (r := 2) (c := 2) (A := A1) (n := n1) (d := d1)
  rw [hw3] at b1
  have Hw3 := Lib.hid hw3
  unfold mput at Hw3
  clear hw3
  go_upto_region 2 with fail
  rw [Hw3.out]
  clear f0_ f1_ f2_ f3_ f4_ f5_ f6_ Hw3
  have hs0 := B0.size
  refine Run.start 6 ?_
  refine .ld .o (ldM b1 0) ?_
  refine .c1 (.i 0) (x := kT (kC (-2) 7) (.k (.int .i64 0))) (by rintro u w2 hB rfl; exact det_yes (r := 2) (m1.below hB) (by decide) (by decide)) ?_
  refine .mf (.i 1) ?_
  refine .ex (.i 2) 0 kT_0 ?_
  refine .ex (.i 2) 1 kT_1 ?_
  refine .al ?_
  refine .donep [some 11, some 12, some 10, some 13, some 14, some 3] ?_
  intro w4 B4
  rintro v1 -
  rintro v2 -
  rintro v3 ⟨s3, A3, n3, c3, rfl, z3, k3⟩
  rintro g3 hg3 hl3 hc3 -
  change Shut (wpList _ _ _ [_, _] _ _)
  refine ⟨?_⟩
  simp only [Act.put, List.setIfInBounds_toArray, List.set_cons_zero, List.set_cons_succ]
  have b3 := zeroZ (T := 0) hc3
  have hs3 := B0.size
  replace B0 := zup B0 B4
  clear B4 hc3 b1 m1
  obtain ⟨w5, hw5⟩ : ∃ x, zput w4 g3 s3 A3 n3 c3 = x := ⟨_, rfl⟩
  obtain ⟨f1_, f2_, f3_, f4_, f5_⟩ := Ib.entry b3
  replace z3 := z3.zp (s' := s3) (A' := A3) (n' := n3) (c' := c3) b3
  rw [hw5] at z3
  replace B0 := below_put (g := g3) (s := s3) (A := A3) (n := n3) (c := c3) B0 (by omega)
  rw [hw5] at B0
  replace b3 := b3.zp (s := s3) (A := A3) (n := n3) (c := c3)
  rw [hw5] at b3
  have Hw5 := Lib.hid hw5
  unfold zput at Hw5
  clear hw5
  go_upto_region 3 with fail
  rw [Hw5.out]
  clear f1_ f2_ f3_ f4_ f5_ Hw5
  refine Run.start 13 ?_
  refine .mv .o ?_
  refine .two (.i 0) .o (opEq (by decide : decide ((0 : Int) = 0) = true)) ?_
  refine .mv (.i 1) ?_
  refine .ld .o (ldZ b3 0) ?_
  refine .c1 .o (x := kC (-2) 1) (by rintro u w2 hB rfl; exact zof_q (by decide) (by decide) w2) ?_
  refine .c2 (.i 3) (.i 4) (x := .k (.bool true)) (by rintro u v w2 hB rfl h2; exact zsame_q ⟨_, _, _, _, rfl, (z3.below hB).zv, k3⟩ h2.v (by decide) (by decide) (by decide)) ?_
  refine .pk (.i 2) (.i 5) true ?_
  refine .mv (.i 6) ?_
  refine .ld .o (ldZ b3 0) ?_
  refine .c1 (.i 8) (x := .k (.int .i64 (-1))) (by rintro u w2 hB rfl; exact zsign_q ⟨_, _, _, _, rfl, (z3.below hB).zv, k3⟩ (by decide) (by decide)) ?_
  refine .two (.i 9) .o (opEq (by decide : decide ((-1 : Int) = -1) = true)) ?_
  refine .pk (.i 7) (.i 10) true ?_
  refine .mv (.i 11) ?_
  refine .done [some 15, some 16, some 17, some 18, some 19, some 20, some 21, some 22, some 23, some 24, some 25, some 26, some 0] ?_
  intro w6 B6
  rintro v4 -
  change Shut (wpList _ _ _ [] _ _)
  refine ⟨?_⟩
  simp only [Act.put, List.setIfInBounds_toArray, List.set_cons_zero, List.set_cons_succ]
  go_wp2_with fail
  exact bodyPost_ret (v := .bool true) (by simp [results, Try.results7, go_sem]) rfl (ret_k rfl (zup B0 B6))
end Go.Proofs.Ytmdheeahameonaa
