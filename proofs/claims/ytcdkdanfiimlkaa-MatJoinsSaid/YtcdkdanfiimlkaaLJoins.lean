/-
  The law MatJoins.
-/
import Derived.Test.YtcdkdanfiimlkaaMtU
/-! The law's walk: rows that are parted, stacked; matrices side by side. -/
namespace Go.Proofs.Ytcdkdanfiimlkaa
open Go.RowKit
set_option linter.unusedVariables false
set_option linter.unusedSimpArgs false

theorem opAddT {a b t : Nat} {T : TypeId} {X Y : Operand} {U : TypeId} (h : a + b = t) (h2 : t ≤ 4611686018427387904) (w : World) : RunTwo Try.prog (.binOp .add T X Y U) w (.int .i64 (a : Int)) (.int .i64 (b : Int)) (.int .i64 (t : Int)) := by subst h; exact opAddN a b h2 w
set_option maxRecDepth 100000 in
/-- MatJoins, of what isn't looked at. -/
theorem joins11_off {r c r' c' u : Int} {A A' : Option Addr} {n d n' d' : Nat} {Ra Rb : List Zr} {w : World} (ha : RL w A n d Ra) (hb : RL w A' n' d' Rb) (h : ((fewb r c Ra 6 3 && fewb r' c' Rb 6 3) && (fmd r c n && fmd r' c' n')) = false) : Calls Try.prog 6 #[.agg #[.int .i64 r, .int .i64 c, .slice A n d], .agg #[.int .i64 r', .int .i64 c', .slice A' n' d'], .int .u8 u] w (RetK (.k (.bool true)) w) := by
  obtain ⟨t1, ht1⟩ : ∃ t, (fewb r c Ra 6 3 && fewb r' c' Rb 6 3) = t := ⟨_, rfl⟩
  obtain ⟨t2, ht2⟩ : ∃ t, fmd r c n = t := ⟨_, rfl⟩
  obtain ⟨t3, ht3⟩ : ∃ t, fmd r' c' n' = t := ⟨_, rfl⟩
  rw [ht1, ht2, ht3] at h
  obtain ⟨w1, hw1, b3, b4, z1, s1⟩ := boxes2 w 24 24 [.int .i64 r, .int .i64 c, .slice A n d] [.int .i64 r', .int .i64 c', .slice A' n' d']
  have HW := Lib.hid hw1
  have HZ := Lib.hid z1
  have h_ := Lib.hid h
  have ht1_ := Lib.hid ht1
  have ht2_ := Lib.hid ht2
  have ht3_ := Lib.hid ht3
  clear hw1 z1 h ht1 ht2 ht3 s1
  go_enter Try.func6, Try.ntmps6
  go_upto_region 1 with fail
  rw [HW.out]
  refine Run.merge 18 [kAny, kAny, kAny, kAny, kAny, kAny, kAny, kAny, kAny, kAny, kAny, kAny, kAny, kAny, kAny, kAny, kAny, .k (.bool true)] [some 28, some 29, some 30, some 31, some 32, some 33, some 34, some 35, some 36, some 37, some 38, some 39, some 40, some 41, some 42, some 43, some 44, some 45] (fun HR => ?_) ?_
  · cases t1
    · refine .c0 (x := .k (.bool true)) (fun w2 hB => awake11_q w2) ?_
      refine .nt (.i 0) ?_
      refine .mv (.i 1) ?_
      refine .ld .o (ldM b3 0) ?_
      refine .ld .o (ldM b4 0) ?_
      refine .c2 (.i 3) (.i 4) (x := .k (.bool false)) (by rintro u v w2 hB rfl rfl; exact lfew_q (ha.below (zup HZ.out hB)) (hb.below (zup HZ.out hB)) ht1_.out) ?_
      refine .nf (.i 5) ?_
      refine .pk (.i 2) (.i 6) false ?_
      refine .mv (.i 7) ?_
      refine .no ?_
      refine .no ?_
      refine .no ?_
      refine .pk (.i 8) .o true ?_
      refine .mv (.i 12) ?_
      refine .no ?_
      refine .no ?_
      refine .no ?_
      refine .pk (.i 13) .o true ?_
      refine .donep [some 28, some 29, some 30, some 31, some 32, some 33, some 34, some 35, some 36, some 37, some 38, some 39, some 40, some 41, some 42, some 43, some 44, some 45] ?_
      intro w2 B2
      exact (HR w2 B2).weaker ⟨fun _ => trivial, fun _ => trivial, fun _ => trivial, fun _ => trivial, fun _ => trivial, fun _ => trivial, fun _ => trivial, fun _ => trivial, fun _ => trivial, fun _ => trivial, fun _ => trivial, fun _ => trivial, fun _ => trivial, fun _ => trivial, fun _ => trivial, fun _ => trivial, fun _ => trivial, rfl, trivial⟩
    · cases t2
      · refine .c0 (x := .k (.bool true)) (fun w2 hB => awake11_q w2) ?_
        refine .nt (.i 0) ?_
        refine .mv (.i 1) ?_
        refine .ld .o (ldM b3 0) ?_
        refine .ld .o (ldM b4 0) ?_
        refine .c2 (.i 3) (.i 4) (x := .k (.bool true)) (by rintro u v w2 hB rfl rfl; exact lfew_q (ha.below (zup HZ.out hB)) (hb.below (zup HZ.out hB)) ht1_.out) ?_
        refine .nt (.i 5) ?_
        refine .pk (.i 2) (.i 6) false ?_
        refine .mv (.i 7) ?_
        refine .ld .o (ldM b3 0) ?_
        refine .c1 (.i 9) (x := .k (.bool false)) (by rintro u_ w2 hB rfl; exact rformed_q ht2_.out w2) ?_
        refine .nf (.i 10) ?_
        refine .pk (.i 8) (.i 11) false ?_
        refine .mv (.i 12) ?_
        refine .no ?_
        refine .no ?_
        refine .no ?_
        refine .pk (.i 13) .o true ?_
        refine .donep [some 28, some 29, some 30, some 31, some 32, some 33, some 34, some 35, some 36, some 37, some 38, some 39, some 40, some 41, some 42, some 43, some 44, some 45] ?_
        intro w2 B2
        exact (HR w2 B2).weaker ⟨fun _ => trivial, fun _ => trivial, fun _ => trivial, fun _ => trivial, fun _ => trivial, fun _ => trivial, fun _ => trivial, fun _ => trivial, fun _ => trivial, fun _ => trivial, fun _ => trivial, fun _ => trivial, fun _ => trivial, fun _ => trivial, fun _ => trivial, fun _ => trivial, fun _ => trivial, rfl, trivial⟩
      · cases t3
        · refine .c0 (x := .k (.bool true)) (fun w2 hB => awake11_q w2) ?_
          refine .nt (.i 0) ?_
          refine .mv (.i 1) ?_
          refine .ld .o (ldM b3 0) ?_
          refine .ld .o (ldM b4 0) ?_
          refine .c2 (.i 3) (.i 4) (x := .k (.bool true)) (by rintro u v w2 hB rfl rfl; exact lfew_q (ha.below (zup HZ.out hB)) (hb.below (zup HZ.out hB)) ht1_.out) ?_
          refine .nt (.i 5) ?_
          refine .pk (.i 2) (.i 6) false ?_
          refine .mv (.i 7) ?_
          refine .ld .o (ldM b3 0) ?_
          refine .c1 (.i 9) (x := .k (.bool true)) (by rintro u_ w2 hB rfl; exact rformed_q ht2_.out w2) ?_
          refine .nt (.i 10) ?_
          refine .pk (.i 8) (.i 11) false ?_
          refine .mv (.i 12) ?_
          refine .ld .o (ldM b4 0) ?_
          refine .c1 (.i 14) (x := .k (.bool false)) (by rintro u_ w2 hB rfl; exact rformed_q ht3_.out w2) ?_
          refine .nf (.i 15) ?_
          refine .pk (.i 13) (.i 16) false ?_
          refine .donep [some 28, some 29, some 30, some 31, some 32, some 33, some 34, some 35, some 36, some 37, some 38, some 39, some 40, some 41, some 42, some 43, some 44, some 45] ?_
          intro w2 B2
          exact (HR w2 B2).weaker ⟨fun _ => trivial, fun _ => trivial, fun _ => trivial, fun _ => trivial, fun _ => trivial, fun _ => trivial, fun _ => trivial, fun _ => trivial, fun _ => trivial, fun _ => trivial, fun _ => trivial, fun _ => trivial, fun _ => trivial, fun _ => trivial, fun _ => trivial, fun _ => trivial, fun _ => trivial, rfl, trivial⟩
        · exact absurd h_.out (by decide)
  · intro w2 B2
    rintro y0 -
    rintro y1 -
    rintro y2 -
    rintro y3 -
    rintro y4 -
    rintro y5 -
    rintro y6 -
    rintro y7 -
    rintro y8 -
    rintro y9 -
    rintro y10 -
    rintro y11 -
    rintro y12 -
    rintro y13 -
    rintro y14 -
    rintro y15 -
    rintro y16 -
    change Shut (wpList _ _ _ [] _ _)
    refine ⟨?_⟩
    simp only [Act.put, List.setIfInBounds_toArray, List.set_cons_zero, List.set_cons_succ]
    have B0 := zup HZ.out B2
    clear b3 b4 B2
    go_upto_region 2 with fail
    refine Run.start 2 ?_
    refine .c0 (x := .k (.bool true)) (fun w2 hB => awake11_q w2) ?_
    refine .mv (.i 0) ?_
    refine .donep [some 46, some 6] ?_
    intro w3 B3
    change Shut (wpList _ _ _ [] _ _)
    refine ⟨?_⟩
    simp only [Act.put, List.setIfInBounds_toArray, List.set_cons_zero, List.set_cons_succ]
    go_wp2_with fail
    exact bodyPost_ret (v := .bool true) (by simp [results, Try.results6, go_sem]) rfl (ret_k rfl (zup B0 B3))
set_option maxRecDepth 100000 in
set_option maxHeartbeats 4000000 in
/-- MatJoins, of matrices with other rows. -/
theorem joins11_other {r c r' c' u : Nat} {F G : Nat → Nat → Int} {A A' : Option Addr} {n d n' d' : Nat} {Ra Rb : List Zr} {w : World} (ha : RL w A n d Ra) (hb : RL w A' n' d' Rb) (ht : (fewb r c Ra 6 3 && fewb r' c' Rb 6 3) = true) (hA : Mt false w r c A n d 3 F) (hG : Mt false w r' c' A' n' d' 3 G) (hr6 : r ≤ 6) (hc6 : c ≤ 6) (hd6 : c' ≤ 6) (hu : u < 256) (hne : r ≠ r') : Calls Try.prog 6 #[.agg #[.int .i64 (r : Int), .int .i64 (c : Int), .slice A n d], .agg #[.int .i64 (r' : Int), .int .i64 (c' : Int), .slice A' n' d'], .int .u8 (u : Int)] w (RetK (.k (.bool true)) w) := by
  have hfa := hA.fmd
  have hfb := hG.fmd
  obtain ⟨k, hk⟩ : ∃ k, u % (r + 1) = k := ⟨_, rfl⟩
  have hkr : k ≤ r := by have := Nat.mod_lt u (show 0 < r + 1 by omega); omega
  obtain ⟨w1, hw1, b3, b4, z1, s1⟩ := boxes2 w 24 24 [.int .i64 (r : Int), .int .i64 (c : Int), .slice A n d] [.int .i64 (r' : Int), .int .i64 (c' : Int), .slice A' n' d']
  have HW := Lib.hid hw1
  have HZ := Lib.hid z1
  have ht_ := Lib.hid ht
  have hfa_ := Lib.hid hfa
  have hfb_ := Lib.hid hfb
  have hk_ := Lib.hid hk
  clear hw1 z1 ht hfa hfb hk s1
  go_enter Try.func6, Try.ntmps6
  go_upto_region 1 with fail
  rw [HW.out]
  refine Run.start 18 ?_
  refine .c0 (x := .k (.bool true)) (fun w2 hB => awake11_q w2) ?_
  refine .nt (.i 0) ?_
  refine .mv (.i 1) ?_
  refine .ld .o (ldM b3 0) ?_
  refine .ld .o (ldM b4 0) ?_
  refine .c2 (.i 3) (.i 4) (x := .k (.bool true)) (by rintro u v w2 hB rfl rfl; exact lfew_q (ha.below (zup HZ.out hB)) (hb.below (zup HZ.out hB)) ht_.out) ?_
  refine .nt (.i 5) ?_
  refine .pk (.i 2) (.i 6) false ?_
  refine .mv (.i 7) ?_
  refine .ld .o (ldM b3 0) ?_
  refine .c1 (.i 9) (x := .k (.bool true)) (by rintro u_ w2 hB rfl; exact rformed_q hfa_.out w2) ?_
  refine .nt (.i 10) ?_
  refine .pk (.i 8) (.i 11) false ?_
  refine .mv (.i 12) ?_
  refine .ld .o (ldM b4 0) ?_
  refine .c1 (.i 14) (x := .k (.bool true)) (by rintro u_ w2 hB rfl; exact rformed_q hfb_.out w2) ?_
  refine .nt (.i 15) ?_
  refine .pk (.i 13) (.i 16) false ?_
  refine .donep [some 28, some 29, some 30, some 31, some 32, some 33, some 34, some 35, some 36, some 37, some 38, some 39, some 40, some 41, some 42, some 43, some 44, some 45] ?_
  intro w2 B2
  change Shut (wpList _ _ _ [] _ _)
  refine ⟨?_⟩
  simp only [Act.put, List.setIfInBounds_toArray, List.set_cons_zero, List.set_cons_succ]
  have B0 := zup HZ.out B2
  replace b3 := b3.below B2
  replace b4 := b4.below B2
  clear B2 HZ
  go_upto_region 3 with fail
  refine Run.start 7 ?_
  refine .mv .o ?_
  refine .cv (.i 0) (cv_u8 (x := (u : Int)) (by omega) (by omega)) ?_
  refine .fa .o (fM0 0) ?_
  refine .ld (.i 2) (ldInt b3 0) ?_
  refine .two (.i 3) .o (opAddN r 1 (by omega)) ?_
  refine .two (.i 1) (.i 4) (opRemN hk_.out (by omega) (by omega)) ?_
  refine .mv (.i 5) ?_
  refine .donep [some 47, some 48, some 49, some 50, some 51, some 52, some 7] ?_
  intro w3 B3
  change Shut (wpList _ _ _ [] _ _)
  refine ⟨?_⟩
  simp only [Act.put, List.setIfInBounds_toArray, List.set_cons_zero, List.set_cons_succ]
  replace B0 := zup B0 B3
  replace b3 := b3.below B3
  replace b4 := b4.below B3
  clear B3
  go_upto_region 4 with fail
  refine Run.start 7 ?_
  refine .ld .o (ldM b3 0) ?_
  refine .mv .o ?_
  refine .c3 (.i 0) .o (.i 1) (x := kT (kM true k c (3) (F)) (.k (.int .i64 0))) (by rintro u_ v_ x_ w2 hB rfl rfl rfl; exact mrows_top (hA.below (zup B0 hB)) hkr (by decide)) ?_
  refine .mf (.i 2) ?_
  refine .ex (.i 3) 0 kT_0 ?_
  refine .ex (.i 3) 1 kT_1 ?_
  refine .al ?_
  refine .donep [some 54, some 55, some 56, some 53, some 57, some 58, some 8] ?_
  intro w4 B4
  rintro v1 -
  rintro v2 -
  rintro v3 ⟨A8, n8, d8, rfl, m8⟩
  rintro g8 hg8 hl8 hc8 -
  change Shut (wpList _ _ _ [_, _] _ _)
  refine ⟨?_⟩
  simp only [Act.put, List.setIfInBounds_toArray, List.set_cons_zero, List.set_cons_succ]
  have b8 := zeroM hc8
  have hs8 := B0.size
  have hl_b3 := b3.lt
  have hl_b4 := b4.lt
  replace B0 := zup B0 B4
  replace b3 := b3.below B4
  replace b4 := b4.below B4
  clear B4 hc8
  obtain ⟨w5, hw5⟩ : ∃ x, mput w4 g8 (k : Int) (c : Int) A8 n8 d8 = x := ⟨_, rfl⟩
  obtain ⟨f0_, f1_, f2_, f3_, f4_, f5_, f6_⟩ := b8.m3
  replace b3 := b3.mo (g := g8) (r := (k : Int)) (c := (c : Int)) (A := A8) (n := n8) (d := d8) (by omega)
  rw [hw5] at b3
  replace b4 := b4.mo (g := g8) (r := (k : Int)) (c := (c : Int)) (A := A8) (n := n8) (d := d8) (by omega)
  rw [hw5] at b4
  replace m8 := m8.put (r' := (k : Int)) (c' := (c : Int)) (C := A8) (n' := n8) (d' := d8) b8
  rw [hw5] at m8
  replace B0 := below_mput (g := g8) (r := (k : Int)) (c := (c : Int)) (A := A8) (n := n8) (d := d8) B0 (by omega)
  rw [hw5] at B0
  replace b8 := b8.mp (g := g8) (r := (k : Int)) (c := (c : Int)) (A := A8) (n := n8) (d := d8)
  rw [hw5] at b8
  have Hw5 := Lib.hid hw5
  unfold mput at Hw5
  clear hw5
  go_upto_region 5 with fail
  rw [Hw5.out]
  clear f0_ f1_ f2_ f3_ f4_ f5_ f6_ Hw5
  clear hs8 hl_b3 hl_b4
  refine Run.start 9 ?_
  refine .ld .o (ldM b3 0) ?_
  refine .mv .o ?_
  refine .fa .o (fM0 0) ?_
  refine .ld (.i 2) (ldInt b3 0) ?_
  refine .c3 (.i 0) (.i 1) (.i 3) (x := kT (kM true (r - k) c (3) (fun i j => F (k + i) j)) (.k (.int .i64 0))) (by rintro u_ v_ x_ w2 hB rfl rfl rfl; exact mrows_yes (hA.below (zup B0 hB)) hkr (Nat.le_refl _) (by decide)) ?_
  refine .mf (.i 4) ?_
  refine .ex (.i 5) 0 kT_0 ?_
  refine .ex (.i 5) 1 kT_1 ?_
  refine .al ?_
  refine .donep [some 60, some 61, some 62, some 63, some 64, some 59, some 65, some 66, some 10] ?_
  intro w6 B6
  rintro v1 -
  rintro v2 -
  rintro v3 ⟨A10, n10, d10, rfl, m10⟩
  rintro g10 hg10 hl10 hc10 -
  change Shut (wpList _ _ _ [_, _] _ _)
  refine ⟨?_⟩
  simp only [Act.put, List.setIfInBounds_toArray, List.set_cons_zero, List.set_cons_succ]
  have b10 := zeroM hc10
  have hs10 := B0.size
  have hl_b3 := b3.lt
  have hl_b4 := b4.lt
  have hl_b8 := b8.lt
  replace B0 := zup B0 B6
  replace b3 := b3.below B6
  replace b4 := b4.below B6
  replace b8 := b8.below B6
  replace m8 := m8.below B6
  clear B6 hc10
  obtain ⟨w7, hw7⟩ : ∃ x, mput w6 g10 ((r - k : Nat) : Int) (c : Int) A10 n10 d10 = x := ⟨_, rfl⟩
  obtain ⟨f0_, f1_, f2_, f3_, f4_, f5_, f6_⟩ := b10.m3
  replace b3 := b3.mo (g := g10) (r := ((r - k : Nat) : Int)) (c := (c : Int)) (A := A10) (n := n10) (d := d10) (by omega)
  rw [hw7] at b3
  replace b4 := b4.mo (g := g10) (r := ((r - k : Nat) : Int)) (c := (c : Int)) (A := A10) (n := n10) (d := d10) (by omega)
  rw [hw7] at b4
  replace b8 := b8.mo (g := g10) (r := ((r - k : Nat) : Int)) (c := (c : Int)) (A := A10) (n := n10) (d := d10) (by omega)
  rw [hw7] at b8
  replace m8 := m8.put (r' := ((r - k : Nat) : Int)) (c' := (c : Int)) (C := A10) (n' := n10) (d' := d10) b10
  rw [hw7] at m8
  replace m10 := m10.put (r' := ((r - k : Nat) : Int)) (c' := (c : Int)) (C := A10) (n' := n10) (d' := d10) b10
  rw [hw7] at m10
  replace B0 := below_mput (g := g10) (r := ((r - k : Nat) : Int)) (c := (c : Int)) (A := A10) (n := n10) (d := d10) B0 (by omega)
  rw [hw7] at B0
  replace b10 := b10.mp (g := g10) (r := ((r - k : Nat) : Int)) (c := (c : Int)) (A := A10) (n := n10) (d := d10)
  rw [hw7] at b10
  have Hw7 := Lib.hid hw7
  unfold mput at Hw7
  clear hw7
  go_upto_region 6 with fail
  rw [Hw7.out]
  clear f0_ f1_ f2_ f3_ f4_ f5_ f6_ Hw7
  clear hs10 hl_b3 hl_b4 hl_b8
  refine Run.start 7 ?_
  refine .ld .o (ldM b8 0) ?_
  refine .ld .o (ldM b10 0) ?_
  refine .c2 (.i 0) (.i 1) (x := kT (kM true r c (3) (F)) (.k (.int .i64 0))) (by rintro u_ v_ w2 hB rfl rfl; exact mstack_back (m8.below hB) (m10.below hB) hkr (by omega) (by decide)) ?_
  refine .mf (.i 2) ?_
  refine .ex (.i 3) 0 kT_0 ?_
  refine .ex (.i 3) 1 kT_1 ?_
  refine .al ?_
  refine .donep [some 68, some 69, some 70, some 67, some 71, some 72, some 12] ?_
  intro w8 B8
  rintro v1 -
  rintro v2 -
  rintro v3 ⟨A12, n12, d12, rfl, m12⟩
  rintro g12 hg12 hl12 hc12 -
  change Shut (wpList _ _ _ [_, _] _ _)
  refine ⟨?_⟩
  simp only [Act.put, List.setIfInBounds_toArray, List.set_cons_zero, List.set_cons_succ]
  have b12 := zeroM hc12
  have hs12 := B0.size
  have hl_b3 := b3.lt
  have hl_b4 := b4.lt
  have hl_b8 := b8.lt
  have hl_b10 := b10.lt
  replace B0 := zup B0 B8
  replace b3 := b3.below B8
  replace b4 := b4.below B8
  replace b8 := b8.below B8
  replace b10 := b10.below B8
  replace m8 := m8.below B8
  replace m10 := m10.below B8
  clear B8 hc12
  obtain ⟨w9, hw9⟩ : ∃ x, mput w8 g12 (r : Int) (c : Int) A12 n12 d12 = x := ⟨_, rfl⟩
  obtain ⟨f0_, f1_, f2_, f3_, f4_, f5_, f6_⟩ := b12.m3
  replace b3 := b3.mo (g := g12) (r := (r : Int)) (c := (c : Int)) (A := A12) (n := n12) (d := d12) (by omega)
  rw [hw9] at b3
  replace b4 := b4.mo (g := g12) (r := (r : Int)) (c := (c : Int)) (A := A12) (n := n12) (d := d12) (by omega)
  rw [hw9] at b4
  replace b8 := b8.mo (g := g12) (r := (r : Int)) (c := (c : Int)) (A := A12) (n := n12) (d := d12) (by omega)
  rw [hw9] at b8
  replace b10 := b10.mo (g := g12) (r := (r : Int)) (c := (c : Int)) (A := A12) (n := n12) (d := d12) (by omega)
  rw [hw9] at b10
  replace m8 := m8.put (r' := (r : Int)) (c' := (c : Int)) (C := A12) (n' := n12) (d' := d12) b12
  rw [hw9] at m8
  replace m10 := m10.put (r' := (r : Int)) (c' := (c : Int)) (C := A12) (n' := n12) (d' := d12) b12
  rw [hw9] at m10
  replace m12 := m12.put (r' := (r : Int)) (c' := (c : Int)) (C := A12) (n' := n12) (d' := d12) b12
  rw [hw9] at m12
  replace B0 := below_mput (g := g12) (r := (r : Int)) (c := (c : Int)) (A := A12) (n := n12) (d := d12) B0 (by omega)
  rw [hw9] at B0
  replace b12 := b12.mp (g := g12) (r := (r : Int)) (c := (c : Int)) (A := A12) (n := n12) (d := d12)
  rw [hw9] at b12
  have Hw9 := Lib.hid hw9
  unfold mput at Hw9
  clear hw9
  go_upto_region 7 with fail
  rw [Hw9.out]
  clear f0_ f1_ f2_ f3_ f4_ f5_ f6_ Hw9
  clear hs12 hl_b3 hl_b4 hl_b8 hl_b10
  clear b8 b10 m8 m10
  refine Run.start 9 ?_
  refine .ld .o (ldM b3 0) ?_
  refine .mv .o ?_
  refine .two (.i 1) .o (opAddN k 1 (by omega)) ?_
  refine .mv .o ?_
  refine .c3 (.i 0) (.i 2) (.i 3) (x := noM 1) (by rintro u_ v_ x_ w2 hB rfl rfl rfl; exact mrows_no hfa_.out (by omega)) ?_
  refine .mv (.i 4) ?_
  refine .ex (.i 5) 0 exM0 ?_
  refine .ex (.i 5) 1 exM1 ?_
  refine .al ?_
  refine .donep [some 74, some 75, some 76, some 77, some 78, some 73, some 79, some 80, some 14] ?_
  intro w10 B10
  rintro g14 hg14 hl14 hc14 -
  change Shut (wpList _ _ _ [_, _] _ _)
  refine ⟨?_⟩
  simp only [Act.put, List.setIfInBounds_toArray, List.set_cons_zero, List.set_cons_succ]
  have b14 := zeroM hc14
  have hs14 := B0.size
  have hl_b3 := b3.lt
  have hl_b4 := b4.lt
  have hl_b12 := b12.lt
  replace B0 := zup B0 B10
  replace b3 := b3.below B10
  replace b4 := b4.below B10
  replace b12 := b12.below B10
  replace m12 := m12.below B10
  clear B10 hc14
  obtain ⟨w11, hw11⟩ : ∃ x, mput w10 g14 0 0 none 0 0 = x := ⟨_, rfl⟩
  obtain ⟨f0_, f1_, f2_, f3_, f4_, f5_, f6_⟩ := b14.m3
  replace b3 := b3.mo (g := g14) (r := 0) (c := 0) (A := none) (n := 0) (d := 0) (by omega)
  rw [hw11] at b3
  replace b4 := b4.mo (g := g14) (r := 0) (c := 0) (A := none) (n := 0) (d := 0) (by omega)
  rw [hw11] at b4
  replace b12 := b12.mo (g := g14) (r := 0) (c := 0) (A := none) (n := 0) (d := 0) (by omega)
  rw [hw11] at b12
  replace m12 := m12.put (r' := 0) (c' := 0) (C := none) (n' := 0) (d' := 0) b14
  rw [hw11] at m12
  replace B0 := below_mput (g := g14) (r := 0) (c := 0) (A := none) (n := 0) (d := 0) B0 (by omega)
  rw [hw11] at B0
  replace b14 := b14.mp (g := g14) (r := 0) (c := 0) (A := none) (n := 0) (d := 0)
  rw [hw11] at b14
  have Hw11 := Lib.hid hw11
  unfold mput at Hw11
  clear hw11
  go_upto_region 8 with fail
  rw [Hw11.out]
  clear f0_ f1_ f2_ f3_ f4_ f5_ f6_ Hw11
  clear hs14 hl_b3 hl_b4 hl_b12
  refine Run.start 9 ?_
  refine .ld .o (ldM b3 0) ?_
  refine .fa .o (fM0 0) ?_
  refine .ld (.i 1) (ldInt b3 0) ?_
  refine .two (.i 2) .o (opAddN r 1 (by omega)) ?_
  refine .c3 (.i 0) .o (.i 3) (x := noM 1) (by rintro u_ v_ x_ w2 hB rfl rfl rfl; exact mrows_no hfa_.out (by omega)) ?_
  refine .mv (.i 4) ?_
  refine .ex (.i 5) 0 exM0 ?_
  refine .ex (.i 5) 1 exM1 ?_
  refine .al ?_
  refine .donep [some 82, some 83, some 84, some 85, some 86, some 81, some 87, some 88, some 16] ?_
  intro w12 B12
  rintro g16 hg16 hl16 hc16 -
  change Shut (wpList _ _ _ [_, _] _ _)
  refine ⟨?_⟩
  simp only [Act.put, List.setIfInBounds_toArray, List.set_cons_zero, List.set_cons_succ]
  have b16 := zeroM hc16
  have hs16 := B0.size
  have hl_b3 := b3.lt
  have hl_b4 := b4.lt
  have hl_b12 := b12.lt
  have hl_b14 := b14.lt
  replace B0 := zup B0 B12
  replace b3 := b3.below B12
  replace b4 := b4.below B12
  replace b12 := b12.below B12
  replace b14 := b14.below B12
  replace m12 := m12.below B12
  clear B12 hc16
  obtain ⟨w13, hw13⟩ : ∃ x, mput w12 g16 0 0 none 0 0 = x := ⟨_, rfl⟩
  obtain ⟨f0_, f1_, f2_, f3_, f4_, f5_, f6_⟩ := b16.m3
  replace b3 := b3.mo (g := g16) (r := 0) (c := 0) (A := none) (n := 0) (d := 0) (by omega)
  rw [hw13] at b3
  replace b4 := b4.mo (g := g16) (r := 0) (c := 0) (A := none) (n := 0) (d := 0) (by omega)
  rw [hw13] at b4
  replace b12 := b12.mo (g := g16) (r := 0) (c := 0) (A := none) (n := 0) (d := 0) (by omega)
  rw [hw13] at b12
  replace b14 := b14.mo (g := g16) (r := 0) (c := 0) (A := none) (n := 0) (d := 0) (by omega)
  rw [hw13] at b14
  replace m12 := m12.put (r' := 0) (c' := 0) (C := none) (n' := 0) (d' := 0) b16
  rw [hw13] at m12
  replace B0 := below_mput (g := g16) (r := 0) (c := 0) (A := none) (n := 0) (d := 0) B0 (by omega)
  rw [hw13] at B0
  replace b16 := b16.mp (g := g16) (r := 0) (c := 0) (A := none) (n := 0) (d := 0)
  rw [hw13] at b16
  have Hw13 := Lib.hid hw13
  unfold mput at Hw13
  clear hw13
  go_upto_region 9 with fail
  rw [Hw13.out]
  clear f0_ f1_ f2_ f3_ f4_ f5_ f6_ Hw13
  clear hs16 hl_b3 hl_b4 hl_b12 hl_b14
  clear b14 b16
  refine Run.start 29 ?_
  refine .mv .o ?_
  refine .two (.i 0) .o (opNe (by decide : decide ((0 : Int) ≠ 0) = false)) ?_
  refine .mv (.i 1) ?_
  refine .mv .o ?_
  refine .two (.i 3) .o (opNe (by decide : decide ((0 : Int) ≠ 0) = false)) ?_
  refine .pk (.i 2) (.i 4) false ?_
  refine .mv (.i 5) ?_
  refine .mv .o ?_
  refine .two (.i 7) .o (opNe (by decide : decide ((0 : Int) ≠ 0) = false)) ?_
  refine .pk (.i 6) (.i 8) false ?_
  refine .mv (.i 9) ?_
  refine .mv .o ?_
  refine .two (.i 11) .o (opNe (by decide : decide ((1 : Int) ≠ 1) = false)) ?_
  refine .pk (.i 10) (.i 12) false ?_
  refine .mv (.i 13) ?_
  refine .mv .o ?_
  refine .two (.i 15) .o (opNe (by decide : decide ((1 : Int) ≠ 1) = false)) ?_
  refine .pk (.i 14) (.i 16) false ?_
  refine .mv (.i 17) ?_
  refine .ld .o (ldM b12 0) ?_
  refine .fa .o (fM0 0) ?_
  refine .ld (.i 20) (ldInt b3 0) ?_
  refine .fa .o (fM1 1) ?_
  refine .ld (.i 22) (ldInt b3 1) ?_
  refine .fa .o (fM2 2) ?_
  refine .ld (.i 24) (ldSl b3 2) ?_
  refine .c4 (.i 19) (.i 21) (.i 23) (.i 25) (x := .k (.bool true)) (by rintro u_ v_ x_ y_ w2 hB rfl rfl rfl rfl; exact ris_q (m12.below hB) (hA.below (zup B0 hB)).zl (by omega) (by omega)) ?_
  refine .nt (.i 26) ?_
  refine .pk (.i 18) (.i 27) false ?_
  refine .donep [some 89, some 90, some 91, some 92, some 93, some 94, some 95, some 96, some 97, some 98, some 99, some 100, some 101, some 102, some 103, some 104, some 105, some 106, some 107, some 108, some 109, some 110, some 111, some 112, some 113, some 114, some 115, some 116, some 117] ?_
  intro w14 B14
  change Shut (wpList _ _ _ [] _ _)
  refine ⟨?_⟩
  simp only [Act.put, List.setIfInBounds_toArray, List.set_cons_zero, List.set_cons_succ]
  replace B0 := zup B0 B14
  replace b3 := b3.below B14
  replace b4 := b4.below B14
  clear B14
  clear b12 m12
  go_upto_region 11 with fail
  refine Run.start 7 ?_
  refine .ld .o (ldM b3 0) ?_
  refine .ld .o (ldM b4 0) ?_
  refine .c2 (.i 0) (.i 1) (x := noM 2) (by rintro u_ v_ w2 hB rfl rfl; exact mbeside_no hfa_.out hfb_.out (by omega)) ?_
  refine .mv (.i 2) ?_
  refine .ex (.i 3) 0 exM0 ?_
  refine .ex (.i 3) 1 exM1 ?_
  refine .al ?_
  refine .donep [some 119, some 120, some 121, some 118, some 122, some 123, some 18] ?_
  intro w15 B15
  rintro g18 hg18 hl18 hc18 -
  change Shut (wpList _ _ _ [_, _] _ _)
  refine ⟨?_⟩
  simp only [Act.put, List.setIfInBounds_toArray, List.set_cons_zero, List.set_cons_succ]
  have b18 := zeroM hc18
  have hs18 := B0.size
  have hl_b3 := b3.lt
  have hl_b4 := b4.lt
  replace B0 := zup B0 B15
  replace b3 := b3.below B15
  replace b4 := b4.below B15
  clear B15 hc18
  obtain ⟨w16, hw16⟩ : ∃ x, mput w15 g18 0 0 none 0 0 = x := ⟨_, rfl⟩
  obtain ⟨f0_, f1_, f2_, f3_, f4_, f5_, f6_⟩ := b18.m3
  replace b3 := b3.mo (g := g18) (r := 0) (c := 0) (A := none) (n := 0) (d := 0) (by omega)
  rw [hw16] at b3
  replace b4 := b4.mo (g := g18) (r := 0) (c := 0) (A := none) (n := 0) (d := 0) (by omega)
  rw [hw16] at b4
  replace B0 := below_mput (g := g18) (r := 0) (c := 0) (A := none) (n := 0) (d := 0) B0 (by omega)
  rw [hw16] at B0
  replace b18 := b18.mp (g := g18) (r := 0) (c := 0) (A := none) (n := 0) (d := 0)
  rw [hw16] at b18
  have Hw16 := Lib.hid hw16
  unfold mput at Hw16
  clear hw16
  go_upto_region 12 with fail
  rw [Hw16.out]
  clear f0_ f1_ f2_ f3_ f4_ f5_ f6_ Hw16
  clear hs18 hl_b3 hl_b4
  refine Run.start 5 ?_
  refine .fa .o (fM0 0) ?_
  refine .ld (.i 0) (ldInt b3 0) ?_
  refine .fa .o (fM0 0) ?_
  refine .ld (.i 2) (ldInt b4 0) ?_
  refine .two (.i 1) (.i 3) (opNe (decide_eq_true (by omega) : decide ((r : Int) ≠ (r' : Int)) = true)) ?_
  refine .donep [some 124, some 125, some 126, some 127, some 128] ?_
  intro w17 B17
  change Shut (wpList _ _ _ [] _ _)
  refine ⟨?_⟩
  simp only [Act.put, List.setIfInBounds_toArray, List.set_cons_zero, List.set_cons_succ]
  replace B0 := zup B0 B17
  replace b3 := b3.below B17
  replace b4 := b4.below B17
  replace b18 := b18.below B17
  clear B17
  go_upto_region 13 with fail
  refine Run.start 7 ?_
  refine .mv .o ?_
  refine .two (.i 0) .o (opEq (by decide : decide ((2 : Int) = 2) = true)) ?_
  refine .mv (.i 1) ?_
  refine .ld .o (ldM b18 0) ?_
  refine .c1 (.i 3) (x := .k (.bool true)) (by rintro u w2 hB rfl; exact rnone_q w2) ?_
  refine .pk (.i 2) (.i 4) true ?_
  refine .mv (.i 5) ?_
  refine .donep [some 129, some 130, some 131, some 132, some 133, some 134, some 6] ?_
  intro w18 B18
  change Shut (wpList _ _ _ [] _ _)
  refine ⟨?_⟩
  simp only [Act.put, List.setIfInBounds_toArray, List.set_cons_zero, List.set_cons_succ]
  go_wp2_with fail
  exact bodyPost_ret (v := .bool true) (by simp [results, Try.results6, go_sem]) rfl (ret_k rfl (zup B0 B18))
set_option maxRecDepth 100000 in
set_option maxHeartbeats 4000000 in
/-- MatJoins, of matrices with as many rows. -/
theorem joins11_same {r c c' u : Nat} {F G : Nat → Nat → Int} {A A' : Option Addr} {n d n' d' : Nat} {Ra Rb : List Zr} {w : World} (ha : RL w A n d Ra) (hb : RL w A' n' d' Rb) (ht : (fewb r c Ra 6 3 && fewb r c' Rb 6 3) = true) (hA : Mt false w r c A n d 3 F) (hG : Mt false w r c' A' n' d' 3 G) (hr6 : r ≤ 6) (hc6 : c ≤ 6) (hd6 : c' ≤ 6) (hu : u < 256) : Calls Try.prog 6 #[.agg #[.int .i64 (r : Int), .int .i64 (c : Int), .slice A n d], .agg #[.int .i64 (r : Int), .int .i64 (c' : Int), .slice A' n' d'], .int .u8 (u : Int)] w (RetK (.k (.bool true)) w) := by
  have hfa := hA.fmd
  have hfb := hG.fmd
  obtain ⟨k, hk⟩ : ∃ k, u % (r + 1) = k := ⟨_, rfl⟩
  have hkr : k ≤ r := by have := Nat.mod_lt u (show 0 < r + 1 by omega); omega
  obtain ⟨cc, hcc⟩ : ∃ t, c + c' = t := ⟨_, rfl⟩
  obtain ⟨w1, hw1, b3, b4, z1, s1⟩ := boxes2 w 24 24 [.int .i64 (r : Int), .int .i64 (c : Int), .slice A n d] [.int .i64 (r : Int), .int .i64 (c' : Int), .slice A' n' d']
  have HW := Lib.hid hw1
  have HZ := Lib.hid z1
  have ht_ := Lib.hid ht
  have hfa_ := Lib.hid hfa
  have hfb_ := Lib.hid hfb
  have hk_ := Lib.hid hk
  have hcc_ := Lib.hid hcc
  clear hw1 z1 ht hfa hfb hk hcc s1
  go_enter Try.func6, Try.ntmps6
  go_upto_region 1 with fail
  rw [HW.out]
  refine Run.start 18 ?_
  refine .c0 (x := .k (.bool true)) (fun w2 hB => awake11_q w2) ?_
  refine .nt (.i 0) ?_
  refine .mv (.i 1) ?_
  refine .ld .o (ldM b3 0) ?_
  refine .ld .o (ldM b4 0) ?_
  refine .c2 (.i 3) (.i 4) (x := .k (.bool true)) (by rintro u v w2 hB rfl rfl; exact lfew_q (ha.below (zup HZ.out hB)) (hb.below (zup HZ.out hB)) ht_.out) ?_
  refine .nt (.i 5) ?_
  refine .pk (.i 2) (.i 6) false ?_
  refine .mv (.i 7) ?_
  refine .ld .o (ldM b3 0) ?_
  refine .c1 (.i 9) (x := .k (.bool true)) (by rintro u_ w2 hB rfl; exact rformed_q hfa_.out w2) ?_
  refine .nt (.i 10) ?_
  refine .pk (.i 8) (.i 11) false ?_
  refine .mv (.i 12) ?_
  refine .ld .o (ldM b4 0) ?_
  refine .c1 (.i 14) (x := .k (.bool true)) (by rintro u_ w2 hB rfl; exact rformed_q hfb_.out w2) ?_
  refine .nt (.i 15) ?_
  refine .pk (.i 13) (.i 16) false ?_
  refine .donep [some 28, some 29, some 30, some 31, some 32, some 33, some 34, some 35, some 36, some 37, some 38, some 39, some 40, some 41, some 42, some 43, some 44, some 45] ?_
  intro w2 B2
  change Shut (wpList _ _ _ [] _ _)
  refine ⟨?_⟩
  simp only [Act.put, List.setIfInBounds_toArray, List.set_cons_zero, List.set_cons_succ]
  have B0 := zup HZ.out B2
  replace b3 := b3.below B2
  replace b4 := b4.below B2
  clear B2 HZ
  go_upto_region 3 with fail
  refine Run.start 7 ?_
  refine .mv .o ?_
  refine .cv (.i 0) (cv_u8 (x := (u : Int)) (by omega) (by omega)) ?_
  refine .fa .o (fM0 0) ?_
  refine .ld (.i 2) (ldInt b3 0) ?_
  refine .two (.i 3) .o (opAddN r 1 (by omega)) ?_
  refine .two (.i 1) (.i 4) (opRemN hk_.out (by omega) (by omega)) ?_
  refine .mv (.i 5) ?_
  refine .donep [some 47, some 48, some 49, some 50, some 51, some 52, some 7] ?_
  intro w3 B3
  change Shut (wpList _ _ _ [] _ _)
  refine ⟨?_⟩
  simp only [Act.put, List.setIfInBounds_toArray, List.set_cons_zero, List.set_cons_succ]
  replace B0 := zup B0 B3
  replace b3 := b3.below B3
  replace b4 := b4.below B3
  clear B3
  go_upto_region 4 with fail
  refine Run.start 7 ?_
  refine .ld .o (ldM b3 0) ?_
  refine .mv .o ?_
  refine .c3 (.i 0) .o (.i 1) (x := kT (kM true k c (3) (F)) (.k (.int .i64 0))) (by rintro u_ v_ x_ w2 hB rfl rfl rfl; exact mrows_top (hA.below (zup B0 hB)) hkr (by decide)) ?_
  refine .mf (.i 2) ?_
  refine .ex (.i 3) 0 kT_0 ?_
  refine .ex (.i 3) 1 kT_1 ?_
  refine .al ?_
  refine .donep [some 54, some 55, some 56, some 53, some 57, some 58, some 8] ?_
  intro w4 B4
  rintro v1 -
  rintro v2 -
  rintro v3 ⟨A8, n8, d8, rfl, m8⟩
  rintro g8 hg8 hl8 hc8 -
  change Shut (wpList _ _ _ [_, _] _ _)
  refine ⟨?_⟩
  simp only [Act.put, List.setIfInBounds_toArray, List.set_cons_zero, List.set_cons_succ]
  have b8 := zeroM hc8
  have hs8 := B0.size
  have hl_b3 := b3.lt
  have hl_b4 := b4.lt
  replace B0 := zup B0 B4
  replace b3 := b3.below B4
  replace b4 := b4.below B4
  clear B4 hc8
  obtain ⟨w5, hw5⟩ : ∃ x, mput w4 g8 (k : Int) (c : Int) A8 n8 d8 = x := ⟨_, rfl⟩
  obtain ⟨f0_, f1_, f2_, f3_, f4_, f5_, f6_⟩ := b8.m3
  replace b3 := b3.mo (g := g8) (r := (k : Int)) (c := (c : Int)) (A := A8) (n := n8) (d := d8) (by omega)
  rw [hw5] at b3
  replace b4 := b4.mo (g := g8) (r := (k : Int)) (c := (c : Int)) (A := A8) (n := n8) (d := d8) (by omega)
  rw [hw5] at b4
  replace m8 := m8.put (r' := (k : Int)) (c' := (c : Int)) (C := A8) (n' := n8) (d' := d8) b8
  rw [hw5] at m8
  replace B0 := below_mput (g := g8) (r := (k : Int)) (c := (c : Int)) (A := A8) (n := n8) (d := d8) B0 (by omega)
  rw [hw5] at B0
  replace b8 := b8.mp (g := g8) (r := (k : Int)) (c := (c : Int)) (A := A8) (n := n8) (d := d8)
  rw [hw5] at b8
  have Hw5 := Lib.hid hw5
  unfold mput at Hw5
  clear hw5
  go_upto_region 5 with fail
  rw [Hw5.out]
  clear f0_ f1_ f2_ f3_ f4_ f5_ f6_ Hw5
  clear hs8 hl_b3 hl_b4
  refine Run.start 9 ?_
  refine .ld .o (ldM b3 0) ?_
  refine .mv .o ?_
  refine .fa .o (fM0 0) ?_
  refine .ld (.i 2) (ldInt b3 0) ?_
  refine .c3 (.i 0) (.i 1) (.i 3) (x := kT (kM true (r - k) c (3) (fun i j => F (k + i) j)) (.k (.int .i64 0))) (by rintro u_ v_ x_ w2 hB rfl rfl rfl; exact mrows_yes (hA.below (zup B0 hB)) hkr (Nat.le_refl _) (by decide)) ?_
  refine .mf (.i 4) ?_
  refine .ex (.i 5) 0 kT_0 ?_
  refine .ex (.i 5) 1 kT_1 ?_
  refine .al ?_
  refine .donep [some 60, some 61, some 62, some 63, some 64, some 59, some 65, some 66, some 10] ?_
  intro w6 B6
  rintro v1 -
  rintro v2 -
  rintro v3 ⟨A10, n10, d10, rfl, m10⟩
  rintro g10 hg10 hl10 hc10 -
  change Shut (wpList _ _ _ [_, _] _ _)
  refine ⟨?_⟩
  simp only [Act.put, List.setIfInBounds_toArray, List.set_cons_zero, List.set_cons_succ]
  have b10 := zeroM hc10
  have hs10 := B0.size
  have hl_b3 := b3.lt
  have hl_b4 := b4.lt
  have hl_b8 := b8.lt
  replace B0 := zup B0 B6
  replace b3 := b3.below B6
  replace b4 := b4.below B6
  replace b8 := b8.below B6
  replace m8 := m8.below B6
  clear B6 hc10
  obtain ⟨w7, hw7⟩ : ∃ x, mput w6 g10 ((r - k : Nat) : Int) (c : Int) A10 n10 d10 = x := ⟨_, rfl⟩
  obtain ⟨f0_, f1_, f2_, f3_, f4_, f5_, f6_⟩ := b10.m3
  replace b3 := b3.mo (g := g10) (r := ((r - k : Nat) : Int)) (c := (c : Int)) (A := A10) (n := n10) (d := d10) (by omega)
  rw [hw7] at b3
  replace b4 := b4.mo (g := g10) (r := ((r - k : Nat) : Int)) (c := (c : Int)) (A := A10) (n := n10) (d := d10) (by omega)
  rw [hw7] at b4
  replace b8 := b8.mo (g := g10) (r := ((r - k : Nat) : Int)) (c := (c : Int)) (A := A10) (n := n10) (d := d10) (by omega)
  rw [hw7] at b8
  replace m8 := m8.put (r' := ((r - k : Nat) : Int)) (c' := (c : Int)) (C := A10) (n' := n10) (d' := d10) b10
  rw [hw7] at m8
  replace m10 := m10.put (r' := ((r - k : Nat) : Int)) (c' := (c : Int)) (C := A10) (n' := n10) (d' := d10) b10
  rw [hw7] at m10
  replace B0 := below_mput (g := g10) (r := ((r - k : Nat) : Int)) (c := (c : Int)) (A := A10) (n := n10) (d := d10) B0 (by omega)
  rw [hw7] at B0
  replace b10 := b10.mp (g := g10) (r := ((r - k : Nat) : Int)) (c := (c : Int)) (A := A10) (n := n10) (d := d10)
  rw [hw7] at b10
  have Hw7 := Lib.hid hw7
  unfold mput at Hw7
  clear hw7
  go_upto_region 6 with fail
  rw [Hw7.out]
  clear f0_ f1_ f2_ f3_ f4_ f5_ f6_ Hw7
  clear hs10 hl_b3 hl_b4 hl_b8
  refine Run.start 7 ?_
  refine .ld .o (ldM b8 0) ?_
  refine .ld .o (ldM b10 0) ?_
  refine .c2 (.i 0) (.i 1) (x := kT (kM true r c (3) (F)) (.k (.int .i64 0))) (by rintro u_ v_ w2 hB rfl rfl; exact mstack_back (m8.below hB) (m10.below hB) hkr (by omega) (by decide)) ?_
  refine .mf (.i 2) ?_
  refine .ex (.i 3) 0 kT_0 ?_
  refine .ex (.i 3) 1 kT_1 ?_
  refine .al ?_
  refine .donep [some 68, some 69, some 70, some 67, some 71, some 72, some 12] ?_
  intro w8 B8
  rintro v1 -
  rintro v2 -
  rintro v3 ⟨A12, n12, d12, rfl, m12⟩
  rintro g12 hg12 hl12 hc12 -
  change Shut (wpList _ _ _ [_, _] _ _)
  refine ⟨?_⟩
  simp only [Act.put, List.setIfInBounds_toArray, List.set_cons_zero, List.set_cons_succ]
  have b12 := zeroM hc12
  have hs12 := B0.size
  have hl_b3 := b3.lt
  have hl_b4 := b4.lt
  have hl_b8 := b8.lt
  have hl_b10 := b10.lt
  replace B0 := zup B0 B8
  replace b3 := b3.below B8
  replace b4 := b4.below B8
  replace b8 := b8.below B8
  replace b10 := b10.below B8
  replace m8 := m8.below B8
  replace m10 := m10.below B8
  clear B8 hc12
  obtain ⟨w9, hw9⟩ : ∃ x, mput w8 g12 (r : Int) (c : Int) A12 n12 d12 = x := ⟨_, rfl⟩
  obtain ⟨f0_, f1_, f2_, f3_, f4_, f5_, f6_⟩ := b12.m3
  replace b3 := b3.mo (g := g12) (r := (r : Int)) (c := (c : Int)) (A := A12) (n := n12) (d := d12) (by omega)
  rw [hw9] at b3
  replace b4 := b4.mo (g := g12) (r := (r : Int)) (c := (c : Int)) (A := A12) (n := n12) (d := d12) (by omega)
  rw [hw9] at b4
  replace b8 := b8.mo (g := g12) (r := (r : Int)) (c := (c : Int)) (A := A12) (n := n12) (d := d12) (by omega)
  rw [hw9] at b8
  replace b10 := b10.mo (g := g12) (r := (r : Int)) (c := (c : Int)) (A := A12) (n := n12) (d := d12) (by omega)
  rw [hw9] at b10
  replace m8 := m8.put (r' := (r : Int)) (c' := (c : Int)) (C := A12) (n' := n12) (d' := d12) b12
  rw [hw9] at m8
  replace m10 := m10.put (r' := (r : Int)) (c' := (c : Int)) (C := A12) (n' := n12) (d' := d12) b12
  rw [hw9] at m10
  replace m12 := m12.put (r' := (r : Int)) (c' := (c : Int)) (C := A12) (n' := n12) (d' := d12) b12
  rw [hw9] at m12
  replace B0 := below_mput (g := g12) (r := (r : Int)) (c := (c : Int)) (A := A12) (n := n12) (d := d12) B0 (by omega)
  rw [hw9] at B0
  replace b12 := b12.mp (g := g12) (r := (r : Int)) (c := (c : Int)) (A := A12) (n := n12) (d := d12)
  rw [hw9] at b12
  have Hw9 := Lib.hid hw9
  unfold mput at Hw9
  clear hw9
  go_upto_region 7 with fail
  rw [Hw9.out]
  clear f0_ f1_ f2_ f3_ f4_ f5_ f6_ Hw9
  clear hs12 hl_b3 hl_b4 hl_b8 hl_b10
  clear b8 b10 m8 m10
  refine Run.start 9 ?_
  refine .ld .o (ldM b3 0) ?_
  refine .mv .o ?_
  refine .two (.i 1) .o (opAddN k 1 (by omega)) ?_
  refine .mv .o ?_
  refine .c3 (.i 0) (.i 2) (.i 3) (x := noM 1) (by rintro u_ v_ x_ w2 hB rfl rfl rfl; exact mrows_no hfa_.out (by omega)) ?_
  refine .mv (.i 4) ?_
  refine .ex (.i 5) 0 exM0 ?_
  refine .ex (.i 5) 1 exM1 ?_
  refine .al ?_
  refine .donep [some 74, some 75, some 76, some 77, some 78, some 73, some 79, some 80, some 14] ?_
  intro w10 B10
  rintro g14 hg14 hl14 hc14 -
  change Shut (wpList _ _ _ [_, _] _ _)
  refine ⟨?_⟩
  simp only [Act.put, List.setIfInBounds_toArray, List.set_cons_zero, List.set_cons_succ]
  have b14 := zeroM hc14
  have hs14 := B0.size
  have hl_b3 := b3.lt
  have hl_b4 := b4.lt
  have hl_b12 := b12.lt
  replace B0 := zup B0 B10
  replace b3 := b3.below B10
  replace b4 := b4.below B10
  replace b12 := b12.below B10
  replace m12 := m12.below B10
  clear B10 hc14
  obtain ⟨w11, hw11⟩ : ∃ x, mput w10 g14 0 0 none 0 0 = x := ⟨_, rfl⟩
  obtain ⟨f0_, f1_, f2_, f3_, f4_, f5_, f6_⟩ := b14.m3
  replace b3 := b3.mo (g := g14) (r := 0) (c := 0) (A := none) (n := 0) (d := 0) (by omega)
  rw [hw11] at b3
  replace b4 := b4.mo (g := g14) (r := 0) (c := 0) (A := none) (n := 0) (d := 0) (by omega)
  rw [hw11] at b4
  replace b12 := b12.mo (g := g14) (r := 0) (c := 0) (A := none) (n := 0) (d := 0) (by omega)
  rw [hw11] at b12
  replace m12 := m12.put (r' := 0) (c' := 0) (C := none) (n' := 0) (d' := 0) b14
  rw [hw11] at m12
  replace B0 := below_mput (g := g14) (r := 0) (c := 0) (A := none) (n := 0) (d := 0) B0 (by omega)
  rw [hw11] at B0
  replace b14 := b14.mp (g := g14) (r := 0) (c := 0) (A := none) (n := 0) (d := 0)
  rw [hw11] at b14
  have Hw11 := Lib.hid hw11
  unfold mput at Hw11
  clear hw11
  go_upto_region 8 with fail
  rw [Hw11.out]
  clear f0_ f1_ f2_ f3_ f4_ f5_ f6_ Hw11
  clear hs14 hl_b3 hl_b4 hl_b12
  refine Run.start 9 ?_
  refine .ld .o (ldM b3 0) ?_
  refine .fa .o (fM0 0) ?_
  refine .ld (.i 1) (ldInt b3 0) ?_
  refine .two (.i 2) .o (opAddN r 1 (by omega)) ?_
  refine .c3 (.i 0) .o (.i 3) (x := noM 1) (by rintro u_ v_ x_ w2 hB rfl rfl rfl; exact mrows_no hfa_.out (by omega)) ?_
  refine .mv (.i 4) ?_
  refine .ex (.i 5) 0 exM0 ?_
  refine .ex (.i 5) 1 exM1 ?_
  refine .al ?_
  refine .donep [some 82, some 83, some 84, some 85, some 86, some 81, some 87, some 88, some 16] ?_
  intro w12 B12
  rintro g16 hg16 hl16 hc16 -
  change Shut (wpList _ _ _ [_, _] _ _)
  refine ⟨?_⟩
  simp only [Act.put, List.setIfInBounds_toArray, List.set_cons_zero, List.set_cons_succ]
  have b16 := zeroM hc16
  have hs16 := B0.size
  have hl_b3 := b3.lt
  have hl_b4 := b4.lt
  have hl_b12 := b12.lt
  have hl_b14 := b14.lt
  replace B0 := zup B0 B12
  replace b3 := b3.below B12
  replace b4 := b4.below B12
  replace b12 := b12.below B12
  replace b14 := b14.below B12
  replace m12 := m12.below B12
  clear B12 hc16
  obtain ⟨w13, hw13⟩ : ∃ x, mput w12 g16 0 0 none 0 0 = x := ⟨_, rfl⟩
  obtain ⟨f0_, f1_, f2_, f3_, f4_, f5_, f6_⟩ := b16.m3
  replace b3 := b3.mo (g := g16) (r := 0) (c := 0) (A := none) (n := 0) (d := 0) (by omega)
  rw [hw13] at b3
  replace b4 := b4.mo (g := g16) (r := 0) (c := 0) (A := none) (n := 0) (d := 0) (by omega)
  rw [hw13] at b4
  replace b12 := b12.mo (g := g16) (r := 0) (c := 0) (A := none) (n := 0) (d := 0) (by omega)
  rw [hw13] at b12
  replace b14 := b14.mo (g := g16) (r := 0) (c := 0) (A := none) (n := 0) (d := 0) (by omega)
  rw [hw13] at b14
  replace m12 := m12.put (r' := 0) (c' := 0) (C := none) (n' := 0) (d' := 0) b16
  rw [hw13] at m12
  replace B0 := below_mput (g := g16) (r := 0) (c := 0) (A := none) (n := 0) (d := 0) B0 (by omega)
  rw [hw13] at B0
  replace b16 := b16.mp (g := g16) (r := 0) (c := 0) (A := none) (n := 0) (d := 0)
  rw [hw13] at b16
  have Hw13 := Lib.hid hw13
  unfold mput at Hw13
  clear hw13
  go_upto_region 9 with fail
  rw [Hw13.out]
  clear f0_ f1_ f2_ f3_ f4_ f5_ f6_ Hw13
  clear hs16 hl_b3 hl_b4 hl_b12 hl_b14
  clear b14 b16
  refine Run.start 29 ?_
  refine .mv .o ?_
  refine .two (.i 0) .o (opNe (by decide : decide ((0 : Int) ≠ 0) = false)) ?_
  refine .mv (.i 1) ?_
  refine .mv .o ?_
  refine .two (.i 3) .o (opNe (by decide : decide ((0 : Int) ≠ 0) = false)) ?_
  refine .pk (.i 2) (.i 4) false ?_
  refine .mv (.i 5) ?_
  refine .mv .o ?_
  refine .two (.i 7) .o (opNe (by decide : decide ((0 : Int) ≠ 0) = false)) ?_
  refine .pk (.i 6) (.i 8) false ?_
  refine .mv (.i 9) ?_
  refine .mv .o ?_
  refine .two (.i 11) .o (opNe (by decide : decide ((1 : Int) ≠ 1) = false)) ?_
  refine .pk (.i 10) (.i 12) false ?_
  refine .mv (.i 13) ?_
  refine .mv .o ?_
  refine .two (.i 15) .o (opNe (by decide : decide ((1 : Int) ≠ 1) = false)) ?_
  refine .pk (.i 14) (.i 16) false ?_
  refine .mv (.i 17) ?_
  refine .ld .o (ldM b12 0) ?_
  refine .fa .o (fM0 0) ?_
  refine .ld (.i 20) (ldInt b3 0) ?_
  refine .fa .o (fM1 1) ?_
  refine .ld (.i 22) (ldInt b3 1) ?_
  refine .fa .o (fM2 2) ?_
  refine .ld (.i 24) (ldSl b3 2) ?_
  refine .c4 (.i 19) (.i 21) (.i 23) (.i 25) (x := .k (.bool true)) (by rintro u_ v_ x_ y_ w2 hB rfl rfl rfl rfl; exact ris_q (m12.below hB) (hA.below (zup B0 hB)).zl (by omega) (by omega)) ?_
  refine .nt (.i 26) ?_
  refine .pk (.i 18) (.i 27) false ?_
  refine .donep [some 89, some 90, some 91, some 92, some 93, some 94, some 95, some 96, some 97, some 98, some 99, some 100, some 101, some 102, some 103, some 104, some 105, some 106, some 107, some 108, some 109, some 110, some 111, some 112, some 113, some 114, some 115, some 116, some 117] ?_
  intro w14 B14
  change Shut (wpList _ _ _ [] _ _)
  refine ⟨?_⟩
  simp only [Act.put, List.setIfInBounds_toArray, List.set_cons_zero, List.set_cons_succ]
  replace B0 := zup B0 B14
  replace b3 := b3.below B14
  replace b4 := b4.below B14
  clear B14
  clear b12 m12
  go_upto_region 11 with fail
  refine Run.start 7 ?_
  refine .ld .o (ldM b3 0) ?_
  refine .ld .o (ldM b4 0) ?_
  refine .c2 (.i 0) (.i 1) (x := kT (kM true r cc (max 3 3) (fun i j => if j < c then F i j else G i (j - c))) (.k (.int .i64 0))) (by rintro u_ v_ w2 hB rfl rfl; exact (by have h := mbeside_yes (hA.below (zup B0 hB)) (hG.below (zup B0 hB)) rfl (by omega) (by decide) (by decide); rw [hcc_.out] at h; exact h)) ?_
  refine .mf (.i 2) ?_
  refine .ex (.i 3) 0 kT_0 ?_
  refine .ex (.i 3) 1 kT_1 ?_
  refine .al ?_
  refine .donep [some 119, some 120, some 121, some 118, some 122, some 123, some 18] ?_
  intro w15 B15
  rintro v1 -
  rintro v2 -
  rintro v3 ⟨A18, n18, d18, rfl, m18⟩
  rintro g18 hg18 hl18 hc18 -
  change Shut (wpList _ _ _ [_, _] _ _)
  refine ⟨?_⟩
  simp only [Act.put, List.setIfInBounds_toArray, List.set_cons_zero, List.set_cons_succ]
  have b18 := zeroM hc18
  have hs18 := B0.size
  have hl_b3 := b3.lt
  have hl_b4 := b4.lt
  replace B0 := zup B0 B15
  replace b3 := b3.below B15
  replace b4 := b4.below B15
  clear B15 hc18
  obtain ⟨w16, hw16⟩ : ∃ x, mput w15 g18 (r : Int) (cc : Int) A18 n18 d18 = x := ⟨_, rfl⟩
  obtain ⟨f0_, f1_, f2_, f3_, f4_, f5_, f6_⟩ := b18.m3
  replace b3 := b3.mo (g := g18) (r := (r : Int)) (c := (cc : Int)) (A := A18) (n := n18) (d := d18) (by omega)
  rw [hw16] at b3
  replace b4 := b4.mo (g := g18) (r := (r : Int)) (c := (cc : Int)) (A := A18) (n := n18) (d := d18) (by omega)
  rw [hw16] at b4
  replace m18 := m18.put (r' := (r : Int)) (c' := (cc : Int)) (C := A18) (n' := n18) (d' := d18) b18
  rw [hw16] at m18
  replace B0 := below_mput (g := g18) (r := (r : Int)) (c := (cc : Int)) (A := A18) (n := n18) (d := d18) B0 (by omega)
  rw [hw16] at B0
  replace b18 := b18.mp (g := g18) (r := (r : Int)) (c := (cc : Int)) (A := A18) (n := n18) (d := d18)
  rw [hw16] at b18
  have Hw16 := Lib.hid hw16
  unfold mput at Hw16
  clear hw16
  go_upto_region 12 with fail
  rw [Hw16.out]
  clear f0_ f1_ f2_ f3_ f4_ f5_ f6_ Hw16
  clear hs18 hl_b3 hl_b4
  refine Run.start 5 ?_
  refine .fa .o (fM0 0) ?_
  refine .ld (.i 0) (ldInt b3 0) ?_
  refine .fa .o (fM0 0) ?_
  refine .ld (.i 2) (ldInt b4 0) ?_
  refine .two (.i 1) (.i 3) (opNe (decide_eq_false (fun h => h rfl) : decide ((r : Int) ≠ (r : Int)) = false)) ?_
  refine .donep [some 124, some 125, some 126, some 127, some 128] ?_
  intro w17 B17
  change Shut (wpList _ _ _ [] _ _)
  refine ⟨?_⟩
  simp only [Act.put, List.setIfInBounds_toArray, List.set_cons_zero, List.set_cons_succ]
  replace B0 := zup B0 B17
  replace b3 := b3.below B17
  replace b4 := b4.below B17
  replace b18 := b18.below B17
  replace m18 := m18.below B17
  clear B17
  go_upto_region 14 with fail
  refine Run.start 6 ?_
  refine .ld .o (ldM b3 0) ?_
  refine .c1 (.i 0) (x := kT (kM true c r (3) (fun i j => F j i)) (.k (.int .i64 0))) (by rintro u_ w2 hB rfl; exact mtrans_yes (F := F) (hA.below (zup B0 hB)) (by decide)) ?_
  refine .mf (.i 1) ?_
  refine .ex (.i 2) 0 kT_0 ?_
  refine .ex (.i 2) 1 kT_1 ?_
  refine .al ?_
  refine .donep [some 136, some 137, some 135, some 138, some 139, some 20] ?_
  intro w18 B18
  rintro v1 -
  rintro v2 -
  rintro v3 ⟨A20, n20, d20, rfl, m20⟩
  rintro g20 hg20 hl20 hc20 -
  change Shut (wpList _ _ _ [_, _] _ _)
  refine ⟨?_⟩
  simp only [Act.put, List.setIfInBounds_toArray, List.set_cons_zero, List.set_cons_succ]
  have b20 := zeroM hc20
  have hs20 := B0.size
  have hl_b3 := b3.lt
  have hl_b4 := b4.lt
  have hl_b18 := b18.lt
  replace B0 := zup B0 B18
  replace b3 := b3.below B18
  replace b4 := b4.below B18
  replace b18 := b18.below B18
  replace m18 := m18.below B18
  clear B18 hc20
  obtain ⟨w19, hw19⟩ : ∃ x, mput w18 g20 (c : Int) (r : Int) A20 n20 d20 = x := ⟨_, rfl⟩
  obtain ⟨f0_, f1_, f2_, f3_, f4_, f5_, f6_⟩ := b20.m3
  replace b3 := b3.mo (g := g20) (r := (c : Int)) (c := (r : Int)) (A := A20) (n := n20) (d := d20) (by omega)
  rw [hw19] at b3
  replace b4 := b4.mo (g := g20) (r := (c : Int)) (c := (r : Int)) (A := A20) (n := n20) (d := d20) (by omega)
  rw [hw19] at b4
  replace b18 := b18.mo (g := g20) (r := (c : Int)) (c := (r : Int)) (A := A20) (n := n20) (d := d20) (by omega)
  rw [hw19] at b18
  replace m18 := m18.put (r' := (c : Int)) (c' := (r : Int)) (C := A20) (n' := n20) (d' := d20) b20
  rw [hw19] at m18
  replace m20 := m20.put (r' := (c : Int)) (c' := (r : Int)) (C := A20) (n' := n20) (d' := d20) b20
  rw [hw19] at m20
  replace B0 := below_mput (g := g20) (r := (c : Int)) (c := (r : Int)) (A := A20) (n := n20) (d := d20) B0 (by omega)
  rw [hw19] at B0
  replace b20 := b20.mp (g := g20) (r := (c : Int)) (c := (r : Int)) (A := A20) (n := n20) (d := d20)
  rw [hw19] at b20
  have Hw19 := Lib.hid hw19
  unfold mput at Hw19
  clear hw19
  go_upto_region 15 with fail
  rw [Hw19.out]
  clear f0_ f1_ f2_ f3_ f4_ f5_ f6_ Hw19
  clear hs20 hl_b3 hl_b4 hl_b18
  refine Run.start 6 ?_
  refine .ld .o (ldM b4 0) ?_
  refine .c1 (.i 0) (x := kT (kM true c' r (3) (fun i j => G j i)) (.k (.int .i64 0))) (by rintro u_ w2 hB rfl; exact mtrans_yes (F := G) (hG.below (zup B0 hB)) (by decide)) ?_
  refine .mf (.i 1) ?_
  refine .ex (.i 2) 0 kT_0 ?_
  refine .ex (.i 2) 1 kT_1 ?_
  refine .al ?_
  refine .donep [some 141, some 142, some 140, some 143, some 144, some 22] ?_
  intro w20 B20
  rintro v1 -
  rintro v2 -
  rintro v3 ⟨A22, n22, d22, rfl, m22⟩
  rintro g22 hg22 hl22 hc22 -
  change Shut (wpList _ _ _ [_, _] _ _)
  refine ⟨?_⟩
  simp only [Act.put, List.setIfInBounds_toArray, List.set_cons_zero, List.set_cons_succ]
  have b22 := zeroM hc22
  have hs22 := B0.size
  have hl_b3 := b3.lt
  have hl_b4 := b4.lt
  have hl_b18 := b18.lt
  have hl_b20 := b20.lt
  replace B0 := zup B0 B20
  replace b3 := b3.below B20
  replace b4 := b4.below B20
  replace b18 := b18.below B20
  replace b20 := b20.below B20
  replace m18 := m18.below B20
  replace m20 := m20.below B20
  clear B20 hc22
  obtain ⟨w21, hw21⟩ : ∃ x, mput w20 g22 (c' : Int) (r : Int) A22 n22 d22 = x := ⟨_, rfl⟩
  obtain ⟨f0_, f1_, f2_, f3_, f4_, f5_, f6_⟩ := b22.m3
  replace b3 := b3.mo (g := g22) (r := (c' : Int)) (c := (r : Int)) (A := A22) (n := n22) (d := d22) (by omega)
  rw [hw21] at b3
  replace b4 := b4.mo (g := g22) (r := (c' : Int)) (c := (r : Int)) (A := A22) (n := n22) (d := d22) (by omega)
  rw [hw21] at b4
  replace b18 := b18.mo (g := g22) (r := (c' : Int)) (c := (r : Int)) (A := A22) (n := n22) (d := d22) (by omega)
  rw [hw21] at b18
  replace b20 := b20.mo (g := g22) (r := (c' : Int)) (c := (r : Int)) (A := A22) (n := n22) (d := d22) (by omega)
  rw [hw21] at b20
  replace m18 := m18.put (r' := (c' : Int)) (c' := (r : Int)) (C := A22) (n' := n22) (d' := d22) b22
  rw [hw21] at m18
  replace m20 := m20.put (r' := (c' : Int)) (c' := (r : Int)) (C := A22) (n' := n22) (d' := d22) b22
  rw [hw21] at m20
  replace m22 := m22.put (r' := (c' : Int)) (c' := (r : Int)) (C := A22) (n' := n22) (d' := d22) b22
  rw [hw21] at m22
  replace B0 := below_mput (g := g22) (r := (c' : Int)) (c := (r : Int)) (A := A22) (n := n22) (d := d22) B0 (by omega)
  rw [hw21] at B0
  replace b22 := b22.mp (g := g22) (r := (c' : Int)) (c := (r : Int)) (A := A22) (n := n22) (d := d22)
  rw [hw21] at b22
  have Hw21 := Lib.hid hw21
  unfold mput at Hw21
  clear hw21
  go_upto_region 16 with fail
  rw [Hw21.out]
  clear f0_ f1_ f2_ f3_ f4_ f5_ f6_ Hw21
  clear hs22 hl_b3 hl_b4 hl_b18 hl_b20
  refine Run.start 7 ?_
  refine .ld .o (ldM b20 0) ?_
  refine .ld .o (ldM b22 0) ?_
  refine .c2 (.i 0) (.i 1) (x := kT (kM true cc r (max 3 3) (fun i j => if i < c then F j i else G j (i - c))) (.k (.int .i64 0))) (by rintro u_ v_ w2 hB rfl rfl; exact (by have h := mstack_yes (F := fun i j => F j i) (G := fun i j => G j i) (m20.below hB) (m22.below hB) rfl (by omega) (by decide) (by decide); rw [hcc_.out] at h; exact h)) ?_
  refine .mf (.i 2) ?_
  refine .ex (.i 3) 0 kT_0 ?_
  refine .ex (.i 3) 1 kT_1 ?_
  refine .al ?_
  refine .donep [some 146, some 147, some 148, some 145, some 149, some 150, some 24] ?_
  intro w22 B22
  rintro v1 -
  rintro v2 -
  rintro v3 ⟨A24, n24, d24, rfl, m24⟩
  rintro g24 hg24 hl24 hc24 -
  change Shut (wpList _ _ _ [_, _] _ _)
  refine ⟨?_⟩
  simp only [Act.put, List.setIfInBounds_toArray, List.set_cons_zero, List.set_cons_succ]
  have b24 := zeroM hc24
  have hs24 := B0.size
  have hl_b3 := b3.lt
  have hl_b4 := b4.lt
  have hl_b18 := b18.lt
  have hl_b20 := b20.lt
  have hl_b22 := b22.lt
  replace B0 := zup B0 B22
  replace b3 := b3.below B22
  replace b4 := b4.below B22
  replace b18 := b18.below B22
  replace b20 := b20.below B22
  replace b22 := b22.below B22
  replace m18 := m18.below B22
  replace m20 := m20.below B22
  replace m22 := m22.below B22
  clear B22 hc24
  obtain ⟨w23, hw23⟩ : ∃ x, mput w22 g24 (cc : Int) (r : Int) A24 n24 d24 = x := ⟨_, rfl⟩
  obtain ⟨f0_, f1_, f2_, f3_, f4_, f5_, f6_⟩ := b24.m3
  replace b3 := b3.mo (g := g24) (r := (cc : Int)) (c := (r : Int)) (A := A24) (n := n24) (d := d24) (by omega)
  rw [hw23] at b3
  replace b4 := b4.mo (g := g24) (r := (cc : Int)) (c := (r : Int)) (A := A24) (n := n24) (d := d24) (by omega)
  rw [hw23] at b4
  replace b18 := b18.mo (g := g24) (r := (cc : Int)) (c := (r : Int)) (A := A24) (n := n24) (d := d24) (by omega)
  rw [hw23] at b18
  replace b20 := b20.mo (g := g24) (r := (cc : Int)) (c := (r : Int)) (A := A24) (n := n24) (d := d24) (by omega)
  rw [hw23] at b20
  replace b22 := b22.mo (g := g24) (r := (cc : Int)) (c := (r : Int)) (A := A24) (n := n24) (d := d24) (by omega)
  rw [hw23] at b22
  replace m18 := m18.put (r' := (cc : Int)) (c' := (r : Int)) (C := A24) (n' := n24) (d' := d24) b24
  rw [hw23] at m18
  replace m20 := m20.put (r' := (cc : Int)) (c' := (r : Int)) (C := A24) (n' := n24) (d' := d24) b24
  rw [hw23] at m20
  replace m22 := m22.put (r' := (cc : Int)) (c' := (r : Int)) (C := A24) (n' := n24) (d' := d24) b24
  rw [hw23] at m22
  replace m24 := m24.put (r' := (cc : Int)) (c' := (r : Int)) (C := A24) (n' := n24) (d' := d24) b24
  rw [hw23] at m24
  replace B0 := below_mput (g := g24) (r := (cc : Int)) (c := (r : Int)) (A := A24) (n := n24) (d := d24) B0 (by omega)
  rw [hw23] at B0
  replace b24 := b24.mp (g := g24) (r := (cc : Int)) (c := (r : Int)) (A := A24) (n := n24) (d := d24)
  rw [hw23] at b24
  have Hw23 := Lib.hid hw23
  unfold mput at Hw23
  clear hw23
  go_upto_region 17 with fail
  rw [Hw23.out]
  clear f0_ f1_ f2_ f3_ f4_ f5_ f6_ Hw23
  clear hs24 hl_b3 hl_b4 hl_b18 hl_b20 hl_b22
  clear b20 b22 m20 m22
  refine Run.start 6 ?_
  refine .ld .o (ldM b24 0) ?_
  refine .c1 (.i 0) (x := kT (kM true r cc (max 3 3) (fun i j => if j < c then F i j else G i (j - c))) (.k (.int .i64 0))) (by rintro u_ w2 hB rfl; exact mtrans_yes (F := fun i j => if i < c then F j i else G j (i - c)) (m24.below hB) (by decide)) ?_
  refine .mf (.i 1) ?_
  refine .ex (.i 2) 0 kT_0 ?_
  refine .ex (.i 2) 1 kT_1 ?_
  refine .al ?_
  refine .donep [some 152, some 153, some 151, some 154, some 155, some 26] ?_
  intro w24 B24
  rintro v1 -
  rintro v2 -
  rintro v3 ⟨A26, n26, d26, rfl, m26⟩
  rintro g26 hg26 hl26 hc26 -
  change Shut (wpList _ _ _ [_, _] _ _)
  refine ⟨?_⟩
  simp only [Act.put, List.setIfInBounds_toArray, List.set_cons_zero, List.set_cons_succ]
  have b26 := zeroM hc26
  have hs26 := B0.size
  have hl_b3 := b3.lt
  have hl_b4 := b4.lt
  have hl_b18 := b18.lt
  have hl_b24 := b24.lt
  replace B0 := zup B0 B24
  replace b3 := b3.below B24
  replace b4 := b4.below B24
  replace b18 := b18.below B24
  replace b24 := b24.below B24
  replace m18 := m18.below B24
  replace m24 := m24.below B24
  clear B24 hc26
  obtain ⟨w25, hw25⟩ : ∃ x, mput w24 g26 (r : Int) (cc : Int) A26 n26 d26 = x := ⟨_, rfl⟩
  obtain ⟨f0_, f1_, f2_, f3_, f4_, f5_, f6_⟩ := b26.m3
  replace b3 := b3.mo (g := g26) (r := (r : Int)) (c := (cc : Int)) (A := A26) (n := n26) (d := d26) (by omega)
  rw [hw25] at b3
  replace b4 := b4.mo (g := g26) (r := (r : Int)) (c := (cc : Int)) (A := A26) (n := n26) (d := d26) (by omega)
  rw [hw25] at b4
  replace b18 := b18.mo (g := g26) (r := (r : Int)) (c := (cc : Int)) (A := A26) (n := n26) (d := d26) (by omega)
  rw [hw25] at b18
  replace b24 := b24.mo (g := g26) (r := (r : Int)) (c := (cc : Int)) (A := A26) (n := n26) (d := d26) (by omega)
  rw [hw25] at b24
  replace m18 := m18.put (r' := (r : Int)) (c' := (cc : Int)) (C := A26) (n' := n26) (d' := d26) b26
  rw [hw25] at m18
  replace m24 := m24.put (r' := (r : Int)) (c' := (cc : Int)) (C := A26) (n' := n26) (d' := d26) b26
  rw [hw25] at m24
  replace m26 := m26.put (r' := (r : Int)) (c' := (cc : Int)) (C := A26) (n' := n26) (d' := d26) b26
  rw [hw25] at m26
  replace B0 := below_mput (g := g26) (r := (r : Int)) (c := (cc : Int)) (A := A26) (n := n26) (d := d26) B0 (by omega)
  rw [hw25] at B0
  replace b26 := b26.mp (g := g26) (r := (r : Int)) (c := (cc : Int)) (A := A26) (n := n26) (d := d26)
  rw [hw25] at b26
  have Hw25 := Lib.hid hw25
  unfold mput at Hw25
  clear hw25
  go_upto_region 18 with fail
  rw [Hw25.out]
  clear f0_ f1_ f2_ f3_ f4_ f5_ f6_ Hw25
  clear hs26 hl_b3 hl_b4 hl_b18 hl_b24
  refine Run.start 23 ?_
  refine .mv .o ?_
  refine .two (.i 0) .o (opEq (by decide : decide ((0 : Int) = 0) = true)) ?_
  refine .mv (.i 1) ?_
  refine .fa .o (fM1 1) ?_
  refine .ld (.i 3) (ldInt b18 1) ?_
  refine .fa .o (fM1 1) ?_
  refine .ld (.i 5) (ldInt b3 1) ?_
  refine .fa .o (fM1 1) ?_
  refine .ld (.i 7) (ldInt b4 1) ?_
  refine .two (.i 6) (.i 8) (opAddT hcc_.out (by have := hcc_.out; omega)) ?_
  refine .two (.i 4) (.i 9) (opEq (decide_eq_true rfl)) ?_
  refine .pk (.i 2) (.i 10) true ?_
  refine .mv (.i 11) ?_
  refine .ld .o (ldM b18 0) ?_
  refine .fa .o (fM0 0) ?_
  refine .ld (.i 14) (ldInt b26 0) ?_
  refine .fa .o (fM1 1) ?_
  refine .ld (.i 16) (ldInt b26 1) ?_
  refine .fa .o (fM2 2) ?_
  refine .ld (.i 18) (ldSl b26 2) ?_
  refine .c4 (.i 13) (.i 15) (.i 17) (.i 19) (x := .k (.bool true)) (by rintro u_ v_ x_ y_ w2 hB rfl rfl rfl rfl; exact ris_q (m18.below hB) (m26.below hB).zl (by decide) (by decide)) ?_
  refine .pk (.i 12) (.i 20) true ?_
  refine .mv (.i 21) ?_
  refine .donep [some 156, some 157, some 158, some 159, some 160, some 161, some 162, some 163, some 164, some 165, some 166, some 167, some 168, some 169, some 170, some 171, some 172, some 173, some 174, some 175, some 176, some 177, some 6] ?_
  intro w26 B26
  change Shut (wpList _ _ _ [] _ _)
  refine ⟨?_⟩
  simp only [Act.put, List.setIfInBounds_toArray, List.set_cons_zero, List.set_cons_succ]
  go_wp2_with fail
  exact bodyPost_ret (v := .bool true) (by simp [results, Try.results6, go_sem]) rfl (ret_k rfl (zup B0 B26))
/-- MatJoins. -/
theorem joins11_law {r c r' c' u : Int} {A A' : Option Addr} {n d n' d' : Nat} {Ra Rb : List Zr} {w : World} (ha : RL w A n d Ra) (hb : RL w A' n' d' Rb) (h0 : 0 ≤ u) (h1 : u < 256) : Calls Try.prog 6 #[.agg #[.int .i64 r, .int .i64 c, .slice A n d], .agg #[.int .i64 r', .int .i64 c', .slice A' n' d'], .int .u8 u] w (RetK (.k (.bool true)) w) := by
  cases h : ((fewb r c Ra 6 3 && fewb r' c' Rb 6 3) && (fmd r c n && fmd r' c' n')) with
  | false => exact joins11_off ha hb h
  | true =>
    simp only [Bool.and_eq_true] at h
    obtain ⟨⟨e1, e2⟩, e3, e4⟩ := h
    obtain ⟨r1, c1, rfl, rfl, h6, h7, _, hA⟩ := ha.mt e3 e1
    obtain ⟨r2, c2, rfl, rfl, h8, h9, _, hG⟩ := hb.mt e4 e2
    obtain ⟨v, rfl⟩ := Int.eq_ofNat_of_zero_le h0
    have ht : (fewb r1 c1 Ra 6 3 && fewb r2 c2 Rb 6 3) = true := by rw [e1, e2]; rfl
    by_cases hr : r1 = r2
    · subst hr
      exact joins11_same ha hb ht hA hG h6 h7 h9 (by omega)
    · exact joins11_other ha hb ht hA hG h6 h7 h9 (by omega) hr
end Go.Proofs.Ytcdkdanfiimlkaa
