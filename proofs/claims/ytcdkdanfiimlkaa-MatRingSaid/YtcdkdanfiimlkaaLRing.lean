/-
  The law MatRing.
-/
import Derived.Test.YtcdkdanfiimlkaaMtR
/-! The law's walk: products go together, and with sums and transposes. -/
namespace Go.Proofs.Ytcdkdanfiimlkaa
open Go.RowKit
set_option linter.unusedVariables false
set_option linter.unusedSimpArgs false

set_option maxRecDepth 100000 in
/-- MatRing, of what isn't looked at. -/
theorem ring11_off {r c r' c' r₂ c₂ : Int} {A A' A₂ : Option Addr} {n d n' d' n₂ d₂ : Nat} {Ra Rb Rc : List Zr} {w : World} (ha : RL w A n d Ra) (hb : RL w A' n' d' Rb) (hc : RL w A₂ n₂ d₂ Rc) (ht : (fewb r c Ra 4 2 && (fewb r' c' Rb 4 2 && fewb r₂ c₂ Rc 4 2)) = false) : Calls Try.prog 8 #[.agg #[.int .i64 r, .int .i64 c, .slice A n d], .agg #[.int .i64 r', .int .i64 c', .slice A' n' d'], .agg #[.int .i64 r₂, .int .i64 c₂, .slice A₂ n₂ d₂]] w (RetK (.k (.bool true)) w) := by
  obtain ⟨t1, ht1⟩ : ∃ t, fewb r c Ra 4 2 = t := ⟨_, rfl⟩
  obtain ⟨t2, ht2⟩ : ∃ t, fewb r' c' Rb 4 2 = t := ⟨_, rfl⟩
  obtain ⟨t3, ht3⟩ : ∃ t, fewb r₂ c₂ Rc 4 2 = t := ⟨_, rfl⟩
  rw [ht1, ht2, ht3] at ht
  obtain ⟨w1, hw1, b3, b4, b5, z1, s1⟩ := boxes3 w 24 24 24 [.int .i64 r, .int .i64 c, .slice A n d] [.int .i64 r', .int .i64 c', .slice A' n' d'] [.int .i64 r₂, .int .i64 c₂, .slice A₂ n₂ d₂]
  have HW := Lib.hid hw1
  have HZ := Lib.hid z1
  have ht_ := Lib.hid ht
  have ht1_ := Lib.hid ht1
  have ht2_ := Lib.hid ht2
  have ht3_ := Lib.hid ht3
  clear hw1 z1 ht ht1 ht2 ht3 s1
  go_enter Try.func8, Try.ntmps8
  go_upto_region 1 with fail
  rw [HW.out]
  refine Run.merge 17 [kAny, kAny, kAny, kAny, kAny, kAny, kAny, kAny, kAny, kAny, kAny, kAny, kAny, kAny, kAny, kAny, .k (.bool true)] [some 31, some 32, some 33, some 34, some 35, some 36, some 37, some 38, some 39, some 40, some 41, some 42, some 43, some 44, some 45, some 46, some 47] (fun HR => ?_) ?_
  · cases t1
    · refine .c0 (x := .k (.bool true)) (fun w2 hB => awake11_q w2) ?_
      refine .nt (.i 0) ?_
      refine .mv (.i 1) ?_
      refine .ld .o (ldM b3 0) ?_
      refine .c3 (.i 3) .o .o (x := .k (.bool false)) (by rintro u v x w2 hB rfl rfl rfl; exact rfew_q (N := 4) (W := 2) (ha.below (zup HZ.out hB)) ht1_.out (by omega)) ?_
      refine .nf (.i 4) ?_
      refine .pk (.i 2) (.i 5) false ?_
      refine .mv (.i 6) ?_
      refine .no ?_
      refine .no ?_
      refine .no ?_
      refine .pk (.i 7) .o true ?_
      refine .mv (.i 11) ?_
      refine .no ?_
      refine .no ?_
      refine .no ?_
      refine .pk (.i 12) .o true ?_
      refine .donep [some 31, some 32, some 33, some 34, some 35, some 36, some 37, some 38, some 39, some 40, some 41, some 42, some 43, some 44, some 45, some 46, some 47] ?_
      intro w2 B2
      exact (HR w2 B2).weaker ⟨fun _ => trivial, fun _ => trivial, fun _ => trivial, fun _ => trivial, fun _ => trivial, fun _ => trivial, fun _ => trivial, fun _ => trivial, fun _ => trivial, fun _ => trivial, fun _ => trivial, fun _ => trivial, fun _ => trivial, fun _ => trivial, fun _ => trivial, fun _ => trivial, rfl, trivial⟩
    · cases t2
      · refine .c0 (x := .k (.bool true)) (fun w2 hB => awake11_q w2) ?_
        refine .nt (.i 0) ?_
        refine .mv (.i 1) ?_
        refine .ld .o (ldM b3 0) ?_
        refine .c3 (.i 3) .o .o (x := .k (.bool true)) (by rintro u v x w2 hB rfl rfl rfl; exact rfew_q (N := 4) (W := 2) (ha.below (zup HZ.out hB)) ht1_.out (by omega)) ?_
        refine .nt (.i 4) ?_
        refine .pk (.i 2) (.i 5) false ?_
        refine .mv (.i 6) ?_
        refine .ld .o (ldM b4 0) ?_
        refine .c3 (.i 8) .o .o (x := .k (.bool false)) (by rintro u v x w2 hB rfl rfl rfl; exact rfew_q (N := 4) (W := 2) (hb.below (zup HZ.out hB)) ht2_.out (by omega)) ?_
        refine .nf (.i 9) ?_
        refine .pk (.i 7) (.i 10) false ?_
        refine .mv (.i 11) ?_
        refine .no ?_
        refine .no ?_
        refine .no ?_
        refine .pk (.i 12) .o true ?_
        refine .donep [some 31, some 32, some 33, some 34, some 35, some 36, some 37, some 38, some 39, some 40, some 41, some 42, some 43, some 44, some 45, some 46, some 47] ?_
        intro w2 B2
        exact (HR w2 B2).weaker ⟨fun _ => trivial, fun _ => trivial, fun _ => trivial, fun _ => trivial, fun _ => trivial, fun _ => trivial, fun _ => trivial, fun _ => trivial, fun _ => trivial, fun _ => trivial, fun _ => trivial, fun _ => trivial, fun _ => trivial, fun _ => trivial, fun _ => trivial, fun _ => trivial, rfl, trivial⟩
      · cases t3
        · refine .c0 (x := .k (.bool true)) (fun w2 hB => awake11_q w2) ?_
          refine .nt (.i 0) ?_
          refine .mv (.i 1) ?_
          refine .ld .o (ldM b3 0) ?_
          refine .c3 (.i 3) .o .o (x := .k (.bool true)) (by rintro u v x w2 hB rfl rfl rfl; exact rfew_q (N := 4) (W := 2) (ha.below (zup HZ.out hB)) ht1_.out (by omega)) ?_
          refine .nt (.i 4) ?_
          refine .pk (.i 2) (.i 5) false ?_
          refine .mv (.i 6) ?_
          refine .ld .o (ldM b4 0) ?_
          refine .c3 (.i 8) .o .o (x := .k (.bool true)) (by rintro u v x w2 hB rfl rfl rfl; exact rfew_q (N := 4) (W := 2) (hb.below (zup HZ.out hB)) ht2_.out (by omega)) ?_
          refine .nt (.i 9) ?_
          refine .pk (.i 7) (.i 10) false ?_
          refine .mv (.i 11) ?_
          refine .ld .o (ldM b5 0) ?_
          refine .c3 (.i 13) .o .o (x := .k (.bool false)) (by rintro u v x w2 hB rfl rfl rfl; exact rfew_q (N := 4) (W := 2) (hc.below (zup HZ.out hB)) ht3_.out (by omega)) ?_
          refine .nf (.i 14) ?_
          refine .pk (.i 12) (.i 15) false ?_
          refine .donep [some 31, some 32, some 33, some 34, some 35, some 36, some 37, some 38, some 39, some 40, some 41, some 42, some 43, some 44, some 45, some 46, some 47] ?_
          intro w2 B2
          exact (HR w2 B2).weaker ⟨fun _ => trivial, fun _ => trivial, fun _ => trivial, fun _ => trivial, fun _ => trivial, fun _ => trivial, fun _ => trivial, fun _ => trivial, fun _ => trivial, fun _ => trivial, fun _ => trivial, fun _ => trivial, fun _ => trivial, fun _ => trivial, fun _ => trivial, fun _ => trivial, rfl, trivial⟩
        · exact absurd ht_.out (by decide)
  · intro w2 B2
    rintro y0 -
    rintro y1 -
    rintro y2 -
    rintro y3 -
    rintro y4 -
    rintro y5 -
    rintro y6 -
    rintro y7 -
    rintro y8 -
    rintro y9 -
    rintro y10 -
    rintro y11 -
    rintro y12 -
    rintro y13 -
    rintro y14 -
    rintro y15 -
    change Shut (wpList _ _ _ [] _ _)
    refine ⟨?_⟩
    simp only [Act.put, List.setIfInBounds_toArray, List.set_cons_zero, List.set_cons_succ]
    have B0 := zup HZ.out B2
    clear b3 b4 b5 B2
    go_upto_region 2 with fail
    refine Run.start 2 ?_
    refine .c0 (x := .k (.bool true)) (fun w2 hB => awake11_q w2) ?_
    refine .mv (.i 0) ?_
    refine .donep [some 48, some 6] ?_
    intro w3 B3
    change Shut (wpList _ _ _ [] _ _)
    refine ⟨?_⟩
    simp only [Act.put, List.setIfInBounds_toArray, List.set_cons_zero, List.set_cons_succ]
    go_wp2_with fail
    exact bodyPost_ret (v := .bool true) (by simp [results, Try.results8, go_sem]) rfl (ret_k rfl (zup B0 B3))
set_option maxRecDepth 100000 in
set_option maxHeartbeats 4000000 in
/-- MatRing, of what is looked at. -/
theorem ring11_on {xa xb xc : Option PM} {r c r' c' r₂ c₂ : Int} {A A' A₂ : Option Addr} {n d n' d' n₂ d₂ : Nat} {Ra Rb Rc : List Zr} {w : World} (ha : RL w A n d Ra) (hb : RL w A' n' d' Rb) (hc : RL w A₂ n₂ d₂ Rc) (ht1 : fewb r c Ra 4 2 = true) (ht2 : fewb r' c' Rb 4 2 = true) (ht3 : fewb r₂ c₂ Rc 4 2 = true) (ra : Raw w r c A n d 2 xa) (rb : Raw w r' c' A' n' d' 2 xb) (rc : Raw w r₂ c₂ A₂ n₂ d₂ 2 xc) : Calls Try.prog 8 #[.agg #[.int .i64 r, .int .i64 c, .slice A n d], .agg #[.int .i64 r', .int .i64 c', .slice A' n' d'], .agg #[.int .i64 r₂, .int .i64 c₂, .slice A₂ n₂ d₂]] w (RetK (.k (.bool true)) w) := by
  obtain ⟨p1, hp1⟩ : ∃ p, vP (oMul xa xb) = p := ⟨_, rfl⟩
  obtain ⟨e1, he1⟩ : ∃ e, vE (oMul xa xb) = e := ⟨_, rfl⟩
  obtain ⟨p2, hp2⟩ : ∃ p, vP (oMul (some p1) xc) = p := ⟨_, rfl⟩
  obtain ⟨e2, he2⟩ : ∃ e, vE (oMul (some p1) xc) = e := ⟨_, rfl⟩
  obtain ⟨p3, hp3⟩ : ∃ p, vP (oMul xb xc) = p := ⟨_, rfl⟩
  obtain ⟨e3, he3⟩ : ∃ e, vE (oMul xb xc) = e := ⟨_, rfl⟩
  obtain ⟨p4, hp4⟩ : ∃ p, vP (oMul xa (some p3)) = p := ⟨_, rfl⟩
  obtain ⟨e4, he4⟩ : ∃ e, vE (oMul xa (some p3)) = e := ⟨_, rfl⟩
  obtain ⟨p5, hp5⟩ : ∃ p, vP (oAdd xb xc) = p := ⟨_, rfl⟩
  obtain ⟨e5, he5⟩ : ∃ e, vE (oAdd xb xc) = e := ⟨_, rfl⟩
  obtain ⟨p6, hp6⟩ : ∃ p, vP (oMul xa (some p5)) = p := ⟨_, rfl⟩
  obtain ⟨e6, he6⟩ : ∃ e, vE (oMul xa (some p5)) = e := ⟨_, rfl⟩
  obtain ⟨p7, hp7⟩ : ∃ p, vP (oMul xa xc) = p := ⟨_, rfl⟩
  obtain ⟨e7, he7⟩ : ∃ e, vE (oMul xa xc) = e := ⟨_, rfl⟩
  obtain ⟨p8, hp8⟩ : ∃ p, vP (oAdd (some p1) (some p7)) = p := ⟨_, rfl⟩
  obtain ⟨e8, he8⟩ : ∃ e, vE (oAdd (some p1) (some p7)) = e := ⟨_, rfl⟩
  have hE1 : e1 = 0 ∨ e1 = 2 := he1 ▸ vE_or _
  have hE3 : e3 = 0 ∨ e3 = 2 := he3 ▸ vE_or _
  have hE5 : e5 = 0 ∨ e5 = 2 := he5 ▸ vE_or _
  have H7 : e1 = 0 → e3 = 0 → e2 = 0 ∧ e4 = 0 ∧ SP p2 p4 := fun h1 h3 => by
    subst hp1 hp3 hp2 hp4 he1 he2 he3 he4
    exact ring_assoc h1 h3
  have H13 : e5 = 0 → e1 = 0 → e6 = 0 ∧ e7 = 0 ∧ e8 = 0 ∧ SP p6 p8 := fun h1 h3 => by
    subst hp1 hp5 hp7 hp6 hp8 he1 he5 he6 he7 he8
    exact ring_add h1 h3
  have H21 : e1 = 0 → ∃ a b, xa = some a ∧ xb = some b ∧ a.c = b.r ∧ (⟨a.r, b.c, fun i j => dot a.F b.F i j a.c⟩ : PM) = p1 := fun h1 => by
    subst he1
    obtain ⟨a, b, h2, h3, h4, h5⟩ := oMul_some h1
    exact ⟨a, b, h2, h3, h4, by rw [← hp1, h5]; rfl⟩
  obtain ⟨w1, hw1, b3, b4, b5, z1, s1⟩ := boxes3 w 24 24 24 [.int .i64 r, .int .i64 c, .slice A n d] [.int .i64 r', .int .i64 c', .slice A' n' d'] [.int .i64 r₂, .int .i64 c₂, .slice A₂ n₂ d₂]
  have HW := Lib.hid hw1
  have HZ := Lib.hid z1
  have hp1_ := Lib.hid hp1
  have he1_ := Lib.hid he1
  have hp2_ := Lib.hid hp2
  have he2_ := Lib.hid he2
  have hp3_ := Lib.hid hp3
  have he3_ := Lib.hid he3
  have hp4_ := Lib.hid hp4
  have he4_ := Lib.hid he4
  have hp5_ := Lib.hid hp5
  have he5_ := Lib.hid he5
  have hp6_ := Lib.hid hp6
  have he6_ := Lib.hid he6
  have hp7_ := Lib.hid hp7
  have he7_ := Lib.hid he7
  have hp8_ := Lib.hid hp8
  have he8_ := Lib.hid he8
  have hE1_ := Lib.hid hE1
  have hE3_ := Lib.hid hE3
  have hE5_ := Lib.hid hE5
  have H7_ := Lib.hid H7
  have H13_ := Lib.hid H13
  have H21_ := Lib.hid H21
  have ht1_ := Lib.hid ht1
  have ht2_ := Lib.hid ht2
  have ht3_ := Lib.hid ht3
  clear hw1 z1 hp1 he1 hp2 he2 hp3 he3 hp4 he4 hp5 he5 hp6 he6 hp7 he7 hp8 he8 hE1 hE3 hE5 H7 H13 H21 ht1 ht2 ht3 s1
  go_enter Try.func8, Try.ntmps8
  go_upto_region 1 with fail
  rw [HW.out]
  refine Run.start 17 ?_
  refine .c0 (x := .k (.bool true)) (fun w2 hB => awake11_q w2) ?_
  refine .nt (.i 0) ?_
  refine .mv (.i 1) ?_
  refine .ld .o (ldM b3 0) ?_
  refine .c3 (.i 3) .o .o (x := .k (.bool true)) (by rintro u v x w2 hB rfl rfl rfl; exact rfew_q (N := 4) (W := 2) (ha.below (zup HZ.out hB)) ht1_.out (by omega)) ?_
  refine .nt (.i 4) ?_
  refine .pk (.i 2) (.i 5) false ?_
  refine .mv (.i 6) ?_
  refine .ld .o (ldM b4 0) ?_
  refine .c3 (.i 8) .o .o (x := .k (.bool true)) (by rintro u v x w2 hB rfl rfl rfl; exact rfew_q (N := 4) (W := 2) (hb.below (zup HZ.out hB)) ht2_.out (by omega)) ?_
  refine .nt (.i 9) ?_
  refine .pk (.i 7) (.i 10) false ?_
  refine .mv (.i 11) ?_
  refine .ld .o (ldM b5 0) ?_
  refine .c3 (.i 13) .o .o (x := .k (.bool true)) (by rintro u v x w2 hB rfl rfl rfl; exact rfew_q (N := 4) (W := 2) (hc.below (zup HZ.out hB)) ht3_.out (by omega)) ?_
  refine .nt (.i 14) ?_
  refine .pk (.i 12) (.i 15) false ?_
  refine .donep [some 31, some 32, some 33, some 34, some 35, some 36, some 37, some 38, some 39, some 40, some 41, some 42, some 43, some 44, some 45, some 46, some 47] ?_
  intro w2 B2
  change Shut (wpList _ _ _ [] _ _)
  refine ⟨?_⟩
  simp only [Act.put, List.setIfInBounds_toArray, List.set_cons_zero, List.set_cons_succ]
  have B0 := zup HZ.out B2
  replace b3 := b3.below B2
  replace b4 := b4.below B2
  replace b5 := b5.below B2
  clear B2 HZ
  go_upto_region 3 with fail
  refine Run.start 7 ?_
  refine .ld .o (ldM b3 0) ?_
  refine .ld .o (ldM b4 0) ?_
  refine .c2 (.i 0) (.i 1) (x := kT (kM true p1.r p1.c (68) (p1.F)) (.k (.int .i64 e1))) (by rintro u v w2 hB rfl rfl; exact mmul_tot (ra.below (zup B0 hB)) (rb.below (zup B0 hB)) hp1_.out he1_.out (by omega) (by omega)) ?_
  refine .mf (.i 2) ?_
  refine .ex (.i 3) 0 kT_0 ?_
  refine .ex (.i 3) 1 kT_1 ?_
  refine .al ?_
  refine .donep [some 50, some 51, some 52, some 49, some 53, some 54, some 7] ?_
  intro w2 B2
  rintro v1 -
  rintro v2 -
  rintro v3 ⟨A7, n7, d7, rfl, m7⟩
  rintro g7 hg7 hl7 hc7 -
  change Shut (wpList _ _ _ [_, _] _ _)
  refine ⟨?_⟩
  simp only [Act.put, List.setIfInBounds_toArray, List.set_cons_zero, List.set_cons_succ]
  have b7 := zeroM hc7
  have hs7 := B0.size
  have hl_b3 := b3.lt
  have hl_b4 := b4.lt
  have hl_b5 := b5.lt
  replace B0 := zup B0 B2
  replace b3 := b3.below B2
  replace b4 := b4.below B2
  replace b5 := b5.below B2
  clear B2 hc7
  obtain ⟨w3, hw3⟩ : ∃ x, mput w2 g7 (p1.r : Int) (p1.c : Int) A7 n7 d7 = x := ⟨_, rfl⟩
  obtain ⟨f0_, f1_, f2_, f3_, f4_, f5_, f6_⟩ := b7.m3
  replace b3 := b3.mo (g := g7) (r := (p1.r : Int)) (c := (p1.c : Int)) (A := A7) (n := n7) (d := d7) (by omega)
  rw [hw3] at b3
  replace b4 := b4.mo (g := g7) (r := (p1.r : Int)) (c := (p1.c : Int)) (A := A7) (n := n7) (d := d7) (by omega)
  rw [hw3] at b4
  replace b5 := b5.mo (g := g7) (r := (p1.r : Int)) (c := (p1.c : Int)) (A := A7) (n := n7) (d := d7) (by omega)
  rw [hw3] at b5
  replace m7 := m7.put (r' := (p1.r : Int)) (c' := (p1.c : Int)) (C := A7) (n' := n7) (d' := d7) b7
  rw [hw3] at m7
  replace B0 := below_mput (g := g7) (r := (p1.r : Int)) (c := (p1.c : Int)) (A := A7) (n := n7) (d := d7) B0 (by omega)
  rw [hw3] at B0
  replace b7 := b7.mp (g := g7) (r := (p1.r : Int)) (c := (p1.c : Int)) (A := A7) (n := n7) (d := d7)
  rw [hw3] at b7
  have Hw3 := Lib.hid hw3
  unfold mput at Hw3
  clear hw3
  go_upto_region 4 with fail
  rw [Hw3.out]
  clear f0_ f1_ f2_ f3_ f4_ f5_ f6_ Hw3
  clear hs7 hl_b3 hl_b4 hl_b5
  refine Run.start 7 ?_
  refine .ld .o (ldM b7 0) ?_
  refine .ld .o (ldM b5 0) ?_
  refine .c2 (.i 0) (.i 1) (x := kT (kM true p2.r p2.c (134) (p2.F)) (.k (.int .i64 e2))) (by rintro u v w2 hB rfl rfl; exact mmul_tot (m7.below hB).raw (rc.below (zup B0 hB)) hp2_.out he2_.out (by omega) (by omega)) ?_
  refine .mf (.i 2) ?_
  refine .ex (.i 3) 0 kT_0 ?_
  refine .ex (.i 3) 1 kT_1 ?_
  refine .al ?_
  refine .donep [some 56, some 57, some 58, some 55, some 59, some 60, some 9] ?_
  intro w4 B4
  rintro v1 -
  rintro v2 -
  rintro v3 ⟨A9, n9, d9, rfl, m9⟩
  rintro g9 hg9 hl9 hc9 -
  change Shut (wpList _ _ _ [_, _] _ _)
  refine ⟨?_⟩
  simp only [Act.put, List.setIfInBounds_toArray, List.set_cons_zero, List.set_cons_succ]
  have b9 := zeroM hc9
  have hs9 := B0.size
  have hl_b3 := b3.lt
  have hl_b4 := b4.lt
  have hl_b5 := b5.lt
  have hl_b7 := b7.lt
  replace B0 := zup B0 B4
  replace b3 := b3.below B4
  replace b4 := b4.below B4
  replace b5 := b5.below B4
  replace b7 := b7.below B4
  replace m7 := m7.below B4
  clear B4 hc9
  obtain ⟨w5, hw5⟩ : ∃ x, mput w4 g9 (p2.r : Int) (p2.c : Int) A9 n9 d9 = x := ⟨_, rfl⟩
  obtain ⟨f0_, f1_, f2_, f3_, f4_, f5_, f6_⟩ := b9.m3
  replace b3 := b3.mo (g := g9) (r := (p2.r : Int)) (c := (p2.c : Int)) (A := A9) (n := n9) (d := d9) (by omega)
  rw [hw5] at b3
  replace b4 := b4.mo (g := g9) (r := (p2.r : Int)) (c := (p2.c : Int)) (A := A9) (n := n9) (d := d9) (by omega)
  rw [hw5] at b4
  replace b5 := b5.mo (g := g9) (r := (p2.r : Int)) (c := (p2.c : Int)) (A := A9) (n := n9) (d := d9) (by omega)
  rw [hw5] at b5
  replace b7 := b7.mo (g := g9) (r := (p2.r : Int)) (c := (p2.c : Int)) (A := A9) (n := n9) (d := d9) (by omega)
  rw [hw5] at b7
  replace m7 := m7.put (r' := (p2.r : Int)) (c' := (p2.c : Int)) (C := A9) (n' := n9) (d' := d9) b9
  rw [hw5] at m7
  replace m9 := m9.put (r' := (p2.r : Int)) (c' := (p2.c : Int)) (C := A9) (n' := n9) (d' := d9) b9
  rw [hw5] at m9
  replace B0 := below_mput (g := g9) (r := (p2.r : Int)) (c := (p2.c : Int)) (A := A9) (n := n9) (d := d9) B0 (by omega)
  rw [hw5] at B0
  replace b9 := b9.mp (g := g9) (r := (p2.r : Int)) (c := (p2.c : Int)) (A := A9) (n := n9) (d := d9)
  rw [hw5] at b9
  have Hw5 := Lib.hid hw5
  unfold mput at Hw5
  clear hw5
  go_upto_region 5 with fail
  rw [Hw5.out]
  clear f0_ f1_ f2_ f3_ f4_ f5_ f6_ Hw5
  clear hs9 hl_b3 hl_b4 hl_b5 hl_b7
  refine Run.start 7 ?_
  refine .ld .o (ldM b4 0) ?_
  refine .ld .o (ldM b5 0) ?_
  refine .c2 (.i 0) (.i 1) (x := kT (kM true p3.r p3.c (68) (p3.F)) (.k (.int .i64 e3))) (by rintro u v w2 hB rfl rfl; exact mmul_tot (rb.below (zup B0 hB)) (rc.below (zup B0 hB)) hp3_.out he3_.out (by omega) (by omega)) ?_
  refine .mf (.i 2) ?_
  refine .ex (.i 3) 0 kT_0 ?_
  refine .ex (.i 3) 1 kT_1 ?_
  refine .al ?_
  refine .donep [some 62, some 63, some 64, some 61, some 65, some 66, some 11] ?_
  intro w6 B6
  rintro v1 -
  rintro v2 -
  rintro v3 ⟨A11, n11, d11, rfl, m11⟩
  rintro g11 hg11 hl11 hc11 -
  change Shut (wpList _ _ _ [_, _] _ _)
  refine ⟨?_⟩
  simp only [Act.put, List.setIfInBounds_toArray, List.set_cons_zero, List.set_cons_succ]
  have b11 := zeroM hc11
  have hs11 := B0.size
  have hl_b3 := b3.lt
  have hl_b4 := b4.lt
  have hl_b5 := b5.lt
  have hl_b7 := b7.lt
  have hl_b9 := b9.lt
  replace B0 := zup B0 B6
  replace b3 := b3.below B6
  replace b4 := b4.below B6
  replace b5 := b5.below B6
  replace b7 := b7.below B6
  replace b9 := b9.below B6
  replace m7 := m7.below B6
  replace m9 := m9.below B6
  clear B6 hc11
  obtain ⟨w7, hw7⟩ : ∃ x, mput w6 g11 (p3.r : Int) (p3.c : Int) A11 n11 d11 = x := ⟨_, rfl⟩
  obtain ⟨f0_, f1_, f2_, f3_, f4_, f5_, f6_⟩ := b11.m3
  replace b3 := b3.mo (g := g11) (r := (p3.r : Int)) (c := (p3.c : Int)) (A := A11) (n := n11) (d := d11) (by omega)
  rw [hw7] at b3
  replace b4 := b4.mo (g := g11) (r := (p3.r : Int)) (c := (p3.c : Int)) (A := A11) (n := n11) (d := d11) (by omega)
  rw [hw7] at b4
  replace b5 := b5.mo (g := g11) (r := (p3.r : Int)) (c := (p3.c : Int)) (A := A11) (n := n11) (d := d11) (by omega)
  rw [hw7] at b5
  replace b7 := b7.mo (g := g11) (r := (p3.r : Int)) (c := (p3.c : Int)) (A := A11) (n := n11) (d := d11) (by omega)
  rw [hw7] at b7
  replace b9 := b9.mo (g := g11) (r := (p3.r : Int)) (c := (p3.c : Int)) (A := A11) (n := n11) (d := d11) (by omega)
  rw [hw7] at b9
  replace m7 := m7.put (r' := (p3.r : Int)) (c' := (p3.c : Int)) (C := A11) (n' := n11) (d' := d11) b11
  rw [hw7] at m7
  replace m9 := m9.put (r' := (p3.r : Int)) (c' := (p3.c : Int)) (C := A11) (n' := n11) (d' := d11) b11
  rw [hw7] at m9
  replace m11 := m11.put (r' := (p3.r : Int)) (c' := (p3.c : Int)) (C := A11) (n' := n11) (d' := d11) b11
  rw [hw7] at m11
  replace B0 := below_mput (g := g11) (r := (p3.r : Int)) (c := (p3.c : Int)) (A := A11) (n := n11) (d := d11) B0 (by omega)
  rw [hw7] at B0
  replace b11 := b11.mp (g := g11) (r := (p3.r : Int)) (c := (p3.c : Int)) (A := A11) (n := n11) (d := d11)
  rw [hw7] at b11
  have Hw7 := Lib.hid hw7
  unfold mput at Hw7
  clear hw7
  go_upto_region 6 with fail
  rw [Hw7.out]
  clear f0_ f1_ f2_ f3_ f4_ f5_ f6_ Hw7
  clear hs11 hl_b3 hl_b4 hl_b5 hl_b7 hl_b9
  refine Run.start 7 ?_
  refine .ld .o (ldM b3 0) ?_
  refine .ld .o (ldM b11 0) ?_
  refine .c2 (.i 0) (.i 1) (x := kT (kM true p4.r p4.c (134) (p4.F)) (.k (.int .i64 e4))) (by rintro u v w2 hB rfl rfl; exact mmul_tot (ra.below (zup B0 hB)) (m11.below hB).raw hp4_.out he4_.out (by omega) (by omega)) ?_
  refine .mf (.i 2) ?_
  refine .ex (.i 3) 0 kT_0 ?_
  refine .ex (.i 3) 1 kT_1 ?_
  refine .al ?_
  refine .donep [some 68, some 69, some 70, some 67, some 71, some 72, some 13] ?_
  intro w8 B8
  rintro v1 -
  rintro v2 -
  rintro v3 ⟨A13, n13, d13, rfl, m13⟩
  rintro g13 hg13 hl13 hc13 -
  change Shut (wpList _ _ _ [_, _] _ _)
  refine ⟨?_⟩
  simp only [Act.put, List.setIfInBounds_toArray, List.set_cons_zero, List.set_cons_succ]
  have b13 := zeroM hc13
  have hs13 := B0.size
  have hl_b3 := b3.lt
  have hl_b4 := b4.lt
  have hl_b5 := b5.lt
  have hl_b7 := b7.lt
  have hl_b9 := b9.lt
  have hl_b11 := b11.lt
  replace B0 := zup B0 B8
  replace b3 := b3.below B8
  replace b4 := b4.below B8
  replace b5 := b5.below B8
  replace b7 := b7.below B8
  replace b9 := b9.below B8
  replace b11 := b11.below B8
  replace m7 := m7.below B8
  replace m9 := m9.below B8
  replace m11 := m11.below B8
  clear B8 hc13
  obtain ⟨w9, hw9⟩ : ∃ x, mput w8 g13 (p4.r : Int) (p4.c : Int) A13 n13 d13 = x := ⟨_, rfl⟩
  obtain ⟨f0_, f1_, f2_, f3_, f4_, f5_, f6_⟩ := b13.m3
  replace b3 := b3.mo (g := g13) (r := (p4.r : Int)) (c := (p4.c : Int)) (A := A13) (n := n13) (d := d13) (by omega)
  rw [hw9] at b3
  replace b4 := b4.mo (g := g13) (r := (p4.r : Int)) (c := (p4.c : Int)) (A := A13) (n := n13) (d := d13) (by omega)
  rw [hw9] at b4
  replace b5 := b5.mo (g := g13) (r := (p4.r : Int)) (c := (p4.c : Int)) (A := A13) (n := n13) (d := d13) (by omega)
  rw [hw9] at b5
  replace b7 := b7.mo (g := g13) (r := (p4.r : Int)) (c := (p4.c : Int)) (A := A13) (n := n13) (d := d13) (by omega)
  rw [hw9] at b7
  replace b9 := b9.mo (g := g13) (r := (p4.r : Int)) (c := (p4.c : Int)) (A := A13) (n := n13) (d := d13) (by omega)
  rw [hw9] at b9
  replace b11 := b11.mo (g := g13) (r := (p4.r : Int)) (c := (p4.c : Int)) (A := A13) (n := n13) (d := d13) (by omega)
  rw [hw9] at b11
  replace m7 := m7.put (r' := (p4.r : Int)) (c' := (p4.c : Int)) (C := A13) (n' := n13) (d' := d13) b13
  rw [hw9] at m7
  replace m9 := m9.put (r' := (p4.r : Int)) (c' := (p4.c : Int)) (C := A13) (n' := n13) (d' := d13) b13
  rw [hw9] at m9
  replace m11 := m11.put (r' := (p4.r : Int)) (c' := (p4.c : Int)) (C := A13) (n' := n13) (d' := d13) b13
  rw [hw9] at m11
  replace m13 := m13.put (r' := (p4.r : Int)) (c' := (p4.c : Int)) (C := A13) (n' := n13) (d' := d13) b13
  rw [hw9] at m13
  replace B0 := below_mput (g := g13) (r := (p4.r : Int)) (c := (p4.c : Int)) (A := A13) (n := n13) (d := d13) B0 (by omega)
  rw [hw9] at B0
  replace b13 := b13.mp (g := g13) (r := (p4.r : Int)) (c := (p4.c : Int)) (A := A13) (n := n13) (d := d13)
  rw [hw9] at b13
  have Hw9 := Lib.hid hw9
  unfold mput at Hw9
  clear hw9
  go_upto_region 7 with fail
  rw [Hw9.out]
  clear f0_ f1_ f2_ f3_ f4_ f5_ f6_ Hw9
  clear hs13 hl_b3 hl_b4 hl_b5 hl_b7 hl_b9 hl_b11
  refine Run.merge 20 [kAny, kAny, kAny, kAny, kAny, kAny, kAny, kAny, kAny, kAny, kAny, kAny, kAny, kAny, kAny, kAny, kAny, kAny, kAny, .k (.bool false)] [some 73, some 74, some 75, some 76, some 77, some 78, some 79, some 80, some 81, some 82, some 83, some 84, some 85, some 86, some 87, some 88, some 89, some 90, some 91, some 92] (fun HR => ?_) ?_
  · by_cases h1 : e1 = 0
    · by_cases h3 : e3 = 0
      · obtain ⟨h2, h4, hs⟩ := H7_.out h1 h3
        refine .mv .o ?_
        refine .two (.i 0) .o (opEq (decide_eq_true h1)) ?_
        refine .mv (.i 1) ?_
        refine .mv .o ?_
        refine .two (.i 3) .o (opEq (decide_eq_true h3)) ?_
        refine .pk (.i 2) (.i 4) true ?_
        refine .mv (.i 5) ?_
        refine .mv .o ?_
        refine .two (.i 7) .o (opNe (decide_eq_false (fun h => h h2) : decide (_ ≠ (0 : Int)) = false)) ?_
        refine .mv (.i 8) ?_
        refine .mv .o ?_
        refine .two (.i 10) .o (opNe (decide_eq_false (fun h => h h4) : decide (_ ≠ (0 : Int)) = false)) ?_
        refine .pk (.i 9) (.i 11) false ?_
        refine .mv (.i 12) ?_
        refine .ld .o (ldM b9 0) ?_
        refine .ld .o (ldM b13 0) ?_
        refine .c2 (.i 14) (.i 15) (x := .k (.bool true)) (by rintro u v w2 hB rfl rfl; exact msame_sp (m9.below hB) (m13.below hB) hs (by omega) (by omega)) ?_
        refine .nt (.i 16) ?_
        refine .pk (.i 13) (.i 17) false ?_
        refine .pk (.i 6) (.i 18) true ?_
        refine .donep [some 73, some 74, some 75, some 76, some 77, some 78, some 79, some 80, some 81, some 82, some 83, some 84, some 85, some 86, some 87, some 88, some 89, some 90, some 91, some 92] ?_
        intro w10 B10
        exact (HR w10 B10).weaker ⟨fun _ => trivial, fun _ => trivial, fun _ => trivial, fun _ => trivial, fun _ => trivial, fun _ => trivial, fun _ => trivial, fun _ => trivial, fun _ => trivial, fun _ => trivial, fun _ => trivial, fun _ => trivial, fun _ => trivial, fun _ => trivial, fun _ => trivial, fun _ => trivial, fun _ => trivial, fun _ => trivial, fun _ => trivial, rfl, trivial⟩
      · refine .mv .o ?_
        refine .two (.i 0) .o (opEq (decide_eq_true h1)) ?_
        refine .mv (.i 1) ?_
        refine .mv .o ?_
        refine .two (.i 3) .o (opEq (decide_eq_false h3)) ?_
        refine .pk (.i 2) (.i 4) true ?_
        refine .mv (.i 5) ?_
        refine .no ?_
        refine .no ?_
        refine .no ?_
        refine .no ?_
        refine .no ?_
        refine .no ?_
        refine .no ?_
        refine .no ?_
        refine .no ?_
        refine .no ?_
        refine .no ?_
        refine .no ?_
        refine .pk (.i 6) .o false ?_
        refine .donep [some 73, some 74, some 75, some 76, some 77, some 78, some 79, some 80, some 81, some 82, some 83, some 84, some 85, some 86, some 87, some 88, some 89, some 90, some 91, some 92] ?_
        intro w10 B10
        exact (HR w10 B10).weaker ⟨fun _ => trivial, fun _ => trivial, fun _ => trivial, fun _ => trivial, fun _ => trivial, fun _ => trivial, fun _ => trivial, fun _ => trivial, fun _ => trivial, fun _ => trivial, fun _ => trivial, fun _ => trivial, fun _ => trivial, fun _ => trivial, fun _ => trivial, fun _ => trivial, fun _ => trivial, fun _ => trivial, fun _ => trivial, rfl, trivial⟩
    · refine .mv .o ?_
      refine .two (.i 0) .o (opEq (decide_eq_false h1)) ?_
      refine .mv (.i 1) ?_
      refine .no ?_
      refine .no ?_
      refine .pk (.i 2) .o false ?_
      refine .mv (.i 5) ?_
      refine .no ?_
      refine .no ?_
      refine .no ?_
      refine .no ?_
      refine .no ?_
      refine .no ?_
      refine .no ?_
      refine .no ?_
      refine .no ?_
      refine .no ?_
      refine .no ?_
      refine .no ?_
      refine .pk (.i 6) .o false ?_
      refine .donep [some 73, some 74, some 75, some 76, some 77, some 78, some 79, some 80, some 81, some 82, some 83, some 84, some 85, some 86, some 87, some 88, some 89, some 90, some 91, some 92] ?_
      intro w10 B10
      exact (HR w10 B10).weaker ⟨fun _ => trivial, fun _ => trivial, fun _ => trivial, fun _ => trivial, fun _ => trivial, fun _ => trivial, fun _ => trivial, fun _ => trivial, fun _ => trivial, fun _ => trivial, fun _ => trivial, fun _ => trivial, fun _ => trivial, fun _ => trivial, fun _ => trivial, fun _ => trivial, fun _ => trivial, fun _ => trivial, fun _ => trivial, rfl, trivial⟩
  · intro w10 B10
    rintro y0 -
    rintro y1 -
    rintro y2 -
    rintro y3 -
    rintro y4 -
    rintro y5 -
    rintro y6 -
    rintro y7 -
    rintro y8 -
    rintro y9 -
    rintro y10 -
    rintro y11 -
    rintro y12 -
    rintro y13 -
    rintro y14 -
    rintro y15 -
    rintro y16 -
    rintro y17 -
    rintro y18 -
    change Shut (wpList _ _ _ [] _ _)
    refine ⟨?_⟩
    simp only [Act.put, List.setIfInBounds_toArray, List.set_cons_zero, List.set_cons_succ]
    clear b9 m9 b11 m11 b13 m13
    replace B0 := zup B0 B10
    replace b3 := b3.below B10
    replace b4 := b4.below B10
    replace b5 := b5.below B10
    replace b7 := b7.below B10
    replace m7 := m7.below B10
    clear B10
    go_upto_region 9 with fail
    refine Run.start 7 ?_
    refine .ld .o (ldM b4 0) ?_
    refine .ld .o (ldM b5 0) ?_
    refine .c2 (.i 0) (.i 1) (x := kT (kM true p5.r p5.c (3) (p5.F)) (.k (.int .i64 e5))) (by rintro u v w2 hB rfl rfl; exact madd_tot (rb.below (zup B0 hB)) (rc.below (zup B0 hB)) hp5_.out he5_.out (by omega) (by omega) (by omega)) ?_
    refine .mf (.i 2) ?_
    refine .ex (.i 3) 0 kT_0 ?_
    refine .ex (.i 3) 1 kT_1 ?_
    refine .al ?_
    refine .donep [some 94, some 95, some 96, some 93, some 97, some 98, some 15] ?_
    intro w11 B11
    rintro v1 -
    rintro v2 -
    rintro v3 ⟨A15, n15, d15, rfl, m15⟩
    rintro g15 hg15 hl15 hc15 -
    change Shut (wpList _ _ _ [_, _] _ _)
    refine ⟨?_⟩
    simp only [Act.put, List.setIfInBounds_toArray, List.set_cons_zero, List.set_cons_succ]
    have b15 := zeroM hc15
    have hs15 := B0.size
    have hl_b3 := b3.lt
    have hl_b4 := b4.lt
    have hl_b5 := b5.lt
    have hl_b7 := b7.lt
    replace B0 := zup B0 B11
    replace b3 := b3.below B11
    replace b4 := b4.below B11
    replace b5 := b5.below B11
    replace b7 := b7.below B11
    replace m7 := m7.below B11
    clear B11 hc15
    obtain ⟨w12, hw12⟩ : ∃ x, mput w11 g15 (p5.r : Int) (p5.c : Int) A15 n15 d15 = x := ⟨_, rfl⟩
    obtain ⟨f0_, f1_, f2_, f3_, f4_, f5_, f6_⟩ := b15.m3
    replace b3 := b3.mo (g := g15) (r := (p5.r : Int)) (c := (p5.c : Int)) (A := A15) (n := n15) (d := d15) (by omega)
    rw [hw12] at b3
    replace b4 := b4.mo (g := g15) (r := (p5.r : Int)) (c := (p5.c : Int)) (A := A15) (n := n15) (d := d15) (by omega)
    rw [hw12] at b4
    replace b5 := b5.mo (g := g15) (r := (p5.r : Int)) (c := (p5.c : Int)) (A := A15) (n := n15) (d := d15) (by omega)
    rw [hw12] at b5
    replace b7 := b7.mo (g := g15) (r := (p5.r : Int)) (c := (p5.c : Int)) (A := A15) (n := n15) (d := d15) (by omega)
    rw [hw12] at b7
    replace m7 := m7.put (r' := (p5.r : Int)) (c' := (p5.c : Int)) (C := A15) (n' := n15) (d' := d15) b15
    rw [hw12] at m7
    replace m15 := m15.put (r' := (p5.r : Int)) (c' := (p5.c : Int)) (C := A15) (n' := n15) (d' := d15) b15
    rw [hw12] at m15
    replace B0 := below_mput (g := g15) (r := (p5.r : Int)) (c := (p5.c : Int)) (A := A15) (n := n15) (d := d15) B0 (by omega)
    rw [hw12] at B0
    replace b15 := b15.mp (g := g15) (r := (p5.r : Int)) (c := (p5.c : Int)) (A := A15) (n := n15) (d := d15)
    rw [hw12] at b15
    have Hw12 := Lib.hid hw12
    unfold mput at Hw12
    clear hw12
    go_upto_region 10 with fail
    rw [Hw12.out]
    clear f0_ f1_ f2_ f3_ f4_ f5_ f6_ Hw12
    clear hs15 hl_b3 hl_b4 hl_b5 hl_b7
    refine Run.start 7 ?_
    refine .ld .o (ldM b3 0) ?_
    refine .ld .o (ldM b15 0) ?_
    refine .c2 (.i 0) (.i 1) (x := kT (kM true p6.r p6.c (69) (p6.F)) (.k (.int .i64 e6))) (by rintro u v w2 hB rfl rfl; exact mmul_tot (ra.below (zup B0 hB)) (m15.below hB).raw hp6_.out he6_.out (by omega) (by omega)) ?_
    refine .mf (.i 2) ?_
    refine .ex (.i 3) 0 kT_0 ?_
    refine .ex (.i 3) 1 kT_1 ?_
    refine .al ?_
    refine .donep [some 100, some 101, some 102, some 99, some 103, some 104, some 17] ?_
    intro w13 B13
    rintro v1 -
    rintro v2 -
    rintro v3 ⟨A17, n17, d17, rfl, m17⟩
    rintro g17 hg17 hl17 hc17 -
    change Shut (wpList _ _ _ [_, _] _ _)
    refine ⟨?_⟩
    simp only [Act.put, List.setIfInBounds_toArray, List.set_cons_zero, List.set_cons_succ]
    have b17 := zeroM hc17
    have hs17 := B0.size
    have hl_b3 := b3.lt
    have hl_b4 := b4.lt
    have hl_b5 := b5.lt
    have hl_b7 := b7.lt
    have hl_b15 := b15.lt
    replace B0 := zup B0 B13
    replace b3 := b3.below B13
    replace b4 := b4.below B13
    replace b5 := b5.below B13
    replace b7 := b7.below B13
    replace b15 := b15.below B13
    replace m7 := m7.below B13
    replace m15 := m15.below B13
    clear B13 hc17
    obtain ⟨w14, hw14⟩ : ∃ x, mput w13 g17 (p6.r : Int) (p6.c : Int) A17 n17 d17 = x := ⟨_, rfl⟩
    obtain ⟨f0_, f1_, f2_, f3_, f4_, f5_, f6_⟩ := b17.m3
    replace b3 := b3.mo (g := g17) (r := (p6.r : Int)) (c := (p6.c : Int)) (A := A17) (n := n17) (d := d17) (by omega)
    rw [hw14] at b3
    replace b4 := b4.mo (g := g17) (r := (p6.r : Int)) (c := (p6.c : Int)) (A := A17) (n := n17) (d := d17) (by omega)
    rw [hw14] at b4
    replace b5 := b5.mo (g := g17) (r := (p6.r : Int)) (c := (p6.c : Int)) (A := A17) (n := n17) (d := d17) (by omega)
    rw [hw14] at b5
    replace b7 := b7.mo (g := g17) (r := (p6.r : Int)) (c := (p6.c : Int)) (A := A17) (n := n17) (d := d17) (by omega)
    rw [hw14] at b7
    replace b15 := b15.mo (g := g17) (r := (p6.r : Int)) (c := (p6.c : Int)) (A := A17) (n := n17) (d := d17) (by omega)
    rw [hw14] at b15
    replace m7 := m7.put (r' := (p6.r : Int)) (c' := (p6.c : Int)) (C := A17) (n' := n17) (d' := d17) b17
    rw [hw14] at m7
    replace m15 := m15.put (r' := (p6.r : Int)) (c' := (p6.c : Int)) (C := A17) (n' := n17) (d' := d17) b17
    rw [hw14] at m15
    replace m17 := m17.put (r' := (p6.r : Int)) (c' := (p6.c : Int)) (C := A17) (n' := n17) (d' := d17) b17
    rw [hw14] at m17
    replace B0 := below_mput (g := g17) (r := (p6.r : Int)) (c := (p6.c : Int)) (A := A17) (n := n17) (d := d17) B0 (by omega)
    rw [hw14] at B0
    replace b17 := b17.mp (g := g17) (r := (p6.r : Int)) (c := (p6.c : Int)) (A := A17) (n := n17) (d := d17)
    rw [hw14] at b17
    have Hw14 := Lib.hid hw14
    unfold mput at Hw14
    clear hw14
    go_upto_region 11 with fail
    rw [Hw14.out]
    clear f0_ f1_ f2_ f3_ f4_ f5_ f6_ Hw14
    clear hs17 hl_b3 hl_b4 hl_b5 hl_b7 hl_b15
    refine Run.start 7 ?_
    refine .ld .o (ldM b3 0) ?_
    refine .ld .o (ldM b5 0) ?_
    refine .c2 (.i 0) (.i 1) (x := kT (kM true p7.r p7.c (68) (p7.F)) (.k (.int .i64 e7))) (by rintro u v w2 hB rfl rfl; exact mmul_tot (ra.below (zup B0 hB)) (rc.below (zup B0 hB)) hp7_.out he7_.out (by omega) (by omega)) ?_
    refine .mf (.i 2) ?_
    refine .ex (.i 3) 0 kT_0 ?_
    refine .ex (.i 3) 1 kT_1 ?_
    refine .al ?_
    refine .donep [some 106, some 107, some 108, some 105, some 109, some 110, some 19] ?_
    intro w15 B15
    rintro v1 -
    rintro v2 -
    rintro v3 ⟨A19, n19, d19, rfl, m19⟩
    rintro g19 hg19 hl19 hc19 -
    change Shut (wpList _ _ _ [_, _] _ _)
    refine ⟨?_⟩
    simp only [Act.put, List.setIfInBounds_toArray, List.set_cons_zero, List.set_cons_succ]
    have b19 := zeroM hc19
    have hs19 := B0.size
    have hl_b3 := b3.lt
    have hl_b4 := b4.lt
    have hl_b5 := b5.lt
    have hl_b7 := b7.lt
    have hl_b15 := b15.lt
    have hl_b17 := b17.lt
    replace B0 := zup B0 B15
    replace b3 := b3.below B15
    replace b4 := b4.below B15
    replace b5 := b5.below B15
    replace b7 := b7.below B15
    replace b15 := b15.below B15
    replace b17 := b17.below B15
    replace m7 := m7.below B15
    replace m15 := m15.below B15
    replace m17 := m17.below B15
    clear B15 hc19
    obtain ⟨w16, hw16⟩ : ∃ x, mput w15 g19 (p7.r : Int) (p7.c : Int) A19 n19 d19 = x := ⟨_, rfl⟩
    obtain ⟨f0_, f1_, f2_, f3_, f4_, f5_, f6_⟩ := b19.m3
    replace b3 := b3.mo (g := g19) (r := (p7.r : Int)) (c := (p7.c : Int)) (A := A19) (n := n19) (d := d19) (by omega)
    rw [hw16] at b3
    replace b4 := b4.mo (g := g19) (r := (p7.r : Int)) (c := (p7.c : Int)) (A := A19) (n := n19) (d := d19) (by omega)
    rw [hw16] at b4
    replace b5 := b5.mo (g := g19) (r := (p7.r : Int)) (c := (p7.c : Int)) (A := A19) (n := n19) (d := d19) (by omega)
    rw [hw16] at b5
    replace b7 := b7.mo (g := g19) (r := (p7.r : Int)) (c := (p7.c : Int)) (A := A19) (n := n19) (d := d19) (by omega)
    rw [hw16] at b7
    replace b15 := b15.mo (g := g19) (r := (p7.r : Int)) (c := (p7.c : Int)) (A := A19) (n := n19) (d := d19) (by omega)
    rw [hw16] at b15
    replace b17 := b17.mo (g := g19) (r := (p7.r : Int)) (c := (p7.c : Int)) (A := A19) (n := n19) (d := d19) (by omega)
    rw [hw16] at b17
    replace m7 := m7.put (r' := (p7.r : Int)) (c' := (p7.c : Int)) (C := A19) (n' := n19) (d' := d19) b19
    rw [hw16] at m7
    replace m15 := m15.put (r' := (p7.r : Int)) (c' := (p7.c : Int)) (C := A19) (n' := n19) (d' := d19) b19
    rw [hw16] at m15
    replace m17 := m17.put (r' := (p7.r : Int)) (c' := (p7.c : Int)) (C := A19) (n' := n19) (d' := d19) b19
    rw [hw16] at m17
    replace m19 := m19.put (r' := (p7.r : Int)) (c' := (p7.c : Int)) (C := A19) (n' := n19) (d' := d19) b19
    rw [hw16] at m19
    replace B0 := below_mput (g := g19) (r := (p7.r : Int)) (c := (p7.c : Int)) (A := A19) (n := n19) (d := d19) B0 (by omega)
    rw [hw16] at B0
    replace b19 := b19.mp (g := g19) (r := (p7.r : Int)) (c := (p7.c : Int)) (A := A19) (n := n19) (d := d19)
    rw [hw16] at b19
    have Hw16 := Lib.hid hw16
    unfold mput at Hw16
    clear hw16
    go_upto_region 12 with fail
    rw [Hw16.out]
    clear f0_ f1_ f2_ f3_ f4_ f5_ f6_ Hw16
    clear hs19 hl_b3 hl_b4 hl_b5 hl_b7 hl_b15 hl_b17
    refine Run.start 7 ?_
    refine .ld .o (ldM b7 0) ?_
    refine .ld .o (ldM b19 0) ?_
    refine .c2 (.i 0) (.i 1) (x := kT (kM true p8.r p8.c (69) (p8.F)) (.k (.int .i64 e8))) (by rintro u v w2 hB rfl rfl; exact madd_tot (m7.below hB).raw (m19.below hB).raw hp8_.out he8_.out (by omega) (by omega) (by omega)) ?_
    refine .mf (.i 2) ?_
    refine .ex (.i 3) 0 kT_0 ?_
    refine .ex (.i 3) 1 kT_1 ?_
    refine .al ?_
    refine .donep [some 112, some 113, some 114, some 111, some 115, some 116, some 21] ?_
    intro w17 B17
    rintro v1 -
    rintro v2 -
    rintro v3 ⟨A21, n21, d21, rfl, m21⟩
    rintro g21 hg21 hl21 hc21 -
    change Shut (wpList _ _ _ [_, _] _ _)
    refine ⟨?_⟩
    simp only [Act.put, List.setIfInBounds_toArray, List.set_cons_zero, List.set_cons_succ]
    have b21 := zeroM hc21
    have hs21 := B0.size
    have hl_b3 := b3.lt
    have hl_b4 := b4.lt
    have hl_b5 := b5.lt
    have hl_b7 := b7.lt
    have hl_b15 := b15.lt
    have hl_b17 := b17.lt
    have hl_b19 := b19.lt
    replace B0 := zup B0 B17
    replace b3 := b3.below B17
    replace b4 := b4.below B17
    replace b5 := b5.below B17
    replace b7 := b7.below B17
    replace b15 := b15.below B17
    replace b17 := b17.below B17
    replace b19 := b19.below B17
    replace m7 := m7.below B17
    replace m15 := m15.below B17
    replace m17 := m17.below B17
    replace m19 := m19.below B17
    clear B17 hc21
    obtain ⟨w18, hw18⟩ : ∃ x, mput w17 g21 (p8.r : Int) (p8.c : Int) A21 n21 d21 = x := ⟨_, rfl⟩
    obtain ⟨f0_, f1_, f2_, f3_, f4_, f5_, f6_⟩ := b21.m3
    replace b3 := b3.mo (g := g21) (r := (p8.r : Int)) (c := (p8.c : Int)) (A := A21) (n := n21) (d := d21) (by omega)
    rw [hw18] at b3
    replace b4 := b4.mo (g := g21) (r := (p8.r : Int)) (c := (p8.c : Int)) (A := A21) (n := n21) (d := d21) (by omega)
    rw [hw18] at b4
    replace b5 := b5.mo (g := g21) (r := (p8.r : Int)) (c := (p8.c : Int)) (A := A21) (n := n21) (d := d21) (by omega)
    rw [hw18] at b5
    replace b7 := b7.mo (g := g21) (r := (p8.r : Int)) (c := (p8.c : Int)) (A := A21) (n := n21) (d := d21) (by omega)
    rw [hw18] at b7
    replace b15 := b15.mo (g := g21) (r := (p8.r : Int)) (c := (p8.c : Int)) (A := A21) (n := n21) (d := d21) (by omega)
    rw [hw18] at b15
    replace b17 := b17.mo (g := g21) (r := (p8.r : Int)) (c := (p8.c : Int)) (A := A21) (n := n21) (d := d21) (by omega)
    rw [hw18] at b17
    replace b19 := b19.mo (g := g21) (r := (p8.r : Int)) (c := (p8.c : Int)) (A := A21) (n := n21) (d := d21) (by omega)
    rw [hw18] at b19
    replace m7 := m7.put (r' := (p8.r : Int)) (c' := (p8.c : Int)) (C := A21) (n' := n21) (d' := d21) b21
    rw [hw18] at m7
    replace m15 := m15.put (r' := (p8.r : Int)) (c' := (p8.c : Int)) (C := A21) (n' := n21) (d' := d21) b21
    rw [hw18] at m15
    replace m17 := m17.put (r' := (p8.r : Int)) (c' := (p8.c : Int)) (C := A21) (n' := n21) (d' := d21) b21
    rw [hw18] at m17
    replace m19 := m19.put (r' := (p8.r : Int)) (c' := (p8.c : Int)) (C := A21) (n' := n21) (d' := d21) b21
    rw [hw18] at m19
    replace m21 := m21.put (r' := (p8.r : Int)) (c' := (p8.c : Int)) (C := A21) (n' := n21) (d' := d21) b21
    rw [hw18] at m21
    replace B0 := below_mput (g := g21) (r := (p8.r : Int)) (c := (p8.c : Int)) (A := A21) (n := n21) (d := d21) B0 (by omega)
    rw [hw18] at B0
    replace b21 := b21.mp (g := g21) (r := (p8.r : Int)) (c := (p8.c : Int)) (A := A21) (n := n21) (d := d21)
    rw [hw18] at b21
    have Hw18 := Lib.hid hw18
    unfold mput at Hw18
    clear hw18
    go_upto_region 13 with fail
    rw [Hw18.out]
    clear f0_ f1_ f2_ f3_ f4_ f5_ f6_ Hw18
    clear hs21 hl_b3 hl_b4 hl_b5 hl_b7 hl_b15 hl_b17 hl_b19
    refine Run.merge 24 [kAny, kAny, kAny, kAny, kAny, kAny, kAny, kAny, kAny, kAny, kAny, kAny, kAny, kAny, kAny, kAny, kAny, kAny, kAny, kAny, kAny, kAny, kAny, .k (.bool false)] [some 117, some 118, some 119, some 120, some 121, some 122, some 123, some 124, some 125, some 126, some 127, some 128, some 129, some 130, some 131, some 132, some 133, some 134, some 135, some 136, some 137, some 138, some 139, some 140] (fun HR => ?_) ?_
    · by_cases h5 : e5 = 0
      · by_cases h1 : e1 = 0
        · obtain ⟨h6, h7, h8, hs⟩ := H13_.out h5 h1
          refine .mv .o ?_
          refine .two (.i 0) .o (opEq (decide_eq_true h5)) ?_
          refine .mv (.i 1) ?_
          refine .mv .o ?_
          refine .two (.i 3) .o (opEq (decide_eq_true h1)) ?_
          refine .pk (.i 2) (.i 4) true ?_
          refine .mv (.i 5) ?_
          refine .mv .o ?_
          refine .two (.i 7) .o (opNe (decide_eq_false (fun h => h h6) : decide (_ ≠ (0 : Int)) = false)) ?_
          refine .mv (.i 8) ?_
          refine .mv .o ?_
          refine .two (.i 10) .o (opNe (decide_eq_false (fun h => h h7) : decide (_ ≠ (0 : Int)) = false)) ?_
          refine .pk (.i 9) (.i 11) false ?_
          refine .mv (.i 12) ?_
          refine .mv .o ?_
          refine .two (.i 14) .o (opNe (decide_eq_false (fun h => h h8) : decide (_ ≠ (0 : Int)) = false)) ?_
          refine .pk (.i 13) (.i 15) false ?_
          refine .mv (.i 16) ?_
          refine .ld .o (ldM b17 0) ?_
          refine .ld .o (ldM b21 0) ?_
          refine .c2 (.i 18) (.i 19) (x := .k (.bool true)) (by rintro u v w2 hB rfl rfl; exact msame_sp (m17.below hB) (m21.below hB) hs (by omega) (by omega)) ?_
          refine .nt (.i 20) ?_
          refine .pk (.i 17) (.i 21) false ?_
          refine .pk (.i 6) (.i 22) true ?_
          refine .donep [some 117, some 118, some 119, some 120, some 121, some 122, some 123, some 124, some 125, some 126, some 127, some 128, some 129, some 130, some 131, some 132, some 133, some 134, some 135, some 136, some 137, some 138, some 139, some 140] ?_
          intro w19 B19
          exact (HR w19 B19).weaker ⟨fun _ => trivial, fun _ => trivial, fun _ => trivial, fun _ => trivial, fun _ => trivial, fun _ => trivial, fun _ => trivial, fun _ => trivial, fun _ => trivial, fun _ => trivial, fun _ => trivial, fun _ => trivial, fun _ => trivial, fun _ => trivial, fun _ => trivial, fun _ => trivial, fun _ => trivial, fun _ => trivial, fun _ => trivial, fun _ => trivial, fun _ => trivial, fun _ => trivial, fun _ => trivial, rfl, trivial⟩
        · refine .mv .o ?_
          refine .two (.i 0) .o (opEq (decide_eq_true h5)) ?_
          refine .mv (.i 1) ?_
          refine .mv .o ?_
          refine .two (.i 3) .o (opEq (decide_eq_false h1)) ?_
          refine .pk (.i 2) (.i 4) true ?_
          refine .mv (.i 5) ?_
          refine .no ?_
          refine .no ?_
          refine .no ?_
          refine .no ?_
          refine .no ?_
          refine .no ?_
          refine .no ?_
          refine .no ?_
          refine .no ?_
          refine .no ?_
          refine .no ?_
          refine .no ?_
          refine .no ?_
          refine .no ?_
          refine .no ?_
          refine .no ?_
          refine .pk (.i 6) .o false ?_
          refine .donep [some 117, some 118, some 119, some 120, some 121, some 122, some 123, some 124, some 125, some 126, some 127, some 128, some 129, some 130, some 131, some 132, some 133, some 134, some 135, some 136, some 137, some 138, some 139, some 140] ?_
          intro w19 B19
          exact (HR w19 B19).weaker ⟨fun _ => trivial, fun _ => trivial, fun _ => trivial, fun _ => trivial, fun _ => trivial, fun _ => trivial, fun _ => trivial, fun _ => trivial, fun _ => trivial, fun _ => trivial, fun _ => trivial, fun _ => trivial, fun _ => trivial, fun _ => trivial, fun _ => trivial, fun _ => trivial, fun _ => trivial, fun _ => trivial, fun _ => trivial, fun _ => trivial, fun _ => trivial, fun _ => trivial, fun _ => trivial, rfl, trivial⟩
      · refine .mv .o ?_
        refine .two (.i 0) .o (opEq (decide_eq_false h5)) ?_
        refine .mv (.i 1) ?_
        refine .no ?_
        refine .no ?_
        refine .pk (.i 2) .o false ?_
        refine .mv (.i 5) ?_
        refine .no ?_
        refine .no ?_
        refine .no ?_
        refine .no ?_
        refine .no ?_
        refine .no ?_
        refine .no ?_
        refine .no ?_
        refine .no ?_
        refine .no ?_
        refine .no ?_
        refine .no ?_
        refine .no ?_
        refine .no ?_
        refine .no ?_
        refine .no ?_
        refine .pk (.i 6) .o false ?_
        refine .donep [some 117, some 118, some 119, some 120, some 121, some 122, some 123, some 124, some 125, some 126, some 127, some 128, some 129, some 130, some 131, some 132, some 133, some 134, some 135, some 136, some 137, some 138, some 139, some 140] ?_
        intro w19 B19
        exact (HR w19 B19).weaker ⟨fun _ => trivial, fun _ => trivial, fun _ => trivial, fun _ => trivial, fun _ => trivial, fun _ => trivial, fun _ => trivial, fun _ => trivial, fun _ => trivial, fun _ => trivial, fun _ => trivial, fun _ => trivial, fun _ => trivial, fun _ => trivial, fun _ => trivial, fun _ => trivial, fun _ => trivial, fun _ => trivial, fun _ => trivial, fun _ => trivial, fun _ => trivial, fun _ => trivial, fun _ => trivial, rfl, trivial⟩
    · intro w19 B19
      rintro y0 -
      rintro y1 -
      rintro y2 -
      rintro y3 -
      rintro y4 -
      rintro y5 -
      rintro y6 -
      rintro y7 -
      rintro y8 -
      rintro y9 -
      rintro y10 -
      rintro y11 -
      rintro y12 -
      rintro y13 -
      rintro y14 -
      rintro y15 -
      rintro y16 -
      rintro y17 -
      rintro y18 -
      rintro y19 -
      rintro y20 -
      rintro y21 -
      rintro y22 -
      change Shut (wpList _ _ _ [] _ _)
      refine ⟨?_⟩
      simp only [Act.put, List.setIfInBounds_toArray, List.set_cons_zero, List.set_cons_succ]
      clear b15 m15 b17 m17 b19 m19 b21 m21
      replace B0 := zup B0 B19
      replace b3 := b3.below B19
      replace b4 := b4.below B19
      replace b5 := b5.below B19
      replace b7 := b7.below B19
      replace m7 := m7.below B19
      clear B19
      go_upto_region 15 with fail
      rcases hE1_.out with h1 | h1
      · obtain ⟨a, b, rfl, rfl, hab, hq⟩ := H21_.out h1
        obtain ⟨rfl, rfl, hA⟩ := ra
        obtain ⟨rfl, rfl, hG⟩ := rb
        refine Run.start 2 ?_
        refine .mv .o ?_
        refine .two (.i 0) .o (opNe (decide_eq_false (fun h => h h1) : decide (_ ≠ (0 : Int)) = false)) ?_
        refine .donep [some 141, some 142] ?_
        intro w20 B20
        change Shut (wpList _ _ _ [] _ _)
        refine ⟨?_⟩
        simp only [Act.put, List.setIfInBounds_toArray, List.set_cons_zero, List.set_cons_succ]
        replace B0 := zup B0 B20
        replace b3 := b3.below B20
        replace b4 := b4.below B20
        replace b5 := b5.below B20
        replace b7 := b7.below B20
        replace m7 := m7.below B20
        clear B20
        have HQ := Lib.hid hq
        have HAB := Lib.hid hab
        clear hq hab h1 b5
        go_upto_region 17 with fail
        refine Run.start 6 ?_
        refine .ld .o (ldM b7 0) ?_
        refine .c1 (.i 0) (x := kT (kM true p1.c p1.r (68) (fun i j => p1.F j i)) (.k (.int .i64 0))) (by rintro u w2 hB rfl; exact mtrans_yes (F := p1.F) (m7.below hB) (by omega)) ?_
        refine .mf (.i 1) ?_
        refine .ex (.i 2) 0 kT_0 ?_
        refine .ex (.i 2) 1 kT_1 ?_
        refine .al ?_
        refine .donep [some 144, some 145, some 143, some 146, some 147, some 23] ?_
        intro w21 B21
        rintro v1 -
        rintro v2 -
        rintro v3 ⟨A23, n23, d23, rfl, m23⟩
        rintro g23 hg23 hl23 hc23 -
        change Shut (wpList _ _ _ [_, _] _ _)
        refine ⟨?_⟩
        simp only [Act.put, List.setIfInBounds_toArray, List.set_cons_zero, List.set_cons_succ]
        have b23 := zeroM hc23
        have hs23 := B0.size
        have hl_b3 := b3.lt
        have hl_b4 := b4.lt
        have hl_b7 := b7.lt
        replace B0 := zup B0 B21
        replace b3 := b3.below B21
        replace b4 := b4.below B21
        replace b7 := b7.below B21
        replace m7 := m7.below B21
        clear B21 hc23
        obtain ⟨w22, hw22⟩ : ∃ x, mput w21 g23 (p1.c : Int) (p1.r : Int) A23 n23 d23 = x := ⟨_, rfl⟩
        obtain ⟨f0_, f1_, f2_, f3_, f4_, f5_, f6_⟩ := b23.m3
        replace b3 := b3.mo (g := g23) (r := (p1.c : Int)) (c := (p1.r : Int)) (A := A23) (n := n23) (d := d23) (by omega)
        rw [hw22] at b3
        replace b4 := b4.mo (g := g23) (r := (p1.c : Int)) (c := (p1.r : Int)) (A := A23) (n := n23) (d := d23) (by omega)
        rw [hw22] at b4
        replace b7 := b7.mo (g := g23) (r := (p1.c : Int)) (c := (p1.r : Int)) (A := A23) (n := n23) (d := d23) (by omega)
        rw [hw22] at b7
        replace m7 := m7.put (r' := (p1.c : Int)) (c' := (p1.r : Int)) (C := A23) (n' := n23) (d' := d23) b23
        rw [hw22] at m7
        replace m23 := m23.put (r' := (p1.c : Int)) (c' := (p1.r : Int)) (C := A23) (n' := n23) (d' := d23) b23
        rw [hw22] at m23
        replace B0 := below_mput (g := g23) (r := (p1.c : Int)) (c := (p1.r : Int)) (A := A23) (n := n23) (d := d23) B0 (by omega)
        rw [hw22] at B0
        replace b23 := b23.mp (g := g23) (r := (p1.c : Int)) (c := (p1.r : Int)) (A := A23) (n := n23) (d := d23)
        rw [hw22] at b23
        have Hw22 := Lib.hid hw22
        unfold mput at Hw22
        clear hw22
        go_upto_region 18 with fail
        rw [Hw22.out]
        clear f0_ f1_ f2_ f3_ f4_ f5_ f6_ Hw22
        clear hs23 hl_b3 hl_b4 hl_b7
        clear b7 m7
        refine Run.start 6 ?_
        refine .ld .o (ldM b3 0) ?_
        refine .c1 (.i 0) (x := kT (kM true a.c a.r (2) (fun i j => a.F j i)) (.k (.int .i64 0))) (by rintro u w2 hB rfl; exact mtrans_yes (F := a.F) (hA.below (zup B0 hB)) (by omega)) ?_
        refine .mf (.i 1) ?_
        refine .ex (.i 2) 0 kT_0 ?_
        refine .ex (.i 2) 1 kT_1 ?_
        refine .al ?_
        refine .donep [some 149, some 150, some 148, some 151, some 152, some 25] ?_
        intro w23 B23
        rintro v1 -
        rintro v2 -
        rintro v3 ⟨A25, n25, d25, rfl, m25⟩
        rintro g25 hg25 hl25 hc25 -
        change Shut (wpList _ _ _ [_, _] _ _)
        refine ⟨?_⟩
        simp only [Act.put, List.setIfInBounds_toArray, List.set_cons_zero, List.set_cons_succ]
        have b25 := zeroM hc25
        have hs25 := B0.size
        have hl_b3 := b3.lt
        have hl_b4 := b4.lt
        have hl_b23 := b23.lt
        replace B0 := zup B0 B23
        replace b3 := b3.below B23
        replace b4 := b4.below B23
        replace b23 := b23.below B23
        replace m23 := m23.below B23
        clear B23 hc25
        obtain ⟨w24, hw24⟩ : ∃ x, mput w23 g25 (a.c : Int) (a.r : Int) A25 n25 d25 = x := ⟨_, rfl⟩
        obtain ⟨f0_, f1_, f2_, f3_, f4_, f5_, f6_⟩ := b25.m3
        replace b3 := b3.mo (g := g25) (r := (a.c : Int)) (c := (a.r : Int)) (A := A25) (n := n25) (d := d25) (by omega)
        rw [hw24] at b3
        replace b4 := b4.mo (g := g25) (r := (a.c : Int)) (c := (a.r : Int)) (A := A25) (n := n25) (d := d25) (by omega)
        rw [hw24] at b4
        replace b23 := b23.mo (g := g25) (r := (a.c : Int)) (c := (a.r : Int)) (A := A25) (n := n25) (d := d25) (by omega)
        rw [hw24] at b23
        replace m23 := m23.put (r' := (a.c : Int)) (c' := (a.r : Int)) (C := A25) (n' := n25) (d' := d25) b25
        rw [hw24] at m23
        replace m25 := m25.put (r' := (a.c : Int)) (c' := (a.r : Int)) (C := A25) (n' := n25) (d' := d25) b25
        rw [hw24] at m25
        replace B0 := below_mput (g := g25) (r := (a.c : Int)) (c := (a.r : Int)) (A := A25) (n := n25) (d := d25) B0 (by omega)
        rw [hw24] at B0
        replace b25 := b25.mp (g := g25) (r := (a.c : Int)) (c := (a.r : Int)) (A := A25) (n := n25) (d := d25)
        rw [hw24] at b25
        have Hw24 := Lib.hid hw24
        unfold mput at Hw24
        clear hw24
        go_upto_region 19 with fail
        rw [Hw24.out]
        clear f0_ f1_ f2_ f3_ f4_ f5_ f6_ Hw24
        clear hs25 hl_b3 hl_b4 hl_b23
        refine Run.start 6 ?_
        refine .ld .o (ldM b4 0) ?_
        refine .c1 (.i 0) (x := kT (kM true b.c b.r (2) (fun i j => b.F j i)) (.k (.int .i64 0))) (by rintro u w2 hB rfl; exact mtrans_yes (F := b.F) (hG.below (zup B0 hB)) (by omega)) ?_
        refine .mf (.i 1) ?_
        refine .ex (.i 2) 0 kT_0 ?_
        refine .ex (.i 2) 1 kT_1 ?_
        refine .al ?_
        refine .donep [some 154, some 155, some 153, some 156, some 157, some 27] ?_
        intro w25 B25
        rintro v1 -
        rintro v2 -
        rintro v3 ⟨A27, n27, d27, rfl, m27⟩
        rintro g27 hg27 hl27 hc27 -
        change Shut (wpList _ _ _ [_, _] _ _)
        refine ⟨?_⟩
        simp only [Act.put, List.setIfInBounds_toArray, List.set_cons_zero, List.set_cons_succ]
        have b27 := zeroM hc27
        have hs27 := B0.size
        have hl_b3 := b3.lt
        have hl_b4 := b4.lt
        have hl_b23 := b23.lt
        have hl_b25 := b25.lt
        replace B0 := zup B0 B25
        replace b3 := b3.below B25
        replace b4 := b4.below B25
        replace b23 := b23.below B25
        replace b25 := b25.below B25
        replace m23 := m23.below B25
        replace m25 := m25.below B25
        clear B25 hc27
        obtain ⟨w26, hw26⟩ : ∃ x, mput w25 g27 (b.c : Int) (b.r : Int) A27 n27 d27 = x := ⟨_, rfl⟩
        obtain ⟨f0_, f1_, f2_, f3_, f4_, f5_, f6_⟩ := b27.m3
        replace b3 := b3.mo (g := g27) (r := (b.c : Int)) (c := (b.r : Int)) (A := A27) (n := n27) (d := d27) (by omega)
        rw [hw26] at b3
        replace b4 := b4.mo (g := g27) (r := (b.c : Int)) (c := (b.r : Int)) (A := A27) (n := n27) (d := d27) (by omega)
        rw [hw26] at b4
        replace b23 := b23.mo (g := g27) (r := (b.c : Int)) (c := (b.r : Int)) (A := A27) (n := n27) (d := d27) (by omega)
        rw [hw26] at b23
        replace b25 := b25.mo (g := g27) (r := (b.c : Int)) (c := (b.r : Int)) (A := A27) (n := n27) (d := d27) (by omega)
        rw [hw26] at b25
        replace m23 := m23.put (r' := (b.c : Int)) (c' := (b.r : Int)) (C := A27) (n' := n27) (d' := d27) b27
        rw [hw26] at m23
        replace m25 := m25.put (r' := (b.c : Int)) (c' := (b.r : Int)) (C := A27) (n' := n27) (d' := d27) b27
        rw [hw26] at m25
        replace m27 := m27.put (r' := (b.c : Int)) (c' := (b.r : Int)) (C := A27) (n' := n27) (d' := d27) b27
        rw [hw26] at m27
        replace B0 := below_mput (g := g27) (r := (b.c : Int)) (c := (b.r : Int)) (A := A27) (n := n27) (d := d27) B0 (by omega)
        rw [hw26] at B0
        replace b27 := b27.mp (g := g27) (r := (b.c : Int)) (c := (b.r : Int)) (A := A27) (n := n27) (d := d27)
        rw [hw26] at b27
        have Hw26 := Lib.hid hw26
        unfold mput at Hw26
        clear hw26
        go_upto_region 20 with fail
        rw [Hw26.out]
        clear f0_ f1_ f2_ f3_ f4_ f5_ f6_ Hw26
        clear hs27 hl_b3 hl_b4 hl_b23 hl_b25
        refine Run.start 7 ?_
        refine .ld .o (ldM b27 0) ?_
        refine .ld .o (ldM b25 0) ?_
        refine .c2 (.i 0) (.i 1) (x := kT (kM true b.c a.r (2 + 2 + b.r) (fun i j => dot (fun i j => b.F j i) (fun i j => a.F j i) i j b.r)) (.k (.int .i64 0))) (by rintro u v w2 hB rfl rfl; exact mmul_yes (F := fun i j => b.F j i) (G := fun i j => a.F j i) (m27.below hB) (m25.below hB) HAB.out.symm (by omega)) ?_
        refine .mf (.i 2) ?_
        refine .ex (.i 3) 0 kT_0 ?_
        refine .ex (.i 3) 1 kT_1 ?_
        refine .al ?_
        refine .donep [some 159, some 160, some 161, some 158, some 162, some 163, some 29] ?_
        intro w27 B27
        rintro v1 -
        rintro v2 -
        rintro v3 ⟨A29, n29, d29, rfl, m29⟩
        rintro g29 hg29 hl29 hc29 -
        change Shut (wpList _ _ _ [_, _] _ _)
        refine ⟨?_⟩
        simp only [Act.put, List.setIfInBounds_toArray, List.set_cons_zero, List.set_cons_succ]
        have b29 := zeroM hc29
        have hs29 := B0.size
        have hl_b23 := b23.lt
        have hl_b25 := b25.lt
        have hl_b27 := b27.lt
        replace B0 := zup B0 B27
        replace b23 := b23.below B27
        replace b25 := b25.below B27
        replace b27 := b27.below B27
        replace m23 := m23.below B27
        replace m25 := m25.below B27
        replace m27 := m27.below B27
        clear B27 hc29
        obtain ⟨w28, hw28⟩ : ∃ x, mput w27 g29 (b.c : Int) (a.r : Int) A29 n29 d29 = x := ⟨_, rfl⟩
        obtain ⟨f0_, f1_, f2_, f3_, f4_, f5_, f6_⟩ := b29.m3
        replace b23 := b23.mo (g := g29) (r := (b.c : Int)) (c := (a.r : Int)) (A := A29) (n := n29) (d := d29) (by omega)
        rw [hw28] at b23
        replace b25 := b25.mo (g := g29) (r := (b.c : Int)) (c := (a.r : Int)) (A := A29) (n := n29) (d := d29) (by omega)
        rw [hw28] at b25
        replace b27 := b27.mo (g := g29) (r := (b.c : Int)) (c := (a.r : Int)) (A := A29) (n := n29) (d := d29) (by omega)
        rw [hw28] at b27
        replace m23 := m23.put (r' := (b.c : Int)) (c' := (a.r : Int)) (C := A29) (n' := n29) (d' := d29) b29
        rw [hw28] at m23
        replace m25 := m25.put (r' := (b.c : Int)) (c' := (a.r : Int)) (C := A29) (n' := n29) (d' := d29) b29
        rw [hw28] at m25
        replace m27 := m27.put (r' := (b.c : Int)) (c' := (a.r : Int)) (C := A29) (n' := n29) (d' := d29) b29
        rw [hw28] at m27
        replace m29 := m29.put (r' := (b.c : Int)) (c' := (a.r : Int)) (C := A29) (n' := n29) (d' := d29) b29
        rw [hw28] at m29
        replace B0 := below_mput (g := g29) (r := (b.c : Int)) (c := (a.r : Int)) (A := A29) (n := n29) (d := d29) B0 (by omega)
        rw [hw28] at B0
        replace b29 := b29.mp (g := g29) (r := (b.c : Int)) (c := (a.r : Int)) (A := A29) (n := n29) (d := d29)
        rw [hw28] at b29
        have Hw28 := Lib.hid hw28
        unfold mput at Hw28
        clear hw28
        go_upto_region 21 with fail
        rw [Hw28.out]
        clear f0_ f1_ f2_ f3_ f4_ f5_ f6_ Hw28
        clear hs29 hl_b23 hl_b25 hl_b27
        have hbr := hG.hr
        have HS : Hid (p1.c = b.c ∧ p1.r = a.r ∧ ∀ i j, i < p1.c → j < p1.r → p1.F j i = dot (fun i j => b.F j i) (fun i j => a.F j i) i j b.r) := Lib.hid (by
          have e1_ := HQ.out
          have e2_ := HAB.out
          subst e1_
          exact ⟨rfl, rfl, fun i j _ _ => by rw [← e2_]; exact (dot_turn a.F b.F j i a.c).symm⟩)
        refine Run.start 8 ?_
        refine .mv .o ?_
        refine .two (.i 0) .o (opEq (by decide : decide ((0 : Int) = 0) = true)) ?_
        refine .mv (.i 1) ?_
        refine .ld .o (ldM b23 0) ?_
        refine .ld .o (ldM b29 0) ?_
        refine .c2 (.i 3) (.i 4) (x := .k (.bool true)) (by rintro u v w2 hB rfl rfl; exact msame_q (F := fun i j => p1.F j i) (G := fun i j => dot (fun i j => b.F j i) (fun i j => a.F j i) i j b.r) (b := true) (m23.below hB) (m29.below hB) ⟨fun _ => HS.out, fun _ => rfl⟩ (by omega) (by omega)) ?_
        refine .pk (.i 2) (.i 5) true ?_
        refine .mv (.i 6) ?_
        refine .donep [some 164, some 165, some 166, some 167, some 168, some 169, some 170, some 6] ?_
        intro w29 B29
        change Shut (wpList _ _ _ [] _ _)
        refine ⟨?_⟩
        simp only [Act.put, List.setIfInBounds_toArray, List.set_cons_zero, List.set_cons_succ]
        go_wp2_with fail
        exact bodyPost_ret (v := .bool true) (by simp [results, Try.results8, go_sem]) rfl (ret_k rfl (zup B0 B29))
      · have h0 : ¬ e1 = 0 := by omega
        refine Run.start 2 ?_
        refine .mv .o ?_
        refine .two (.i 0) .o (opNe (decide_eq_true h0 : decide (e1 ≠ 0) = true)) ?_
        refine .donep [some 141, some 142] ?_
        intro w20 B20
        change Shut (wpList _ _ _ [] _ _)
        refine ⟨?_⟩
        simp only [Act.put, List.setIfInBounds_toArray, List.set_cons_zero, List.set_cons_succ]
        go_wp2_with fail
        exact bodyPost_ret (v := .bool true) (by simp [results, Try.results8, go_sem]) rfl (ret_k rfl (zup B0 B20))
/-- MatRing. -/
theorem ring11_law {r c r' c' r₂ c₂ : Int} {A A' A₂ : Option Addr} {n d n' d' n₂ d₂ : Nat} {Ra Rb Rc : List Zr} {w : World} (ha : RL w A n d Ra) (hb : RL w A' n' d' Rb) (hc : RL w A₂ n₂ d₂ Rc) : Calls Try.prog 8 #[.agg #[.int .i64 r, .int .i64 c, .slice A n d], .agg #[.int .i64 r', .int .i64 c', .slice A' n' d'], .agg #[.int .i64 r₂, .int .i64 c₂, .slice A₂ n₂ d₂]] w (RetK (.k (.bool true)) w) := by
  cases ht : (fewb r c Ra 4 2 && (fewb r' c' Rb 4 2 && fewb r₂ c₂ Rc 4 2)) with
  | false => exact ring11_off ha hb hc ht
  | true =>
    simp only [Bool.and_eq_true] at ht
    obtain ⟨h1, h2, h3⟩ := ht
    obtain ⟨x, hx⟩ := ha.raw h1
    obtain ⟨y, hy⟩ := hb.raw h2
    obtain ⟨z, hz⟩ := hc.raw h3
    exact ring11_on ha hb hc h1 h2 h3 hx hy hz
end Go.Proofs.Ytcdkdanfiimlkaa
