/-
  The law MatMakes.
-/
import Derived.Test.YtcdkdanfiimlkaaMtU
/-! The law's walk: matrices are made, or refused. -/
namespace Go.Proofs.Ytcdkdanfiimlkaa
open Go.RowKit
set_option linter.unusedVariables false
set_option linter.unusedSimpArgs false

theorem IsRow.il {w : World} {a : Option Addr} {len cap : Nat} {zs : List Int} (h : IsRow .i64 w a len cap zs) : ∃ xs, Il w a len cap xs := by
  rcases h with ⟨rfl, rfl, rfl, rfl⟩ | ⟨x, rfl, hl, hm, hz, hc, hw⟩
  · exact ⟨[], rfl, Nat.le_refl _, by omega, fun h => by omega, fun j hj => by omega⟩
  · have hg : ∀ j, j < len → (zs.take len).getD j 0 = zs.getD j 0 := fun j hj => by simp [List.getD, List.getElem?_take, hj]
    refine ⟨zs.take len, by simp; omega, hl, by unfold maxLen at hm; omega, fun h0 => ⟨x, rfl, ?_, fun j hj => ?_⟩, fun j hj => ?_⟩
    · have := World.block_lt_of_cell? w (x.add 0) (hc 0 (by omega))
      rwa [add_block] at this
    · rw [hc j (by omega), hg j hj]
    · rw [hg j hj]
      have h1 : j < zs.length := by omega
      have h2 := hw zs[j] (List.getElem_mem h1)
      have h4 : zs.getD j 0 = zs[j] := by simp [List.getD, h1]
      rw [h4]
      simp [Lit.wf, IntKind.min, IntKind.max, IntKind.signed, IntKind.bits] at h2
      omega
theorem opMulT {a b t : Nat} {T : TypeId} {X Y : Operand} {U : TypeId} (h : a * b = t) (h2 : t ≤ 4611686018427387904) (w : World) : RunTwo Try.prog (.binOp .mul T X Y U) w (.int .i64 (a : Int)) (.int .i64 (b : Int)) (.int .i64 (t : Int)) := by subst h; exact opMulN a b h2 w
/-- The identity's numbers. -/
def unitM : Nat → Nat → Int := fun i j => if i = j then 1 else 0
theorem mid_tot {r : Int} {p : PM} {e : Int} {w : World} (hp : (if sd r = true then (⟨r.toNat, r.toNat, unitM⟩ : PM) else pz) = p) (he : (if sd r = true then 0 else 1) = e) : Calls Try.prog 31 #[.int .i64 r] w (RetK (kT (kM true p.r p.c 1 p.F) (.k (.int .i64 e))) w) := by
  cases hs : sd r with
  | false =>
    rw [hs] at hp he
    refine (mid_no hs).mono fun E w' h => ?_
    obtain ⟨u, rfl, rfl, hB⟩ := h
    subst hp he
    exact ⟨_, rfl, ⟨_, _, rfl, ⟨none, 0, 0, rfl, Mt.zero w' 1⟩, rfl⟩, hB⟩
  | true =>
    rw [hs] at hp he
    obtain ⟨a1, a2⟩ := sd_of hs
    obtain ⟨i, rfl⟩ := Int.eq_ofNat_of_zero_le a1
    exact (mid_yes (by omega)).mono fun E w' h => yes_tot hp he (Nat.le_refl _) h
set_option maxRecDepth 100000 in
/-- MatMakes, of what isn't looked at. -/
theorem makes11_off {r c : Int} {A : Option Addr} {n d : Nat} {xs : List Int} {w : World} (hl : Il w A n d xs) (h : 36 < n) : Calls Try.prog 7 #[.int .i64 r, .int .i64 c, .slice A n d] w (RetK (.k (.bool true)) w) := by
  go_enter Try.func7, Try.ntmps7
  go_upto_region 1 with fail
  refine Run.start 7 ?_
  refine .c0 (x := .k (.bool true)) (fun w2 hB => awake11_q w2) ?_
  refine .nt (.i 0) ?_
  refine .mv (.i 1) ?_
  refine .mv .o ?_
  refine .len (.i 3) Try.underlying51 ?_
  refine .two (.i 4) .o (opGt (decide_eq_true (by omega : (36 : Int) < (n : Int)))) ?_
  refine .pk (.i 2) (.i 5) false ?_
  refine .donep [some 15, some 16, some 17, some 18, some 19, some 20, some 21] ?_
  intro w2 B2
  change Shut (wpList _ _ _ [] _ _)
  refine ⟨?_⟩
  simp only [Act.put, List.setIfInBounds_toArray, List.set_cons_zero, List.set_cons_succ]
  have B0 := B2
  clear B2
  go_upto_region 2 with fail
  refine Run.start 2 ?_
  refine .c0 (x := .k (.bool true)) (fun w2 hB => awake11_q w2) ?_
  refine .mv (.i 0) ?_
  refine .donep [some 22, some 6] ?_
  intro w3 B3
  change Shut (wpList _ _ _ [] _ _)
  refine ⟨?_⟩
  simp only [Act.put, List.setIfInBounds_toArray, List.set_cons_zero, List.set_cons_succ]
  go_wp2_with fail
  exact bodyPost_ret (v := .bool true) (by simp [results, Try.results7, go_sem]) rfl (ret_k rfl (zup B0 B3))
set_option maxRecDepth 100000 in
set_option maxHeartbeats 2000000 in
/-- MatMakes, of sides that may not be. -/
theorem makes11_no {r c : Int} {A : Option Addr} {n d : Nat} {xs : List Int} {w : World} (hl : Il w A n d xs) (hn : n ≤ 36) (hf : (sd r && sd c) = false) : Calls Try.prog 7 #[.int .i64 r, .int .i64 c, .slice A n d] w (RetK (.k (.bool true)) w) := by
  obtain ⟨p3, hp3⟩ : ∃ p, (if sd r = true then (⟨r.toNat, r.toNat, unitM⟩ : PM) else pz) = p := ⟨_, rfl⟩
  obtain ⟨e3, he3⟩ : ∃ e : Int, (if sd r = true then 0 else 1) = e := ⟨_, rfl⟩
  have hf2 : ¬ ((0 ≤ r ∧ r ≤ 64) ∧ (0 ≤ c ∧ c ≤ 64)) := fun h => by
    have : (sd r && sd c) = true := by unfold sd; rw [decide_eq_true h.1, decide_eq_true h.2]; rfl
    rw [hf] at this; cases this
  have he4 : (0 ≤ r ∧ r ≤ 64) → e3 = 0 := fun h => by rw [← he3, if_pos (by unfold sd; exact decide_eq_true h)]
  have he5 : ¬ (0 ≤ r ∧ r ≤ 64) → e3 = 1 := fun h => by rw [← he3, if_neg (by unfold sd; rw [decide_eq_false h]; decide)]
  have hf_ := Lib.hid hf
  have hf2_ := Lib.hid hf2
  have hp3_ := Lib.hid hp3
  have he3_ := Lib.hid he3
  have he4_ := Lib.hid he4
  have he5_ := Lib.hid he5
  clear hf hf2 hp3 he3 he4 he5
  go_enter Try.func7, Try.ntmps7
  go_upto_region 1 with fail
  refine Run.start 7 ?_
  refine .c0 (x := .k (.bool true)) (fun w2 hB => awake11_q w2) ?_
  refine .nt (.i 0) ?_
  refine .mv (.i 1) ?_
  refine .mv .o ?_
  refine .len (.i 3) Try.underlying51 ?_
  refine .two (.i 4) .o (opGt (decide_eq_false (by omega : ¬ (36 : Int) < (n : Int)))) ?_
  refine .pk (.i 2) (.i 5) false ?_
  refine .donep [some 15, some 16, some 17, some 18, some 19, some 20, some 21] ?_
  intro w2 B2
  change Shut (wpList _ _ _ [] _ _)
  refine ⟨?_⟩
  simp only [Act.put, List.setIfInBounds_toArray, List.set_cons_zero, List.set_cons_succ]
  have B0 := B2
  clear B2
  go_upto_region 3 with fail
  refine Run.merge 15 [kAny, kAny, kAny, kAny, kAny, kAny, kAny, kAny, kAny, kAny, kAny, kAny, kAny, kAny, .k (.bool false)] [some 23, some 24, some 25, some 26, some 27, some 28, some 29, some 30, some 31, some 32, some 33, some 34, some 35, some 36, some 7] (fun HR => ?_) ?_
  · by_cases g1 : 0 ≤ r
    · by_cases g2 : r ≤ 64
      · by_cases g3 : 0 ≤ c
        · by_cases g4 : c ≤ 64
          · exact absurd ⟨⟨g1, g2⟩, g3, g4⟩ hf2_.out
          · refine .mv .o ?_
            refine .two (.i 0) .o (opGe (decide_eq_true g1)) ?_
            refine .mv (.i 1) ?_
            refine .mv .o ?_
            refine .two (.i 3) .o (opLe (decide_eq_true g2)) ?_
            refine .pk (.i 2) (.i 4) true ?_
            refine .mv (.i 5) ?_
            refine .mv .o ?_
            refine .two (.i 7) .o (opGe (decide_eq_true g3)) ?_
            refine .pk (.i 6) (.i 8) true ?_
            refine .mv (.i 9) ?_
            refine .mv .o ?_
            refine .two (.i 11) .o (opLe (decide_eq_false g4)) ?_
            refine .pk (.i 10) (.i 12) true ?_
            refine .mv (.i 13) ?_
            refine .donep [some 23, some 24, some 25, some 26, some 27, some 28, some 29, some 30, some 31, some 32, some 33, some 34, some 35, some 36, some 7] ?_
            intro w3 B3
            exact (HR w3 B3).weaker ⟨fun _ => trivial, fun _ => trivial, fun _ => trivial, fun _ => trivial, fun _ => trivial, fun _ => trivial, fun _ => trivial, fun _ => trivial, fun _ => trivial, fun _ => trivial, fun _ => trivial, fun _ => trivial, fun _ => trivial, fun _ => trivial, rfl, trivial⟩
        · refine .mv .o ?_
          refine .two (.i 0) .o (opGe (decide_eq_true g1)) ?_
          refine .mv (.i 1) ?_
          refine .mv .o ?_
          refine .two (.i 3) .o (opLe (decide_eq_true g2)) ?_
          refine .pk (.i 2) (.i 4) true ?_
          refine .mv (.i 5) ?_
          refine .mv .o ?_
          refine .two (.i 7) .o (opGe (decide_eq_false g3)) ?_
          refine .pk (.i 6) (.i 8) true ?_
          refine .mv (.i 9) ?_
          refine .no ?_
          refine .no ?_
          refine .pk (.i 10) .o false ?_
          refine .mv (.i 13) ?_
          refine .donep [some 23, some 24, some 25, some 26, some 27, some 28, some 29, some 30, some 31, some 32, some 33, some 34, some 35, some 36, some 7] ?_
          intro w3 B3
          exact (HR w3 B3).weaker ⟨fun _ => trivial, fun _ => trivial, fun _ => trivial, fun _ => trivial, fun _ => trivial, fun _ => trivial, fun _ => trivial, fun _ => trivial, fun _ => trivial, fun _ => trivial, fun _ => trivial, fun _ => trivial, fun _ => trivial, fun _ => trivial, rfl, trivial⟩
      · refine .mv .o ?_
        refine .two (.i 0) .o (opGe (decide_eq_true g1)) ?_
        refine .mv (.i 1) ?_
        refine .mv .o ?_
        refine .two (.i 3) .o (opLe (decide_eq_false g2)) ?_
        refine .pk (.i 2) (.i 4) true ?_
        refine .mv (.i 5) ?_
        refine .no ?_
        refine .no ?_
        refine .pk (.i 6) .o false ?_
        refine .mv (.i 9) ?_
        refine .no ?_
        refine .no ?_
        refine .pk (.i 10) .o false ?_
        refine .mv (.i 13) ?_
        refine .donep [some 23, some 24, some 25, some 26, some 27, some 28, some 29, some 30, some 31, some 32, some 33, some 34, some 35, some 36, some 7] ?_
        intro w3 B3
        exact (HR w3 B3).weaker ⟨fun _ => trivial, fun _ => trivial, fun _ => trivial, fun _ => trivial, fun _ => trivial, fun _ => trivial, fun _ => trivial, fun _ => trivial, fun _ => trivial, fun _ => trivial, fun _ => trivial, fun _ => trivial, fun _ => trivial, fun _ => trivial, rfl, trivial⟩
    · refine .mv .o ?_
      refine .two (.i 0) .o (opGe (decide_eq_false g1)) ?_
      refine .mv (.i 1) ?_
      refine .no ?_
      refine .no ?_
      refine .pk (.i 2) .o false ?_
      refine .mv (.i 5) ?_
      refine .no ?_
      refine .no ?_
      refine .pk (.i 6) .o false ?_
      refine .mv (.i 9) ?_
      refine .no ?_
      refine .no ?_
      refine .pk (.i 10) .o false ?_
      refine .mv (.i 13) ?_
      refine .donep [some 23, some 24, some 25, some 26, some 27, some 28, some 29, some 30, some 31, some 32, some 33, some 34, some 35, some 36, some 7] ?_
      intro w3 B3
      exact (HR w3 B3).weaker ⟨fun _ => trivial, fun _ => trivial, fun _ => trivial, fun _ => trivial, fun _ => trivial, fun _ => trivial, fun _ => trivial, fun _ => trivial, fun _ => trivial, fun _ => trivial, fun _ => trivial, fun _ => trivial, fun _ => trivial, fun _ => trivial, rfl, trivial⟩
  · intro w3 B3
    rintro y0 -
    rintro y1 -
    rintro y2 -
    rintro y3 -
    rintro y4 -
    rintro y5 -
    rintro y6 -
    rintro y7 -
    rintro y8 -
    rintro y9 -
    rintro y10 -
    rintro y11 -
    rintro y12 -
    rintro y13 -
    change Shut (wpList _ _ _ [] _ _)
    refine ⟨?_⟩
    simp only [Act.put, List.setIfInBounds_toArray, List.set_cons_zero, List.set_cons_succ]
    replace B0 := zup B0 B3
    clear B3
    go_upto_region 4 with fail
    refine Run.start 8 ?_
    refine .mv .o ?_
    refine .mv .o ?_
    refine .mv .o ?_
    refine .c3 (.i 0) (.i 1) (.i 2) (x := noM 1) (by rintro u_ v_ x_ w2 hB rfl rfl rfl; exact mof_no1 hf_.out) ?_
    refine .mv (.i 3) ?_
    refine .ex (.i 4) 0 exM0 ?_
    refine .ex (.i 4) 1 exM1 ?_
    refine .al ?_
    refine .donep [some 38, some 39, some 40, some 41, some 37, some 42, some 43, some 8] ?_
    intro w4 B4
    rintro g8 hg8 hl8 hc8 -
    change Shut (wpList _ _ _ [_, _] _ _)
    refine ⟨?_⟩
    simp only [Act.put, List.setIfInBounds_toArray, List.set_cons_zero, List.set_cons_succ]
    have b8 := zeroM hc8
    have hs8 := B0.size
    
    replace B0 := zup B0 B4
    
    clear B4 hc8
    obtain ⟨w5, hw5⟩ : ∃ x, mput w4 g8 0 0 none 0 0 = x := ⟨_, rfl⟩
    obtain ⟨f0_, f1_, f2_, f3_, f4_, f5_, f6_⟩ := b8.m3
    replace B0 := below_mput (g := g8) (r := 0) (c := 0) (A := none) (n := 0) (d := 0) B0 (by omega)
    rw [hw5] at B0
    replace b8 := b8.mp (g := g8) (r := 0) (c := 0) (A := none) (n := 0) (d := 0)
    rw [hw5] at b8
    have Hw5 := Lib.hid hw5
    unfold mput at Hw5
    clear hw5
    go_upto_region 5 with fail
    rw [Hw5.out]
    clear f0_ f1_ f2_ f3_ f4_ f5_ f6_ Hw5
    clear hs8 
    refine Run.start 7 ?_
    refine .mv .o ?_
    refine .mv .o ?_
    refine .c2 (.i 0) (.i 1) (x := noM 1) (by rintro u_ v_ w2 hB rfl rfl; exact mnew_no hf_.out) ?_
    refine .mv (.i 2) ?_
    refine .ex (.i 3) 0 exM0 ?_
    refine .ex (.i 3) 1 exM1 ?_
    refine .al ?_
    refine .donep [some 45, some 46, some 47, some 44, some 48, some 49, some 10] ?_
    intro w6 B6
    rintro g10 hg10 hl10 hc10 -
    change Shut (wpList _ _ _ [_, _] _ _)
    refine ⟨?_⟩
    simp only [Act.put, List.setIfInBounds_toArray, List.set_cons_zero, List.set_cons_succ]
    have b10 := zeroM hc10
    have hs10 := B0.size
    have hl_b8 := b8.lt
    replace B0 := zup B0 B6
    replace b8 := b8.below B6
    clear B6 hc10
    obtain ⟨w7, hw7⟩ : ∃ x, mput w6 g10 0 0 none 0 0 = x := ⟨_, rfl⟩
    obtain ⟨f0_, f1_, f2_, f3_, f4_, f5_, f6_⟩ := b10.m3
    replace b8 := b8.mo (g := g10) (r := 0) (c := 0) (A := none) (n := 0) (d := 0) (by omega)
    rw [hw7] at b8
    replace B0 := below_mput (g := g10) (r := 0) (c := 0) (A := none) (n := 0) (d := 0) B0 (by omega)
    rw [hw7] at B0
    replace b10 := b10.mp (g := g10) (r := 0) (c := 0) (A := none) (n := 0) (d := 0)
    rw [hw7] at b10
    have Hw7 := Lib.hid hw7
    unfold mput at Hw7
    clear hw7
    go_upto_region 6 with fail
    rw [Hw7.out]
    clear f0_ f1_ f2_ f3_ f4_ f5_ f6_ Hw7
    clear hs10 hl_b8
    refine Run.start 6 ?_
    refine .mv .o ?_
    refine .c1 (.i 0) (x := kT (kM true p3.r p3.c (1) (p3.F)) (.k (.int .i64 e3))) (by rintro u_ w2 hB rfl; exact mid_tot hp3_.out he3_.out) ?_
    refine .mf (.i 1) ?_
    refine .ex (.i 2) 0 kT_0 ?_
    refine .ex (.i 2) 1 kT_1 ?_
    refine .al ?_
    refine .donep [some 51, some 52, some 50, some 53, some 54, some 12] ?_
    intro w8 B8
    rintro v1 -
    rintro v2 -
    rintro v3 ⟨A12, n12, d12, rfl, m12⟩
    rintro g12 hg12 hl12 hc12 -
    change Shut (wpList _ _ _ [_, _] _ _)
    refine ⟨?_⟩
    simp only [Act.put, List.setIfInBounds_toArray, List.set_cons_zero, List.set_cons_succ]
    have b12 := zeroM hc12
    have hs12 := B0.size
    have hl_b8 := b8.lt
    have hl_b10 := b10.lt
    replace B0 := zup B0 B8
    replace b8 := b8.below B8
    replace b10 := b10.below B8
    clear B8 hc12
    obtain ⟨w9, hw9⟩ : ∃ x, mput w8 g12 (p3.r : Int) (p3.c : Int) A12 n12 d12 = x := ⟨_, rfl⟩
    obtain ⟨f0_, f1_, f2_, f3_, f4_, f5_, f6_⟩ := b12.m3
    replace b8 := b8.mo (g := g12) (r := (p3.r : Int)) (c := (p3.c : Int)) (A := A12) (n := n12) (d := d12) (by omega)
    rw [hw9] at b8
    replace b10 := b10.mo (g := g12) (r := (p3.r : Int)) (c := (p3.c : Int)) (A := A12) (n := n12) (d := d12) (by omega)
    rw [hw9] at b10
    replace m12 := m12.put (r' := (p3.r : Int)) (c' := (p3.c : Int)) (C := A12) (n' := n12) (d' := d12) b12
    rw [hw9] at m12
    replace B0 := below_mput (g := g12) (r := (p3.r : Int)) (c := (p3.c : Int)) (A := A12) (n := n12) (d := d12) B0 (by omega)
    rw [hw9] at B0
    replace b12 := b12.mp (g := g12) (r := (p3.r : Int)) (c := (p3.c : Int)) (A := A12) (n := n12) (d := d12)
    rw [hw9] at b12
    have Hw9 := Lib.hid hw9
    unfold mput at Hw9
    clear hw9
    go_upto_region 7 with fail
    rw [Hw9.out]
    clear f0_ f1_ f2_ f3_ f4_ f5_ f6_ Hw9
    clear hs12 hl_b8 hl_b10
    clear b12 m12
    refine Run.start 2 ?_
    refine .mv .o ?_
    refine .nf (.i 0) ?_
    refine .donep [some 55, some 56] ?_
    intro w10 B10
    change Shut (wpList _ _ _ [] _ _)
    refine ⟨?_⟩
    simp only [Act.put, List.setIfInBounds_toArray, List.set_cons_zero, List.set_cons_succ]
    replace B0 := zup B0 B10
    replace b8 := b8.below B10
    replace b10 := b10.below B10
    clear B10
    go_upto_region 8 with fail
    by_cases g1 : 0 ≤ r
    · by_cases g2 : r ≤ 64
      · have g5 : e3 = 0 := he4_.out ⟨g1, g2⟩
        refine Run.start 26 ?_
        refine .mv .o ?_
        refine .two (.i 0) .o (opEq (by decide : decide ((1 : Int) = 1) = true)) ?_
        refine .mv (.i 1) ?_
        refine .mv .o ?_
        refine .two (.i 3) .o (opEq (by decide : decide ((1 : Int) = 1) = true)) ?_
        refine .pk (.i 2) (.i 4) true ?_
        refine .mv (.i 5) ?_
        refine .mv .o ?_
        refine .two (.i 7) .o (opEq (decide_eq_true g5)) ?_
        refine .mv .o ?_
        refine .two (.i 9) .o (opGe (decide_eq_true g1)) ?_
        refine .mv (.i 10) ?_
        refine .mv .o ?_
        refine .two (.i 12) .o (opLe (decide_eq_true g2)) ?_
        refine .pk (.i 11) (.i 13) true ?_
        refine .two (.i 8) (.i 14) (opEqB (rfl : (true == true) = true)) ?_
        refine .pk (.i 6) (.i 15) true ?_
        refine .mv (.i 16) ?_
        refine .ld .o (ldM b8 0) ?_
        refine .c1 (.i 18) (x := .k (.bool true)) (by rintro u w2 hB rfl; exact rnone_q w2) ?_
        refine .pk (.i 17) (.i 19) true ?_
        refine .mv (.i 20) ?_
        refine .ld .o (ldM b10 0) ?_
        refine .c1 (.i 22) (x := .k (.bool true)) (by rintro u w2 hB rfl; exact rnone_q w2) ?_
        refine .pk (.i 21) (.i 23) true ?_
        refine .mv (.i 24) ?_
        refine .donep [some 57, some 58, some 59, some 60, some 61, some 62, some 63, some 64, some 65, some 66, some 67, some 68, some 69, some 70, some 71, some 72, some 73, some 74, some 75, some 76, some 77, some 78, some 79, some 80, some 81, some 6] ?_
        intro w11 B11
        change Shut (wpList _ _ _ [] _ _)
        refine ⟨?_⟩
        simp only [Act.put, List.setIfInBounds_toArray, List.set_cons_zero, List.set_cons_succ]
        go_wp2_with fail
        exact bodyPost_ret (v := .bool true) (by simp [results, Try.results7, go_sem]) rfl (ret_k rfl (zup B0 B11))
      · have g5 : ¬ e3 = 0 := by rw [he5_.out (fun h => g2 h.2)]; decide
        refine Run.start 26 ?_
        refine .mv .o ?_
        refine .two (.i 0) .o (opEq (by decide : decide ((1 : Int) = 1) = true)) ?_
        refine .mv (.i 1) ?_
        refine .mv .o ?_
        refine .two (.i 3) .o (opEq (by decide : decide ((1 : Int) = 1) = true)) ?_
        refine .pk (.i 2) (.i 4) true ?_
        refine .mv (.i 5) ?_
        refine .mv .o ?_
        refine .two (.i 7) .o (opEq (decide_eq_false g5)) ?_
        refine .mv .o ?_
        refine .two (.i 9) .o (opGe (decide_eq_true g1)) ?_
        refine .mv (.i 10) ?_
        refine .mv .o ?_
        refine .two (.i 12) .o (opLe (decide_eq_false g2)) ?_
        refine .pk (.i 11) (.i 13) true ?_
        refine .two (.i 8) (.i 14) (opEqB (rfl : (false == false) = true)) ?_
        refine .pk (.i 6) (.i 15) true ?_
        refine .mv (.i 16) ?_
        refine .ld .o (ldM b8 0) ?_
        refine .c1 (.i 18) (x := .k (.bool true)) (by rintro u w2 hB rfl; exact rnone_q w2) ?_
        refine .pk (.i 17) (.i 19) true ?_
        refine .mv (.i 20) ?_
        refine .ld .o (ldM b10 0) ?_
        refine .c1 (.i 22) (x := .k (.bool true)) (by rintro u w2 hB rfl; exact rnone_q w2) ?_
        refine .pk (.i 21) (.i 23) true ?_
        refine .mv (.i 24) ?_
        refine .donep [some 57, some 58, some 59, some 60, some 61, some 62, some 63, some 64, some 65, some 66, some 67, some 68, some 69, some 70, some 71, some 72, some 73, some 74, some 75, some 76, some 77, some 78, some 79, some 80, some 81, some 6] ?_
        intro w11 B11
        change Shut (wpList _ _ _ [] _ _)
        refine ⟨?_⟩
        simp only [Act.put, List.setIfInBounds_toArray, List.set_cons_zero, List.set_cons_succ]
        go_wp2_with fail
        exact bodyPost_ret (v := .bool true) (by simp [results, Try.results7, go_sem]) rfl (ret_k rfl (zup B0 B11))
    · have g5 : ¬ e3 = 0 := by rw [he5_.out (fun h => g1 h.1)]; decide
      refine Run.start 26 ?_
      refine .mv .o ?_
      refine .two (.i 0) .o (opEq (by decide : decide ((1 : Int) = 1) = true)) ?_
      refine .mv (.i 1) ?_
      refine .mv .o ?_
      refine .two (.i 3) .o (opEq (by decide : decide ((1 : Int) = 1) = true)) ?_
      refine .pk (.i 2) (.i 4) true ?_
      refine .mv (.i 5) ?_
      refine .mv .o ?_
      refine .two (.i 7) .o (opEq (decide_eq_false g5)) ?_
      refine .mv .o ?_
      refine .two (.i 9) .o (opGe (decide_eq_false g1)) ?_
      refine .mv (.i 10) ?_
      refine .no ?_
      refine .no ?_
      refine .pk (.i 11) .o false ?_
      refine .two (.i 8) (.i 14) (opEqB (rfl : (false == false) = true)) ?_
      refine .pk (.i 6) (.i 15) true ?_
      refine .mv (.i 16) ?_
      refine .ld .o (ldM b8 0) ?_
      refine .c1 (.i 18) (x := .k (.bool true)) (by rintro u w2 hB rfl; exact rnone_q w2) ?_
      refine .pk (.i 17) (.i 19) true ?_
      refine .mv (.i 20) ?_
      refine .ld .o (ldM b10 0) ?_
      refine .c1 (.i 22) (x := .k (.bool true)) (by rintro u w2 hB rfl; exact rnone_q w2) ?_
      refine .pk (.i 21) (.i 23) true ?_
      refine .mv (.i 24) ?_
      refine .donep [some 57, some 58, some 59, some 60, some 61, some 62, some 63, some 64, some 65, some 66, some 67, some 68, some 69, some 70, some 71, some 72, some 73, some 74, some 75, some 76, some 77, some 78, some 79, some 80, some 81, some 6] ?_
      intro w11 B11
      change Shut (wpList _ _ _ [] _ _)
      refine ⟨?_⟩
      simp only [Act.put, List.setIfInBounds_toArray, List.set_cons_zero, List.set_cons_succ]
      go_wp2_with fail
      exact bodyPost_ret (v := .bool true) (by simp [results, Try.results7, go_sem]) rfl (ret_k rfl (zup B0 B11))
set_option maxRecDepth 100000 in
set_option maxHeartbeats 4000000 in
/-- MatMakes, of sides that may be, and other numbers. -/
theorem makes11_other {r c : Nat} {A : Option Addr} {n d : Nat} {xs : List Int} {w : World} (hl : Il w A n d xs) (hn : n ≤ 36) (hr : r ≤ 64) (hc : c ≤ 64) (hh : n ≠ r * c) : Calls Try.prog 7 #[.int .i64 (r : Int), .int .i64 (c : Int), .slice A n d] w (RetK (.k (.bool true)) w) := by
  obtain ⟨t, ht⟩ : ∃ t, r * c = t := ⟨_, rfl⟩
  have htb : t ≤ 4096 := by rw [← ht]; exact Nat.mul_le_mul hr hc
  obtain ⟨b, hb⟩ : ∃ b, decide ((r : Int) = 0) = b := ⟨_, rfl⟩
  have hbz : (b = true) ↔ ∀ i j, i < r → j < r → unitM i j = 0 := by
    rw [← hb, decide_eq_true_iff]
    constructor
    · intro h i j hi; omega
    · intro h
      rcases Nat.eq_zero_or_pos r with h0 | h0
      · omega
      · exact absurd (h 0 0 h0 h0) (by unfold unitM; simp)
  have hnt : n ≠ t := by rw [← ht]; exact hh
  have ht_ := Lib.hid ht
  have hb_ := Lib.hid hb
  have hbz_ := Lib.hid hbz
  have hh_ := Lib.hid hh
  clear ht hb hbz hh
  go_enter Try.func7, Try.ntmps7
  go_upto_region 1 with fail
  refine Run.start 7 ?_
  refine .c0 (x := .k (.bool true)) (fun w2 hB => awake11_q w2) ?_
  refine .nt (.i 0) ?_
  refine .mv (.i 1) ?_
  refine .mv .o ?_
  refine .len (.i 3) Try.underlying51 ?_
  refine .two (.i 4) .o (opGt (decide_eq_false (by omega : ¬ (36 : Int) < (n : Int)))) ?_
  refine .pk (.i 2) (.i 5) false ?_
  refine .donep [some 15, some 16, some 17, some 18, some 19, some 20, some 21] ?_
  intro w2 B2
  change Shut (wpList _ _ _ [] _ _)
  refine ⟨?_⟩
  simp only [Act.put, List.setIfInBounds_toArray, List.set_cons_zero, List.set_cons_succ]
  have B0 := B2
  clear B2
  go_upto_region 3 with fail
  have g1 : (0 : Int) ≤ (r : Int) := by omega
  have g2 : (r : Int) ≤ 64 := by omega
  have g3 : (0 : Int) ≤ (c : Int) := by omega
  have g4 : (c : Int) ≤ 64 := by omega
  refine Run.start 15 ?_
  refine .mv .o ?_
  refine .two (.i 0) .o (opGe (decide_eq_true g1)) ?_
  refine .mv (.i 1) ?_
  refine .mv .o ?_
  refine .two (.i 3) .o (opLe (decide_eq_true g2)) ?_
  refine .pk (.i 2) (.i 4) true ?_
  refine .mv (.i 5) ?_
  refine .mv .o ?_
  refine .two (.i 7) .o (opGe (decide_eq_true g3)) ?_
  refine .pk (.i 6) (.i 8) true ?_
  refine .mv (.i 9) ?_
  refine .mv .o ?_
  refine .two (.i 11) .o (opLe (decide_eq_true g4)) ?_
  refine .pk (.i 10) (.i 12) true ?_
  refine .mv (.i 13) ?_
  refine .donep [some 23, some 24, some 25, some 26, some 27, some 28, some 29, some 30, some 31, some 32, some 33, some 34, some 35, some 36, some 7] ?_
  intro w3 B3
  change Shut (wpList _ _ _ [] _ _)
  refine ⟨?_⟩
  simp only [Act.put, List.setIfInBounds_toArray, List.set_cons_zero, List.set_cons_succ]
  clear g1 g2 g3 g4
  replace B0 := zup B0 B3
  clear B3
  go_upto_region 4 with fail
  refine Run.start 8 ?_
  refine .mv .o ?_
  refine .mv .o ?_
  refine .mv .o ?_
  refine .c3 (.i 0) (.i 1) (.i 2) (x := noM 2) (by rintro u_ v_ x_ w2 hB rfl rfl rfl; exact mof_no2 hh_.out hr hc) ?_
  refine .mv (.i 3) ?_
  refine .ex (.i 4) 0 exM0 ?_
  refine .ex (.i 4) 1 exM1 ?_
  refine .al ?_
  refine .donep [some 38, some 39, some 40, some 41, some 37, some 42, some 43, some 8] ?_
  intro w4 B4
  rintro g8 hg8 hl8 hc8 -
  change Shut (wpList _ _ _ [_, _] _ _)
  refine ⟨?_⟩
  simp only [Act.put, List.setIfInBounds_toArray, List.set_cons_zero, List.set_cons_succ]
  have b8 := zeroM hc8
  have hs8 := B0.size
  
  replace B0 := zup B0 B4
  
  clear B4 hc8
  obtain ⟨w5, hw5⟩ : ∃ x, mput w4 g8 0 0 none 0 0 = x := ⟨_, rfl⟩
  obtain ⟨f0_, f1_, f2_, f3_, f4_, f5_, f6_⟩ := b8.m3
  replace B0 := below_mput (g := g8) (r := 0) (c := 0) (A := none) (n := 0) (d := 0) B0 (by omega)
  rw [hw5] at B0
  replace b8 := b8.mp (g := g8) (r := 0) (c := 0) (A := none) (n := 0) (d := 0)
  rw [hw5] at b8
  have Hw5 := Lib.hid hw5
  unfold mput at Hw5
  clear hw5
  go_upto_region 5 with fail
  rw [Hw5.out]
  clear f0_ f1_ f2_ f3_ f4_ f5_ f6_ Hw5
  clear hs8 
  refine Run.start 7 ?_
  refine .mv .o ?_
  refine .mv .o ?_
  refine .c2 (.i 0) (.i 1) (x := kT (kM true r c (0) (fun _ _ => 0)) (.k (.int .i64 0))) (by rintro u_ v_ w2 hB rfl rfl; exact mnew_yes hr hc) ?_
  refine .mf (.i 2) ?_
  refine .ex (.i 3) 0 kT_0 ?_
  refine .ex (.i 3) 1 kT_1 ?_
  refine .al ?_
  refine .donep [some 45, some 46, some 47, some 44, some 48, some 49, some 10] ?_
  intro w6 B6
  rintro v1 -
  rintro v2 -
  rintro v3 ⟨A10, n10, d10, rfl, m10⟩
  rintro g10 hg10 hl10 hc10 -
  change Shut (wpList _ _ _ [_, _] _ _)
  refine ⟨?_⟩
  simp only [Act.put, List.setIfInBounds_toArray, List.set_cons_zero, List.set_cons_succ]
  have b10 := zeroM hc10
  have hs10 := B0.size
  have hl_b8 := b8.lt
  replace B0 := zup B0 B6
  replace b8 := b8.below B6
  clear B6 hc10
  obtain ⟨w7, hw7⟩ : ∃ x, mput w6 g10 (r : Int) (c : Int) A10 n10 d10 = x := ⟨_, rfl⟩
  obtain ⟨f0_, f1_, f2_, f3_, f4_, f5_, f6_⟩ := b10.m3
  replace b8 := b8.mo (g := g10) (r := (r : Int)) (c := (c : Int)) (A := A10) (n := n10) (d := d10) (by omega)
  rw [hw7] at b8
  replace m10 := m10.put (r' := (r : Int)) (c' := (c : Int)) (C := A10) (n' := n10) (d' := d10) b10
  rw [hw7] at m10
  replace B0 := below_mput (g := g10) (r := (r : Int)) (c := (c : Int)) (A := A10) (n := n10) (d := d10) B0 (by omega)
  rw [hw7] at B0
  replace b10 := b10.mp (g := g10) (r := (r : Int)) (c := (c : Int)) (A := A10) (n := n10) (d := d10)
  rw [hw7] at b10
  have Hw7 := Lib.hid hw7
  unfold mput at Hw7
  clear hw7
  go_upto_region 6 with fail
  rw [Hw7.out]
  clear f0_ f1_ f2_ f3_ f4_ f5_ f6_ Hw7
  clear hs10 hl_b8
  refine Run.start 6 ?_
  refine .mv .o ?_
  refine .c1 (.i 0) (x := kT (kM true r r (1) (unitM)) (.k (.int .i64 0))) (by rintro u_ w2 hB rfl; exact mid_yes hr) ?_
  refine .mf (.i 1) ?_
  refine .ex (.i 2) 0 kT_0 ?_
  refine .ex (.i 2) 1 kT_1 ?_
  refine .al ?_
  refine .donep [some 51, some 52, some 50, some 53, some 54, some 12] ?_
  intro w8 B8
  rintro v1 -
  rintro v2 -
  rintro v3 ⟨A12, n12, d12, rfl, m12⟩
  rintro g12 hg12 hl12 hc12 -
  change Shut (wpList _ _ _ [_, _] _ _)
  refine ⟨?_⟩
  simp only [Act.put, List.setIfInBounds_toArray, List.set_cons_zero, List.set_cons_succ]
  have b12 := zeroM hc12
  have hs12 := B0.size
  have hl_b8 := b8.lt
  have hl_b10 := b10.lt
  replace B0 := zup B0 B8
  replace b8 := b8.below B8
  replace b10 := b10.below B8
  replace m10 := m10.below B8
  clear B8 hc12
  obtain ⟨w9, hw9⟩ : ∃ x, mput w8 g12 (r : Int) (r : Int) A12 n12 d12 = x := ⟨_, rfl⟩
  obtain ⟨f0_, f1_, f2_, f3_, f4_, f5_, f6_⟩ := b12.m3
  replace b8 := b8.mo (g := g12) (r := (r : Int)) (c := (r : Int)) (A := A12) (n := n12) (d := d12) (by omega)
  rw [hw9] at b8
  replace b10 := b10.mo (g := g12) (r := (r : Int)) (c := (r : Int)) (A := A12) (n := n12) (d := d12) (by omega)
  rw [hw9] at b10
  replace m10 := m10.put (r' := (r : Int)) (c' := (r : Int)) (C := A12) (n' := n12) (d' := d12) b12
  rw [hw9] at m10
  replace m12 := m12.put (r' := (r : Int)) (c' := (r : Int)) (C := A12) (n' := n12) (d' := d12) b12
  rw [hw9] at m12
  replace B0 := below_mput (g := g12) (r := (r : Int)) (c := (r : Int)) (A := A12) (n := n12) (d := d12) B0 (by omega)
  rw [hw9] at B0
  replace b12 := b12.mp (g := g12) (r := (r : Int)) (c := (r : Int)) (A := A12) (n := n12) (d := d12)
  rw [hw9] at b12
  have Hw9 := Lib.hid hw9
  unfold mput at Hw9
  clear hw9
  go_upto_region 7 with fail
  rw [Hw9.out]
  clear f0_ f1_ f2_ f3_ f4_ f5_ f6_ Hw9
  clear hs12 hl_b8 hl_b10
  refine Run.start 2 ?_
  refine .mv .o ?_
  refine .nt (.i 0) ?_
  refine .donep [some 55, some 56] ?_
  intro w10 B10
  change Shut (wpList _ _ _ [] _ _)
  refine ⟨?_⟩
  simp only [Act.put, List.setIfInBounds_toArray, List.set_cons_zero, List.set_cons_succ]
  replace B0 := zup B0 B10
  replace b8 := b8.below B10
  replace b10 := b10.below B10
  replace b12 := b12.below B10
  replace m10 := m10.below B10
  replace m12 := m12.below B10
  clear B10
  go_upto_region 9 with fail
  refine Run.start 35 ?_
  refine .mv .o ?_
  refine .two (.i 0) .o (opNe (by decide : decide ((0 : Int) ≠ 0) = false)) ?_
  refine .mv (.i 1) ?_
  refine .ld .o (ldM b10 0) ?_
  refine .c1 (.i 3) (x := .k (.bool true)) (by rintro u_ w2 hB rfl; exact mzero_q (m10.below hB) ⟨fun _ _ _ _ _ => rfl, fun _ => rfl⟩ (by decide)) ?_
  refine .nt (.i 4) ?_
  refine .pk (.i 2) (.i 5) false ?_
  refine .mv (.i 6) ?_
  refine .ld .o (ldM b10 0) ?_
  refine .c1 (.i 8) (x := .k (.bool true)) (by rintro u_ w2 hB rfl; exact rnormal_q (m10.below hB) (by decide)) ?_
  refine .nt (.i 9) ?_
  refine .pk (.i 7) (.i 10) false ?_
  refine .mv (.i 11) ?_
  refine .fa .o (fM0 0) ?_
  refine .ld (.i 13) (ldInt b10 0) ?_
  refine .mv .o ?_
  refine .two (.i 14) (.i 15) (opNe (decide_eq_false (fun h => h rfl) : decide ((r : Int) ≠ (r : Int)) = false)) ?_
  refine .pk (.i 12) (.i 16) false ?_
  refine .mv (.i 17) ?_
  refine .fa .o (fM1 1) ?_
  refine .ld (.i 19) (ldInt b10 1) ?_
  refine .mv .o ?_
  refine .two (.i 20) (.i 21) (opNe (decide_eq_false (fun h => h rfl) : decide ((c : Int) ≠ (c : Int)) = false)) ?_
  refine .pk (.i 18) (.i 22) false ?_
  refine .mv (.i 23) ?_
  refine .mv .o ?_
  refine .two (.i 25) .o (opNe (by decide : decide ((0 : Int) ≠ 0) = false)) ?_
  refine .pk (.i 24) (.i 26) false ?_
  refine .mv (.i 27) ?_
  refine .ld .o (ldM b12 0) ?_
  refine .c1 (.i 29) (x := .k (.bool b)) (by rintro u_ w2 hB rfl; exact mzero_q (m12.below hB) hbz_.out (by decide)) ?_
  refine .mv .o ?_
  refine .two (.i 31) .o (opEq hb_.out) ?_
  refine .two (.i 30) (.i 32) (opNeB (by cases b <;> rfl : (b != b) = false)) ?_
  refine .pk (.i 28) (.i 33) false ?_
  refine .donep [some 82, some 83, some 84, some 85, some 86, some 87, some 88, some 89, some 90, some 91, some 92, some 93, some 94, some 95, some 96, some 97, some 98, some 99, some 100, some 101, some 102, some 103, some 104, some 105, some 106, some 107, some 108, some 109, some 110, some 111, some 112, some 113, some 114, some 115, some 116] ?_
  intro w11 B11
  change Shut (wpList _ _ _ [] _ _)
  refine ⟨?_⟩
  simp only [Act.put, List.setIfInBounds_toArray, List.set_cons_zero, List.set_cons_succ]
  clear b12 m12
  replace B0 := zup B0 B11
  replace b8 := b8.below B11
  replace b10 := b10.below B11
  replace m10 := m10.below B11
  clear B11
  go_upto_region 11 with fail
  refine Run.start 6 ?_
  refine .mv .o ?_
  refine .len (.i 0) Try.underlying51 ?_
  refine .mv .o ?_
  refine .mv .o ?_
  refine .two (.i 2) (.i 3) (opMulT ht_.out (by omega)) ?_
  refine .two (.i 1) (.i 4) (opNe (decide_eq_true (by omega) : decide ((n : Int) ≠ (t : Int)) = true)) ?_
  refine .donep [some 117, some 118, some 119, some 120, some 121, some 122] ?_
  intro w12 B12
  change Shut (wpList _ _ _ [] _ _)
  refine ⟨?_⟩
  simp only [Act.put, List.setIfInBounds_toArray, List.set_cons_zero, List.set_cons_succ]
  replace B0 := zup B0 B12
  replace b8 := b8.below B12
  replace b10 := b10.below B12
  replace m10 := m10.below B12
  clear B12
  go_upto_region 12 with fail
  refine Run.start 7 ?_
  refine .mv .o ?_
  refine .two (.i 0) .o (opEq (by decide : decide ((2 : Int) = 2) = true)) ?_
  refine .mv (.i 1) ?_
  refine .ld .o (ldM b8 0) ?_
  refine .c1 (.i 3) (x := .k (.bool true)) (by rintro u w2 hB rfl; exact rnone_q w2) ?_
  refine .pk (.i 2) (.i 4) true ?_
  refine .mv (.i 5) ?_
  refine .donep [some 123, some 124, some 125, some 126, some 127, some 128, some 6] ?_
  intro w13 B13
  change Shut (wpList _ _ _ [] _ _)
  refine ⟨?_⟩
  simp only [Act.put, List.setIfInBounds_toArray, List.set_cons_zero, List.set_cons_succ]
  go_wp2_with fail
  exact bodyPost_ret (v := .bool true) (by simp [results, Try.results7, go_sem]) rfl (ret_k rfl (zup B0 B13))
set_option maxRecDepth 100000 in
set_option maxHeartbeats 4000000 in
/-- MatMakes, of sides that may be, and as many numbers. -/
theorem makes11_fits {r c : Nat} {A : Option Addr} {n d : Nat} {xs : List Int} {w : World} (hl : Il w A n d xs) (hn : n ≤ 36) (hr : r ≤ 64) (hc : c ≤ 64) (hh : n = r * c) : Calls Try.prog 7 #[.int .i64 (r : Int), .int .i64 (c : Int), .slice A n d] w (RetK (.k (.bool true)) w) := by
  obtain ⟨t, ht⟩ : ∃ t, r * c = t := ⟨_, rfl⟩
  have htb : t ≤ 4096 := by rw [← ht]; exact Nat.mul_le_mul hr hc
  obtain ⟨b, hb⟩ : ∃ b, decide ((r : Int) = 0) = b := ⟨_, rfl⟩
  have hbz : (b = true) ↔ ∀ i j, i < r → j < r → unitM i j = 0 := by
    rw [← hb, decide_eq_true_iff]
    constructor
    · intro h i j hi; omega
    · intro h
      rcases Nat.eq_zero_or_pos r with h0 | h0
      · omega
      · exact absurd (h 0 0 h0 h0) (by unfold unitM; simp)
  have hnt : n = t := by rw [← ht]; exact hh
  have ht_ := Lib.hid ht
  have hb_ := Lib.hid hb
  have hbz_ := Lib.hid hbz
  have hh_ := Lib.hid hh
  clear ht hb hbz hh
  obtain ⟨b1, hb1⟩ : ∃ b : Bool, (b = true ↔ ∀ i j, i < r → j < c → xs.getD (i * c + j) 0 = 0) := by
    by_cases hP : ∀ i j, i < r → j < c → xs.getD (i * c + j) 0 = 0
    · exact ⟨true, ⟨fun _ => hP, fun _ => rfl⟩⟩
    · exact ⟨false, ⟨fun h => (nomatch h), fun h => absurd h hP⟩⟩
  have hb1_ := Lib.hid hb1
  clear hb1
  go_enter Try.func7, Try.ntmps7
  go_upto_region 1 with fail
  refine Run.start 7 ?_
  refine .c0 (x := .k (.bool true)) (fun w2 hB => awake11_q w2) ?_
  refine .nt (.i 0) ?_
  refine .mv (.i 1) ?_
  refine .mv .o ?_
  refine .len (.i 3) Try.underlying51 ?_
  refine .two (.i 4) .o (opGt (decide_eq_false (by omega : ¬ (36 : Int) < (n : Int)))) ?_
  refine .pk (.i 2) (.i 5) false ?_
  refine .donep [some 15, some 16, some 17, some 18, some 19, some 20, some 21] ?_
  intro w2 B2
  change Shut (wpList _ _ _ [] _ _)
  refine ⟨?_⟩
  simp only [Act.put, List.setIfInBounds_toArray, List.set_cons_zero, List.set_cons_succ]
  have B0 := B2
  clear B2
  go_upto_region 3 with fail
  have g1 : (0 : Int) ≤ (r : Int) := by omega
  have g2 : (r : Int) ≤ 64 := by omega
  have g3 : (0 : Int) ≤ (c : Int) := by omega
  have g4 : (c : Int) ≤ 64 := by omega
  refine Run.start 15 ?_
  refine .mv .o ?_
  refine .two (.i 0) .o (opGe (decide_eq_true g1)) ?_
  refine .mv (.i 1) ?_
  refine .mv .o ?_
  refine .two (.i 3) .o (opLe (decide_eq_true g2)) ?_
  refine .pk (.i 2) (.i 4) true ?_
  refine .mv (.i 5) ?_
  refine .mv .o ?_
  refine .two (.i 7) .o (opGe (decide_eq_true g3)) ?_
  refine .pk (.i 6) (.i 8) true ?_
  refine .mv (.i 9) ?_
  refine .mv .o ?_
  refine .two (.i 11) .o (opLe (decide_eq_true g4)) ?_
  refine .pk (.i 10) (.i 12) true ?_
  refine .mv (.i 13) ?_
  refine .donep [some 23, some 24, some 25, some 26, some 27, some 28, some 29, some 30, some 31, some 32, some 33, some 34, some 35, some 36, some 7] ?_
  intro w3 B3
  change Shut (wpList _ _ _ [] _ _)
  refine ⟨?_⟩
  simp only [Act.put, List.setIfInBounds_toArray, List.set_cons_zero, List.set_cons_succ]
  clear g1 g2 g3 g4
  replace B0 := zup B0 B3
  clear B3
  go_upto_region 4 with fail
  refine Run.start 8 ?_
  refine .mv .o ?_
  refine .mv .o ?_
  refine .mv .o ?_
  refine .c3 (.i 0) (.i 1) (.i 2) (x := kT (kM true r c (1) (fun i j => xs.getD (i * c + j) 0)) (.k (.int .i64 0))) (by rintro u_ v_ x_ w2 hB rfl rfl rfl; exact mof_yes (hl.below (zup B0 hB)) hh_.out hr hc) ?_
  refine .mf (.i 3) ?_
  refine .ex (.i 4) 0 kT_0 ?_
  refine .ex (.i 4) 1 kT_1 ?_
  refine .al ?_
  refine .donep [some 38, some 39, some 40, some 41, some 37, some 42, some 43, some 8] ?_
  intro w4 B4
  rintro v1 -
  rintro v2 -
  rintro v3 ⟨A8, n8, d8, rfl, m8⟩
  rintro g8 hg8 hl8 hc8 -
  change Shut (wpList _ _ _ [_, _] _ _)
  refine ⟨?_⟩
  simp only [Act.put, List.setIfInBounds_toArray, List.set_cons_zero, List.set_cons_succ]
  have b8 := zeroM hc8
  have hs8 := B0.size
  
  replace B0 := zup B0 B4
  
  clear B4 hc8
  obtain ⟨w5, hw5⟩ : ∃ x, mput w4 g8 (r : Int) (c : Int) A8 n8 d8 = x := ⟨_, rfl⟩
  obtain ⟨f0_, f1_, f2_, f3_, f4_, f5_, f6_⟩ := b8.m3
  replace m8 := m8.put (r' := (r : Int)) (c' := (c : Int)) (C := A8) (n' := n8) (d' := d8) b8
  rw [hw5] at m8
  replace B0 := below_mput (g := g8) (r := (r : Int)) (c := (c : Int)) (A := A8) (n := n8) (d := d8) B0 (by omega)
  rw [hw5] at B0
  replace b8 := b8.mp (g := g8) (r := (r : Int)) (c := (c : Int)) (A := A8) (n := n8) (d := d8)
  rw [hw5] at b8
  have Hw5 := Lib.hid hw5
  unfold mput at Hw5
  clear hw5
  go_upto_region 5 with fail
  rw [Hw5.out]
  clear f0_ f1_ f2_ f3_ f4_ f5_ f6_ Hw5
  clear hs8 
  refine Run.start 7 ?_
  refine .mv .o ?_
  refine .mv .o ?_
  refine .c2 (.i 0) (.i 1) (x := kT (kM true r c (0) (fun _ _ => 0)) (.k (.int .i64 0))) (by rintro u_ v_ w2 hB rfl rfl; exact mnew_yes hr hc) ?_
  refine .mf (.i 2) ?_
  refine .ex (.i 3) 0 kT_0 ?_
  refine .ex (.i 3) 1 kT_1 ?_
  refine .al ?_
  refine .donep [some 45, some 46, some 47, some 44, some 48, some 49, some 10] ?_
  intro w6 B6
  rintro v1 -
  rintro v2 -
  rintro v3 ⟨A10, n10, d10, rfl, m10⟩
  rintro g10 hg10 hl10 hc10 -
  change Shut (wpList _ _ _ [_, _] _ _)
  refine ⟨?_⟩
  simp only [Act.put, List.setIfInBounds_toArray, List.set_cons_zero, List.set_cons_succ]
  have b10 := zeroM hc10
  have hs10 := B0.size
  have hl_b8 := b8.lt
  replace B0 := zup B0 B6
  replace b8 := b8.below B6
  replace m8 := m8.below B6
  clear B6 hc10
  obtain ⟨w7, hw7⟩ : ∃ x, mput w6 g10 (r : Int) (c : Int) A10 n10 d10 = x := ⟨_, rfl⟩
  obtain ⟨f0_, f1_, f2_, f3_, f4_, f5_, f6_⟩ := b10.m3
  replace b8 := b8.mo (g := g10) (r := (r : Int)) (c := (c : Int)) (A := A10) (n := n10) (d := d10) (by omega)
  rw [hw7] at b8
  replace m8 := m8.put (r' := (r : Int)) (c' := (c : Int)) (C := A10) (n' := n10) (d' := d10) b10
  rw [hw7] at m8
  replace m10 := m10.put (r' := (r : Int)) (c' := (c : Int)) (C := A10) (n' := n10) (d' := d10) b10
  rw [hw7] at m10
  replace B0 := below_mput (g := g10) (r := (r : Int)) (c := (c : Int)) (A := A10) (n := n10) (d := d10) B0 (by omega)
  rw [hw7] at B0
  replace b10 := b10.mp (g := g10) (r := (r : Int)) (c := (c : Int)) (A := A10) (n := n10) (d := d10)
  rw [hw7] at b10
  have Hw7 := Lib.hid hw7
  unfold mput at Hw7
  clear hw7
  go_upto_region 6 with fail
  rw [Hw7.out]
  clear f0_ f1_ f2_ f3_ f4_ f5_ f6_ Hw7
  clear hs10 hl_b8
  refine Run.start 6 ?_
  refine .mv .o ?_
  refine .c1 (.i 0) (x := kT (kM true r r (1) (unitM)) (.k (.int .i64 0))) (by rintro u_ w2 hB rfl; exact mid_yes hr) ?_
  refine .mf (.i 1) ?_
  refine .ex (.i 2) 0 kT_0 ?_
  refine .ex (.i 2) 1 kT_1 ?_
  refine .al ?_
  refine .donep [some 51, some 52, some 50, some 53, some 54, some 12] ?_
  intro w8 B8
  rintro v1 -
  rintro v2 -
  rintro v3 ⟨A12, n12, d12, rfl, m12⟩
  rintro g12 hg12 hl12 hc12 -
  change Shut (wpList _ _ _ [_, _] _ _)
  refine ⟨?_⟩
  simp only [Act.put, List.setIfInBounds_toArray, List.set_cons_zero, List.set_cons_succ]
  have b12 := zeroM hc12
  have hs12 := B0.size
  have hl_b8 := b8.lt
  have hl_b10 := b10.lt
  replace B0 := zup B0 B8
  replace b8 := b8.below B8
  replace b10 := b10.below B8
  replace m8 := m8.below B8
  replace m10 := m10.below B8
  clear B8 hc12
  obtain ⟨w9, hw9⟩ : ∃ x, mput w8 g12 (r : Int) (r : Int) A12 n12 d12 = x := ⟨_, rfl⟩
  obtain ⟨f0_, f1_, f2_, f3_, f4_, f5_, f6_⟩ := b12.m3
  replace b8 := b8.mo (g := g12) (r := (r : Int)) (c := (r : Int)) (A := A12) (n := n12) (d := d12) (by omega)
  rw [hw9] at b8
  replace b10 := b10.mo (g := g12) (r := (r : Int)) (c := (r : Int)) (A := A12) (n := n12) (d := d12) (by omega)
  rw [hw9] at b10
  replace m8 := m8.put (r' := (r : Int)) (c' := (r : Int)) (C := A12) (n' := n12) (d' := d12) b12
  rw [hw9] at m8
  replace m10 := m10.put (r' := (r : Int)) (c' := (r : Int)) (C := A12) (n' := n12) (d' := d12) b12
  rw [hw9] at m10
  replace m12 := m12.put (r' := (r : Int)) (c' := (r : Int)) (C := A12) (n' := n12) (d' := d12) b12
  rw [hw9] at m12
  replace B0 := below_mput (g := g12) (r := (r : Int)) (c := (r : Int)) (A := A12) (n := n12) (d := d12) B0 (by omega)
  rw [hw9] at B0
  replace b12 := b12.mp (g := g12) (r := (r : Int)) (c := (r : Int)) (A := A12) (n := n12) (d := d12)
  rw [hw9] at b12
  have Hw9 := Lib.hid hw9
  unfold mput at Hw9
  clear hw9
  go_upto_region 7 with fail
  rw [Hw9.out]
  clear f0_ f1_ f2_ f3_ f4_ f5_ f6_ Hw9
  clear hs12 hl_b8 hl_b10
  refine Run.start 2 ?_
  refine .mv .o ?_
  refine .nt (.i 0) ?_
  refine .donep [some 55, some 56] ?_
  intro w10 B10
  change Shut (wpList _ _ _ [] _ _)
  refine ⟨?_⟩
  simp only [Act.put, List.setIfInBounds_toArray, List.set_cons_zero, List.set_cons_succ]
  replace B0 := zup B0 B10
  replace b8 := b8.below B10
  replace b10 := b10.below B10
  replace b12 := b12.below B10
  replace m8 := m8.below B10
  replace m10 := m10.below B10
  replace m12 := m12.below B10
  clear B10
  go_upto_region 9 with fail
  refine Run.start 35 ?_
  refine .mv .o ?_
  refine .two (.i 0) .o (opNe (by decide : decide ((0 : Int) ≠ 0) = false)) ?_
  refine .mv (.i 1) ?_
  refine .ld .o (ldM b10 0) ?_
  refine .c1 (.i 3) (x := .k (.bool true)) (by rintro u_ w2 hB rfl; exact mzero_q (m10.below hB) ⟨fun _ _ _ _ _ => rfl, fun _ => rfl⟩ (by decide)) ?_
  refine .nt (.i 4) ?_
  refine .pk (.i 2) (.i 5) false ?_
  refine .mv (.i 6) ?_
  refine .ld .o (ldM b10 0) ?_
  refine .c1 (.i 8) (x := .k (.bool true)) (by rintro u_ w2 hB rfl; exact rnormal_q (m10.below hB) (by decide)) ?_
  refine .nt (.i 9) ?_
  refine .pk (.i 7) (.i 10) false ?_
  refine .mv (.i 11) ?_
  refine .fa .o (fM0 0) ?_
  refine .ld (.i 13) (ldInt b10 0) ?_
  refine .mv .o ?_
  refine .two (.i 14) (.i 15) (opNe (decide_eq_false (fun h => h rfl) : decide ((r : Int) ≠ (r : Int)) = false)) ?_
  refine .pk (.i 12) (.i 16) false ?_
  refine .mv (.i 17) ?_
  refine .fa .o (fM1 1) ?_
  refine .ld (.i 19) (ldInt b10 1) ?_
  refine .mv .o ?_
  refine .two (.i 20) (.i 21) (opNe (decide_eq_false (fun h => h rfl) : decide ((c : Int) ≠ (c : Int)) = false)) ?_
  refine .pk (.i 18) (.i 22) false ?_
  refine .mv (.i 23) ?_
  refine .mv .o ?_
  refine .two (.i 25) .o (opNe (by decide : decide ((0 : Int) ≠ 0) = false)) ?_
  refine .pk (.i 24) (.i 26) false ?_
  refine .mv (.i 27) ?_
  refine .ld .o (ldM b12 0) ?_
  refine .c1 (.i 29) (x := .k (.bool b)) (by rintro u_ w2 hB rfl; exact mzero_q (m12.below hB) hbz_.out (by decide)) ?_
  refine .mv .o ?_
  refine .two (.i 31) .o (opEq hb_.out) ?_
  refine .two (.i 30) (.i 32) (opNeB (by cases b <;> rfl : (b != b) = false)) ?_
  refine .pk (.i 28) (.i 33) false ?_
  refine .donep [some 82, some 83, some 84, some 85, some 86, some 87, some 88, some 89, some 90, some 91, some 92, some 93, some 94, some 95, some 96, some 97, some 98, some 99, some 100, some 101, some 102, some 103, some 104, some 105, some 106, some 107, some 108, some 109, some 110, some 111, some 112, some 113, some 114, some 115, some 116] ?_
  intro w11 B11
  change Shut (wpList _ _ _ [] _ _)
  refine ⟨?_⟩
  simp only [Act.put, List.setIfInBounds_toArray, List.set_cons_zero, List.set_cons_succ]
  clear b12 m12
  replace B0 := zup B0 B11
  replace b8 := b8.below B11
  replace b10 := b10.below B11
  replace m8 := m8.below B11
  replace m10 := m10.below B11
  clear B11
  go_upto_region 11 with fail
  refine Run.start 6 ?_
  refine .mv .o ?_
  refine .len (.i 0) Try.underlying51 ?_
  refine .mv .o ?_
  refine .mv .o ?_
  refine .two (.i 2) (.i 3) (opMulT ht_.out (by omega)) ?_
  refine .two (.i 1) (.i 4) (opNe (decide_eq_false (by omega) : decide ((n : Int) ≠ (t : Int)) = false)) ?_
  refine .donep [some 117, some 118, some 119, some 120, some 121, some 122] ?_
  intro w12 B12
  change Shut (wpList _ _ _ [] _ _)
  refine ⟨?_⟩
  simp only [Act.put, List.setIfInBounds_toArray, List.set_cons_zero, List.set_cons_succ]
  replace B0 := zup B0 B12
  replace b8 := b8.below B12
  replace b10 := b10.below B12
  replace m8 := m8.below B12
  replace m10 := m10.below B12
  clear B12
  have HO : Hid (Below w12.heap.size w12 w12) := Lib.hid (Below.refl _ _)
  go_wp2_with fail
  go_loopw [14] (fun s14 wr => ∃ j : Nat, s14 = .int .i64 (j : Int) ∧ j ≤ n ∧ Hid (Below w12.heap.size w12 wr)) (fun s14 _ => n - (intOf s14).toNat)
  case atStart => exact ⟨0, rfl, Nat.zero_le _, HO⟩
  case round =>
    clear HO
    obtain ⟨j, rfl, hj, HO⟩ := hrel
    by_cases hlt : j < n
    · have u1 : (j : Int) < (n : Int) := by omega
      go_upto_region 16 with fail
      have Bq := HO.out
      clear HO
      have k8 := b8.below Bq
      have hlt2 : j < r * c := by have := hh_.out; omega
      obtain ⟨hq1, hq2, hq3⟩ := at_of hlt2
      have hc0 : 0 < c := by rcases Nat.eq_zero_or_pos c with h | h; (subst h; rw [Nat.mul_zero] at hlt2; omega); exact h
      obtain ⟨ia, hia⟩ : ∃ i, j / c = i := ⟨_, rfl⟩
      obtain ⟨ib, hib⟩ : ∃ i, j % c = i := ⟨_, rfl⟩
      rw [hia, hib] at hq3
      rw [hia] at hq1
      rw [hib] at hq2
      have HQ : Hid (xs.getD (ia * c + ib) 0 = xs.getD j 0) := Lib.hid (by rw [hq3])
      obtain ⟨x, hx⟩ : ∃ x, xs.getD j 0 = x := ⟨_, rfl⟩
      rw [hx] at HQ
      have hbd := hl.bd j hlt
      rw [hx] at hbd
      obtain ⟨ad, rfl, hab, hce⟩ := (hl.below (zup B0 Bq)).at' (by omega)
      have hce2 := hce j hlt
      rw [hx] at hce2
      have Hia := Lib.hid hia
      have Hib := Lib.hid hib
      clear hce hia hib hx hq3 hlt2
      refine Run.start 15 ?_
      refine .ld .o (ldM k8 0) ?_
      refine .mv .o ?_
      refine .mv .o ?_
      refine .two (.i 1) (.i 2) (opQuoN Hia.out hc0 (by omega)) ?_
      refine .mv .o ?_
      refine .mv .o ?_
      refine .two (.i 4) (.i 5) (opRemN Hib.out hc0 (by omega)) ?_
      refine .c3 (.i 0) (.i 3) (.i 6) (x := kC x 1) (by rintro u_ v_ x_ w2 hB rfl rfl rfl; have h := mat_yes (i := ia) (j := ib) (m8.below (zup Bq hB)) hq1 hq2 (by decide); rw [HQ.out] at h; exact h) ?_
      refine .mv .o ?_
      refine .mv .o ?_
      refine .two (.i 8) (.i 9) (opIxJ hlt) ?_
      refine .ld (.i 10) (ldJ (by rw [add_block]; exact hab) hce2) ?_
      refine .c1 (.i 11) (x := kC x 1) (by rintro u_ w2 hB rfl; exact zof_q hbd.1 hbd.2 w2) ?_
      refine .c2 (.i 7) (.i 12) (x := .k (.bool true)) (by intro u_ v_ w2 hB h1 h2; exact zsame_q h1.v h2.v (by omega) (by omega) (decide_eq_true rfl)) ?_
      refine .nt (.i 13) ?_
      refine .done [some 135, some 136, some 137, some 138, some 139, some 140, some 141, some 142, some 143, some 144, some 145, some 146, some 147, some 148, some 149] ?_
      intro w13 B13
      rintro v0 -
      rintro v1 -
      change Shut (wpList _ _ _ [] _ _)
      refine ⟨?_⟩
      simp only [Act.put, List.setIfInBounds_toArray, List.set_cons_zero, List.set_cons_succ]
      have HN := Lib.hid (zup Bq B13)
      clear Bq k8 B13 hce2
      go_wp2_with fail
      go_roundw
      case rel => exact ⟨j + 1, by go_num, by omega, HN⟩
      case measure => first | (simp [intOf]; done) | (simp [intOf]; omega)
    · obtain rfl : j = n := by omega
      have u1 : ¬ (j : Int) < (j : Int) := by omega
      have Bq := HO.out
      clear HO
      replace b8 := b8.below Bq
      replace b10 := b10.below Bq
      replace m8 := m8.below Bq
      replace m10 := m10.below Bq
      replace B0 := zup B0 Bq
      clear Bq
      go_upto_region 18 with fail
      refine Run.start 40 ?_
      refine .mv .o ?_
      refine .two (.i 0) .o (opEq (by decide : decide ((0 : Int) = 0) = true)) ?_
      refine .mv (.i 1) ?_
      refine .ld .o (ldM b8 0) ?_
      refine .c1 (.i 3) (x := .k (.bool true)) (by rintro u_ w2 hB rfl; exact rnormal_q (m8.below hB) (by decide)) ?_
      refine .pk (.i 2) (.i 4) true ?_
      refine .mv (.i 5) ?_
      refine .ld .o (ldM b8 0) ?_
      refine .ld .o (ldM b8 0) ?_
      refine .c2 (.i 7) (.i 8) (x := .k (.bool true)) (by rintro u_ v_ w2 hB rfl rfl; exact msame_q (m8.below hB) (m8.below hB) ⟨fun _ => ⟨rfl, rfl, fun _ _ _ _ => rfl⟩, fun _ => rfl⟩ (by decide) (by decide)) ?_
      refine .pk (.i 6) (.i 9) true ?_
      refine .mv (.i 10) ?_
      refine .ld .o (ldM b8 0) ?_
      refine .mv .o ?_
      refine .c3 (.i 12) (.i 13) .o (x := kC 0 0) (by rintro u_ v_ x_ w2 hB rfl rfl rfl; exact mat_no (i := (r : Int)) (j := 0) (m8.below hB) (by omega)) ?_
      refine .c1 (.i 14) (x := .k (.int .i64 0)) (by intro u_ w2 hB h1; exact zsign_q h1.v (by omega) rfl) ?_
      refine .two (.i 15) .o (opEq (by decide : decide ((0 : Int) = 0) = true)) ?_
      refine .pk (.i 11) (.i 16) true ?_
      refine .mv (.i 17) ?_
      refine .ld .o (ldM b8 0) ?_
      refine .mv .o ?_
      refine .c3 (.i 19) .o (.i 20) (x := kC 0 0) (by rintro u_ v_ x_ w2 hB rfl rfl rfl; exact mat_no (i := 0) (j := (c : Int)) (m8.below hB) (by omega)) ?_
      refine .c1 (.i 21) (x := .k (.int .i64 0)) (by intro u_ w2 hB h1; exact zsign_q h1.v (by omega) rfl) ?_
      refine .two (.i 22) .o (opEq (by decide : decide ((0 : Int) = 0) = true)) ?_
      refine .pk (.i 18) (.i 23) true ?_
      refine .mv (.i 24) ?_
      refine .ld .o (ldM b8 0) ?_
      refine .c3 (.i 26) .o .o (x := kC 0 0) (by rintro u_ v_ x_ w2 hB rfl rfl rfl; exact mat_no (i := -1) (j := 0) (m8.below hB) (by omega)) ?_
      refine .c1 (.i 27) (x := .k (.int .i64 0)) (by intro u_ w2 hB h1; exact zsign_q h1.v (by omega) rfl) ?_
      refine .two (.i 28) .o (opEq (by decide : decide ((0 : Int) = 0) = true)) ?_
      refine .pk (.i 25) (.i 29) true ?_
      refine .mv (.i 30) ?_
      refine .ld .o (ldM b8 0) ?_
      refine .ld .o (ldM b10 0) ?_
      refine .c2 (.i 32) (.i 33) (x := .k (.bool b1)) (by rintro u_ v_ w2 hB rfl rfl; exact msame_q (m8.below hB) (m10.below hB) ⟨fun h => ⟨rfl, rfl, hb1_.out.1 h⟩, fun h => hb1_.out.2 h.2.2⟩ (by decide) (by decide)) ?_
      refine .ld .o (ldM b8 0) ?_
      refine .c1 (.i 35) (x := .k (.bool b1)) (by rintro u_ w2 hB rfl; exact mzero_q (m8.below hB) hb1_.out (by decide)) ?_
      refine .two (.i 34) (.i 36) (opEqB (by cases b1 <;> rfl : (b1 == b1) = true)) ?_
      refine .pk (.i 31) (.i 37) true ?_
      refine .mv (.i 38) ?_
      refine .done [some 150, some 151, some 152, some 153, some 154, some 155, some 156, some 157, some 158, some 159, some 160, some 161, some 162, some 163, some 164, some 165, some 166, some 167, some 168, some 169, some 170, some 171, some 172, some 173, some 174, some 175, some 176, some 177, some 178, some 179, some 180, some 181, some 182, some 183, some 184, some 185, some 186, some 187, some 188, some 6] ?_
      intro w14 B14
      rintro v0 -
      rintro v1 -
      rintro v2 -
      change Shut (wpList _ _ _ [] _ _)
      refine ⟨?_⟩
      simp only [Act.put, List.setIfInBounds_toArray, List.set_cons_zero, List.set_cons_succ]
      go_wp2_with fail
      exact bodyPost_ret (v := .bool true) (by simp [results, Try.results7, go_sem]) rfl (ret_k rfl (zup B0 B14))
/-- MatMakes. -/
theorem makes11_law {r c : Int} {A : Option Addr} {n d : Nat} {xs : List Int} {w : World} (hl : Il w A n d xs) : Calls Try.prog 7 #[.int .i64 r, .int .i64 c, .slice A n d] w (RetK (.k (.bool true)) w) := by
  by_cases h : 36 < n
  · exact makes11_off hl h
  · cases hf : (sd r && sd c) with
    | false => exact makes11_no hl (by omega) hf
    | true =>
      rw [Bool.and_eq_true] at hf
      obtain ⟨a1, a2⟩ := sd_of hf.1
      obtain ⟨b1, b2⟩ := sd_of hf.2
      obtain ⟨r', rfl⟩ := Int.eq_ofNat_of_zero_le a1
      obtain ⟨c', rfl⟩ := Int.eq_ofNat_of_zero_le b1
      by_cases hn : n = r' * c'
      · exact makes11_fits hl (by omega) (by omega) (by omega) hn
      · exact makes11_other hl (by omega) (by omega) (by omega) hn
end Go.Proofs.Ytcdkdanfiimlkaa
