/-
  BarJ
-/
import Derived.Test.YtcdkdanfiimlkaaPk33

/-! Contracts of the reference: determinants. -/
namespace Go.Proofs.Ytcdkdanfiimlkaa
open Go.RowKit
set_option linter.unusedVariables false
set_option linter.unusedSimpArgs false

/-- The bound of words. -/
def dk (k : Nat) : Nat → Nat
  | 0 => 1
  | r + 1 => dk k r + k + 66
theorem dk_pos (k : Nat) : ∀ r, 1 ≤ dk k r
  | 0 => Nat.le_refl _
  | r + 1 => by have := dk_pos k r; unfold dk; omega
theorem opRem2 {T U : TypeId} {X Y : Operand} (j : Nat) (hj : j ≤ 1048576) (w : World) : RunTwo Try.prog (.binOp .rem T X Y U) w (.int .i64 (j : Int)) (.int .i64 2) (.int .i64 ((j % 2 : Nat) : Int)) := by
  have h1 : (j : Int).tmod 2 = ((j % 2 : Nat) : Int) := by
    rw [Int.tmod_eq_emod_of_nonneg (by omega)]; omega
  have h2 : IntKind.i64.wrap ((j % 2 : Nat) : Int) = ((j % 2 : Nat) : Int) := IntWalk.i64_in _ (by omega)
  unfold RunTwo
  simp [go_sem, h1, h2]
theorem minor_zero (F : Nat → Nat → Int) (j : Nat) : DT.minor2 F 0 j = DT.minor F j := by
  funext a b
  unfold DT.minor2 DT.minor
  rw [show DT.skip 0 a = a + 1 by unfold DT.skip; rw [if_neg (by omega)]]
/-- What the row's place j puts to the sum. -/
def dtm (r : Nat) (F : Nat → Nat → Int) (j : Nat) : Int := DT.sgn j * F 0 j * DT.det r (DT.minor F j)
theorem sgn_even : ∀ j, j % 2 = 0 → DT.sgn j = 1 ∧ DT.sgn (j + 1) = -1
  | 0, _ => ⟨rfl, rfl⟩
  | 1, h => by omega
  | j + 2, h => by
    obtain ⟨h1, h2⟩ := sgn_even j (by omega)
    have e1 : DT.sgn (j + 2) = - DT.sgn (j + 1) := by first | rfl | simp [DT.sgn]
    have e2 : DT.sgn (j + 2 + 1) = - DT.sgn (j + 2) := by first | rfl | simp [DT.sgn]
    exact ⟨by rw [e1, h2]; rfl, by rw [e2, e1, h2]; rfl⟩
theorem sgn_odd (j : Nat) (h : j % 2 = 1) : DT.sgn j = -1 := by
  obtain ⟨i, rfl⟩ : ∃ i, j = i + 1 := ⟨j - 1, by omega⟩
  exact (sgn_even i (by omega)).2
set_option maxRecDepth 100000 in
theorem rdt_zero {q : Bool} {n d k : Nat} {A : Option Addr} {F : Nat → Nat → Int} {w : World} (ha : Mt q w 0 0 A n d k F) : Calls Try.prog 47 #[.agg #[.int .i64 0, .int .i64 0, .slice A n d]] w (RetK (kC 1 1) w) := by
  obtain ⟨w1, hw1, b1, b2, z1, s1⟩ := boxes2 w 24 28 [.int .i64 0, .int .i64 0, .slice A n d] [.bool false, .slice none 0 0]
  have HW := Lib.hid hw1
  have HZ := Lib.hid z1
  clear hw1 z1 s1
  go_enter Try.func47, Try.ntmps47
  go_upto_region 1 with fail
  rw [HW.out]
  refine Run.start 3 ?_
  refine .fa .o (fM0 0) ?_
  refine .ld (.i 0) (ldInt b1 0) ?_
  refine .two (.i 1) .o (opEq (by decide : decide ((0 : Int) = 0) = true)) ?_
  refine .donep [some 6, some 7, some 8] ?_
  intro w2 B2
  change Shut (wpList _ _ _ [] _ _)
  refine ⟨?_⟩
  simp only [Act.put, List.setIfInBounds_toArray, List.set_cons_zero, List.set_cons_succ]
  replace b2 := b2.below B2
  have HZ2 := Lib.hid (zup HZ.out B2)
  clear B2 HZ
  go_upto_region 2 with fail
  refine Run.start 1 ?_
  refine .c1 .o (x := kC 1 1) (by rintro u w3 hB rfl; exact zof_q (by omega) (by omega) w3) ?_
  refine .donep [some 9] ?_
  intro w3 B3
  rintro v ⟨s_, A_, n_, c_, rfl, hz, hk⟩
  change Shut (wpList _ _ _ [_] _ _)
  refine ⟨?_⟩
  simp only [Act.put, List.setIfInBounds_toArray, List.set_cons_zero, List.set_cons_succ]
  have I := Ib.entry (b2.below B3)
  have P := Lib.hid (retC hz I (k := 1) (by omega) (by omega) (zup HZ2.out B3))
  obtain ⟨i1, i2, i3, i4, i5⟩ := I
  clear hz
  go_wp2_with fail
  exact bodyPost_ret (v := .agg #[.bool s_, .slice A_ n_ c_]) (by simp [results, Try.results47, go_sem, i1, i2]) rfl P.out
set_option maxRecDepth 100000 in
set_option maxHeartbeats 1000000 in
theorem rdt_succ {q : Bool} {R r n d k : Nat} {A : Option Addr} {F : Nat → Nat → Int} {w : World} (hR : R = r + 1) (ha : Mt q w R R A n d k F) (hK : dk k (r + 1) ≤ 549755813888) (ih : ∀ (q' : Bool) (n' d' : Nat) (A' : Option Addr) (G : Nat → Nat → Int) (w' : World), Mt q' w' r r A' n' d' k G → Calls Try.prog 47 #[.agg #[.int .i64 (r : Int), .int .i64 (r : Int), .slice A' n' d']] w' (RetK (kC (DT.det r G) (dk k r)) w')) :
    Calls Try.prog 47 #[.agg #[.int .i64 (R : Int), .int .i64 (R : Int), .slice A n d]] w (RetK (kC (DT.det (r + 1) F) (dk k (r + 1))) w) := by
  have hR1 : R ≤ r + 1 := Nat.le_of_eq hR
  have hR2 : r + 1 ≤ R := Nat.le_of_eq hR.symm
  clear hR
  have h3 := ha.hr
  have hd := dk_pos k r
  have hK2 : dk k r + k + 66 ≤ 549755813888 := hK
  obtain ⟨w1, hw1, b1, b2, z1, s1⟩ := boxes2 w 24 28 [.int .i64 (R : Int), .int .i64 (R : Int), .slice A n d] [.bool false, .slice none 0 0]
  have HW := Lib.hid hw1
  have HZ := Lib.hid z1
  clear hw1 z1
  go_enter Try.func47, Try.ntmps47
  go_upto_region 1 with fail
  rw [HW.out]
  refine Run.start 3 ?_
  refine .fa .o (fM0 0) ?_
  refine .ld (.i 0) (ldInt b1 0) ?_
  refine .two (.i 1) .o (opEq (decide_eq_false (by omega : ¬ ((R : Int) = 0)))) ?_
  refine .donep [some 6, some 7, some 8] ?_
  intro w2 B2
  change Shut (wpList _ _ _ [] _ _)
  refine ⟨?_⟩
  simp only [Act.put, List.setIfInBounds_toArray, List.set_cons_zero, List.set_cons_succ]
  have B0 := zup HZ.out B2
  replace b1 := b1.below B2
  replace b2 := b2.below B2
  have hl1 := b1.lt
  have hl2 := b2.lt
  clear B2 HZ
  go_upto_region 3 with fail
  refine Run.start 2 ?_
  refine .c1 .o (x := kC 0 1) (by rintro u w3 hB rfl; exact zof_q (by omega) (by omega) w3) ?_
  refine .al ?_
  refine .donep [some 10, some 3] ?_
  intro w3 B3
  rintro v ⟨s_, A_, n_, c_, rfl, hz, hk⟩
  rintro g3 hg3 hl3 hc3 -
  change Shut (wpList _ _ _ [_] _ _)
  refine ⟨?_⟩
  simp only [Act.put, List.setIfInBounds_toArray, List.set_cons_zero, List.set_cons_succ]
  have b3 := zeroZ (T := 0) hc3
  have hs3 := B0.size
  replace B0 := zup B0 B3
  replace b1 := b1.below B3
  replace b2 := b2.below B3
  clear hc3 B3
  obtain ⟨w4, hw4⟩ : ∃ x, zput w3 g3 s_ A_ n_ c_ = x := ⟨_, rfl⟩
  obtain ⟨f1_, f2_, f3_, f4_, f5_⟩ := Ib.entry b3
  replace b1 := b1.zo (g := g3) (s := s_) (A := A_) (n := n_) (c := c_) (by omega)
  rw [hw4] at b1
  replace b2 := b2.zo (g := g3) (s := s_) (A := A_) (n := n_) (c := c_) (by omega)
  rw [hw4] at b2
  replace hz := hz.zp (s' := s_) (A' := A_) (n' := n_) (c' := c_) b3
  rw [hw4] at hz
  replace B0 := below_put (g := g3) (s := s_) (A := A_) (n := n_) (c := c_) B0 (by omega)
  rw [hw4] at B0
  replace b3 := b3.zp (s := s_) (A := A_) (n := n_) (c := c_)
  rw [hw4] at b3
  have Hw4 := Lib.hid hw4
  unfold zput at Hw4
  clear hw4
  go_upto_region 4 with fail
  rw [Hw4.out]
  clear f1_ f2_ f3_ f4_ f5_ Hw4
  have H0 : Hid (Below w.heap.size w w4 ∧ Bx w4 w.heap.size 24 [.int .i64 (R : Int), .int .i64 (R : Int), .slice A n d] ∧ Bx w4 (w.heap.size + 1) 28 [.bool false, .slice none 0 0] ∧ ∃ s A n c, Bx w4 g3 28 [.bool s, .slice A n c] ∧ Zc w4 s A n c (DT.sumN (0) (dtm r F)) ∧ n ≤ k + dk k r + (0)) := Lib.hid ⟨B0, b1, b2, s_, A_, n_, c_, b3, hz, by omega⟩
  have hsz4 := B0.size
  have hg3' : w.heap.size + 1 < g3 := by omega
  have HM := Lib.hid ha
  have HI := Lib.hid ih
  clear b1 b2 b3 hz hk B0 ha ih hsz4 hs3 hg3 hl3
  go_wp2_with fail
  go_loopw [4] (fun s4 wr => ∃ j : Nat, s4 = .int .i64 (j : Int) ∧ j ≤ r + 1 ∧ Hid (Below w.heap.size w wr ∧ Bx wr w.heap.size 24 [.int .i64 (R : Int), .int .i64 (R : Int), .slice A n d] ∧ Bx wr (w.heap.size + 1) 28 [.bool false, .slice none 0 0] ∧ ∃ s A n c, Bx wr g3 28 [.bool s, .slice A n c] ∧ Zc wr s A n c (DT.sumN (j) (dtm r F)) ∧ n ≤ k + dk k r + (j))) (fun s4 _ => r + 1 - (intOf s4).toNat)
  case atStart => exact ⟨0, rfl, Nat.zero_le _, H0⟩
  case round =>
    obtain ⟨j, rfl, hj, HB⟩ := hrel
    clear H0
    obtain ⟨B0, b1, b2, s1_, A1, n1, c1, b3, hz1, hk1⟩ := HB.out
    obtain ⟨i0, i1, i2, i3, i4, i5, i6⟩ := b1.m3
    by_cases hlt : j < r + 1
    · have u2 : (j : Int) < (R : Int) := by omega
      clear HB
      go_upto_region 7 with fail
      clear i0 i1 i2 i3 i4 i5 i6
      refine Run.start 9 ?_
      refine .ld .o (ldM b1 0) ?_
      refine .mv .o ?_
      refine .c3 (.i 0) .o (.i 1) (x := kV (F 0 j) k) (by rintro u v x w5 hB rfl rfl rfl; exact rat_q (i := 0) (HM.out.below (zup B0 hB)) (by omega) (show j < R by omega)) ?_
      refine .ld .o (ldM b1 0) ?_
      refine .mv .o ?_
      refine .c3 (.i 3) .o (.i 4) (x := kM false r r k (DT.minor F j)) (by rintro u v x w5 hB rfl rfl rfl; rw [← minor_zero]; have hh := rwo_q (i := 0) (HM.out.below (zup B0 hB)) (by omega) (show j < R by omega); rw [show R - 1 = r by omega] at hh; exact hh) ?_
      refine .c1 (.i 5) (x := kC (DT.det r (DT.minor F j)) (dk k r)) (by rintro u w5 hB ⟨A', n', d', rfl, hM⟩; exact HI.out _ _ _ _ _ _ hM) ?_
      refine .c2 (.i 2) (.i 6) (x := kC (F 0 j * DT.det r (DT.minor F j)) (k + dk k r)) (by rintro u v w5 hB hu hv; exact zmul_q hu hv.v (by omega) (by omega) (Nat.le_refl _)) ?_
      refine .al ?_
      refine .done [some 17, some 18, some 19, some 20, some 21, some 22, some 23, some 24, some 5] ?_
      intro w5 B5
      rintro v19 -
      rintro v22 -
      rintro v23 -
      rintro v ⟨s2, A2, n2, c2, rfl, hz2, hk2⟩
      rintro g5 hg5 hl5 hc5 -
      change Shut (wpList _ _ _ [_] _ _)
      refine ⟨?_⟩
      simp only [Act.put, List.setIfInBounds_toArray, List.set_cons_zero, List.set_cons_succ]
      have b5 := zeroZ (T := 0) hc5
      have hs5 := B0.size
      have hl3 := b3.lt
      replace B0 := zup B0 B5
      replace b1 := b1.below B5
      replace b2 := b2.below B5
      replace b3 := b3.below B5
      replace hz1 := hz1.below B5
      clear hc5 B5
      obtain ⟨w6, hw6⟩ : ∃ x, zput w5 g5 s2 A2 n2 c2 = x := ⟨_, rfl⟩
      obtain ⟨f1_, f2_, f3_, f4_, f5_⟩ := Ib.entry b5
      replace b1 := b1.zo (g := g5) (s := s2) (A := A2) (n := n2) (c := c2) (by omega)
      rw [hw6] at b1
      replace b2 := b2.zo (g := g5) (s := s2) (A := A2) (n := n2) (c := c2) (by omega)
      rw [hw6] at b2
      replace b3 := b3.zo (g := g5) (s := s2) (A := A2) (n := n2) (c := c2) (by omega)
      rw [hw6] at b3
      replace hz1 := hz1.zp (s' := s2) (A' := A2) (n' := n2) (c' := c2) b5
      rw [hw6] at hz1
      replace hz2 := hz2.zp (s' := s2) (A' := A2) (n' := n2) (c' := c2) b5
      rw [hw6] at hz2
      replace B0 := below_put (g := g5) (s := s2) (A := A2) (n := n2) (c := c2) B0 (by omega)
      rw [hw6] at B0
      replace b5 := b5.zp (s := s2) (A := A2) (n := n2) (c := c2)
      rw [hw6] at b5
      have Hw6 := Lib.hid hw6
      unfold zput at Hw6
      clear hw6
      go_upto_region 8 with fail
      rw [Hw6.out]
      clear f1_ f2_ f3_ f4_ f5_ Hw6
      obtain ⟨t, ht⟩ : ∃ t, decide (((j % 2 : Nat) : Int) = 1) = t := ⟨_, rfl⟩
      have HT := Lib.hid ht
      clear ht
      cases t
      · refine Run.start 3 ?_
        refine .mv .o ?_
        refine .two (.i 0) .o (opRem2 j (by omega)) ?_
        refine .two (.i 1) .o (opEq HT.out) ?_
        refine .donep [some 25, some 26, some 27] ?_
        intro w7 B7
        change Shut (wpList _ _ _ [] _ _)
        refine ⟨?_⟩
        simp only [Act.put, List.setIfInBounds_toArray, List.set_cons_zero, List.set_cons_succ]
        replace B0 := zup B0 B7
        replace b1 := b1.below B7
        replace b2 := b2.below B7
        replace b3 := b3.below B7
        replace b5 := b5.below B7
        replace hz1 := hz1.below B7
        replace hz2 := hz2.below B7
        have he : j % 2 = 0 := by have := of_decide_eq_false HT.out; omega
        have HE : Hid (DT.sumN (j + 1) (dtm r F) = DT.sumN j (dtm r F) + F 0 j * DT.det r (DT.minor F j)) := Lib.hid (by
          show DT.sumN j (dtm r F) + dtm r F j = _
          unfold dtm
          rw [(sgn_even j he).1, Int.one_mul])
        clear B7
        go_upto_region 10 with fail
        refine Run.start 3 ?_
        refine .ld .o (ldZ b3 0) ?_
        refine .ld .o (ldZ b5 0) ?_
        refine .c2 (.i 0) (.i 1) (x := kC (DT.sumN (j + 1) (dtm r F)) (k + dk k r + (j + 1))) (by rintro u v w10 hB rfl rfl; rw [show DT.sumN (j + 1) (dtm r F) = DT.sumN j (dtm r F) + F 0 j * DT.det r (DT.minor F j) from HE.out]; exact zadd_q ⟨_, _, _, _, rfl, (hz1.below hB).zv, hk1⟩ ⟨_, _, _, _, rfl, (hz2.below hB).zv, hk2⟩ (by omega) (by omega) (by omega)) ?_
        refine .donep [some 30, some 31, some 32] ?_
        intro w8 B8
        rintro v ⟨s3, A3, n3, c3, rfl, hz3, hk3⟩
        change Shut (wpList _ _ _ [_] _ _)
        refine ⟨?_⟩
        simp only [Act.put, List.setIfInBounds_toArray, List.set_cons_zero, List.set_cons_succ]
        replace B0 := zup B0 B8
        replace b1 := b1.below B8
        replace b2 := b2.below B8
        replace b3 := b3.below B8
        have hg3w := B0.size
        clear B8 b5 hz2 hz1
        obtain ⟨f1_, f2_, f3_, f4_, f5_⟩ := Ib.entry b3
        have HS : Hid (Below w.heap.size w ((w8.setCell ⟨g3, 0, none⟩ (.bool s3)).setCell ⟨g3, 1, none⟩ (.slice A3 n3 c3)) ∧ Bx ((w8.setCell ⟨g3, 0, none⟩ (.bool s3)).setCell ⟨g3, 1, none⟩ (.slice A3 n3 c3)) w.heap.size 24 [.int .i64 (R : Int), .int .i64 (R : Int), .slice A n d] ∧ Bx ((w8.setCell ⟨g3, 0, none⟩ (.bool s3)).setCell ⟨g3, 1, none⟩ (.slice A3 n3 c3)) (w.heap.size + 1) 28 [.bool false, .slice none 0 0] ∧ ∃ s A n c, Bx ((w8.setCell ⟨g3, 0, none⟩ (.bool s3)).setCell ⟨g3, 1, none⟩ (.slice A3 n3 c3)) g3 28 [.bool s, .slice A n c] ∧ Zc ((w8.setCell ⟨g3, 0, none⟩ (.bool s3)).setCell ⟨g3, 1, none⟩ (.slice A3 n3 c3)) s A n c (DT.sumN (j + 1) (dtm r F)) ∧ n ≤ k + dk k r + (j + 1)) := Lib.hid ⟨below_put B0 (by omega), b1.zo (by omega), b2.zo (by omega), s3, A3, n3, c3, b3.zp, hz3.zp b3, hk3⟩
        clear b1 b2 b3 hz3 B0
        go_wp2_with fail
        go_roundw
        case rel => exact ⟨j + 1, by go_num, by omega, HS⟩
        case measure => first | (simp [intOf]; done) | (simp [intOf]; omega)
      · refine Run.start 3 ?_
        refine .mv .o ?_
        refine .two (.i 0) .o (opRem2 j (by omega)) ?_
        refine .two (.i 1) .o (opEq HT.out) ?_
        refine .donep [some 25, some 26, some 27] ?_
        intro w7 B7
        change Shut (wpList _ _ _ [] _ _)
        refine ⟨?_⟩
        simp only [Act.put, List.setIfInBounds_toArray, List.set_cons_zero, List.set_cons_succ]
        replace B0 := zup B0 B7
        replace b1 := b1.below B7
        replace b2 := b2.below B7
        replace b3 := b3.below B7
        replace b5 := b5.below B7
        replace hz1 := hz1.below B7
        replace hz2 := hz2.below B7
        have he : j % 2 = 1 := by have := of_decide_eq_true HT.out; omega
        have HE : Hid (DT.sumN (j + 1) (dtm r F) = DT.sumN j (dtm r F) + -(F 0 j * DT.det r (DT.minor F j))) := Lib.hid (by
          show DT.sumN j (dtm r F) + dtm r F j = _
          unfold dtm
          rw [sgn_odd j he, Int.neg_mul, Int.one_mul, Int.neg_mul])
        clear B7
        go_upto_region 9 with fail
        refine Run.start 2 ?_
        refine .ld .o (ldZ b5 0) ?_
        refine .c1 (.i 0) (x := kC (-(F 0 j * DT.det r (DT.minor F j))) (k + dk k r)) (by rintro u w8 hB rfl; exact (zneg_q ⟨_, _, _, _, rfl, (hz2.below hB).zv, Nat.le_refl _⟩ (by omega)).mono fun e w' h => h.mono fun v w2 ⟨s, A, n, c, e, h1, h2⟩ => ⟨s, A, n, c, e, h1, by omega⟩) ?_
        refine .donep [some 28, some 29] ?_
        intro w8 B8
        rintro v ⟨s4, A4, n4, c4, rfl, hz4, hk4⟩
        change Shut (wpList _ _ _ [_] _ _)
        refine ⟨?_⟩
        simp only [Act.put, List.setIfInBounds_toArray, List.set_cons_zero, List.set_cons_succ]
        have hs8 := B0.size
        replace B0 := zup B0 B8
        replace b1 := b1.below B8
        replace b2 := b2.below B8
        have hl3b := b3.lt
        replace b3 := b3.below B8
        replace b5 := b5.below B8
        replace hz1 := hz1.below B8
        clear B8 hz2
        obtain ⟨w9, hw9⟩ : ∃ x, zput w8 g5 s4 A4 n4 c4 = x := ⟨_, rfl⟩
        obtain ⟨f1_, f2_, f3_, f4_, f5_⟩ := Ib.entry b5
        replace b1 := b1.zo (g := g5) (s := s4) (A := A4) (n := n4) (c := c4) (by omega)
        rw [hw9] at b1
        replace b2 := b2.zo (g := g5) (s := s4) (A := A4) (n := n4) (c := c4) (by omega)
        rw [hw9] at b2
        replace b3 := b3.zo (g := g5) (s := s4) (A := A4) (n := n4) (c := c4) (by omega)
        rw [hw9] at b3
        replace hz1 := hz1.zp (s' := s4) (A' := A4) (n' := n4) (c' := c4) b5
        rw [hw9] at hz1
        replace hz4 := hz4.zp (s' := s4) (A' := A4) (n' := n4) (c' := c4) b5
        rw [hw9] at hz4
        replace B0 := below_put (g := g5) (s := s4) (A := A4) (n := n4) (c := c4) B0 (by omega)
        rw [hw9] at B0
        replace b5 := b5.zp (s := s4) (A := A4) (n := n4) (c := c4)
        rw [hw9] at b5
        have Hw9 := Lib.hid hw9
        unfold zput at Hw9
        clear hw9
        go_upto_region 10 with fail
        rw [Hw9.out]
        clear f1_ f2_ f3_ f4_ f5_ Hw9
        refine Run.start 3 ?_
        refine .ld .o (ldZ b3 0) ?_
        refine .ld .o (ldZ b5 0) ?_
        refine .c2 (.i 0) (.i 1) (x := kC (DT.sumN (j + 1) (dtm r F)) (k + dk k r + (j + 1))) (by rintro u v w10 hB rfl rfl; rw [show DT.sumN (j + 1) (dtm r F) = DT.sumN j (dtm r F) + -(F 0 j * DT.det r (DT.minor F j)) from HE.out]; exact zadd_q ⟨_, _, _, _, rfl, (hz1.below hB).zv, hk1⟩ ⟨_, _, _, _, rfl, (hz4.below hB).zv, hk4⟩ (by omega) (by omega) (by omega)) ?_
        refine .donep [some 30, some 31, some 32] ?_
        intro w10 B10
        rintro v ⟨s3, A3, n3, c3, rfl, hz3, hk3⟩
        change Shut (wpList _ _ _ [_] _ _)
        refine ⟨?_⟩
        simp only [Act.put, List.setIfInBounds_toArray, List.set_cons_zero, List.set_cons_succ]
        replace B0 := zup B0 B10
        replace b1 := b1.below B10
        replace b2 := b2.below B10
        replace b3 := b3.below B10
        have hg3w := B0.size
        clear B10 b5 hz4 hz1
        obtain ⟨f1_, f2_, f3_, f4_, f5_⟩ := Ib.entry b3
        have HS : Hid (Below w.heap.size w ((w10.setCell ⟨g3, 0, none⟩ (.bool s3)).setCell ⟨g3, 1, none⟩ (.slice A3 n3 c3)) ∧ Bx ((w10.setCell ⟨g3, 0, none⟩ (.bool s3)).setCell ⟨g3, 1, none⟩ (.slice A3 n3 c3)) w.heap.size 24 [.int .i64 (R : Int), .int .i64 (R : Int), .slice A n d] ∧ Bx ((w10.setCell ⟨g3, 0, none⟩ (.bool s3)).setCell ⟨g3, 1, none⟩ (.slice A3 n3 c3)) (w.heap.size + 1) 28 [.bool false, .slice none 0 0] ∧ ∃ s A n c, Bx ((w10.setCell ⟨g3, 0, none⟩ (.bool s3)).setCell ⟨g3, 1, none⟩ (.slice A3 n3 c3)) g3 28 [.bool s, .slice A n c] ∧ Zc ((w10.setCell ⟨g3, 0, none⟩ (.bool s3)).setCell ⟨g3, 1, none⟩ (.slice A3 n3 c3)) s A n c (DT.sumN (j + 1) (dtm r F)) ∧ n ≤ k + dk k r + (j + 1)) := Lib.hid ⟨below_put B0 (by omega), b1.zo (by omega), b2.zo (by omega), s3, A3, n3, c3, b3.zp, hz3.zp b3, hk3⟩
        clear b1 b2 b3 hz3 B0
        go_wp2_with fail
        go_roundw
        case rel => exact ⟨j + 1, by go_num, by omega, HS⟩
        case measure => first | (simp [intOf]; done) | (simp [intOf]; omega)
    · obtain rfl : j = r + 1 := by omega
      have u2 : ¬ (R : Int) < (R : Int) := by omega
      have I := Ib.entry b2
      have hz' : Zc wr s1_ A1 n1 c1 (DT.det (r + 1) F) := hz1
      have P := Lib.hid (retC hz' I (k := dk k (r + 1)) (by unfold dk; omega) (by omega) B0)
      obtain ⟨f1_, f2_, f3_, f4_, f5_⟩ := Ib.entry b3
      obtain ⟨k1, k2, k3, k4, k5⟩ := I
      clear HB b1 b2 b3 hz1 hz' B0
      go_wp2_with fail
      exact bodyPost_ret (v := .agg #[.bool s1_, .slice A1 n1 c1]) (by simp [results, Try.results47, go_sem, k1, k2]) rfl P.out
/-- The reference's Det. -/
theorem rdt_q : ∀ {q : Bool} {r n d k : Nat} {A : Option Addr} {F : Nat → Nat → Int} {w : World}, Mt q w r r A n d k F → dk k r ≤ 549755813888 → Calls Try.prog 47 #[.agg #[.int .i64 (r : Int), .int .i64 (r : Int), .slice A n d]] w (RetK (kC (DT.det r F) (dk k r)) w)
  | q, 0, n, d, k, A, F, w, ha, hK => rdt_zero ha
  | q, r + 1, n, d, k, A, F, w, ha, hK => rdt_succ rfl ha hK fun _ _ _ _ _ _ h => rdt_q h (by unfold dk at hK; omega)
end Go.Proofs.Ytcdkdanfiimlkaa
