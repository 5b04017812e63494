/-
  Package zmat: place, number, unit.
-/
import Derived.Test.YtcdkdanfiimlkaaMtC
/-! Contracts: the numbers of a matrix. -/
namespace Go.Proofs.Ytcdkdanfiimlkaa
open Go.RowKit
set_option linter.unusedVariables false
set_option linter.unusedSimpArgs false

set_option maxRecDepth 100000 in
/-- place. -/
theorem place_q {q : Bool} {r c n d k i j : Nat} {A : Option Addr} {F : Nat → Nat → Int} {w : World} (h : Mt q w r c A n d k F) (hi : i < r) (hj : j < c) : Calls Try.prog 61 #[.agg #[.int .i64 (r : Int), .int .i64 (c : Int), .slice A n d], .int .i64 (i : Int), .int .i64 (j : Int)] w (RetK (kV (F i j) k) w) := by
  have h1 := h.hr
  have h2 := h.hc
  have h5 : i * c ≤ 64 * 64 := Nat.mul_le_mul (by omega) h2
  obtain ⟨w1, hw1, b3, b6, z1, s1⟩ := boxes2 w 24 28 [.int .i64 (r : Int), .int .i64 (c : Int), .slice A n d] [.bool false, .slice none 0 0]
  have HW := Lib.hid hw1
  have HZ := Lib.hid z1
  obtain ⟨ad, rfl, hab, hlt, s_, A_, n_, c_, c0, c1, ze, hk⟩ := (h.below z1).elem hi hj
  have hz := ze.1
  clear ze h
  clear hw1 z1 s1
  go_enter Try.func61, Try.ntmps61
  go_upto_region 1 with fail
  rw [HW.out]
  refine Run.start 10 ?_
  refine .fa .o (fM2 2) ?_
  refine .ld (.i 0) (ldSl b3 2) ?_
  refine .mv .o ?_
  refine .fa .o (fM1 1) ?_
  refine .ld (.i 3) (ldInt b3 1) ?_
  refine .two (.i 2) (.i 4) (opMulN i c (by omega)) ?_
  refine .mv .o ?_
  refine .two (.i 5) (.i 6) (opAddN (i * c) j (by omega)) ?_
  refine .two (.i 1) (.i 7) (opIx hlt) ?_
  refine .ld (.i 8) (ldE (by rw [add_block]; exact hab) c0 c1) ?_
  refine .donep [some 7, some 8, some 9, some 10, some 11, some 12, some 13, some 14, some 15, some 16] ?_
  intro w2 B2
  change Shut (wpList _ _ _ [_] _ _)
  refine ⟨?_⟩
  simp only [Act.put, List.setIfInBounds_toArray, List.set_cons_zero, List.set_cons_succ]
  replace hz := hz.below B2
  clear c0 c1
  have I := Ib.entry (b6.below B2)
  have P := Lib.hid (retV hz I (k := k) (by omega) (by omega) (zup HZ.out B2))
  obtain ⟨i1, i2, i3, i4, i5⟩ := I
  clear hz
  go_wp2_with fail
  exact bodyPost_ret (v := .agg #[.bool s_, .slice A_ n_ c_]) (by simp [results, Try.results61, go_sem, i1, i2]) rfl P.out
set_option maxRecDepth 100000 in
/-- number. -/
theorem number_q {q : Bool} {r c n d k i j : Nat} {A : Option Addr} {F : Nat → Nat → Int} {w : World} (h : Mt q w r c A n d k F) (hi : i < r) (hj : j < c) (hk : k ≤ 1099511627776) : Calls Try.prog 69 #[.agg #[.int .i64 (r : Int), .int .i64 (c : Int), .slice A n d], .int .i64 (i : Int), .int .i64 (j : Int)] w (RetK (kC (F i j) k) w) := by
  obtain ⟨w1, hw1, b3, b6, z1, s1⟩ := boxes2 w 24 28 [.int .i64 (r : Int), .int .i64 (c : Int), .slice A n d] [.bool false, .slice none 0 0]
  have HW := Lib.hid hw1
  have HZ := Lib.hid z1
  replace h := h.below z1
  clear hw1 z1
  go_enter Try.func69, Try.ntmps69
  go_upto_region 1 with fail
  rw [HW.out]
  refine Run.start 5 ?_
  refine .ld .o (ldM b3 0) ?_
  refine .mv .o ?_
  refine .mv .o ?_
  refine .c3 (.i 0) (.i 1) (.i 2) (x := kV (F i j) k) (by rintro u v x w2 hB rfl rfl rfl; exact place_q (h.below hB) hi hj) ?_
  refine .al ?_
  refine .donep [some 8, some 9, some 10, some 11, some 7] ?_
  intro w2 B2
  rintro v7 ⟨s_, A_, n_, c_, rfl, hz, hk1⟩
  intro g7 hg7 hl7 hc7 ha7
  change Shut (wpList _ _ _ [_] _ _)
  refine ⟨?_⟩
  simp only [Act.put, List.setIfInBounds_toArray, List.set_cons_zero, List.set_cons_succ]
  have b7 : Bx w2 g7 28 [.bool false, .slice none 0 0] := hc7.trans (congrArg some (by kernel_rfl))
  obtain ⟨w3, hw3⟩ : ∃ w3, (w2.setCell ⟨g7, 0, none⟩ (.bool s_)).setCell ⟨g7, 1, none⟩ (.slice A_ n_ c_) = w3 := ⟨_, rfl⟩
  have hs1 := s1
  obtain ⟨i1, i2, i3, i4, i5⟩ := Ib.entry b7
  have hz3 : Zv w3 s_ A_ n_ c_ (F i j) := by rw [← hw3]; exact hz.put (Ib.entry b7)
  have b7' : Bx w3 g7 28 [.bool s_, .slice A_ n_ c_] := by rw [← hw3]; exact (b7.set 0 _).set 1 _
  have b6' : Bx w3 (w.heap.size + 1) 28 [.bool false, .slice none 0 0] := by rw [← hw3]; exact ((b6.below B2).off (by omega) _ _).off (by omega) _ _
  have B3 : Below w.heap.size w w3 := by rw [← hw3]; exact ((zup HZ.out B2).setCell (by show w.heap.size ≤ g7; omega) _).setCell (by show w.heap.size ≤ g7; omega) _
  have HW3 := Lib.hid hw3
  clear hw3 hz b7 hc7 hg7 hl7 ha7 hs1
  go_upto_region 2 with fail
  rw [HW3.out]
  clear i1 i2 i3 i4 i5 HW3
  refine Run.start 5 ?_
  refine .fa .o (fZ1 1) ?_
  refine .ld (.i 0) (ldNat b7' 1) ?_
  refine .fa .o (fZ0 0) ?_
  refine .ld (.i 2) (ldBool b7' 0) ?_
  refine .c2 (.i 1) (.i 3) (x := kC (F i j) k) (by rintro u v w2 hB rfl rfl; exact zfrom_q (hz3.below hB) hk1 hk) ?_
  refine .donep [some 12, some 13, some 14, some 15, some 16] ?_
  intro w4 B4
  rintro v8 ⟨s8, A8, n8, c8, rfl, hz, hk8⟩
  change Shut (wpList _ _ _ [_] _ _)
  refine ⟨?_⟩
  simp only [Act.put, List.setIfInBounds_toArray, List.set_cons_zero, List.set_cons_succ]
  have I := Ib.entry (b6'.below B4)
  have P := Lib.hid (retC hz I (k := k) (by omega) (by omega) (zup B3 B4))
  obtain ⟨i1, i2, i3, i4, i5⟩ := I
  clear hz
  go_wp2_with fail
  exact bodyPost_ret (v := .agg #[.bool s8, .slice A8 n8 c8]) (by simp [results, Try.results69, go_sem, i1, i2]) rfl P.out
set_option maxRecDepth 100000 in
/-- unit. -/
theorem unit_q {i j : Nat} (w : World) : Calls Try.prog 74 #[.int .i64 (i : Int), .int .i64 (j : Int)] w (RetK (kC (if i = j then 1 else 0) 1) w) := by
  obtain ⟨z, hz0⟩ : ∃ z : Int, (if i = j then 1 else 0) = z := ⟨_, rfl⟩
  have Hz := Lib.hid hz0
  rw [hz0]
  obtain ⟨w1, hw1, b4, z1, s1⟩ := boxes1 w 28 [.bool false, .slice none 0 0]
  have HW := Lib.hid hw1
  have HZ := Lib.hid z1
  clear hw1 z1 s1 hz0
  go_enter Try.func74, Try.ntmps74
  go_upto_region 1 with fail
  rw [HW.out]
  by_cases hij : i = j
  · have u1 : (i : Int) = (j : Int) := by omega
    have e1 : z = 1 := by rw [← Hz.out, if_pos hij]
    subst e1
    clear hij Hz
    go_upto_region 2 with fail
    refine Run.start 1 ?_
    refine .c1 .o (x := kC 1 1) (by rintro u w2 hB rfl; exact zof_q (by decide) (by decide) w2) ?_
    refine .donep [some 8] ?_
    intro w2 B2
    rintro v ⟨s_, A_, n_, c_, rfl, hz, hk⟩
    change Shut (wpList _ _ _ [_] _ _)
    refine ⟨?_⟩
    simp only [Act.put, List.setIfInBounds_toArray, List.set_cons_zero, List.set_cons_succ]
    have I := Ib.entry (b4.below B2)
    have P := Lib.hid (retC hz I (k := 1) (by omega) (by omega) (zup HZ.out B2))
    obtain ⟨i1, i2, i3, i4, i5⟩ := I
    clear hz
    go_wp2_with fail
    exact bodyPost_ret (v := .agg #[.bool s_, .slice A_ n_ c_]) (by simp [results, Try.results74, go_sem, i1, i2]) rfl P.out
  · have u1 : ¬ (i : Int) = (j : Int) := by omega
    have e1 : z = 0 := by rw [← Hz.out, if_neg hij]
    subst e1
    clear hij Hz
    have I := Ib.entry b4
    have P := Lib.hid (retC (Zc.nought w1) I (k := 1) (by omega) (by omega) HZ.out)
    obtain ⟨i1, i2, i3, i4, i5⟩ := I
    go_wp2_with fail
    exact bodyPost_ret (v := .agg #[.bool false, .slice none 0 0]) (by simp [results, Try.results74, go_sem, i1, i2]) rfl P.out
end Go.Proofs.Ytcdkdanfiimlkaa
