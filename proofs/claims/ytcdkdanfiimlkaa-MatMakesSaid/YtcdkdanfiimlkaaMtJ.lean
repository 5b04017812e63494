/-
  Package zmat: Of, New, Identity, Same, Bits, Zero, At.
-/
import Derived.Test.YtcdkdanfiimlkaaMtI
/-! Contracts: matrices that are made; what is told of them. -/
namespace Go.Proofs.Ytcdkdanfiimlkaa
open Go.RowKit
set_option linter.unusedVariables false
set_option linter.unusedSimpArgs false

theorem argsE (i j : Value) : #[] ++ #[i, j] ++ #[] = #[i, j] := rfl
/-- A list of numbers of 64 bits. -/
structure Il (w : World) (A : Option Addr) (n d : Nat) (xs : List Int) : Prop where
  len : xs.length = n
  le : n ≤ d
  cap : d ≤ 9223372036854775807
  at' : 0 < n → ∃ ad, A = some ad ∧ ad.block < w.heap.size ∧ ∀ j, j < n → w.cell? (ad.add j) = some (.int .i64 (xs.getD j 0))
  bd : ∀ j, j < n → -9223372036854775808 ≤ xs.getD j 0 ∧ xs.getD j 0 ≤ 9223372036854775807
theorem Il.below {w w' : World} {A : Option Addr} {n d : Nat} {xs : List Int} (h : Il w A n d xs) (hb : Below w.heap.size w w') : Il w' A n d xs := ⟨h.len, h.le, h.cap, fun h0 => by
  obtain ⟨ad, e, h1, h2⟩ := h.at' h0
  exact ⟨ad, e, Nat.lt_of_lt_of_le h1 hb.size, fun j hj => (hb.cell (p := ad.add j) (by rw [add_block]; exact h1)).trans (h2 j hj)⟩, h.bd⟩
theorem run_ixJ {w : World} {ad : Addr} {n d k : Nat} (h : k < n) : (Instr.indexAt 51 (.slice (some ad) n d) (.int .i64 (k : Int))).run Try.prog w = .ok (.pointer (some (ad.add k))) w := by
  simp [go_sem, Try.underlying51, show Try.prog.cellsOf 2 = 1 by kernel_rfl]
  omega
theorem opIxJ {ad : Addr} {n d k : Nat} {X Y : Operand} (h : k < n) (w : World) : RunTwo Try.prog (.indexAddr 51 X Y) w (.slice (some ad) n d) (.int .i64 (k : Int)) (.pointer (some (ad.add k))) := run_ixJ h
theorem ldJ {w : World} {p : Addr} {x : Int} (hp : p.block < w.heap.size) (h : w.cell? p = some (.int .i64 x)) : ∀ w', Below w.heap.size w w' → (Instr.loadAt 2 (.pointer (some p))).run Try.prog w' = .ok (.int .i64 x) w' := fun w' hb => by
  have := (hb.cell hp).trans h
  simp [go_sem, addr_add0, this]
theorem ldIL {w : World} {g : Nat} {T : TypeId} {cs : List Value} (b : Bx w g T cs) (o : Nat) {A : Option Addr} {n c : Nat} (hc : cs[o]? = some (.slice A n c) := by rfl) : ∀ w', Below w.heap.size w w' → (Instr.loadAt 51 (.pointer (some ⟨g, o, none⟩))).run Try.prog w' = .ok (.slice A n c) w' := fun w' hb => by
  have h := (b.below hb).cell o
  rw [hc] at h
  simp [go_sem, addr_add0, h]
set_option maxRecDepth 100000 in
/-- Of$1. -/
theorem of1_q {i j n d r c g g' : Nat} {A : Option Addr} {xs : List Int} {w : World} (b2 : Bx w g 51 [.slice A n d]) (b3 : Bx w g' 3 [.int .i64 (c : Int)]) (hl : Il w A n d xs) (hn : n = r * c) (hr : r ≤ 64) (hc : c ≤ 64) (hi : i < r) (hj : j < c) : Calls Try.prog 78 #[.int .i64 (i : Int), .int .i64 (j : Int), .pointer (some ⟨g, 0, none⟩), .pointer (some ⟨g', 0, none⟩)] w (RetK (kC (xs.getD (i * c + j) 0) 1) w) := by
  have h5 : i * c ≤ 64 * 64 := Nat.mul_le_mul (by omega) hc
  have hlt : i * c + j < n := by rw [hn]; exact at_lt hi hj
  obtain ⟨x, hx⟩ : ∃ x, xs.getD (i * c + j) 0 = x := ⟨_, rfl⟩
  rw [hx]
  obtain ⟨w1, hw1, b6, z1, s1⟩ := boxes1 w 28 [.bool false, .slice none 0 0]
  have HW := Lib.hid hw1
  have HZ := Lib.hid z1
  replace b2 := b2.below z1
  replace b3 := b3.below z1
  obtain ⟨ad, rfl, hab, hcell⟩ := (hl.below z1).at' (by omega)
  have hce := hcell _ hlt
  have hbd := hl.bd _ hlt
  rw [hx] at hce hbd
  clear hcell hl
  clear hw1 z1 s1 hx hn
  go_enter Try.func78, Try.ntmps78
  go_upto_region 1 with fail
  rw [HW.out]
  refine Run.start 9 ?_
  refine .ld .o (ldIL b2 0) ?_
  refine .mv .o ?_
  refine .ld .o (ldInt b3 0) ?_
  refine .two (.i 1) (.i 2) (opMulN i c (by omega)) ?_
  refine .mv .o ?_
  refine .two (.i 3) (.i 4) (opAddN (i * c) j (by omega)) ?_
  refine .two (.i 0) (.i 5) (opIxJ hlt) ?_
  refine .ld (.i 6) (ldJ (by rw [add_block]; exact hab) hce) ?_
  refine .c1 (.i 7) (x := kC x 1) (by rintro u w2 hB rfl; exact zof_q hbd.1 hbd.2 w2) ?_
  refine .donep [some 7, some 8, some 9, some 10, some 11, some 12, some 13, some 14, some 15] ?_
  intro w2 B2
  rintro v ⟨s_, A_, n_, c_, rfl, hz, hk_⟩
  change Shut (wpList _ _ _ [_] _ _)
  refine ⟨?_⟩
  simp only [Act.put, List.setIfInBounds_toArray, List.set_cons_zero, List.set_cons_succ]
  have I := Ib.entry (b6.below B2)
  have P := Lib.hid (retC hz I (k := 1) (by omega) (by omega) (zup HZ.out B2))
  obtain ⟨i1, i2, i3, i4, i5⟩ := I
  clear hz
  go_wp2_with fail
  exact bodyPost_ret (v := .agg #[.bool s_, .slice A_ n_ c_]) (by simp [results, Try.results78, go_sem, i1, i2]) rfl P.out
set_option maxRecDepth 100000 in
/-- Of. -/
theorem mof_yes {r c n d : Nat} {A : Option Addr} {xs : List Int} {w : World} (hl : Il w A n d xs) (hn : n = r * c) (hr : r ≤ 64) (hc : c ≤ 64) : Calls Try.prog 36 #[.int .i64 (r : Int), .int .i64 (c : Int), .slice A n d] w (RetK (kT (kM true r c (1) (fun i j => xs.getD (i * c + j) 0)) (.k (.int .i64 0))) w) := by
  have h1 : sd (r : Int) = true := by unfold sd; exact decide_eq_true (by omega)
  have h2 : sd (c : Int) = true := by unfold sd; exact decide_eq_true (by omega)
  have hrc : r * c ≤ 64 * 64 := Nat.mul_le_mul hr hc
  obtain ⟨w1, hw1, b4, b5, b6, z1, s1⟩ := boxes3 w 3 51 24 [.int .i64 (c : Int)] [.slice A n d] [.int .i64 0, .int .i64 0, .slice none 0 0]
  have HW := Lib.hid hw1
  have HZ := Lib.hid z1
  have h1_ := Lib.hid h1
  have h2_ := Lib.hid h2
  have hn_ := Lib.hid hn
  clear hw1 z1 h1 h2 hn s1
  go_enter Try.func36, Try.ntmps36
  go_upto_region 1 with fail
  rw [HW.out]
  refine Run.start 9 ?_
  refine .mv .o ?_
  refine .c1 (.i 0) (x := .k (.bool true)) (by rintro u w2 hB rfl; exact side_q _ h1_.out w2) ?_
  refine .nt (.i 1) ?_
  refine .mv (.i 2) ?_
  refine .ld .o (ldInt b4 0) ?_
  refine .c1 (.i 4) (x := .k (.bool true)) (by rintro u w2 hB rfl; exact side_q _ h2_.out w2) ?_
  refine .nt (.i 5) ?_
  refine .pk (.i 3) (.i 6) false ?_
  refine .mv (.i 7) ?_
  refine .donep [some 9, some 10, some 11, some 12, some 13, some 14, some 15, some 16, some 8] ?_
  intro w2 B2
  change Shut (wpList _ _ _ [] _ _)
  refine ⟨?_⟩
  simp only [Act.put, List.setIfInBounds_toArray, List.set_cons_zero, List.set_cons_succ]
  replace b4 := b4.below B2
  replace b5 := b5.below B2
  replace b6 := b6.below B2
  have HZ2 := Lib.hid (zup HZ.out B2)
  clear B2 HZ
  go_upto_region 3 with fail
  refine Run.start 7 ?_
  refine .ld .o (ldIL b5 0) ?_
  refine .len (.i 0) Try.underlying51 ?_
  refine .mv .o ?_
  refine .ld .o (ldInt b4 0) ?_
  refine .two (.i 2) (.i 3) (opMulN r c (by omega)) ?_
  refine .two (.i 1) (.i 4) (opNe (decide_eq_false (by have := hn_.out; omega : ¬ ((n : Int) ≠ ((r * c : Nat) : Int))))) ?_
  refine .mv (.i 5) ?_
  refine .donep [some 19, some 20, some 21, some 22, some 23, some 24, some 18] ?_
  intro w3 B3
  change Shut (wpList _ _ _ [] _ _)
  refine ⟨?_⟩
  simp only [Act.put, List.setIfInBounds_toArray, List.set_cons_zero, List.set_cons_succ]
  replace b4 := b4.below B3
  replace b5 := b5.below B3
  replace b6 := b6.below B3
  have HZ3 := Lib.hid (zup HZ2.out B3)
  clear B3 HZ2
  go_upto_region 5 with fail
  refine Run.start 4 ?_
  refine .mv .o ?_
  refine .ld .o (ldInt b4 0) ?_
  refine .fn [] [.o, .o] [] [_, _] (trivial) (⟨rfl, rfl, trivial⟩) ?_
  refine .c3 (.i 0) (.i 1) (.i 2) (x := kM true r c 1 (fun i j => xs.getD (i * c + j) 0)) (by rintro u v x w4 hB rfl rfl rfl; exact form_q hr hc (by kernel_rfl) (fun i j W hi hj hW => by rw [argsC2]; exact of1_q ((b5.below hB).below hW) ((b4.below hB).below hW) (hl.below (zup (zup HZ3.out hB) hW)) hn_.out hr hc hi hj)) ?_
  refine .donep [some 26, some 27, some 28, some 29] ?_
  intro w4 B4
  rintro v ⟨A_, n_, d_, rfl, hM⟩
  change Shut (wpList _ _ _ [_, _] _ _)
  refine ⟨?_⟩
  simp only [Act.put, List.setIfInBounds_toArray, List.set_cons_zero, List.set_cons_succ]
  have P := Lib.hid (retME hM (b6.below B4) (by omega) (zup HZ3.out B4))
  unfold mput at P
  obtain ⟨i0, i1, i2, i3, i4, i5, i6⟩ := (b6.below B4).m3
  clear hM
  go_wp2_with fail
  exact bodyPost_ret (v := .tuple #[.agg #[.int .i64 (r : Int), .int .i64 (c : Int), .slice A_ n_ d_], .int .i64 0]) (by simp [results, Try.results36, go_sem, i0, i1, i2]) rfl P.out
set_option maxRecDepth 100000 in
/-- Of, of other sides. -/
theorem mof_no1 {r c : Int} {n d : Nat} {A : Option Addr} {w : World} (h : (sd r && sd c) = false) : Calls Try.prog 36 #[.int .i64 r, .int .i64 c, .slice A n d] w (RetK (noM 1) w) := by
  obtain ⟨t1, h1⟩ : ∃ t, sd r = t := ⟨_, rfl⟩
  rw [h1] at h
  have h_ := Lib.hid h
  clear h
  obtain ⟨w1, hw1, b4, b5, b6, z1, s1⟩ := boxes3 w 3 51 24 [.int .i64 c] [.slice A n d] [.int .i64 0, .int .i64 0, .slice none 0 0]
  have HW := Lib.hid hw1
  have HZ := Lib.hid z1
  have h1_ := Lib.hid h1
  clear hw1 z1 h1 s1
  go_enter Try.func36, Try.ntmps36
  go_upto_region 1 with fail
  rw [HW.out]
  cases t1
  · refine Run.start 9 ?_
    refine .mv .o ?_
    refine .c1 (.i 0) (x := .k (.bool false)) (by rintro u w2 hB rfl; exact side_q _ h1_.out w2) ?_
    refine .nf (.i 1) ?_
    refine .mv (.i 2) ?_
    refine .no ?_
    refine .no ?_
    refine .no ?_
    refine .pk (.i 3) .o true ?_
    refine .mv (.i 7) ?_
    refine .donep [some 9, some 10, some 11, some 12, some 13, some 14, some 15, some 16, some 8] ?_
    intro w2 B2
    change Shut (wpList _ _ _ [] _ _)
    refine ⟨?_⟩
    simp only [Act.put, List.setIfInBounds_toArray, List.set_cons_zero, List.set_cons_succ]
    have P := Lib.hid (retNo (e := 1) (b6.below B2) (by omega) (zup HZ.out B2))
    unfold mput at P
    obtain ⟨i0, i1, i2, i3, i4, i5, i6⟩ := (b6.below B2).m3
    go_wp2_with fail
    exact bodyPost_ret (v := .tuple #[.agg #[.int .i64 0, .int .i64 0, .slice none 0 0], .int .i64 1]) (by simp [results, Try.results36, go_sem, i0, i1, i2]) rfl P.out
  · have h2 : sd c = false := by simpa using h_.out
    refine Run.start 9 ?_
    refine .mv .o ?_
    refine .c1 (.i 0) (x := .k (.bool true)) (by rintro u w2 hB rfl; exact side_q _ h1_.out w2) ?_
    refine .nt (.i 1) ?_
    refine .mv (.i 2) ?_
    refine .ld .o (ldInt b4 0) ?_
    refine .c1 (.i 4) (x := .k (.bool false)) (by rintro u w2 hB rfl; exact side_q _ h2 w2) ?_
    refine .nf (.i 5) ?_
    refine .pk (.i 3) (.i 6) false ?_
    refine .mv (.i 7) ?_
    refine .donep [some 9, some 10, some 11, some 12, some 13, some 14, some 15, some 16, some 8] ?_
    intro w2 B2
    change Shut (wpList _ _ _ [] _ _)
    refine ⟨?_⟩
    simp only [Act.put, List.setIfInBounds_toArray, List.set_cons_zero, List.set_cons_succ]
    have P := Lib.hid (retNo (e := 1) (b6.below B2) (by omega) (zup HZ.out B2))
    unfold mput at P
    obtain ⟨i0, i1, i2, i3, i4, i5, i6⟩ := (b6.below B2).m3
    go_wp2_with fail
    exact bodyPost_ret (v := .tuple #[.agg #[.int .i64 0, .int .i64 0, .slice none 0 0], .int .i64 1]) (by simp [results, Try.results36, go_sem, i0, i1, i2]) rfl P.out
set_option maxRecDepth 100000 in
/-- Of, of another number of numbers. -/
theorem mof_no2 {r c n d : Nat} {A : Option Addr} {w : World} (hn : n ≠ r * c) (hr : r ≤ 64) (hc : c ≤ 64) : Calls Try.prog 36 #[.int .i64 (r : Int), .int .i64 (c : Int), .slice A n d] w (RetK (noM 2) w) := by
  have h1 : sd (r : Int) = true := by unfold sd; exact decide_eq_true (by omega)
  have h2 : sd (c : Int) = true := by unfold sd; exact decide_eq_true (by omega)
  have hrc : r * c ≤ 64 * 64 := Nat.mul_le_mul hr hc
  obtain ⟨w1, hw1, b4, b5, b6, z1, s1⟩ := boxes3 w 3 51 24 [.int .i64 (c : Int)] [.slice A n d] [.int .i64 0, .int .i64 0, .slice none 0 0]
  have HW := Lib.hid hw1
  have HZ := Lib.hid z1
  have h1_ := Lib.hid h1
  have h2_ := Lib.hid h2
  have hn_ := Lib.hid hn
  clear hw1 z1 h1 h2 hn s1
  go_enter Try.func36, Try.ntmps36
  go_upto_region 1 with fail
  rw [HW.out]
  refine Run.start 9 ?_
  refine .mv .o ?_
  refine .c1 (.i 0) (x := .k (.bool true)) (by rintro u w2 hB rfl; exact side_q _ h1_.out w2) ?_
  refine .nt (.i 1) ?_
  refine .mv (.i 2) ?_
  refine .ld .o (ldInt b4 0) ?_
  refine .c1 (.i 4) (x := .k (.bool true)) (by rintro u w2 hB rfl; exact side_q _ h2_.out w2) ?_
  refine .nt (.i 5) ?_
  refine .pk (.i 3) (.i 6) false ?_
  refine .mv (.i 7) ?_
  refine .donep [some 9, some 10, some 11, some 12, some 13, some 14, some 15, some 16, some 8] ?_
  intro w2 B2
  change Shut (wpList _ _ _ [] _ _)
  refine ⟨?_⟩
  simp only [Act.put, List.setIfInBounds_toArray, List.set_cons_zero, List.set_cons_succ]
  replace b4 := b4.below B2
  replace b5 := b5.below B2
  replace b6 := b6.below B2
  have HZ2 := Lib.hid (zup HZ.out B2)
  clear B2 HZ
  go_upto_region 3 with fail
  refine Run.start 7 ?_
  refine .ld .o (ldIL b5 0) ?_
  refine .len (.i 0) Try.underlying51 ?_
  refine .mv .o ?_
  refine .ld .o (ldInt b4 0) ?_
  refine .two (.i 2) (.i 3) (opMulN r c (by omega)) ?_
  refine .two (.i 1) (.i 4) (opNe (decide_eq_true (by have := hn_.out; omega : (n : Int) ≠ ((r * c : Nat) : Int)))) ?_
  refine .mv (.i 5) ?_
  refine .donep [some 19, some 20, some 21, some 22, some 23, some 24, some 18] ?_
  intro w3 B3
  change Shut (wpList _ _ _ [] _ _)
  refine ⟨?_⟩
  simp only [Act.put, List.setIfInBounds_toArray, List.set_cons_zero, List.set_cons_succ]
  have P := Lib.hid (retNo (e := 2) (b6.below B3) (by omega) (zup HZ2.out B3))
  unfold mput at P
  obtain ⟨i0, i1, i2, i3, i4, i5, i6⟩ := (b6.below B3).m3
  go_wp2_with fail
  exact bodyPost_ret (v := .tuple #[.agg #[.int .i64 0, .int .i64 0, .slice none 0 0], .int .i64 2]) (by simp [results, Try.results36, go_sem, i0, i1, i2]) rfl P.out
set_option maxRecDepth 100000 in
/-- New. -/
theorem mnew_yes {r c : Nat} {w : World} (hr : r ≤ 64) (hc : c ≤ 64) : Calls Try.prog 37 #[.int .i64 (r : Int), .int .i64 (c : Int)] w (RetK (kT (kM true r c (0) (fun _ _ => 0)) (.k (.int .i64 0))) w) := by
  have h1 : sd (r : Int) = true := by unfold sd; exact decide_eq_true (by omega)
  have h2 : sd (c : Int) = true := by unfold sd; exact decide_eq_true (by omega)
  obtain ⟨N, hN⟩ : ∃ N, r * c = N := ⟨_, rfl⟩
  have hN2 : N ≤ 4096 := by rw [← hN]; exact Nat.mul_le_mul hr hc
  have e19 : (r : Int) * (c : Int) = (N : Int) := by rw [← hN]; simp
  obtain ⟨w1, hw1, b4, z1, s1⟩ := boxes1 w 24 [.int .i64 0, .int .i64 0, .slice none 0 0]
  have HW := Lib.hid hw1
  have HZ := Lib.hid z1
  have h1_ := Lib.hid h1
  have h2_ := Lib.hid h2
  have hN_ := Lib.hid hN
  have e19_ := Lib.hid e19
  clear hw1 z1 h1 h2 hN e19 s1
  go_enter Try.func37, Try.ntmps37
  go_upto_region 1 with fail
  rw [HW.out]
  refine Run.start 8 ?_
  refine .mv .o ?_
  refine .c1 (.i 0) (x := .k (.bool true)) (by rintro u w2 hB rfl; exact side_q _ h1_.out w2) ?_
  refine .nt (.i 1) ?_
  refine .mv (.i 2) ?_
  refine .mv .o ?_
  refine .c1 (.i 4) (x := .k (.bool true)) (by rintro u w2 hB rfl; exact side_q _ h2_.out w2) ?_
  refine .nt (.i 5) ?_
  refine .pk (.i 3) (.i 6) false ?_
  refine .donep [some 6, some 7, some 8, some 9, some 10, some 11, some 12, some 13] ?_
  intro w2 B2
  change Shut (wpList _ _ _ [] _ _)
  refine ⟨?_⟩
  simp only [Act.put, List.setIfInBounds_toArray, List.set_cons_zero, List.set_cons_succ]
  replace b4 := b4.below B2
  have HZ2 := Lib.hid (zup HZ.out B2)
  have hl4 := b4.lt
  clear B2 HZ
  go_upto_region 3 with fail
  have e19 := e19_.out
  obtain ⟨i0, i1, i2, i3, i4, i5, i6⟩ := b4.m3
  go_wp2_with (at_make; refine wpList_make_z _ rfl _ _ 22 rfl Try.underlying22 info_zint _ _ _ _ N rfl rfl (by omega) (by omega) (by omega) ?_)
  intro w3 hb B3 s3
  replace b4 := b4.below B3
  have hM : Mt true w3 r c (some ⟨w2.heap.size, 0, none⟩) N N 0 (fun _ _ => 0) := ⟨by
    have h := hb.zl0 true (n := N) (c := N) (by simp) (Nat.le_refl _) (by omega)
    rw [List.take_of_length_le (by simp)] at h
    rw [show mk r c (fun _ _ => 0) = List.replicate N 0 by unfold mk; rw [hN_.out]; apply List.ext_getElem <;> simp]
    exact h, hr, hc⟩
  have P := Lib.hid (retME hM b4 (by omega) (zup HZ2.out B3))
  unfold mput at P
  clear i0 i1 i2 i3 i4 i5 i6 e19
  obtain ⟨i0, i1, i2, i3, i4, i5, i6⟩ := b4.m3
  clear hM hb
  have s3_ := Lib.hid s3
  clear s3
  go_wp2_with fail
  exact bodyPost_ret (v := .tuple #[.agg #[.int .i64 (r : Int), .int .i64 (c : Int), .slice (some ⟨w2.heap.size, 0, none⟩) N N], .int .i64 0]) (by simp [results, Try.results37, go_sem, i0, i1, i2]) rfl P.out
set_option maxRecDepth 100000 in
/-- New, of other sides. -/
theorem mnew_no {r c : Int} {w : World} (h : (sd r && sd c) = false) : Calls Try.prog 37 #[.int .i64 r, .int .i64 c] w (RetK (noM 1) w) := by
  obtain ⟨t1, h1⟩ : ∃ t, sd r = t := ⟨_, rfl⟩
  rw [h1] at h
  have h_ := Lib.hid h
  clear h
  obtain ⟨w1, hw1, b4, z1, s1⟩ := boxes1 w 24 [.int .i64 0, .int .i64 0, .slice none 0 0]
  have HW := Lib.hid hw1
  have HZ := Lib.hid z1
  have h1_ := Lib.hid h1
  clear hw1 z1 h1 s1
  go_enter Try.func37, Try.ntmps37
  go_upto_region 1 with fail
  rw [HW.out]
  cases t1
  · refine Run.start 8 ?_
    refine .mv .o ?_
    refine .c1 (.i 0) (x := .k (.bool false)) (by rintro u w2 hB rfl; exact side_q _ h1_.out w2) ?_
    refine .nf (.i 1) ?_
    refine .mv (.i 2) ?_
    refine .no ?_
    refine .no ?_
    refine .no ?_
    refine .pk (.i 3) .o true ?_
    refine .donep [some 6, some 7, some 8, some 9, some 10, some 11, some 12, some 13] ?_
    intro w2 B2
    change Shut (wpList _ _ _ [] _ _)
    refine ⟨?_⟩
    simp only [Act.put, List.setIfInBounds_toArray, List.set_cons_zero, List.set_cons_succ]
    have P := Lib.hid (retNo (e := 1) (b4.below B2) (by omega) (zup HZ.out B2))
    unfold mput at P
    obtain ⟨i0, i1, i2, i3, i4, i5, i6⟩ := (b4.below B2).m3
    go_wp2_with fail
    exact bodyPost_ret (v := .tuple #[.agg #[.int .i64 0, .int .i64 0, .slice none 0 0], .int .i64 1]) (by simp [results, Try.results37, go_sem, i0, i1, i2]) rfl P.out
  · have h2 : sd c = false := by simpa using h_.out
    refine Run.start 8 ?_
    refine .mv .o ?_
    refine .c1 (.i 0) (x := .k (.bool true)) (by rintro u w2 hB rfl; exact side_q _ h1_.out w2) ?_
    refine .nt (.i 1) ?_
    refine .mv (.i 2) ?_
    refine .mv .o ?_
    refine .c1 (.i 4) (x := .k (.bool false)) (by rintro u w2 hB rfl; exact side_q _ h2 w2) ?_
    refine .nf (.i 5) ?_
    refine .pk (.i 3) (.i 6) false ?_
    refine .donep [some 6, some 7, some 8, some 9, some 10, some 11, some 12, some 13] ?_
    intro w2 B2
    change Shut (wpList _ _ _ [] _ _)
    refine ⟨?_⟩
    simp only [Act.put, List.setIfInBounds_toArray, List.set_cons_zero, List.set_cons_succ]
    have P := Lib.hid (retNo (e := 1) (b4.below B2) (by omega) (zup HZ.out B2))
    unfold mput at P
    obtain ⟨i0, i1, i2, i3, i4, i5, i6⟩ := (b4.below B2).m3
    go_wp2_with fail
    exact bodyPost_ret (v := .tuple #[.agg #[.int .i64 0, .int .i64 0, .slice none 0 0], .int .i64 1]) (by simp [results, Try.results37, go_sem, i0, i1, i2]) rfl P.out
set_option maxRecDepth 100000 in
/-- Identity. -/
theorem mid_yes {r : Nat} {w : World} (hr : r ≤ 64) : Calls Try.prog 31 #[.int .i64 (r : Int)] w (RetK (kT (kM true r r (1) (fun i j => if i = j then 1 else 0)) (.k (.int .i64 0))) w) := by
  have h1 : sd (r : Int) = true := by unfold sd; exact decide_eq_true (by omega)
  obtain ⟨w1, hw1, b2, z1, s1⟩ := boxes1 w 24 [.int .i64 0, .int .i64 0, .slice none 0 0]
  have HW := Lib.hid hw1
  have HZ := Lib.hid z1
  have h1_ := Lib.hid h1
  clear hw1 z1 h1 s1
  go_enter Try.func31, Try.ntmps31
  go_upto_region 1 with fail
  rw [HW.out]
  refine Run.start 3 ?_
  refine .mv .o ?_
  refine .c1 (.i 0) (x := .k (.bool true)) (by rintro u w2 hB rfl; exact side_q _ h1_.out w2) ?_
  refine .nt (.i 1) ?_
  refine .donep [some 4, some 5, some 6] ?_
  intro w2 B2
  change Shut (wpList _ _ _ [] _ _)
  refine ⟨?_⟩
  simp only [Act.put, List.setIfInBounds_toArray, List.set_cons_zero, List.set_cons_succ]
  replace b2 := b2.below B2
  have HZ2 := Lib.hid (zup HZ.out B2)
  clear B2 HZ
  go_upto_region 3 with fail
  refine Run.start 3 ?_
  refine .mv .o ?_
  refine .mv .o ?_
  refine .c3 (.i 0) (.i 1) .o (x := kM true r r 1 (fun i j => if i = j then 1 else 0)) (by rintro u v x w4 hB rfl rfl rfl; exact form_q hr hr (by kernel_rfl) (fun i j W hi hj hW => by rw [argsF]; exact unit_q W)) ?_
  refine .donep [some 8, some 9, some 10] ?_
  intro w3 B3
  rintro v ⟨A_, n_, d_, rfl, hM⟩
  change Shut (wpList _ _ _ [_, _] _ _)
  refine ⟨?_⟩
  simp only [Act.put, List.setIfInBounds_toArray, List.set_cons_zero, List.set_cons_succ]
  have P := Lib.hid (retME hM (b2.below B3) (by omega) (zup HZ2.out B3))
  unfold mput at P
  obtain ⟨i0, i1, i2, i3, i4, i5, i6⟩ := (b2.below B3).m3
  clear hM
  go_wp2_with fail
  exact bodyPost_ret (v := .tuple #[.agg #[.int .i64 (r : Int), .int .i64 (r : Int), .slice A_ n_ d_], .int .i64 0]) (by simp [results, Try.results31, go_sem, i0, i1, i2]) rfl P.out
set_option maxRecDepth 100000 in
/-- Identity, of other sides. -/
theorem mid_no {r : Int} {w : World} (h : sd r = false) : Calls Try.prog 31 #[.int .i64 r] w (RetK (noM 1) w) := by
  obtain ⟨w1, hw1, b2, z1, s1⟩ := boxes1 w 24 [.int .i64 0, .int .i64 0, .slice none 0 0]
  have HW := Lib.hid hw1
  have HZ := Lib.hid z1
  have h_ := Lib.hid h
  clear hw1 z1 h s1
  go_enter Try.func31, Try.ntmps31
  go_upto_region 1 with fail
  rw [HW.out]
  refine Run.start 3 ?_
  refine .mv .o ?_
  refine .c1 (.i 0) (x := .k (.bool false)) (by rintro u w2 hB rfl; exact side_q _ h_.out w2) ?_
  refine .nf (.i 1) ?_
  refine .donep [some 4, some 5, some 6] ?_
  intro w2 B2
  change Shut (wpList _ _ _ [] _ _)
  refine ⟨?_⟩
  simp only [Act.put, List.setIfInBounds_toArray, List.set_cons_zero, List.set_cons_succ]
  have P := Lib.hid (retNo (e := 1) (b2.below B2) (by omega) (zup HZ.out B2))
  unfold mput at P
  obtain ⟨i0, i1, i2, i3, i4, i5, i6⟩ := (b2.below B2).m3
  go_wp2_with fail
  exact bodyPost_ret (v := .tuple #[.agg #[.int .i64 0, .int .i64 0, .slice none 0 0], .int .i64 1]) (by simp [results, Try.results31, go_sem, i0, i1, i2]) rfl P.out
set_option maxRecDepth 100000 in
/-- At. -/
theorem mat_yes {q : Bool} {r c n d k i j : Nat} {A : Option Addr} {F : Nat → Nat → Int} {w : World} (ha : Mt q w r c A n d k F) (hi : i < r) (hj : j < c) (hk : k ≤ 1099511627776) : Calls Try.prog 39 #[.agg #[.int .i64 (r : Int), .int .i64 (c : Int), .slice A n d], .int .i64 (i : Int), .int .i64 (j : Int)] w (RetK (kC (F i j) k) w) := by
  have h1 := ha.fmd
  obtain ⟨w1, hw1, b3, b6, z1, s1⟩ := boxes2 w 24 28 [.int .i64 (r : Int), .int .i64 (c : Int), .slice A n d] [.bool false, .slice none 0 0]
  have HW := Lib.hid hw1
  have HZ := Lib.hid z1
  have h1_ := Lib.hid h1
  clear hw1 z1 h1 s1
  go_enter Try.func39, Try.ntmps39
  go_upto_region 1 with fail
  rw [HW.out]
  refine Run.start 13 ?_
  refine .ld .o (ldM b3 0) ?_
  refine .c1 (.i 0) (x := .k (.bool true)) (by rintro u w2 hB rfl; exact formed_q h1_.out w2) ?_
  refine .nt (.i 1) ?_
  refine .mv (.i 2) ?_
  refine .fa .o (fM0 0) ?_
  refine .ld (.i 4) (ldInt b3 0) ?_
  refine .fa .o (fM1 1) ?_
  refine .ld (.i 6) (ldInt b3 1) ?_
  refine .mv .o ?_
  refine .mv .o ?_
  refine .c4 (.i 5) (.i 7) (.i 8) (.i 9) (x := .k (.bool true)) (by rintro u v x y w2 hB rfl rfl rfl rfl; exact has_q (by simp; omega) w2) ?_
  refine .nt (.i 10) ?_
  refine .pk (.i 3) (.i 11) false ?_
  refine .donep [some 7, some 8, some 9, some 10, some 11, some 12, some 13, some 14, some 15, some 16, some 17, some 18, some 19] ?_
  intro w2 B2
  change Shut (wpList _ _ _ [] _ _)
  refine ⟨?_⟩
  simp only [Act.put, List.setIfInBounds_toArray, List.set_cons_zero, List.set_cons_succ]
  replace b3 := b3.below B2
  replace b6 := b6.below B2
  have HZ2 := Lib.hid (zup HZ.out B2)
  clear B2 HZ
  go_upto_region 3 with fail
  refine Run.start 4 ?_
  refine .ld .o (ldM b3 0) ?_
  refine .mv .o ?_
  refine .mv .o ?_
  refine .c3 (.i 0) (.i 1) (.i 2) (x := kC (F i j) k) (by rintro u v x w3 hB rfl rfl rfl; exact number_q (ha.below (zup HZ2.out hB)) hi hj hk) ?_
  refine .donep [some 21, some 22, some 23, some 24] ?_
  intro w3 B3
  rintro v ⟨s_, A_, n_, c_, rfl, hz, hk_⟩
  change Shut (wpList _ _ _ [_] _ _)
  refine ⟨?_⟩
  simp only [Act.put, List.setIfInBounds_toArray, List.set_cons_zero, List.set_cons_succ]
  have I := Ib.entry (b6.below B3)
  have P := Lib.hid (retC hz I (k := k) (by omega) (by omega) (zup HZ2.out B3))
  obtain ⟨i1, i2, i3, i4, i5⟩ := I
  clear hz
  go_wp2_with fail
  exact bodyPost_ret (v := .agg #[.bool s_, .slice A_ n_ c_]) (by simp [results, Try.results39, go_sem, i1, i2]) rfl P.out
set_option maxRecDepth 100000 in
/-- At, of a place that isn't there. -/
theorem mat_no {q : Bool} {r c n d k : Nat} {A : Option Addr} {F : Nat → Nat → Int} {i j : Int} {w : World} (ha : Mt q w r c A n d k F) (h : ¬ (0 ≤ i ∧ i < r ∧ 0 ≤ j ∧ j < c)) : Calls Try.prog 39 #[.agg #[.int .i64 (r : Int), .int .i64 (c : Int), .slice A n d], .int .i64 i, .int .i64 j] w (RetK (kC 0 0) w) := by
  have h1 := ha.fmd
  obtain ⟨w1, hw1, b3, b6, z1, s1⟩ := boxes2 w 24 28 [.int .i64 (r : Int), .int .i64 (c : Int), .slice A n d] [.bool false, .slice none 0 0]
  have HW := Lib.hid hw1
  have HZ := Lib.hid z1
  have h1_ := Lib.hid h1
  clear hw1 z1 h1 s1
  go_enter Try.func39, Try.ntmps39
  go_upto_region 1 with fail
  rw [HW.out]
  refine Run.start 13 ?_
  refine .ld .o (ldM b3 0) ?_
  refine .c1 (.i 0) (x := .k (.bool true)) (by rintro u w2 hB rfl; exact formed_q h1_.out w2) ?_
  refine .nt (.i 1) ?_
  refine .mv (.i 2) ?_
  refine .fa .o (fM0 0) ?_
  refine .ld (.i 4) (ldInt b3 0) ?_
  refine .fa .o (fM1 1) ?_
  refine .ld (.i 6) (ldInt b3 1) ?_
  refine .mv .o ?_
  refine .mv .o ?_
  refine .c4 (.i 5) (.i 7) (.i 8) (.i 9) (x := .k (.bool false)) (by rintro u v x y w2 hB rfl rfl rfl rfl; exact has_q (by simp; omega) w2) ?_
  refine .nf (.i 10) ?_
  refine .pk (.i 3) (.i 11) false ?_
  refine .donep [some 7, some 8, some 9, some 10, some 11, some 12, some 13, some 14, some 15, some 16, some 17, some 18, some 19] ?_
  intro w2 B2
  change Shut (wpList _ _ _ [] _ _)
  refine ⟨?_⟩
  simp only [Act.put, List.setIfInBounds_toArray, List.set_cons_zero, List.set_cons_succ]
  have I := Ib.entry (b6.below B2)
  have P := Lib.hid (retC (Zc.nought w2) I (k := 0) (by omega) (by omega) (zup HZ.out B2))
  obtain ⟨i1, i2, i3, i4, i5⟩ := I
  go_wp2_with fail
  exact bodyPost_ret (v := .agg #[.bool false, .slice none 0 0]) (by simp [results, Try.results39, go_sem, i1, i2]) rfl P.out
set_option maxRecDepth 100000 in
set_option maxHeartbeats 1000000 in
/-- slices.EqualFunc of zint.Same. -/
theorem eqf_q {q q' : Bool} {n d k n' d' k' : Nat} {A A' : Option Addr} {zs ys : List Int} {b : Bool} {w : World} (hx : ZL q w A n d k zs) (hy : ZL q' w A' n' d' k' ys) (hb : decide (zs = ys) = b) (hk : k ≤ 1099511627776) (hk' : k' ≤ 1099511627776) : Calls Try.prog 83 #[.slice A n d, .slice A' n' d', .func (.func 27) #[] #[]] w (RetK (.k (.bool b)) w) := by
  have Hb := Lib.hid hb
  have HX := Lib.hid hx
  have HY := Lib.hid hy
  have hnd := hx.le
  have hdm := hx.cap
  clear hb hx hy
  by_cases hn : n = n'
  · subst hn
    go_enter Try.func83, Try.ntmps83
    go_wp2_with fail
    go_loopw [17] (fun s17 wr => ∃ j : Nat, s17 = .int .i64 (j : Int) ∧ j ≤ n ∧ Hid (Below w.heap.size w wr ∧ ∀ i, i < j → ith zs i = ith ys i)) (fun s17 _ => n - (intOf s17).toNat)
    case atStart => exact ⟨0, rfl, Nat.zero_le _, Lib.hid ⟨Below.refl _ _, fun i hi => by omega⟩⟩
    case round =>
      obtain ⟨j, rfl, hj, HB⟩ := hrel
      by_cases hlt : j < n
      · have u2 : (j : Int) < (n : Int) := by omega
        obtain ⟨B0, hall⟩ := HB.out
        have HA := Lib.hid hall
        have hs0 := B0.size
        clear hall HB
        obtain ⟨ad, rfl, hab, hA⟩ := (HX.out.below B0).at hlt
        obtain ⟨s1, A1, n1, c1, e1, e2, ze, hk1⟩ := hA
        obtain ⟨ad', rfl, hab', hA'⟩ := (HY.out.below B0).at (j := j) (by omega)
        obtain ⟨s2, A2, n2, c2, e3, e4, ze', hk2⟩ := hA'
        have hz1 := ze.1
        have hz2 := ze'.1
        clear ze ze'
        go_upto_region 5 with fail
        refine Run.start 5 ?_
        refine .mv .o ?_
        refine .two .o .o (opIx hlt) ?_
        refine .ld (.i 1) (ldE (by rw [add_block]; exact hab) e1 e2) ?_
        refine .al ?_
        refine .mv (.i 0) ?_
        refine .donep [some 19, some 20, some 21, some 8, some 7] ?_
        intro w2 B2
        rintro g8 hg8 hl8 hc8 -
        change Shut (wpList _ _ _ [_] _ _)
        refine ⟨?_⟩
        simp only [Act.put, List.setIfInBounds_toArray, List.set_cons_zero, List.set_cons_succ]
        have b8 := zeroZ (T := 0) hc8
        replace B0 := zup B0 B2
        replace hz1 := hz1.below B2
        replace hz2 := hz2.below B2
        have c3 := (B2.cell (p := ad'.add (j * 2)) (by rw [add_block]; exact hab')).trans e3
        have c4 := (B2.cell (p := ⟨(ad'.add (j * 2)).block, (ad'.add (j * 2)).off + 1, none⟩) (by show (ad'.add (j * 2)).block < _; rw [add_block]; exact hab')).trans e4
        have hab2 := Nat.lt_of_lt_of_le hab' B2.size
        have hne : ad'.block ≠ g8 := by have := hab'; omega
        clear e1 e2 e3 e4 hab hab' hc8 B2
        have C3 : Below w2.heap.size w2 (zput w2 g8 s1 A1 n1 c1) ∨ True := .inr trivial
        clear C3
        have d3 : (zput w2 g8 s1 A1 n1 c1).cell? (ad'.add (j * 2)) = some (.bool s2) := by
          unfold zput
          rw [World.cell?_setCell_other (h := fun e => hne (by have := congrArg Addr.block e; simp [add_block] at this; exact this.symm)), World.cell?_setCell_other (h := fun e => hne (by have := congrArg Addr.block e; simp [add_block] at this; exact this.symm))]
          exact c3
        have d4 : (zput w2 g8 s1 A1 n1 c1).cell? ⟨(ad'.add (j * 2)).block, (ad'.add (j * 2)).off + 1, none⟩ = some (.slice A2 n2 c2) := by
          unfold zput
          rw [World.cell?_setCell_other (h := fun e => hne (by have := congrArg Addr.block e; simp [add_block] at this; exact this.symm)), World.cell?_setCell_other (h := fun e => hne (by have := congrArg Addr.block e; simp [add_block] at this; exact this.symm))]
          exact c4
        have hs3 : (zput w2 g8 s1 A1 n1 c1).heap.size = w2.heap.size := by unfold zput; simp
        obtain ⟨w3, hw3⟩ : ∃ x, zput w2 g8 s1 A1 n1 c1 = x := ⟨_, rfl⟩
        obtain ⟨f1_, f2_, f3_, f4_, f5_⟩ := Ib.entry b8
        replace hz1 := hz1.zp (s' := s1) (A' := A1) (n' := n1) (c' := c1) b8
        rw [hw3] at hz1
        replace hz2 := hz2.zp (s' := s1) (A' := A1) (n' := n1) (c' := c1) b8
        rw [hw3] at hz2
        replace B0 := below_put (g := g8) (s := s1) (A := A1) (n := n1) (c := c1) B0 (by omega)
        rw [hw3] at B0
        replace b8 := b8.zp (s := s1) (A := A1) (n := n1) (c := c1)
        rw [hw3] at b8
        have Hw3 := Lib.hid hw3
        unfold zput at Hw3
        clear hw3
        have e3 : w3.cell? (ad'.add (j * 2)) = some (.bool s2) := by rw [← Hw3.out]; exact d3
        have e4 : w3.cell? ⟨(ad'.add (j * 2)).block, (ad'.add (j * 2)).off + 1, none⟩ = some (.slice A2 n2 c2) := by rw [← Hw3.out]; exact d4
        have hab3 : ad'.block < w3.heap.size := by rw [← Hw3.out]; unfold zput at hs3; rw [hs3]; exact hab2
        clear d3 d4 c3 c4 hab2 hs3
        go_upto_region 6 with fail
        rw [Hw3.out]
        clear f1_ f2_ f3_ f4_ f5_ Hw3
        refine Run.start 5 ?_
        refine .mv .o ?_
        refine .mv .o ?_
        refine .two (.i 0) (.i 1) (opIx hlt) ?_
        refine .ld (.i 2) (ldE (by rw [add_block]; exact hab3) e3 e4) ?_
        refine .al ?_
        refine .donep [some 22, some 23, some 24, some 25, some 9] ?_
        intro w4 B4
        rintro g9 hg9 hl9 hc9 -
        change Shut (wpList _ _ _ [_] _ _)
        refine ⟨?_⟩
        simp only [Act.put, List.setIfInBounds_toArray, List.set_cons_zero, List.set_cons_succ]
        have b9 := zeroZ (T := 0) hc9
        have hl8 := b8.lt
        have hs1 := B0.size
        replace B0 := zup B0 B4
        replace hz1 := hz1.below B4
        replace hz2 := hz2.below B4
        replace b8 := b8.below B4
        clear e3 e4 hc9 B4 hab3
        obtain ⟨w5, hw5⟩ : ∃ x, zput w4 g9 s2 A2 n2 c2 = x := ⟨_, rfl⟩
        obtain ⟨f1_, f2_, f3_, f4_, f5_⟩ := Ib.entry b9
        replace b8 := b8.zo (g := g9) (s := s2) (A := A2) (n := n2) (c := c2) (by omega)
        rw [hw5] at b8
        replace hz1 := hz1.zp (s' := s2) (A' := A2) (n' := n2) (c' := c2) b9
        rw [hw5] at hz1
        replace hz2 := hz2.zp (s' := s2) (A' := A2) (n' := n2) (c' := c2) b9
        rw [hw5] at hz2
        replace B0 := below_put (g := g9) (s := s2) (A := A2) (n := n2) (c := c2) B0 (by omega)
        rw [hw5] at B0
        replace b9 := b9.zp (s := s2) (A := A2) (n := n2) (c := c2)
        rw [hw5] at b9
        have Hw5 := Lib.hid hw5
        unfold zput at Hw5
        clear hw5
        go_upto_region 7 with fail
        rw [Hw5.out]
        clear f1_ f2_ f3_ f4_ f5_ Hw5
        obtain ⟨t, ht⟩ : ∃ t, decide (ith zs j = ith ys j) = t := ⟨_, rfl⟩
        have HT := Lib.hid ht
        clear ht
        cases t
        · refine Run.start 5 ?_
          refine .mv .o ?_
          refine .ld .o (ldZ b8 0) ?_
          refine .ld .o (ldZ b9 0) ?_
          refine .cv2 (.i 0) (.i 1) (.i 2) (x := .k (.bool false)) rfl (by kernel_rfl) (by rintro u v w6 hB rfl rfl; rw [argsE]; exact zsame_q ⟨_, _, _, _, rfl, hz1.below hB, hk1⟩ ⟨_, _, _, _, rfl, hz2.below hB, hk2⟩ hk hk' HT.out) ?_
          refine .nf (.i 3) ?_
          refine .donep [some 26, some 27, some 28, some 29, some 30] ?_
          intro w6 B6
          change Shut (wpList _ _ _ [] _ _)
          refine ⟨?_⟩
          simp only [Act.put, List.setIfInBounds_toArray, List.set_cons_zero, List.set_cons_succ]
          have e : b = false := by
            rw [← Hb.out]
            refine decide_eq_false fun h => ?_
            have := HT.out
            rw [h] at this
            simp at this
          subst e
          clear b8 b9 hz1 hz2
          go_wp2_with fail
          exact bodyPost_ret (v := .bool false) (by simp [results, Try.results83, go_sem]) rfl (ret_k rfl (zup B0 B6))
        · refine Run.start 5 ?_
          refine .mv .o ?_
          refine .ld .o (ldZ b8 0) ?_
          refine .ld .o (ldZ b9 0) ?_
          refine .cv2 (.i 0) (.i 1) (.i 2) (x := .k (.bool true)) rfl (by kernel_rfl) (by rintro u v w6 hB rfl rfl; rw [argsE]; exact zsame_q ⟨_, _, _, _, rfl, hz1.below hB, hk1⟩ ⟨_, _, _, _, rfl, hz2.below hB, hk2⟩ hk hk' HT.out) ?_
          refine .nt (.i 3) ?_
          refine .donep [some 26, some 27, some 28, some 29, some 30] ?_
          intro w6 B6
          change Shut (wpList _ _ _ [] _ _)
          refine ⟨?_⟩
          simp only [Act.put, List.setIfInBounds_toArray, List.set_cons_zero, List.set_cons_succ]
          have HN : Hid (Below w.heap.size w w6 ∧ ∀ i, i < j + 1 → ith zs i = ith ys i) := Lib.hid ⟨zup B0 B6, fun i hi => by
            rcases Nat.lt_or_ge i j with h | h
            · exact HA.out i h
            · rw [show i = j by omega]; exact of_decide_eq_true HT.out⟩
          clear b8 b9 hz1 hz2 B6 B0
          go_wp2_with fail
          go_roundw
          case rel => exact ⟨j + 1, by go_num, by omega, HN⟩
          case measure => first | (simp [intOf]; done) | (simp [intOf]; omega)
      · obtain rfl : j = n := by omega
        have u2 : ¬ (j : Int) < (j : Int) := by omega
        obtain ⟨B0, hall⟩ := HB.out
        have e : b = true := by
          rw [← Hb.out]
          refine decide_eq_true (List.ext_getElem (by rw [HX.out.len, HY.out.len]) fun i h1 h2 => ?_)
          have := hall i (by rw [HX.out.len] at h1; exact h1)
          simp [ith, List.getD, h1, h2] at this
          exact this
        subst e
        clear HB hall
        go_wp2_with fail
        exact bodyPost_ret (v := .bool true) (by simp [results, Try.results83, go_sem]) rfl (ret_k rfl B0)
  · have u1 : ¬ (n : Int) = (n' : Int) := by omega
    have e : b = false := by
      rw [← Hb.out]
      exact decide_eq_false fun h => hn (by rw [← HX.out.len, ← HY.out.len, h])
    subst e
    go_enter Try.func83, Try.ntmps83
    go_wp2_with fail
    exact bodyPost_ret (v := .bool false) (by simp [results, Try.results83, go_sem]) rfl (ret_k rfl (Below.refl _ _))
end Go.Proofs.Ytcdkdanfiimlkaa
