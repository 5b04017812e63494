/-
  The reference of layer 11: Normal, Is.
-/
import Derived.Test.YtcdkdanfiimlkaaMtL
/-! Contracts of the reference: normal matrices; what is as it should be. -/
namespace Go.Proofs.Ytcdkdanfiimlkaa
open Go.RowKit
set_option linter.unusedVariables false
set_option linter.unusedSimpArgs false

section
variable {w : World}
theorem fZa1 {p : Addr} (w : World) : (Instr.fieldAt 28 (.pointer (some p)) 1).run Try.prog w = .ok (.pointer (some ⟨p.block, p.off + 1, none⟩)) w := by simp [go_sem, Addr.add]
theorem fZa0 {p : Addr} (w : World) : (Instr.fieldAt 28 (.pointer (some p)) 0).run Try.prog w = .ok (.pointer (some p)) w := by simp [go_sem, addr_add0]
theorem ldNa {p : Addr} {A : Option Addr} {n c : Nat} (hp : p.block < w.heap.size) (h : w.cell? p = some (.slice A n c)) : ∀ w', Below w.heap.size w w' → (Instr.loadAt 26 (.pointer (some p))).run Try.prog w' = .ok (.slice A n c) w' := fun w' hb => by
  have := (hb.cell hp).trans h
  simp [go_sem, addr_add0, this]
theorem ldBa {p : Addr} {s : Bool} (hp : p.block < w.heap.size) (h : w.cell? p = some (.bool s)) : ∀ w', Below w.heap.size w w' → (Instr.loadAt 4 (.pointer (some p))).run Try.prog w' = .ok (.bool s) w' := fun w' hb => by
  have := (hb.cell hp).trans h
  simp [go_sem, addr_add0, this]
theorem ldWa {p : Addr} {x : Nat} (hp : p.block < w.heap.size) (h : w.cell? p = some (.int .u64 (x : Int))) : ∀ w', Below w.heap.size w w' → (Instr.loadAt 80 (.pointer (some p))).run Try.prog w' = .ok (.int .u64 (x : Int)) w' := fun w' hb => by
  have := (hb.cell hp).trans h
  simp [go_sem, addr_add0, this]
theorem opIxN {ad : Addr} {n c k : Nat} {X Y : Operand} (h : k < n) (w : World) : RunTwo Try.prog (.indexAddr 26 X Y) w (.slice (some ad) n c) (.int .i64 (k : Int)) (.pointer (some (ad.add k))) := by
  unfold RunTwo
  simp [go_sem, Try.underlying26, show Try.prog.cellsOf 80 = 1 by kernel_rfl]
  omega
theorem opEqU {x y : Int} {T U : TypeId} {X Y : Operand} {b : Bool} (h : decide (x = y) = b) (w : World) : RunTwo Try.prog (.binOp .eql T X Y U) w (.int .u64 x) (.int .u64 y) (.bool b) := by unfold RunTwo; simp [go_sem, ← h]; try rfl
/-- A normal number's words: none, and no sign; or the last one isn't 0. -/
theorem Zc.top {s : Bool} {A : Option Addr} {n c : Nat} {z : Int} (h : Zc w s A n c z) : (n = 0 ∧ s = false) ∨ (0 < n ∧ ∃ ad x, A = some ad ∧ ad.block < w.heap.size ∧ x ≠ 0 ∧ w.cell? (ad.add (n - 1)) = some (.int .u64 ((x : Nat) : Int))) := by
  obtain ⟨⟨h1, h2, h3, h4⟩, h5⟩ := h
  rcases Nat.eq_zero_or_pos n with h0 | h0
  · left
    refine ⟨h0, ?_⟩
    have := (cn_nil_iff 18446744073709551616 z.natAbs (by omega)).1 (by omega)
    rw [h5.out, decide_eq_false]; omega
  · right
    have ht := sl_top (xs := cn 18446744073709551616 z.natAbs) (by rw [sl_cn _ _ (by omega)]; omega)
    rw [sl_cn _ _ (by omega), h2] at ht
    obtain ⟨ad, e, hb, hc⟩ := h1.at (k := n - 1) (by omega)
    exact ⟨h0, ad, _, e, hb, ht, hc⟩
end
set_option maxRecDepth 100000 in
set_option maxHeartbeats 1000000 in
/-- Normal, of a normal matrix. -/
theorem rnormal_q {r c n d k : Nat} {A : Option Addr} {F : Nat → Nat → Int} {w : World} (ha : Mt true w r c A n d k F) (hk : k ≤ 1099511627776) : Calls Try.prog 26 #[.agg #[.int .i64 (r : Int), .int .i64 (c : Int), .slice A n d]] w (RetK (.k (.bool true)) w) := by
  have h1 := ha.fmd
  have hnd := ha.zl.le
  have hdm := ha.zl.cap
  have HX := Lib.hid ha.zl
  obtain ⟨w1, hw1, b1, z1, s1⟩ := boxes1 w 24 [.int .i64 (r : Int), .int .i64 (c : Int), .slice A n d]
  have HW := Lib.hid hw1
  have HZ := Lib.hid z1
  have h1_ := Lib.hid h1
  clear hw1 z1 h1 ha
  go_enter Try.func26, Try.ntmps26
  go_upto_region 1 with fail
  rw [HW.out]
  have HB : Hid (Below w.heap.size w w1 ∧ Bx w1 w.heap.size 24 [.int .i64 (r : Int), .int .i64 (c : Int), .slice A n d]) := Lib.hid ⟨HZ.out, b1⟩
  clear b1 HW HZ s1
  go_wp2_with fail
  go_loopw [3] (fun s3 wr => ∃ j : Nat, s3 = .int .i64 (j : Int) ∧ j ≤ n ∧ Hid (Below w.heap.size w wr ∧ Bx wr w.heap.size 24 [.int .i64 (r : Int), .int .i64 (c : Int), .slice A n d])) (fun s3 _ => n - (intOf s3).toNat)
  case atStart => exact ⟨0, rfl, Nat.zero_le _, HB⟩
  case round =>
    clear HB
    obtain ⟨j, rfl, hj, HB⟩ := hrel
    obtain ⟨B0, b1⟩ := HB.out
    clear HB
    have i2 := b1.cell 2
    simp only [List.getElem?_cons_succ, List.getElem?_cons_zero] at i2
    by_cases hlt : j < n
    · have u2 : (j : Int) < (n : Int) := by omega
      obtain ⟨ad, rfl, hab, hA⟩ := (HX.out.below B0).at hlt
      obtain ⟨s2, A2, n2, c2, e1, e2, ze, hk2⟩ := hA
      have hz := (ze.2 rfl).top
      clear ze
      go_upto_region 4 with fail
      clear i2
      refine Run.start 8 ?_
      refine .fa .o (fM2 2) ?_
      refine .ld (.i 0) (ldSl b1 2) ?_
      refine .mv .o ?_
      refine .two (.i 1) (.i 2) (opIx hlt) ?_
      refine .fa (.i 3) fZa1 ?_
      refine .ld (.i 4) (ldNa (by show (ad.add (j * 2)).block < _; rw [add_block]; exact hab) e2) ?_
      refine .len (.i 5) Try.underlying26 ?_
      refine .mv (.i 6) ?_
      refine .donep [some 12, some 13, some 14, some 15, some 16, some 17, some 18, some 4] ?_
      intro w2 B2
      change Shut (wpList _ _ _ [] _ _)
      refine ⟨?_⟩
      simp only [Act.put, List.setIfInBounds_toArray, List.set_cons_zero, List.set_cons_succ]
      have hab2 := Nat.lt_of_lt_of_le hab B2.size
      have f1 := (B2.cell (p := ad.add (j * 2)) (by rw [add_block]; exact hab)).trans e1
      have f2 := (B2.cell (p := ⟨(ad.add (j * 2)).block, (ad.add (j * 2)).off + 1, none⟩) (by show (ad.add (j * 2)).block < _; rw [add_block]; exact hab)).trans e2
      replace b1 := b1.below B2
      go_upto_region 5 with fail
      clear e1 e2
      rcases hz with ⟨rfl, rfl⟩ | ⟨h0, wd, x, rfl, hwb, hx0, hcx⟩
      · refine Run.start 27 ?_
        refine .mv .o ?_
        refine .two (.i 0) .o (opGt (by decide : decide ((0 : Int) < ((0 : Nat) : Int)) = false)) ?_
        refine .mv (.i 1) ?_
        refine .no ?_
        refine .no ?_
        refine .no ?_
        refine .no ?_
        refine .no ?_
        refine .no ?_
        refine .no ?_
        refine .no ?_
        refine .no ?_
        refine .no ?_
        refine .no ?_
        refine .pk (.i 2) .o false ?_
        refine .mv (.i 14) ?_
        refine .mv .o ?_
        refine .two (.i 16) .o (opEq (by decide : decide (((0 : Nat) : Int) = 0) = true)) ?_
        refine .mv (.i 17) ?_
        refine .fa .o (fM2 2) ?_
        refine .ld (.i 19) (ldSl b1 2) ?_
        refine .mv .o ?_
        refine .two (.i 20) (.i 21) (opIx hlt) ?_
        refine .fa (.i 22) fZa0 ?_
        refine .ld (.i 23) (ldBa (by rw [add_block]; exact hab2) f1) ?_
        refine .pk (.i 18) (.i 24) true ?_
        refine .pk (.i 15) (.i 25) false ?_
        refine .donep [some 19, some 20, some 21, some 22, some 23, some 24, some 25, some 26, some 27, some 28, some 29, some 30, some 31, some 32, some 33, some 34, some 35, some 36, some 37, some 38, some 39, some 40, some 41, some 42, some 43, some 44, some 45] ?_
        intro w3 B3
        change Shut (wpList _ _ _ [] _ _)
        refine ⟨?_⟩
        simp only [Act.put, List.setIfInBounds_toArray, List.set_cons_zero, List.set_cons_succ]
        have HN : Hid (Below w.heap.size w w3 ∧ Bx w3 w.heap.size 24 [.int .i64 (r : Int), .int .i64 (c : Int), .slice (some ad) n d]) := Lib.hid ⟨zup (zup B0 B2) B3, b1.below B3⟩
        clear b1 B0 B2 B3 f1 f2
        go_wp2_with fail
        go_roundw
        case rel => exact ⟨j + 1, by go_num, by omega, HN⟩
        case measure => first | (simp [intOf]; done) | (simp [intOf]; omega)
      · have h1x := B2.cell (p := wd.add (n2 - 1)) (by rw [add_block]; have := B0.size; exact hwb)
        have hcx2 := h1x.trans hcx
        have hwb2 := Nat.lt_of_lt_of_le hwb B2.size
        refine Run.start 27 ?_
        refine .mv .o ?_
        refine .two (.i 0) .o (opGt (decide_eq_true (by omega : (0 : Int) < (n2 : Int)))) ?_
        refine .mv (.i 1) ?_
        refine .fa .o (fM2 2) ?_
        refine .ld (.i 3) (ldSl b1 2) ?_
        refine .mv .o ?_
        refine .two (.i 4) (.i 5) (opIx hlt) ?_
        refine .fa (.i 6) fZa1 ?_
        refine .ld (.i 7) (ldNa (by show (ad.add (j * 2)).block < _; rw [add_block]; exact hab2) f2) ?_
        refine .mv .o ?_
        refine .two (.i 9) .o (opSubN n2 1 h0 (by omega)) ?_
        refine .two (.i 8) (.i 10) (opIxN (by omega : n2 - 1 < n2)) ?_
        refine .ld (.i 11) (ldWa (by rw [add_block]; exact hwb2) hcx2) ?_
        refine .two (.i 12) .o (opEqU (decide_eq_false (by omega : ¬ ((x : Int) = 0)))) ?_
        refine .pk (.i 2) (.i 13) true ?_
        refine .mv (.i 14) ?_
        refine .mv .o ?_
        refine .two (.i 16) .o (opEq (decide_eq_false (by omega : ¬ ((n2 : Int) = 0)))) ?_
        refine .mv (.i 17) ?_
        refine .no ?_
        refine .no ?_
        refine .no ?_
        refine .no ?_
        refine .no ?_
        refine .no ?_
        refine .pk (.i 18) .o false ?_
        refine .pk (.i 15) (.i 25) false ?_
        refine .donep [some 19, some 20, some 21, some 22, some 23, some 24, some 25, some 26, some 27, some 28, some 29, some 30, some 31, some 32, some 33, some 34, some 35, some 36, some 37, some 38, some 39, some 40, some 41, some 42, some 43, some 44, some 45] ?_
        intro w3 B3
        change Shut (wpList _ _ _ [] _ _)
        refine ⟨?_⟩
        simp only [Act.put, List.setIfInBounds_toArray, List.set_cons_zero, List.set_cons_succ]
        have HN : Hid (Below w.heap.size w w3 ∧ Bx w3 w.heap.size 24 [.int .i64 (r : Int), .int .i64 (c : Int), .slice (some ad) n d]) := Lib.hid ⟨zup (zup B0 B2) B3, b1.below B3⟩
        clear b1 B0 B2 B3 f1 f2
        go_wp2_with fail
        go_roundw
        case rel => exact ⟨j + 1, by go_num, by omega, HN⟩
        case measure => first | (simp [intOf]; done) | (simp [intOf]; omega)
    · obtain rfl : j = n := by omega
      have u2 : ¬ (j : Int) < (j : Int) := by omega
      go_upto_region 7 with fail
      clear i2
      refine Run.start 3 ?_
      refine .ld .o (ldM b1 0) ?_
      refine .c1 (.i 0) (x := .k (.bool true)) (by rintro u w2 hB rfl; exact rformed_q h1_.out w2) ?_
      refine .mv (.i 1) ?_
      refine .donep [some 46, some 47, some 2] ?_
      intro w2 B2
      change Shut (wpList _ _ _ [] _ _)
      refine ⟨?_⟩
      simp only [Act.put, List.setIfInBounds_toArray, List.set_cons_zero, List.set_cons_succ]
      go_wp2_with fail
      exact bodyPost_ret (v := .bool true) (by simp [results, Try.results26, go_sem]) rfl (ret_k rfl (zup B0 B2))
set_option maxRecDepth 100000 in
set_option maxHeartbeats 1000000 in
/-- Is, of what is as it should be. -/
theorem ris_q {q : Bool} {r c n d k n' d' k' : Nat} {A A' : Option Addr} {F : Nat → Nat → Int} {w : World} (ha : Mt true w r c A n d k F) (hl : ZL q w A' n' d' k' (mk r c F)) (hk : k ≤ 1099511627776) (hk' : k' ≤ 1099511627776) : Calls Try.prog 23 #[.agg #[.int .i64 (r : Int), .int .i64 (c : Int), .slice A n d], .int .i64 (r : Int), .int .i64 (c : Int), .slice A' n' d'] w (RetK (.k (.bool true)) w) := by
  have hn : n = r * c := ha.len
  have hn' : n' = r * c := by rw [← hl.len, mk_len]
  have hnd := ha.zl.le
  have hdm := ha.zl.cap
  have hnd' := hl.le
  have hdm' := hl.cap
  have hbig := ha.big
  obtain rfl : n = n' := by omega
  clear hn'
  have HX := Lib.hid ha
  have HY := Lib.hid hl
  obtain ⟨w1, hw1, b4, z1, s1⟩ := boxes1 w 24 [.int .i64 (r : Int), .int .i64 (c : Int), .slice A n d]
  have HW := Lib.hid hw1
  have HZ := Lib.hid z1
  have hn_ := Lib.hid hn
  clear hw1 z1 hn ha hl s1
  go_enter Try.func23, Try.ntmps23
  go_upto_region 1 with fail
  rw [HW.out]
  refine Run.start 23 ?_
  refine .ld .o (ldM b4 0) ?_
  refine .c1 (.i 0) (x := .k (.bool true)) (by rintro u w2 hB rfl; exact rnormal_q (HX.out.below (zup HZ.out hB)) hk) ?_
  refine .nt (.i 1) ?_
  refine .mv (.i 2) ?_
  refine .fa .o (fM0 0) ?_
  refine .ld (.i 4) (ldInt b4 0) ?_
  refine .mv .o ?_
  refine .two (.i 5) (.i 6) (opNe (decide_eq_false (by omega : ¬ ((r : Int) ≠ (r : Int))))) ?_
  refine .pk (.i 3) (.i 7) false ?_
  refine .mv (.i 8) ?_
  refine .fa .o (fM1 1) ?_
  refine .ld (.i 10) (ldInt b4 1) ?_
  refine .mv .o ?_
  refine .two (.i 11) (.i 12) (opNe (decide_eq_false (by omega : ¬ ((c : Int) ≠ (c : Int))))) ?_
  refine .pk (.i 9) (.i 13) false ?_
  refine .mv (.i 14) ?_
  refine .mv .o ?_
  refine .len (.i 16) Try.underlying22 ?_
  refine .mv .o ?_
  refine .mv .o ?_
  refine .two (.i 18) (.i 19) (opMulN r c (by omega)) ?_
  refine .two (.i 17) (.i 20) (opNe (decide_eq_false (by have := hn_.out; omega : ¬ ((n : Int) ≠ ((r * c : Nat) : Int))))) ?_
  refine .pk (.i 15) (.i 21) false ?_
  refine .donep [some 10, some 11, some 12, some 13, some 14, some 15, some 16, some 17, some 18, some 19, some 20, some 21, some 22, some 23, some 24, some 25, some 26, some 27, some 28, some 29, some 30, some 31, some 32] ?_
  intro w2 B2
  change Shut (wpList _ _ _ [] _ _)
  refine ⟨?_⟩
  simp only [Act.put, List.setIfInBounds_toArray, List.set_cons_zero, List.set_cons_succ]
  have HB : Hid (Below w.heap.size w w2 ∧ Bx w2 w.heap.size 24 [.int .i64 (r : Int), .int .i64 (c : Int), .slice A n d]) := Lib.hid ⟨zup HZ.out B2, b4.below B2⟩
  clear b4 HW HZ B2
  go_wp2_with fail
  go_loopw [9] (fun s9 wr => ∃ j : Nat, s9 = .int .i64 (j : Int) ∧ j ≤ n ∧ Hid (Below w.heap.size w wr ∧ Bx wr w.heap.size 24 [.int .i64 (r : Int), .int .i64 (c : Int), .slice A n d])) (fun s9 _ => n - (intOf s9).toNat)
  case atStart => exact ⟨0, rfl, Nat.zero_le _, HB⟩
  case round =>
    clear HB
    obtain ⟨j, rfl, hj, HB⟩ := hrel
    obtain ⟨B0, b4⟩ := HB.out
    clear HB
    by_cases hlt : j < n
    · have u2 : (j : Int) < (n : Int) := by omega
      obtain ⟨ad, rfl, hab, hA⟩ := (HX.out.zl.below B0).at hlt
      obtain ⟨s1, A1, n1, c1, e1, e2, ze, hk1⟩ := hA
      obtain ⟨ad', rfl, hab', hA'⟩ := (HY.out.below B0).at hlt
      obtain ⟨s2, A2, n2, c2, e3, e4, ze', hk2⟩ := hA'
      have hz1 := ze.1
      have hz2 := ze'.1
      clear ze ze'
      go_upto_region 6 with fail
      refine Run.start 11 ?_
      refine .fa .o (fM2 2) ?_
      refine .ld (.i 0) (ldSl b4 2) ?_
      refine .mv .o ?_
      refine .two (.i 1) (.i 2) (opIx hlt) ?_
      refine .ld (.i 3) (ldE (by rw [add_block]; exact hab) e1 e2) ?_
      refine .mv .o ?_
      refine .mv .o ?_
      refine .two (.i 5) (.i 6) (opIx hlt) ?_
      refine .ld (.i 7) (ldE (by rw [add_block]; exact hab') e3 e4) ?_
      refine .c2 (.i 4) (.i 8) (x := .k (.bool true)) (by rintro u v w2 hB rfl rfl; exact zsame_q ⟨_, _, _, _, rfl, hz1.below hB, hk1⟩ ⟨_, _, _, _, rfl, hz2.below hB, hk2⟩ hk hk' (decide_eq_true rfl)) ?_
      refine .nt (.i 9) ?_
      refine .done [some 39, some 40, some 41, some 42, some 43, some 44, some 45, some 46, some 47, some 48, some 49] ?_
      intro w3 B3
      change Shut (wpList _ _ _ [] _ _)
      refine ⟨?_⟩
      simp only [Act.put, List.setIfInBounds_toArray, List.set_cons_zero, List.set_cons_succ]
      have HN : Hid (Below w.heap.size w w3 ∧ Bx w3 w.heap.size 24 [.int .i64 (r : Int), .int .i64 (c : Int), .slice (some ad) n d]) := Lib.hid ⟨zup B0 B3, b4.below B3⟩
      clear b4 B0 B3 e1 e2 e3 e4 hz1 hz2
      go_wp2_with fail
      go_roundw
      case rel => exact ⟨j + 1, by go_num, by omega, HN⟩
      case measure => first | (simp [intOf]; done) | (simp [intOf]; omega)
    · obtain rfl : j = n := by omega
      have u2 : ¬ (j : Int) < (j : Int) := by omega
      clear b4
      go_wp2_with fail
      exact bodyPost_ret (v := .bool true) (by simp [results, Try.results23, go_sem]) rfl (ret_k rfl B0)
end Go.Proofs.Ytcdkdanfiimlkaa
