/-
  Package zmat: checkRows, SwapRows, AddRow, NegRow, Rows, Stack, Beside.
-/
import Derived.Test.YtcdkdanfiimlkaaMtH
/-! Contracts: steps on rows, parts, what is put together. -/
namespace Go.Proofs.Ytcdkdanfiimlkaa
open Go.RowKit
set_option linter.unusedVariables false
set_option linter.unusedSimpArgs false

/-- The error of rows that are asked for. -/
def crw (b : Bool) (r : Int) (xs : List Int) : Int := if b = false then 2 else if xs.all (fun x => decide (0 ≤ x) && decide (x < r)) then 0 else 1
def ilist (xs : List Int) : List Value := xs.map (.int .i64 ·)
theorem run_ixI {w : World} {g n d k : Nat} (h : k < n) : (Instr.indexAt 64 (.slice (some ⟨g, 0, none⟩) n d) (.int .i64 (k : Int))).run Try.prog w = .ok (.pointer (some ⟨g, k, none⟩)) w := by
  simp [go_sem, Try.underlying64, show Try.prog.cellsOf 3 = 1 by kernel_rfl]
  omega
theorem opIxI {g n d k : Nat} {X Y : Operand} (h : k < n) (w : World) : RunTwo Try.prog (.indexAddr 64 X Y) w (.slice (some ⟨g, 0, none⟩) n d) (.int .i64 (k : Int)) (.pointer (some ⟨g, k, none⟩)) := run_ixI h
theorem ilist_at {xs : List Int} {j : Nat} (h : j < xs.length) : (ilist xs)[j]? = some (.int .i64 (xs.getD j 0)) := by simp [ilist, List.getD, h]
theorem all_step {xs : List Int} {p : Int → Bool} {j : Nat} (hj : j < xs.length) (h : p (xs.getD j 0) = false) : xs.all p = false := by
  rw [List.all_eq_false]
  exact ⟨xs.getD j 0, by simp [List.getD, hj], by rw [h]; simp⟩
theorem all_end {xs : List Int} {p : Int → Bool} (h : ∀ j, j < xs.length → p (xs.getD j 0) = true) : xs.all p = true := by
  rw [List.all_eq_true]
  intro x hx
  obtain ⟨j, hj, e⟩ := List.mem_iff_getElem.1 hx
  have := h j hj
  simp [List.getD, hj] at this
  rw [← e]; exact this
set_option maxRecDepth 100000 in
set_option maxHeartbeats 1000000 in
/-- checkRows. -/
theorem crows_q {r c : Int} {A : Option Addr} {n d g : Nat} {b : Bool} {xs : List Int} {e : Int} {w : World} (hb : fmd r c n = b) (hx : Bx w g 3 (ilist xs)) (he : crw b r xs = e) (hl : xs.length ≤ 4096) : Calls Try.prog 108 #[.agg #[.int .i64 r, .int .i64 c, .slice A n d], .slice (some ⟨g, 0, none⟩) xs.length xs.length] w (RetK (.k (.int .i64 e)) w) := by
  obtain ⟨L, hL⟩ : ∃ L, xs.length = L := ⟨_, rfl⟩
  rw [hL] at hl ⊢
  obtain ⟨w1, hw1, b2, z1, s1⟩ := boxes1 w 24 [.int .i64 r, .int .i64 c, .slice A n d]
  have HW := Lib.hid hw1
  have HZ := Lib.hid z1
  have hb_ := Lib.hid hb
  have he_ := Lib.hid he
  have hL_ := Lib.hid hL
  replace hx := hx.below z1
  clear hw1 z1 hb he hL s1
  go_enter Try.func108, Try.ntmps108
  go_upto_region 1 with fail
  rw [HW.out]
  cases b
  · refine Run.start 3 ?_
    refine .ld .o (ldM b2 0) ?_
    refine .c1 (.i 0) (x := .k (.bool false)) (by rintro u w2 hB rfl; exact formed_q hb_.out w2) ?_
    refine .nf (.i 1) ?_
    refine .donep [some 7, some 8, some 9] ?_
    intro w2 B2
    change Shut (wpList _ _ _ [] _ _)
    refine ⟨?_⟩
    simp only [Act.put, List.setIfInBounds_toArray, List.set_cons_zero, List.set_cons_succ]
    have e2 : e = 2 := by rw [← he_.out]; rfl
    subst e2
    go_wp2_with fail
    exact bodyPost_ret (v := .int .i64 2) (by simp [results, Try.results108, go_sem]) rfl (ret_k rfl (zup HZ.out B2))
  · refine Run.start 3 ?_
    refine .ld .o (ldM b2 0) ?_
    refine .c1 (.i 0) (x := .k (.bool true)) (by rintro u w2 hB rfl; exact formed_q hb_.out w2) ?_
    refine .nt (.i 1) ?_
    refine .donep [some 7, some 8, some 9] ?_
    intro w2 B2
    change Shut (wpList _ _ _ [] _ _)
    refine ⟨?_⟩
    simp only [Act.put, List.setIfInBounds_toArray, List.set_cons_zero, List.set_cons_succ]
    have HB : Hid (Below w.heap.size w w2 ∧ Bx w2 w.heap.size 24 [.int .i64 r, .int .i64 c, .slice A n d] ∧ Bx w2 g 3 (ilist xs) ∧ ∀ j, j < 0 → (decide (0 ≤ xs.getD j 0) && decide (xs.getD j 0 < r)) = true) := Lib.hid ⟨zup HZ.out B2, b2.below B2, hx.below B2, fun j hj => by omega⟩
    clear b2 hx B2 HZ HW
    go_wp2_with fail
    go_loopw [12] (fun s12 wr => ∃ j : Nat, s12 = .int .i64 (j : Int) ∧ j ≤ L ∧ Hid (Below w.heap.size w wr ∧ Bx wr w.heap.size 24 [.int .i64 r, .int .i64 c, .slice A n d] ∧ Bx wr g 3 (ilist xs) ∧ ∀ i, i < j → (decide (0 ≤ xs.getD i 0) && decide (xs.getD i 0 < r)) = true)) (fun s12 _ => L - (intOf s12).toNat)
    case atStart => exact ⟨0, rfl, Nat.zero_le _, HB⟩
    case round =>
      clear HB
      obtain ⟨j, rfl, hj, HB⟩ := hrel
      by_cases hlt : j < L
      · have u1 : (j : Int) < (L : Int) := by omega
        obtain ⟨B0, b2, hx, hall⟩ := HB.out
        obtain ⟨x, hxj⟩ : ∃ x, xs.getD j 0 = x := ⟨_, rfl⟩
        have hcell := ilist_at (xs := xs) (j := j) (by rw [hL_.out]; exact hlt)
        rw [hxj] at hcell
        have HXJ := Lib.hid hxj
        have HA := Lib.hid hall
        clear HB hxj hall
        go_upto_region 5 with fail
        refine Run.start 3 ?_
        refine .two .o .o (opIxI hlt) ?_
        refine .ld (.i 0) (ldInt hx j hcell) ?_
        refine .mv (.i 1) ?_
        refine .donep [some 14, some 15, some 6] ?_
        intro w3 B3
        change Shut (wpList _ _ _ [] _ _)
        refine ⟨?_⟩
        simp only [Act.put, List.setIfInBounds_toArray, List.set_cons_zero, List.set_cons_succ]
        replace b2 := b2.below B3
        replace hx := hx.below B3
        replace B0 := zup B0 B3
        clear B3 hcell
        go_upto_region 6 with fail
        by_cases h0 : x < 0
        · refine Run.start 8 ?_
          refine .mv .o ?_
          refine .two (.i 0) .o (opLt (decide_eq_true h0)) ?_
          refine .mv (.i 1) ?_
          refine .no ?_
          refine .no ?_
          refine .no ?_
          refine .no ?_
          refine .pk (.i 2) .o true ?_
          refine .donep [some 16, some 17, some 18, some 19, some 20, some 21, some 22, some 23] ?_
          intro w4 B4
          change Shut (wpList _ _ _ [] _ _)
          refine ⟨?_⟩
          simp only [Act.put, List.setIfInBounds_toArray, List.set_cons_zero, List.set_cons_succ]
          have e1 : e = 1 := by
            rw [← he_.out, crw, if_neg (by simp), all_step (j := j) (by rw [hL_.out]; exact hlt) (by rw [HXJ.out]; simp; omega)]; rfl
          subst e1
          go_wp2_with fail
          exact bodyPost_ret (v := .int .i64 1) (by simp [results, Try.results108, go_sem]) rfl (ret_k rfl (zup B0 B4))
        · by_cases h1 : r ≤ x
          · refine Run.start 8 ?_
            refine .mv .o ?_
            refine .two (.i 0) .o (opLt (decide_eq_false h0)) ?_
            refine .mv (.i 1) ?_
            refine .mv .o ?_
            refine .fa .o (fM0 0) ?_
            refine .ld (.i 4) (ldInt b2 0) ?_
            refine .two (.i 3) (.i 5) (opGe (decide_eq_true h1)) ?_
            refine .pk (.i 2) (.i 6) false ?_
            refine .donep [some 16, some 17, some 18, some 19, some 20, some 21, some 22, some 23] ?_
            intro w4 B4
            change Shut (wpList _ _ _ [] _ _)
            refine ⟨?_⟩
            simp only [Act.put, List.setIfInBounds_toArray, List.set_cons_zero, List.set_cons_succ]
            have e1 : e = 1 := by
              rw [← he_.out, crw, if_neg (by simp), all_step (j := j) (by rw [hL_.out]; exact hlt) (by rw [HXJ.out]; simp; omega)]; rfl
            subst e1
            go_wp2_with fail
            exact bodyPost_ret (v := .int .i64 1) (by simp [results, Try.results108, go_sem]) rfl (ret_k rfl (zup B0 B4))
          · refine Run.start 8 ?_
            refine .mv .o ?_
            refine .two (.i 0) .o (opLt (decide_eq_false h0)) ?_
            refine .mv (.i 1) ?_
            refine .mv .o ?_
            refine .fa .o (fM0 0) ?_
            refine .ld (.i 4) (ldInt b2 0) ?_
            refine .two (.i 3) (.i 5) (opGe (decide_eq_false h1)) ?_
            refine .pk (.i 2) (.i 6) false ?_
            refine .donep [some 16, some 17, some 18, some 19, some 20, some 21, some 22, some 23] ?_
            intro w4 B4
            change Shut (wpList _ _ _ [] _ _)
            refine ⟨?_⟩
            simp only [Act.put, List.setIfInBounds_toArray, List.set_cons_zero, List.set_cons_succ]
            have HN : Hid (Below w.heap.size w w4 ∧ Bx w4 w.heap.size 24 [.int .i64 r, .int .i64 c, .slice A n d] ∧ Bx w4 g 3 (ilist xs) ∧ ∀ i, i < j + 1 → (decide (0 ≤ xs.getD i 0) && decide (xs.getD i 0 < r)) = true) := Lib.hid ⟨zup B0 B4, b2.below B4, hx.below B4, fun i hi => by
              rcases Nat.lt_or_ge i j with h | h
              · exact HA.out i h
              · rw [show i = j by omega, HXJ.out]; simp; omega⟩
            clear b2 hx B0 B4 HA HXJ
            go_wp2_with fail
            go_roundw
            case rel => exact ⟨j + 1, by go_num, by omega, HN⟩
            case measure => first | (simp [intOf]; done) | (simp [intOf]; omega)
      · obtain rfl : j = L := by omega
        have u1 : ¬ (j : Int) < (j : Int) := by omega
        obtain ⟨B0, b2, hx, hall⟩ := HB.out
        have e0 : e = 0 := by
          rw [← he_.out, crw, if_neg (by simp), if_pos]
          exact all_end (fun i hi => hall i (by rw [hL_.out] at hi; exact hi))
        subst e0
        clear HB b2 hx hall
        go_wp2_with fail
        exact bodyPost_ret (v := .int .i64 0) (by simp [results, Try.results108, go_sem]) rfl (ret_k rfl B0)
theorem boxes4 (w : World) (T U V X : TypeId) (cs ds es fs : List Value) : ∃ w1, (((w.alloc (.cells cs.toArray T)).alloc (.cells ds.toArray U)).alloc (.cells es.toArray V)).alloc (.cells fs.toArray X) = w1 ∧ Bx w1 w.heap.size T cs ∧ Bx w1 (w.heap.size + 1) U ds ∧ Bx w1 (w.heap.size + 1 + 1) V es ∧ Bx w1 (w.heap.size + 1 + 1 + 1) X fs ∧ Below w.heap.size w w1 ∧ w1.heap.size = w.heap.size + 1 + 1 + 1 + 1 := by
  obtain ⟨w1, h1, a, b, c, hb, hs⟩ := boxes3 w T U V cs ds es
  rw [h1]
  obtain ⟨w2, h2, d, hb2, hs2⟩ := boxes1 w1 X fs
  rw [hs] at d
  exact ⟨w2, h2, a.below hb2, b.below hb2, c.below hb2, d, zup hb hb2, by omega⟩
theorem boxes5 (w : World) (T U V X Y : TypeId) (cs ds es fs gs : List Value) : ∃ w1, ((((w.alloc (.cells cs.toArray T)).alloc (.cells ds.toArray U)).alloc (.cells es.toArray V)).alloc (.cells fs.toArray X)).alloc (.cells gs.toArray Y) = w1 ∧ Bx w1 w.heap.size T cs ∧ Bx w1 (w.heap.size + 1) U ds ∧ Bx w1 (w.heap.size + 1 + 1) V es ∧ Bx w1 (w.heap.size + 1 + 1 + 1) X fs ∧ Bx w1 (w.heap.size + 1 + 1 + 1 + 1) Y gs ∧ Below w.heap.size w w1 ∧ w1.heap.size = w.heap.size + 1 + 1 + 1 + 1 + 1 := by
  obtain ⟨w1, h1, a, b, c, d, hb, hs⟩ := boxes4 w T U V X cs ds es fs
  rw [h1]
  obtain ⟨w2, h2, e, hb2, hs2⟩ := boxes1 w1 Y gs
  rw [hs] at e
  exact ⟨w2, h2, a.below hb2, b.below hb2, c.below hb2, d.below hb2, e, zup hb hb2, by omega⟩
/-- A list of ints, in new memory. -/
def IsIL (b : Nat) (xs : List Int) : FVal := fun v w => ∃ g, v = .slice (some ⟨g, 0, none⟩) xs.length xs.length ∧ Bx w g 3 (ilist xs) ∧ b ≤ g
def kIL (b : Nat) (xs : List Int) : FK := .f (IsIL b xs) (fun v w w' ⟨g, e, h1, h2⟩ hb => ⟨g, e, h1.below hb, h2⟩)
def bsL (o : Op) : List Operand := match o with | .buildSlice _ _ xs => xs.toList.map (·.2) | _ => []
def okBsI (ops : Array Oper) (m i : Nat) (ss : List Src) : Bool := okH ops m i && (match (opAt ops i).op with | .buildSlice T n xs => T == 64 && n == ss.length && xs.toList.map (·.1) == List.range ss.length && okSrcs ops m i (xs.toList.map (·.2)) ss | _ => false)
theorem run_bsI2 {w : World} {x y : Int} : (Instr.buildSlice 64 2 #[(0, .int .i64 x), (1, .int .i64 y)]).run Try.prog w = .ok (.slice (some ⟨w.heap.size, 0, none⟩) 2 2) (w.alloc (.cells #[.int .i64 x, .int .i64 y] 3)) := by kernel_rfl
theorem run_bsI1 {w : World} {x : Int} : (Instr.buildSlice 64 1 #[(0, .int .i64 x)]).run Try.prog w = .ok (.slice (some ⟨w.heap.size, 0, none⟩) 1 1) (w.alloc (.cells #[.int .i64 x] 3)) := by kernel_rfl
section
variable {ops : Array Oper} {Q : Exit → Act → World → Prop} {m i : Nat} {a0 : Act} {w0 : World} {l : List FK} {b : Bool} {id : Nat}
theorem Run.bsI2 (s t : Src) {x y : Int} {b0 : Nat} (hb0 : b0 ≤ w0.heap.size) (rest : R ops Q m a0 w0 b id (kIL b0 [x, y] :: l) (i + 1)) (hx : srcsK l i a0 (bsL (opAt ops i).op) [s, t] [.int .i64 x, .int .i64 y] := by exact ⟨rfl, rfl, trivial⟩) (hc : okBsI ops m i [s, t] = true := by kernel_rfl) (hg : Gd l i (opAt ops i) := by first | exact trivial | exact rfl) : R ops Q m a0 w0 b id l i := by
  unfold okBsI at hc
  rw [Bool.and_eq_true] at hc
  obtain ⟨h1, h2⟩ := hc
  refine Run.mem (x := kIL b0 [x, y]) (fun a w h => ?_) rest (FK.fne _) h1 hg
  split at h2
  · rename_i T n xs e
    rw [e] at hx
    simp only [Bool.and_eq_true, beq_iff_eq] at h2
    obtain ⟨⟨⟨rfl, rfl⟩, h3⟩, h4⟩ := h2
    have hv := h.srcs h4 hx
    have hp : (xs.map fun (i, y) => (i, a.eval y)) = #[(0, .int .i64 x), (1, .int .i64 y)] := by
      obtain ⟨ys⟩ := xs
      match ys, h3, hv with
      | [(k0, x0), (k1, x1)], h3, hv =>
        have h3' : [k0, k1] = [0, 1] := h3
        have hv' : [a.eval x0, a.eval x1] = [.int .i64 x, .int .i64 y] := hv
        simp only [List.cons.injEq, and_true] at h3' hv'
        simp [h3'.1, h3'.2, hv'.1, hv'.2]
    have B := zba w (.cells #[.int .i64 x, .int .i64 y] 3)
    refine ⟨_, _, ?_, ⟨w.heap.size, rfl, Bx.new w _ [.int .i64 x, .int .i64 y], Nat.le_trans hb0 h.below.size⟩, B⟩
    unfold execOp
    rw [e]
    simp only [hp]
    simp [run_bsI2]
  · cases h2
theorem Run.bsI1 (s : Src) {x : Int} {b0 : Nat} (hb0 : b0 ≤ w0.heap.size) (rest : R ops Q m a0 w0 b id (kIL b0 [x] :: l) (i + 1)) (hx : srcsK l i a0 (bsL (opAt ops i).op) [s] [.int .i64 x] := by exact ⟨rfl, trivial⟩) (hc : okBsI ops m i [s] = true := by kernel_rfl) (hg : Gd l i (opAt ops i) := by first | exact trivial | exact rfl) : R ops Q m a0 w0 b id l i := by
  unfold okBsI at hc
  rw [Bool.and_eq_true] at hc
  obtain ⟨h1, h2⟩ := hc
  refine Run.mem (x := kIL b0 [x]) (fun a w h => ?_) rest (FK.fne _) h1 hg
  split at h2
  · rename_i T n xs e
    rw [e] at hx
    simp only [Bool.and_eq_true, beq_iff_eq] at h2
    obtain ⟨⟨⟨rfl, rfl⟩, h3⟩, h4⟩ := h2
    have hv := h.srcs h4 hx
    have hp : (xs.map fun (i, y) => (i, a.eval y)) = #[(0, .int .i64 x)] := by
      obtain ⟨ys⟩ := xs
      match ys, h3, hv with
      | [(k0, x0)], h3, hv =>
        have h3' : [k0] = [0] := h3
        have hv' : [a.eval x0] = [.int .i64 x] := hv
        simp only [List.cons.injEq, and_true] at h3' hv'
        simp [h3', hv']
    have B := zba w (.cells #[.int .i64 x] 3)
    refine ⟨_, _, ?_, ⟨w.heap.size, rfl, Bx.new w _ [.int .i64 x], Nat.le_trans hb0 h.below.size⟩, B⟩
    unfold execOp
    rw [e]
    simp only [hp]
    simp [run_bsI1]
  · cases h2
end
theorem crw_in {r x y : Nat} (hx : x < r) (hy : y < r) : crw true (r : Int) [(x : Int), (y : Int)] = 0 := by unfold crw; rw [if_neg (by simp), if_pos]; simp; omega
theorem crw_in1 {r x : Nat} (hx : x < r) : crw true (r : Int) [(x : Int)] = 0 := by unfold crw; rw [if_neg (by simp), if_pos]; simp; omega
set_option maxRecDepth 100000 in
/-- SwapRows. -/
theorem mswap_yes {q : Bool} {r c n d k i p : Nat} {A : Option Addr} {F : Nat → Nat → Int} {w : World} (ha : Mt q w r c A n d k F) (hi : i < r) (hp : p < r) (hk : k ≤ 1099511627776) : Calls Try.prog 70 #[.agg #[.int .i64 (r : Int), .int .i64 (c : Int), .slice A n d], .int .i64 (i : Int), .int .i64 (p : Int)] w (RetK (kT (kM true r c (k) (fun a j => if a = i then F p j else if a = p then F i j else F a j)) (.k (.int .i64 0))) w) := by
  have h1 := ha.fmd
  have h3 := ha.hr
  have h4 := ha.hc
  obtain ⟨w1, hw1, b3, b4, b5, b6, z1, s1⟩ := boxes4 w 24 3 3 24 [.int .i64 (r : Int), .int .i64 (c : Int), .slice A n d] [.int .i64 (i : Int)] [.int .i64 (p : Int)] [.int .i64 0, .int .i64 0, .slice none 0 0]
  have HW := Lib.hid hw1
  have HZ := Lib.hid z1
  have h1_ := Lib.hid h1
  clear hw1 z1 h1 s1
  go_enter Try.func70, Try.ntmps70
  go_upto_region 1 with fail
  rw [HW.out]
  refine Run.start 6 ?_
  refine .ld .o (ldM b3 0) ?_
  refine .ld .o (ldInt b4 0) ?_
  refine .ld .o (ldInt b5 0) ?_
  refine .bsI2 (.i 1) (.i 2) (Nat.le_refl _) ?_
  refine .c2 (.i 0) (.i 3) (x := .k (.int .i64 0)) (by rintro u v w2 hB rfl ⟨g, rfl, hx, _⟩; exact crows_q h1_.out hx (crw_in hi hp) (by simp)) ?_
  refine .mv (.i 4) ?_
  refine .donep [some 9, some 10, some 11, some 12, some 13, some 8] ?_
  intro w2 B2
  rintro v0 -
  change Shut (wpList _ _ _ [] _ _)
  refine ⟨?_⟩
  simp only [Act.put, List.setIfInBounds_toArray, List.set_cons_zero, List.set_cons_succ]
  replace b3 := b3.below B2
  replace b4 := b4.below B2
  replace b5 := b5.below B2
  replace b6 := b6.below B2
  have HZ2 := Lib.hid (zup HZ.out B2)
  clear B2 HZ
  go_upto_region 4 with fail
  refine Run.start 6 ?_
  refine .fa .o (fM0 0) ?_
  refine .ld (.i 0) (ldInt b3 0) ?_
  refine .fa .o (fM1 1) ?_
  refine .ld (.i 2) (ldInt b3 1) ?_
  refine .fn [] [.o, .o, .o] [] [_, _, _] (trivial) (⟨rfl, rfl, rfl, trivial⟩) ?_
  refine .c3 (.i 1) (.i 3) (.i 4) (x := kM true r c k (fun a j => if a = i then F p j else if a = p then F i j else F a j)) (by rintro u v x w4 hB rfl rfl rfl; exact form_q h3 h4 (by kernel_rfl) (fun a j W ha' hj hW => by rw [argsC3]; exact swaprows1_q ((b4.below hB).below hW) ((b5.below hB).below hW) ((b3.below hB).below hW) (ha.below (zup (zup HZ2.out hB) hW)) ha' hi hp hj hk)) ?_
  refine .donep [some 18, some 19, some 20, some 21, some 22, some 23] ?_
  intro w3 B3
  rintro v ⟨A_, n_, d_, rfl, hM⟩
  change Shut (wpList _ _ _ [_, _] _ _)
  refine ⟨?_⟩
  simp only [Act.put, List.setIfInBounds_toArray, List.set_cons_zero, List.set_cons_succ]
  have P := Lib.hid (retME hM (b6.below B3) (by omega) (zup HZ2.out B3))
  unfold mput at P
  obtain ⟨i0, i1, i2, i3, i4, i5, i6⟩ := (b6.below B3).m3
  clear hM
  go_wp2_with fail
  exact bodyPost_ret (v := .tuple #[.agg #[.int .i64 (r : Int), .int .i64 (c : Int), .slice A_ n_ d_], .int .i64 0]) (by simp [results, Try.results70, go_sem, i0, i1, i2]) rfl P.out
set_option maxRecDepth 100000 in
/-- SwapRows, refused. -/
theorem mswap_no {r c x y e : Int} {A : Option Addr} {n d : Nat} {b : Bool} {w : World} (hb : fmd r c n = b) (he : crw b r [x, y] = e) (h0 : e ≠ 0) : Calls Try.prog 70 #[.agg #[.int .i64 r, .int .i64 c, .slice A n d], .int .i64 x, .int .i64 y] w (RetK (noM e) w) := by
  obtain ⟨w1, hw1, b3, b4, b5, b6, z1, s1⟩ := boxes4 w 24 3 3 24 [.int .i64 r, .int .i64 c, .slice A n d] [.int .i64 x] [.int .i64 y] [.int .i64 0, .int .i64 0, .slice none 0 0]
  have HW := Lib.hid hw1
  have HZ := Lib.hid z1
  have hb_ := Lib.hid hb
  have he_ := Lib.hid he
  clear hw1 z1 hb he s1
  go_enter Try.func70, Try.ntmps70
  go_upto_region 1 with fail
  rw [HW.out]
  refine Run.start 6 ?_
  refine .ld .o (ldM b3 0) ?_
  refine .ld .o (ldInt b4 0) ?_
  refine .ld .o (ldInt b5 0) ?_
  refine .bsI2 (.i 1) (.i 2) (Nat.le_refl _) ?_
  refine .c2 (.i 0) (.i 3) (x := .k (.int .i64 e)) (by rintro u v w2 hB rfl ⟨g, rfl, hx, _⟩; exact crows_q hb_.out hx he_.out (by simp)) ?_
  refine .mv (.i 4) ?_
  refine .donep [some 9, some 10, some 11, some 12, some 13, some 8] ?_
  intro w2 B2
  rintro v0 -
  change Shut (wpList _ _ _ [] _ _)
  refine ⟨?_⟩
  simp only [Act.put, List.setIfInBounds_toArray, List.set_cons_zero, List.set_cons_succ]
  have u0 : ¬ (e = 0) := h0
  clear h0
  have P := Lib.hid (retNo (e := e) (b6.below B2) (by omega) (zup HZ.out B2))
  unfold mput at P
  obtain ⟨i0, i1, i2, i3, i4, i5, i6⟩ := (b6.below B2).m3
  go_wp2_with fail
  exact bodyPost_ret (v := .tuple #[.agg #[.int .i64 0, .int .i64 0, .slice none 0 0], .int .i64 e]) (by simp [results, Try.results70, go_sem, i0, i1, i2]) rfl P.out
set_option maxRecDepth 100000 in
/-- AddRow. -/
theorem maddrow_yes {q : Bool} {r c n d k i p m e0 : Nat} {A : Option Addr} {D : Option Addr} {s : Bool} {y : Int} {F : Nat → Nat → Int} {w : World} (ha : Mt q w r c A n d k F) (hz : Zv w s D m e0 y) (hi : i < r) (hp : p < r) (hne : i ≠ p) (hk : m + k ≤ 549755813888) : Calls Try.prog 71 #[.agg #[.int .i64 (r : Int), .int .i64 (c : Int), .slice A n d], .int .i64 (i : Int), .int .i64 (p : Int), .agg #[.bool s, .slice D m e0]] w (RetK (kT (kM true r c (m + k + 1) (fun a j => if a = i then F a j + y * F p j else F a j)) (.k (.int .i64 0))) w) := by
  have h1 := ha.fmd
  have h3 := ha.hr
  have h4 := ha.hc
  obtain ⟨w1, hw1, b4, b5, b6, b7, b8, z1, s1⟩ := boxes5 w 24 3 3 28 24 [.int .i64 (r : Int), .int .i64 (c : Int), .slice A n d] [.int .i64 (i : Int)] [.int .i64 (p : Int)] [.bool s, .slice D m e0] [.int .i64 0, .int .i64 0, .slice none 0 0]
  have HW := Lib.hid hw1
  have HZ := Lib.hid z1
  have h1_ := Lib.hid h1
  clear hw1 z1 h1 s1
  go_enter Try.func71, Try.ntmps71
  go_upto_region 1 with fail
  rw [HW.out]
  refine Run.start 6 ?_
  refine .ld .o (ldM b4 0) ?_
  refine .ld .o (ldInt b5 0) ?_
  refine .ld .o (ldInt b6 0) ?_
  refine .bsI2 (.i 1) (.i 2) (Nat.le_refl _) ?_
  refine .c2 (.i 0) (.i 3) (x := .k (.int .i64 0)) (by rintro u v w2 hB rfl ⟨g, rfl, hx, _⟩; exact crows_q h1_.out hx (crw_in hi hp) (by simp)) ?_
  refine .mv (.i 4) ?_
  refine .donep [some 11, some 12, some 13, some 14, some 15, some 10] ?_
  intro w2 B2
  rintro v0 -
  change Shut (wpList _ _ _ [] _ _)
  refine ⟨?_⟩
  simp only [Act.put, List.setIfInBounds_toArray, List.set_cons_zero, List.set_cons_succ]
  replace b4 := b4.below B2
  replace b5 := b5.below B2
  replace b6 := b6.below B2
  replace b7 := b7.below B2
  replace b8 := b8.below B2
  have HZ2 := Lib.hid (zup HZ.out B2)
  clear B2 HZ
  have c5 := b5.cell 0
  have c6 := b6.cell 0
  simp only [List.getElem?_cons_zero] at c5 c6
  have une : ¬ ((i : Int) = (p : Int)) := by omega
  go_upto_region 6 with fail
  clear c5 c6
  refine Run.start 6 ?_
  refine .fa .o (fM0 0) ?_
  refine .ld (.i 0) (ldInt b4 0) ?_
  refine .fa .o (fM1 1) ?_
  refine .ld (.i 2) (ldInt b4 1) ?_
  refine .fn [] [.o, .o, .o, .o] [] [_, _, _, _] (trivial) (⟨rfl, rfl, rfl, rfl, trivial⟩) ?_
  refine .c3 (.i 1) (.i 3) (.i 4) (x := kM true r c (m + k + 1) (fun a j => if a = i then F a j + y * F p j else F a j)) (by rintro u v x w4 hB rfl rfl rfl; exact form_q h3 h4 (by kernel_rfl) (fun a j W ha' hj hW => by rw [argsC4]; exact addrow1_q ((b5.below hB).below hW) ((b4.below hB).below hW) ((b7.below hB).below hW) ((b6.below hB).below hW) (ha.below (zup (zup HZ2.out hB) hW)) (hz.below (zup (zup HZ2.out hB) hW)) ha' hp hj hk)) ?_
  refine .donep [some 24, some 25, some 26, some 27, some 28, some 29] ?_
  intro w3 B3
  rintro v ⟨A_, n_, d_, rfl, hM⟩
  change Shut (wpList _ _ _ [_, _] _ _)
  refine ⟨?_⟩
  simp only [Act.put, List.setIfInBounds_toArray, List.set_cons_zero, List.set_cons_succ]
  have P := Lib.hid (retME hM (b8.below B3) (by omega) (zup HZ2.out B3))
  unfold mput at P
  obtain ⟨i0, i1, i2, i3, i4, i5, i6⟩ := (b8.below B3).m3
  clear hM
  go_wp2_with fail
  exact bodyPost_ret (v := .tuple #[.agg #[.int .i64 (r : Int), .int .i64 (c : Int), .slice A_ n_ d_], .int .i64 0]) (by simp [results, Try.results71, go_sem, i0, i1, i2]) rfl P.out
set_option maxRecDepth 100000 in
/-- AddRow, refused. -/
theorem maddrow_no {r c x y e : Int} {A : Option Addr} {n d : Nat} {b : Bool} {D : Option Addr} {m e0 : Nat} {s : Bool} {w : World} (hb : fmd r c n = b) (he : crw b r [x, y] = e) (h0 : e ≠ 0) : Calls Try.prog 71 #[.agg #[.int .i64 r, .int .i64 c, .slice A n d], .int .i64 x, .int .i64 y, .agg #[.bool s, .slice D m e0]] w (RetK (noM e) w) := by
  obtain ⟨w1, hw1, b4, b5, b6, b7, b8, z1, s1⟩ := boxes5 w 24 3 3 28 24 [.int .i64 r, .int .i64 c, .slice A n d] [.int .i64 x] [.int .i64 y] [.bool s, .slice D m e0] [.int .i64 0, .int .i64 0, .slice none 0 0]
  have HW := Lib.hid hw1
  have HZ := Lib.hid z1
  have hb_ := Lib.hid hb
  have he_ := Lib.hid he
  clear hw1 z1 hb he s1
  go_enter Try.func71, Try.ntmps71
  go_upto_region 1 with fail
  rw [HW.out]
  refine Run.start 6 ?_
  refine .ld .o (ldM b4 0) ?_
  refine .ld .o (ldInt b5 0) ?_
  refine .ld .o (ldInt b6 0) ?_
  refine .bsI2 (.i 1) (.i 2) (Nat.le_refl _) ?_
  refine .c2 (.i 0) (.i 3) (x := .k (.int .i64 e)) (by rintro u v w2 hB rfl ⟨g, rfl, hx, _⟩; exact crows_q hb_.out hx he_.out (by simp)) ?_
  refine .mv (.i 4) ?_
  refine .donep [some 11, some 12, some 13, some 14, some 15, some 10] ?_
  intro w2 B2
  rintro v0 -
  change Shut (wpList _ _ _ [] _ _)
  refine ⟨?_⟩
  simp only [Act.put, List.setIfInBounds_toArray, List.set_cons_zero, List.set_cons_succ]
  have u0 : ¬ (e = 0) := h0
  clear h0
  have P := Lib.hid (retNo (e := e) (b8.below B2) (by omega) (zup HZ.out B2))
  unfold mput at P
  obtain ⟨i0, i1, i2, i3, i4, i5, i6⟩ := (b8.below B2).m3
  go_wp2_with fail
  exact bodyPost_ret (v := .tuple #[.agg #[.int .i64 0, .int .i64 0, .slice none 0 0], .int .i64 e]) (by simp [results, Try.results71, go_sem, i0, i1, i2]) rfl P.out
set_option maxRecDepth 100000 in
/-- NegRow. -/
theorem mnegrow_yes {q : Bool} {r c n d k i : Nat} {A : Option Addr} {F : Nat → Nat → Int} {w : World} (ha : Mt q w r c A n d k F) (hi : i < r) (hk : k ≤ 1099511627776) : Calls Try.prog 72 #[.agg #[.int .i64 (r : Int), .int .i64 (c : Int), .slice A n d], .int .i64 (i : Int)] w (RetK (kT (kM true r c (k) (fun a j => if a = i then -F a j else F a j)) (.k (.int .i64 0))) w) := by
  have h1 := ha.fmd
  have h3 := ha.hr
  have h4 := ha.hc
  obtain ⟨w1, hw1, b2, b3, b4, z1, s1⟩ := boxes3 w 24 3 24 [.int .i64 (r : Int), .int .i64 (c : Int), .slice A n d] [.int .i64 (i : Int)] [.int .i64 0, .int .i64 0, .slice none 0 0]
  have HW := Lib.hid hw1
  have HZ := Lib.hid z1
  have h1_ := Lib.hid h1
  clear hw1 z1 h1 s1
  go_enter Try.func72, Try.ntmps72
  go_upto_region 1 with fail
  rw [HW.out]
  refine Run.start 5 ?_
  refine .ld .o (ldM b2 0) ?_
  refine .ld .o (ldInt b3 0) ?_
  refine .bsI1 (.i 1) (Nat.le_refl _) ?_
  refine .c2 (.i 0) (.i 2) (x := .k (.int .i64 0)) (by rintro u v w2 hB rfl ⟨g, rfl, hx, _⟩; exact crows_q h1_.out hx (crw_in1 hi) (by simp)) ?_
  refine .mv (.i 3) ?_
  refine .donep [some 7, some 8, some 9, some 10, some 6] ?_
  intro w2 B2
  rintro v0 -
  change Shut (wpList _ _ _ [] _ _)
  refine ⟨?_⟩
  simp only [Act.put, List.setIfInBounds_toArray, List.set_cons_zero, List.set_cons_succ]
  replace b2 := b2.below B2
  replace b3 := b3.below B2
  replace b4 := b4.below B2
  have HZ2 := Lib.hid (zup HZ.out B2)
  clear B2 HZ
  go_upto_region 4 with fail
  refine Run.start 6 ?_
  refine .fa .o (fM0 0) ?_
  refine .ld (.i 0) (ldInt b2 0) ?_
  refine .fa .o (fM1 1) ?_
  refine .ld (.i 2) (ldInt b2 1) ?_
  refine .fn [] [.o, .o] [] [_, _] (trivial) (⟨rfl, rfl, trivial⟩) ?_
  refine .c3 (.i 1) (.i 3) (.i 4) (x := kM true r c k (fun a j => if a = i then -F a j else F a j)) (by rintro u v x w4 hB rfl rfl rfl; exact form_q h3 h4 (by kernel_rfl) (fun a j W ha' hj hW => by rw [argsC2]; exact negrow1_q ((b3.below hB).below hW) ((b2.below hB).below hW) (ha.below (zup (zup HZ2.out hB) hW)) ha' hj hk)) ?_
  refine .donep [some 15, some 16, some 17, some 18, some 19, some 20] ?_
  intro w3 B3
  rintro v ⟨A_, n_, d_, rfl, hM⟩
  change Shut (wpList _ _ _ [_, _] _ _)
  refine ⟨?_⟩
  simp only [Act.put, List.setIfInBounds_toArray, List.set_cons_zero, List.set_cons_succ]
  have P := Lib.hid (retME hM (b4.below B3) (by omega) (zup HZ2.out B3))
  unfold mput at P
  obtain ⟨i0, i1, i2, i3, i4, i5, i6⟩ := (b4.below B3).m3
  clear hM
  go_wp2_with fail
  exact bodyPost_ret (v := .tuple #[.agg #[.int .i64 (r : Int), .int .i64 (c : Int), .slice A_ n_ d_], .int .i64 0]) (by simp [results, Try.results72, go_sem, i0, i1, i2]) rfl P.out
set_option maxRecDepth 100000 in
/-- NegRow, refused. -/
theorem mnegrow_no {r c x e : Int} {A : Option Addr} {n d : Nat} {b : Bool} {w : World} (hb : fmd r c n = b) (he : crw b r [x] = e) (h0 : e ≠ 0) : Calls Try.prog 72 #[.agg #[.int .i64 r, .int .i64 c, .slice A n d], .int .i64 x] w (RetK (noM e) w) := by
  obtain ⟨w1, hw1, b2, b3, b4, z1, s1⟩ := boxes3 w 24 3 24 [.int .i64 r, .int .i64 c, .slice A n d] [.int .i64 x] [.int .i64 0, .int .i64 0, .slice none 0 0]
  have HW := Lib.hid hw1
  have HZ := Lib.hid z1
  have hb_ := Lib.hid hb
  have he_ := Lib.hid he
  clear hw1 z1 hb he s1
  go_enter Try.func72, Try.ntmps72
  go_upto_region 1 with fail
  rw [HW.out]
  refine Run.start 5 ?_
  refine .ld .o (ldM b2 0) ?_
  refine .ld .o (ldInt b3 0) ?_
  refine .bsI1 (.i 1) (Nat.le_refl _) ?_
  refine .c2 (.i 0) (.i 2) (x := .k (.int .i64 e)) (by rintro u v w2 hB rfl ⟨g, rfl, hx, _⟩; exact crows_q hb_.out hx he_.out (by simp)) ?_
  refine .mv (.i 3) ?_
  refine .donep [some 7, some 8, some 9, some 10, some 6] ?_
  intro w2 B2
  rintro v0 -
  change Shut (wpList _ _ _ [] _ _)
  refine ⟨?_⟩
  simp only [Act.put, List.setIfInBounds_toArray, List.set_cons_zero, List.set_cons_succ]
  have u0 : ¬ (e = 0) := h0
  clear h0
  have P := Lib.hid (retNo (e := e) (b4.below B2) (by omega) (zup HZ.out B2))
  unfold mput at P
  obtain ⟨i0, i1, i2, i3, i4, i5, i6⟩ := (b4.below B2).m3
  go_wp2_with fail
  exact bodyPost_ret (v := .tuple #[.agg #[.int .i64 0, .int .i64 0, .slice none 0 0], .int .i64 e]) (by simp [results, Try.results72, go_sem, i0, i1, i2]) rfl P.out
set_option maxRecDepth 100000 in
/-- AddRow, of one row twice. -/
theorem maddrow_one {r c x : Int} {A D : Option Addr} {n d m e0 : Nat} {s : Bool} {w : World} (hb : fmd r c n = true) (he : crw true r [x, x] = 0) : Calls Try.prog 71 #[.agg #[.int .i64 r, .int .i64 c, .slice A n d], .int .i64 x, .int .i64 x, .agg #[.bool s, .slice D m e0]] w (RetK (noM 1) w) := by
  obtain ⟨w1, hw1, b4, b5, b6, b7, b8, z1, s1⟩ := boxes5 w 24 3 3 28 24 [.int .i64 r, .int .i64 c, .slice A n d] [.int .i64 x] [.int .i64 x] [.bool s, .slice D m e0] [.int .i64 0, .int .i64 0, .slice none 0 0]
  have HW := Lib.hid hw1
  have HZ := Lib.hid z1
  have hb_ := Lib.hid hb
  have he_ := Lib.hid he
  clear hw1 z1 hb he s1
  go_enter Try.func71, Try.ntmps71
  go_upto_region 1 with fail
  rw [HW.out]
  refine Run.start 6 ?_
  refine .ld .o (ldM b4 0) ?_
  refine .ld .o (ldInt b5 0) ?_
  refine .ld .o (ldInt b6 0) ?_
  refine .bsI2 (.i 1) (.i 2) (Nat.le_refl _) ?_
  refine .c2 (.i 0) (.i 3) (x := .k (.int .i64 0)) (by rintro u v w2 hB rfl ⟨g, rfl, hx, _⟩; exact crows_q hb_.out hx he_.out (by simp)) ?_
  refine .mv (.i 4) ?_
  refine .donep [some 11, some 12, some 13, some 14, some 15, some 10] ?_
  intro w2 B2
  rintro v0 -
  change Shut (wpList _ _ _ [] _ _)
  refine ⟨?_⟩
  simp only [Act.put, List.setIfInBounds_toArray, List.set_cons_zero, List.set_cons_succ]
  have c5 := (b5.below B2).cell 0
  have c6 := (b6.below B2).cell 0
  simp only [List.getElem?_cons_zero] at c5 c6
  have P := Lib.hid (retNo (e := 1) (b8.below B2) (by omega) (zup HZ.out B2))
  unfold mput at P
  obtain ⟨i0, i1, i2, i3, i4, i5, i6⟩ := (b8.below B2).m3
  go_wp2_with fail
  exact bodyPost_ret (v := .tuple #[.agg #[.int .i64 0, .int .i64 0, .slice none 0 0], .int .i64 1]) (by simp [results, Try.results71, go_sem, i0, i1, i2]) rfl P.out
set_option maxRecDepth 100000 in
/-- Rows. -/
theorem mrows_yes {q : Bool} {r c n d k a b : Nat} {A : Option Addr} {F : Nat → Nat → Int} {w : World} (ha : Mt q w r c A n d k F) (hab : a ≤ b) (hbr : b ≤ r) (hk : k ≤ 1099511627776) : Calls Try.prog 33 #[.agg #[.int .i64 (r : Int), .int .i64 (c : Int), .slice A n d], .int .i64 (a : Int), .int .i64 (b : Int)] w (RetK (kT (kM true (b - a) c (k) (fun i j => F (a + i) j)) (.k (.int .i64 0))) w) := by
  have h1 := ha.fmd
  have h3 := ha.hr
  have h4 := ha.hc
  obtain ⟨w1, hw1, b3, b4, b6, z1, s1⟩ := boxes3 w 24 3 24 [.int .i64 (r : Int), .int .i64 (c : Int), .slice A n d] [.int .i64 (a : Int)] [.int .i64 0, .int .i64 0, .slice none 0 0]
  have HW := Lib.hid hw1
  have HZ := Lib.hid z1
  have h1_ := Lib.hid h1
  clear hw1 z1 h1 s1
  go_enter Try.func33, Try.ntmps33
  go_upto_region 1 with fail
  rw [HW.out]
  refine Run.start 4 ?_
  refine .ld .o (ldM b3 0) ?_
  refine .c1 (.i 0) (x := .k (.bool true)) (by rintro u w2 hB rfl; exact formed_q h1_.out w2) ?_
  refine .nt (.i 1) ?_
  refine .mv (.i 2) ?_
  refine .donep [some 9, some 10, some 11, some 8] ?_
  intro w2 B2
  change Shut (wpList _ _ _ [] _ _)
  refine ⟨?_⟩
  simp only [Act.put, List.setIfInBounds_toArray, List.set_cons_zero, List.set_cons_succ]
  replace b3 := b3.below B2
  replace b4 := b4.below B2
  replace b6 := b6.below B2
  have HZ2 := Lib.hid (zup HZ.out B2)
  clear B2 HZ
  go_upto_region 3 with fail
  refine Run.start 14 ?_
  refine .ld .o (ldInt b4 0) ?_
  refine .two (.i 0) .o (opLt (decide_eq_false (by omega : ¬ ((a : Int) < 0)))) ?_
  refine .mv (.i 1) ?_
  refine .ld .o (ldInt b4 0) ?_
  refine .mv .o ?_
  refine .two (.i 3) (.i 4) (opGt (decide_eq_false (by omega : ¬ ((b : Int) < (a : Int))))) ?_
  refine .pk (.i 2) (.i 5) false ?_
  refine .mv (.i 6) ?_
  refine .mv .o ?_
  refine .fa .o (fM0 0) ?_
  refine .ld (.i 9) (ldInt b3 0) ?_
  refine .two (.i 8) (.i 10) (opGt (decide_eq_false (by omega : ¬ ((r : Int) < (b : Int))))) ?_
  refine .pk (.i 7) (.i 11) false ?_
  refine .mv (.i 12) ?_
  refine .donep [some 14, some 15, some 16, some 17, some 18, some 19, some 20, some 21, some 22, some 23, some 24, some 25, some 26, some 13] ?_
  intro w3 B3
  change Shut (wpList _ _ _ [] _ _)
  refine ⟨?_⟩
  simp only [Act.put, List.setIfInBounds_toArray, List.set_cons_zero, List.set_cons_succ]
  replace b3 := b3.below B3
  replace b4 := b4.below B3
  replace b6 := b6.below B3
  have HZ3 := Lib.hid (zup HZ2.out B3)
  clear B3 HZ2
  go_upto_region 5 with fail
  refine Run.start 7 ?_
  refine .mv .o ?_
  refine .ld .o (ldInt b4 0) ?_
  refine .two (.i 0) (.i 1) (opSubN b a hab (by omega)) ?_
  refine .fa .o (fM1 1) ?_
  refine .ld (.i 3) (ldInt b3 1) ?_
  refine .fn [] [.o, .o] [] [_, _] (trivial) (⟨rfl, rfl, trivial⟩) ?_
  refine .c3 (.i 2) (.i 4) (.i 5) (x := kM true (b - a) c k (fun i j => F (a + i) j)) (by rintro u v x w4 hB rfl rfl rfl; exact form_q (by omega) h4 (by kernel_rfl) (fun i j W hi hj hW => by rw [argsC2]; exact rows1_q ((b3.below hB).below hW) ((b4.below hB).below hW) (ha.below (zup (zup HZ3.out hB) hW)) (by omega) hj hk)) ?_
  refine .donep [some 28, some 29, some 30, some 31, some 32, some 33, some 34] ?_
  intro w4 B4
  rintro v ⟨A_, n_, d_, rfl, hM⟩
  change Shut (wpList _ _ _ [_, _] _ _)
  refine ⟨?_⟩
  simp only [Act.put, List.setIfInBounds_toArray, List.set_cons_zero, List.set_cons_succ]
  have P := Lib.hid (retME hM (b6.below B4) (by omega) (zup HZ3.out B4))
  unfold mput at P
  obtain ⟨i0, i1, i2, i3, i4, i5, i6⟩ := (b6.below B4).m3
  clear hM
  go_wp2_with fail
  exact bodyPost_ret (v := .tuple #[.agg #[.int .i64 ((b - a : Nat) : Int), .int .i64 (c : Int), .slice A_ n_ d_], .int .i64 0]) (by simp [results, Try.results33, go_sem, i0, i1, i2]) rfl P.out
set_option maxRecDepth 100000 in
/-- Rows that aren't there. -/
theorem mrows_no {r c a b : Int} {A : Option Addr} {n d : Nat} {w : World} (hf : fmd r c n = true) (h : ¬ (0 ≤ a ∧ a ≤ b ∧ b ≤ r)) : Calls Try.prog 33 #[.agg #[.int .i64 r, .int .i64 c, .slice A n d], .int .i64 a, .int .i64 b] w (RetK (noM 1) w) := by
  obtain ⟨w1, hw1, b3, b4, b6, z1, s1⟩ := boxes3 w 24 3 24 [.int .i64 r, .int .i64 c, .slice A n d] [.int .i64 a] [.int .i64 0, .int .i64 0, .slice none 0 0]
  have HW := Lib.hid hw1
  have HZ := Lib.hid z1
  have hf_ := Lib.hid hf
  clear hw1 z1 hf s1
  go_enter Try.func33, Try.ntmps33
  go_upto_region 1 with fail
  rw [HW.out]
  refine Run.start 4 ?_
  refine .ld .o (ldM b3 0) ?_
  refine .c1 (.i 0) (x := .k (.bool true)) (by rintro u w2 hB rfl; exact formed_q hf_.out w2) ?_
  refine .nt (.i 1) ?_
  refine .mv (.i 2) ?_
  refine .donep [some 9, some 10, some 11, some 8] ?_
  intro w2 B2
  change Shut (wpList _ _ _ [] _ _)
  refine ⟨?_⟩
  simp only [Act.put, List.setIfInBounds_toArray, List.set_cons_zero, List.set_cons_succ]
  replace b3 := b3.below B2
  replace b4 := b4.below B2
  replace b6 := b6.below B2
  have HZ2 := Lib.hid (zup HZ.out B2)
  clear B2 HZ
  go_upto_region 3 with fail
  by_cases g0 : a < 0
  · refine Run.start 14 ?_
    refine .ld .o (ldInt b4 0) ?_
    refine .two (.i 0) .o (opLt (decide_eq_true g0)) ?_
    refine .mv (.i 1) ?_
    refine .no ?_
    refine .no ?_
    refine .no ?_
    refine .pk (.i 2) .o true ?_
    refine .mv (.i 6) ?_
    refine .no ?_
    refine .no ?_
    refine .no ?_
    refine .no ?_
    refine .pk (.i 7) .o true ?_
    refine .mv (.i 12) ?_
    refine .donep [some 14, some 15, some 16, some 17, some 18, some 19, some 20, some 21, some 22, some 23, some 24, some 25, some 26, some 13] ?_
    intro w3 B3
    change Shut (wpList _ _ _ [] _ _)
    refine ⟨?_⟩
    simp only [Act.put, List.setIfInBounds_toArray, List.set_cons_zero, List.set_cons_succ]
    have P := Lib.hid (retNo (e := 1) (b6.below B3) (by omega) (zup HZ2.out B3))
    unfold mput at P
    obtain ⟨i0, i1, i2, i3, i4, i5, i6⟩ := (b6.below B3).m3
    go_wp2_with fail
    exact bodyPost_ret (v := .tuple #[.agg #[.int .i64 0, .int .i64 0, .slice none 0 0], .int .i64 1]) (by simp [results, Try.results33, go_sem, i0, i1, i2]) rfl P.out
  · by_cases g1 : b < a
    · refine Run.start 14 ?_
      refine .ld .o (ldInt b4 0) ?_
      refine .two (.i 0) .o (opLt (decide_eq_false g0)) ?_
      refine .mv (.i 1) ?_
      refine .ld .o (ldInt b4 0) ?_
      refine .mv .o ?_
      refine .two (.i 3) (.i 4) (opGt (decide_eq_true g1)) ?_
      refine .pk (.i 2) (.i 5) false ?_
      refine .mv (.i 6) ?_
      refine .no ?_
      refine .no ?_
      refine .no ?_
      refine .no ?_
      refine .pk (.i 7) .o true ?_
      refine .mv (.i 12) ?_
      refine .donep [some 14, some 15, some 16, some 17, some 18, some 19, some 20, some 21, some 22, some 23, some 24, some 25, some 26, some 13] ?_
      intro w3 B3
      change Shut (wpList _ _ _ [] _ _)
      refine ⟨?_⟩
      simp only [Act.put, List.setIfInBounds_toArray, List.set_cons_zero, List.set_cons_succ]
      have P := Lib.hid (retNo (e := 1) (b6.below B3) (by omega) (zup HZ2.out B3))
      unfold mput at P
      obtain ⟨i0, i1, i2, i3, i4, i5, i6⟩ := (b6.below B3).m3
      go_wp2_with fail
      exact bodyPost_ret (v := .tuple #[.agg #[.int .i64 0, .int .i64 0, .slice none 0 0], .int .i64 1]) (by simp [results, Try.results33, go_sem, i0, i1, i2]) rfl P.out
    · have g2 : r < b := by omega
      refine Run.start 14 ?_
      refine .ld .o (ldInt b4 0) ?_
      refine .two (.i 0) .o (opLt (decide_eq_false g0)) ?_
      refine .mv (.i 1) ?_
      refine .ld .o (ldInt b4 0) ?_
      refine .mv .o ?_
      refine .two (.i 3) (.i 4) (opGt (decide_eq_false g1)) ?_
      refine .pk (.i 2) (.i 5) false ?_
      refine .mv (.i 6) ?_
      refine .mv .o ?_
      refine .fa .o (fM0 0) ?_
      refine .ld (.i 9) (ldInt b3 0) ?_
      refine .two (.i 8) (.i 10) (opGt (decide_eq_true g2)) ?_
      refine .pk (.i 7) (.i 11) false ?_
      refine .mv (.i 12) ?_
      refine .donep [some 14, some 15, some 16, some 17, some 18, some 19, some 20, some 21, some 22, some 23, some 24, some 25, some 26, some 13] ?_
      intro w3 B3
      change Shut (wpList _ _ _ [] _ _)
      refine ⟨?_⟩
      simp only [Act.put, List.setIfInBounds_toArray, List.set_cons_zero, List.set_cons_succ]
      have P := Lib.hid (retNo (e := 1) (b6.below B3) (by omega) (zup HZ2.out B3))
      unfold mput at P
      obtain ⟨i0, i1, i2, i3, i4, i5, i6⟩ := (b6.below B3).m3
      go_wp2_with fail
      exact bodyPost_ret (v := .tuple #[.agg #[.int .i64 0, .int .i64 0, .slice none 0 0], .int .i64 1]) (by simp [results, Try.results33, go_sem, i0, i1, i2]) rfl P.out
set_option maxRecDepth 100000 in
/-- Stack. -/
theorem mstack_yes {q q' : Bool} {r c n d k r' c' n' d' k' : Nat} {A A' : Option Addr} {F G : Nat → Nat → Int} {w : World} (ha : Mt q w r c A n d k F) (hb : Mt q' w r' c' A' n' d' k' G) (hcc : c = c') (hs : r + r' ≤ 64) (hk : k ≤ 1099511627776) (hk' : k' ≤ 1099511627776) : Calls Try.prog 34 #[.agg #[.int .i64 (r : Int), .int .i64 (c : Int), .slice A n d], .agg #[.int .i64 (r' : Int), .int .i64 (c' : Int), .slice A' n' d']] w (RetK (kT (kM true (r + r') c (max k k') (fun i j => if i < r then F i j else G (i - r) j)) (.k (.int .i64 0))) w) := by
  have h1 := ha.fmd
  have h2 := hb.fmd
  have h3 := ha.hr
  have h4 := ha.hc
  obtain ⟨w1, hw1, b2, b3, b4, z1, s1⟩ := boxes3 w 24 24 24 [.int .i64 (r : Int), .int .i64 (c : Int), .slice A n d] [.int .i64 (r' : Int), .int .i64 (c' : Int), .slice A' n' d'] [.int .i64 0, .int .i64 0, .slice none 0 0]
  have HW := Lib.hid hw1
  have HZ := Lib.hid z1
  have h1_ := Lib.hid h1
  have h2_ := Lib.hid h2
  have hcc_ := Lib.hid hcc
  clear hw1 z1 h1 h2 hcc
  go_enter Try.func34, Try.ntmps34
  go_upto_region 1 with fail
  rw [HW.out]
  obtain ⟨w2, hw2, b6, z2, s2⟩ := boxes1 w1 72 [.int .i64 (r : Int), .int .i64 (c : Int), .slice A n d, .int .i64 (r' : Int), .int .i64 (c' : Int), .slice A' n' d']
  rw [s1] at b6
  have HW2 := Lib.hid hw2
  clear hw2 s2
  obtain ⟨i0, i1, i2, i3, i4, i5, i6⟩ := b2.m3
  obtain ⟨j0, j1, j2, j3, j4, j5, j6⟩ := b3.m3
  go_upto_region 2 with fail
  rw [HW2.out]
  clear i0 i1 i2 i3 i4 i5 i6 j0 j1 j2 j3 j4 j5 j6 HW2 HW s1
  replace b2 := b2.below z2
  replace b3 := b3.below z2
  replace b4 := b4.below z2
  have HZ2 := Lib.hid (zup HZ.out z2)
  clear z2 HZ
  refine Run.start 11 ?_
  refine .ld .o (ldP b6) ?_
  refine .c1 (.i 0) (x := .k (.bool true)) (by rintro u w2 hB rfl; exact pformed_q (by rw [h1_.out, h2_.out]; rfl) w2) ?_
  refine .nt (.i 1) ?_
  refine .mv (.i 2) ?_
  refine .fa .o (fM1 1) ?_
  refine .ld (.i 4) (ldInt b2 1) ?_
  refine .fa .o (fM1 1) ?_
  refine .ld (.i 6) (ldInt b3 1) ?_
  refine .two (.i 5) (.i 7) (opNe (decide_eq_false (by have := hcc_.out; omega : ¬ ((c : Int) ≠ (c' : Int))))) ?_
  refine .pk (.i 3) (.i 8) false ?_
  refine .mv (.i 9) ?_
  refine .donep [some 11, some 12, some 13, some 14, some 15, some 16, some 17, some 18, some 19, some 20, some 10] ?_
  intro w3 B3
  change Shut (wpList _ _ _ [] _ _)
  refine ⟨?_⟩
  simp only [Act.put, List.setIfInBounds_toArray, List.set_cons_zero, List.set_cons_succ]
  replace b2 := b2.below B3
  replace b3 := b3.below B3
  replace b4 := b4.below B3
  replace b6 := b6.below B3
  have HZ3 := Lib.hid (zup HZ2.out B3)
  clear B3 HZ2
  go_upto_region 4 with fail
  refine Run.start 8 ?_
  refine .fa .o (fM0 0) ?_
  refine .ld (.i 0) (ldInt b2 0) ?_
  refine .fa .o (fM0 0) ?_
  refine .ld (.i 2) (ldInt b3 0) ?_
  refine .two (.i 1) (.i 3) (opAddN r r' (by omega)) ?_
  refine .c1 (.i 4) (x := .k (.bool true)) (by rintro u w2 hB rfl; exact side_q _ (by unfold sd; exact decide_eq_true (by omega)) w2) ?_
  refine .nt (.i 5) ?_
  refine .mv (.i 6) ?_
  refine .donep [some 23, some 24, some 25, some 26, some 27, some 28, some 29, some 22] ?_
  intro w4 B4
  change Shut (wpList _ _ _ [] _ _)
  refine ⟨?_⟩
  simp only [Act.put, List.setIfInBounds_toArray, List.set_cons_zero, List.set_cons_succ]
  replace b2 := b2.below B4
  replace b3 := b3.below B4
  replace b4 := b4.below B4
  replace b6 := b6.below B4
  have HZ4 := Lib.hid (zup HZ3.out B4)
  clear B4 HZ3
  go_upto_region 6 with fail
  refine Run.start 10 ?_
  refine .fa .o (fM0 0) ?_
  refine .ld (.i 0) (ldInt b2 0) ?_
  refine .fa .o (fM0 0) ?_
  refine .ld (.i 2) (ldInt b3 0) ?_
  refine .two (.i 1) (.i 3) (opAddN r r' (by omega)) ?_
  refine .fa .o (fM1 1) ?_
  refine .ld (.i 5) (ldInt b2 1) ?_
  refine .ld .o (ldP b6) ?_
  refine .fn [(.i 7)] [] [_] [] (⟨rfl, trivial⟩) (trivial) ?_
  refine .c3 (.i 4) (.i 6) (.i 8) (x := kM true (r + r') c (max k k') (fun i j => if i < r then F i j else G (i - r) j)) (by rintro u v x w5 hB rfl rfl rfl; exact form_q hs h4 (by kernel_rfl) (fun i j W hi hj hW => by rw [argsM]; exact pstacked_q (ha.below (zup (zup HZ4.out hB) hW)) (hb.below (zup (zup HZ4.out hB) hW)) hi hj (by have := hcc_.out; omega) hk hk')) ?_
  refine .donep [some 31, some 32, some 33, some 34, some 35, some 36, some 37, some 38, some 39, some 40] ?_
  intro w5 B5
  rintro v ⟨A_, n_, d_, rfl, hM⟩
  change Shut (wpList _ _ _ [_, _] _ _)
  refine ⟨?_⟩
  simp only [Act.put, List.setIfInBounds_toArray, List.set_cons_zero, List.set_cons_succ]
  have P := Lib.hid (retME hM (b4.below B5) (by omega) (zup HZ4.out B5))
  unfold mput at P
  obtain ⟨i0, i1, i2, i3, i4, i5, i6⟩ := (b4.below B5).m3
  clear hM
  go_wp2_with fail
  exact bodyPost_ret (v := .tuple #[.agg #[.int .i64 ((r + r' : Nat) : Int), .int .i64 (c : Int), .slice A_ n_ d_], .int .i64 0]) (by simp [results, Try.results34, go_sem, i0, i1, i2]) rfl P.out
set_option maxRecDepth 100000 in
/-- Beside. -/
theorem mbeside_yes {q q' : Bool} {r c n d k r' c' n' d' k' : Nat} {A A' : Option Addr} {F G : Nat → Nat → Int} {w : World} (ha : Mt q w r c A n d k F) (hb : Mt q' w r' c' A' n' d' k' G) (hcc : r = r') (hs : c + c' ≤ 64) (hk : k ≤ 1099511627776) (hk' : k' ≤ 1099511627776) : Calls Try.prog 35 #[.agg #[.int .i64 (r : Int), .int .i64 (c : Int), .slice A n d], .agg #[.int .i64 (r' : Int), .int .i64 (c' : Int), .slice A' n' d']] w (RetK (kT (kM true r (c + c') (max k k') (fun i j => if j < c then F i j else G i (j - c))) (.k (.int .i64 0))) w) := by
  have h1 := ha.fmd
  have h2 := hb.fmd
  have h3 := ha.hr
  have h4 := ha.hc
  obtain ⟨w1, hw1, b2, b3, b4, z1, s1⟩ := boxes3 w 24 24 24 [.int .i64 (r : Int), .int .i64 (c : Int), .slice A n d] [.int .i64 (r' : Int), .int .i64 (c' : Int), .slice A' n' d'] [.int .i64 0, .int .i64 0, .slice none 0 0]
  have HW := Lib.hid hw1
  have HZ := Lib.hid z1
  have h1_ := Lib.hid h1
  have h2_ := Lib.hid h2
  have hcc_ := Lib.hid hcc
  clear hw1 z1 h1 h2 hcc
  go_enter Try.func35, Try.ntmps35
  go_upto_region 1 with fail
  rw [HW.out]
  obtain ⟨w2, hw2, b6, z2, s2⟩ := boxes1 w1 72 [.int .i64 (r : Int), .int .i64 (c : Int), .slice A n d, .int .i64 (r' : Int), .int .i64 (c' : Int), .slice A' n' d']
  rw [s1] at b6
  have HW2 := Lib.hid hw2
  clear hw2 s2
  obtain ⟨i0, i1, i2, i3, i4, i5, i6⟩ := b2.m3
  obtain ⟨j0, j1, j2, j3, j4, j5, j6⟩ := b3.m3
  go_upto_region 2 with fail
  rw [HW2.out]
  clear i0 i1 i2 i3 i4 i5 i6 j0 j1 j2 j3 j4 j5 j6 HW2 HW s1
  replace b2 := b2.below z2
  replace b3 := b3.below z2
  replace b4 := b4.below z2
  have HZ2 := Lib.hid (zup HZ.out z2)
  clear z2 HZ
  refine Run.start 11 ?_
  refine .ld .o (ldP b6) ?_
  refine .c1 (.i 0) (x := .k (.bool true)) (by rintro u w2 hB rfl; exact pformed_q (by rw [h1_.out, h2_.out]; rfl) w2) ?_
  refine .nt (.i 1) ?_
  refine .mv (.i 2) ?_
  refine .fa .o (fM0 0) ?_
  refine .ld (.i 4) (ldInt b2 0) ?_
  refine .fa .o (fM0 0) ?_
  refine .ld (.i 6) (ldInt b3 0) ?_
  refine .two (.i 5) (.i 7) (opNe (decide_eq_false (by have := hcc_.out; omega : ¬ ((r : Int) ≠ (r' : Int))))) ?_
  refine .pk (.i 3) (.i 8) false ?_
  refine .mv (.i 9) ?_
  refine .donep [some 11, some 12, some 13, some 14, some 15, some 16, some 17, some 18, some 19, some 20, some 10] ?_
  intro w3 B3
  change Shut (wpList _ _ _ [] _ _)
  refine ⟨?_⟩
  simp only [Act.put, List.setIfInBounds_toArray, List.set_cons_zero, List.set_cons_succ]
  replace b2 := b2.below B3
  replace b3 := b3.below B3
  replace b4 := b4.below B3
  replace b6 := b6.below B3
  have HZ3 := Lib.hid (zup HZ2.out B3)
  clear B3 HZ2
  go_upto_region 4 with fail
  refine Run.start 8 ?_
  refine .fa .o (fM1 1) ?_
  refine .ld (.i 0) (ldInt b2 1) ?_
  refine .fa .o (fM1 1) ?_
  refine .ld (.i 2) (ldInt b3 1) ?_
  refine .two (.i 1) (.i 3) (opAddN c c' (by omega)) ?_
  refine .c1 (.i 4) (x := .k (.bool true)) (by rintro u w2 hB rfl; exact side_q _ (by unfold sd; exact decide_eq_true (by omega)) w2) ?_
  refine .nt (.i 5) ?_
  refine .mv (.i 6) ?_
  refine .donep [some 23, some 24, some 25, some 26, some 27, some 28, some 29, some 22] ?_
  intro w4 B4
  change Shut (wpList _ _ _ [] _ _)
  refine ⟨?_⟩
  simp only [Act.put, List.setIfInBounds_toArray, List.set_cons_zero, List.set_cons_succ]
  replace b2 := b2.below B4
  replace b3 := b3.below B4
  replace b4 := b4.below B4
  replace b6 := b6.below B4
  have HZ4 := Lib.hid (zup HZ3.out B4)
  clear B4 HZ3
  go_upto_region 6 with fail
  refine Run.start 10 ?_
  refine .fa .o (fM0 0) ?_
  refine .ld (.i 0) (ldInt b2 0) ?_
  refine .fa .o (fM1 1) ?_
  refine .ld (.i 2) (ldInt b2 1) ?_
  refine .fa .o (fM1 1) ?_
  refine .ld (.i 4) (ldInt b3 1) ?_
  refine .two (.i 3) (.i 5) (opAddN c c' (by omega)) ?_
  refine .ld .o (ldP b6) ?_
  refine .fn [(.i 7)] [] [_] [] (⟨rfl, trivial⟩) (trivial) ?_
  refine .c3 (.i 1) (.i 6) (.i 8) (x := kM true r (c + c') (max k k') (fun i j => if j < c then F i j else G i (j - c))) (by rintro u v x w5 hB rfl rfl rfl; exact form_q h3 hs (by kernel_rfl) (fun i j W hi hj hW => by rw [argsM]; exact pbeside_q (ha.below (zup (zup HZ4.out hB) hW)) (hb.below (zup (zup HZ4.out hB) hW)) hi (by have := hcc_.out; omega) hj hk hk')) ?_
  refine .donep [some 31, some 32, some 33, some 34, some 35, some 36, some 37, some 38, some 39, some 40] ?_
  intro w5 B5
  rintro v ⟨A_, n_, d_, rfl, hM⟩
  change Shut (wpList _ _ _ [_, _] _ _)
  refine ⟨?_⟩
  simp only [Act.put, List.setIfInBounds_toArray, List.set_cons_zero, List.set_cons_succ]
  have P := Lib.hid (retME hM (b4.below B5) (by omega) (zup HZ4.out B5))
  unfold mput at P
  obtain ⟨i0, i1, i2, i3, i4, i5, i6⟩ := (b4.below B5).m3
  clear hM
  go_wp2_with fail
  exact bodyPost_ret (v := .tuple #[.agg #[.int .i64 (r : Int), .int .i64 ((c + c' : Nat) : Int), .slice A_ n_ d_], .int .i64 0]) (by simp [results, Try.results35, go_sem, i0, i1, i2]) rfl P.out
set_option maxRecDepth 100000 in
/-- Beside, of other rows. -/
theorem mbeside_no {r c r' c' : Int} {A A' : Option Addr} {n d n' d' : Nat} {w : World} (h1 : fmd r c n = true) (h2 : fmd r' c' n' = true) (h : r ≠ r') : Calls Try.prog 35 #[.agg #[.int .i64 r, .int .i64 c, .slice A n d], .agg #[.int .i64 r', .int .i64 c', .slice A' n' d']] w (RetK (noM 2) w) := by
  obtain ⟨w1, hw1, b2, b3, b4, z1, s1⟩ := boxes3 w 24 24 24 [.int .i64 r, .int .i64 c, .slice A n d] [.int .i64 r', .int .i64 c', .slice A' n' d'] [.int .i64 0, .int .i64 0, .slice none 0 0]
  have HW := Lib.hid hw1
  have HZ := Lib.hid z1
  have h1_ := Lib.hid h1
  have h2_ := Lib.hid h2
  clear hw1 z1 h1 h2
  go_enter Try.func35, Try.ntmps35
  go_upto_region 1 with fail
  rw [HW.out]
  obtain ⟨w2, hw2, b6, z2, s2⟩ := boxes1 w1 72 [.int .i64 r, .int .i64 c, .slice A n d, .int .i64 r', .int .i64 c', .slice A' n' d']
  rw [s1] at b6
  have HW2 := Lib.hid hw2
  clear hw2 s2
  obtain ⟨i0, i1, i2, i3, i4, i5, i6⟩ := b2.m3
  obtain ⟨j0, j1, j2, j3, j4, j5, j6⟩ := b3.m3
  go_upto_region 2 with fail
  rw [HW2.out]
  clear i0 i1 i2 i3 i4 i5 i6 j0 j1 j2 j3 j4 j5 j6 HW2 HW s1
  replace b2 := b2.below z2
  replace b3 := b3.below z2
  replace b4 := b4.below z2
  have HZ2 := Lib.hid (zup HZ.out z2)
  clear z2 HZ
  refine Run.start 11 ?_
  refine .ld .o (ldP b6) ?_
  refine .c1 (.i 0) (x := .k (.bool true)) (by rintro u w2 hB rfl; exact pformed_q (by rw [h1_.out, h2_.out]; rfl) w2) ?_
  refine .nt (.i 1) ?_
  refine .mv (.i 2) ?_
  refine .fa .o (fM0 0) ?_
  refine .ld (.i 4) (ldInt b2 0) ?_
  refine .fa .o (fM0 0) ?_
  refine .ld (.i 6) (ldInt b3 0) ?_
  refine .two (.i 5) (.i 7) (opNe (decide_eq_true h)) ?_
  refine .pk (.i 3) (.i 8) false ?_
  refine .mv (.i 9) ?_
  refine .donep [some 11, some 12, some 13, some 14, some 15, some 16, some 17, some 18, some 19, some 20, some 10] ?_
  intro w3 B3
  change Shut (wpList _ _ _ [] _ _)
  refine ⟨?_⟩
  simp only [Act.put, List.setIfInBounds_toArray, List.set_cons_zero, List.set_cons_succ]
  have P := Lib.hid (retNo (e := 2) (b4.below B3) (by omega) (zup HZ2.out B3))
  unfold mput at P
  obtain ⟨i0, i1, i2, i3, i4, i5, i6⟩ := (b4.below B3).m3
  go_wp2_with fail
  exact bodyPost_ret (v := .tuple #[.agg #[.int .i64 0, .int .i64 0, .slice none 0 0], .int .i64 2]) (by simp [results, Try.results35, go_sem, i0, i1, i2]) rfl P.out
end Go.Proofs.Ytcdkdanfiimlkaa
