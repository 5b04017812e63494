/-
  Package zmat: Bits, Zero, Same.
-/
import Derived.Test.YtcdkdanfiimlkaaMtJ
/-! Contracts: what is told of a matrix. -/
namespace Go.Proofs.Ytcdkdanfiimlkaa
open Go.RowKit
set_option linter.unusedVariables false
set_option linter.unusedSimpArgs false

/-- The most bits of the first j numbers. -/
def mxb (zs : List Int) : Nat → Nat
  | 0 => 0
  | j + 1 => max (mxb zs j) (bl (ith zs j).natAbs)
theorem mxb_zero {zs : List Int} : ∀ {j : Nat}, mxb zs j = 0 ↔ ∀ i, i < j → ith zs i = 0
  | 0 => by simp [mxb]
  | j + 1 => by
    unfold mxb
    have ih := mxb_zero (zs := zs) (j := j)
    have h0 := bl_eq_zero (v := (ith zs j).natAbs)
    constructor
    · intro h i hi
      rcases Nat.lt_or_ge i j with h1 | h1
      · exact ih.1 (by omega) i h1
      · rw [show i = j by omega]; have := h0.1 (by omega); omega
    · intro h
      have h1 := ih.2 (fun i hi => h i (by omega))
      have h2 := h j (by omega)
      have h3 := h0.2 (by omega)
      omega
def opM (o : Op) : List Operand := match o with | .call { callee := .builtin .max, args := xs, argTypes := _ } => xs.toList | _ => []
def opTs (o : Op) : List TypeId := match o with | .call { callee := .builtin .max, args := _, argTypes := ts } => ts.toList | _ => []
def okMx (ops : Array Oper) (m i : Nat) (s t : Src) : Bool := okH ops m i && okSrcs ops m i (opM (opAt ops i).op) [s, t] && opTs (opAt ops i).op == [3, 3]
theorem Run.mx {ops : Array Oper} {Q : Exit → Act → World → Prop} {m i : Nat} {a0 : Act} {w0 : World} {l : List FK} {b : Bool} {id : Nat} (s t : Src) {x y : Nat} (rest : R ops Q m a0 w0 b id (.k (.int .i64 ((max x y : Nat) : Int)) :: l) (i + 1)) (hx : srcsK l i a0 (opM (opAt ops i).op) [s, t] [.int .i64 (x : Int), .int .i64 (y : Int)] := by exact ⟨rfl, rfl, trivial⟩) (hc : okMx ops m i s t = true := by kernel_rfl) (hg : Gd l i (opAt ops i) := by first | exact trivial | exact rfl) : R ops Q m a0 w0 b id l i := by
  unfold okMx at hc
  simp only [Bool.and_eq_true, beq_iff_eq] at hc
  obtain ⟨⟨h1, h2⟩, h3⟩ := hc
  refine Run.val h1 (FK.kne _) hg (fun a w h => ⟨_, ?_, rfl⟩) rest
  have hv := h.srcs h2 hx
  unfold opM at hv
  unfold opTs at h3
  split at hv
  · rename_i xs ts e
    rw [e] at h3
    obtain ⟨xs⟩ := xs
    obtain ⟨ts⟩ := ts
    simp only at h3
    subst h3
    have hlen : xs.length = 2 := by have := congrArg List.length hv; simpa using this
    match xs, hv, hlen with
    | [p, q], hv, _ =>
      have hv' : [a.eval p, a.eval q] = [.int .i64 (x : Int), .int .i64 (y : Int)] := hv
      simp only [List.cons.injEq, and_true] at hv'
      unfold execOp
      rw [e]
      simp only [resolve, List.map_toArray, List.map_cons, List.map_nil, hv'.1, hv'.2]
      have hm : ((max x y : Nat) : Int) = max (x : Int) (y : Int) := by omega
      rw [hm]
      simp [go_sem]
  · cases hv
set_option maxRecDepth 100000 in
set_option maxHeartbeats 1000000 in
/-- Bits. -/
theorem mbits_q {q : Bool} {r c : Int} {n d k b : Nat} {A : Option Addr} {zs : List Int} {w : World} (hx : ZL q w A n d k zs) (hb : mxb zs n = b) (hk : k ≤ 1099511627776) : Calls Try.prog 79 #[.agg #[.int .i64 r, .int .i64 c, .slice A n d]] w (RetK (.k (.int .i64 (b : Int))) w) := by
  have hnd := hx.le
  have hdm := hx.cap
  have HX := Lib.hid hx
  obtain ⟨w1, hw1, b1, z1, s1⟩ := boxes1 w 24 [.int .i64 r, .int .i64 c, .slice A n d]
  have HW := Lib.hid hw1
  have HZ := Lib.hid z1
  have hb_ := Lib.hid hb
  clear hw1 z1 hb hx
  go_enter Try.func79, Try.ntmps79
  go_upto_region 1 with fail
  rw [HW.out]
  have HB : Hid (Below w.heap.size w w1 ∧ Bx w1 w.heap.size 24 [.int .i64 r, .int .i64 c, .slice A n d]) := Lib.hid ⟨HZ.out, b1⟩
  have i2 := b1.cell 2
  simp only [List.getElem?_cons_succ, List.getElem?_cons_zero] at i2
  clear b1 HW HZ s1
  go_wp2_with fail
  clear i2
  go_loopw [9, 3] (fun s9 s3 wr => ∃ j : Nat, s9 = .int .i64 (j : Int) ∧ s3 = .int .i64 (mxb zs j : Int) ∧ j ≤ n ∧ Hid (Below w.heap.size w wr ∧ Bx wr w.heap.size 24 [.int .i64 r, .int .i64 c, .slice A n d])) (fun s9 _ _ => n - (intOf s9).toNat)
  case atStart => exact ⟨0, rfl, rfl, Nat.zero_le _, HB⟩
  case round =>
    clear HB
    obtain ⟨j, rfl, rfl, hj, HB⟩ := hrel
    by_cases hlt : j < n
    · have u2 : (j : Int) < (n : Int) := by omega
      obtain ⟨B0, b1⟩ := HB.out
      have hs0 := B0.size
      clear HB
      obtain ⟨ad, rfl, hab, hA⟩ := (HX.out.below B0).at hlt
      obtain ⟨s2, A2, n2, c2, e1, e2, ze, hk2⟩ := hA
      have hz := ze.1
      clear ze
      obtain ⟨p, hp⟩ : ∃ p, bl (ith zs j).natAbs = p := ⟨_, rfl⟩
      obtain ⟨o, ho⟩ : ∃ o, mxb zs j = o := ⟨_, rfl⟩
      have hs : mxb zs (j + 1) = max o p := by rw [mxb, hp, ho]
      rw [ho]
      have HP := Lib.hid hp
      have HS := Lib.hid hs
      clear hp ho hs
      go_upto_region 4 with fail
      refine Run.start 3 ?_
      refine .two .o .o (opIx hlt) ?_
      refine .ld (.i 0) (ldE (by rw [add_block]; exact hab) e1 e2) ?_
      refine .al ?_
      refine .donep [some 11, some 12, some 5] ?_
      intro w2 B2
      rintro g5 hg5 hl5 hc5 -
      change Shut (wpList _ _ _ [_] _ _)
      refine ⟨?_⟩
      simp only [Act.put, List.setIfInBounds_toArray, List.set_cons_zero, List.set_cons_succ]
      have b5 := zeroZ (T := 0) hc5
      have hl1 := b1.lt
      replace B0 := zup B0 B2
      replace hz := hz.below B2
      replace b1 := b1.below B2
      clear e1 e2 hc5 B2
      obtain ⟨w3, hw3⟩ : ∃ x, zput w2 g5 s2 A2 n2 c2 = x := ⟨_, rfl⟩
      obtain ⟨f1_, f2_, f3_, f4_, f5_⟩ := Ib.entry b5
      replace b1 := b1.zo (g := g5) (s := s2) (A := A2) (n := n2) (c := c2) (by omega)
      rw [hw3] at b1
      replace hz := hz.zp (s' := s2) (A' := A2) (n' := n2) (c' := c2) b5
      rw [hw3] at hz
      replace B0 := below_put (g := g5) (s := s2) (A := A2) (n := n2) (c := c2) B0 (by omega)
      rw [hw3] at B0
      replace b5 := b5.zp (s := s2) (A := A2) (n := n2) (c := c2)
      rw [hw3] at b5
      have Hw3 := Lib.hid hw3
      unfold zput at Hw3
      clear hw3
      go_upto_region 5 with fail
      rw [Hw3.out]
      clear f1_ f2_ f3_ f4_ f5_ Hw3
      refine Run.start 4 ?_
      refine .mv .o ?_
      refine .ld .o (ldZ b5 0) ?_
      refine .c1 (.i 1) (x := .k (.int .i64 (p : Int))) (by rintro u w4 hB rfl; exact zbits_q ⟨_, _, _, _, rfl, hz.below hB, hk2⟩ hk HP.out) ?_
      refine .mx (.i 0) (.i 2) ?_
      refine .donep [some 13, some 14, some 15, some 16] ?_
      intro w4 B4
      change Shut (wpList _ _ _ [_] _ _)
      refine ⟨?_⟩
      simp only [Act.put, List.setIfInBounds_toArray, List.set_cons_zero, List.set_cons_succ]
      have HN : Hid (Below w.heap.size w w4 ∧ Bx w4 w.heap.size 24 [.int .i64 r, .int .i64 c, .slice (some ad) n d]) := Lib.hid ⟨zup B0 B4, b1.below B4⟩
      clear b1 b5 hz B0 B4
      go_wp2_with fail
      go_roundw
      case rel => exact ⟨j + 1, by go_num, by rw [HS.out], by omega, HN⟩
      case measure => first | (simp [intOf]; done) | (simp [intOf]; omega)
    · obtain rfl : j = n := by omega
      have u2 : ¬ (j : Int) < (j : Int) := by omega
      obtain ⟨B0, b1⟩ := HB.out
      have e0 := hb_.out
      rw [e0]
      clear HB b1 e0
      go_wp2_with fail
      exact bodyPost_ret (v := .int .i64 (b : Int)) (by simp [results, Try.results79, go_sem]) rfl (ret_k rfl B0)
set_option maxRecDepth 100000 in
/-- Zero. -/
theorem mzero_q {q : Bool} {r c n d k : Nat} {A : Option Addr} {F : Nat → Nat → Int} {b : Bool} {w : World} (ha : Mt q w r c A n d k F) (hb : (b = true) ↔ ∀ i j, i < r → j < c → F i j = 0) (hk : k ≤ 1099511627776) : Calls Try.prog 38 #[.agg #[.int .i64 (r : Int), .int .i64 (c : Int), .slice A n d]] w (RetK (.k (.bool b)) w) := by
  have h1 := ha.fmd
  obtain ⟨t, ht⟩ : ∃ t, mxb (mk r c F) n = t := ⟨_, rfl⟩
  have hbt : decide ((t : Int) = 0) = b := by
    rw [Bool.eq_iff_iff, hb, decide_eq_true_iff]
    have h2 := mxb_zero (zs := mk r c F) (j := n)
    rw [ht] at h2
    constructor
    · intro h i j hi hj
      rw [← mk_at (F := F) hi hj]
      exact h2.1 (by omega) _ (by rw [ha.len]; exact at_lt hi hj)
    · intro h
      have : t = 0 := h2.2 fun m hm => by
        rw [ha.len] at hm
        obtain ⟨a1, a2, a3⟩ := at_of hm
        rw [← a3, mk_at a1 a2]; exact h _ _ a1 a2
      omega
  obtain ⟨w1, hw1, b1, z1, s1⟩ := boxes1 w 24 [.int .i64 (r : Int), .int .i64 (c : Int), .slice A n d]
  have HW := Lib.hid hw1
  have HZ := Lib.hid z1
  have h1_ := Lib.hid h1
  have ht_ := Lib.hid ht
  have hbt_ := Lib.hid hbt
  clear hw1 z1 h1 ht hbt s1 hb
  go_enter Try.func38, Try.ntmps38
  go_upto_region 1 with fail
  rw [HW.out]
  refine Run.start 8 ?_
  refine .ld .o (ldM b1 0) ?_
  refine .c1 (.i 0) (x := .k (.bool true)) (by rintro u w2 hB rfl; exact formed_q h1_.out w2) ?_
  refine .mv (.i 1) ?_
  refine .ld .o (ldM b1 0) ?_
  refine .c1 (.i 3) (x := .k (.int .i64 (t : Int))) (by rintro u w2 hB rfl; exact mbits_q (ha.below (zup HZ.out hB)).zl ht_.out hk) ?_
  refine .two (.i 4) .o (opEq hbt_.out) ?_
  refine .pk (.i 2) (.i 5) true ?_
  refine .mv (.i 6) ?_
  refine .donep [some 3, some 4, some 5, some 6, some 7, some 8, some 9, some 2] ?_
  intro w2 B2
  change Shut (wpList _ _ _ [] _ _)
  refine ⟨?_⟩
  simp only [Act.put, List.setIfInBounds_toArray, List.set_cons_zero, List.set_cons_succ]
  go_wp2_with fail
  exact bodyPost_ret (v := .bool b) (by simp [results, Try.results38, go_sem]) rfl (ret_k rfl (zup HZ.out B2))
set_option maxRecDepth 100000 in
/-- Same. -/
theorem msame_q {q q' : Bool} {r c n d k r' c' n' d' k' : Nat} {A A' : Option Addr} {F G : Nat → Nat → Int} {b : Bool} {w : World} (ha : Mt q w r c A n d k F) (hg : Mt q' w r' c' A' n' d' k' G) (hb : (b = true) ↔ (r = r' ∧ c = c' ∧ ∀ i j, i < r → j < c → F i j = G i j)) (hk : k ≤ 1099511627776) (hk' : k' ≤ 1099511627776) : Calls Try.prog 41 #[.agg #[.int .i64 (r : Int), .int .i64 (c : Int), .slice A n d], .agg #[.int .i64 (r' : Int), .int .i64 (c' : Int), .slice A' n' d']] w (RetK (.k (.bool b)) w) := by
  have h1 := ha.fmd
  have h2 := hg.fmd
  obtain ⟨t, ht⟩ : ∃ t, (decide ((r : Int) = (r' : Int)) && decide ((c : Int) = (c' : Int))) = t := ⟨_, rfl⟩
  have hbt : t = true → decide (mk r c F = mk r' c' G) = b := fun e => by
    rw [e, Bool.and_eq_true, decide_eq_true_iff, decide_eq_true_iff] at ht
    obtain ⟨rfl, rfl⟩ : r = r' ∧ c = c' := by omega
    rw [Bool.eq_iff_iff, hb, decide_eq_true_iff]
    exact ⟨fun h => ⟨rfl, rfl, fun i j hi hj => by rw [← mk_at (F := F) hi hj, h, mk_at hi hj]⟩, fun h => mk_congr h.2.2⟩
  have hbf : t = false → b = false := fun e => by
    cases hbb : b with
    | false => rfl
    | true =>
      obtain ⟨rfl, rfl, _⟩ := hb.1 hbb
      rw [← ht] at e
      simp at e
  obtain ⟨w1, hw1, b2, b3, z1, s1⟩ := boxes2 w 24 24 [.int .i64 (r : Int), .int .i64 (c : Int), .slice A n d] [.int .i64 (r' : Int), .int .i64 (c' : Int), .slice A' n' d']
  have HW := Lib.hid hw1
  have HZ := Lib.hid z1
  have h1_ := Lib.hid h1
  have h2_ := Lib.hid h2
  have ht_ := Lib.hid ht
  have hbt_ := Lib.hid hbt
  have hbf_ := Lib.hid hbf
  clear hw1 z1 h1 h2 ht hbt hbf s1 hb
  go_enter Try.func41, Try.ntmps41
  go_upto_region 1 with fail
  rw [HW.out]
  cases t
  · refine Run.start 19 ?_
    refine .ld .o (ldM b2 0) ?_
    refine .c1 (.i 0) (x := .k (.bool true)) (by rintro u w2 hB rfl; exact formed_q h1_.out w2) ?_
    refine .mv (.i 1) ?_
    refine .ld .o (ldM b3 0) ?_
    refine .c1 (.i 3) (x := .k (.bool true)) (by rintro u w2 hB rfl; exact formed_q h2_.out w2) ?_
    refine .pk (.i 2) (.i 4) true ?_
    refine .mv (.i 5) ?_
    refine .ld .o (ldM b2 0) ?_
    refine .ld .o (ldM b3 0) ?_
    refine .c2 (.i 7) (.i 8) (x := .k (.bool false)) (by rintro u v w2 hB rfl rfl; exact sides_q ht_.out w2) ?_
    refine .pk (.i 6) (.i 9) true ?_
    refine .mv (.i 10) ?_
    refine .no ?_
    refine .no ?_
    refine .no ?_
    refine .no ?_
    refine .no ?_
    refine .pk (.i 11) .o false ?_
    refine .mv (.i 17) ?_
    refine .donep [some 5, some 6, some 7, some 8, some 9, some 10, some 11, some 12, some 13, some 14, some 15, some 16, some 17, some 18, some 19, some 20, some 21, some 22, some 4] ?_
    intro w2 B2
    change Shut (wpList _ _ _ [] _ _)
    refine ⟨?_⟩
    simp only [Act.put, List.setIfInBounds_toArray, List.set_cons_zero, List.set_cons_succ]
    have e := hbf_.out rfl
    subst e
    go_wp2_with fail
    exact bodyPost_ret (v := .bool false) (by simp [results, Try.results41, go_sem]) rfl (ret_k rfl (zup HZ.out B2))
  · refine Run.start 19 ?_
    refine .ld .o (ldM b2 0) ?_
    refine .c1 (.i 0) (x := .k (.bool true)) (by rintro u w2 hB rfl; exact formed_q h1_.out w2) ?_
    refine .mv (.i 1) ?_
    refine .ld .o (ldM b3 0) ?_
    refine .c1 (.i 3) (x := .k (.bool true)) (by rintro u w2 hB rfl; exact formed_q h2_.out w2) ?_
    refine .pk (.i 2) (.i 4) true ?_
    refine .mv (.i 5) ?_
    refine .ld .o (ldM b2 0) ?_
    refine .ld .o (ldM b3 0) ?_
    refine .c2 (.i 7) (.i 8) (x := .k (.bool true)) (by rintro u v w2 hB rfl rfl; exact sides_q ht_.out w2) ?_
    refine .pk (.i 6) (.i 9) true ?_
    refine .mv (.i 10) ?_
    refine .fa .o (fM2 2) ?_
    refine .ld (.i 12) (ldSl b2 2) ?_
    refine .fa .o (fM2 2) ?_
    refine .ld (.i 14) (ldSl b3 2) ?_
    refine .c3 (.i 13) (.i 15) .o (x := .k (.bool b)) (by rintro u v x w2 hB rfl rfl rfl; exact eqf_q (ha.below (zup HZ.out hB)).zl (hg.below (zup HZ.out hB)).zl (hbt_.out rfl) hk hk') ?_
    refine .pk (.i 11) (.i 16) true ?_
    refine .mv (.i 17) ?_
    refine .donep [some 5, some 6, some 7, some 8, some 9, some 10, some 11, some 12, some 13, some 14, some 15, some 16, some 17, some 18, some 19, some 20, some 21, some 22, some 4] ?_
    intro w2 B2
    change Shut (wpList _ _ _ [] _ _)
    refine ⟨?_⟩
    simp only [Act.put, List.setIfInBounds_toArray, List.set_cons_zero, List.set_cons_succ]
    go_wp2_with fail
    exact bodyPost_ret (v := .bool b) (by simp [results, Try.results41, go_sem]) rfl (ret_k rfl (zup HZ.out B2))
end Go.Proofs.Ytcdkdanfiimlkaa
