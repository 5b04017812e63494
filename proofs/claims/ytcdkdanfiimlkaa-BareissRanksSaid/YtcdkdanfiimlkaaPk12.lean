/-
  MtB MtC
-/
import Derived.Test.YtcdkdanfiimlkaaPk11
import Derived.Laws.AppendOwn

section
/-! Contracts: shapes. -/
namespace Go.Proofs.Ytcdkdanfiimlkaa
open Go.RowKit
set_option linter.unusedVariables false
set_option linter.unusedSimpArgs false

/-- It may be a side. -/
def sd (x : Int) : Bool := decide (0 ≤ x ∧ x ≤ 64)
/-- Sides and numbers go together. -/
def fmd (r c : Int) (n : Nat) : Bool := sd r && sd c && decide ((n : Int) = r * c)
theorem ret_k {v : Value} {w w' : World} {e : Ending} (h : e = .returned v) (hb : Below w.heap.size w w') : RetK (.k v) w e w' := ⟨v, h, rfl, hb⟩
/-- isSide. -/
theorem side_q (x : Int) {b : Bool} (hb : sd x = b) (w : World) : Calls Try.prog 73 #[.int .i64 x] w (RetK (.k (.bool b)) w) := by
  have HB := Lib.hid hb
  by_cases h0 : 0 ≤ x
  · obtain ⟨t, ht⟩ : ∃ t, decide (x ≤ 64) = t := ⟨_, rfl⟩
    have hbt : b = t := by rw [← hb, ← ht]; unfold sd; simp [h0]
    have HT := Lib.hid hbt
    clear hb hbt HB
    go_enter Try.func73, Try.ntmps73
    go_wp2_with fail
    exact bodyPost_ret (v := .bool t) (by simp [results, Try.results73, go_sem, ht]) rfl (ret_k (by rw [HT.out]) (Below.refl _ _))
  · have hbt : b = false := by rw [← hb]; unfold sd; simp [h0]
    subst hbt
    clear hb HB
    go_enter Try.func73, Try.ntmps73
    go_wp2_with fail
    exact bodyPost_ret (v := .bool false) (by simp [results, Try.results73, go_sem]) rfl (ret_k rfl (Below.refl _ _))
theorem sd_of {x : Int} (h : sd x = true) : 0 ≤ x ∧ x ≤ 64 := by unfold sd at h; exact of_decide_eq_true h
theorem sd_mul {r c : Int} (hr : sd r = true) (hc : sd c = true) : -9223372036854775808 ≤ r * c ∧ r * c ≤ 9223372036854775807 := by
  obtain ⟨a, b⟩ := sd_of hr
  obtain ⟨e, f⟩ := sd_of hc
  have h1 : 0 ≤ r * c := Int.mul_nonneg a e
  have h2 : r * c ≤ 64 * c := Int.mul_le_mul_of_nonneg_right b e
  omega
set_option maxRecDepth 100000 in
/-- grid.Formed. -/
theorem gformed_q {r c : Int} {n : Nat} {b : Bool} (hb : fmd r c n = b) (w : World) : Calls Try.prog 99 #[.int .i64 r, .int .i64 c, .int .i64 (n : Int)] w (RetK (.k (.bool b)) w) := by
  obtain ⟨t1, h1⟩ : ∃ t, sd r = t := ⟨_, rfl⟩
  obtain ⟨t2, h2⟩ : ∃ t, sd c = t := ⟨_, rfl⟩
  obtain ⟨t3, h3⟩ : ∃ t, decide ((n : Int) = r * c) = t := ⟨_, rfl⟩
  have hb' : b = (t1 && t2 && t3) := by rw [← hb, fmd, h1, h2, h3]
  have hbb := Lib.hid hb'
  have h4 : t1 = true → t2 = true → -9223372036854775808 ≤ r * c ∧ r * c ≤ 9223372036854775807 := fun e1 e2 => by
    rw [e1] at h1; rw [e2] at h2
    exact sd_mul h1 h2
  have h1_ := Lib.hid h1
  have h2_ := Lib.hid h2
  have h3_ := Lib.hid h3
  have h4_ := Lib.hid h4
  clear h1 h2 h3 h4 hb hb'
  go_enter Try.func99, Try.ntmps99
  go_upto_region 1 with fail
  cases t1
  · refine Run.start 14 ?_
    refine .mv .o ?_
    refine .c1 (.i 0) (x := .k (.bool false)) (by rintro u w2 hB rfl; exact side_q _ h1_.out w2) ?_
    refine .mv (.i 1) ?_
    refine .no ?_
    refine .no ?_
    refine .pk (.i 2) .o false ?_
    refine .mv (.i 5) ?_
    refine .no ?_
    refine .no ?_
    refine .no ?_
    refine .no ?_
    refine .no ?_
    refine .pk (.i 6) .o false ?_
    refine .mv (.i 12) ?_
    refine .donep [some 7, some 8, some 9, some 10, some 11, some 12, some 13, some 14, some 15, some 16, some 17, some 18, some 19, some 6] ?_
    intro w2 B2
    change Shut (wpList _ _ _ [] _ _)
    refine ⟨?_⟩
    simp only [Act.put, List.setIfInBounds_toArray, List.set_cons_zero, List.set_cons_succ]
    cases hbb.out
    go_wp2_with fail
    exact bodyPost_ret (v := .bool false) (by simp [results, Try.results99, go_sem]) rfl (ret_k rfl B2)
  cases t2
  · refine Run.start 14 ?_
    refine .mv .o ?_
    refine .c1 (.i 0) (x := .k (.bool true)) (by rintro u w2 hB rfl; exact side_q _ h1_.out w2) ?_
    refine .mv (.i 1) ?_
    refine .mv .o ?_
    refine .c1 (.i 3) (x := .k (.bool false)) (by rintro u w2 hB rfl; exact side_q _ h2_.out w2) ?_
    refine .pk (.i 2) (.i 4) true ?_
    refine .mv (.i 5) ?_
    refine .no ?_
    refine .no ?_
    refine .no ?_
    refine .no ?_
    refine .no ?_
    refine .pk (.i 6) .o false ?_
    refine .mv (.i 12) ?_
    refine .donep [some 7, some 8, some 9, some 10, some 11, some 12, some 13, some 14, some 15, some 16, some 17, some 18, some 19, some 6] ?_
    intro w2 B2
    change Shut (wpList _ _ _ [] _ _)
    refine ⟨?_⟩
    simp only [Act.put, List.setIfInBounds_toArray, List.set_cons_zero, List.set_cons_succ]
    cases hbb.out
    go_wp2_with fail
    exact bodyPost_ret (v := .bool false) (by simp [results, Try.results99, go_sem]) rfl (ret_k rfl B2)
  · refine Run.start 14 ?_
    refine .mv .o ?_
    refine .c1 (.i 0) (x := .k (.bool true)) (by rintro u w2 hB rfl; exact side_q _ h1_.out w2) ?_
    refine .mv (.i 1) ?_
    refine .mv .o ?_
    refine .c1 (.i 3) (x := .k (.bool true)) (by rintro u w2 hB rfl; exact side_q _ h2_.out w2) ?_
    refine .pk (.i 2) (.i 4) true ?_
    refine .mv (.i 5) ?_
    refine .mv .o ?_
    refine .mv .o ?_
    refine .mv .o ?_
    refine .two (.i 8) (.i 9) (opMul rfl (h4_.out rfl rfl).1 (h4_.out rfl rfl).2) ?_
    refine .two (.i 7) (.i 10) (opEq h3_.out) ?_
    refine .pk (.i 6) (.i 11) true ?_
    refine .mv (.i 12) ?_
    refine .donep [some 7, some 8, some 9, some 10, some 11, some 12, some 13, some 14, some 15, some 16, some 17, some 18, some 19, some 6] ?_
    intro w2 B2
    change Shut (wpList _ _ _ [] _ _)
    refine ⟨?_⟩
    simp only [Act.put, List.setIfInBounds_toArray, List.set_cons_zero, List.set_cons_succ]
    cases hbb.out
    go_wp2_with fail
    exact bodyPost_ret (v := .bool t3) (by simp [results, Try.results99, go_sem]) rfl (ret_k rfl B2)
set_option maxRecDepth 100000 in
/-- Formed. -/
theorem formed_q {r c : Int} {A : Option Addr} {n d : Nat} {b : Bool} (hb : fmd r c n = b) (w : World) : Calls Try.prog 58 #[.agg #[.int .i64 r, .int .i64 c, .slice A n d]] w (RetK (.k (.bool b)) w) := by
  obtain ⟨w1, hw1, b1, z1, s1⟩ := boxes1 w 24 [.int .i64 r, .int .i64 c, .slice A n d]
  have HW := Lib.hid hw1
  have HZ := Lib.hid z1
  have hb_ := Lib.hid hb
  clear hw1 z1 hb s1
  go_enter Try.func58, Try.ntmps58
  go_upto_region 1 with fail
  rw [HW.out]
  refine Run.start 9 ?_
  refine .fa .o (fM0 0) ?_
  refine .ld (.i 0) (ldInt b1 0) ?_
  refine .fa .o (fM1 1) ?_
  refine .ld (.i 2) (ldInt b1 1) ?_
  refine .fa .o (fM2 2) ?_
  refine .ld (.i 4) (ldSl b1 2) ?_
  refine .len (.i 5) Try.underlying22 ?_
  refine .c3 (.i 1) (.i 3) (.i 6) (x := .k (.bool b)) (by rintro u v x w2 hB rfl rfl rfl; exact gformed_q hb_.out w2) ?_
  refine .mv (.i 7) ?_
  refine .donep [some 3, some 4, some 5, some 6, some 7, some 8, some 9, some 10, some 2] ?_
  intro w2 B2
  change Shut (wpList _ _ _ [] _ _)
  refine ⟨?_⟩
  simp only [Act.put, List.setIfInBounds_toArray, List.set_cons_zero, List.set_cons_succ]
  go_wp2_with fail
  exact bodyPost_ret (v := .bool b) (by simp [results, Try.results58, go_sem]) rfl (ret_k rfl (zup HZ.out B2))
set_option maxRecDepth 100000 in
/-- pair.isFormed. -/
theorem pformed_q {r c r' c' : Int} {A A' : Option Addr} {n d n' d' : Nat} {b : Bool} (hb : (fmd r c n && fmd r' c' n') = b) (w : World) : Calls Try.prog 66 #[.agg #[.int .i64 r, .int .i64 c, .slice A n d, .int .i64 r', .int .i64 c', .slice A' n' d']] w (RetK (.k (.bool b)) w) := by
  obtain ⟨t1, h1⟩ : ∃ t, fmd r c n = t := ⟨_, rfl⟩
  obtain ⟨t2, h2⟩ : ∃ t, fmd r' c' n' = t := ⟨_, rfl⟩
  have hb' : b = (t1 && t2) := by rw [← hb, h1, h2]
  have hbb := Lib.hid hb'
  obtain ⟨w1, hw1, b1, z1, s1⟩ := boxes1 w 72 [.int .i64 r, .int .i64 c, .slice A n d, .int .i64 r', .int .i64 c', .slice A' n' d']
  have HW := Lib.hid hw1
  have HZ := Lib.hid z1
  have h1_ := Lib.hid h1
  have h2_ := Lib.hid h2
  clear hw1 z1 h1 h2 hb hb' s1
  go_enter Try.func66, Try.ntmps66
  go_upto_region 1 with fail
  rw [HW.out]
  cases t1
  · refine Run.start 9 ?_
    refine .fa .o (fP0 0) ?_
    refine .ld (.i 0) (ldM b1 0) ?_
    refine .c1 (.i 1) (x := .k (.bool false)) (by rintro u w2 hB rfl; exact formed_q h1_.out w2) ?_
    refine .mv (.i 2) ?_
    refine .no ?_
    refine .no ?_
    refine .no ?_
    refine .pk (.i 3) .o false ?_
    refine .mv (.i 7) ?_
    refine .donep [some 3, some 4, some 5, some 6, some 7, some 8, some 9, some 10, some 2] ?_
    intro w2 B2
    change Shut (wpList _ _ _ [] _ _)
    refine ⟨?_⟩
    simp only [Act.put, List.setIfInBounds_toArray, List.set_cons_zero, List.set_cons_succ]
    cases hbb.out
    go_wp2_with fail
    exact bodyPost_ret (v := .bool false) (by simp [results, Try.results66, go_sem]) rfl (ret_k rfl (zup HZ.out B2))
  · refine Run.start 9 ?_
    refine .fa .o (fP0 0) ?_
    refine .ld (.i 0) (ldM b1 0) ?_
    refine .c1 (.i 1) (x := .k (.bool true)) (by rintro u w2 hB rfl; exact formed_q h1_.out w2) ?_
    refine .mv (.i 2) ?_
    refine .fa .o (fP1 3) ?_
    refine .ld (.i 4) (ldM b1 3) ?_
    refine .c1 (.i 5) (x := .k (.bool t2)) (by rintro u w2 hB rfl; exact formed_q h2_.out w2) ?_
    refine .pk (.i 3) (.i 6) true ?_
    refine .mv (.i 7) ?_
    refine .donep [some 3, some 4, some 5, some 6, some 7, some 8, some 9, some 10, some 2] ?_
    intro w2 B2
    change Shut (wpList _ _ _ [] _ _)
    refine ⟨?_⟩
    simp only [Act.put, List.setIfInBounds_toArray, List.set_cons_zero, List.set_cons_succ]
    cases hbb.out
    go_wp2_with fail
    exact bodyPost_ret (v := .bool t2) (by simp [results, Try.results66, go_sem]) rfl (ret_k rfl (zup HZ.out B2))
end Go.Proofs.Ytcdkdanfiimlkaa
end

section
/-! Matrices in memory, by their numbers. -/
namespace Go.Proofs.Ytcdkdanfiimlkaa
open Go.RowKit
set_option linter.unusedVariables false
set_option linter.unusedSimpArgs false

/-! ### The list of a matrix's numbers -/
/-- The numbers of r rows and c columns, row by row. -/
def mk (r c : Nat) (F : Nat → Nat → Int) : List Int := (List.range (r * c)).map fun m => F (m / c) (m % c)
theorem mk_len (r c : Nat) (F : Nat → Nat → Int) : (mk r c F).length = r * c := by simp [mk]
theorem at_lt {r c i j : Nat} (hi : i < r) (hj : j < c) : i * c + j < r * c := by
  have : i * c + c ≤ r * c := by rw [← Nat.succ_mul]; exact Nat.mul_le_mul_right c hi
  omega
theorem mk_at {r c i j : Nat} {F : Nat → Nat → Int} (hi : i < r) (hj : j < c) : ith (mk r c F) (i * c + j) = F i j := by
  have h := at_lt hi hj
  have h1 : (i * c + j) / c = i := by rw [Nat.mul_comm, Nat.mul_add_div (by omega), Nat.div_eq_of_lt hj]; omega
  have h2 : (i * c + j) % c = j := by rw [Nat.mul_comm, Nat.mul_add_mod, Nat.mod_eq_of_lt hj]
  simp [ith, mk, List.getD, h, h1, h2]
theorem at_of {r c m : Nat} (h : m < r * c) : m / c < r ∧ m % c < c ∧ m / c * c + m % c = m := by
  have hc : 0 < c := Nat.pos_of_ne_zero fun e => by subst e; simp at h
  exact ⟨Nat.div_lt_of_lt_mul (by rw [Nat.mul_comm]; exact h), Nat.mod_lt _ hc, by rw [Nat.mul_comm]; exact Nat.div_add_mod m c⟩
theorem mk_congr {r c : Nat} {F G : Nat → Nat → Int} (h : ∀ i j, i < r → j < c → F i j = G i j) : mk r c F = mk r c G := by
  unfold mk
  apply List.map_congr_left
  intro m hm
  obtain ⟨h1, h2, _⟩ := at_of (List.mem_range.1 hm)
  exact h _ _ h1 h2
theorem mk_of {r c : Nat} {zs : List Int} (h : zs.length = r * c) : mk r c (fun i j => ith zs (i * c + j)) = zs := by
  apply List.ext_getElem
  · rw [mk_len, h]
  · intro m h1 h2
    obtain ⟨e1, e2, e3⟩ := at_of (r := r) (c := c) (m := m) (by rw [← h]; exact h2)
    simp [mk, e3, ith, List.getD, h2]
/-- The first m of a list, then noughts. -/
def fil (l : List Int) (m : Nat) : List Int := l.take m ++ List.replicate (l.length - m) 0
theorem fil_zero (l : List Int) : fil l 0 = List.replicate l.length 0 := by simp [fil]
theorem fil_all (l : List Int) : fil l l.length = l := by simp [fil]
theorem fil_len {l : List Int} {m : Nat} (h : m ≤ l.length) : (fil l m).length = l.length := by simp [fil]; omega
theorem fil_set {l : List Int} {m : Nat} (h : m < l.length) : (fil l m).set m (ith l m) = fil l (m + 1) := by
  apply List.ext_getElem
  · rw [List.length_set, fil_len (by omega), fil_len (by omega)]
  · intro j h1 h2
    rw [fil_len (by omega)] at h2
    rw [List.getElem_set]
    by_cases e : m = j
    · subst e
      rw [if_pos rfl]
      simp only [fil]
      rw [List.getElem_append_left (by simp; omega)]
      simp [ith, List.getD, h2]
    · rw [if_neg e]
      simp only [fil]
      rcases Nat.lt_or_ge j m with h3 | h3
      · rw [List.getElem_append_left (by simp; omega), List.getElem_append_left (by simp; omega)]; simp
      · rw [List.getElem_append_right (by simp; omega), List.getElem_append_right (by simp; omega)]; simp
/-! ### What is known of values -/
def kC (z : Int) (k : Nat) : FK := .f (IsC z k) (stay_c z k)
def kV (z : Int) (k : Nat) : FK := .f (IsV z k) (stay_v z k)
theorem IsC.v {z : Int} {k : Nat} {v : Value} {w : World} (h : IsC z k v w) : IsV z k v w := by
  obtain ⟨s, A, n, c, e, h1, h2⟩ := h
  exact ⟨s, A, n, c, e, h1.zv, h2⟩
/-- A matrix's slice of numbers: all normal, if q says so; none of more than k words. -/
structure Mt (q : Bool) (w : World) (r c : Nat) (A : Option Addr) (n d k : Nat) (F : Nat → Nat → Int) : Prop where
  zl : ZL q w A n d k (mk r c F)
  hr : r ≤ 64
  hc : c ≤ 64
section
variable {q : Bool} {w w' : World} {r c n d k k' : Nat} {A : Option Addr} {F G : Nat → Nat → Int}
theorem Mt.below (h : Mt q w r c A n d k F) (hb : Below w.heap.size w w') : Mt q w' r c A n d k F := ⟨h.zl.below hb, h.hr, h.hc⟩
theorem Mt.len (h : Mt q w r c A n d k F) : n = r * c := by have := h.zl.len; rw [mk_len] at this; exact this.symm
theorem Mt.congr (h : Mt q w r c A n d k F) (e : ∀ i j, i < r → j < c → F i j = G i j) : Mt q w r c A n d k G := ⟨by rw [← mk_congr e]; exact h.zl, h.hr, h.hc⟩
theorem Mt.mono (h : Mt q w r c A n d k F) (hk : k ≤ k') : Mt q w r c A n d k' F := ⟨h.zl.mono hk, h.hr, h.hc⟩
theorem Mt.fmd (h : Mt q w r c A n d k F) : fmd (r : Int) (c : Int) n = true := by
  have h1 := h.hr; have h2 := h.hc; have h3 := h.len
  unfold Proofs.Ytcdkdanfiimlkaa.fmd sd
  simp only [Bool.and_eq_true, decide_eq_true_eq]
  refine ⟨⟨⟨by omega, by omega⟩, by omega, by omega⟩, by rw [h3]; simp⟩
/-- The number of a place, as it lies. -/
theorem Mt.elem (h : Mt q w r c A n d k F) {i j : Nat} (hi : i < r) (hj : j < c) : ∃ ad, A = some ad ∧ ad.block < w.heap.size ∧ i * c + j < n ∧ ZAt q w (ad.add ((i * c + j) * 2)) k (F i j) := by
  have hl : i * c + j < n := by rw [h.len]; exact at_lt hi hj
  obtain ⟨ad, e, h1, h2⟩ := h.zl.at hl
  rw [mk_at hi hj] at h2
  exact ⟨ad, e, h1, hl, h2⟩
end
def IsM (q : Bool) (r c k : Nat) (F : Nat → Nat → Int) : FVal := fun v w => ∃ A n d, v = .agg #[.int .i64 (r : Int), .int .i64 (c : Int), .slice A n d] ∧ Mt q w r c A n d k F
def kM (q : Bool) (r c k : Nat) (F : Nat → Nat → Int) : FK := .f (IsM q r c k F) (fun v w w' ⟨A, n, d, e, h⟩ hb => ⟨A, n, d, e, h.below hb⟩)
theorem RetK.mono {x y : FK} {w w' : World} {e : Ending} (h : RetK x w e w') (hxy : ∀ v w, x.F v w → y.F v w) : RetK y w e w' := by
  obtain ⟨u, e, h1, h2⟩ := h
  exact ⟨u, e, hxy _ _ h1, h2⟩
theorem RetK.up {x : FK} {w w1 w2 : World} {e : Ending} (h : RetK x w1 e w2) (hb : Below w.heap.size w w1) : RetK x w e w2 := by
  obtain ⟨u, e, h1, h2⟩ := h
  exact ⟨u, e, h1, zup hb h2⟩
/-! ### Whole numbers -/
theorem ZPost.q {z : Int} {k k' : Nat} {w w' : World} {e : Ending} (h : ZPost z k w e w') (hk : k ≤ k') : RetK (kC z k') w e w' := by
  obtain ⟨s, A, n, c, e, h1, h2, h3⟩ := h
  exact ⟨_, e, ⟨s, A, n, c, rfl, h1, by omega⟩, h3⟩
section
variable {u v : Value} {x y : Int} {n m k : Nat} {w : World}
theorem zadd_q (hx : IsV x n u w) (hy : IsV y m v w) (hn : n ≤ 1099511627776) (hm : m ≤ 1099511627776) (hk : max n m + 1 ≤ k) : Calls Try.prog 21 #[u, v] w (RetK (kC (x + y) k) w) := by
  obtain ⟨s, A, a, c, rfl, h1, h2⟩ := hx
  obtain ⟨s', A', a', c', rfl, h1', h2'⟩ := hy
  exact (zadd_v h1 h1' (by omega) (by omega)).mono fun e w' h => h.q (by omega)
theorem zsub_q (hx : IsV x n u w) (hy : IsV y m v w) (hn : n ≤ 1099511627776) (hm : m ≤ 1099511627776) (hk : max n m + 1 ≤ k) : Calls Try.prog 22 #[u, v] w (RetK (kC (x - y) k) w) := by
  obtain ⟨s, A, a, c, rfl, h1, h2⟩ := hx
  obtain ⟨s', A', a', c', rfl, h1', h2'⟩ := hy
  exact (zsub_v h1 h1' (by omega) (by omega)).mono fun e w' h => h.q (by omega)
theorem zmul_q (hx : IsV x n u w) (hy : IsV y m v w) (hn : n ≤ 1099511627776) (hm : m ≤ 1099511627776) (hk : n + m ≤ k) : Calls Try.prog 20 #[u, v] w (RetK (kC (x * y) k) w) := by
  obtain ⟨s, A, a, c, rfl, h1, h2⟩ := hx
  obtain ⟨s', A', a', c', rfl, h1', h2'⟩ := hy
  exact (zmul_v h1 h1' (by omega) (by omega)).mono fun e w' h => h.q (by omega)
theorem zneg_q (hx : IsV x n u w) (hn : n ≤ 1099511627776) : Calls Try.prog 91 #[u] w (RetK (kC (-x) n) w) := by
  obtain ⟨s, A, a, c, rfl, h1, h2⟩ := hx
  exact (zneg_v h1 (by omega)).mono fun e w' h => h.q (by omega)
theorem zof_q (h1 : -9223372036854775808 ≤ x) (h2 : x ≤ 9223372036854775807) (w : World) : Calls Try.prog 40 #[.int .i64 x] w (RetK (kC x 1) w) := (zof_v x h1 h2 w).mono fun e w' h => h.q (Nat.le_refl _)
theorem IPost.q {r : Int} {w w' : World} {e : Ending} (h : IPost r w e w') : RetK (.k (.int .i64 r)) w e w' := ⟨_, h.1, rfl, h.2⟩
theorem zsign_q {r : Int} (hx : IsV x n u w) (hn : n ≤ 1099511627776) (hr : x.sign = r) : Calls Try.prog 42 #[u] w (RetK (.k (.int .i64 r)) w) := by
  obtain ⟨s, A, a, c, rfl, h1, h2⟩ := hx
  exact (zsign_v h1 (by omega) hr).mono fun e w' h => h.q
theorem zsame_q {b : Bool} (hx : IsV x n u w) (hy : IsV y m v w) (hn : n ≤ 1099511627776) (hm : m ≤ 1099511627776) (hb : decide (x = y) = b) : Calls Try.prog 27 #[u, v] w (RetK (.k (.bool b)) w) := by
  obtain ⟨s, A, a, c, rfl, h1, h2⟩ := hx
  obtain ⟨s', A', a', c', rfl, h1', h2'⟩ := hy
  exact (zsame_v h1 h1' (by omega) (by omega) hb).mono fun e w' h => ⟨_, h.1, rfl, h.2⟩
end
theorem zfrom_q {s : Bool} {A : Option Addr} {n c k : Nat} {z : Int} {w : World} (h : Zv w s A n c z) (hn : n ≤ k) (hk : k ≤ 1099511627776) : Calls Try.prog 95 #[.slice A n c, .bool s] w (RetK (kC z k) w) := by
  obtain ⟨v, h1, h2⟩ := h
  rw [h2.out]
  exact (zfrom_v h1 (by omega)).mono fun e w' h => h.q (by omega)
/-! ### Elements -/
theorem zp_cells : Try.prog.cellsOf 28 = 2 := by kernel_rfl
theorem run_ixL {w : World} {ad : Addr} {n c k : Nat} (h : k < n) : (Instr.indexAt 22 (.slice (some ad) n c) (.int .i64 (k : Int))).run Try.prog w = .ok (.pointer (some (ad.add (k * 2)))) w := by
  simp [go_sem, Try.underlying22, zp_cells]
  omega
theorem opIx {ad : Addr} {n c k : Nat} {X Y : Operand} (h : k < n) (w : World) : RunTwo Try.prog (.indexAddr 22 X Y) w (.slice (some ad) n c) (.int .i64 (k : Int)) (.pointer (some (ad.add (k * 2)))) := run_ixL h
theorem ldE {w : World} {p : Addr} {s : Bool} {A : Option Addr} {n c : Nat} (hp : p.block < w.heap.size) (h0 : w.cell? p = some (.bool s)) (h1 : w.cell? ⟨p.block, p.off + 1, none⟩ = some (.slice A n c)) : ∀ w', Below w.heap.size w w' → (Instr.loadAt 28 (.pointer (some p))).run Try.prog w' = .ok (.agg #[.bool s, .slice A n c]) w' := fun w' hb =>
  run_ldzA ((hb.cell hp).trans h0) ((hb.cell (p := ⟨p.block, p.off + 1, none⟩) hp).trans h1)
/-- What a function that answers a whole number does last: it lies in its result. -/
theorem retC {w w2 : World} {A B : Option Addr} {n c g k m d : Nat} {s t : Bool} {z : Int} (h : Zc w2 s A n c z) (hi : Ib w2 g t B m d) (hk : n ≤ k) (hg : w.heap.size ≤ g) (hB : Below w.heap.size w w2) :
    RetK (kC z k) w (.returned (.agg #[.bool s, .slice A n c])) ((w2.setCell ⟨g, 0, none⟩ (.bool s)).setCell ⟨g, 1, none⟩ (.slice A n c)) := (zfin h hi hk hg hB).q (Nat.le_refl _)
theorem retV {w w2 : World} {A B : Option Addr} {n c g k m d : Nat} {s t : Bool} {z : Int} (h : Zv w2 s A n c z) (hi : Ib w2 g t B m d) (hk : n ≤ k) (hg : w.heap.size ≤ g) (hB : Below w.heap.size w w2) :
    RetK (kV z k) w (.returned (.agg #[.bool s, .slice A n c])) ((w2.setCell ⟨g, 0, none⟩ (.bool s)).setCell ⟨g, 1, none⟩ (.slice A n c)) :=
  ⟨_, rfl, ⟨s, A, n, c, rfl, h.put hi, hk⟩, below_put hB hg⟩
/-- append of one number where there is room. -/
theorem wpList_approom {P : Program} {w : World} {ops : Array Oper} {rest : List Oper} {o : Oper} {a : Act} {Q : Exit → Act → World → Prop} (hgd : o.guard = none) (s x : Operand) (t : TypeId)
    (ho : o.op = .call { callee := .builtin .append, args := #[s, x], argTypes := #[t, t] })
    (ht : P.underlying t = some (.slice 28)) (hinfo : (P.info? 28).map (fun i => (i.zero, i.size, i.bytes)) = some (some (.agg #[.bool false, .slice none 0 0]), 2, 32))
    {g k m cap h n c : Nat} {sb : Bool} {A : Option Addr} {z : Int} {zs : List Int} (hs : a.eval s = .slice (some ⟨g, 0, none⟩) m cap) (hx : a.eval x = .slice (some ⟨h, 0, none⟩) 1 1)
    (hone : Bx w h 28 [.bool sb, .slice A n c]) (hz : Zc w sb A n c z) (hn : n ≤ k) (hb : ZB w g k zs) (hm : m < zs.length) (hcap : cap = zs.length)
    (K : ∀ w', ZB w' g k (zs.set m z) → w.grownBy w' (some g) → wpList P ops Q rest (a.put o.dst (.slice (some ⟨g, 0, none⟩) (m + 1) cap)) w') :
    wpList P ops Q (o :: rest) a w := by
  obtain ⟨i, hi, hz0, hz1, hz2⟩ := info_parts hinfo
  have hno := hb.now
  have hput := hb.put (j := m) hm hz hn
  obtain ⟨cs, h1, h2, h3⟩ := hb
  have c0 := hone.cell 0
  have c1 := hone.cell 1
  simp at c0 c1
  have hrun := run_append_room (P := P) w t o.type 28 i ht hi g m cap cs h1 ⟨h, 0, none⟩ 1 1 [.bool sb, .slice A n c] (by rw [hz1]; rfl) (fun j u hu => by
      rw [add_lit0]
      match j, hu with
      | 0, hu => simp at hu; subst hu; exact c0
      | 1, hu => simp at hu; subst hu; exact c1) (fun u hu => by
      simp at hu
      rcases hu with rfl | rfl <;> rfl) (by omega) (by rw [hz1, h2]; simp; omega)
  rw [hz1] at hrun
  have eC : (cs.toList.take (m * 2) ++ [Value.bool sb, .slice A n c] ++ cs.toList.drop (m * 2 + 2)).toArray = (cs.setIfInBounds (m * 2) (.bool sb)).setIfInBounds (m * 2 + 1) (.slice A n c) := by
    apply Array.ext'
    simp only [Array.toList_setIfInBounds]
    apply List.ext_getElem?
    intro j
    have hl : m * 2 + 1 < cs.toList.length := by rw [Array.length_toList, h2]; omega
    rw [List.getElem?_set, List.getElem?_set]
    rcases Nat.lt_trichotomy j (m * 2) with e | e | e
    · rw [if_neg (by omega), if_neg (by omega), List.append_assoc, List.getElem?_append_left (by simp; omega), List.getElem?_take_of_lt e]
    · subst e
      rw [if_neg (by omega), if_pos rfl, if_pos (by omega), List.append_assoc, List.getElem?_append_right (by simp; omega)]
      rw [List.length_take, Nat.min_eq_left (by omega), Nat.sub_self]
      rfl
    · by_cases e1 : j = m * 2 + 1
      · subst e1
        rw [if_pos rfl, if_pos (by simp; omega), List.append_assoc, List.getElem?_append_right (by simp; omega)]
        rw [List.length_take, Nat.min_eq_left (by omega), show m * 2 + 1 - m * 2 = 1 by omega]
        rfl
      · rw [if_neg (by omega), if_neg (by omega), List.getElem?_append_right (by simp; omega), List.getElem?_drop]
        congr 1
        simp; omega
  rw [show ([Value.bool sb, Value.slice A n c] : List Value).length = 2 from rfl, eC] at hrun
  obtain ⟨w', hw'⟩ : ∃ w', w' = w.setRow g ((cs.setIfInBounds (m * 2) (.bool sb)).setIfInBounds (m * 2 + 1) (.slice A n c)) := ⟨_, rfl⟩
  have hg : w'.heap[g]? = (zputo w g (m * 2) sb A n c).heap[g]? := by
    rw [hw', setRow_heap w g cs _ _ _ h1]
    unfold zputo
    rw [heap_setCell_same _ g _ _ _ _ (heap_setCell_same w g _ _ _ _ h1)]
  have hgr : w.grownBy w' (some g) := by
    subst hw'
    exact ⟨rfl, rfl, rfl, by simp [World.setRow], fun j _ hj => setRow_other w g j _ (fun e => hj (by rw [e]))⟩
  have hgz := zputo_gro w g (m * 2) sb A n c
  have hsz : (zputo w g (m * 2) sb A n c).heap.size = w.heap.size := by unfold zputo; simp
  have hbb : Below (zputo w g (m * 2) sb A n c).heap.size (zputo w g (m * 2) sb A n c) w' := by
    refine ⟨hgr.os.trans hgz.os.symm, hgr.tape.trans hgz.tape.symm, hgr.output.trans hgz.output.symm, by rw [hsz]; exact hgr.size, fun j hj => ?_⟩
    rw [hsz] at hj
    by_cases e : j = g
    · subst e; exact hg
    · exact (hgr.block j hj (fun h => e (Option.some.inj h))).trans (hgz.block j hj (fun h => e (Option.some.inj h))).symm
  rw [← hw'] at hrun
  refine wpList_plain hgd fun K' hK' => ?_
  unfold Oper.wp execOp
  simp only [ho, resolve, invoke, builtin, Sem.run_bind, Sem.run_pure, Result.andThen_ok, List.map_toArray, List.map_cons, List.map_nil, hs, hx, hrun]
  exact hK' _ _ (K _ (hput.below hbb) hgr)
end Go.Proofs.Ytcdkdanfiimlkaa
end
