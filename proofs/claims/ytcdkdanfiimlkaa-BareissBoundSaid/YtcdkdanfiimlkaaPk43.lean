/-
  BarL
-/
import Derived.Test.YtcdkdanfiimlkaaPk32
import Derived.Test.YtcdkdanfiimlkaaPk41
import Derived.Test.YtcdkdanfiimlkaaPk42

/-! Contracts: the bound of a determinant. -/
namespace Go.Proofs.Ytcdkdanfiimlkaa
open Go.RowKit
set_option linter.unusedVariables false
set_option linter.unusedSimpArgs false

/-- The sum of the squares of the first j numbers. -/
def sqs (f : Nat → Int) : Nat → Nat
  | 0 => 0
  | j + 1 => sqs f j + (f j).natAbs * (f j).natAbs
theorem sq_lt {a b : Nat} (h : a * a < b * b) : a < b := Nat.lt_of_not_le fun e => by have := Nat.mul_le_mul e e; omega
theorem exists_root (S : Nat) : ∃ r, r * r ≤ S ∧ S < (r + 1) * (r + 1) := by
  induction S with
  | zero => exact ⟨0, by omega, by omega⟩
  | succ S ih =>
    obtain ⟨r, h1, h2⟩ := ih
    by_cases e : S + 1 < (r + 1) * (r + 1)
    · exact ⟨r, by omega, e⟩
    · exact ⟨r + 1, by omega, by have : (r + 1) * (r + 1) < (r + 1 + 1) * (r + 1 + 1) := Nat.mul_lt_mul'' (by omega) (by omega); omega⟩
theorem exists_lsq (S : Nat) : ∃ L, S ≤ L * L ∧ ∀ m, S ≤ m * m → L ≤ m := by
  obtain ⟨r, h1, h2⟩ := exists_root S
  by_cases e : S - r * r = 0
  · refine ⟨r, by omega, fun m hm => ?_⟩
    have : r * r ≤ m * m := by omega
    exact Nat.le_of_not_lt fun h => by have := Nat.mul_lt_mul'' h h; omega
  · refine ⟨r + 1, by omega, fun m hm => ?_⟩
    have : r * r < m * m := by omega
    exact sq_lt this
/-- The least number whose square isn't less. -/
noncomputable def lsq (S : Nat) : Nat := Classical.choose (exists_lsq S)
theorem lsq_ge (S : Nat) : S ≤ lsq S * lsq S := (Classical.choose_spec (exists_lsq S)).1
theorem lsq_le {S m : Nat} (h : S ≤ m * m) : lsq S ≤ m := (Classical.choose_spec (exists_lsq S)).2 m h
theorem lsq_of {S L : Nat} (h1 : S ≤ L * L) (h2 : ∀ m, S ≤ m * m → L ≤ m) : L = lsq S := Nat.le_antisymm (h2 _ (lsq_ge S)) (lsq_le h1)
theorem lsq_root {S r : Nat} (h1 : r * r ≤ S) (h2 : S < (r + 1) * (r + 1)) : lsq S = if S - r * r = 0 then r else r + 1 := by
  symm
  by_cases e : S - r * r = 0
  · rw [if_pos e]
    refine lsq_of (by omega) fun m hm => ?_
    have : r * r ≤ m * m := by omega
    exact Nat.le_of_not_lt fun h => by have := Nat.mul_lt_mul'' h h; omega
  · rw [if_neg e]
    refine lsq_of (by omega) fun m hm => ?_
    have : r * r < m * m := by omega
    exact sq_lt this
theorem lsq_sq (a : Nat) : lsq (a * a) = a := by rw [lsq_root (r := a) (Nat.le_refl _) (Nat.mul_lt_mul'' (Nat.lt_succ_self a) (Nat.lt_succ_self a)), Nat.sub_self, if_pos rfl]
/-- The product of the rows' lengths. -/
noncomputable def bdn (c : Nat) (F : Nat → Nat → Int) : Nat → Nat
  | 0 => 1
  | i + 1 => bdn c F i * lsq (sqs (F i) c)
theorem sqs_sum (f : Nat → Int) : ∀ j, ((sqs f j : Nat) : Int) = DT.sumN j fun k => f k * f k
  | 0 => rfl
  | j + 1 => by
    show ((sqs f j + (f j).natAbs * (f j).natAbs : Nat) : Int) = DT.sumN j (fun k => f k * f k) + f j * f j
    rw [Int.natCast_add, sqs_sum f j, Int.natAbs_mul_self]
theorem bdn_prod (c : Nat) (F : Nat → Nat → Int) : ∀ i, ((bdn c F i : Nat) : Int) = DT.prodN i fun k => (lsq (sqs (F k) c) : Int)
  | 0 => rfl
  | i + 1 => by
    show ((bdn c F i * lsq (sqs (F i) c) : Nat) : Int) = DT.prodN i (fun k => (lsq (sqs (F k) c) : Int)) * (lsq (sqs (F i) c) : Int)
    rw [Int.natCast_mul, bdn_prod c F i]
theorem det_bound (r : Nat) (F : Nat → Nat → Int) : ((DT.det r F).natAbs : Int) ≤ (bdn r F r : Int) := by
  rw [bdn_prod]
  refine DT.hadamard_roots r F (fun k => (lsq (sqs (F k) r) : Int)) (fun i _ => by omega) fun i _ => ?_
  have h := lsq_ge (sqs (F i) r)
  have e := sqs_sum (F i) r
  unfold DT.gm
  rw [← e, ← Int.natCast_mul]
  omega
/-! ### Natural numbers by what is known of them -/
def IsN (x k : Nat) : FVal := fun v w => ∃ A n c, v = .slice A n c ∧ Cv w A n c x ∧ n ≤ k
def kN (x k : Nat) : FK := .f (IsN x k) (fun v w w' ⟨A, n, c, e, h1, h2⟩ hb => ⟨A, n, c, e, h1.below hb, h2⟩)
theorem CvPost.q {x k k' : Nat} {w w' : World} {e : Ending} (h : CvPost x k w e w') (hk : k ≤ k') : RetK (kN x k') w e w' := by
  obtain ⟨A, n, c, e, h1, h2, h3⟩ := h
  exact ⟨_, e, ⟨A, n, c, rfl, h1, by omega⟩, h3⟩
theorem nadd_q {u v : Value} {x y a b k : Nat} {w : World} (hx : IsN x a u w) (hy : IsN y b v w) (ha : a ≤ 1099511627776) (hb : b ≤ 1099511627776) (hk : max a b + 1 ≤ k) : Calls Try.prog 64 #[u, v] w (RetK (kN (x + y) k) w) := by
  obtain ⟨A, n, c, rfl, h1, h2⟩ := hx
  obtain ⟨A', n', c', rfl, h1', h2'⟩ := hy
  exact (addc_v h1.nv h1'.nv (by omega) (by omega)).mono fun e w' h => h.q (by omega)
theorem nbits_q {u : Value} {x a : Nat} {w : World} (hx : IsN x a u w) (ha : a ≤ 1099511627776) : Calls Try.prog 84 #[u] w (RetK (.k (.int .i64 (bl x : Int))) w) := by
  obtain ⟨A, n, c, rfl, h1, h2⟩ := hx
  exact (nbits_v h1.nv (by omega)).mono fun e w' ⟨h, e2⟩ => by subst e2; exact ⟨_, h, rfl, Below.refl _ _⟩
theorem nroot_q {u : Value} {x r a : Nat} {w : World} (hx : IsN x a u w) (ha : a ≤ 1000) (h1 : r * r ≤ x) (h2 : x < (r + 1) * (r + 1)) : Calls Try.prog 122 #[u] w (RetK (kT (kN r a) (kN (x - r * r) a)) w) := by
  obtain ⟨A, n, c, rfl, h3, h4⟩ := hx
  refine (root_ok x A n c w h3.nv (by omega)).mono ?_
  rintro e w' ⟨A1, n1, c1, A2, n2, c2, r', rfl, hr, p1, p2, q1, q2, hB⟩
  obtain ⟨g1, g2⟩ := hr.out
  have e1 : r' = r := by
    have a1 : r' < r + 1 := sq_lt (by omega)
    have a2 : r < r' + 1 := sq_lt (by omega)
    omega
  subst e1
  exact ⟨_, rfl, ⟨_, _, rfl, ⟨A1, n1, c1, rfl, p1, by omega⟩, ⟨A2, n2, c2, rfl, p2, by omega⟩⟩, hB⟩
theorem Cv.zero (w : World) : Cv w none 0 0 0 := by
  have h := (Zc.nought w).1
  exact h
set_option maxRecDepth 100000 in
set_option maxHeartbeats 1000000 in
/-- length. -/
theorem length_q {q : Bool} {w : World} {A : Option Addr} {n d k : Nat} {f : Nat → Int} (ha : ZL q w A n d k (rw' n f)) (hn : n ≤ 64) (hk : k ≤ 400) : Calls Try.prog 94 #[.slice A n d] w (RetK (kN (lsq (sqs f n)) (2 * k + n + 2)) w) := by
  have HL := Lib.hid ha
  clear ha
  go_enter Try.func94, Try.ntmps94
  go_wp2_with fail
  go_loopw [10, 3] (fun s10 s3 wr => ∃ j : Nat, s10 = .int .i64 (j : Int) ∧ j ≤ n ∧ Hid (Below w.heap.size w wr ∧ ∃ A' n' c', s3 = .slice A' n' c' ∧ Cv wr A' n' c' (sqs f j) ∧ n' ≤ 2 * k + j)) (fun s10 _ _ => n - (intOf s10).toNat)
  case atStart => exact ⟨0, rfl, Nat.zero_le _, Lib.hid ⟨Below.refl _ _, none, 0, 0, rfl, Cv.zero w, Nat.zero_le _⟩⟩
  case round =>
    obtain ⟨j, rfl, hj, HB⟩ := hrel
    by_cases hlt : j < n
    · have u2 : (j : Int) < (n : Int) := by omega
      obtain ⟨B0, A', n', c', rfl, hc, hkn⟩ := HB.out
      clear HB
      obtain ⟨ad, rfl, hab, hA⟩ := (HL.out.below B0).at hlt
      obtain ⟨s1, A1, n1, c1, e1, e2, ze, hk1⟩ := hA
      have hz1 := ze.1
      rw [rw_at hlt] at hz1
      clear ze
      go_upto_region 4 with fail
      refine Run.start 3 ?_
      refine .two .o .o (opIx hlt) ?_
      refine .ld (.i 0) (ldE (by rw [add_block]; exact hab) e1 e2) ?_
      refine .al ?_
      refine .donep [some 12, some 13, some 5] ?_
      intro w2 B2
      rintro g5 hg5 hl5 hc5 -
      change Shut (wpList _ _ _ [_] _ _)
      refine ⟨?_⟩
      simp only [Act.put, List.setIfInBounds_toArray, List.set_cons_zero, List.set_cons_succ]
      have b5 := zeroZ (T := 0) hc5
      have hs1 := B0.size
      replace B0 := zup B0 B2
      replace hz1 := hz1.below B2
      replace hc := hc.below B2
      have hno_ := b5.now (by simp)
      have hgr_ := zput_gro w2 g5 s1 A1 n1 c1
      have hc' := hc.gro hno_ hgr_
      clear e1 e2 hab hc5 B2 hc hno_ hgr_
      obtain ⟨w3, hw3⟩ : ∃ x, zput w2 g5 s1 A1 n1 c1 = x := ⟨_, rfl⟩
      obtain ⟨f1_, f2_, f3_, f4_, f5_⟩ := Ib.entry b5
      replace hz1 := hz1.zp (s' := s1) (A' := A1) (n' := n1) (c' := c1) b5
      rw [hw3] at hz1
      replace B0 := below_put (g := g5) (s := s1) (A := A1) (n := n1) (c := c1) B0 (by omega)
      rw [hw3] at B0
      replace b5 := b5.zp (s := s1) (A := A1) (n := n1) (c := c1)
      rw [hw3] at b5
      have Hw3 := Lib.hid hw3
      unfold zput at Hw3
      clear hw3
      have e_ := Hw3.out
      change zput _ _ _ _ _ _ = _ at e_
      rw [e_] at hc'
      clear e_
      go_upto_region 5 with fail
      rw [Hw3.out]
      clear f1_ f2_ f3_ f4_ f5_ Hw3
      obtain ⟨hnv, -⟩ := hz1.abs
      refine Run.start 5 ?_
      refine .mv .o ?_
      refine .fa .o (fZ1 1) ?_
      refine .ld (.i 1) (ldNat b5 1) ?_
      refine .c1 (.i 2) (x := kN ((f j).natAbs * (f j).natAbs) (2 * k)) (by rintro u w4 hB rfl; exact (squarec_v (hnv.below hB) (by omega)).mono fun e w' h => h.q (by omega)) ?_
      refine .c2 (.i 0) (.i 3) (x := kN (sqs f (j + 1)) (2 * k + (j + 1))) (by rintro u v w4 hB rfl hv; exact nadd_q (a := 2 * k + j) (b := 2 * k) ⟨_, _, _, rfl, hc'.below hB, hkn⟩ hv (by omega) (by omega) (by omega)) ?_
      refine .donep [some 14, some 15, some 16, some 17, some 18] ?_
      intro w4 B4
      rintro v17 -
      rintro v ⟨A5, n5, c5, rfl, hc5, hk5⟩
      change Shut (wpList _ _ _ [_] _ _)
      refine ⟨?_⟩
      simp only [Act.put, List.setIfInBounds_toArray, List.set_cons_zero, List.set_cons_succ]
      have HS : Hid (Below w.heap.size w w4 ∧ ∃ A' n' c', Value.slice A5 n5 c5 = .slice A' n' c' ∧ Cv w4 A' n' c' (sqs f (j + 1)) ∧ n' ≤ 2 * k + (j + 1)) := Lib.hid ⟨zup B0 B4, A5, n5, c5, rfl, hc5, hk5⟩
      clear b5 hz1 hc' hnv hc5 hk5 B4 B0
      go_wp2_with fail
      go_roundw
      case rel => exact ⟨j + 1, by go_num, by omega, HS⟩
      case measure => first | (simp [intOf]; done) | (simp [intOf]; omega)
    · obtain rfl : j = n := by omega
      have u2 : ¬ (j : Int) < (j : Int) := by omega
      obtain ⟨B0, A', n', c', rfl, hc, hkn⟩ := HB.out
      obtain ⟨rt, hr1, hr2⟩ := exists_root (sqs f j)
      have hl := lsq_root hr1 hr2
      have HL2 := Lib.hid hl
      clear HB hl
      go_upto_region 7 with fail
      refine Run.start 7 ?_
      refine .mv .o ?_
      refine .c1 (.i 0) (x := kT (kN rt (2 * k + j)) (kN (sqs f j - rt * rt) (2 * k + j))) (by rintro u w4 hB rfl; exact nroot_q ⟨_, _, _, rfl, hc.below hB, hkn⟩ (by omega) hr1 hr2) ?_
      refine .mf (.i 1) ?_
      refine .ex (.i 2) 0 kT_0 ?_
      refine .ex (.i 2) 1 kT_1 ?_
      refine .mf (.i 3) ?_
      refine .mf (.i 4) ?_
      refine .donep [some 21, some 22, some 20, some 23, some 24, some 6, some 7] ?_
      intro w4 B4
      rintro v22 -
      rintro v20 -
      rintro v23 -
      rintro v24 -
      rintro v ⟨A6, n6, c6, rfl, h6, k6⟩
      rintro v ⟨A7, n7, c7, rfl, h7, k7⟩
      change Shut (wpList _ _ _ [] _ _)
      refine ⟨?_⟩
      simp only [Act.put, List.setIfInBounds_toArray, List.set_cons_zero, List.set_cons_succ]
      replace B0 := zup B0 B4
      clear B4 hc
      obtain ⟨t, ht⟩ : ∃ t, decide ((0 : Int) < (bl (sqs f j - rt * rt) : Int)) = t := ⟨_, rfl⟩
      have HT := Lib.hid ht
      clear ht
      go_upto_region 8 with fail
      cases t
      · refine Run.start 3 ?_
        refine .mv .o ?_
        refine .c1 (.i 0) (x := .k (.int .i64 (bl (sqs f j - rt * rt) : Int))) (by rintro u w5 hB rfl; exact nbits_q ⟨_, _, _, rfl, h7.below hB, k7⟩ (by omega)) ?_
        refine .two (.i 1) .o (opGt HT.out) ?_
        refine .donep [some 25, some 26, some 27] ?_
        intro w5 B5
        change Shut (wpList _ _ _ [] _ _)
        refine ⟨?_⟩
        simp only [Act.put, List.setIfInBounds_toArray, List.set_cons_zero, List.set_cons_succ]
        have e0 : sqs f j - rt * rt = 0 := by
          have h := of_decide_eq_false HT.out
          exact bl_eq_zero.1 (by omega)
        have P : Hid (RetK (kN (lsq (sqs f j)) (2 * k + j + 2)) w (.returned (.slice A6 n6 c6)) w5) := Lib.hid ⟨_, rfl, ⟨A6, n6, c6, rfl, by rw [HL2.out, if_pos e0]; exact h6.below B5, by omega⟩, zup B0 B5⟩
        clear h6 h7 B5 B0
        go_wp2_with fail
        exact bodyPost_ret (v := .slice A6 n6 c6) (by simp [results, Try.results94, go_sem]) rfl P.out
      · refine Run.start 3 ?_
        refine .mv .o ?_
        refine .c1 (.i 0) (x := .k (.int .i64 (bl (sqs f j - rt * rt) : Int))) (by rintro u w5 hB rfl; exact nbits_q ⟨_, _, _, rfl, h7.below hB, k7⟩ (by omega)) ?_
        refine .two (.i 1) .o (opGt HT.out) ?_
        refine .donep [some 25, some 26, some 27] ?_
        intro w5 B5
        change Shut (wpList _ _ _ [] _ _)
        refine ⟨?_⟩
        simp only [Act.put, List.setIfInBounds_toArray, List.set_cons_zero, List.set_cons_succ]
        have e0 : ¬ sqs f j - rt * rt = 0 := fun h2 => by
          have h := of_decide_eq_true HT.out
          rw [h2] at h
          simp [bl_zero] at h
        replace h6 := h6.below B5
        replace B0 := zup B0 B5
        clear h7 B5
        go_upto_region 9 with fail
        refine Run.start 4 ?_
        refine .mv .o ?_
        refine .c1 .o (x := kN 1 1) (by rintro u w6 hB rfl; exact (zofn_v 1 (by omega) w6).mono fun e w' h => h.q (Nat.le_refl _)) ?_
        refine .c2 (.i 0) (.i 1) (x := kN (rt + 1) (2 * k + j + 2)) (by rintro u v w6 hB rfl hv; exact nadd_q (a := 2 * k + j) (b := 1) ⟨_, _, _, rfl, h6.below hB, k6⟩ hv (by omega) (by omega) (by omega)) ?_
        refine .mf (.i 2) ?_
        refine .donep [some 28, some 29, some 30, some 2] ?_
        intro w6 B6
        rintro v29 -
        rintro v30 -
        rintro v ⟨A9, n9, c9, rfl, h9, k9⟩
        change Shut (wpList _ _ _ [] _ _)
        refine ⟨?_⟩
        simp only [Act.put, List.setIfInBounds_toArray, List.set_cons_zero, List.set_cons_succ]
        have P : Hid (RetK (kN (lsq (sqs f j)) (2 * k + j + 2)) w (.returned (.slice A9 n9 c9)) w6) := Lib.hid ⟨_, rfl, ⟨A9, n9, c9, rfl, by rw [HL2.out, if_neg e0]; exact h9, k9⟩, zup B0 B6⟩
        clear h6 h9 B6 B0
        go_wp2_with fail
        exact bodyPost_ret (v := .slice A9 n9 c9) (by simp [results, Try.results94, go_sem]) rfl P.out
end Go.Proofs.Ytcdkdanfiimlkaa
