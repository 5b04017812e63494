/-
  Matrices, or none: what products and sums answer, whatever they are of.
-/
import Derived.Test.YtcdkdanfiimlkaaMtP
/-! Total contracts of layer 11, for its laws. -/
namespace Go.Proofs.Ytcdkdanfiimlkaa
open Go.RowKit
set_option linter.unusedVariables false
set_option linter.unusedSimpArgs false

/-- A matrix as sides and numbers. -/
structure PM where
  r : Nat
  c : Nat
  F : Nat → Nat → Int
/-- The one of no numbers. -/
def pz : PM := ⟨0, 0, fun _ _ => 0⟩
def vP (o : Option PM) : PM := match o with | some p => p | none => pz
def vE (o : Option PM) : Int := match o with | some _ => 0 | none => 2
def oMul (x y : Option PM) : Option PM := match x, y with
  | some a, some b => if a.c = b.r then some ⟨a.r, b.c, fun i j => dot a.F b.F i j a.c⟩ else none
  | _, _ => none
def oAdd (x y : Option PM) : Option PM := match x, y with
  | some a, some b => if a.r = b.r ∧ a.c = b.c then some ⟨a.r, a.c, fun i j => a.F i j + b.F i j⟩ else none
  | _, _ => none
/-- What came in: a matrix, or sides and numbers that don't go together. -/
def Raw (w : World) (r c : Int) (A : Option Addr) (n d k : Nat) (o : Option PM) : Prop := match o with
  | none => fmd r c n = false
  | some p => r = p.r ∧ c = p.c ∧ Mt false w p.r p.c A n d k p.F
section
variable {w w' : World} {r c r' c' : Int} {A A' : Option Addr} {n d k n' d' k' : Nat} {x y : Option PM}
theorem Raw.below (h : Raw w r c A n d k x) (hb : Below w.heap.size w w') : Raw w' r c A n d k x := by
  cases x with
  | none => exact h
  | some p => exact ⟨h.1, h.2.1, h.2.2.below hb⟩
theorem Mt.raw {q : Bool} {p : PM} (h : Mt q w p.r p.c A n d k p.F) : Raw w p.r p.c A n d k (some p) := ⟨rfl, rfl, h.weak⟩
theorem Raw.fmd (h : Raw w r c A n d k x) : fmd r c n = x.isSome := by
  cases x with
  | none => exact h
  | some p => obtain ⟨rfl, rfl, h⟩ := h; exact h.fmd
theorem RL.raw {R : List Zr} {N W : Nat} (h : RL w A n d R) (hw : fewb r c R N W = true) : ∃ o, Raw w r c A n d W o := by
  cases hf : Go.Proofs.Ytcdkdanfiimlkaa.fmd r c n with
  | false => exact ⟨none, hf⟩
  | true =>
    obtain ⟨r', c', rfl, rfl, _, _, _, hM⟩ := h.mt hf hw
    exact ⟨some ⟨r', c', mf R c'⟩, rfl, rfl, hM⟩
theorem Mt.zero (w : World) (K : Nat) : Mt true w 0 0 none 0 0 K (fun _ _ => 0) := ⟨ZL.nil true w K, by omega, by omega⟩
theorem no_tot {p : PM} {e : Int} {K : Nat} (hp : pz = p) (he : 2 = e) {E : Ending} (h : RetK (noM 2) w E w') : RetK (kT (kM true p.r p.c K p.F) (.k (.int .i64 e))) w E w' := by
  obtain ⟨u, rfl, rfl, hB⟩ := h
  subst hp he
  exact ⟨_, rfl, ⟨_, _, rfl, ⟨none, 0, 0, rfl, Mt.zero w' K⟩, rfl⟩, hB⟩
theorem yes_tot {r c K K' : Nat} {F : Nat → Nat → Int} {p : PM} {e : Int} (hp : (⟨r, c, F⟩ : PM) = p) (he : 0 = e) (hk : K ≤ K') {E : Ending} (h : RetK (kT (kM true r c K F) (.k (.int .i64 0))) w E w') : RetK (kT (kM true p.r p.c K' p.F) (.k (.int .i64 e))) w E w' := by
  obtain ⟨u, rfl, ⟨a, b, rfl, ⟨A, n, d, rfl, hM⟩, h2⟩, hB⟩ := h
  subst hp he
  exact ⟨_, rfl, ⟨_, _, rfl, ⟨A, n, d, rfl, hM.mono hk⟩, h2⟩, hB⟩
set_option maxRecDepth 100000 in
/-- Products, whatever they are of. -/
theorem mmul_tot {p : PM} {e : Int} {K : Nat} (ha : Raw w r c A n d k x) (hb : Raw w r' c' A' n' d' k' y) (hp : vP (oMul x y) = p) (he : vE (oMul x y) = e) (hK : k + k' + 64 ≤ K) (hk : k + k' ≤ 549755813888) : Calls Try.prog 24 #[.agg #[.int .i64 r, .int .i64 c, .slice A n d], .agg #[.int .i64 r', .int .i64 c', .slice A' n' d']] w (RetK (kT (kM true p.r p.c K p.F) (.k (.int .i64 e))) w) := by
  have f1 := ha.fmd
  have f2 := hb.fmd
  cases x with
  | none => exact (mmul_no (by rw [f1]; rfl)).mono fun E w' h => no_tot hp he h
  | some a =>
    cases y with
    | none => exact (mmul_no (by rw [f1, f2]; rfl)).mono fun E w' h => no_tot hp he h
    | some b =>
      obtain ⟨rfl, rfl, hA⟩ := ha
      obtain ⟨rfl, rfl, hB⟩ := hb
      by_cases hcr : a.c = b.r
      · have ho : oMul (some a) (some b) = some ⟨a.r, b.c, fun i j => dot a.F b.F i j a.c⟩ := if_pos hcr
        rw [ho] at hp he
        have := hA.hc
        exact (mmul_yes hA hB hcr hk).mono fun E w' h => yes_tot hp he (by omega) h
      · have ho : oMul (some a) (some b) = none := if_neg hcr
        rw [ho] at hp he
        exact (mmul_no (by rw [decide_eq_false (by omega : ¬ (a.c : Int) = b.r)]; simp)).mono fun E w' h => no_tot hp he h
set_option maxRecDepth 100000 in
/-- Sums, whatever they are of. -/
theorem madd_tot {p : PM} {e : Int} {K : Nat} (ha : Raw w r c A n d k x) (hb : Raw w r' c' A' n' d' k' y) (hp : vP (oAdd x y) = p) (he : vE (oAdd x y) = e) (hK : max k k' + 1 ≤ K) (hk : k ≤ 1099511627776) (hk' : k' ≤ 1099511627776) : Calls Try.prog 15 #[.agg #[.int .i64 r, .int .i64 c, .slice A n d], .agg #[.int .i64 r', .int .i64 c', .slice A' n' d']] w (RetK (kT (kM true p.r p.c K p.F) (.k (.int .i64 e))) w) := by
  have f1 := ha.fmd
  have f2 := hb.fmd
  cases x with
  | none => exact (madd_no (by rw [f1]; rfl)).mono fun E w' h => no_tot hp he h
  | some a =>
    cases y with
    | none => exact (madd_no (by rw [f1, f2]; rfl)).mono fun E w' h => no_tot hp he h
    | some b =>
      obtain ⟨rfl, rfl, hA⟩ := ha
      obtain ⟨rfl, rfl, hB⟩ := hb
      by_cases hcr : a.r = b.r ∧ a.c = b.c
      · have ho : oAdd (some a) (some b) = some ⟨a.r, a.c, fun i j => a.F i j + b.F i j⟩ := if_pos hcr
        rw [ho] at hp he
        obtain ⟨e1, e2⟩ := hcr
        rw [← e1, ← e2] at hB ⊢
        exact (madd_yes hA hB hk hk').mono fun E w' h => yes_tot hp he hK h
      · have ho : oAdd (some a) (some b) = none := if_neg hcr
        rw [ho] at hp he
        refine (madd_no ?_).mono fun E w' h => no_tot hp he h
        by_cases e1 : (a.r : Int) = b.r
        · rw [decide_eq_false (by omega : ¬ (a.c : Int) = b.c)]; simp
        · rw [decide_eq_false e1]; simp
end
set_option maxRecDepth 100000 in
/-- None, of a matrix of no numbers. -/
theorem rnone_g {A : Option Addr} {d : Nat} (w : World) : Calls Try.prog 19 #[.agg #[.int .i64 0, .int .i64 0, .slice A 0 d]] w (RetK (.k (.bool true)) w) := by
  obtain ⟨w1, hw1, b1, z1, s1⟩ := boxes1 w 24 [.int .i64 0, .int .i64 0, .slice A 0 d]
  have HW := Lib.hid hw1
  have HZ := Lib.hid z1
  clear hw1 z1 s1
  go_enter Try.func19, Try.ntmps19
  go_upto_region 1 with fail
  rw [HW.out]
  refine Run.start 15 ?_
  refine .fa .o (fM0 0) ?_
  refine .ld (.i 0) (ldInt b1 0) ?_
  refine .two (.i 1) .o (opEq (by decide : decide ((0 : Int) = 0) = true)) ?_
  refine .mv (.i 2) ?_
  refine .fa .o (fM1 1) ?_
  refine .ld (.i 4) (ldInt b1 1) ?_
  refine .two (.i 5) .o (opEq (by decide : decide ((0 : Int) = 0) = true)) ?_
  refine .pk (.i 3) (.i 6) true ?_
  refine .mv (.i 7) ?_
  refine .fa .o (fM2 2) ?_
  refine .ld (.i 9) (ldSl b1 2) ?_
  refine .len (.i 10) Try.underlying22 ?_
  refine .two (.i 11) .o (opEq (by decide : decide (((0 : Nat) : Int) = 0) = true)) ?_
  refine .pk (.i 8) (.i 12) true ?_
  refine .mv (.i 13) ?_
  refine .donep [some 3, some 4, some 5, some 6, some 7, some 8, some 9, some 10, some 11, some 12, some 13, some 14, some 15, some 16, some 2] ?_
  intro w2 B2
  change Shut (wpList _ _ _ [] _ _)
  refine ⟨?_⟩
  simp only [Act.put, List.setIfInBounds_toArray, List.set_cons_zero, List.set_cons_succ]
  go_wp2_with fail
  exact bodyPost_ret (v := .bool true) (by simp [results, Try.results19, go_sem]) rfl (ret_k rfl (zup HZ.out B2))
end Go.Proofs.Ytcdkdanfiimlkaa
