/-
  Regions: turned kinds; quotients and rests of ints.
-/
import Derived.Test.YtcdkdanfiimlkaaMtR
/-! More short steps. -/
namespace Go.Proofs.Ytcdkdanfiimlkaa
open Go.RowKit
set_option linter.unusedVariables false
set_option linter.unusedSimpArgs false

section
variable {ops : Array Oper} {Q : Exit → Act → World → Prop} {m i : Nat} {a0 : Act} {w0 : World} {l : List FK} {b : Bool} {id : Nat}
def opCv (o : Op) : Operand := match o with | .convert _ _ x => x | _ => .func 0
def okCv (ops : Array Oper) (m i : Nat) (s : Src) (S D : TypeId) : Bool := okH ops m i && (match (opAt ops i).op with | .convert S' D' x => S' == S && D' == D && s.ok ops m i x | _ => false)
theorem Run.cv (s : Src) {S D : TypeId} {u v : Value} (hr : ∀ w, (Go.convert S D u).run Try.prog w = .ok v w) (rest : R ops Q m a0 w0 b id (.k v :: l) (i + 1)) (hc : okCv ops m i s S D = true := by kernel_rfl) (hg : Gd l i (opAt ops i) := by first | exact trivial | exact rfl) (hx : s.K l i a0 (opCv (opAt ops i).op) = .k u := by rfl) : R ops Q m a0 w0 b id l i := by
  unfold okCv at hc
  rw [Bool.and_eq_true] at hc
  obtain ⟨h1, h2⟩ := hc
  refine Run.val h1 (FK.kne v) hg (fun a w h => ⟨v, ?_, rfl⟩) rest
  unfold opCv at hx
  unfold execOp
  cases e : (opAt ops i).op <;> simp only [e] at h2 hx <;> try cases h2
  rw [Bool.and_eq_true, Bool.and_eq_true, beq_iff_eq, beq_iff_eq] at h2
  obtain ⟨⟨rfl, rfl⟩, h2⟩ := h2
  simp only [h.srcK h2 hx]
  simp [hr w]
end
section
variable {T : TypeId} {X Y : Operand} {U : TypeId}
theorem cv_u8 {x : Int} (h0 : 0 ≤ x) (h1 : x < 256) (w : World) : (Go.convert 5 3 (.int .u8 x)).run Try.prog w = .ok (.int .i64 x) w := by
  simp [go_sem, IntWalk.i64_in x ⟨by omega, by omega⟩]
theorem opRemN {a b t : Nat} (h : a % b = t) (hb : 0 < b) (ha : a ≤ 4611686018427387904) (w : World) : RunTwo Try.prog (.binOp .rem T X Y U) w (.int .i64 (a : Int)) (.int .i64 (b : Int)) (.int .i64 (t : Int)) := by
  subst h
  have h1 : (a : Int).tmod (b : Int) = ((a % b : Nat) : Int) := by rw [Int.tmod_eq_emod_of_nonneg (by omega)]; simp
  have h2 : a % b ≤ a := Nat.mod_le a b
  unfold RunTwo
  simp [go_sem, h1]
  try omega
theorem opQuoN {a b t : Nat} (h : a / b = t) (hb : 0 < b) (ha : a ≤ 4611686018427387904) (w : World) : RunTwo Try.prog (.binOp .quo T X Y U) w (.int .i64 (a : Int)) (.int .i64 (b : Int)) (.int .i64 (t : Int)) := by
  subst h
  have h1 : (a : Int).tdiv (b : Int) = ((a / b : Nat) : Int) := by rw [Int.tdiv_eq_ediv_of_nonneg (by omega)]; simp
  have h2 : a / b ≤ a := Nat.div_le_self a b
  have h3 : b ≠ 0 := by omega
  unfold RunTwo
  simp [go_sem, h3]
  have h4 : (a : Int) / (b : Int) = ((a / b : Nat) : Int) := by simp
  rw [h4]
  generalize a / b = t at h2
  exact IntWalk.i64_in _ ⟨by omega, by omega⟩
theorem opEqB {x y : Bool} {b : Bool} (h : (x == y) = b) (w : World) : RunTwo Try.prog (.binOp .eql 4 X Y U) w (.bool x) (.bool y) (.bool b) := by unfold RunTwo; subst h; cases x <;> cases y <;> simp only [] <;> kernel_rfl
theorem opNeB {x y : Bool} {b : Bool} (h : (x != y) = b) (w : World) : RunTwo Try.prog (.binOp .neq 4 X Y U) w (.bool x) (.bool y) (.bool b) := by unfold RunTwo; subst h; cases x <;> cases y <;> simp only [] <;> kernel_rfl
end
theorem kT_to {r c K r2 K2 : Nat} {F G : Nat → Nat → Int} {w : World} (hr : r = r2) (hk : K ≤ K2) (hF : ∀ i j, i < r → j < c → F i j = G i j) {E : Ending} {w' : World} (h : RetK (kT (kM true r c K F) (.k (.int .i64 0))) w E w') : RetK (kT (kM true r2 c K2 G) (.k (.int .i64 0))) w E w' := by
  subst hr
  obtain ⟨u, rfl, ⟨a, b, rfl, ⟨A, n, d, rfl, hM⟩, h2⟩, hB⟩ := h
  exact ⟨_, rfl, ⟨_, _, rfl, ⟨A, n, d, rfl, (hM.mono hk).congr hF⟩, h2⟩, hB⟩
/-- Rows from the first on. -/
theorem mrows_top {q : Bool} {r c n d k b : Nat} {A : Option Addr} {F : Nat → Nat → Int} {w : World} (ha : Mt q w r c A n d k F) (hbr : b ≤ r) (hk : k ≤ 1099511627776) : Calls Try.prog 33 #[.agg #[.int .i64 (r : Int), .int .i64 (c : Int), .slice A n d], .int .i64 0, .int .i64 (b : Int)] w (RetK (kT (kM true b c k F) (.k (.int .i64 0))) w) :=
  (mrows_yes (a := 0) (b := b) ha (Nat.zero_le _) hbr hk).mono fun E w' h => kT_to (by omega) (Nat.le_refl _) (fun i j _ _ => by rw [Nat.zero_add]) h
/-- Rows that were parted. -/
theorem mstack_back {q q' : Bool} {r c n d k t n' d' : Nat} {A A' : Option Addr} {F : Nat → Nat → Int} {w : World} (ha : Mt q w t c A n d k F) (hb : Mt q' w (r - t) c A' n' d' k (fun i j => F (t + i) j)) (ht : t ≤ r) (hr : r ≤ 64) (hk : k ≤ 1099511627776) : Calls Try.prog 34 #[.agg #[.int .i64 (t : Int), .int .i64 (c : Int), .slice A n d], .agg #[.int .i64 ((r - t : Nat) : Int), .int .i64 (c : Int), .slice A' n' d']] w (RetK (kT (kM true r c k F) (.k (.int .i64 0))) w) :=
  (mstack_yes ha hb rfl (by omega) hk hk).mono fun E w' h => kT_to (by omega) (by omega) (fun i j _ _ => by
    by_cases h1 : i < t
    · rw [if_pos h1]
    · rw [if_neg h1, show t + (i - t) = i by omega]) h
end Go.Proofs.Ytcdkdanfiimlkaa
