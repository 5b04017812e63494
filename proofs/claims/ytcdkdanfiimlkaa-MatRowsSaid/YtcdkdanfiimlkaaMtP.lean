/-
  From lists that came in to matrices; rows that grow together.
-/
import Derived.Test.YtcdkdanfiimlkaaMtO
/-! What the laws of layer 11 share. -/
namespace Go.Proofs.Ytcdkdanfiimlkaa
open Go.RowKit
set_option linter.unusedVariables false
set_option linter.unusedSimpArgs false

/-- The numbers of a list that came in, as a matrix of c columns. -/
def mf (R : List Zr) (c : Nat) : Nat → Nat → Int := fun i j => ith (nums R) (i * c + j)
theorem mk_mf {R : List Zr} {r c n : Nat} (hl : R.length = n) (hn : n = r * c) : mk r c (mf R c) = nums R := mk_of (by unfold nums; rw [List.length_map, hl, hn])
theorem fewb_side {r c : Int} {R : List Zr} {N W : Nat} (h : fewb r c R N W = true) : r ≤ N ∧ c ≤ N ∧ Fw R 100 W := by
  unfold fewb at h
  simp only [Bool.and_eq_true, decide_eq_true_eq] at h
  exact ⟨h.1.1, h.1.2, of_fwb h.2⟩
theorem RL.few {w : World} {A : Option Addr} {n d : Nat} {R : List Zr} {r c : Int} {N W : Nat} (h : RL w A n d R) (hw : fewb r c R N W = true) : ZL false w A n d W (nums R) :=
  h.zl fun j hj => fw_all (fewb_side hw).2.2 (by omega) j (by rw [h.len]; exact hj)
/-- A list that came in with sides that go with it is a matrix. -/
theorem RL.mt {w : World} {A : Option Addr} {n d : Nat} {R : List Zr} {r c : Int} {N W : Nat} (h : RL w A n d R) (hf : fmd r c n = true) (hw : fewb r c R N W = true) : ∃ r' c' : Nat, r = r' ∧ c = c' ∧ r' ≤ N ∧ c' ≤ N ∧ n = r' * c' ∧ Mt false w r' c' A n d W (mf R c') := by
  unfold fmd at hf
  simp only [Bool.and_eq_true, decide_eq_true_eq] at hf
  obtain ⟨⟨h1, h2⟩, h3⟩ := hf
  obtain ⟨a1, a2⟩ := sd_of h1
  obtain ⟨b1, b2⟩ := sd_of h2
  obtain ⟨e1, e2, _⟩ := fewb_side hw
  obtain ⟨r', rfl⟩ := Int.eq_ofNat_of_zero_le a1
  obtain ⟨c', rfl⟩ := Int.eq_ofNat_of_zero_le b1
  have hn : n = r' * c' := by
    have : (n : Int) = ((r' * c' : Nat) : Int) := by rw [h3]; simp
    omega
  refine ⟨r', c', rfl, rfl, by omega, by omega, hn, ?_, by omega, by omega⟩
  rw [mk_mf h.len hn]
  exact h.few hw
theorem mk_ith {r c m : Nat} {F : Nat → Nat → Int} (h : m < r * c) : ith (mk r c F) m = F (m / c) (m % c) := by simp [ith, mk, List.getD, h]
theorem mf_at {R : List Zr} {r c m : Nat} (h : m < r * c) : mf R c (m / c) (m % c) = ith (nums R) m := by unfold mf; rw [(at_of h).2.2]
theorem EndQ.weaker {ops : Array Oper} {Q : Exit → Act → World → Prop} {m : Nat} {w0 w : World} {l l0 : List FK} {acc : List Nat} {ds : List (Option Nat)} {a : Act} (h : EndQ ops Q m w0 w acc l0 ds a) (hw : Weak l l0) : EndQ ops Q m w0 w acc l ds a := EndQ.weak hw h
theorem ZL.to {q : Bool} {w : World} {A : Option Addr} {n c k : Nat} {zs ys : List Int} (h : ZL q w A n c k zs) (e : ys = zs) : ZL q w A n c k ys := e ▸ h
theorem Dj.nil (v : Value) : Dj (.slice none 0 0) v := .inl rfl
theorem OwnZ.up0 {w0 w : World} {k : Nat} (h : Below w0.heap.size w0 w) : OwnZ w0 w k (.slice none 0 0) [] := ⟨⟨[], ⟨World.ownsRow_nil w _ _ _, fun g cs h => nomatch h⟩, fun j hj => by simp at hj⟩, h⟩
end Go.Proofs.Ytcdkdanfiimlkaa
