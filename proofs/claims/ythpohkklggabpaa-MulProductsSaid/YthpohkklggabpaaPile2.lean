/-
  The heap of naturals: contracts of Swap, Pop, Push.
-/
import Derived.Test.YthpohkklggabpaaPile1
namespace Go.Proofs.Ythpohkklggabpaa
open Go.RowKit
set_option linter.unusedVariables false

/-- Two change places. -/
def swp (R : List Ent) (i k : Nat) (hi : i < R.length) (hk : k < R.length) : List Ent := (R.set i R[k]).set k R[i]
theorem swp_length (R : List Ent) (i k : Nat) (hi : i < R.length) (hk : k < R.length) : (swp R i k hi hk).length = R.length := by simp [swp]
def SwPost (b : Nat) (w : World) (p : Nat) (R : List Ent) (e : Ending) (w' : World) : Prop :=
  e = .returned (.tuple #[]) ∧ Pile b w' p R ∧ Hup b w w'
theorem sw_end {b p g cap i k : Nat} {R : List Ent} {spare : List Value} {w : World} (h : PileAt b w p R g cap spare) (hi : i < R.length) (hk : k < R.length) :
    Pile b ((w.setCell ⟨g, i, none⟩ R[k].val).setCell ⟨g, k, none⟩ R[i].val) p (swp R i k hi hk) ∧ Hup b w ((w.setCell ⟨g, i, none⟩ R[k].val).setCell ⟨g, k, none⟩ R[i].val) := by
  have h1 := h.set hi R[k]
  have h2 := h1.set (i := k) (by simpa using hk) R[i]
  exact ⟨⟨g, cap, spare, h2⟩, (Hup.setCell h.2.2.1 h.2.2.2.1 (by decide)).trans (Hup.setCell h.2.2.1 h1.2.2.2.1 (by decide))⟩

set_option maxHeartbeats 800000 in
theorem pswap_calls {b p i k : Nat} {R : List Ent} {w : World} (h : Pile b w p R) (hi : i < R.length) (hk : k < R.length) (hR : R.length ≤ 1099511627776) :
    Calls Try.prog 78 #[.pointer (some ⟨p, 0, none⟩), .int .i64 i, .int .i64 k] w (SwPost b w p (swp R i k hi hk)) := by
  obtain ⟨g, cap, spare, h⟩ := h
  have hc := h.head
  have c1 : w.cell? ⟨g, i, none⟩ = some (.slice R[i].A R[i].n R[i].c) := h.cell hi
  have c2 : w.cell? ⟨g, k, none⟩ = some (.slice R[k].A R[k].n R[k].c) := h.cell hk
  have f1 := h.free i
  have f2 := h.free k
  have u1 : (0 : Int) ≤ (i : Int) := by omega
  have u2 : (i : Int) < (R.length : Int) := by omega
  have u3 : (0 : Int) ≤ (k : Int) := by omega
  have u4 : (k : Int) < (R.length : Int) := by omega
  go_enter Try.func78, Try.ntmps78
  go_wp2
  have hne1 : ¬ p = g := fun e => h.ne e.symm
  have hne2 := h.ne
  obtain ⟨v3, c3⟩ : ∃ v3, (w.setCell ⟨g, i, none⟩ (.slice R[k].A R[k].n R[k].c)).cell? ⟨g, k, none⟩ = some v3 := ⟨_, (h.set hi R[k]).cell (i := k) (by simpa using hk)⟩
  have E := Lib.hid (sw_end h hi hk)
  clear h
  go_region
  go_end0
  exact ⟨rfl, E.out.1, E.out.2.trans (Hup.drewN _ _ 1)⟩

/-- The last one, taken out. -/
def PoPost (b : Nat) (w : World) (p : Nat) (R : List Ent) (r : Ent) (e : Ending) (w' : World) : Prop :=
  e = .returned (.iface 23 r.val) ∧ Pile b w' p R ∧ Hup b w w'
set_option maxHeartbeats 400000 in
theorem ppop_calls {b p : Nat} {R : List Ent} {r : Ent} {w : World} (h : Pile b w p (R ++ [r])) (hR : R.length ≤ 1099511627776) :
    Calls Try.prog 76 #[.pointer (some ⟨p, 0, none⟩)] w (PoPost b w p R r) := by
  obtain ⟨g, cap, spare, h⟩ := h
  have hc := h.head
  have c1 := h.cell (i := R.length) (by simp)
  have f1 := h.free' 0
  have hl : (R ++ [r]).length = R.length + 1 := by simp
  have hlast : ((R ++ [r])[R.length]'(by simp)) = r := by simp
  rw [hlast] at c1
  rw [hl] at hc
  have c2 : w.cell? ⟨g, R.length, none⟩ = some (.slice r.A r.n r.c) := c1
  have hcap : R.length + 1 ≤ cap := by have := h.2.2.2.2.1; omega
  have P : Hid (Pile b (w.setCell ⟨p, 0, none⟩ (.slice (some ⟨g, 0, none⟩) R.length cap)) p R ∧ Hup b w (w.setCell ⟨p, 0, none⟩ (.slice (some ⟨g, 0, none⟩) R.length cap))) := by
    refine ⟨⟨g, cap, r.val :: spare, ?_, h.2.1, h.2.2.1, ?_, by have := h.2.2.2.2.1; simp at this ⊢; omega, h.2.2.2.2.2⟩, Hup.setCell h.2.1 h.1 (by decide)⟩
    · rw [heap_setCell_same w p 0 _ _ _ h.1]
      rfl
    · rw [Below.heap_setCell w _ _ g h.ne, h.2.2.2.1]
      simp [vals]
  clear h hl hlast c1
  go_enter Try.func76, Try.ntmps76
  go_wp2
  go_ret
  exact ⟨rfl, P.out⟩
end Go.Proofs.Ythpohkklggabpaa
