/-
  The heap of naturals: contract of Push.
-/
import Derived.Test.YthpohkklggabpaaPile2
import Derived.Deep.RegionLaw
namespace Go.Proofs.Ythpohkklggabpaa
open Go.RowKit
set_option linter.unusedVariables false

theorem info_nat' : (Try.prog.info? 23).map (fun i => (i.zero, i.size, i.bytes)) = some (some (.slice none 0 0), 1, 24) := by kernel_rfl
theorem PileAt.owns {b : Nat} {w : World} {p g cap : Nat} {R : List Ent} {spare : List Value} (h : PileAt b w p R g cap spare) (hc : cap ≤ maxLen) : w.ownsRow b 23 1 (.slice (some ⟨g, 0, none⟩) R.length cap) R.length (vals R) :=
  ⟨by simp [vals_length], .inr ⟨g, cap, _, rfl, h.2.2.1, h.2.2.2.1, by have := h.2.2.2.2.1; omega, hc, by simp [vals_length]; exact h.2.2.2.2.1, by simp [vals_length]⟩⟩
/-- What a row of its own leaves, behind the store of its header. -/
theorem pile_of_own {b p g cap : Nat} {w : World} {R : List Ent} {hd : Value} (hb : b ≤ p) (ho : w.ownsRow b 23 1 (.slice (some ⟨g, 0, none⟩) R.length cap) R.length (vals R)) (hR : 0 < R.length)
    (hp : w.heap[p]? = some (.cells #[hd] 71 (0, 0))) : Pile b (w.setCell ⟨p, 0, none⟩ (.slice (some ⟨g, 0, none⟩) R.length cap)) p R := by
  rcases ho.2 with ⟨_, h0⟩ | ⟨g', cap', cur, hv, hg, hh, hn, hm, hs, ht⟩
  · omega
  · injection hv with e1 e2 e3
    injection e1 with e1
    injection e1 with e1
    subst e1 e3
    have hne : g ≠ p := fun e => by
      subst e
      rw [hp] at hh
      injection hh with hh
      injection hh with _ h2
      exact absurd h2 (by decide)
    rw [Nat.mul_one] at ht hs
    refine ⟨g, cap, cur.toList.drop R.length, ?_, hb, hg, ?_, by simp; omega, by unfold maxLen at hm; omega⟩
    · rw [heap_setCell_same w p 0 _ _ _ hp]
      rfl
    · rw [Below.heap_setCell w _ _ g hne, hh, ← ht, List.take_append_drop]

theorem assert_nat (A : Option Addr) (n c : Nat) (w : World) : (Instr.typeAssert (.iface 23 (.slice A n c)) 20 23 false).run Try.prog w = .ok (.slice A n c) w := by kernel_rfl
theorem push_keep {b p g cap : Nat} {w X w1 : World} {R : List Ent} {spare : List Value} {o : Obj} (h : PileAt b w p R g cap spare) (hg : X.grownBy w1 (some g)) (hX : X.heap = (w.alloc o).heap) :
    w1.heap[p]? = some (.cells #[.slice (some ⟨g, 0, none⟩) R.length cap] 71 (0, 0)) := by
  have hl := (Array.getElem?_eq_some_iff.1 h.1).1
  rw [hg.block p (by rw [hX]; simp; omega) (fun e => h.ne (Option.some.inj e).symm), hX, Below.heap_alloc w o p hl]
  exact h.1
theorem push_cell {b p g cap : Nat} {w X w1 : World} {R : List Ent} {spare : List Value} {o : Obj} (h : PileAt b w p R g cap spare) (hg : X.grownBy w1 (some g)) (hX : X.heap = (w.alloc o).heap) :
    w1.cell? ⟨p, 0, none⟩ = some (.slice (some ⟨g, 0, none⟩) R.length cap) := by
  rw [cell_of_row w1 p 0 _ _ (0, 0) (push_keep h hg hX)]
  rfl
theorem push_free {b p g cap : Nat} {w X w1 : World} {R : List Ent} {spare : List Value} {o : Obj} (h : PileAt b w p R g cap spare) (hg : X.grownBy w1 (some g)) (hX : X.heap = (w.alloc o).heap) :
    w1.frozen? ⟨p, 0, none⟩ = false := frozen_of_row w1 p 0 _ _ (push_keep h hg hX)
theorem push_alloc {b p g cap : Nat} {w : World} {R : List Ent} {spare : List Value} (o : Obj) (h : PileAt b w p R g cap spare) :
    (w.alloc o).cell? ⟨p, 0, none⟩ = some (.slice (some ⟨g, 0, none⟩) R.length cap) ∧ (w.alloc o).frozen? ⟨p, 0, none⟩ = false := by
  have h1 := h.below ((Below.refl _ _).alloc (Nat.le_refl _) o)
  exact ⟨h1.head, h1.free' 0⟩
theorem push_hup {b p g cap : Nat} {w X w1 : World} {R : List Ent} {spare : List Value} {o : Obj} (h : PileAt b w p R g cap spare) (hb : b ≤ w.heap.size) (hg : X.grownBy w1 (some g)) (hX : X.heap = (w.alloc o).heap)
    (h1 : X.os = w.os) (h2 : X.tape = w.tape) (h3 : X.output = w.output) : Hup b w w1 := by
  have hB : Below b w X := ⟨h1, h2, h3, by rw [hX]; simp, fun k hk => by rw [hX]; exact Below.heap_alloc w o k (by omega)⟩
  refine ⟨hB.grown hg (by rw [hX]; simp; omega) (fun k hk => by have := Option.some.inj hk; have := h.2.2.1; omega), fun k cs fr hk => ?_⟩
  have hl := (Array.getElem?_eq_some_iff.1 hk).1
  rw [hg.block k (by rw [hX]; simp; omega) (fun e => ?_), hX, Below.heap_alloc w o k hl]
  have := Option.some.inj e
  subst this
  rw [h.2.2.2.1] at hk
  injection hk with hk
  injection hk with _ e2
  exact absurd e2 (by decide)
def PuPost (b : Nat) (w : World) (p : Nat) (R : List Ent) (r : Ent) (e : Ending) (w' : World) : Prop :=
  e = .returned (.tuple #[]) ∧ Pile b w' p (R ++ [r]) ∧ Hup b w w'
theorem push_end {b p g g' cap cap' : Nat} {w X w1 : World} {R : List Ent} {r : Ent} {spare : List Value} {o : Obj} (h : PileAt b w p R g cap spare) (hb : b ≤ w.heap.size) (hg : X.grownBy w1 (some g)) (hX : X.heap = (w.alloc o).heap)
    (h1 : X.os = w.os) (h2 : X.tape = w.tape) (h3 : X.output = w.output) (ho : w1.ownsRow b 23 1 (.slice (some ⟨g', 0, none⟩) (R.length + 1) cap') (R.length + 1) (vals R ++ [.slice r.A r.n r.c])) :
    PuPost b w p R r (.returned (.tuple #[])) (w1.setCell ⟨p, 0, none⟩ (.slice (some ⟨g', 0, none⟩) (R.length + 1) cap')) := by
  have hl : (R ++ [r]).length = R.length + 1 := by simp
  have hv : vals (R ++ [r]) = vals R ++ [.slice r.A r.n r.c] := by simp [vals, Ent.val]
  have hk := push_keep h hg hX
  have hp := pile_of_own (R := R ++ [r]) h.2.1 (by rw [hl, hv]; exact ho) (by omega) hk
  rw [hl] at hp
  exact ⟨rfl, hp, (push_hup h hb hg hX h1 h2 h3).trans (Hup.setCell h.2.1 hk (by decide))⟩
set_option maxHeartbeats 800000 in
theorem ppush_calls {b p : Nat} {R : List Ent} {r : Ent} {w : World} (h : Pile b w p R) (hR : R.length ≤ 1099511627776) (hbw : b ≤ w.heap.size) :
    Calls Try.prog 77 #[.pointer (some ⟨p, 0, none⟩), .iface 23 (.slice r.A r.n r.c)] w (PuPost b w p R r) := by
  obtain ⟨g, cap, spare, h⟩ := h
  have hc := h.head
  have f1 := h.free' 0
  have hne := h.ne
  have ho := h.owns (by have := h.2.2.2.2.2; unfold maxLen; omega)
  obtain ⟨i0, hi, hz0, hz1, hz2⟩ := info_parts info_nat'
  have hnew := World.new_ne w _ hc
  have hta := assert_nat r.A r.n r.c
  have ca := (push_alloc (.cells #[.slice r.A r.n r.c] 23) h).1
  go_enter Try.func77, Try.ntmps77
  go_wp2
  go_region_law ((refine step_append_lies _ (by rfl) _ _ _ (by rfl) b 23 i0 (.slice none 0 0) 1 24 Try.underlying38 hi hz0 hz1 hz2 rfl (by decide) _ R.length (vals R) (by rfl) (ho.alloc _) ⟨w.heap.size, 0, none⟩ 1 1 [.slice r.A r.n r.c] (by rfl) rfl (World.news_of_block (heap_alloc_new w _)) (by intro u hu; simp at hu; subst hu; rfl) (by omega) (by unfold maxLen; omega) (by omega) (by simp; omega) (w.heap.size + 1) (by simp) ?_; intro g' cap' w1 hown hgrow hat hlt; have c9 := push_cell h hgrow rfl; have f9 := push_free h hgrow rfl))
  all_goals
    go_end0
    exact push_end h hbw hgrow rfl rfl rfl rfl hown
end Go.Proofs.Ythpohkklggabpaa
