/-
  The heap of classes (modn.pile): its method Push.
-/
import Derived.Test.YtbcopicoldnahaaGreatCrtD
import Derived.RegionTactic
import Derived.BigRegion
import Derived.Deep.RegionHeld3
import Derived.Deep.RegionLaw
import Derived.Deep.LoopGhost
import Derived.Deep.AppendLies
/-! The heap of classes (modn.pile): Push. -/
namespace Go.Proofs.YtbcopicoldnahaaGreat
open Go.RowKit
set_option linter.unusedVariables false

theorem put4_row {w : World} {g i : Nat} {R : List Cls} {t : TypeId} (y : Cls) (h : w.heap[g]? = some (.cells (cvals R).toArray t (0, 0))) (hi : i < R.length) :
    (put4 w g (4 * i) y).heap[g]? = some (.cells (cvals (R.set i y)).toArray t (0, 0)) := by
  have hlen := cvals_length R
  have k1 := heap_setCell_same w g (4 * i) _ _ (.bool y.s) h
  rw [List.setIfInBounds_toArray] at k1
  have k2 := heap_setCell_same _ g (4 * i + 1) _ _ (.slice y.A y.n y.c) k1
  rw [List.setIfInBounds_toArray] at k2
  have k3 := heap_setCell_same _ g (4 * i + 2) _ _ (.bool y.t) k2
  rw [List.setIfInBounds_toArray] at k3
  have k4 := heap_setCell_same _ g (4 * i + 3) _ _ (.slice y.B y.m y.d) k3
  rw [List.setIfInBounds_toArray, cvals_set R i y hi] at k4
  exact k4
theorem put4_other {w : World} {g o k : Nat} (y : Cls) (hk : k ≠ g) : (put4 w g o y).heap[k]? = w.heap[k]? := by
  unfold put4
  rw [Below.heap_setCell _ _ _ k hk, Below.heap_setCell _ _ _ k hk, Below.heap_setCell _ _ _ k hk, Below.heap_setCell _ _ _ k hk]
theorem cpush_end {b p g cap : Nat} {R S : List Cls} {x y : Cls} {w : World} (h : CPileAt b w p R g cap (cvals (x :: S))) :
    CPile b ((put4 w g (R.length * 4) y).setCell ⟨p, 0, none⟩ (.slice (some ⟨g, 0, none⟩) (R.length + 1) cap)) p g (R ++ [y]) S.length ∧
      Hc b w ((put4 w g (R.length * 4) y).setCell ⟨p, 0, none⟩ (.slice (some ⟨g, 0, none⟩) (R.length + 1) cap)) := by
  have hpg : p ≠ g := fun e => h.ne e.symm
  have hrow := h.2.2.2.1
  rw [← cvals_append] at hrow
  have hi : R.length < (R ++ x :: S).length := by simp
  have hget : (R ++ x :: S)[R.length]'hi = x := by simp
  have cc : ∀ j, j < 4 → w.cell? ⟨g, R.length * 4 + j, none⟩ = (x.cs)[j]? := fun j hj => by
    rw [cell_of_row w g (R.length * 4 + j) _ _ (0, 0) hrow, List.getElem?_toArray, Nat.mul_comm, cvals_get (R ++ x :: S) R.length j hi hj, hget]
  have h1 := put4_row y hrow hi
  have hset : (R ++ x :: S).set R.length y = R ++ [y] ++ S := by simp
  rw [hset, cvals_append, Nat.mul_comm] at h1
  have h2 := (put4_other (w := w) (g := g) (o := R.length * 4) y hpg).trans h.1
  have h3 := heap_setCell_same _ p 0 _ _ (.slice (some ⟨g, 0, none⟩) (R.length + 1) cap) h2
  have h4 := (Below.heap_setCell (put4 w g (R.length * 4) y) ⟨p, 0, none⟩ (.slice (some ⟨g, 0, none⟩) (R.length + 1) cap) g h.ne).trans h1
  have hl : (R ++ [y]).length = R.length + 1 := by simp
  refine ⟨⟨cap, S, ⟨by rw [hl]; exact h3, h.2.1, h.2.2.1, h4, ?_, h.2.2.2.2.2⟩, rfl⟩, ?_, ?_, (Shp.put4 _ _ _ _).trans (Shp.setCell _ _ _ _ (fun m e => by cases e))⟩
  · have := h.2.2.2.2.1
    rw [cvals_length, List.length_cons] at this
    rw [hl, cvals_length]
    omega
  · exact (((((Below.refl _ _).setCell h.2.2.1 _).setCell h.2.2.1 _).setCell h.2.2.1 _).setCell h.2.2.1 _).setCell h.2.1 _
  · intro A n c v k
    refine (k.put4 (o := R.length * 4) (y := y) (cc 0 (by omega)) (cc 1 (by omega)) (cc 2 (by omega)) (cc 3 (by omega))).other (u := .slice (some ⟨g, 0, none⟩) R.length cap) ?_ (fun m e => by cases e)
    rw [cell_of_row _ p 0 _ _ (0, 0) h2]
    rfl
/-- One more, at the end. -/
def CPuPost (b : Nat) (w : World) (p g : Nat) (R : List Cls) (q : Nat) (y : Cls) (e : Ending) (w' : World) : Prop :=
  e = .returned (.tuple #[]) ∧ CPile b w' p g (R ++ [y]) q ∧ Hc b w w'
theorem info_class : (Tryz.prog.info? 40).map (fun i => (i.zero, i.size, i.bytes)) = some (some (.agg #[.bool false, .slice none 0 0, .bool false, .slice none 0 0]), 4, 64) := by kernel_rfl
theorem assert_class (s t : Bool) (A B : Option Addr) (n c m d : Nat) (w : World) : (Instr.typeAssert (.iface 40 (.agg #[.bool s, .slice A n c, .bool t, .slice B m d])) 20 40 false).run Tryz.prog w = .ok (.agg #[.bool s, .slice A n c, .bool t, .slice B m d]) w := by kernel_rfl
theorem cpush_head {b p g cap : Nat} {R : List Cls} {spare : List Value} {w : World} (h : CPileAt b w p R g cap spare) (o : Nat) (y : Cls) :
    (put4 w g o y).cell? ⟨p, 0, none⟩ = some (.slice (some ⟨g, 0, none⟩) R.length cap) ∧ (put4 w g o y).frozen? ⟨p, 0, none⟩ = false := by
  have h2 := (put4_other (w := w) (g := g) (o := o) y (fun e => h.ne e.symm)).trans h.1
  exact ⟨by rw [cell_of_row _ p 0 _ _ (0, 0) h2]; rfl, frozen_of_row _ p 0 _ _ h2⟩
theorem cpush_spare {b p g cap : Nat} {R S : List Cls} {x : Cls} {w : World} (h : CPileAt b w p R g cap (cvals (x :: S))) :
    ∀ j, j < 4 → (w.cell? ⟨g, 0 + R.length * 4 + j, none⟩).isSome = true ∧ w.frozen? ⟨g, 0 + R.length * 4 + j, none⟩ = false := fun j hj => by
  refine ⟨?_, h.free _⟩
  have hrow := h.2.2.2.1
  rw [← cvals_append] at hrow
  have hi : R.length < (R ++ x :: S).length := by simp
  rw [Nat.zero_add, cell_of_row w g (R.length * 4 + j) _ _ (0, 0) hrow, List.getElem?_toArray, Nat.mul_comm, cvals_get (R ++ x :: S) R.length j hi hj]
  rw [List.getElem?_eq_getElem (by simp [Cls.cs]; omega)]
  rfl
theorem cpush_post {b p g cap q : Nat} {R S : List Cls} {x y : Cls} {w : World} (o : Obj) (h : CPileAt b w p R g cap (cvals (x :: S))) (hS : S.length = q) (hb : b ≤ w.heap.size) :
    CPuPost b w p g R q y (.returned (.tuple #[])) ((put4 (w.alloc o).drew g (R.length * 4) y).setCell ⟨p, 0, none⟩ (.slice (some ⟨g, 0, none⟩) (R.length + 1) cap)) := by
  have B : Below w.heap.size w (w.alloc o).drew := ((Below.refl _ _).alloc (Nat.le_refl _) o).drew
  subst hS
  obtain ⟨h1, h2⟩ := cpush_end (y := y) (h.below B)
  exact ⟨rfl, h1, (Hc.of_below B hb).trans h2⟩
set_option maxRecDepth 100000 in
set_option maxHeartbeats 4000000 in
theorem cpush_calls {b p g q : Nat} {R : List Cls} {y : Cls} {w : World} (h : CPile b w p g R (q + 1)) (hR : R.length ≤ 1000) (hb : b ≤ w.heap.size) :
    Calls Tryz.prog 137 #[.pointer (some ⟨p, 0, none⟩), .iface 40 (.agg #[.bool y.s, .slice y.A y.n y.c, .bool y.t, .slice y.B y.m y.d])] w (CPuPost b w p g R q y) := by
  obtain ⟨cap, S, h, hS⟩ := h
  have hc := h.head
  obtain ⟨x, S, rfl⟩ : ∃ x S', S = x :: S' := by
    cases S with
    | nil => simp at hS
    | cons x S' => exact ⟨x, S', rfl⟩
  have hS' : S.length = q := by simpa using hS
  have f1 := h.free' 0
  have hcap : R.length + 1 ≤ cap := by have := h.2.2.2.2.1; rw [cvals_length, List.length_cons] at this; omega
  obtain ⟨i0, hi, hz0, hz1, hz2⟩ := info_parts info_class
  have hnew := World.new_ne w _ hc
  have B : Below w.heap.size w (w.alloc (.cells #[.bool y.s, .slice y.A y.n y.c, .bool y.t, .slice y.B y.m y.d] 40)) := (Below.refl _ _).alloc (Nat.le_refl _) _
  have hsp := cpush_spare (h.below B)
  have c9 : ((w.alloc (.cells #[.bool y.s, .slice y.A y.n y.c, .bool y.t, .slice y.B y.m y.d] 40)).drew.setCells g (R.length * 4) [.bool y.s, .slice y.A y.n y.c, .bool y.t, .slice y.B y.m y.d]).cell? ⟨p, 0, none⟩ = some (.slice (some ⟨g, 0, none⟩) R.length cap) := (cpush_head (h.below B) (R.length * 4) y).1
  have f9 : ((w.alloc (.cells #[.bool y.s, .slice y.A y.n y.c, .bool y.t, .slice y.B y.m y.d] 40)).drew.setCells g (R.length * 4) [.bool y.s, .slice y.A y.n y.c, .bool y.t, .slice y.B y.m y.d]).frozen? ⟨p, 0, none⟩ = false := (cpush_head (h.below B) (R.length * 4) y).2
  have ca := (h.below B).head
  have P : Hid (CPuPost b w p g R q y (.returned (.tuple #[])) (((w.alloc (.cells #[.bool y.s, .slice y.A y.n y.c, .bool y.t, .slice y.B y.m y.d] 40)).drew.setCells g (R.length * 4) [.bool y.s, .slice y.A y.n y.c, .bool y.t, .slice y.B y.m y.d]).setCell ⟨p, 0, none⟩ (.slice (some ⟨g, 0, none⟩) (R.length + 1) cap))) := Lib.hid (cpush_post (y := y) (.cells #[.bool y.s, .slice y.A y.n y.c, .bool y.t, .slice y.B y.m y.d] 40) h hS' hb)
  clear B
  have hta := assert_class y.s y.t y.A y.B y.n y.c y.m y.d
  go_enter Tryz.func137, Tryz.ntmps137
  go_wp2
  go_region_law ((refine step_append_room (by rfl) _ _ _ (by rfl) 40 i0 4 Tryz.underlying68 hi hz1 g 0 R.length cap (by rfl) ⟨w.heap.size, 0, none⟩ 1 1 [.bool y.s, .slice y.A y.n y.c, .bool y.t, .slice y.B y.m y.d] (by rfl) rfl (World.news_of_block (heap_alloc_new w _)) (by intro u hu; simp at hu; rcases hu with rfl | rfl | rfl | rfl <;> rfl) hcap hsp ?_))
  all_goals
    go_end0
    exact P.out
end Go.Proofs.YtbcopicoldnahaaGreat
