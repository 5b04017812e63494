/-
  The heap of classes (modn.pile): its method Pop.
-/
import Derived.Test.YtbcopicoldnahaaGreatCrtC
import Derived.RegionTactic
import Derived.BigRegion
import Derived.Deep.RegionHeld3
import Derived.Deep.RegionLaw
import Derived.Deep.LoopGhost
/-! The heap of classes (modn.pile): Pop. -/
namespace Go.Proofs.YtbcopicoldnahaaGreat
open Go.RowKit
set_option linter.unusedVariables false

/-- The last one, taken out. -/
def CPoPost (b : Nat) (w : World) (p g : Nat) (R : List Cls) (q : Nat) (x : Cls) (e : Ending) (w' : World) : Prop :=
  e = .returned (.iface 40 (.agg #[.bool x.s, .slice x.A x.n x.c, .bool x.t, .slice x.B x.m x.d])) ∧ CPile b w' p g R (q + 1) ∧ Hc b w w'
theorem cpop_pile {b p g cap q : Nat} {R S : List Cls} {x : Cls} {w : World} (h : CPileAt b w p (R ++ [x]) g cap (cvals S)) (hS : S.length = q) :
    CPile b (w.setCell ⟨p, 0, none⟩ (.slice (some ⟨g, 0, none⟩) R.length cap)) p g R (q + 1) := by
  have hl : 4 * R.length + (x.cs ++ cvals S).length = 4 * cap := by
    have := h.2.2.2.2.1
    rw [List.length_append] at this ⊢
    have e : x.cs.length = 4 := rfl
    have e1 : [x].length = 1 := rfl
    omega
  have h1 := heap_setCell_same w p 0 _ _ (.slice (some ⟨g, 0, none⟩) R.length cap) h.1
  have h2 : (w.setCell ⟨p, 0, none⟩ (.slice (some ⟨g, 0, none⟩) R.length cap)).heap[g]? = _ := (Below.heap_setCell w _ _ g h.ne).trans h.2.2.2.1
  have e : cvals (R ++ [x]) ++ cvals S = cvals R ++ (x.cs ++ cvals S) := by
    rw [cvals_append, List.append_assoc]
    rfl
  rw [e] at h2
  exact ⟨cap, x :: S, ⟨h1, h.2.1, h.2.2.1, h2, hl, h.2.2.2.2.2⟩, by rw [List.length_cons, hS]⟩
theorem cpop_hc {b p g cap : Nat} {R : List Cls} {spare : List Value} {w : World} (v : Value) (hv : ∃ a n c, v = .slice a n c) (h : CPileAt b w p R g cap spare) :
    Hc b w (w.setCell ⟨p, 0, none⟩ v) := by
  obtain ⟨a, n, c, rfl⟩ := hv
  exact ⟨(Below.refl _ _).setCell h.2.1 _, fun A n c v y => y.other h.head (fun m e => by cases e), Shp.setCell _ _ _ _ (fun m e => by cases e)⟩
theorem cpop_post {b p g q : Nat} {R : List Cls} {x : Cls} {w w' : World} (o : Obj) (h : CPile b w' p g R (q + 1)) (k : Hc b w w') (hb : b ≤ w.heap.size) :
    CPoPost b w p g R q x (.returned (.iface 40 (.agg #[.bool x.s, .slice x.A x.n x.c, .bool x.t, .slice x.B x.m x.d]))) (w'.alloc o) := by
  have hb' : b ≤ w'.heap.size := Nat.le_trans hb k.1.size
  have B : Below w'.heap.size w' (w'.alloc o) := (Below.refl _ _).alloc (Nat.le_refl _) o
  exact ⟨rfl, h.below B, k.trans (Hc.of_below B hb')⟩
set_option maxRecDepth 100000 in
set_option maxHeartbeats 4000000 in
theorem cpop_calls {b p g q : Nat} {R : List Cls} {x : Cls} {w : World} (h : CPile b w p g (R ++ [x]) q) (hR : R.length ≤ 1000) (hb : b ≤ w.heap.size) :
    Calls Tryz.prog 136 #[.pointer (some ⟨p, 0, none⟩)] w (CPoPost b w p g R q x) := by
  obtain ⟨cap, S, h, hS⟩ := h
  have hc := h.head
  have hl : (R ++ [x]).length = R.length + 1 := by simp
  have hlast : ((R ++ [x])[R.length]'(by simp)) = x := by simp
  have c0 : w.cell? ⟨g, R.length * 4, none⟩ = some (.bool x.s) := by
    have := h.cell (i := R.length) (by simp) (j := 0) (by omega)
    rw [hlast] at this; rw [Nat.mul_comm]; exact this
  have c1 : w.cell? ⟨g, R.length * 4 + 1, none⟩ = some (.slice x.A x.n x.c) := by
    have := h.cell (i := R.length) (by simp) (j := 1) (by omega)
    rw [hlast] at this; rw [Nat.mul_comm]; exact this
  have c2 : w.cell? ⟨g, R.length * 4 + 2, none⟩ = some (.bool x.t) := by
    have := h.cell (i := R.length) (by simp) (j := 2) (by omega)
    rw [hlast] at this; rw [Nat.mul_comm]; exact this
  have c3 : w.cell? ⟨g, R.length * 4 + 3, none⟩ = some (.slice x.B x.m x.d) := by
    have := h.cell (i := R.length) (by simp) (j := 3) (by omega)
    rw [hlast] at this; rw [Nat.mul_comm]; exact this
  have f1 := h.free' 0
  rw [hl] at hc
  have hcap : R.length + 1 ≤ cap := by have := h.2.2.2.2.1; rw [hl] at this; omega
  have hgl := World.block_lt_of_cell? w _ c0
  have hpl := World.block_lt_of_cell? w _ hc
  have hq1 : ¬ (w.heap.size = p) := fun e => by simp at hpl; omega
  have hq2 : ¬ (p = w.heap.size) := fun e => by simp at hpl; omega
  have P := Lib.hid (cpop_pile h hS)
  have K := Lib.hid (cpop_hc (.slice (some ⟨g, 0, none⟩) R.length cap) ⟨_, _, _, rfl⟩ h)
  clear h hl hlast
  go_enter Tryz.func136, Tryz.ntmps136
  go_wp2
  go_ret
  exact ⟨rfl, (cpop_post (x := x) _ P.out K.out hb).2⟩
end Go.Proofs.YtbcopicoldnahaaGreat
