/-
  The heap of naturals (mul.pile): its memory, and the contracts of its methods Len, Less, Swap, Pop, Push.
-/
import Derived.Test.YthpohkklggabpaaSame
import Derived.RegionTactic
import Derived.BigRegion
import Derived.Deep.RegionHeld3
import Derived.Deep.AppendLies
import Derived.Outline
namespace Go.Proofs.Ythpohkklggabpaa
open Go.RowKit
set_option linter.unusedVariables false

/-- A slice of words, and the number that it stands for. -/
structure Ent where
  A : Option Addr
  n : Nat
  c : Nat
  v : Nat
def Ent.val (r : Ent) : Value := .slice r.A r.n r.c
def vals (R : List Ent) : List Value := R.map Ent.val
theorem vals_length (R : List Ent) : (vals R).length = R.length := by simp [vals]
theorem vals_get {R : List Ent} {i : Nat} (h : i < R.length) : (vals R)[i]? = some R[i].val := by simp [vals, h]
theorem vals_one (R : List Ent) : ∀ u ∈ vals R, u.oneCell' = true := by
  intro u hu
  simp only [vals, List.mem_map] at hu
  obtain ⟨n, _, rfl⟩ := hu
  rfl

/-- The heap at p, of the slices R. -/
def PileAt (b : Nat) (w : World) (p : Nat) (R : List Ent) (g cap : Nat) (spare : List Value) : Prop :=
  w.heap[p]? = some (.cells #[.slice (some ⟨g, 0, none⟩) R.length cap] 71 (0, 0)) ∧ b ≤ p ∧ b ≤ g ∧
    w.heap[g]? = some (.cells (vals R ++ spare).toArray 23 (0, 0)) ∧ R.length + spare.length = cap ∧ cap ≤ 9223372036854775807
def Pile (b : Nat) (w : World) (p : Nat) (R : List Ent) : Prop := ∃ g cap spare, PileAt b w p R g cap spare

/-- What the heap's steps leave: nothing below b has turned, nor a block of words. -/
def Hup (b : Nat) (w w' : World) : Prop := Below b w w' ∧ ∀ (k : Nat) (cs : Array Value) (fr : Nat × Nat), w.heap[k]? = some (.cells cs 45 fr) → w'.heap[k]? = w.heap[k]?
theorem Hup.refl (b : Nat) (w : World) : Hup b w w := ⟨Below.refl _ _, fun _ _ _ _ => rfl⟩
theorem Hup.trans {b : Nat} {w w' w'' : World} (h : Hup b w w') (k : Hup b w' w'') : Hup b w w'' := ⟨h.1.trans k.1, fun a cs fr ha => by have e := h.2 a cs fr ha; exact (k.2 a cs fr (e.trans ha)).trans e⟩
theorem Hup.of_below {b : Nat} {w w' : World} (h : Below w.heap.size w w') (hb : b ≤ w.heap.size) : Hup b w w' :=
  ⟨h.mono hb, fun a cs fr ha => h.block a (Array.getElem?_eq_some_iff.1 ha).1⟩
theorem Hup.drewN (b : Nat) (w : World) (q : Nat) : Hup b w (w.drewN q) := ⟨⟨rfl, rfl, rfl, Nat.le_refl _, fun _ _ => rfl⟩, fun _ _ _ _ => rfl⟩
/-- A slice's words lie below b, or in a block of words. -/
def Safe (b : Nat) (w : World) (A : Option Addr) (n : Nat) : Prop := ∀ ad, A = some ad → 0 < n → ad.block < b ∨ ∃ cs fr, w.heap[ad.block]? = some (.cells cs 45 fr)
theorem Hup.block {b : Nat} {w w' : World} {A : Option Addr} {n : Nat} (k : Hup b w w') (h : Safe b w A n) {ad : Addr} (ha : A = some ad) (hn : 0 < n) : w'.heap[ad.block]? = w.heap[ad.block]? := by
  rcases h ad ha hn with h | ⟨cs, fr, h⟩
  · exact k.1.block _ h
  · exact k.2 _ cs fr h
theorem Safe.hup {b : Nat} {w w' : World} {A : Option Addr} {n : Nat} (h : Safe b w A n) (k : Hup b w w') : Safe b w' A n := fun ad ha hn => by
  rcases h ad ha hn with h1 | ⟨cs, fr, h1⟩
  · exact .inl h1
  · exact .inr ⟨cs, fr, (k.2 _ cs fr h1).trans h1⟩
theorem Nv.hup {b : Nat} {w w' : World} {A : Option Addr} {n c v : Nat} (h : Nv w A n c v) (hs : Safe b w A n) (k : Hup b w w') : Nv w' A n c v := by
  obtain ⟨xs, h1, h2, h3⟩ := h
  subst h2
  refine ⟨xs, fun hn => ?_, rfl, h3⟩
  obtain ⟨ad, rfl, hb, hc⟩ := h1 hn
  exact ⟨ad, rfl, Nat.lt_of_lt_of_le hb k.1.size, fun j hj => by rw [World.cell?_of_block (w := w) (by rw [add_block]; exact k.block hs rfl hn)]; exact hc j hj⟩
theorem Hup.setCell {b : Nat} {w : World} {a : Addr} {u : Value} {cs : Array Value} {t : TypeId} {fr : Nat × Nat} (hb : b ≤ a.block) (h : w.heap[a.block]? = some (.cells cs t fr)) (ht : t ≠ 45) : Hup b w (w.setCell a u) :=
  ⟨(Below.refl _ _).setCell hb _, fun k cs' fr' hk => Below.heap_setCell _ _ _ _ fun e => by
    subst e
    rw [h] at hk
    injection hk with hk
    injection hk with _ e2
    exact ht e2⟩
def Ent.ok (b : Nat) (w : World) (r : Ent) : Prop := Nv w r.A r.n r.c r.v ∧ Safe b w r.A r.n
theorem Ent.ok.hup {b : Nat} {w w' : World} {r : Ent} (h : r.ok b w) (k : Hup b w w') : r.ok b w' := ⟨h.1.hup h.2 k, h.2.hup k⟩
def EntsOk (b : Nat) (w : World) (R : List Ent) : Prop := ∀ r, r ∈ R → r.ok b w
theorem EntsOk.hup {b : Nat} {w w' : World} {R : List Ent} (h : EntsOk b w R) (k : Hup b w w') : EntsOk b w' R := fun r hr => (h r hr).hup k

section
variable {b : Nat} {w w' : World} {p g cap : Nat} {R : List Ent} {spare : List Value}
theorem PileAt.cell (h : PileAt b w p R g cap spare) {i : Nat} (hi : i < R.length) : w.cell? ⟨g, i, none⟩ = some R[i].val := by
  rw [cell_of_row w g i _ _ (0, 0) h.2.2.2.1, List.getElem?_toArray, List.getElem?_append_left (by rw [vals_length]; exact hi), vals_get hi]
theorem PileAt.head (h : PileAt b w p R g cap spare) : w.cell? ⟨p, 0, none⟩ = some (.slice (some ⟨g, 0, none⟩) R.length cap) := by
  rw [cell_of_row w p 0 _ _ (0, 0) h.1]
  rfl
theorem PileAt.free (h : PileAt b w p R g cap spare) (i : Nat) : w.frozen? ⟨g, i, none⟩ = false := frozen_of_row w g i _ _ h.2.2.2.1
theorem PileAt.free' (h : PileAt b w p R g cap spare) (i : Nat) : w.frozen? ⟨p, i, none⟩ = false := frozen_of_row w p i _ _ h.1
theorem PileAt.ne (h : PileAt b w p R g cap spare) : g ≠ p := fun e => by
  subst e
  have := h.1.symm.trans h.2.2.2.1
  injection this with this
  injection this with _ h2
  exact absurd h2 (by decide)
theorem PileAt.below (h : PileAt b w p R g cap spare) (hb : Below w.heap.size w w') : PileAt b w' p R g cap spare :=
  ⟨(hb.block p (Array.getElem?_eq_some_iff.1 h.1).1).trans h.1, h.2.1, h.2.2.1, (hb.block g (Array.getElem?_eq_some_iff.1 h.2.2.2.1).1).trans h.2.2.2.1, h.2.2.2.2⟩
theorem Pile.below (h : Pile b w p R) (hb : Below w.heap.size w w') : Pile b w' p R := by
  obtain ⟨g, cap, spare, h⟩ := h
  exact ⟨g, cap, spare, h.below hb⟩
theorem Pile.drewN (h : Pile b w p R) (q : Nat) : Pile b (w.drewN q) p R := h
/-- One slice is put in another's place. -/
theorem PileAt.set (h : PileAt b w p R g cap spare) {i : Nat} (hi : i < R.length) (r : Ent) : PileAt b (w.setCell ⟨g, i, none⟩ r.val) p (R.set i r) g cap spare := by
  have hl : (R.set i r).length = R.length := by simp
  refine ⟨?_, h.2.1, h.2.2.1, ?_, by rw [hl]; exact h.2.2.2.2.1, h.2.2.2.2.2⟩
  · rw [hl]
    exact (Below.heap_setCell w _ _ p (fun e => h.ne e.symm)).trans h.1
  · rw [heap_setCell_same w g i _ _ _ h.2.2.2.1, List.setIfInBounds_toArray, List.set_append_left _ _ (by rw [vals_length]; exact hi)]
    simp [vals, List.map_set]
end

theorem plen_calls {b p : Nat} {R : List Ent} {w : World} (h : Pile b w p R) :
    Calls Try.prog 39 #[.pointer (some ⟨p, 0, none⟩)] w fun e w' => e = .returned (.int .i64 R.length) ∧ w = w' := by
  obtain ⟨g, cap, spare, h⟩ := h
  have hc := h.head
  go_enter Try.func39, Try.ntmps39
  go_wp2
  go_ret
  exact ⟨rfl, rfl⟩

/-- Some truth. -/
def SomeBool (w : World) (e : Ending) (w' : World) : Prop := ∃ t : Bool, e = .returned (.bool t) ∧ Sees w w'
set_option maxHeartbeats 400000 in
theorem pless_calls {b p i k : Nat} {R : List Ent} {w : World} (h : Pile b w p R) (ho : EntsOk b w R) (hi : i < R.length) (hk : k < R.length) (hR : R.length ≤ 1099511627776) :
    Calls Try.prog 75 #[.pointer (some ⟨p, 0, none⟩), .int .i64 i, .int .i64 k] w (SomeBool w) := by
  obtain ⟨g, cap, spare, h⟩ := h
  have hc := h.head
  have c1 : w.cell? ⟨g, i, none⟩ = some (.slice R[i].A R[i].n R[i].c) := h.cell hi
  have c2 : w.cell? ⟨g, k, none⟩ = some (.slice R[k].A R[k].n R[k].c) := h.cell hk
  have o1 : Nv w R[i].A R[i].n R[i].c R[i].v := (ho _ (List.getElem_mem hi)).1
  have o2 : Nv w R[k].A R[k].n R[k].c R[k].v := (ho _ (List.getElem_mem hk)).1
  generalize R[i] = r1 at *
  generalize R[k] = r2 at *
  have u1 : (0 : Int) ≤ (i : Int) := by omega
  have u2 : (i : Int) < (R.length : Int) := by omega
  have u3 : (0 : Int) ≤ (k : Int) := by omega
  have u4 : (k : Int) < (R.length : Int) := by omega
  go_enter Try.func75, Try.ntmps75
  go_wp2
  go_quiet ((go_at_call 22; exact quiet_sees (cmp_v (o1.below (below_drewN _ _)) (o2.below (below_drewN _ _)))))
  go_wp2
  go_ret
  exact ⟨_, rfl, _, rfl⟩
end Go.Proofs.Ythpohkklggabpaa
