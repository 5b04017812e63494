/-
  HeapA
-/
import Derived.Test.YtcdkdanfiimlkaaPk06
import Derived.RegionTactic
import Derived.BigRegion
import Derived.Deep.RegionHeld3
import Derived.Deep.AppendLies
import Derived.Deep.RegionLaw
import Derived.Deep.LoopGhost

/-! The heap of naturals (mul.pile): its memory, and the contracts of its methods Len, Less, Swap, Pop, Push. -/
namespace Go.Proofs.Ytcdkdanfiimlkaa
open Go.RowKit
set_option linter.unusedVariables false

/-- A slice of words, and the number that it stands for. -/
structure Ent where
  A : Option Addr
  n : Nat
  c : Nat
  v : Nat
def Ent.val (r : Ent) : Value := .slice r.A r.n r.c
def vals (R : List Ent) : List Value := R.map Ent.val
theorem vals_length (R : List Ent) : (vals R).length = R.length := by simp [vals]
theorem vals_get {R : List Ent} {i : Nat} (h : i < R.length) : (vals R)[i]? = some R[i].val := by simp [vals, h]
/-- The heap at p, of the slices R. -/
def PileAt (b : Nat) (w : World) (p : Nat) (R : List Ent) (g cap : Nat) (spare : List Value) : Prop :=
  w.heap[p]? = some (.cells #[.slice (some ⟨g, 0, none⟩) R.length cap] 140 (0, 0)) ∧ b ≤ p ∧ b ≤ g ∧
    w.heap[g]? = some (.cells (vals R ++ spare).toArray 26 (0, 0)) ∧ R.length + spare.length = cap ∧ cap ≤ 9223372036854775807
def Pile (b : Nat) (w : World) (p : Nat) (R : List Ent) : Prop := ∃ g cap spare, PileAt b w p R g cap spare

/-- What the heap's steps leave: nothing below b has turned, nor a block of words. -/
def Hup (b : Nat) (w w' : World) : Prop := Below b w w' ∧ ∀ (k : Nat) (cs : Array Value) (fr : Nat × Nat), w.heap[k]? = some (.cells cs 80 fr) → w'.heap[k]? = w.heap[k]?
theorem Hup.refl (b : Nat) (w : World) : Hup b w w := ⟨Below.refl _ _, fun _ _ _ _ => rfl⟩
theorem Hup.trans {b : Nat} {w w' w'' : World} (h : Hup b w w') (k : Hup b w' w'') : Hup b w w'' := ⟨h.1.trans k.1, fun a cs fr ha => by have e := h.2 a cs fr ha; exact (k.2 a cs fr (e.trans ha)).trans e⟩
theorem Hup.of_below {b : Nat} {w w' : World} (h : Below w.heap.size w w') (hb : b ≤ w.heap.size) : Hup b w w' :=
  ⟨h.mono hb, fun a cs fr ha => h.block a (Array.getElem?_eq_some_iff.1 ha).1⟩
theorem Hup.drewN (b : Nat) (w : World) (q : Nat) : Hup b w (w.drewN q) := ⟨⟨rfl, rfl, rfl, Nat.le_refl _, fun _ _ => rfl⟩, fun _ _ _ _ => rfl⟩
/-- A slice's words lie below b, or in a block of words. -/
def Safe (b : Nat) (w : World) (A : Option Addr) (n : Nat) : Prop := ∀ ad, A = some ad → 0 < n → ad.block < b ∨ ∃ cs fr, w.heap[ad.block]? = some (.cells cs 80 fr)
theorem Hup.block {b : Nat} {w w' : World} {A : Option Addr} {n : Nat} (k : Hup b w w') (h : Safe b w A n) {ad : Addr} (ha : A = some ad) (hn : 0 < n) : w'.heap[ad.block]? = w.heap[ad.block]? := by
  rcases h ad ha hn with h | ⟨cs, fr, h⟩
  · exact k.1.block _ h
  · exact k.2 _ cs fr h
theorem Safe.hup {b : Nat} {w w' : World} {A : Option Addr} {n : Nat} (h : Safe b w A n) (k : Hup b w w') : Safe b w' A n := fun ad ha hn => by
  rcases h ad ha hn with h1 | ⟨cs, fr, h1⟩
  · exact .inl h1
  · exact .inr ⟨cs, fr, (k.2 _ cs fr h1).trans h1⟩
theorem Nv.hup {b : Nat} {w w' : World} {A : Option Addr} {n c v : Nat} (h : Nv w A n c v) (hs : Safe b w A n) (k : Hup b w w') : Nv w' A n c v := by
  obtain ⟨xs, h1, h2, h3⟩ := h
  subst h2
  refine ⟨xs, fun hn => ?_, rfl, h3⟩
  obtain ⟨ad, rfl, hb, hc⟩ := h1 hn
  exact ⟨ad, rfl, Nat.lt_of_lt_of_le hb k.1.size, fun j hj => by rw [World.cell?_of_block (w := w) (by rw [add_block]; exact k.block hs rfl hn)]; exact hc j hj⟩
theorem Hup.setCell {b : Nat} {w : World} {a : Addr} {u : Value} {cs : Array Value} {t : TypeId} {fr : Nat × Nat} (hb : b ≤ a.block) (h : w.heap[a.block]? = some (.cells cs t fr)) (ht : t ≠ 80) : Hup b w (w.setCell a u) :=
  ⟨(Below.refl _ _).setCell hb _, fun k cs' fr' hk => Below.heap_setCell _ _ _ _ fun e => by
    subst e
    rw [h] at hk
    injection hk with hk
    injection hk with _ e2
    exact ht e2⟩
def Ent.ok (b : Nat) (w : World) (r : Ent) : Prop := Nv w r.A r.n r.c r.v ∧ Safe b w r.A r.n
theorem Ent.ok.hup {b : Nat} {w w' : World} {r : Ent} (h : r.ok b w) (k : Hup b w w') : r.ok b w' := ⟨h.1.hup h.2 k, h.2.hup k⟩
def EntsOk (b : Nat) (w : World) (R : List Ent) : Prop := ∀ r, r ∈ R → r.ok b w
theorem EntsOk.hup {b : Nat} {w w' : World} {R : List Ent} (h : EntsOk b w R) (k : Hup b w w') : EntsOk b w' R := fun r hr => (h r hr).hup k

section
variable {b : Nat} {w w' : World} {p g cap : Nat} {R : List Ent} {spare : List Value}
theorem PileAt.cell (h : PileAt b w p R g cap spare) {i : Nat} (hi : i < R.length) : w.cell? ⟨g, i, none⟩ = some R[i].val := by
  rw [cell_of_row w g i _ _ (0, 0) h.2.2.2.1, List.getElem?_toArray, List.getElem?_append_left (by rw [vals_length]; exact hi), vals_get hi]
theorem PileAt.head (h : PileAt b w p R g cap spare) : w.cell? ⟨p, 0, none⟩ = some (.slice (some ⟨g, 0, none⟩) R.length cap) := by
  rw [cell_of_row w p 0 _ _ (0, 0) h.1]
  rfl
theorem PileAt.free (h : PileAt b w p R g cap spare) (i : Nat) : w.frozen? ⟨g, i, none⟩ = false := frozen_of_row w g i _ _ h.2.2.2.1
theorem PileAt.free' (h : PileAt b w p R g cap spare) (i : Nat) : w.frozen? ⟨p, i, none⟩ = false := frozen_of_row w p i _ _ h.1
theorem PileAt.ne (h : PileAt b w p R g cap spare) : g ≠ p := fun e => by
  subst e
  have := h.1.symm.trans h.2.2.2.1
  injection this with this
  injection this with _ h2
  exact absurd h2 (by decide)
theorem PileAt.below (h : PileAt b w p R g cap spare) (hb : Below w.heap.size w w') : PileAt b w' p R g cap spare :=
  ⟨(hb.block p (Array.getElem?_eq_some_iff.1 h.1).1).trans h.1, h.2.1, h.2.2.1, (hb.block g (Array.getElem?_eq_some_iff.1 h.2.2.2.1).1).trans h.2.2.2.1, h.2.2.2.2⟩
theorem Pile.below (h : Pile b w p R) (hb : Below w.heap.size w w') : Pile b w' p R := by
  obtain ⟨g, cap, spare, h⟩ := h
  exact ⟨g, cap, spare, h.below hb⟩
theorem Pile.drewN (h : Pile b w p R) (q : Nat) : Pile b (w.drewN q) p R := h
/-- One slice is put in another's place. -/
theorem PileAt.set (h : PileAt b w p R g cap spare) {i : Nat} (hi : i < R.length) (r : Ent) : PileAt b (w.setCell ⟨g, i, none⟩ r.val) p (R.set i r) g cap spare := by
  have hl : (R.set i r).length = R.length := by simp
  refine ⟨?_, h.2.1, h.2.2.1, ?_, by rw [hl]; exact h.2.2.2.2.1, h.2.2.2.2.2⟩
  · rw [hl]
    exact (Below.heap_setCell w _ _ p (fun e => h.ne e.symm)).trans h.1
  · rw [heap_setCell_same w g i _ _ _ h.2.2.2.1, List.setIfInBounds_toArray, List.set_append_left _ _ (by rw [vals_length]; exact hi)]
    simp [vals, List.map_set]
end

theorem plen_calls {b p : Nat} {R : List Ent} {w : World} (h : Pile b w p R) :
    Calls Try.prog 126 #[.pointer (some ⟨p, 0, none⟩)] w fun e w' => e = .returned (.int .i64 R.length) ∧ w = w' := by
  obtain ⟨g, cap, spare, h⟩ := h
  have hc := h.head
  go_enter Try.func126, Try.ntmps126
  go_wp2
  go_ret
  exact ⟨rfl, rfl⟩

/-- Some truth. -/
def SomeBool (w : World) (e : Ending) (w' : World) : Prop := ∃ t : Bool, e = .returned (.bool t) ∧ Sees w w'
set_option maxHeartbeats 400000 in
theorem pless_calls {b p i k : Nat} {R : List Ent} {w : World} (h : Pile b w p R) (ho : EntsOk b w R) (hi : i < R.length) (hk : k < R.length) (hR : R.length ≤ 1099511627776) :
    Calls Try.prog 177 #[.pointer (some ⟨p, 0, none⟩), .int .i64 i, .int .i64 k] w (SomeBool w) := by
  obtain ⟨g, cap, spare, h⟩ := h
  have hc := h.head
  have c1 : w.cell? ⟨g, i, none⟩ = some (.slice R[i].A R[i].n R[i].c) := h.cell hi
  have c2 : w.cell? ⟨g, k, none⟩ = some (.slice R[k].A R[k].n R[k].c) := h.cell hk
  have o1 : Nv w R[i].A R[i].n R[i].c R[i].v := (ho _ (List.getElem_mem hi)).1
  have o2 : Nv w R[k].A R[k].n R[k].c R[k].v := (ho _ (List.getElem_mem hk)).1
  generalize R[i] = r1 at *
  generalize R[k] = r2 at *
  have u1 : (0 : Int) ≤ (i : Int) := by omega
  have u2 : (i : Int) < (R.length : Int) := by omega
  have u3 : (0 : Int) ≤ (k : Int) := by omega
  have u4 : (k : Int) < (R.length : Int) := by omega
  go_enter Try.func177, Try.ntmps177
  go_wp2
  go_quiet ((go_at_call 98; exact quiet_sees (cmp_v (o1.below (below_drewN _ _)) (o2.below (below_drewN _ _)))))
  go_wp2
  go_ret
  exact ⟨_, rfl, _, rfl⟩
end Go.Proofs.Ytcdkdanfiimlkaa

/-! The heap of naturals: contracts of Swap, Pop, Push. -/
namespace Go.Proofs.Ytcdkdanfiimlkaa
open Go.RowKit
set_option linter.unusedVariables false

/-- Two change places. -/
def swp (R : List Ent) (i k : Nat) (hi : i < R.length) (hk : k < R.length) : List Ent := (R.set i R[k]).set k R[i]
def SwPost (b : Nat) (w : World) (p : Nat) (R : List Ent) (e : Ending) (w' : World) : Prop :=
  e = .returned (.tuple #[]) ∧ Pile b w' p R ∧ Hup b w w'
theorem sw_end {b p g cap i k : Nat} {R : List Ent} {spare : List Value} {w : World} (h : PileAt b w p R g cap spare) (hi : i < R.length) (hk : k < R.length) :
    Pile b ((w.setCell ⟨g, i, none⟩ R[k].val).setCell ⟨g, k, none⟩ R[i].val) p (swp R i k hi hk) ∧ Hup b w ((w.setCell ⟨g, i, none⟩ R[k].val).setCell ⟨g, k, none⟩ R[i].val) := by
  have h1 := h.set hi R[k]
  have h2 := h1.set (i := k) (by simpa using hk) R[i]
  exact ⟨⟨g, cap, spare, h2⟩, (Hup.setCell h.2.2.1 h.2.2.2.1 (by decide)).trans (Hup.setCell h.2.2.1 h1.2.2.2.1 (by decide))⟩

set_option maxHeartbeats 800000 in
theorem pswap_calls {b p i k : Nat} {R : List Ent} {w : World} (h : Pile b w p R) (hi : i < R.length) (hk : k < R.length) (hR : R.length ≤ 1099511627776) :
    Calls Try.prog 180 #[.pointer (some ⟨p, 0, none⟩), .int .i64 i, .int .i64 k] w (SwPost b w p (swp R i k hi hk)) := by
  obtain ⟨g, cap, spare, h⟩ := h
  have hc := h.head
  have c1 : w.cell? ⟨g, i, none⟩ = some (.slice R[i].A R[i].n R[i].c) := h.cell hi
  have c2 : w.cell? ⟨g, k, none⟩ = some (.slice R[k].A R[k].n R[k].c) := h.cell hk
  have f1 := h.free i
  have f2 := h.free k
  have u1 : (0 : Int) ≤ (i : Int) := by omega
  have u2 : (i : Int) < (R.length : Int) := by omega
  have u3 : (0 : Int) ≤ (k : Int) := by omega
  have u4 : (k : Int) < (R.length : Int) := by omega
  go_enter Try.func180, Try.ntmps180
  go_wp2
  have hne1 : ¬ p = g := fun e => h.ne e.symm
  have hne2 := h.ne
  obtain ⟨v3, c3⟩ : ∃ v3, (w.setCell ⟨g, i, none⟩ (.slice R[k].A R[k].n R[k].c)).cell? ⟨g, k, none⟩ = some v3 := ⟨_, (h.set hi R[k]).cell (i := k) (by simpa using hk)⟩
  have E := Lib.hid (sw_end h hi hk)
  clear h
  go_region
  go_end0
  exact ⟨rfl, E.out.1, E.out.2.trans (Hup.drewN _ _ 1)⟩

/-- The last one, taken out. -/
def PoPost (b : Nat) (w : World) (p : Nat) (R : List Ent) (r : Ent) (e : Ending) (w' : World) : Prop :=
  e = .returned (.iface 26 r.val) ∧ Pile b w' p R ∧ Hup b w w'
set_option maxHeartbeats 400000 in
theorem ppop_calls {b p : Nat} {R : List Ent} {r : Ent} {w : World} (h : Pile b w p (R ++ [r])) (hR : R.length ≤ 1099511627776) :
    Calls Try.prog 178 #[.pointer (some ⟨p, 0, none⟩)] w (PoPost b w p R r) := by
  obtain ⟨g, cap, spare, h⟩ := h
  have hc := h.head
  have c1 := h.cell (i := R.length) (by simp)
  have f1 := h.free' 0
  have hl : (R ++ [r]).length = R.length + 1 := by simp
  have hlast : ((R ++ [r])[R.length]'(by simp)) = r := by simp
  rw [hlast] at c1
  rw [hl] at hc
  have c2 : w.cell? ⟨g, R.length, none⟩ = some (.slice r.A r.n r.c) := c1
  have hcap : R.length + 1 ≤ cap := by have := h.2.2.2.2.1; omega
  have P : Hid (Pile b (w.setCell ⟨p, 0, none⟩ (.slice (some ⟨g, 0, none⟩) R.length cap)) p R ∧ Hup b w (w.setCell ⟨p, 0, none⟩ (.slice (some ⟨g, 0, none⟩) R.length cap))) := by
    refine ⟨⟨g, cap, r.val :: spare, ?_, h.2.1, h.2.2.1, ?_, by have := h.2.2.2.2.1; simp at this ⊢; omega, h.2.2.2.2.2⟩, Hup.setCell h.2.1 h.1 (by decide)⟩
    · rw [heap_setCell_same w p 0 _ _ _ h.1]
      rfl
    · rw [Below.heap_setCell w _ _ g h.ne, h.2.2.2.1]
      simp [vals]
  clear h hl hlast c1
  go_enter Try.func178, Try.ntmps178
  go_wp2
  go_ret
  exact ⟨rfl, P.out⟩
end Go.Proofs.Ytcdkdanfiimlkaa

/-! The heap of naturals: contract of Push. -/
namespace Go.Proofs.Ytcdkdanfiimlkaa
open Go.RowKit
set_option linter.unusedVariables false

theorem info_nat' : (Try.prog.info? 26).map (fun i => (i.zero, i.size, i.bytes)) = some (some (.slice none 0 0), 1, 24) := by kernel_rfl
theorem PileAt.owns {b : Nat} {w : World} {p g cap : Nat} {R : List Ent} {spare : List Value} (h : PileAt b w p R g cap spare) (hc : cap ≤ maxLen) : w.ownsRow b 26 1 (.slice (some ⟨g, 0, none⟩) R.length cap) R.length (vals R) :=
  ⟨by simp [vals_length], .inr ⟨g, cap, _, rfl, h.2.2.1, h.2.2.2.1, by have := h.2.2.2.2.1; omega, hc, by simp [vals_length]; exact h.2.2.2.2.1, by simp [vals_length]⟩⟩
/-- What a row of its own leaves, behind the store of its header. -/
theorem pile_of_own {b p g cap : Nat} {w : World} {R : List Ent} {hd : Value} (hb : b ≤ p) (ho : w.ownsRow b 26 1 (.slice (some ⟨g, 0, none⟩) R.length cap) R.length (vals R)) (hR : 0 < R.length)
    (hp : w.heap[p]? = some (.cells #[hd] 140 (0, 0))) : Pile b (w.setCell ⟨p, 0, none⟩ (.slice (some ⟨g, 0, none⟩) R.length cap)) p R := by
  rcases ho.2 with ⟨_, h0⟩ | ⟨g', cap', cur, hv, hg, hh, hn, hm, hs, ht⟩
  · omega
  · injection hv with e1 e2 e3
    injection e1 with e1
    injection e1 with e1
    subst e1 e3
    have hne : g ≠ p := fun e => by
      subst e
      rw [hp] at hh
      injection hh with hh
      injection hh with _ h2
      exact absurd h2 (by decide)
    rw [Nat.mul_one] at ht hs
    refine ⟨g, cap, cur.toList.drop R.length, ?_, hb, hg, ?_, by simp; omega, by unfold maxLen at hm; omega⟩
    · rw [heap_setCell_same w p 0 _ _ _ hp]
      rfl
    · rw [Below.heap_setCell w _ _ g hne, hh, ← ht, List.take_append_drop]

theorem assert_nat (A : Option Addr) (n c : Nat) (w : World) : (Instr.typeAssert (.iface 26 (.slice A n c)) 20 26 false).run Try.prog w = .ok (.slice A n c) w := by kernel_rfl
theorem push_keep {b p g cap : Nat} {w X w1 : World} {R : List Ent} {spare : List Value} {o : Obj} (h : PileAt b w p R g cap spare) (hg : X.grownBy w1 (some g)) (hX : X.heap = (w.alloc o).heap) :
    w1.heap[p]? = some (.cells #[.slice (some ⟨g, 0, none⟩) R.length cap] 140 (0, 0)) := by
  have hl := (Array.getElem?_eq_some_iff.1 h.1).1
  rw [hg.block p (by rw [hX]; simp; omega) (fun e => h.ne (Option.some.inj e).symm), hX, Below.heap_alloc w o p hl]
  exact h.1
theorem push_cell {b p g cap : Nat} {w X w1 : World} {R : List Ent} {spare : List Value} {o : Obj} (h : PileAt b w p R g cap spare) (hg : X.grownBy w1 (some g)) (hX : X.heap = (w.alloc o).heap) :
    w1.cell? ⟨p, 0, none⟩ = some (.slice (some ⟨g, 0, none⟩) R.length cap) := by
  rw [cell_of_row w1 p 0 _ _ (0, 0) (push_keep h hg hX)]
  rfl
theorem push_free {b p g cap : Nat} {w X w1 : World} {R : List Ent} {spare : List Value} {o : Obj} (h : PileAt b w p R g cap spare) (hg : X.grownBy w1 (some g)) (hX : X.heap = (w.alloc o).heap) :
    w1.frozen? ⟨p, 0, none⟩ = false := frozen_of_row w1 p 0 _ _ (push_keep h hg hX)
theorem push_alloc {b p g cap : Nat} {w : World} {R : List Ent} {spare : List Value} (o : Obj) (h : PileAt b w p R g cap spare) :
    (w.alloc o).cell? ⟨p, 0, none⟩ = some (.slice (some ⟨g, 0, none⟩) R.length cap) ∧ (w.alloc o).frozen? ⟨p, 0, none⟩ = false := by
  have h1 := h.below ((Below.refl _ _).alloc (Nat.le_refl _) o)
  exact ⟨h1.head, h1.free' 0⟩
theorem push_hup {b p g cap : Nat} {w X w1 : World} {R : List Ent} {spare : List Value} {o : Obj} (h : PileAt b w p R g cap spare) (hb : b ≤ w.heap.size) (hg : X.grownBy w1 (some g)) (hX : X.heap = (w.alloc o).heap)
    (h1 : X.os = w.os) (h2 : X.tape = w.tape) (h3 : X.output = w.output) : Hup b w w1 := by
  have hB : Below b w X := ⟨h1, h2, h3, by rw [hX]; simp, fun k hk => by rw [hX]; exact Below.heap_alloc w o k (by omega)⟩
  refine ⟨hB.grown hg (by rw [hX]; simp; omega) (fun k hk => by have := Option.some.inj hk; have := h.2.2.1; omega), fun k cs fr hk => ?_⟩
  have hl := (Array.getElem?_eq_some_iff.1 hk).1
  rw [hg.block k (by rw [hX]; simp; omega) (fun e => ?_), hX, Below.heap_alloc w o k hl]
  have := Option.some.inj e
  subst this
  rw [h.2.2.2.1] at hk
  injection hk with hk
  injection hk with _ e2
  exact absurd e2 (by decide)
def PuPost (b : Nat) (w : World) (p : Nat) (R : List Ent) (r : Ent) (e : Ending) (w' : World) : Prop :=
  e = .returned (.tuple #[]) ∧ Pile b w' p (R ++ [r]) ∧ Hup b w w'
theorem push_end {b p g g' cap cap' : Nat} {w X w1 : World} {R : List Ent} {r : Ent} {spare : List Value} {o : Obj} (h : PileAt b w p R g cap spare) (hb : b ≤ w.heap.size) (hg : X.grownBy w1 (some g)) (hX : X.heap = (w.alloc o).heap)
    (h1 : X.os = w.os) (h2 : X.tape = w.tape) (h3 : X.output = w.output) (ho : w1.ownsRow b 26 1 (.slice (some ⟨g', 0, none⟩) (R.length + 1) cap') (R.length + 1) (vals R ++ [.slice r.A r.n r.c])) :
    PuPost b w p R r (.returned (.tuple #[])) (w1.setCell ⟨p, 0, none⟩ (.slice (some ⟨g', 0, none⟩) (R.length + 1) cap')) := by
  have hl : (R ++ [r]).length = R.length + 1 := by simp
  have hv : vals (R ++ [r]) = vals R ++ [.slice r.A r.n r.c] := by simp [vals, Ent.val]
  have hk := push_keep h hg hX
  have hp := pile_of_own (R := R ++ [r]) h.2.1 (by rw [hl, hv]; exact ho) (by omega) hk
  rw [hl] at hp
  exact ⟨rfl, hp, (push_hup h hb hg hX h1 h2 h3).trans (Hup.setCell h.2.1 hk (by decide))⟩
set_option maxHeartbeats 800000 in
theorem ppush_calls {b p : Nat} {R : List Ent} {r : Ent} {w : World} (h : Pile b w p R) (hR : R.length ≤ 1099511627776) (hbw : b ≤ w.heap.size) :
    Calls Try.prog 179 #[.pointer (some ⟨p, 0, none⟩), .iface 26 (.slice r.A r.n r.c)] w (PuPost b w p R r) := by
  obtain ⟨g, cap, spare, h⟩ := h
  have hc := h.head
  have f1 := h.free' 0
  have hne := h.ne
  have ho := h.owns (by have := h.2.2.2.2.2; unfold maxLen; omega)
  obtain ⟨i0, hi, hz0, hz1, hz2⟩ := info_parts info_nat'
  have hnew := World.new_ne w _ hc
  have hta := assert_nat r.A r.n r.c
  have ca := (push_alloc (.cells #[.slice r.A r.n r.c] 26) h).1
  go_enter Try.func179, Try.ntmps179
  go_wp2
  go_region_law ((refine step_append_lies _ (by rfl) _ _ _ (by rfl) b 26 i0 (.slice none 0 0) 1 24 Try.underlying102 hi hz0 hz1 hz2 rfl (by decide) _ R.length (vals R) (by rfl) (ho.alloc _) ⟨w.heap.size, 0, none⟩ 1 1 [.slice r.A r.n r.c] (by rfl) rfl (World.news_of_block (heap_alloc_new w _)) (by intro u hu; simp at hu; subst hu; rfl) (by omega) (by unfold maxLen; omega) (by omega) (by simp; omega) (w.heap.size + 1) (by simp) ?_; intro g' cap' w1 hown hgrow hat hlt; have c9 := push_cell h hgrow rfl; have f9 := push_free h hgrow rfl))
  all_goals
    go_end0
    exact push_end h hbw hgrow rfl rfl rfl rfl hown
end Go.Proofs.Ytcdkdanfiimlkaa

/-! container/heap over the heap of naturals: down, up, Init, Pop, Push. -/
namespace Go.Proofs.Ytcdkdanfiimlkaa
open Go.RowKit
set_option linter.unusedVariables false

theorem meth_len (p : Nat) (w : World) : (method 285 123 (.pointer (some ⟨p, 0, none⟩)) "Len").run Try.prog w = .ok (126, .pointer (some ⟨p, 0, none⟩)) w := by kernel_rfl
theorem meth_less (p : Nat) (w : World) : (method 285 123 (.pointer (some ⟨p, 0, none⟩)) "Less").run Try.prog w = .ok (177, .pointer (some ⟨p, 0, none⟩)) w := by kernel_rfl
theorem meth_swap (p : Nat) (w : World) : (method 285 123 (.pointer (some ⟨p, 0, none⟩)) "Swap").run Try.prog w = .ok (180, .pointer (some ⟨p, 0, none⟩)) w := by kernel_rfl
theorem meth_pop (p : Nat) (w : World) : (method 285 123 (.pointer (some ⟨p, 0, none⟩)) "Pop").run Try.prog w = .ok (178, .pointer (some ⟨p, 0, none⟩)) w := by kernel_rfl
theorem meth_push (p : Nat) (w : World) : (method 285 123 (.pointer (some ⟨p, 0, none⟩)) "Push").run Try.prog w = .ok (179, .pointer (some ⟨p, 0, none⟩)) w := by kernel_rfl

/-- What is left in some order. -/
def PermRel (b : Nat) (w : World) (p : Nat) (R : List Ent) (w' : World) : Prop :=
  ∃ R' : List Ent, R'.Perm R ∧ Pile b w' p R' ∧ Hup b w w'
def PermPost (b : Nat) (w : World) (p : Nat) (R : List Ent) (e : Ending) (w' : World) : Prop := (∃ t : Bool, e = .returned (.bool t)) ∧ PermRel b w p R w'
theorem swp_perm (R : List Ent) (i k : Nat) (hi : i < R.length) (hk : k < R.length) : (swp R i k hi hk).Perm R := by
  unfold swp
  exact List.set_set_perm hi hk
theorem PermRel.refl {b p : Nat} {R : List Ent} {w : World} (h : Pile b w p R) : PermRel b w p R w := ⟨R, List.Perm.refl _, h, Hup.refl _ _⟩
theorem PermRel.trans {b p : Nat} {R R1 : List Ent} {w w1 w2 : World} (h1 : R1.Perm R) (k1 : Hup b w w1) (h2 : PermRel b w1 p R1 w2) : PermRel b w p R w2 := by
  obtain ⟨R2, a, c, d⟩ := h2
  exact ⟨R2, a.trans h1, c, k1.trans d⟩
theorem EntsOk.perm {b : Nat} {w : World} {R R' : List Ent} (h : EntsOk b w R) (k : R'.Perm R) : EntsOk b w R' := fun r hr => h r (k.subset hr)

theorem Sees.hup {b : Nat} {w w' : World} (h : Sees w w') : Hup b w w' := by
  obtain ⟨q, rfl⟩ := h
  exact Hup.drewN _ _ _
theorem Sees.pile {b p : Nat} {R : List Ent} {w w' : World} (h : Sees w w') (k : Pile b w p R) : Pile b w' p R := by
  obtain ⟨q, rfl⟩ := h
  exact k
set_option maxHeartbeats 800000 in
theorem hdown_calls {b p i n : Nat} {R : List Ent} {w : World} (h : Pile b w p R) (ho : EntsOk b w R) (hi : i ≤ R.length) (hn : n ≤ R.length) (hR : R.length ≤ 1099511627776) :
    Calls Try.prog 149 #[.iface 123 (.pointer (some ⟨p, 0, none⟩)), .int .i64 i, .int .i64 n] w (PermPost b w p R) := by
  have ml := meth_less p
  have ms := meth_swap p
  go_enter Try.func149, Try.ntmps149
  go_wp2
  go_loopw [7] (fun v wr => ∃ j : Nat, j ≤ R.length ∧ v = .int .i64 j ∧ PermRel b w p R wr) (fun v _ => R.length - (intOf v).toNat)
  case atStart => exact ⟨i, hi, rfl, PermRel.refl h⟩
  case round =>
    obtain ⟨j, hj, rfl, R1, hp1, h1, k1⟩ := hrel
    have hl1 : R1.length = R.length := hp1.length_eq
    have ho1 := (ho.perm hp1).hup k1
    have HL := Lib.hid hl1
    clear hl1
    obtain ⟨J1, hJ1⟩ : ∃ J : Nat, (2 : Int) * (j : Int) + 1 = (J : Int) := ⟨2 * j + 1, by omega⟩
    obtain ⟨J2, hJ2⟩ : ∃ J : Nat, (J1 : Int) + 1 = (J : Int) := ⟨J1 + 1, by omega⟩
    have n1 : j < J1 := by omega
    have n2 : J1 < J2 := by omega
    have n3 : J2 ≤ 4398046511104 := by omega
    by_cases hge : J1 < n
    · by_cases h2 : J2 < n
      · go_wp2_with fail
        refine (pless_calls h1 ho1 (i := J2) (k := J1) (by rw [HL.out]; omega) (by rw [HL.out]; omega) (by rw [HL.out]; omega)).mono ?_
        rintro e w2 ⟨t, rfl, s2⟩
        cases t
        · have h2' := (s2).pile h1
          have ho2 := ho1.hup (s2).hup
          have k2 := k1.trans ((s2).hup (b := b))
          have g1 : J1 < n := by omega
          have g2 : j < J1 := by omega
          clear h1 ho1 k1
          go_wp2_with fail
          refine (pless_calls h2' ho2 (i := J1) (k := j) (by rw [HL.out]; omega) (by rw [HL.out]; omega) (by rw [HL.out]; omega)).mono ?_
          rintro e w3 ⟨t, rfl, s3⟩
          have h3 := s3.pile h2'
          have ho3 := ho2.hup s3.hup
          have k3 := k2.trans (s3.hup (b := b))
          clear h2' ho2 k2 s3
          cases t
          · go_wp2
            go_ret
            exact ⟨⟨_, rfl⟩, R1, hp1, h3, k3⟩
          · go_wp2_with fail
            refine (pswap_calls h3 (i := j) (k := J1) (by rw [HL.out]; omega) (by rw [HL.out]; omega) (by rw [HL.out]; omega)).mono ?_
            rintro e w4 ⟨rfl, h4, k4⟩
            have hr : Hid (PermRel b w p R w4) := ⟨_, (swp_perm _ _ _ _ _).trans hp1, h4, k3.trans k4⟩
            clear h4 k4
            go_wp2
            go_roundw
            case rel => exact ⟨J1, by omega, rfl, hr.out⟩
            case measure => simp [intOf]; omega
        · have h2' := (s2).pile h1
          have ho2 := ho1.hup (s2).hup
          have k2 := k1.trans ((s2).hup (b := b))
          have g1 : J2 < n := by omega
          have g2 : j < J2 := by omega
          clear h1 ho1 k1
          go_wp2_with fail
          refine (pless_calls h2' ho2 (i := J2) (k := j) (by rw [HL.out]; omega) (by rw [HL.out]; omega) (by rw [HL.out]; omega)).mono ?_
          rintro e w3 ⟨t, rfl, s3⟩
          have h3 := s3.pile h2'
          have ho3 := ho2.hup s3.hup
          have k3 := k2.trans (s3.hup (b := b))
          clear h2' ho2 k2 s3
          cases t
          · go_wp2
            go_ret
            exact ⟨⟨_, rfl⟩, R1, hp1, h3, k3⟩
          · go_wp2_with fail
            refine (pswap_calls h3 (i := j) (k := J2) (by rw [HL.out]; omega) (by rw [HL.out]; omega) (by rw [HL.out]; omega)).mono ?_
            rintro e w4 ⟨rfl, h4, k4⟩
            have hr : Hid (PermRel b w p R w4) := ⟨_, (swp_perm _ _ _ _ _).trans hp1, h4, k3.trans k4⟩
            clear h4 k4
            go_wp2
            go_roundw
            case rel => exact ⟨J2, by omega, rfl, hr.out⟩
            case measure => simp [intOf]; omega
      · have h2' := (Sees.refl wr).pile h1
        have ho2 := ho1.hup (Sees.refl wr).hup
        have k2 := k1.trans ((Sees.refl wr).hup (b := b))
        have g1 : J1 < n := by omega
        have g2 : j < J1 := by omega
        clear h1 ho1 k1
        go_wp2_with fail
        refine (pless_calls h2' ho2 (i := J1) (k := j) (by rw [HL.out]; omega) (by rw [HL.out]; omega) (by rw [HL.out]; omega)).mono ?_
        rintro e w3 ⟨t, rfl, s3⟩
        have h3 := s3.pile h2'
        have ho3 := ho2.hup s3.hup
        have k3 := k2.trans (s3.hup (b := b))
        clear h2' ho2 k2 s3
        cases t
        · go_wp2
          go_ret
          exact ⟨⟨_, rfl⟩, R1, hp1, h3, k3⟩
        · go_wp2_with fail
          refine (pswap_calls h3 (i := j) (k := J1) (by rw [HL.out]; omega) (by rw [HL.out]; omega) (by rw [HL.out]; omega)).mono ?_
          rintro e w4 ⟨rfl, h4, k4⟩
          have hr : Hid (PermRel b w p R w4) := ⟨_, (swp_perm _ _ _ _ _).trans hp1, h4, k3.trans k4⟩
          clear h4 k4
          go_wp2
          go_roundw
          case rel => exact ⟨J1, by omega, rfl, hr.out⟩
          case measure => simp [intOf]; omega
    · go_wp2
      go_ret
      exact ⟨⟨_, rfl⟩, R1, hp1, h1, k1⟩
end Go.Proofs.Ytcdkdanfiimlkaa

/-! container/heap over the heap of naturals: up, Init, Pop, Push; mul.pile's take and put. -/
namespace Go.Proofs.Ytcdkdanfiimlkaa
open Go.RowKit
set_option linter.unusedVariables false

/-- What is left in some order; nothing is answered. -/
def PermPost0 (b : Nat) (w : World) (p : Nat) (R : List Ent) (e : Ending) (w' : World) : Prop := e = .returned (.tuple #[]) ∧ PermRel b w p R w'
set_option maxHeartbeats 800000 in
theorem hup_calls {b p i : Nat} {R : List Ent} {w : World} (h : Pile b w p R) (ho : EntsOk b w R) (hi : i < R.length) (hR : R.length ≤ 1099511627776) :
    Calls Try.prog 150 #[.iface 123 (.pointer (some ⟨p, 0, none⟩)), .int .i64 i] w (PermPost0 b w p R) := by
  have ml := meth_less p
  have ms := meth_swap p
  go_enter Try.func150, Try.ntmps150
  go_wp2
  go_loopw [1] (fun v wr => ∃ j : Nat, j < R.length ∧ v = .int .i64 j ∧ PermRel b w p R wr) (fun v _ => (intOf v).toNat)
  case atStart => exact ⟨i, hi, rfl, PermRel.refl h⟩
  case round =>
    obtain ⟨j, hj, rfl, R1, hp1, h1, k1⟩ := hrel
    have hl1 : R1.length = R.length := hp1.length_eq
    have ho1 := (ho.perm hp1).hup k1
    have HL := Lib.hid hl1
    clear hl1
    rcases Nat.eq_zero_or_pos j with rfl | hpos
    · go_wp2
      go_end0
      exact ⟨rfl, R1, hp1, h1, k1⟩
    · obtain ⟨I, hI⟩ : ∃ I : Nat, ((j : Int) - 1) / 2 = (I : Int) := ⟨(j - 1) / 2, by omega⟩
      have n1 : I < j := by omega
      have hne : (((I : Nat) : Int) == (j : Int)) = false := by rw [beq_eq_false_iff_ne]; omega
      go_wp2_with fail
      refine (pless_calls h1 ho1 (i := j) (k := I) (by rw [HL.out]; omega) (by rw [HL.out]; omega) (by rw [HL.out]; omega)).mono ?_
      rintro e w3 ⟨t, rfl, s3⟩
      have h3 := s3.pile h1
      have k3 := k1.trans (s3.hup (b := b))
      clear h1 ho1 k1 s3
      cases t
      · go_wp2
        go_end0
        exact ⟨rfl, R1, hp1, h3, k3⟩
      · go_wp2_with fail
        refine (pswap_calls h3 (i := I) (k := j) (by rw [HL.out]; omega) (by rw [HL.out]; omega) (by rw [HL.out]; omega)).mono ?_
        rintro e w4 ⟨rfl, h4, k4⟩
        have hr : Hid (PermRel b w p R w4) := ⟨_, (swp_perm _ _ _ _ _).trans hp1, h4, k3.trans k4⟩
        clear h4 k4
        go_wp2
        go_roundw
        case rel => exact ⟨I, by omega, rfl, hr.out⟩
        case measure => simp [intOf]; omega

set_option maxHeartbeats 400000 in
theorem hinit_calls {b p : Nat} {R : List Ent} {w : World} (h : Pile b w p R) (ho : EntsOk b w R) (hR : R.length ≤ 1099511627776) :
    Calls Try.prog 139 #[.iface 123 (.pointer (some ⟨p, 0, none⟩))] w (PermPost0 b w p R) := by
  have ml := meth_len p
  obtain ⟨m, hm⟩ : ∃ m : Nat, (R.length : Int) / 2 = (m : Int) := ⟨R.length / 2, by omega⟩
  have hm2 : m ≤ R.length := by omega
  go_enter Try.func139, Try.ntmps139
  go_wp2_with fail
  refine (plen_calls h).mono ?_
  rintro e w1 ⟨rfl, rfl⟩
  go_wp2
  go_loopw [3] (fun v wr => ∃ j : Nat, j ≤ m ∧ v = .int .i64 ((j : Int) - 1) ∧ PermRel b w p R wr) (fun v _ => (intOf v + 1).toNat)
  case atStart => exact ⟨m, Nat.le_refl _, rfl, PermRel.refl h⟩
  case round =>
    obtain ⟨j, hj, rfl, R1, hp1, h1, k1⟩ := hrel
    have hl1 : R1.length = R.length := hp1.length_eq
    have ho1 := (ho.perm hp1).hup k1
    have HL := Lib.hid hl1
    clear hl1
    rcases Nat.eq_zero_or_pos j with rfl | hpos
    · go_wp2
      go_end0
      exact ⟨rfl, R1, hp1, h1, k1⟩
    · obtain ⟨j, rfl⟩ : ∃ i, j = i + 1 := ⟨j - 1, by omega⟩
      have hj1 : (((j + 1 : Nat) : Int) - 1) = (j : Int) := by omega
      go_wp2_with fail
      refine (hdown_calls h1 ho1 (i := j) (n := R.length) (by rw [HL.out]; omega) (by rw [HL.out]; omega) (by rw [HL.out]; omega)).mono ?_
      rintro e w3 ⟨⟨t, rfl⟩, hr⟩
      have hr2 := Lib.hid (PermRel.trans hp1 k1 hr)
      clear hr h1 k1 ho1
      go_wp2
      go_roundw
      case rel => exact ⟨j, by omega, rfl, hr2.out⟩
      case measure => simp [intOf] <;> omega

/-- One is taken out. -/
def TakePost (b : Nat) (w : World) (p : Nat) (R : List Ent) (f : Value → Value) (e : Ending) (w' : World) : Prop :=
  ∃ (r : Ent) (R' : List Ent), e = .returned (f (.slice r.A r.n r.c)) ∧ (r :: R').Perm R ∧ Pile b w' p R' ∧ Hup b w w'
set_option maxHeartbeats 400000 in
theorem hpop_calls {b p : Nat} {R : List Ent} {w : World} (h : Pile b w p R) (ho : EntsOk b w R) (hR : R.length ≤ 1099511627776) (hpos : 0 < R.length) :
    Calls Try.prog 140 #[.iface 123 (.pointer (some ⟨p, 0, none⟩))] w (TakePost b w p R (.iface 26)) := by
  have ml := meth_len p
  have ms := meth_swap p
  have mp := meth_pop p
  obtain ⟨m, hm⟩ : ∃ m : Nat, (R.length : Int) - 1 = (m : Int) := ⟨R.length - 1, by omega⟩
  have hm2 : m < R.length := by omega
  go_enter Try.func140, Try.ntmps140
  go_wp2_with fail
  refine (plen_calls h).mono ?_
  rintro e w1 ⟨rfl, rfl⟩
  go_wp2_with fail
  refine (pswap_calls h (i := 0) (k := m) (by omega) (by omega) (by omega)).mono ?_
  rintro e w2 ⟨rfl, h2, k2⟩
  have hp2 := swp_perm R 0 m hpos hm2
  have hl2 : (swp R 0 m hpos hm2).length = R.length := hp2.length_eq
  generalize swp R 0 m hpos hm2 = R2 at *
  have ho2 := (ho.perm hp2).hup k2
  have HL := Lib.hid hl2
  clear hl2
  go_wp2_with fail
  refine (hdown_calls h2 ho2 (i := 0) (n := m) (by omega) (by rw [HL.out]; omega) (by rw [HL.out]; omega)).mono ?_
  rintro e w3 ⟨⟨t, rfl⟩, R3, hp3, h3, k3⟩
  have hl3 : R3.length = R.length := hp3.length_eq.trans HL.out
  have hne : R3 ≠ [] := fun e => by rw [e] at hl3; simp at hl3; omega
  have hsp := (List.dropLast_concat_getLast hne).symm
  have hd : R3.dropLast.length = m := by simp; omega
  generalize R3.getLast hne = r at hsp
  generalize R3.dropLast = R4 at hsp hd
  subst hsp
  have HD := Lib.hid hd
  clear hd hl3 hne
  go_wp2_with fail
  refine (ppop_calls h3 (by rw [HD.out]; omega)).mono ?_
  rintro e w4 ⟨rfl, h4, k4⟩
  have P : Hid (TakePost b w p R (.iface 26) (.returned (.iface 26 r.val)) w4) :=
    ⟨r, R4, rfl, (List.perm_append_singleton r R4).symm.trans (hp3.trans hp2), h4, k2.trans (k3.trans k4)⟩
  clear h4 k4
  go_wp2
  go_ret
  exact P.out

set_option maxHeartbeats 400000 in
theorem hpush_calls {b p : Nat} {R : List Ent} {r : Ent} {w : World} (h : Pile b w p R) (ho : EntsOk b w (R ++ [r])) (hR : R.length < 1099511627776) (hbw : b ≤ w.heap.size) :
    Calls Try.prog 141 #[.iface 123 (.pointer (some ⟨p, 0, none⟩)), .iface 26 (.slice r.A r.n r.c)] w (PermPost0 b w p (R ++ [r])) := by
  have ml := meth_len p
  have mp := meth_push p
  have hl : ((R ++ [r]).length : Int) - 1 = (R.length : Int) := by simp
  have hl2 : (R ++ [r]).length = R.length + 1 := by simp
  have HL := Lib.hid hl2
  clear hl2
  go_enter Try.func141, Try.ntmps141
  go_wp2_with fail
  refine (ppush_calls h (by omega) hbw).mono ?_
  rintro e w2 ⟨rfl, h2, k2⟩
  go_wp2_with fail
  refine (plen_calls h2).mono ?_
  rintro e w3 ⟨rfl, rfl⟩
  rw [HL.out]
  have ho2 := ho.hup k2
  go_wp2_with fail
  refine (hup_calls h2 ho2 (i := R.length) (by rw [HL.out]; omega) (by rw [HL.out]; omega)).mono ?_
  rintro e w4 ⟨rfl, hr⟩
  have hr2 := Lib.hid (PermRel.trans (List.Perm.refl _) k2 hr)
  clear hr
  go_wp2
  go_end0
  exact ⟨rfl, hr2.out⟩

theorem take_calls {b p : Nat} {R : List Ent} {w : World} (h : Pile b w p R) (ho : EntsOk b w R) (hR : R.length ≤ 1099511627776) (hpos : 0 < R.length) :
    Calls Try.prog 127 #[.pointer (some ⟨p, 0, none⟩)] w (TakePost b w p R id) := by
  have hta := assert_nat
  go_enter Try.func127, Try.ntmps127
  go_wp2_with fail
  refine (hpop_calls h ho hR hpos).mono ?_
  rintro e w1 ⟨r, R', rfl, h1, h2, h3⟩
  go_wp2
  go_ret
  exact ⟨r, R', rfl, h1, h2, h3⟩
theorem put_calls {b p : Nat} {R : List Ent} {r : Ent} {w : World} (h : Pile b w p R) (ho : EntsOk b w (R ++ [r])) (hR : R.length < 1099511627776) (hbw : b ≤ w.heap.size) :
    Calls Try.prog 128 #[.pointer (some ⟨p, 0, none⟩), .slice r.A r.n r.c] w (PermPost0 b w p (R ++ [r])) := by
  go_enter Try.func128, Try.ntmps128
  go_wp2_with fail
  refine (hpush_calls h ho hR hbw).mono ?_
  rintro e w1 ⟨rfl, h1⟩
  go_wp2
  go_end0
  exact ⟨rfl, h1⟩
end Go.Proofs.Ytcdkdanfiimlkaa

/-! mul.joinAll over the heap of naturals. -/
namespace Go.Proofs.Ytcdkdanfiimlkaa
open Go.RowKit
set_option linter.unusedVariables false

/-- The product of all. -/
def prodV : List Ent → Nat
  | [] => 1
  | r :: R => r.v * prodV R
/-- The words of all. -/
def wtV : List Ent → Nat
  | [] => 0
  | r :: R => r.n + wtV R
theorem prodV_perm {R R' : List Ent} (h : R.Perm R') : prodV R = prodV R' := by
  induction h with
  | nil => rfl
  | cons r _ ih => simp only [prodV, ih]
  | swap r s R => simp only [prodV]; rw [← Nat.mul_assoc, ← Nat.mul_assoc, Nat.mul_comm s.v]
  | trans _ _ ih1 ih2 => exact ih1.trans ih2
theorem wtV_perm {R R' : List Ent} (h : R.Perm R') : wtV R = wtV R' := by
  induction h with
  | nil => rfl
  | cons r _ ih => simp only [wtV, ih]
  | swap r s R => simp only [wtV]; omega
  | trans _ _ ih1 ih2 => exact ih1.trans ih2

/-- In the loop of joinAll: k factors are left, of the product v, of at most N words. -/
def JnRel (b : Nat) (w : World) (p v N k : Nat) (wr : World) : Prop :=
  ∃ R : List Ent, R.length = k ∧ 0 < k ∧ k ≤ 1048576 ∧ Pile b wr p R ∧ EntsOk b wr R ∧ prodV R = v ∧ wtV R ≤ N ∧ Hup b w wr
def JoinPost (b : Nat) (w : World) (v : Nat) (e : Ending) (w' : World) : Prop := ∃ w2, Hup b w w2 ∧ NatPost v w2 e w'
/-- A product that was just made, as an entry. -/
theorem NatPost.ent {b v N : Nat} {w w' : World} {e : Ending} (h : NatPost v w e w') (hb : b ≤ w.heap.size) (hN : v < 18446744073709551616 ^ N) : ∃ r : Ent, e = .returned (.slice r.A r.n r.c) ∧ r.ok b w' ∧ r.v = v ∧ r.n ≤ N ∧ Below w.heap.size w w' := by
  obtain ⟨A, c, rfl, hg⟩ := h
  have hc := hg.cap
  refine ⟨⟨A, (cn 18446744073709551616 v).length, c, v⟩, rfl, ⟨⟨_, hg.rd, rfl, hc.1, by have := hc.2; unfold maxLen at this; omega, cn_low _ _ (by omega), ev_cn _ _ (by omega)⟩, fun ad ha hn => ?_⟩, rfl, cn_len_of_lt _ _ _ (by omega) hN, hg.2⟩
  rcases hg.1.2 with ⟨h1, h2⟩ | ⟨g, cap, cur, hv, hg', hh, _⟩
  · simp only at hn
    omega
  · injection hv with h1
    simp only at ha
    rw [h1] at ha
    obtain rfl := Option.some.inj ha
    exact .inr ⟨_, _, hh⟩

set_option maxHeartbeats 1000000 in
theorem join_calls {b p N : Nat} {R : List Ent} {w : World} (h : Pile b w p R) (ho : EntsOk b w R) (hR : R.length ≤ 1048576) (hN : wtV R ≤ N) (hN2 : N ≤ 1099511627776) (hbw : b ≤ w.heap.size) :
    Calls Try.prog 125 #[.func (.func 126) #[.pointer (some ⟨p, 0, none⟩)] #[], .func (.func 127) #[.pointer (some ⟨p, 0, none⟩)] #[], .func (.func 128) #[.pointer (some ⟨p, 0, none⟩)] #[]] w (JoinPost b w (prodV R)) := by
  rcases Nat.eq_zero_or_pos R.length with h0 | hpos
  · have hv : prodV R = 1 := by rw [List.eq_nil_of_length_eq_zero h0]; rfl
    have HV := Lib.hid hv
    have H0 := Lib.hid h0
    clear h0 hv
    go_enter Try.func125, Try.ntmps125
    go_wp2_with fail
    refine (plen_calls h).mono ?_
    rintro e w1 ⟨rfl, rfl⟩
    rw [H0.out]
    go_wp2_with fail
    refine (of_calls 1 (by omega) _).mono ?_
    rintro e w2 ⟨A, c, rfl, hg⟩
    have P : Hid (JoinPost b w (prodV R) (.returned (.slice A (cn 18446744073709551616 1).length c)) w2) := ⟨w, Hup.refl _ _, by rw [HV.out]; exact ⟨A, c, rfl, hg⟩⟩
    clear hg
    go_wp2
    go_ret
    exact P.out
  · have hne : (((R.length : Nat) : Int) == 0) = false := by rw [beq_eq_false_iff_ne]; omega
    go_enter Try.func125, Try.ntmps125
    go_wp2_with fail
    refine (plen_calls h).mono ?_
    rintro e w1 ⟨rfl, rfl⟩
    go_wp2
    go_loopg [] R.length (fun k wr => JnRel b w p (prodV R) N k wr)
    case atStart => exact ⟨R, rfl, hpos, hR, h, ho, rfl, hN, Hup.refl _ _⟩
    case round =>
      obtain ⟨R1, hk, hp1, hk2, h1, o1, v1, n1, k1⟩ := hrel
      have hb1 : b ≤ wr.heap.size := Nat.le_trans hbw k1.1.size
      have hl1 : R1.length ≤ 1048576 := by omega
      have HK := Lib.hid hk
      have V1 := Lib.hid v1
      clear hk v1
      by_cases hgt : 1 < R1.length
      · go_wp2_with fail
        refine (plen_calls h1).mono ?_
        rintro e w1 ⟨rfl, rfl⟩
        go_wp2_with fail
        refine (take_calls h1 o1 (by omega) (by omega)).mono ?_
        rintro e w2 ⟨r, R2, he, p1, h2, k2⟩
        obtain rfl : e = .returned (.slice r.A r.n r.c) := he
        have hl2 : R2.length + 1 = R1.length := p1.length_eq
        have o2 := (o1.perm p1).hup k2
        have o2' : EntsOk b w2 R2 := fun x hx => o2 x (List.mem_cons_of_mem _ hx)
        go_wp2_with fail
        refine (take_calls h2 o2' (by omega) (by omega)).mono ?_
        rintro e w3 ⟨s, R3, he, p2, h3, k3⟩
        obtain rfl : e = .returned (.slice s.A s.n s.c) := he
        have hl3 : R3.length + 1 = R2.length := p2.length_eq
        have o3 := (o2'.perm p2).hup k3
        have or : r.ok b w3 := (o2 r List.mem_cons_self).hup k3
        have os : s.ok b w3 := o3 s List.mem_cons_self
        have e1 := wtV_perm p1
        have e2 := wtV_perm p2
        have e3 := prodV_perm p1
        have e4 := prodV_perm p2
        simp only [wtV] at e1 e2
        simp only [prodV] at e3 e4
        have hb3 : b ≤ w3.heap.size := Nat.le_trans hb1 (Nat.le_trans k2.1.size k3.1.size)
        have hlt : r.v * s.v < 18446744073709551616 ^ (r.n + s.n) := by
          rw [Nat.pow_add]
          exact Nat.mul_lt_mul'' or.1.lt os.1.lt
        have HLT := Lib.hid hlt
        have hrn : r.n + s.n + wtV R3 = wtV R1 := by omega
        have hrv : r.v * s.v * prodV R3 = prodV R1 := by rw [← e3, ← e4, Nat.mul_assoc]
        have HRN := Lib.hid hrn
        have HRV := Lib.hid hrv
        have hr1 : r.n ≤ 1099511627776 := by omega
        have hr2 : s.n ≤ 1099511627776 := by omega
        have L2 := Lib.hid hl2
        have L3 := Lib.hid hl3
        clear hl2 hl3 e1 e2 e3 e4 hlt hrn hrv o2 o2' h1 o1 h2
        go_wp2_with fail
        refine (mmul_v or.1 os.1 hr1 hr2).mono ?_
        rintro e w4 hm
        obtain ⟨t, rfl, ot, tv, tn, tb⟩ := hm.ent hb3 HLT.out
        have TV := Lib.hid tv
        have h4 := h3.below tb
        have k4 : Hup b w3 w4 := Hup.of_below tb hb3
        have o4 : EntsOk b w4 (R3 ++ [t]) := fun x hx => by
          rcases List.mem_append.1 hx with hx | hx
          · exact (o3 x (List.mem_cons_of_mem _ hx)).hup k4
          · simp only [List.mem_singleton] at hx
            subst hx
            exact ot
        clear hm tv h3 or os o3 ot
        go_wp2_with fail
        refine (put_calls h4 o4 (by have := L2.out; have := L3.out; omega) (Nat.le_trans hb3 tb.size)).mono ?_
        rintro e w5 ⟨rfl, R5, p5, h5, k5⟩
        have p6 := p5.trans (List.perm_append_singleton t R3)
        have J : Hid (JnRel b w p (prodV R) N (R1.length - 1) w5) := by
          refine ⟨R5, ?_, by omega, by omega, h5, (o4.perm p5).hup k5, ?_, ?_, k1.trans (k2.trans (k3.trans (k4.trans k5)))⟩
          · have e1 := p6.length_eq
            have e2 := L2.out
            have e3 := L3.out
            rw [List.length_cons] at e1
            omega
          · rw [prodV_perm p6]
            simp only [prodV]
            rw [TV.out, HRV.out, V1.out]
          · rw [wtV_perm p6]
            simp only [wtV]
            have := HRN.out
            omega
        clear h5 k5 p5 p6 o4 h4
        go_wp2
        go_roundg (R1.length - 1)
        case measure => have := HK.out; omega
        case rel => exact J.out
      · have h11 : R1.length = 1 := by have := HK.out; omega
        have H11 := Lib.hid h11
        go_wp2_with fail
        refine (plen_calls h1).mono ?_
        rintro e w1 ⟨rfl, rfl⟩
        rw [H11.out]
        go_wp2_with fail
        refine (take_calls h1 o1 (by have := H11.out; omega) (by have := H11.out; omega)).mono ?_
        rintro e w2 ⟨r, R2, he, p1, h2, k2⟩
        obtain rfl : e = .returned (.slice r.A r.n r.c) := he
        have hl2 : R2.length + 1 = R1.length := p1.length_eq
        have h20 : R2 = [] := List.eq_nil_of_length_eq_zero (by omega)
        subst h20
        have or := ((o1.perm p1).hup k2) r List.mem_cons_self
        have e1 := wtV_perm p1
        have e3 := prodV_perm p1
        simp only [wtV] at e1
        simp only [prodV, Nat.mul_one] at e3
        have hrv : r.v = prodV R := by rw [e3, V1.out]
        have HRV := Lib.hid hrv
        have hr1 : r.n ≤ 1099511627776 := by omega
        obtain ⟨xs, x1, x2, x3, x4, x5, x6⟩ := or.1
        have X2 := Lib.hid x2
        have X6 := Lib.hid x6
        clear h11 hl2 e1 e3 hrv x2 x6
        go_wp2_with fail
        refine (norm_calls r.A r.n r.c xs _ x1 X2.out x3 x4 x5 hr1).mono ?_
        rintro e w3 hn
        rw [X6.out, HRV.out] at hn
        obtain ⟨A, c, rfl, hg⟩ := hn
        have P : Hid (JoinPost b w (prodV R) (.returned (.slice A (cn 18446744073709551616 (prodV R)).length c)) w3) := ⟨w2, k1.trans k2, A, c, rfl, hg⟩
        clear hg
        go_wp2
        go_ret
        exact P.out
end Go.Proofs.Ytcdkdanfiimlkaa

/-! mul.pileOf, mul.Product. -/
namespace Go.Proofs.Ytcdkdanfiimlkaa
open Go.RowKit
set_option linter.unusedVariables false

/-- The slices of a list that came in. -/
def LRow (w : World) (A : Option Addr) (R : List Ent) : Prop := 0 < R.length → ∃ ad, A = some ad ∧ ad.block < w.heap.size ∧ ∀ j (hj : j < R.length), w.cell? (ad.add j) = some R[j].val
theorem LRow.below {w w' : World} {A : Option Addr} {R : List Ent} (h : LRow w A R) (hb : Below w.heap.size w w') : LRow w' A R := fun hn => by
  obtain ⟨ad, rfl, h1, h2⟩ := h hn
  exact ⟨ad, rfl, Nat.lt_of_lt_of_le h1 hb.size, fun j hj => (hb.cell (by rw [add_block]; exact h1)).trans (h2 j hj)⟩
def nilEnt : Ent := ⟨none, 0, 0, 0⟩
/-- make of a list of slices. -/
theorem wpList_make_ents {P : Program} (w : World) {ops : Array Oper} {rest : List Oper} {o : Oper} {a : Act} {Q : Exit → Act → World → Prop}
    (hg : o.guard = none) (l c : Operand) (t : TypeId) (hop : o.op = Op.makeSlice t l c)
    (e : TypeId) (bytes : Nat) (ht : P.underlying t = some (.slice e)) (hinfo : (P.info? e).map (fun i => (i.zero, i.size, i.bytes)) = some (some (.slice none 0 0), 1, bytes))
    (kl kc : IntKind) (L C : Int) (n : Nat) (hl : a.eval l = .int kl L) (hc : a.eval c = .int kc C) (hL : L = (n : Int)) (hC : C = (n : Int)) (hbytes : bytes * n ≤ 281474976710656) (h63 : n ≤ 9223372036854775807)
    (hK : ∀ w', w'.heap[w.heap.size]? = some (.cells (vals (List.replicate n nilEnt)).toArray e (0, 0)) → Below w.heap.size w w' → w'.heap.size = w.heap.size + 1 → wpList P ops Q rest (a.put o.dst (.slice (some ⟨w.heap.size, 0, none⟩) n n)) w') :
    wpList P ops Q (o :: rest) a w := by
  subst hL hC
  obtain ⟨i, hi, hz0, hz1, hz2⟩ := info_parts hinfo
  refine wpList_make_row w hg l c t hop e i (.slice none 0 0) ht hi hz0 hz1 rfl kl kc n hl hc (by rw [hz2]; exact hbytes) h63 ?_
  refine hK _ ?_ ((Below.refl _ _).alloc (Nat.le_refl _) _) (by simp)
  rw [heap_alloc_new w]
  congr 2
  apply Array.ext
  · simp [size_madeCells, vals]
  · intro i h1 h2
    simp [madeCells, vals, Nat.mod_one, nilEnt, Ent.val]

/-- A trimmed entry. -/
def Trimmed (b : Nat) (w : World) (r t : Ent) : Prop := t.ok b w ∧ t.v = r.v ∧ t.n ≤ r.n
theorem mtrim_ent {b : Nat} {w : World} {r : Ent} (h : r.ok b w) : Calls Try.prog 101 #[.slice r.A r.n r.c] w fun e w' => ∃ t : Ent, e = .returned (.slice t.A t.n t.c) ∧ Trimmed b w r t ∧ w = w' := by
  obtain ⟨⟨xs, h1, h2, h3, h4, h5, h6⟩, hs⟩ := h
  refine (mtrim_calls r.A r.n r.c xs w h1 h2 h3 h4).mono ?_
  rintro e w' ⟨rfl, rfl⟩
  have hle := sl_le xs
  have hl : (xs.take (sl xs)).length = sl xs := by simp [Nat.min_eq_left hle]
  exact ⟨⟨r.A, sl xs, r.c, r.v⟩, rfl, ⟨⟨⟨xs.take (sl xs), h1.take _, hl, by show sl xs ≤ r.c; omega, h4, h5.take _, by rw [ev_take_sl]; exact h6⟩, fun ad ha hn => hs ad ha (by have : 0 < sl xs := hn; omega)⟩, rfl, by show sl xs ≤ r.n; omega⟩, rfl⟩

/-- In the loop of pileOf: k are put in. -/
def PoRel (b : Nat) (w : World) (p k : Nat) (R : List Ent) (wr : World) : Prop :=
  ∃ T : List Ent, T.length = k ∧ (∀ i (h1 : i < T.length) (h2 : i < R.length), Trimmed b wr R[i] T[i]) ∧ Pile b wr p (T ++ List.replicate (R.length - k) nilEnt) ∧ Hup b w wr
theorem prod_trim {b : Nat} {w : World} : ∀ {R T : List Ent}, T.length = R.length → (∀ i (h1 : i < T.length) (h2 : i < R.length), Trimmed b w R[i] T[i]) → prodV T = prodV R ∧ wtV T ≤ wtV R ∧ EntsOk b w T
  | [], [], _, _ => ⟨rfl, Nat.le_refl _, fun r hr => by cases hr⟩
  | r :: R, t :: T, hl, h => by
    have h0 := h 0 (by simp) (by simp)
    obtain ⟨i1, i2, i3⟩ := prod_trim (R := R) (T := T) (by simpa using hl) fun i h1 h2 => by have := h (i + 1) (by simp; omega) (by simp; omega); simpa using this
    simp only [List.getElem_cons_zero] at h0
    refine ⟨by simp only [prodV]; rw [i1, h0.2.1], by simp only [wtV]; have := h0.2.2; omega, fun x hx => ?_⟩
    rcases List.mem_cons.1 hx with rfl | hx
    · exact h0.1
    · exact i3 x hx
def PofPost (b : Nat) (w : World) (R : List Ent) (e : Ending) (w' : World) : Prop :=
  ∃ (p : Nat) (R' : List Ent), e = .returned (.pointer (some ⟨p, 0, none⟩)) ∧ Pile b w' p R' ∧ EntsOk b w' R' ∧ prodV R' = prodV R ∧ wtV R' ≤ wtV R ∧ R'.length = R.length ∧ Hup b w w'
theorem pile_start {w w1 : World} {n : Nat} (hb : w1.heap[w.heap.size]? = some (.cells (vals (List.replicate n nilEnt)).toArray 26 (0, 0))) (hw : Below w.heap.size w w1) (hz : w1.heap.size = w.heap.size + 1) (hn : n ≤ 1048576) :
    Pile w.heap.size (w1.alloc (.cells #[.slice (some ⟨w.heap.size, 0, none⟩) n n] 140)) w1.heap.size (List.replicate n nilEnt) := by
  refine ⟨w.heap.size, n, [], ?_, by omega, Nat.le_refl _, ?_, by simp, by omega⟩
  · rw [List.length_replicate]
    exact heap_alloc_new w1 _
  · rw [Below.heap_alloc w1 _ _ (by omega), List.append_nil]
    exact hb
theorem ent_end (T : List Ent) (m : Nat) (t : Ent) : (T ++ List.replicate (m + 1) nilEnt).set T.length t = (T ++ [t]) ++ List.replicate m nilEnt := by
  rw [List.set_append_right _ _ (Nat.le_refl _)]
  simp [List.replicate_succ]
theorem far_cell {w : World} {g p k i : Nat} {v : Value} {u : Option Value} (hne : g ≠ p) (hc : w.cell? ⟨p, i, none⟩ = u) : (w.setCell ⟨g, k, none⟩ v).cell? ⟨p, i, none⟩ = u := by
  rw [World.cell?_setCell_other w ⟨g, k, none⟩ ⟨p, i, none⟩ v (fun e => hne (by injection e)), hc]
/-- One more is put in. -/
theorem PoRel.next {b p k g cap : Nat} {w wr : World} {R T : List Ent} {spare : List Value} {t : Ent} (hT : T.length = k) (hk : k < R.length) (hall : ∀ i (h1 : i < T.length) (h2 : i < R.length), Trimmed b wr R[i] T[i])
    (ht : Trimmed b wr R[k] t) (hp : PileAt b wr p (T ++ List.replicate (R.length - k) nilEnt) g cap spare) (hu : Hup b w wr) : PoRel b w p (k + 1) R (wr.setCell ⟨g, k, none⟩ (.slice t.A t.n t.c)) := by
  obtain ⟨m, hm⟩ : ∃ m, R.length - k = m + 1 := ⟨R.length - k - 1, by omega⟩
  rw [hm] at hp
  have h1 := hp.set (i := k) (by simp; omega) t
  rw [← hT, ent_end, hT] at h1
  have hu2 : Hup b wr (wr.setCell ⟨g, k, none⟩ (.slice t.A t.n t.c)) := Hup.setCell hp.2.2.1 hp.2.2.2.1 (by decide)
  have hm2 : R.length - (k + 1) = m := by omega
  refine ⟨T ++ [t], by simp [hT], fun i h2 h3 => ?_, ⟨g, cap, spare, by rw [hm2]; exact h1⟩, hu.trans hu2⟩
  by_cases hi : i < T.length
  · rw [List.getElem_append_left hi]
    obtain ⟨a1, a2⟩ := hall i hi h3
    exact ⟨a1.hup hu2, a2⟩
  · have : i = T.length := by simp at h2; omega
    subst this
    rw [List.getElem_append_right (Nat.le_refl _)]
    subst hT
    simp only [Nat.sub_self, List.getElem_cons_zero]
    exact ⟨ht.1.hup hu2, ht.2⟩
theorem PoRel.drew {b p k : Nat} {w wr : World} {R : List Ent} (h : PoRel b w p k R wr) : PoRel b w p k R wr.drew := by
  obtain ⟨T, h1, h2, h3, h4⟩ := h
  exact ⟨T, h1, fun i a c => ⟨(h2 i a c).1.hup (Hup.drewN b wr 1), (h2 i a c).2⟩, h3, h4.trans (Hup.drewN b wr 1)⟩
set_option maxHeartbeats 1000000 in
theorem pileof_calls {A : Option Addr} {n c : Nat} {R : List Ent} {w : World} (h : LRow w A R) (hn : R.length = n) (ho : EntsOk w.heap.size w R) (hR : n ≤ 1048576) :
    Calls Try.prog 124 #[.slice A n c] w (PofPost w.heap.size w R) := by
  have HN := Lib.hid hn
  clear hn
  go_enter Try.func124, Try.ntmps124
  go_wp2_with (at_make; refine wpList_make_ents _ rfl _ _ 102 rfl 26 24 Try.underlying102 info_nat' _ _ _ _ n rfl rfl (by omega) (by omega) (by omega) (by omega) ?_)
  intro w1 hb1 hw1 hz1
  have HZ := Lib.hid hz1
  have H1 := Lib.hid hb1
  clear hz1 hb1
  go_wp2
  have hs : Hid (Pile w.heap.size (w1.alloc (.cells #[.slice (some ⟨w.heap.size, 0, none⟩) n n] 140)) w1.heap.size (List.replicate n nilEnt)) := pile_start H1.out hw1 HZ.out hR
  have hu0 : Hup w.heap.size w (w1.alloc (.cells #[.slice (some ⟨w.heap.size, 0, none⟩) n n] 140)) :=
    Hup.of_below (hw1.trans ((Below.refl _ _).alloc (by have := HZ.out; omega) _)) (Nat.le_refl _)
  go_loopw [13] (fun i wr => ∃ k : Nat, k ≤ n ∧ i = .int .i64 k ∧ PoRel w.heap.size w w1.heap.size k R wr) (fun i _ => n - (intOf i).toNat)
  case atStart => exact ⟨0, Nat.zero_le _, rfl, [], rfl, fun i h1 => by simp at h1, by rw [HN.out, Nat.sub_zero]; exact hs.out, hu0⟩
  case round =>
    clear hs hu0
    obtain ⟨k, hk, rfl, T, hT, hall, ⟨g, cap, spare, hp⟩, hu⟩ := hrel
    have hTn : (T ++ List.replicate (R.length - k) nilEnt).length = n := by simp; have := HN.out; omega
    have hc := hp.head
    rw [hTn] at hc
    have HT := Lib.hid hT
    have HTN := Lib.hid hTn
    clear hT hTn
    by_cases hlt : k < n
    · have hkR : k < R.length := by have := HN.out; omega
      obtain ⟨ad, rfl, hab, hcell⟩ := (h.below hu.1) (by omega)
      have c1 : wr.cell? (ad.add k) = some (.slice R[k].A R[k].n R[k].c) := hcell k hkR
      have c2 := hp.cell (i := k) (by rw [HTN.out]; exact hlt)
      obtain ⟨v2, hv2⟩ : ∃ v2, wr.cell? ⟨g, k, none⟩ = some v2 := ⟨_, c2⟩
      have f2 := hp.free k
      have hne := hp.ne
      have hok : Ent.ok w.heap.size wr R[k] := (ho _ (List.getElem_mem hkR)).hup hu
      have u1 : (0 : Int) ≤ (k : Int) := by omega
      have u2 : (k : Int) < (n : Int) := by omega
      clear c2 hcell
      go_wp2_with fail
      go_region_held3 (fun w' => w'.cell? ⟨w1.heap.size, 0, none⟩ = some (.slice (some ⟨g, 0, none⟩) n cap)) (first | exact hc | exact far_cell hne hc) (first | (go_at_call 101; refine (mtrim_ent (b := w.heap.size) (w := wr.drew) hok).mono ?_; rintro e w2 ⟨t, rfl, ht, rfl⟩))
      have R1 : Hid (PoRel w.heap.size w w1.heap.size (k + 1) R (wr.setCell ⟨g, k, none⟩ (.slice t.A t.n t.c))) := PoRel.next HT.out hkR hall ht hp hu
      clear ht hp hc hall
      go_wp2
      go_roundw
      case rel => exact ⟨k + 1, by omega, by go_num, R1.out.drew⟩
      case measure => simp [intOf]; omega
    · obtain rfl : k = n := by omega
      have hl : R.length - k = 0 := by have := HN.out; omega
      rw [hl, List.replicate_zero, List.append_nil] at hp
      obtain ⟨q1, q2, q3⟩ := prod_trim (HT.out.trans HN.out.symm) hall
      have Q1 := Lib.hid q1
      have Q2 := Lib.hid q2
      have hpile : Pile w.heap.size wr w1.heap.size T := ⟨g, cap, spare, hp⟩
      clear hl q1 q2 hall hc
      go_wp2_with fail
      refine (hinit_calls hpile q3 (by rw [HT.out]; omega)).mono ?_
      rintro e w2 ⟨rfl, R2, p2, h2, k2⟩
      have P : Hid (PofPost w.heap.size w R (.returned (.pointer (some ⟨w1.heap.size, 0, none⟩))) w2) :=
        ⟨w1.heap.size, R2, rfl, h2, (q3.perm p2).hup k2, by rw [prodV_perm p2, Q1.out], by rw [wtV_perm p2]; exact Q2.out, by rw [p2.length_eq, HT.out, HN.out], hu.trans k2⟩
      clear h2 k2
      go_wp2
      go_ret
      exact P.out

/-- mul.Product: of the slices of a list. -/
theorem product_calls {A : Option Addr} {n c N : Nat} {R : List Ent} {w : World} (h : LRow w A R) (hn : R.length = n) (ho : EntsOk w.heap.size w R) (hR : n ≤ 1048576) (hN : wtV R ≤ N) (hN2 : N ≤ 1099511627776) :
    Calls Try.prog 96 #[.slice A n c] w (NatPost (prodV R) w) := by
  have HN := Lib.hid hn
  clear hn
  go_enter Try.func96, Try.ntmps96
  go_wp2_with fail
  refine (pileof_calls h HN.out ho hR).mono ?_
  rintro e w1 ⟨p, R', rfl, h1, o1, v1, n1, l1, k1⟩
  have V1 := Lib.hid v1
  have L1 := Lib.hid l1
  clear v1 l1
  go_wp2_with fail
  refine (join_calls (N := N) h1 o1 (by rw [L1.out, HN.out]; exact hR) (by omega) hN2 k1.1.size).mono ?_
  rintro e w2 ⟨w3, k3, A', c', rfl, hg⟩
  rw [V1.out] at hg ⊢
  have hb3 := k1.trans k3
  have P : Hid (NatPost (prodV R) w (.returned (.slice A' (cn 18446744073709551616 (prodV R)).length c')) w2) := ⟨A', c', rfl, Got.of_own hg.1 hb3.1.size (hb3.1.trans (hg.2.mono hb3.1.size))⟩
  clear hg
  go_wp2
  go_ret
  exact P.out
end Go.Proofs.Ytcdkdanfiimlkaa
