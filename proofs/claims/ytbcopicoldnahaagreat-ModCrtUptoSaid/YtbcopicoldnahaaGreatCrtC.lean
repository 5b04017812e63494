/-
  The heap of classes (modn.pile): its memory, and its method Len.
-/
import Derived.Test.YtbcopicoldnahaaGreatCrtB
import Derived.RegionTactic
import Derived.BigRegion
import Derived.Deep.RegionHeld3
import Derived.Deep.RegionLaw
import Derived.Deep.LoopGhost
/-! The heap of classes (modn.pile): its memory. -/
namespace Go.Proofs.YtbcopicoldnahaaGreat
open Go.RowKit
set_option linter.unusedVariables false

/-- A class: two whole numbers, as they lie, and what they stand for. -/
structure Cls where
  s : Bool
  A : Option Addr
  n : Nat
  c : Nat
  t : Bool
  B : Option Addr
  m : Nat
  d : Nat
  r : Int
  q : Int
def Cls.cs (x : Cls) : List Value := [.bool x.s, .slice x.A x.n x.c, .bool x.t, .slice x.B x.m x.d]
/-- The cells of a list of classes. -/
def cvals : List Cls → List Value
  | [] => []
  | x :: R => x.cs ++ cvals R
theorem cvals_length : ∀ R : List Cls, (cvals R).length = 4 * R.length
  | [] => rfl
  | x :: R => by rw [cvals, List.length_append, cvals_length R]; simp [Cls.cs]; omega
theorem cvals_append : ∀ R S : List Cls, cvals (R ++ S) = cvals R ++ cvals S
  | [], S => rfl
  | x :: R, S => by rw [List.cons_append, cvals, cvals, cvals_append R S, List.append_assoc]
theorem cvals_get : ∀ (R : List Cls) (i j : Nat) (hi : i < R.length), j < 4 → (cvals R)[4 * i + j]? = (R[i].cs)[j]?
  | [], i, j, hi, _ => by simp at hi
  | x :: R, 0, j, _, hj => by
    rw [cvals, Nat.mul_zero, Nat.zero_add, List.getElem?_append_left (by simp [Cls.cs]; omega)]
    rfl
  | x :: R, i + 1, j, hi, hj => by
    rw [cvals, List.getElem?_append_right (by simp [Cls.cs]; omega)]
    have e : 4 * (i + 1) + j - x.cs.length = 4 * i + j := by simp [Cls.cs]; omega
    rw [e, cvals_get R i j (by simpa using hi) hj]
    rfl
/-- The four cells of the i-th class are written. -/
theorem cvals_set : ∀ (R : List Cls) (i : Nat) (y : Cls), i < R.length → ((((cvals R).set (4 * i) (.bool y.s)).set (4 * i + 1) (.slice y.A y.n y.c)).set (4 * i + 2) (.bool y.t)).set (4 * i + 3) (.slice y.B y.m y.d) = cvals (R.set i y)
  | [], i, y, hi => by simp at hi
  | x :: R, 0, y, _ => by simp [cvals, Cls.cs]
  | x :: R, i + 1, y, hi => by
    have h := cvals_set R i y (by simpa using hi)
    rw [List.set_cons_succ, cvals, cvals, ← h]
    have e0 : 4 * (i + 1) = 4 * i + 1 + 1 + 1 + 1 := by omega
    simp only [Cls.cs, List.cons_append, List.nil_append, e0, List.set_cons_succ]
/-- The heap at p, of the classes R. -/
def CPileAt (b : Nat) (w : World) (p : Nat) (R : List Cls) (g cap : Nat) (spare : List Value) : Prop :=
  w.heap[p]? = some (.cells #[.slice (some ⟨g, 0, none⟩) R.length cap] 70 (0, 0)) ∧ b ≤ p ∧ b ≤ g ∧
    w.heap[g]? = some (.cells (cvals R ++ spare).toArray 40 (0, 0)) ∧ 4 * R.length + spare.length = 4 * cap ∧ cap ≤ 9223372036854775807
/-- The heap at p, of the classes R, with room for q more: there lie classes that were taken out. -/
def CPile (b : Nat) (w : World) (p g : Nat) (R : List Cls) (q : Nat) : Prop := ∃ cap S, CPileAt b w p R g cap (cvals S) ∧ S.length = q
section
variable {b : Nat} {w w' : World} {p g cap : Nat} {R : List Cls} {spare : List Value}
theorem CPileAt.cell (h : CPileAt b w p R g cap spare) {i j : Nat} (hi : i < R.length) (hj : j < 4) : w.cell? ⟨g, 4 * i + j, none⟩ = (R[i].cs)[j]? := by
  rw [cell_of_row w g (4 * i + j) _ _ (0, 0) h.2.2.2.1, List.getElem?_toArray, List.getElem?_append_left (by rw [cvals_length]; omega), cvals_get R i j hi hj]
theorem CPileAt.head (h : CPileAt b w p R g cap spare) : w.cell? ⟨p, 0, none⟩ = some (.slice (some ⟨g, 0, none⟩) R.length cap) := by
  rw [cell_of_row w p 0 _ _ (0, 0) h.1]
  rfl
theorem CPileAt.free (h : CPileAt b w p R g cap spare) (i : Nat) : w.frozen? ⟨g, i, none⟩ = false := frozen_of_row w g i _ _ h.2.2.2.1
theorem CPileAt.free' (h : CPileAt b w p R g cap spare) (i : Nat) : w.frozen? ⟨p, i, none⟩ = false := frozen_of_row w p i _ _ h.1
theorem CPileAt.ne (h : CPileAt b w p R g cap spare) : g ≠ p := fun e => by
  subst e
  have := h.1.symm.trans h.2.2.2.1
  injection this with this
  injection this with _ h2
  exact absurd h2 (by decide)
theorem CPileAt.below (h : CPileAt b w p R g cap spare) (hb : Below w.heap.size w w') : CPileAt b w' p R g cap spare :=
  ⟨(hb.block p (Array.getElem?_eq_some_iff.1 h.1).1).trans h.1, h.2.1, h.2.2.1, (hb.block g (Array.getElem?_eq_some_iff.1 h.2.2.2.1).1).trans h.2.2.2.1, h.2.2.2.2⟩
theorem CPile.below {q : Nat} (h : CPile b w p g R q) (hb : Below w.heap.size w w') : CPile b w' p g R q := by
  obtain ⟨cap, S, h, hS⟩ := h
  exact ⟨cap, S, h.below hb, hS⟩
/-- One class is put in another's place. -/
theorem CPileAt.set (h : CPileAt b w p R g cap spare) {i : Nat} (hi : i < R.length) (y : Cls) :
    CPileAt b ((((w.setCell ⟨g, 4 * i, none⟩ (.bool y.s)).setCell ⟨g, 4 * i + 1, none⟩ (.slice y.A y.n y.c)).setCell ⟨g, 4 * i + 2, none⟩ (.bool y.t)).setCell ⟨g, 4 * i + 3, none⟩ (.slice y.B y.m y.d)) p (R.set i y) g cap spare := by
  have hl : (R.set i y).length = R.length := by simp
  have hn : p ≠ g := fun e => h.ne e.symm
  refine ⟨?_, h.2.1, h.2.2.1, ?_, by rw [hl]; exact h.2.2.2.2.1, h.2.2.2.2.2⟩
  · rw [hl, Below.heap_setCell _ _ _ p hn, Below.heap_setCell _ _ _ p hn, Below.heap_setCell _ _ _ p hn, Below.heap_setCell _ _ _ p hn]
    exact h.1
  · have hlen := cvals_length R
    have k1 := heap_setCell_same w g (4 * i) _ _ (.bool y.s) h.2.2.2.1
    rw [List.setIfInBounds_toArray, List.set_append_left _ _ (by omega)] at k1
    have k2 := heap_setCell_same _ g (4 * i + 1) _ _ (.slice y.A y.n y.c) k1
    rw [List.setIfInBounds_toArray, List.set_append_left _ _ (by simp; omega)] at k2
    have k3 := heap_setCell_same _ g (4 * i + 2) _ _ (.bool y.t) k2
    rw [List.setIfInBounds_toArray, List.set_append_left _ _ (by simp; omega)] at k3
    have k4 := heap_setCell_same _ g (4 * i + 3) _ _ (.slice y.B y.m y.d) k3
    rw [List.setIfInBounds_toArray, List.set_append_left _ _ (by simp; omega), cvals_set R i y hi] at k4
    exact k4
end
theorem clen_calls {b p g q : Nat} {R : List Cls} {w : World} (h : CPile b w p g R q) :
    Calls Tryz.prog 31 #[.pointer (some ⟨p, 0, none⟩)] w fun e w' => e = .returned (.int .i64 R.length) ∧ w = w' := by
  obtain ⟨cap, S, h, hS⟩ := h
  have hc := h.head
  go_enter Tryz.func31, Tryz.ntmps31
  go_wp2
  go_ret
  exact ⟨rfl, rfl⟩
/-- A class's numbers are right. -/
def Cls.ok (w : World) (x : Cls) : Prop := Zc w x.s x.A x.n x.c x.r ∧ Zc w x.t x.B x.m x.d x.q ∧ x.n ≤ 1048576 ∧ x.m ≤ 1048576
theorem Cls.ok.below {w w' : World} {x : Cls} (h : x.ok w) (hb : Below w.heap.size w w') : x.ok w' := ⟨h.1.below hb, h.2.1.below hb, h.2.2⟩
def ClsOk (w : World) (R : List Cls) : Prop := ∀ x, x ∈ R → x.ok w
/-- Some truth, in new memory. -/
def CBool (w : World) (e : Ending) (w' : World) : Prop := ∃ t : Bool, e = .returned (.bool t) ∧ Below w.heap.size w w'
set_option maxRecDepth 100000 in
set_option maxHeartbeats 4000000 in
theorem cless_calls {b p g q i k : Nat} {R : List Cls} {w : World} (h : CPile b w p g R q) (ho : ClsOk w R) (hi : i < R.length) (hk : k < R.length) (hR : R.length ≤ 1000) :
    Calls Tryz.prog 135 #[.pointer (some ⟨p, 0, none⟩), .int .i64 i, .int .i64 k] w (CBool w) := by
  obtain ⟨cap, S, h, hS⟩ := h
  have hc := h.head
  have c1 : w.cell? ⟨g, i * 4 + 2, none⟩ = some (.bool R[i].t) := by rw [Nat.mul_comm]; exact h.cell hi (j := 2) (by omega)
  have c2 : w.cell? ⟨g, i * 4 + 2 + 1, none⟩ = some (.slice R[i].B R[i].m R[i].d) := by rw [Nat.mul_comm]; exact h.cell hi (j := 3) (by omega)
  have d1 : w.cell? ⟨g, k * 4 + 2, none⟩ = some (.bool R[k].t) := by rw [Nat.mul_comm]; exact h.cell hk (j := 2) (by omega)
  have d2 : w.cell? ⟨g, k * 4 + 2 + 1, none⟩ = some (.slice R[k].B R[k].m R[k].d) := by rw [Nat.mul_comm]; exact h.cell hk (j := 3) (by omega)
  have o1 := (ho _ (List.getElem_mem hi)).2.1
  have o2 := (ho _ (List.getElem_mem hk)).2.1
  have l1 := (ho _ (List.getElem_mem hi)).2.2.2
  have l2 := (ho _ (List.getElem_mem hk)).2.2.2
  generalize R[i] = x at *
  generalize R[k] = y at *
  have u1 : (0 : Int) ≤ (i : Int) := by omega
  have u2 : (i : Int) < (R.length : Int) := by omega
  have u3 : (0 : Int) ≤ (k : Int) := by omega
  have u4 : (k : Int) < (R.length : Int) := by omega
  obtain ⟨r, hr⟩ : ∃ r, (x.q - y.q).sign = r := ⟨_, rfl⟩
  have HR := Lib.hid hr
  clear hr
  go_enter Tryz.func135, Tryz.ntmps135
  go_wp2
  go_region_held3 (fun w' => w'.cell? ⟨p, 0, none⟩ = some (.slice (some ⟨g, 0, none⟩) R.length cap) ∧ w'.cell? ⟨g, i * 4 + 2, none⟩ = some (.bool x.t) ∧ w'.cell? ⟨g, i * 4 + 2 + 1, none⟩ = some (.slice x.B x.m x.d) ∧ w'.cell? ⟨g, k * 4 + 2, none⟩ = some (.bool y.t) ∧ w'.cell? ⟨g, k * 4 + 2 + 1, none⟩ = some (.slice y.B y.m y.d)) (go_keep) (first
    | (go_at_call 27; (with_reducible refine (zcmp_v (o1.below (below_drew _)).zv (o2.below (below_drew _)).zv (by omega) (by omega) HR.out).mono ?_); rintro e w5 ⟨rfl, B5⟩; have Q5 := zup (below_drew _) B5; obtain ⟨g1, _⟩ := zcell Q5; have hp5 := World.block_lt_of_cell? w _ hc; have hg5 := World.block_lt_of_cell? w _ c1)
    | fail)
  go_wp2
  go_ret
  exact ⟨_, rfl, Q5⟩
/-- No words. -/
def NoW (cs : Array Value) : Prop := ∀ (i : Nat) (v : Value), cs[i]? = some v → ∀ m, v ≠ .int .u64 m
/-- Each block that holds no words has as many cells as it had, and no words. -/
def Shp (w w' : World) : Prop := ∀ (k : Nat) (cs : Array Value) (t : TypeId), w.heap[k]? = some (.cells cs t (0, 0)) → NoW cs → ∃ cs' : Array Value, cs'.size = cs.size ∧ NoW cs' ∧ w'.heap[k]? = some (.cells cs' t (0, 0))
theorem Shp.refl (w : World) : Shp w w := fun k cs t h h' => ⟨cs, rfl, h', h⟩
theorem Shp.trans {w w' w'' : World} (h : Shp w w') (k : Shp w' w'') : Shp w w'' := fun a cs t ha hn => by
  obtain ⟨cs', e1, n1, h1⟩ := h a cs t ha hn
  obtain ⟨cs'', e2, n2, h2⟩ := k a cs' t h1 n1
  exact ⟨cs'', e2.trans e1, n2, h2⟩
theorem Shp.of_below {w w' : World} (h : Below w.heap.size w w') : Shp w w' := fun a cs t ha hn => ⟨cs, rfl, hn, (h.block a (Array.getElem?_eq_some_iff.1 ha).1).trans ha⟩
theorem Shp.setCell (w : World) (g o : Nat) (u : Value) (hu : ∀ m, u ≠ .int .u64 m) : Shp w (w.setCell ⟨g, o, none⟩ u) := fun k cs t h hn => by
  by_cases hk : k = g
  · subst hk
    refine ⟨_, by simp, fun i v hv => ?_, heap_setCell_same w k o cs t u h⟩
    rw [Array.getElem?_setIfInBounds] at hv
    split at hv
    · split at hv
      · injection hv with hv
        subst hv
        exact hu
      · cases hv
    · exact hn i v hv
  · exact ⟨cs, rfl, hn, (Below.heap_setCell w ⟨g, o, none⟩ u k hk).trans h⟩
/-- A block of a class, whatever stands in it. -/
def Blk4 (w : World) (g : Nat) : Prop := ∃ cs : Array Value, cs.size = 4 ∧ NoW cs ∧ w.heap[g]? = some (.cells cs 40 (0, 0))
theorem Blk4.shp {w w' : World} {g : Nat} (h : Blk4 w g) (k : Shp w w') : Blk4 w' g := by
  obtain ⟨cs, h1, h2, h3⟩ := h
  obtain ⟨cs', k1, k2, k3⟩ := k g cs _ h3 h2
  exact ⟨cs', k1.trans h1, k2, k3⟩
theorem Blk4.cells {w : World} {g : Nat} (h : Blk4 w g) : ∃ v0 v1 v2 v3, w.cell? ⟨g, 0, none⟩ = some v0 ∧ w.cell? ⟨g, 1, none⟩ = some v1 ∧ w.cell? ⟨g, 2, none⟩ = some v2 ∧ w.cell? ⟨g, 3, none⟩ = some v3 ∧ (∀ m, v0 ≠ .int .u64 m) ∧ (∀ m, v1 ≠ .int .u64 m) ∧ (∀ m, v2 ≠ .int .u64 m) ∧ (∀ m, v3 ≠ .int .u64 m) := by
  obtain ⟨cs, h1, h2, h3⟩ := h
  have f : ∀ i, i < 4 → ∃ v, cs[i]? = some v ∧ w.cell? ⟨g, i, none⟩ = some v := fun i hi => by
    have e : cs[i]? = some (cs[i]'(by omega)) := Array.getElem?_eq_getElem (by omega)
    exact ⟨_, e, by rw [cell_of_row w g i _ _ (0, 0) h3, e]⟩
  obtain ⟨v0, a0, b0⟩ := f 0 (by omega)
  obtain ⟨v1, a1, b1⟩ := f 1 (by omega)
  obtain ⟨v2, a2, b2⟩ := f 2 (by omega)
  obtain ⟨v3, a3, b3⟩ := f 3 (by omega)
  exact ⟨v0, v1, v2, v3, b0, b1, b2, b3, h2 0 v0 a0, h2 1 v1 a1, h2 2 v2 a2, h2 3 v3 a3⟩
theorem Blk4.free {w : World} {g : Nat} (h : Blk4 w g) (o : Nat) : w.frozen? ⟨g, o, none⟩ = false := by
  obtain ⟨cs, h1, h2, h3⟩ := h
  exact frozen_of_row w g o _ _ h3
/-- What stays: below b all, every number, and each block's cells. -/
def Hc (b : Nat) (w w' : World) : Prop := Below b w w' ∧ (∀ (A : Option Addr) (n c v : Nat), Cv w A n c v → Cv w' A n c v) ∧ Shp w w'
theorem Hc.refl (b : Nat) (w : World) : Hc b w w := ⟨Below.refl _ _, fun _ _ _ _ h => h, Shp.refl w⟩
theorem Hc.trans {b : Nat} {w w' w'' : World} (h : Hc b w w') (k : Hc b w' w'') : Hc b w w'' := ⟨h.1.trans k.1, fun A n c v x => k.2.1 A n c v (h.2.1 A n c v x), h.2.2.trans k.2.2⟩
theorem Hc.of_below {b : Nat} {w w' : World} (h : Below w.heap.size w w') (hb : b ≤ w.heap.size) : Hc b w w' := ⟨h.mono hb, fun A n c v x => x.below h, Shp.of_below h⟩
theorem Hc.drew (b : Nat) (w : World) (hb : b ≤ w.heap.size) : Hc b w w.drew := Hc.of_below (below_drew w) hb
theorem Zc.hc {b : Nat} {w w' : World} {s : Bool} {A : Option Addr} {n c : Nat} {z : Int} (h : Zc w s A n c z) (k : Hc b w w') : Zc w' s A n c z := ⟨k.2.1 _ _ _ _ h.1, h.2⟩
theorem Cls.ok.hc {b : Nat} {w w' : World} {x : Cls} (h : x.ok w) (k : Hc b w w') : x.ok w' := ⟨h.1.hc k, h.2.1.hc k, h.2.2⟩
/-- The four cells of a class are written. -/
def put4 (w : World) (g o : Nat) (y : Cls) : World := (((w.setCell ⟨g, o, none⟩ (.bool y.s)).setCell ⟨g, o + 1, none⟩ (.slice y.A y.n y.c)).setCell ⟨g, o + 2, none⟩ (.bool y.t)).setCell ⟨g, o + 3, none⟩ (.slice y.B y.m y.d)
theorem Cv.put4 {w : World} {A : Option Addr} {n c v g o : Nat} {x y : Cls} (h : Cv w A n c v) (c0 : w.cell? ⟨g, o, none⟩ = some (.bool x.s)) (c1 : w.cell? ⟨g, o + 1, none⟩ = some (.slice x.A x.n x.c)) (c2 : w.cell? ⟨g, o + 2, none⟩ = some (.bool x.t)) (c3 : w.cell? ⟨g, o + 3, none⟩ = some (.slice x.B x.m x.d)) :
    Cv (put4 w g o y) A n c v := by
  refine (((h.other c0 (fun m e => by cases e)).other (u := .slice x.A x.n x.c) ?_ (fun m e => by cases e)).other (u := .bool x.t) ?_ (fun m e => by cases e)).other (u := .slice x.B x.m x.d) ?_ (fun m e => by cases e)
  · rw [World.cell?_setCell_other (h := by simp)]; exact c1
  · rw [World.cell?_setCell_other (h := by simp), World.cell?_setCell_other (h := by simp)]; exact c2
  · rw [World.cell?_setCell_other (h := by simp), World.cell?_setCell_other (h := by simp), World.cell?_setCell_other (h := by simp)]; exact c3
theorem Shp.put4 (w : World) (g o : Nat) (y : Cls) : Shp w (put4 w g o y) :=
  (((Shp.setCell w g o _ (fun m e => by cases e)).trans (Shp.setCell _ g (o + 1) _ (fun m e => by cases e))).trans (Shp.setCell _ g (o + 2) _ (fun m e => by cases e))).trans (Shp.setCell _ g (o + 3) _ (fun m e => by cases e))
theorem CPileAt.put {b : Nat} {w : World} {p g cap : Nat} {R : List Cls} {spare : List Value} (h : CPileAt b w p R g cap spare) {i : Nat} (hi : i < R.length) (y : Cls) :
    CPileAt b (put4 w g (i * 4) y) p (R.set i y) g cap spare ∧ Hc b w (put4 w g (i * 4) y) := by
  rw [Nat.mul_comm]
  refine ⟨h.set hi y, ?_, fun A n c v x => x.put4 (x := R[i]) (h.cell hi (j := 0) (by omega)) (h.cell hi (j := 1) (by omega)) (h.cell hi (j := 2) (by omega)) (h.cell hi (j := 3) (by omega)), Shp.put4 w g _ y⟩
  exact ((((Below.refl _ _).setCell h.2.2.1 _).setCell h.2.2.1 _).setCell h.2.2.1 _).setCell h.2.2.1 _
/-- Two classes change places. -/
def cswp (R : List Cls) (i k : Nat) (hi : i < R.length) (hk : k < R.length) : List Cls := (R.set i R[k]).set k R[i]
def CSwPost (b : Nat) (w : World) (p g : Nat) (R : List Cls) (q : Nat) (e : Ending) (w' : World) : Prop := e = .returned (.tuple #[]) ∧ CPile b w' p g R q ∧ Hc b w w'
theorem csw_end {b p g cap i k q : Nat} {R S : List Cls} {w : World} (h : CPileAt b w p R g cap (cvals S)) (hS : S.length = q) (hi : i < R.length) (hk : k < R.length) :
    CPile b (put4 (put4 w g (i * 4) R[k]) g (k * 4) R[i]) p g (cswp R i k hi hk) q ∧ Hc b w (put4 (put4 w g (i * 4) R[k]) g (k * 4) R[i]) := by
  obtain ⟨h1, k1⟩ := h.put hi R[k]
  obtain ⟨h2, k2⟩ := h1.put (i := k) (by simpa using hk) R[i]
  exact ⟨⟨cap, S, h2, hS⟩, k1.trans k2⟩
theorem CPile.drew {b : Nat} {w : World} {p g q : Nat} {R : List Cls} (h : CPile b w p g R q) : CPile b w.drew p g R q := h
theorem csw_post {b p g q : Nat} {R : List Cls} {w w' : World} (h : CPile b w' p g R q ∧ Hc b w w') (hb : b ≤ w.heap.size) : CSwPost b w p g R q (.returned (.tuple #[])) w'.drew := ⟨rfl, h.1.drew, h.2.trans (Hc.drew _ _ (Nat.le_trans hb h.2.1.size))⟩
set_option maxRecDepth 100000 in
set_option maxHeartbeats 8000000 in
theorem cswap_calls {b p g q i k : Nat} {R : List Cls} {w : World} (h : CPile b w p g R q) (hi : i < R.length) (hk : k < R.length) (hR : R.length ≤ 1000) (hb : b ≤ w.heap.size) :
    Calls Tryz.prog 138 #[.pointer (some ⟨p, 0, none⟩), .int .i64 i, .int .i64 k] w (CSwPost b w p g (cswp R i k hi hk) q) := by
  obtain ⟨cap, S, h, hS⟩ := h
  have hc := h.head
  have c0 : w.cell? ⟨g, i * 4, none⟩ = some (.bool R[i].s) := by rw [Nat.mul_comm]; exact h.cell hi (j := 0) (by omega)
  have c1 : w.cell? ⟨g, i * 4 + 1, none⟩ = some (.slice R[i].A R[i].n R[i].c) := by rw [Nat.mul_comm]; exact h.cell hi (j := 1) (by omega)
  have c2 : w.cell? ⟨g, i * 4 + 2, none⟩ = some (.bool R[i].t) := by rw [Nat.mul_comm]; exact h.cell hi (j := 2) (by omega)
  have c3 : w.cell? ⟨g, i * 4 + 3, none⟩ = some (.slice R[i].B R[i].m R[i].d) := by rw [Nat.mul_comm]; exact h.cell hi (j := 3) (by omega)
  have d0 : w.cell? ⟨g, k * 4, none⟩ = some (.bool R[k].s) := by rw [Nat.mul_comm]; exact h.cell hk (j := 0) (by omega)
  have d1 : w.cell? ⟨g, k * 4 + 1, none⟩ = some (.slice R[k].A R[k].n R[k].c) := by rw [Nat.mul_comm]; exact h.cell hk (j := 1) (by omega)
  have d2 : w.cell? ⟨g, k * 4 + 2, none⟩ = some (.bool R[k].t) := by rw [Nat.mul_comm]; exact h.cell hk (j := 2) (by omega)
  have d3 : w.cell? ⟨g, k * 4 + 3, none⟩ = some (.slice R[k].B R[k].m R[k].d) := by rw [Nat.mul_comm]; exact h.cell hk (j := 3) (by omega)
  have f1 : ∀ o, w.frozen? ⟨g, o, none⟩ = false := h.free
  obtain ⟨h1, _⟩ := h.put hi R[k]
  have e0 : ∃ v, (put4 w g (i * 4) R[k]).cell? ⟨g, k * 4, none⟩ = some v := ⟨_, by rw [Nat.mul_comm k]; exact h1.cell (i := k) (by simpa using hk) (j := 0) (by omega)⟩
  have e1 : ∃ v, (put4 w g (i * 4) R[k]).cell? ⟨g, k * 4 + 1, none⟩ = some v := ⟨_, by rw [Nat.mul_comm k]; exact h1.cell (i := k) (by simpa using hk) (j := 1) (by omega)⟩
  have e2 : ∃ v, (put4 w g (i * 4) R[k]).cell? ⟨g, k * 4 + 2, none⟩ = some v := ⟨_, by rw [Nat.mul_comm k]; exact h1.cell (i := k) (by simpa using hk) (j := 2) (by omega)⟩
  have e3 : ∃ v, (put4 w g (i * 4) R[k]).cell? ⟨g, k * 4 + 3, none⟩ = some v := ⟨_, by rw [Nat.mul_comm k]; exact h1.cell (i := k) (by simpa using hk) (j := 3) (by omega)⟩
  unfold put4 at e0 e1 e2 e3
  obtain ⟨v0, e0⟩ := e0
  obtain ⟨v1, e1⟩ := e1
  obtain ⟨v2, e2⟩ := e2
  obtain ⟨v3, e3⟩ := e3
  have u1 : (0 : Int) ≤ (i : Int) := by omega
  have u2 : (i : Int) < (R.length : Int) := by omega
  have u3 : (0 : Int) ≤ (k : Int) := by omega
  have u4 : (k : Int) < (R.length : Int) := by omega
  have hne1 : ¬ p = g := fun e => h.ne e.symm
  have hne2 := h.ne
  have E := Lib.hid (csw_post (csw_end h hS hi hk) hb)
  clear h h1
  go_enter Tryz.func138, Tryz.ntmps138
  go_wp2
  go_region
  go_end0
  have E2 := E.out
  unfold put4 at E2
  with_reducible exact E2
end Go.Proofs.YtbcopicoldnahaaGreat
