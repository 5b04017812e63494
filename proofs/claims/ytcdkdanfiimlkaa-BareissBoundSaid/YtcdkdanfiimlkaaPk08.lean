/-
  RegZ Ith ZlA Rls
-/
import Derived.Test.YtcdkdanfiimlkaaPk07
import Init
import Derived.Test.YtcdkdanfiimlkaaPk04

section
/-! Whole numbers in regions. -/
namespace Go.Proofs.Ytcdkdanfiimlkaa
open Go.RowKit
set_option linter.unusedVariables false
set_option linter.unusedSimpArgs false

theorem run_ldz {w : World} {g k : Nat} {s : Bool} {A : Option Addr} {n c : Nat} (h0 : w.cell? ⟨g, k, none⟩ = some (.bool s)) (h1 : w.cell? ⟨g, k + 1, none⟩ = some (.slice A n c)) :
    (Instr.loadAt 28 (.pointer (some ⟨g, k, none⟩))).run Try.prog w = .ok (.agg #[.bool s, .slice A n c]) w := by
  simp [go_sem, h0, h1]
def IsC (z : Int) (k : Nat) : FVal := fun v w => ∃ s A n c, v = .agg #[.bool s, .slice A n c] ∧ Zc w s A n c z ∧ n ≤ k
def IsV (z : Int) (k : Nat) : FVal := fun v w => ∃ s A n c, v = .agg #[.bool s, .slice A n c] ∧ Zv w s A n c z ∧ n ≤ k
theorem stay_v (z : Int) (k : Nat) : Stays (IsV z k) := fun v w w' ⟨s, A, n, c, e, h, hk⟩ hb => ⟨s, A, n, c, e, h.below hb, hk⟩
theorem stay_c (z : Int) (k : Nat) : Stays (IsC z k) := fun v w w' ⟨s, A, n, c, e, h, hk⟩ hb => ⟨s, A, n, c, e, h.below hb, hk⟩
end Go.Proofs.Ytcdkdanfiimlkaa
end

section
/-! The numbers of a list. -/
namespace Go.Proofs.Ytcdkdanfiimlkaa
/-- A number of a list; 0 behind the last one. -/
def ith (l : List Int) (i : Nat) : Int := l.getD i 0
end Go.Proofs.Ytcdkdanfiimlkaa
end

section
/-! Lists of whole numbers in memory. -/
namespace Go.Proofs.Ytcdkdanfiimlkaa
open Go.RowKit
set_option linter.unusedVariables false
set_option linter.unusedSimpArgs false

theorem addr_add0 (a : Addr) : a.add 0 = a := by
  obtain ⟨b, o, i⟩ := a
  cases i <;> rfl
theorem gro_of {w w' : World} (h : Below w.heap.size w w') (r : Option Nat) : w.grownBy w' r := ⟨h.os, h.tape, h.output, h.size, fun k hk _ => h.block k hk⟩
theorem gro_refl (w : World) (r : Option Nat) : w.grownBy w r := gro_of (Below.refl _ _) r
theorem gro_trans {a b c : World} {r : Option Nat} (h : a.grownBy b r) (k : b.grownBy c r) : a.grownBy c r :=
  ⟨k.os.trans h.os, k.tape.trans h.tape, k.output.trans h.output, Nat.le_trans h.size k.size, fun i hi hn => (k.block i (Nat.lt_of_lt_of_le hi h.size) hn).trans (h.block i hi hn)⟩
theorem gro_set {w w' : World} {g : Nat} {q : Addr} (h : w.grownBy w' (some g)) (hq : q.block = g) (u : Value) : w.grownBy (w'.setCell q u) (some g) := by
  obtain ⟨b, o, n⟩ := q
  exact ⟨h.os, h.tape, h.output, by simpa using h.size, fun k hk hne => (Below.heap_setCell _ _ _ _ (fun e => hne (by rw [e]; simp only at hq ⊢; rw [hq]))).trans (h.block k hk hne)⟩
theorem gro_up {w0 w w' : World} {g : Nat} (hb : Below w0.heap.size w0 w) (h : w.grownBy w' (some g)) (hg : w0.heap.size ≤ g) : Below w0.heap.size w0 w' :=
  hb.trans ⟨h.os, h.tape, h.output, h.size, fun k hk => h.block k (by have := hb.size; omega) (fun e => by have := Option.some.inj e; omega)⟩

/-! ### What holds no word -/
/-- Block g holds no word. -/
def Wless (w : World) (g : Nat) : Prop := ∀ (p : Addr) (m : Int), p.block = g → w.cell? p ≠ some (.int .u64 m)
theorem Rd.gro {w w' : World} {A : Option Addr} {xs : List Nat} {g : Nat} (h : Rd w .u64 A xs) (hn : Wless w g) (hg : w.grownBy w' (some g)) : Rd w' .u64 A xs := fun h0 => by
  have h1 := h
  obtain ⟨ad, rfl, hlt, hc⟩ := h h0
  refine (h1.grown hg fun ad' e e2 => ?_) h0
  cases e
  obtain rfl : ad.block = g := Option.some.inj e2
  exact hn _ _ (by rw [add_block]) (hc 0 h0)
theorem Cv.gro {w w' : World} {A : Option Addr} {n c x g : Nat} (h : Cv w A n c x) (hn : Wless w g) (hg : w.grownBy w' (some g)) : Cv w' A n c x := ⟨h.1.gro hn hg, h.2⟩
theorem Nv.gro {w w' : World} {A : Option Addr} {n c x g : Nat} (h : Nv w A n c x) (hn : Wless w g) (hg : w.grownBy w' (some g)) : Nv w' A n c x := by
  obtain ⟨xs, h1, h2⟩ := h
  exact ⟨xs, h1.gro hn hg, h2⟩
theorem Zv.gro {w w' : World} {s : Bool} {A : Option Addr} {n c g : Nat} {z : Int} (h : Zv w s A n c z) (hn : Wless w g) (hg : w.grownBy w' (some g)) : Zv w' s A n c z := by
  obtain ⟨v, h1, h2⟩ := h
  exact ⟨v, h1.gro hn hg, h2⟩
theorem Zc.gro {w w' : World} {s : Bool} {A : Option Addr} {n c g : Nat} {z : Int} (h : Zc w s A n c z) (hn : Wless w g) (hg : w.grownBy w' (some g)) : Zc w' s A n c z := ⟨h.1.gro hn hg, h.2⟩
theorem Ib.gro {w w' : World} {b g : Nat} {s : Bool} {A : Option Addr} {n c : Nat} (h : Ib w b s A n c) (hg : w.grownBy w' (some g)) (hne : b ≠ g) : Ib w' b s A n c := by
  obtain ⟨h1, h2, h3, h4, h5⟩ := h
  have e := hg.block b h5 (fun e => hne (Option.some.inj e))
  exact ⟨(World.cell?_of_block (a := ⟨b, 0, none⟩) e).trans h1, (World.cell?_of_block (a := ⟨b, 1, none⟩) e).trans h2, (World.frozen?_of_block (a := ⟨b, 0, none⟩) e).trans h3, (World.frozen?_of_block (a := ⟨b, 1, none⟩) e).trans h4, Nat.lt_of_lt_of_le h5 hg.size⟩

/-! ### Elements -/
/-- An element of a list: normal, if q says so. -/
def Ze (q : Bool) (w : World) (s : Bool) (A : Option Addr) (n c : Nat) (z : Int) : Prop := Zv w s A n c z ∧ (q = true → Zc w s A n c z)
section
variable {q : Bool} {w w' : World} {s : Bool} {A : Option Addr} {n c g : Nat} {z : Int}
theorem Ze.below (h : Ze q w s A n c z) (hb : Below w.heap.size w w') : Ze q w' s A n c z := ⟨h.1.below hb, fun e => (h.2 e).below hb⟩
theorem Ze.gro (h : Ze q w s A n c z) (hn : Wless w g) (hg : w.grownBy w' (some g)) : Ze q w' s A n c z := ⟨h.1.gro hn hg, fun e => (h.2 e).gro hn hg⟩
theorem Ze.of (h : Zc w s A n c z) : Ze q w s A n c z := ⟨h.zv, fun _ => h⟩
end
/-- A whole number lies at p. -/
def ZAt (q : Bool) (w : World) (p : Addr) (k : Nat) (z : Int) : Prop :=
  ∃ s A n c, w.cell? p = some (.bool s) ∧ w.cell? ⟨p.block, p.off + 1, none⟩ = some (.slice A n c) ∧ Ze q w s A n c z ∧ n ≤ k
theorem run_ldzA {w : World} {p : Addr} {s : Bool} {A : Option Addr} {n c : Nat} (h0 : w.cell? p = some (.bool s)) (h1 : w.cell? ⟨p.block, p.off + 1, none⟩ = some (.slice A n c)) :
    (Instr.loadAt 28 (.pointer (some p))).run Try.prog w = .ok (.agg #[.bool s, .slice A n c]) w := by
  simp [go_sem, Addr.add, h0, h1]
/-- A list of whole numbers, none of more than k words; all of them normal, if q says so. -/
structure ZL (q : Bool) (w : World) (A : Option Addr) (n c k : Nat) (zs : List Int) : Prop where
  len : zs.length = n
  le : n ≤ c
  cap : c ≤ 9223372036854775807
  at' : 0 < n → ∃ ad, A = some ad ∧ ad.block < w.heap.size ∧ ∀ j, j < n → ZAt q w (ad.add (j * 2)) k (ith zs j)
section
variable {q : Bool} {w w' : World} {A : Option Addr} {n c k g : Nat} {zs : List Int}
theorem ZAt.below {p : Addr} {z : Int} (h : ZAt q w p k z) (hp : p.block < w.heap.size) (hb : Below w.heap.size w w') : ZAt q w' p k z := by
  obtain ⟨s, A, n, c, h1, h2, h3, h4⟩ := h
  exact ⟨s, A, n, c, (hb.cell hp).trans h1, (hb.cell (p := ⟨p.block, p.off + 1, none⟩) hp).trans h2, h3.below hb, h4⟩
theorem ZAt.gro {p : Addr} {z : Int} (h : ZAt q w p k z) (hp : p.block < w.heap.size) (hne : p.block ≠ g) (hn : Wless w g) (hg : w.grownBy w' (some g)) : ZAt q w' p k z := by
  obtain ⟨s, A, n, c, h1, h2, h3, h4⟩ := h
  have e := hg.block p.block hp (fun e => hne (Option.some.inj e))
  exact ⟨s, A, n, c, (World.cell?_of_block e).trans h1, (World.cell?_of_block (a := ⟨p.block, p.off + 1, none⟩) e).trans h2, h3.gro hn hg, h4⟩
theorem ZAt.mono {p : Addr} {z : Int} {k' : Nat} (h : ZAt q w p k z) (hk : k ≤ k') : ZAt q w p k' z := by
  obtain ⟨s, A, n, c, h1, h2, h3, h4⟩ := h
  exact ⟨s, A, n, c, h1, h2, h3, Nat.le_trans h4 hk⟩
theorem ZL.nil (q : Bool) (w : World) (k : Nat) : ZL q w none 0 0 k [] := ⟨rfl, Nat.le_refl _, by omega, fun h => by omega⟩
theorem ZL.below (h : ZL q w A n c k zs) (hb : Below w.heap.size w w') : ZL q w' A n c k zs := ⟨h.len, h.le, h.cap, fun h0 => by
  obtain ⟨ad, rfl, h1, h2⟩ := h.at' h0
  exact ⟨ad, rfl, Nat.lt_of_lt_of_le h1 hb.size, fun j hj => (h2 j hj).below (by rw [add_block]; exact h1) hb⟩⟩
theorem ZL.gro (h : ZL q w A n c k zs) (hne : ∀ ad, A = some ad → ad.block ≠ g) (hn : Wless w g) (hg : w.grownBy w' (some g)) : ZL q w' A n c k zs := ⟨h.len, h.le, h.cap, fun h0 => by
  obtain ⟨ad, rfl, h1, h2⟩ := h.at' h0
  exact ⟨ad, rfl, Nat.lt_of_lt_of_le h1 hg.size, fun j hj => (h2 j hj).gro (by rw [add_block]; exact h1) (by rw [add_block]; exact hne ad rfl) hn hg⟩⟩
theorem ZL.mono {k' : Nat} (h : ZL q w A n c k zs) (hk : k ≤ k') : ZL q w A n c k' zs := ⟨h.len, h.le, h.cap, fun h0 => by
  obtain ⟨ad, rfl, h1, h2⟩ := h.at' h0
  exact ⟨ad, rfl, h1, fun j hj => (h2 j hj).mono hk⟩⟩
theorem ZL.at (h : ZL q w A n c k zs) {j : Nat} (hj : j < n) : ∃ ad, A = some ad ∧ ad.block < w.heap.size ∧ ZAt q w (ad.add (j * 2)) k (ith zs j) := by
  obtain ⟨ad, e, h1, h2⟩ := h.at' (by omega)
  exact ⟨ad, e, h1, h2 j hj⟩
theorem ZL.elem {ad : Addr} (h : ZL q w (some ad) n c k zs) {j : Nat} (hj : j < n) : ZAt q w (ad.add (j * 2)) k (ith zs j) := by
  obtain ⟨ad', e, h1, h2⟩ := h.at' (by omega)
  cases e; exact h2 j hj
theorem ith_take {l : List Int} {m j : Nat} (h : j < m) : ith (l.take m) j = ith l j := by simp [ith, List.getD, h]
theorem ith_drop (l : List Int) (m j : Nat) : ith (l.drop m) j = ith l (m + j) := by simp [ith, List.getD, List.getElem?_drop]
theorem ZL.take {m d : Nat} (h : ZL q w A n c k zs) (hm : m ≤ n) (hd : m ≤ d) (hc : d ≤ 9223372036854775807) : ZL q w A m d k (zs.take m) := ⟨by rw [List.length_take, h.len]; omega, hd, hc, fun h0 => by
  obtain ⟨ad, rfl, h1, h2⟩ := h.at' (by omega)
  exact ⟨ad, rfl, h1, fun j hj => by rw [ith_take hj]; exact h2 j (by omega)⟩⟩
theorem ZL.drop {m d : Nat} {ad : Addr} (h : ZL q w (some ad) n c k zs) (hm : m ≤ n) (hd : n - m ≤ d) (hc : d ≤ 9223372036854775807) : ZL q w (some (ad.add (m * 2))) (n - m) d k (zs.drop m) := ⟨by rw [List.length_drop, h.len], hd, hc, fun h0 => by
  obtain ⟨ad', e, h1, h2⟩ := h.at' (by omega)
  cases e
  exact ⟨_, rfl, by rw [add_block]; exact h1, fun j hj => by rw [ith_drop, add_add, ← Nat.add_mul]; exact h2 (m + j) (by omega)⟩⟩
end

/-! ### Whole blocks -/
/-- The block g holds just these whole numbers, normal ones, none of more than k words. -/
def ZB (w : World) (g k : Nat) (zs : List Int) : Prop :=
  ∃ cs : Array Value, w.heap[g]? = some (.cells cs 28 (0, 0)) ∧ cs.size = zs.length * 2 ∧ ∀ j, j < zs.length → ∃ s A n c, cs[j * 2]? = some (.bool s) ∧ cs[j * 2 + 1]? = some (.slice A n c) ∧ Zc w s A n c (ith zs j) ∧ n ≤ k
/-- A whole number is written into a block. -/
def zputo (w : World) (g o : Nat) (s : Bool) (A : Option Addr) (n c : Nat) : World := (w.setCell ⟨g, o, none⟩ (.bool s)).setCell ⟨g, o + 1, none⟩ (.slice A n c)
section
variable {w w' : World} {g k b : Nat} {zs : List Int}
theorem ZB.lt (h : ZB w g k zs) : g < w.heap.size := by
  obtain ⟨cs, h1, _⟩ := h
  exact (Array.getElem?_eq_some_iff.1 h1).1
theorem ZB.now (h : ZB w g k zs) : Wless w g := fun p m hp e => by
  obtain ⟨cs, h1, h2, h3⟩ := h
  have e2 : cs[p.off]? = some (.int .u64 m) := by
    have := e
    unfold World.cell? at this
    rw [hp, h1] at this
    exact (by simpa using this : p.spot = none ∧ cs[p.off]? = some (.int .u64 m)).2
  have hlt : p.off < cs.size := (Array.getElem?_eq_some_iff.1 e2).1
  rw [h2] at hlt
  obtain ⟨s, A, n, c, c1, c2, _⟩ := h3 (p.off / 2) (by omega)
  rcases (by omega : p.off = p.off / 2 * 2 ∨ p.off = p.off / 2 * 2 + 1) with ho | ho
  · rw [ho, c1] at e2; cases e2
  · rw [ho, c2] at e2; cases e2
theorem ZB.below (h : ZB w g k zs) (hb : Below w.heap.size w w') : ZB w' g k zs := by
  have hl := h.lt
  obtain ⟨cs, h1, h2, h3⟩ := h
  refine ⟨cs, (hb.block g hl).trans h1, h2, fun j hj => ?_⟩
  obtain ⟨s, A, n, c, c1, c2, c3, c4⟩ := h3 j hj
  exact ⟨s, A, n, c, c1, c2, c3.below hb, c4⟩
theorem ZB.gro (h : ZB w g k zs) (hne : g ≠ b) (hn : Wless w b) (hg : w.grownBy w' (some b)) : ZB w' g k zs := by
  have hl := h.lt
  obtain ⟨cs, h1, h2, h3⟩ := h
  refine ⟨cs, (hg.block g hl (fun e => hne (Option.some.inj e))).trans h1, h2, fun j hj => ?_⟩
  obtain ⟨s, A, n, c, c1, c2, c3, c4⟩ := h3 j hj
  exact ⟨s, A, n, c, c1, c2, c3.gro hn hg, c4⟩
theorem ZB.mono {k' : Nat} (h : ZB w g k zs) (hk : k ≤ k') : ZB w g k' zs := by
  obtain ⟨cs, h1, h2, h3⟩ := h
  refine ⟨cs, h1, h2, fun j hj => ?_⟩
  obtain ⟨s, A, n, c, c1, c2, c3, c4⟩ := h3 j hj
  exact ⟨s, A, n, c, c1, c2, c3, Nat.le_trans c4 hk⟩
theorem ZB.cells (h : ZB w g k zs) {j : Nat} (hj : j < zs.length) : ∃ s A n c, w.cell? ⟨g, j * 2, none⟩ = some (.bool s) ∧ w.cell? ⟨g, j * 2 + 1, none⟩ = some (.slice A n c) ∧ Zc w s A n c (ith zs j) ∧ n ≤ k := by
  obtain ⟨cs, h1, h2, h3⟩ := h
  obtain ⟨s, A, n, c, c1, c2, c3, c4⟩ := h3 j hj
  exact ⟨s, A, n, c, by rw [cell_of_row w g _ _ _ _ h1, c1], by rw [cell_of_row w g _ _ _ _ h1, c2], c3, c4⟩
theorem ZB.free (h : ZB w g k zs) (j : Nat) : w.frozen? ⟨g, j, none⟩ = false := by
  obtain ⟨cs, h1, h2, h3⟩ := h
  exact frozen_of_row w g j _ _ h1
theorem zputo_gro (w : World) (g o : Nat) (s : Bool) (A : Option Addr) (n c : Nat) : w.grownBy (zputo w g o s A n c) (some g) := by
  unfold zputo
  exact gro_set (q := ⟨g, o + 1, none⟩) (gro_set (q := ⟨g, o, none⟩) (gro_refl w (some g)) rfl _) rfl _
theorem ith_set (l : List Int) (j i : Nat) (z : Int) (hj : j < l.length) : ith (l.set j z) i = if i = j then z else ith l i := by
  by_cases e : i = j
  · subst e; rw [if_pos rfl]; simp [ith, List.getD, hj]
  · rw [if_neg e]; simp [ith, List.getD, List.getElem?_set_ne (Ne.symm e)]
theorem ZB.put (h : ZB w g k zs) {j n c : Nat} (hj : j < zs.length) {s : Bool} {A : Option Addr} {z : Int} (hz : Zc w s A n c z) (hn : n ≤ k) : ZB (zputo w g (j * 2) s A n c) g k (zs.set j z) := by
  have hno := h.now
  have hgr := zputo_gro w g (j * 2) s A n c
  obtain ⟨cs, h1, h2, h3⟩ := h
  refine ⟨(cs.setIfInBounds (j * 2) (.bool s)).setIfInBounds (j * 2 + 1) (.slice A n c), ?_, by simp [h2], fun i hi => ?_⟩
  · unfold zputo
    rw [heap_setCell_same _ g _ _ _ _ (heap_setCell_same w g _ _ _ _ h1)]
  · rw [List.length_set] at hi
    by_cases e : i = j
    · subst e
      refine ⟨s, A, n, c, ?_, ?_, ?_, hn⟩
      · rw [Array.getElem?_setIfInBounds_ne (by omega), Array.getElem?_setIfInBounds_self_of_lt (by omega)]
      · rw [Array.getElem?_setIfInBounds_self_of_lt (by simp; omega)]
      · rw [ith_set _ _ _ _ hj, if_pos rfl]; exact hz.gro hno hgr
    · obtain ⟨s', A', n', c', c1, c2, c3, c4⟩ := h3 i hi
      refine ⟨s', A', n', c', ?_, ?_, ?_, c4⟩
      · rw [Array.getElem?_setIfInBounds_ne (by omega), Array.getElem?_setIfInBounds_ne (by omega)]; exact c1
      · rw [Array.getElem?_setIfInBounds_ne (by omega), Array.getElem?_setIfInBounds_ne (by omega)]; exact c2
      · rw [ith_set _ _ _ _ hj, if_neg e]; exact c3.gro hno hgr
/-- A part of a block, read as a list. -/
theorem ZB.zl (h : ZB w g k zs) (q : Bool) {o n c : Nat} (hn : o + n ≤ zs.length) (hc : n ≤ c) (hm : c ≤ 9223372036854775807) : ZL q w (some ⟨g, o * 2, none⟩) n c k ((zs.drop o).take n) := by
  refine ⟨by rw [List.length_take, List.length_drop]; omega, hc, hm, fun h0 => ⟨_, rfl, h.lt, fun j hj => ?_⟩⟩
  rw [add_lit, ← Nat.add_mul]
  obtain ⟨s, A, n', c', c1, c2, c3, c4⟩ := h.cells (j := o + j) (by omega)
  refine ⟨s, A, n', c', c1, c2, .of ?_, c4⟩
  rw [ith_take hj, ith_drop]; exact c3
theorem ZB.zl0 (h : ZB w g k zs) (q : Bool) {n c : Nat} (hn : n ≤ zs.length) (hc : n ≤ c) (hm : c ≤ 9223372036854775807) : ZL q w (some ⟨g, 0, none⟩) n c k (zs.take n) := by
  have := h.zl q (o := 0) (by omega) hc hm
  rwa [List.drop_zero, Nat.zero_mul] at this
end
theorem info_zint : (Try.prog.info? 28).map (fun i => (i.zero, i.size, i.bytes)) = some (some (.agg #[.bool false, .slice none 0 0]), 2, 32) := by kernel_rfl
theorem Zc.nought (w : World) : Zc w false none 0 0 0 := by
  have e : cn 18446744073709551616 (Int.natAbs 0) = [] := cn_zero _
  refine ⟨?_, Lib.hid (by decide)⟩
  unfold Cv
  rw [e]
  exact ⟨Rd.nil _ _ _, rfl, by omega, by omega⟩
theorem ZB.made (w : World) (n : Nat) : ZB (w.alloc (.cells (madeCells #[.bool false, .slice none 0 0] (n * 2)) 28)) w.heap.size 0 (List.replicate n 0) := by
  refine ⟨_, heap_alloc_new w _, by simp [size_madeCells], fun j hj => ?_⟩
  rw [List.length_replicate] at hj
  refine ⟨false, none, 0, 0, ?_, ?_, ?_, Nat.le_refl _⟩
  · rw [Array.getElem?_eq_some_iff]
    refine ⟨by rw [size_madeCells]; omega, ?_⟩
    simp [madeCells]
  · rw [Array.getElem?_eq_some_iff]
    refine ⟨by rw [size_madeCells]; omega, ?_⟩
    have : (j * 2 + 1) % 2 = 1 := by omega
    simp [madeCells, this]
  · rw [show ith (List.replicate n 0) j = 0 by simp [ith, List.getD, hj]]
    exact Zc.nought _
/-- make of a list of whole numbers. -/
theorem wpList_make_z {P : Program} (w : World) {ops : Array Oper} {rest : List Oper} {o : Oper} {a : Act} {Q : Exit → Act → World → Prop}
    (hg : o.guard = none) (l c : Operand) (t : TypeId) (hop : o.op = Op.makeSlice t l c)
    (ht : P.underlying t = some (.slice 28)) (hinfo : (P.info? 28).map (fun i => (i.zero, i.size, i.bytes)) = some (some (.agg #[.bool false, .slice none 0 0]), 2, 32))
    (kl kc : IntKind) (L C : Int) (n : Nat) (hl : a.eval l = .int kl L) (hc : a.eval c = .int kc C) (hL : L = (n : Int)) (hC : C = (n : Int)) (hbytes : n ≤ 8796093022208)
    (hK : ∀ w', ZB w' w.heap.size 0 (List.replicate n 0) → Below w.heap.size w w' → w'.heap.size = w.heap.size + 1 → wpList P ops Q rest (a.put o.dst (.slice (some ⟨w.heap.size, 0, none⟩) n n)) w') :
    wpList P ops Q (o :: rest) a w := by
  subst hL hC
  obtain ⟨i, hi, hz0, hz1, hz2⟩ := info_parts hinfo
  have hrun := run_make (P := P) w t 28 i (.agg #[.bool false, .slice none 0 0]) ht hi hz0 kl kc (n : Int) (n : Int) (by omega) (Int.le_refl _) (by rw [hz2]; omega) (by omega)
  refine wpList_plain hg fun K hK' => ?_
  unfold Oper.wp
  simp [execOp, hop, hl, hc, hrun, Result.andThen]
  refine hK' _ _ (hK _ ?_ ((Below.refl _ _).alloc (Nat.le_refl _) _) (by simp))
  rw [hz1]
  exact ZB.made w n
end Go.Proofs.Ytcdkdanfiimlkaa
end

section
/-! Lists of whole numbers that came in; of a size that is looked at. -/
namespace Go.Proofs.Ytcdkdanfiimlkaa
open Go.RowKit
set_option linter.unusedVariables false
set_option linter.unusedSimpArgs false

/-- A whole number of a list that came in. -/
structure Zr where
  s : Bool
  A : Option Addr
  n : Nat
  c : Nat
  z : Int
def nzr : Zr := ⟨false, none, 0, 0, 0⟩
/-- The numbers of a list that came in, as they lie. -/
structure RL (w : World) (A : Option Addr) (n c : Nat) (R : List Zr) : Prop where
  len : R.length = n
  le : n ≤ c
  cap : c ≤ 9223372036854775807
  at' : 0 < n → ∃ ad, A = some ad ∧ ad.block < w.heap.size ∧ ∀ j, j < n → w.cell? (ad.add (j * 2)) = some (.bool (R.getD j nzr).s) ∧ w.cell? ⟨(ad.add (j * 2)).block, (ad.add (j * 2)).off + 1, none⟩ = some (.slice (R.getD j nzr).A (R.getD j nzr).n (R.getD j nzr).c)
  num : ∀ x, x ∈ R → Zv w x.s x.A x.n x.c x.z
theorem RL.below {w w' : World} {A : Option Addr} {n c : Nat} {R : List Zr} (h : RL w A n c R) (hb : Below w.heap.size w w') : RL w' A n c R := ⟨h.len, h.le, h.cap, fun h0 => by
  obtain ⟨ad, rfl, h1, h2⟩ := h.at' h0
  exact ⟨ad, rfl, Nat.lt_of_lt_of_le h1 hb.size, fun j hj => ⟨(hb.cell (by rw [add_block]; exact h1)).trans (h2 j hj).1, (hb.cell (p := ⟨(ad.add (j * 2)).block, (ad.add (j * 2)).off + 1, none⟩) (by show (ad.add (j * 2)).block < _; rw [add_block]; exact h1)).trans (h2 j hj).2⟩⟩, fun x hx => (h.num x hx).below hb⟩
/-- Its numbers. -/
def nums (R : List Zr) : List Int := R.map (·.z)
theorem RL.zl {w : World} {A : Option Addr} {n c k : Nat} {R : List Zr} (h : RL w A n c R) (hk : ∀ j, j < n → (R.getD j nzr).n ≤ k) : ZL false w A n c k (nums R) := ⟨by unfold nums; rw [List.length_map]; exact h.len, h.le, h.cap, fun h0 => by
  obtain ⟨ad, rfl, h1, h2⟩ := h.at' h0
  refine ⟨ad, rfl, h1, fun j hj => ?_⟩
  have hl : j < R.length := by rw [h.len]; exact hj
  have e : R.getD j nzr = R[j] := by simp [List.getD, hl]
  have e2 : ith (nums R) j = R[j].z := by simp [ith, nums, List.getD, hl]
  obtain ⟨c1, c2⟩ := h2 j hj
  refine ⟨_, _, _, _, c1, c2, ⟨?_, fun e => nomatch e⟩, hk j hj⟩
  rw [e, e2]
  exact h.num _ (List.getElem_mem hl)⟩
/-- It is of a size that is looked at. -/
def Fw (R : List Zr) (N W : Nat) : Prop := R.length ≤ N ∧ ∀ j, j < R.length → j < 100 → (R.getD j nzr).n ≤ W
theorem fw_all {R : List Zr} {N W : Nat} (h : Fw R N W) (hN : N ≤ 100) (j : Nat) (hj : j < R.length) : (R.getD j nzr).n ≤ W := h.2 j hj (by have := h.1; omega)
instance (R : List Zr) (N W : Nat) : Decidable (Fw R N W) := by unfold Fw; infer_instance
def fwb (R : List Zr) (N W : Nat) : Bool := decide (Fw R N W)
theorem fwb_true {R : List Zr} {N W : Nat} (h : Fw R N W) : fwb R N W = true := by unfold fwb; exact decide_eq_true h
theorem fwb_false {R : List Zr} {N W : Nat} (h : ¬ Fw R N W) : fwb R N W = false := by unfold fwb; exact decide_eq_false h
theorem of_fwb {R : List Zr} {N W : Nat} (h : fwb R N W = true) : Fw R N W := by unfold fwb at h; exact of_decide_eq_true h
set_option maxRecDepth 100000 in
set_option maxHeartbeats 1000000 in
/-- The reference's Few. -/
theorem rfew10_v {A : Option Addr} {n c N W : Nat} {R : List Zr} {b : Bool} {w : World} (hx : RL w A n c R) (hN : N ≤ 1000) (hW' : W ≤ 1000) (hb : fwb R N W = b) :
    Calls Try.prog 85 #[.slice A n c, .int .i64 (N : Int), .int .i64 (W : Int)] w (fun e w' => e = .returned (.bool b) ∧ Below w.heap.size w w') := by
  have HX0 := Lib.hid hx
  have HN := Lib.hid hx.len
  have Hb := Lib.hid hb
  have hnc := hx.le
  have hcm := hx.cap
  clear hx hb
  go_enter Try.func85, Try.ntmps85
  go_wp2_with fail
  go_loopw [7] (fun s7 wr => ∃ j : Nat, s7 = .int .i64 (j : Int) ∧ j ≤ n ∧ Hid (∀ i, i < j → (R.getD i nzr).n ≤ W) ∧ wr = w) (fun s7 _ => n - (intOf s7).toNat)
  case atStart => exact ⟨0, rfl, Nat.zero_le _, Lib.hid fun i hi => by omega, rfl⟩
  case round =>
    obtain ⟨j, rfl, hj, HE, rfl⟩ := hrel
    by_cases hlt : j < n
    · have u2 : (j : Int) < (n : Int) := by omega
      by_cases h100 : j < 100
      · have u3 : (j : Int) < 100 := by omega
        have u1 : (0 : Int) ≤ (j : Int) := by omega
        obtain ⟨ad, rfl, hab, hc⟩ := HX0.out.at' (by omega)
        obtain ⟨c1, c2⟩ := hc j hlt
        obtain ⟨x, hx⟩ : ∃ x, R.getD j nzr = x := ⟨_, rfl⟩
        rw [hx] at c1 c2
        have HX := Lib.hid hx
        clear hc hab hx
        by_cases hw : x.n ≤ W
        · have u4 : ¬ (W : Int) < (x.n : Int) := by omega
          have HE2 : Hid (∀ i, i < j + 1 → (R.getD i nzr).n ≤ W) := Lib.hid fun i hi => by
            rcases Nat.lt_or_ge i j with h | h
            · exact HE.out i h
            · rw [show i = j by omega, HX.out]; exact hw
          clear hw
          go_wp2_with fail
          go_roundw
          case rel => exact ⟨j + 1, by go_num, by omega, HE2, trivial⟩
          case measure => first | (simp [intOf]; done) | (simp [intOf]; omega)
        · have u4 : (W : Int) < (x.n : Int) := by omega
          have hbf : b = false := by
            rw [← Hb.out]
            exact fwb_false fun h => hw (by rw [← HX.out]; exact h.2 j (by rw [HN.out]; exact hlt) h100)
          have HBF := Lib.hid hbf
          clear hbf hw
          go_wp2_with fail
          exact bodyPost_ret (v := .bool false) (by simp [results, Try.results85, go_sem]) rfl ⟨by rw [HBF.out], Below.refl _ _⟩
      · have u3 : ¬ (j : Int) < 100 := by omega
        obtain ⟨t, ht⟩ : ∃ t, decide ((n : Int) ≤ (N : Int)) = t := ⟨_, rfl⟩
        have hbt : b = t := by
          rw [← Hb.out, ← ht]
          by_cases hnN : n ≤ N
          · rw [decide_eq_true (by omega)]
            exact fwb_true ⟨by rw [HN.out]; exact hnN, fun i hi h1 => HE.out i (by omega)⟩
          · rw [decide_eq_false (by omega)]
            exact fwb_false fun h => hnN (by have := h.1; rw [HN.out] at this; exact this)
        have HBT := Lib.hid hbt
        have HTT := Lib.hid ht
        clear hbt ht
        go_wp2_with fail
        exact bodyPost_ret (v := .bool (decide ((n : Int) ≤ (N : Int)))) (by simp [results, Try.results85, go_sem]) rfl ⟨by rw [HBT.out, HTT.out], Below.refl _ _⟩
    · obtain rfl : j = n := by omega
      have u3 : ¬ (j : Int) < (j : Int) := by omega
      obtain ⟨t, ht⟩ : ∃ t, decide ((j : Int) ≤ (N : Int)) = t := ⟨_, rfl⟩
      have hbt : b = t := by
        rw [← Hb.out, ← ht]
        by_cases hnN : j ≤ N
        · rw [decide_eq_true (by omega)]
          exact fwb_true ⟨by rw [HN.out]; exact hnN, fun i hi h1 => HE.out i (by rw [HN.out] at hi; exact hi)⟩
        · rw [decide_eq_false (by omega)]
          exact fwb_false fun h => hnN (by have := h.1; rw [HN.out] at this; exact this)
      have HBT := Lib.hid hbt
      have HTT := Lib.hid ht
      clear hbt ht
      go_wp2_with fail
      exact bodyPost_ret (v := .bool (decide ((j : Int) ≤ (N : Int)))) (by simp [results, Try.results85, go_sem]) rfl ⟨by rw [HBT.out, HTT.out], Below.refl _ _⟩
end Go.Proofs.Ytcdkdanfiimlkaa
end
