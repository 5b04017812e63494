/-
  Fractions in memory; loads and new variables, by value.
-/
import Derived.Test.YtfpncmhaoadfdaaGreatZintG
import Derived.Test.YtfpncmhaoadfdaaGreatRegI
/-! Fractions in memory. -/
namespace Go.Proofs.YtfpncmhaoadfdaaGreat
open Go.RowKit
set_option linter.unusedVariables false
set_option linter.unusedSimpArgs false

theorem run_ldz {w : World} {g k : Nat} {s : Bool} {A : Option Addr} {n c : Nat} (h0 : w.cell? ⟨g, k, none⟩ = some (.bool s)) (h1 : w.cell? ⟨g, k + 1, none⟩ = some (.slice A n c)) :
    (Instr.loadAt 25 (.pointer (some ⟨g, k, none⟩))).run Tryz.prog w = .ok (.agg #[.bool s, .slice A n c]) w := by
  simp [go_sem, h0, h1]
theorem run_ldq {w : World} {g : Nat} {s t : Bool} {A B : Option Addr} {n c m d : Nat} (h0 : w.cell? ⟨g, 0, none⟩ = some (.bool s)) (h1 : w.cell? ⟨g, 1, none⟩ = some (.slice A n c)) (h2 : w.cell? ⟨g, 2, none⟩ = some (.bool t)) (h3 : w.cell? ⟨g, 3, none⟩ = some (.slice B m d)) :
    (Instr.loadAt 27 (.pointer (some ⟨g, 0, none⟩))).run Tryz.prog w = .ok (.agg #[.bool s, .slice A n c, .bool t, .slice B m d]) w := by
  simp [go_sem, h0, h1, h2, h3]
theorem run_allocz (w : World) : (Instr.alloc 25 true (.tuple #[])).run Tryz.prog w = .ok (.pointer (some ⟨w.heap.size, 0, none⟩)) (w.alloc (.cells #[.bool false, .slice none 0 0] 25)) := by
  simp [go_sem]
theorem run_allocq (w : World) : (Instr.alloc 27 true (.tuple #[])).run Tryz.prog w = .ok (.pointer (some ⟨w.heap.size, 0, none⟩)) (w.alloc (.cells #[.bool false, .slice none 0 0, .bool false, .slice none 0 0] 27)) := by
  simp [go_sem]
/-- What a new variable of each type is. -/
def zeroOf (T : TypeId) : Obj := if T = 27 then .cells #[.bool false, .slice none 0 0, .bool false, .slice none 0 0] 27 else .cells #[.bool false, .slice none 0 0] 25
theorem run_alloc {T : TypeId} (h : (T == 27 || T == 25) = true) (w : World) : (Instr.alloc T true (.tuple #[])).run Tryz.prog w = .ok (.pointer (some ⟨w.heap.size, 0, none⟩)) (w.alloc (zeroOf T)) := by
  simp only [Bool.or_eq_true, beq_iff_eq] at h
  rcases h with rfl | rfl
  · exact run_allocq w
  · exact run_allocz w

theorem zc_nought (w : World) : Zc w false none 0 0 0 := ⟨⟨Rd.nil _ _ _, rfl, Nat.le_refl _, by omega⟩, Lib.hid rfl⟩
/-- A fraction in memory. -/
def Rb (w : World) (g : Nat) (s : Bool) (A : Option Addr) (n c : Nat) (t : Bool) (B : Option Addr) (m d : Nat) : Prop :=
  w.cell? ⟨g, 0, none⟩ = some (.bool s) ∧ w.cell? ⟨g, 1, none⟩ = some (.slice A n c) ∧ w.cell? ⟨g, 2, none⟩ = some (.bool t) ∧ w.cell? ⟨g, 3, none⟩ = some (.slice B m d) ∧
    w.frozen? ⟨g, 0, none⟩ = false ∧ w.frozen? ⟨g, 1, none⟩ = false ∧ w.frozen? ⟨g, 2, none⟩ = false ∧ w.frozen? ⟨g, 3, none⟩ = false ∧ g < w.heap.size
section
variable {w w' : World} {g g' : Nat} {s t s' t' s0 t0 : Bool} {A B A' B' A0 B0 : Option Addr} {n c m d n' c' m' d' n0 c0 m0 d0 : Nat}
theorem Rb.below (h : Rb w g s A n c t B m d) (hb : Below w.heap.size w w') : Rb w' g s A n c t B m d := by
  obtain ⟨h1, h2, h3, h4, f1, f2, f3, f4, h5⟩ := h
  exact ⟨(hb.cell (p := ⟨g, 0, none⟩) h5).trans h1, (hb.cell (p := ⟨g, 1, none⟩) h5).trans h2, (hb.cell (p := ⟨g, 2, none⟩) h5).trans h3, (hb.cell (p := ⟨g, 3, none⟩) h5).trans h4,
    (hb.frozen (p := ⟨g, 0, none⟩) h5).trans f1, (hb.frozen (p := ⟨g, 1, none⟩) h5).trans f2, (hb.frozen (p := ⟨g, 2, none⟩) h5).trans f3, (hb.frozen (p := ⟨g, 3, none⟩) h5).trans f4, Nat.lt_of_lt_of_le h5 hb.size⟩
theorem Rb.new (w : World) (s : Bool) (A : Option Addr) (n c : Nat) (t : Bool) (B : Option Addr) (m d : Nat) (T : TypeId) : Rb (w.alloc (.cells #[.bool s, .slice A n c, .bool t, .slice B m d] T)) w.heap.size s A n c t B m d := by
  refine ⟨?_, ?_, ?_, ?_, ?_, ?_, ?_, ?_, ?_⟩ <;> simp [go_sem]
theorem Ib.entry {T : TypeId} (h : w.heap[g]? = some (.cells #[.bool s, .slice A n c] T)) : Ib w g s A n c := by
  refine ⟨?_, ?_, frozen_of_row w g 0 _ _ h, frozen_of_row w g 1 _ _ h, (Array.getElem?_eq_some_iff.1 h).1⟩
  · rw [cell_of_row w g 0 _ _ (0, 0) h]; rfl
  · rw [cell_of_row w g 1 _ _ (0, 0) h]; rfl
theorem Rb.entry {T : TypeId} (h : w.heap[g]? = some (.cells #[.bool s, .slice A n c, .bool t, .slice B m d] T)) : Rb w g s A n c t B m d := by
  refine ⟨?_, ?_, ?_, ?_, frozen_of_row w g 0 _ _ h, frozen_of_row w g 1 _ _ h, frozen_of_row w g 2 _ _ h, frozen_of_row w g 3 _ _ h, (Array.getElem?_eq_some_iff.1 h).1⟩
  · rw [cell_of_row w g 0 _ _ (0, 0) h]; rfl
  · rw [cell_of_row w g 1 _ _ (0, 0) h]; rfl
  · rw [cell_of_row w g 2 _ _ (0, 0) h]; rfl
  · rw [cell_of_row w g 3 _ _ (0, 0) h]; rfl
/-- The fraction is written to g. -/
def rput (w : World) (g : Nat) (s : Bool) (A : Option Addr) (n c : Nat) (t : Bool) (B : Option Addr) (m d : Nat) : World := (((w.setCell ⟨g, 0, none⟩ (.bool s)).setCell ⟨g, 1, none⟩ (.slice A n c)).setCell ⟨g, 2, none⟩ (.bool t)).setCell ⟨g, 3, none⟩ (.slice B m d)
theorem below_rput {b : Nat} {w w2 : World} (h : Below b w w2) (hg : b ≤ g) : Below b w (rput w2 g s A n c t B m d) := (((h.setCell hg _).setCell hg _).setCell hg _).setCell hg _
theorem Rb.own (h : Rb w g s A n c t B m d) : Rb (rput w g s' A' n' c' t' B' m' d') g s' A' n' c' t' B' m' d' := by
  obtain ⟨h1, h2, h3, h4, f1, f2, f3, f4, h5⟩ := h
  refine ⟨?_, ?_, ?_, ?_, ?_, ?_, ?_, ?_, ?_⟩ <;> simp [rput, go_sem, h1, h2, h3, h4, f1, f2, f3, f4, h5]
theorem Rb.rput (h : Rb w g s A n c t B m d) (hg : g ≠ g') : Rb (rput w g' s' A' n' c' t' B' m' d') g s A n c t B m d := by
  obtain ⟨h1, h2, h3, h4, f1, f2, f3, f4, h5⟩ := h
  refine ⟨?_, ?_, ?_, ?_, ?_, ?_, ?_, ?_, ?_⟩ <;> simp [Go.Proofs.YtfpncmhaoadfdaaGreat.rput, go_sem, hg, Ne.symm hg, h1, h2, h3, h4, f1, f2, f3, f4, h5]
theorem Rb.zput (h : Rb w g s A n c t B m d) (hg : g ≠ g') : Rb (zput w g' s' A' n' c') g s A n c t B m d := by
  obtain ⟨h1, h2, h3, h4, f1, f2, f3, f4, h5⟩ := h
  refine ⟨?_, ?_, ?_, ?_, ?_, ?_, ?_, ?_, ?_⟩ <;> simp [Go.Proofs.YtfpncmhaoadfdaaGreat.zput, go_sem, hg, Ne.symm hg, h1, h2, h3, h4, f1, f2, f3, f4, h5]
theorem Ib.rput (h : Ib w g s A n c) (hg : g ≠ g') : Ib (rput w g' s' A' n' c' t' B' m' d') g s A n c := by
  obtain ⟨h1, h2, f1, f2, h5⟩ := h
  refine ⟨?_, ?_, ?_, ?_, ?_⟩ <;> simp [Go.Proofs.YtfpncmhaoadfdaaGreat.rput, go_sem, hg, Ne.symm hg, h1, h2, f1, f2, h5]
theorem Ib.zput (h : Ib w g s A n c) (hg : g ≠ g') : Ib (zput w g' s' A' n' c') g s A n c := h.put (l := 0) (e := 0) (u := true) (C := none) hg
theorem Rd.rput {xs : List Nat} (h : Rd w .u64 A xs) (hi : Rb w g s0 A0 n0 c0 t0 B0 m0 d0) : Rd (rput w g s' A' n' c' t' B' m' d') .u64 A xs := by
  obtain ⟨a1, a2, a3, a4, -⟩ := hi
  refine (((h.other a1 (fun m e => by cases e)).other (u := .slice A0 n0 c0) ?_ (fun m e => by cases e)).other (u := .bool t0) ?_ (fun m e => by cases e)).other (u := .slice B0 m0 d0) ?_ (fun m e => by cases e)
  · rw [World.cell?_setCell_other (h := by simp)]; exact a2
  · rw [World.cell?_setCell_other (h := by simp), World.cell?_setCell_other (h := by simp)]; exact a3
  · rw [World.cell?_setCell_other (h := by simp), World.cell?_setCell_other (h := by simp), World.cell?_setCell_other (h := by simp)]; exact a4
theorem Zc.rput {z : Int} (h : Zc w s A n c z) (hi : Rb w g s0 A0 n0 c0 t0 B0 m0 d0) : Zc (rput w g s' A' n' c' t' B' m' d') s A n c z := ⟨⟨h.1.1.rput hi, h.1.2⟩, h.2⟩
theorem Zv.rput {z : Int} (h : Zv w s A n c z) (hi : Rb w g s0 A0 n0 c0 t0 B0 m0 d0) : Zv (rput w g s' A' n' c' t' B' m' d') s A n c z := by
  obtain ⟨v, ⟨xs, h1, h2⟩, h3⟩ := h
  exact ⟨v, ⟨xs, h1.rput hi, h2⟩, h3⟩
theorem Zc.zput {z : Int} (h : Zc w s A n c z) (hi : Ib w g s0 A0 n0 c0) : Zc (zput w g s' A' n' c') s A n c z := h.put hi
theorem Zv.zput {z : Int} (h : Zv w s A n c z) (hi : Ib w g s0 A0 n0 c0) : Zv (zput w g s' A' n' c') s A n c z := h.put hi

/-- A normal fraction of the number q. -/
def Qc (w : World) (s : Bool) (A : Option Addr) (n c : Nat) (t : Bool) (B : Option Addr) (m d : Nat) (q : Rat) : Prop := Zc w s A n c q.num ∧ Zc w t B m d (q.den : Int)
theorem Qc.below {q : Rat} (h : Qc w s A n c t B m d q) (hb : Below w.heap.size w w') : Qc w' s A n c t B m d q := ⟨h.1.below hb, h.2.below hb⟩
theorem Qc.rput {q : Rat} (h : Qc w s A n c t B m d q) (hi : Rb w g s0 A0 n0 c0 t0 B0 m0 d0) : Qc (rput w g s' A' n' c' t' B' m' d') s A n c t B m d q := ⟨h.1.rput hi, h.2.rput hi⟩
theorem Qc.zput {q : Rat} (h : Qc w s A n c t B m d q) (hi : Ib w g s0 A0 n0 c0) : Qc (zput w g s' A' n' c') s A n c t B m d q := ⟨h.1.zput hi, h.2.zput hi⟩
theorem Qc.nv {q : Rat} (h : Qc w s A n c t B m d q) : Zv w s A n c q.num := h.1.zv
theorem Qc.dv {q : Rat} (h : Qc w s A n c t B m d q) : Zv w t B m d (q.den : Int) := h.2.zv
end
/-- A normal fraction is answered. -/
def QPost (q : Rat) (k : Nat) (w : World) (e : Ending) (w' : World) : Prop :=
  ∃ s A n c t B m d, e = .returned (.agg #[.bool s, .slice A n c, .bool t, .slice B m d]) ∧ Qc w' s A n c t B m d q ∧ n ≤ k ∧ m ≤ k ∧ Below w.heap.size w w'
/-- A normal fraction is answered, and whether there is one. -/
def QbPost (q : Rat) (b : Bool) (k : Nat) (w : World) (e : Ending) (w' : World) : Prop :=
  ∃ s A n c t B m d, e = .returned (.tuple #[.agg #[.bool s, .slice A n c, .bool t, .slice B m d], .bool b]) ∧ Qc w' s A n c t B m d q ∧ n ≤ k ∧ m ≤ k ∧ Below w.heap.size w w'
theorem qfin {w w2 : World} {g k n c m d n0 c0 m0 d0 : Nat} {s t s0 t0 : Bool} {A B A0 B0 : Option Addr} {q : Rat} (h : Qc w2 s A n c t B m d q) (hi : Rb w2 g s0 A0 n0 c0 t0 B0 m0 d0) (hn : n ≤ k) (hm : m ≤ k) (hg : w.heap.size ≤ g) (hB : Below w.heap.size w w2) :
    QPost q k w (.returned (.agg #[.bool s, .slice A n c, .bool t, .slice B m d])) (rput w2 g s A n c t B m d) :=
  ⟨s, A, n, c, t, B, m, d, rfl, h.rput hi, hn, hm, below_rput hB hg⟩
theorem qbfin {w w2 : World} {g k n c m d n0 c0 m0 d0 : Nat} {s t s0 t0 b : Bool} {A B A0 B0 : Option Addr} {q : Rat} (h : Qc w2 s A n c t B m d q) (hi : Rb w2 g s0 A0 n0 c0 t0 B0 m0 d0) (hn : n ≤ k) (hm : m ≤ k) (hg : w.heap.size ≤ g) (hB : Below w.heap.size w w2) :
    QbPost q b k w (.returned (.tuple #[.agg #[.bool s, .slice A n c, .bool t, .slice B m d], .bool b])) (rput w2 g s A n c t B m d) :=
  ⟨s, A, n, c, t, B, m, d, rfl, h.rput hi, hn, hm, below_rput hB hg⟩

/-! ### What a call in such a region answers -/
def IsC (z : Int) (k : Nat) : FVal := fun v w => ∃ s A n c, v = .agg #[.bool s, .slice A n c] ∧ Zc w s A n c z ∧ n ≤ k
def IsQ (q : Rat) (k : Nat) : FVal := fun v w => ∃ s A n c t B m d, v = .agg #[.bool s, .slice A n c, .bool t, .slice B m d] ∧ Qc w s A n c t B m d q ∧ n ≤ k ∧ m ≤ k
def IsK (u : Value) : FVal := fun v _ => v = u
def IsR (N D : Int) (k : Nat) : FVal := fun v w => ∃ s A n c t B m d, v = .agg #[.bool s, .slice A n c, .bool t, .slice B m d] ∧ Zv w s A n c N ∧ Zv w t B m d D ∧ n ≤ k ∧ m ≤ k
theorem stay_r (N D : Int) (k : Nat) : Stays (IsR N D k) := fun v w w' ⟨s, A, n, c, t, B, m, d, e, h, h', hk⟩ hb => ⟨s, A, n, c, t, B, m, d, e, h.below hb, h'.below hb, hk⟩
/-- A fraction that counts is answered. -/
def RPost (N D : Int) (k : Nat) (w : World) (e : Ending) (w' : World) : Prop :=
  ∃ s A n c t B m d, e = .returned (.agg #[.bool s, .slice A n c, .bool t, .slice B m d]) ∧ Zv w' s A n c N ∧ Zv w' t B m d D ∧ n ≤ k ∧ m ≤ k ∧ Below w.heap.size w w'
theorem rfinq {w w2 : World} {g k n c m d n0 c0 m0 d0 : Nat} {s t s0 t0 : Bool} {A B A0 B0 : Option Addr} {N D : Int} (h : Zv w2 s A n c N) (h' : Zv w2 t B m d D) (hi : Rb w2 g s0 A0 n0 c0 t0 B0 m0 d0) (hn : n ≤ k) (hm : m ≤ k) (hg : w.heap.size ≤ g) (hB : Below w.heap.size w w2) :
    RPost N D k w (.returned (.agg #[.bool s, .slice A n c, .bool t, .slice B m d])) (rput w2 g s A n c t B m d) :=
  ⟨s, A, n, c, t, B, m, d, rfl, h.rput hi, h'.rput hi, hn, hm, below_rput hB hg⟩
def IsV (z : Int) (k : Nat) : FVal := fun v w => ∃ s A n c, v = .agg #[.bool s, .slice A n c] ∧ Zv w s A n c z ∧ n ≤ k
theorem stay_v (z : Int) (k : Nat) : Stays (IsV z k) := fun v w w' ⟨s, A, n, c, e, h, hk⟩ hb => ⟨s, A, n, c, e, h.below hb, hk⟩
theorem stay_c (z : Int) (k : Nat) : Stays (IsC z k) := fun v w w' ⟨s, A, n, c, e, h, hk⟩ hb => ⟨s, A, n, c, e, h.below hb, hk⟩
theorem stay_q (q : Rat) (k : Nat) : Stays (IsQ q k) := fun v w w' ⟨s, A, n, c, t, B, m, d, e, h, hk⟩ hb => ⟨s, A, n, c, t, B, m, d, e, h.below hb, hk⟩
theorem stay_k (u : Value) : Stays (IsK u) := fun v w w' h hb => h
theorem ent7 {f : FuncId} (h : (match Tryz.prog.funcs[f]? with | some fn => !(fn.name == "runtime.NumGoroutine") && fn.body.isSome | none => false) = true) (args : Array Value) (w : World) : (callFunc f args).run Tryz.prog w = .ok (.enter f args) w := by
  cases hf : Tryz.prog.funcs[f]? with
  | none => rw [hf] at h; cases h
  | some fn =>
    rw [hf] at h
    simp only [Bool.and_eq_true, Bool.not_eq_true'] at h
    obtain ⟨h1, h2⟩ := h
    have h3 : fn.name ≠ "runtime.NumGoroutine" := by simpa using h1
    obtain ⟨c, hc⟩ := Option.isSome_iff_exists.1 h2
    simp [callFunc, hf, h3, hc, mark]
def okT (T : TypeId) : Bool := T == 27 || T == 25
theorem region7 {ops : Array Oper} {Q : Exit → Act → World → Prop} {id : Nat} {a0 : Act} {w0 : World} (fl : List Nat) (m : Nat) (Fs : List FVal) (hQ : ∀ c a d v w, Q (.panic c) (a.put d v) w → Q (.panic c) a w)
    (hok : regionOk ops fl m a0.tmps.size = true) (hzl : (allocTs ops m).all okT = true)
    (hg : (List.range m).all (fun k => ((ops[k]?).bind isAlloc).isNone || ((ops[k]?).map (·.guard)) == some none) = true)
    (hs : StayAll Fs) (hops : HopAll Tryz.prog ops Q fl m a0 w0 Fs 0 (ops.toList.take m))
    (hend : ∀ w, Below w0.heap.size w0 w → EndAll Tryz.prog ops Q m w0 zeroOf Fs w [] 0 (ops.toList.take m) a0) : (Code.region id ops true).wp Tryz.prog Q a0 w0 :=
  wp_region_two fl m Fs zeroOf (by kernel_rfl) hQ hok okT hzl (fun T h w => run_alloc h w) hg hs hops hend
end Go.Proofs.YtfpncmhaoadfdaaGreat
