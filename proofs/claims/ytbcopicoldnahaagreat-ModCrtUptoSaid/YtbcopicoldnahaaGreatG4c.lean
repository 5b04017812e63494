/-
  From the form's reading of a list of whole numbers to its values, and what its bulk bounds.
-/
import Derived.Test.YtbcopicoldnahaaGreatG4a
import Derived.Test.YtbcopicoldnahaaGreatRows
import Derived.Lib.SmallJoins
import Derived.ChangeSlices
import Derived.Deep.Slices
import Derived.Deep.Fields
import Derived.Deep.Matrix
/-! From the form's reading of a list of whole numbers to its values, and what its bulk bounds. -/
namespace Go.Proofs.YtbcopicoldnahaaGreat
open Go.Joins Go.ChangeShapes Go.WideShapes Go.RowKit Go.Deep
set_option linter.unusedVariables false
/-- The words of all. -/
def wsum : List Zin → Nat
  | [] => 0
  | x :: R => x.n + wsum R
theorem wsum_le {R : List Zin} {x : Zin} (h : x ∈ R) : x.n ≤ wsum R := by
  induction R with
  | nil => cases h
  | cons y R ih =>
    simp only [wsum]
    rcases List.mem_cons.1 h with e | e
    · subst e; omega
    · have := ih e; omega
theorem bulk_map {H : Type} (f : Nat → Zin) (D : Nat → DataW H) : ∀ l : List Nat, (∀ i, i ∈ l → (f i).n ≤ Rows.uptoBulk (D i)) → wsum (l.map f) ≤ Rows.uptoBulkAll (l.map D)
  | [], _ => Nat.zero_le _
  | i :: l, h => by
    simp only [List.map_cons, wsum, Rows.uptoBulkAll]
    have h1 := h i List.mem_cons_self
    have h2 := bulk_map f D l fun j hj => h j (List.mem_cons_of_mem _ hj)
    omega
theorem bulk_lits {H : Type} {k : IntKind} : ∀ zs : List Int, Rows.uptoBulkAll (H := H) (lits k zs) = zs.length
  | [] => by simp [lits, Rows.uptoBulkAll]
  | z :: zs => by
    have := bulk_lits (H := H) (k := k) zs
    simp only [lits, List.map_cons, Rows.uptoBulkAll, Rows.uptoBulk, List.length_cons] at this ⊢
    omega
section
variable {H : Type} {enc : TypeId × Value → H} {P : Program} {W : World} {base : Nat} {held : Bool}
theorem open_zrow {t e : TypeId} {f0 f1 : Field} {q : TypeId} {A : Option Addr} {n c : Nat} {d : DataW H} {ps : List MemPlace} (ht : P.underlying t = some (.slice e)) (he : P.underlying e = some (.struct #[f0, f1])) (hone : oneCellFields P #[f0, f1] = true) (hC : P.cellsOf e = 2)
    (hb : P.underlying f0.type = some .bool) (hs : P.underlying f1.type = some (.slice q)) (hq : P.underlying q = some (.int .u64)) (hc : P.cellsOf q = 1)
    (h : DataW.Trod enc P W base (fun _ => true) held t (.slice A n c) d ps) (hlt : ∀ x ∈ ps, x.block < W.heap.size) :
    ∃ R : List Zin, R.length = n ∧ ZRow W A R ∧ (∀ x, x ∈ R → Zv W x.s x.A x.n x.c x.z) ∧ wsum R + 1 ≤ Rows.uptoBulk d := by
  obtain ⟨fuel, hf⟩ := h
  rcases open_slice ht hf with ⟨hcs, hx⟩ | ⟨a, len, cap, m, n', D, Pl, hcs, hb0, hl, hm, hmm, hx, hi⟩
  · simp [Value.cells] at hcs
    obtain ⟨rfl, rfl, rfl⟩ := hcs
    exact ⟨[], rfl, fun h => by simp at h, fun x hx => (by cases hx), by simp only [Prod.mk.injEq] at hx; rw [hx.1]; simp [wsum, Rows.uptoBulk]⟩
  · simp [Value.cells] at hcs
    obtain ⟨rfl, rfl, rfl⟩ := hcs
    simp only [if_true] at hmm
    subst hmm
    rw [hC] at hi hx
    have each : ∀ i, i < m → ∃ y : Zin, W.cell? (a.add (i * 2)) = some (.bool y.s) ∧ W.cell? ⟨(a.add (i * 2)).block, (a.add (i * 2)).off + 1, none⟩ = some (.slice y.A y.n y.c) ∧ Zv W y.s y.A y.n y.c y.z ∧ y.n ≤ Rows.uptoBulk (D i) := by
      intro i him
      obtain ⟨cs', h1, h2⟩ := hi i him
      obtain ⟨_, h3, h4⟩ := World.cells?_some h1
      obtain ⟨xs, n'', _, hy, _, hlen, hg⟩ := DataW.trod_struct he h2
      obtain ⟨o0, k0⟩ := hone_of hone 0 f0 rfl
      obtain ⟨o1, k1⟩ := hone_of hone 1 f1 rfl
      match cs', h3 with
      | [v0, v1], _ =>
        match xs, hlen with
        | [y0, y1], _ =>
          have g0 := hg 0 f0 rfl
          have g1 := hg 1 f1 rfl
          rw [o0, k0] at g0
          rw [o1, k1] at g1
          simp at g0 g1
          have c0 : W.cell? (a.add (i * 2)) = some v0 := by have := h4 0 (by omega); simpa [Addr.add] using this
          have c1 : W.cell? ⟨(a.add (i * 2)).block, (a.add (i * 2)).off + 1, none⟩ = some v1 := by have := h4 1 (by omega); simpa [Addr.add] using this
          simp only [Prod.mk.injEq] at hy
          obtain ⟨s, hs0, _⟩ := DataW.trod_bool hb g0
          have hs0 : v0 = .bool s := by simpa using hs0
          subst hs0
          rcases open_ints hs hq hc g1 with ⟨hcs, hz⟩ | ⟨x, l, c, zs, hcs, _, hl', hm', hz, hdat, hcell, hwz⟩
          · have hcs : v1 = .slice none 0 0 := by simpa using hcs
            subst hcs
            obtain ⟨v, hv⟩ := (show IsRow .u64 W none 0 0 [] from .inl ⟨rfl, rfl, rfl, rfl⟩).nv
            exact ⟨⟨s, none, 0, 0, sg s v⟩, c0, c1, ⟨v, hv, Lib.hid rfl⟩, Nat.zero_le _⟩
          · have hcs : v1 = .slice (some x) l c := by simpa using hcs
            subst hcs
            obtain ⟨v, hv⟩ := (show IsRow .u64 W (some x) l c zs from .inr ⟨_, rfl, hl', hm', by simpa using hz, hcell, hwz⟩).nv
            refine ⟨⟨s, some x, l, c, sg s v⟩, c0, c1, ⟨v, hv, Lib.hid rfl⟩, ?_⟩
            show l ≤ _
            rw [hy.1]
            simp only [List.map_cons, List.map_nil, Rows.uptoBulk, Rows.uptoBulkAll]
            rw [hdat]
            simp only [Rows.uptoBulk]
            rw [bulk_lits]
            simp only [if_true] at hz
            have : (zs.take l).length = l := by simp; omega
            omega
    haveI : Inhabited Zin := ⟨nz⟩
    obtain ⟨y, hy⟩ := choose_lt each
    refine ⟨(List.range n).map y, by simp, fun h0 => ⟨a, rfl, ?_, fun j hj => ?_⟩, fun x hx => ?_, ?_⟩
    · simp at h0
      have h1 := (hy 0 (by omega)).1
      have := World.block_lt_of_cell? W _ h1
      rwa [add_block] at this
    · simp only [List.length_map, List.length_range] at hj
      have := hy j (by omega)
      simp only [List.getElem_map, List.getElem_range]
      exact ⟨this.1, this.2.1⟩
    · obtain ⟨j, hj, rfl⟩ := List.mem_map.1 hx
      exact (hy j (by have := List.mem_range.1 hj; omega)).2.2.1
    · simp only [Prod.mk.injEq] at hx
      rw [hx.1]
      simp only [Rows.uptoBulk]
      have := bulk_map y D (List.range n) fun i hi => (hy i (by have := List.mem_range.1 hi; omega)).2.2.2
      omega
end
theorem lcmL_le : ∀ L : List (Int × Int), lcmL L ≤ prodL L
  | [] => Nat.le_refl _
  | x :: L => Nat.le_trans (Nat.div_le_self _ _) (Nat.mul_le_mul_left _ (lcmL_le L))
theorem prodL_le {w : World} : ∀ (R M : List Zin), (∀ x, x ∈ M → Zv w x.s x.A x.n x.c x.z) → prodL (zprs R M) ≤ 18446744073709551616 ^ wsum M
  | [], M, _ => by
    have : zprs [] M = [] := by simp [zprs]
    rw [this]
    exact Nat.pow_pos (by omega)
  | x :: R, [], _ => by
    have : zprs (x :: R) [] = [] := by simp [zprs]
    rw [this]
    exact Nat.pow_pos (by omega)
  | x :: R, y :: M, h => by
    have h1 := prodL_le R M fun z hz => h z (List.mem_cons_of_mem _ hz)
    have h2 := (h y List.mem_cons_self).abs.1.lt
    have e : zprs (x :: R) (y :: M) = (x.z, y.z) :: zprs R M := by simp [zprs]
    rw [e]
    simp only [prodL, wsum]
    rw [Nat.pow_add]
    exact Nat.mul_le_mul (Nat.le_of_lt h2) h1
theorem lcm_bound {w : World} {R M : List Zin} (h : ∀ x, x ∈ M → Zv w x.s x.A x.n x.c x.z) : lcmL (zprs R M) < 18446744073709551616 ^ (wsum M + 1) := by
  have h1 := Nat.le_trans (lcmL_le _) (prodL_le R M h)
  have h2 : 0 < 18446744073709551616 ^ wsum M := Nat.pow_pos (by omega)
  rw [Nat.pow_succ]
  omega
end Go.Proofs.YtbcopicoldnahaaGreat
