/-
  RlO ZintO MatO Zapp RegN
-/
import Derived.Test.YtcdkdanfiimlkaaPk08
import Derived.Test.YtcdkdanfiimlkaaRows
import Derived.Lib.SmallJoins
import Derived.ChangeSlices
import Derived.Deep.Slices
import Derived.Deep.Fields
import Derived.Deep.Matrix
import Derived.Test.YtcdkdanfiimlkaaPk01
import Derived.Laws.AppendOwn
import Derived.Test.YtcdkdanfiimlkaaPk04
import Derived.Lib.Hide

section
/-! From the form's reading of a list of whole numbers to its values. -/
namespace Go.Proofs.Ytcdkdanfiimlkaa
open Go.Joins Go.ChangeShapes Go.WideShapes Go.RowKit Go.Deep
set_option linter.unusedVariables false
section
variable {H : Type} {enc : TypeId × Value → H} {P : Program} {W : World} {base : Nat} {held : Bool}
theorem open_rl {t e : TypeId} {f0 f1 : Field} {q : TypeId} {A : Option Addr} {n c : Nat} {d : DataW H} {ps : List MemPlace} (ht : P.underlying t = some (.slice e)) (he : P.underlying e = some (.struct #[f0, f1])) (hone : oneCellFields P #[f0, f1] = true) (hC : P.cellsOf e = 2)
    (hb : P.underlying f0.type = some .bool) (hs : P.underlying f1.type = some (.slice q)) (hq : P.underlying q = some (.int .u64)) (hc : P.cellsOf q = 1)
    (h : DataW.Trod enc P W base (fun _ => true) held t (.slice A n c) d ps) (hlt : ∀ x ∈ ps, x.block < W.heap.size) :
    ∃ R : List Zr, RL W A n c R := by
  obtain ⟨fuel, hf⟩ := h
  rcases open_slice ht hf with ⟨hcs, hx⟩ | ⟨a, len, cap, m, n', D, Pl, hcs, hb0, hl, hm, hmm, hx, hi⟩
  · simp [Value.cells] at hcs
    obtain ⟨rfl, rfl, rfl⟩ := hcs
    exact ⟨[], rfl, Nat.le_refl _, by omega, fun h => by omega, fun x hx => (by cases hx)⟩
  · simp [Value.cells] at hcs
    obtain ⟨rfl, rfl, rfl⟩ := hcs
    simp only [if_true] at hmm
    subst hmm
    rw [hC] at hi hx
    have each : ∀ i, i < m → ∃ y : Zr, W.cell? (a.add (i * 2)) = some (.bool y.s) ∧ W.cell? ⟨(a.add (i * 2)).block, (a.add (i * 2)).off + 1, none⟩ = some (.slice y.A y.n y.c) ∧ Zv W y.s y.A y.n y.c y.z := by
      intro i him
      obtain ⟨cs', h1, h2⟩ := hi i him
      obtain ⟨_, h3, h4⟩ := World.cells?_some h1
      obtain ⟨xs, n'', _, hy, _, hlen, hg⟩ := DataW.trod_struct he h2
      obtain ⟨o0, k0⟩ := hone_of hone 0 f0 rfl
      obtain ⟨o1, k1⟩ := hone_of hone 1 f1 rfl
      match cs', h3 with
      | [v0, v1], _ =>
        match xs, hlen with
        | [y0, y1], _ =>
          have g0 := hg 0 f0 rfl
          have g1 := hg 1 f1 rfl
          rw [o0, k0] at g0
          rw [o1, k1] at g1
          simp at g0 g1
          have c0 : W.cell? (a.add (i * 2)) = some v0 := by have := h4 0 (by omega); simpa [Addr.add] using this
          have c1 : W.cell? ⟨(a.add (i * 2)).block, (a.add (i * 2)).off + 1, none⟩ = some v1 := by have := h4 1 (by omega); simpa [Addr.add] using this
          simp only [Prod.mk.injEq] at hy
          obtain ⟨s, hs0, _⟩ := DataW.trod_bool hb g0
          have hs0 : v0 = .bool s := by simpa using hs0
          subst hs0
          rcases open_ints hs hq hc g1 with ⟨hcs, hz⟩ | ⟨x, l, c, zs, hcs, _, hl', hm', hz, hdat, hcell, hwz⟩
          · have hcs : v1 = .slice none 0 0 := by simpa using hcs
            subst hcs
            obtain ⟨v, hv⟩ := (show IsRow .u64 W none 0 0 [] from .inl ⟨rfl, rfl, rfl, rfl⟩).nv
            exact ⟨⟨s, none, 0, 0, sg s v⟩, c0, c1, ⟨v, hv, Lib.hid rfl⟩⟩
          · have hcs : v1 = .slice (some x) l c := by simpa using hcs
            subst hcs
            obtain ⟨v, hv⟩ := (show IsRow .u64 W (some x) l c zs from .inr ⟨_, rfl, hl', hm', by simpa using hz, hcell, hwz⟩).nv
            exact ⟨⟨s, some x, l, c, sg s v⟩, c0, c1, ⟨v, hv, Lib.hid rfl⟩⟩
    haveI : Inhabited Zr := ⟨nzr⟩
    obtain ⟨y, hy⟩ := choose_lt each
    have hg : ∀ j, j < n → ((List.range n).map y).getD j nzr = y j := fun j hj => by simp [List.getD, hj]
    refine ⟨(List.range n).map y, by simp, (by first | omega | (simp only [maxLen] at *; omega)), (by first | omega | (simp only [maxLen] at *; omega)), fun h0 => ⟨a, rfl, ?_, fun j hj => ?_⟩, fun x hx => ?_⟩
    · have h1 := (hy 0 (by omega)).1
      have := World.block_lt_of_cell? W _ h1
      rwa [add_block] at this
    · rw [hg j hj]
      have := hy j (by omega)
      exact ⟨this.1, this.2.1⟩
    · obtain ⟨j, hj, rfl⟩ := List.mem_map.1 hx
      exact (hy j (by have := List.mem_range.1 hj; omega)).2.2
end
end Go.Proofs.Ytcdkdanfiimlkaa
end

section
/-! From the form's reading of a struct of a bool and a slice of words to its value. -/
namespace Go.Proofs.Ytcdkdanfiimlkaa
open Go.Joins Go.ChangeShapes Go.WideShapes Go.RowKit Go.Deep
section
variable {H : Type} {enc : TypeId × Value → H} {P : Program} {W : World} {base : Nat} {held : Bool}
end
end Go.Proofs.Ytcdkdanfiimlkaa
end

section
/-! From the form's reading of matrices to their values. -/
namespace Go.Proofs.Ytcdkdanfiimlkaa
open Go.Joins Go.ChangeShapes Go.WideShapes Go.RowKit Go.Deep
set_option linter.unusedVariables false
section
variable {H : Type} {enc : TypeId × Value → H} {P : Program} {W : World} {base : Nat} {held : Bool}
theorem open_mat {r : Reach} {b0 : Nat} {t e : TypeId} {f0 f1 f2 g0 g1 : Field} {q : TypeId} {v : Value} {d : DataW H} {ps : List MemPlace} (ht : P.underlying t = some (.struct #[f0, f1, f2])) (hone : oneCellFields P #[f0, f1, f2] = true) (hC : P.cellsOf t = 3)
    (h0 : P.underlying f0.type = some (.int .i64)) (h1 : P.underlying f1.type = some (.int .i64)) (h2 : P.underlying f2.type = some (.slice e)) (he : P.underlying e = some (.struct #[g0, g1])) (hone2 : oneCellFields P #[g0, g1] = true) (hC2 : P.cellsOf e = 2)
    (hb : P.underlying g0.type = some .bool) (hs : P.underlying g1.type = some (.slice q)) (hq : P.underlying q = some (.int .u64)) (hc : P.cellsOf q = 1)
    (hv : Value.okWide P W r b0 t v) (h : DataW.Trod enc P W base (fun _ => true) held t v d ps) (hlt : ∀ x ∈ ps, x.block < W.heap.size) :
    ∃ (x y : Int) (A : Option Addr) (n c : Nat) (R : List Zr), v = .agg #[.int .i64 x, .int .i64 y, .slice A n c] ∧ RL W A n c R := by
  obtain ⟨v0, v1, v2, y0, y1, y2, m, rfl, _, hp, k0, k1, k2⟩ := open_agg3 ht hone hC hv h
  obtain ⟨x, hx, _, _⟩ := DataW.trod_int h0 k0
  obtain ⟨y, hy, _, _⟩ := DataW.trod_int h1 k1
  have hl2 : ∀ x ∈ y2.2, x.block < W.heap.size := fun x hx => hlt x (by rw [hp]; simp [hx])
  have hsl : ∃ A n c, v2 = .slice A n c := by
    rcases open_slice h2 k2 with ⟨hcs, _⟩ | ⟨a, len, cap, m, n', D, Pl, hcs, _⟩
    · exact ⟨none, 0, 0, by simpa using hcs⟩
    · exact ⟨some a, len, cap, by simpa using hcs⟩
  obtain ⟨A, n, c, rfl⟩ := hsl
  obtain ⟨R, hR⟩ := open_rl (d := y2.1) (ps := y2.2) h2 he hone2 hC2 hb hs hq hc ⟨m, by simpa [Value.cells] using k2⟩ hl2
  simp at hx hy
  subst hx hy
  exact ⟨x, y, A, n, c, R, rfl, hR⟩
end
end Go.Proofs.Ytcdkdanfiimlkaa
end

section
/-! append of a whole number to a row of the call's own. -/
namespace Go.Proofs.Ytcdkdanfiimlkaa
open Go.RowKit
set_option linter.unusedVariables false
set_option linter.unusedSimpArgs false

/-- No word. -/
def NWd (u : Value) : Prop := ∀ m : Int, u ≠ .int .u64 m
/-- A row that is owned, in a block without words. -/
def OwnN (w : World) (base : Nat) (e : TypeId) (v : Value) (n : Nat) (xs : List Value) : Prop :=
  w.ownsRow base e 2 v n xs ∧ ∀ g cs, v.ownBlock = some g → w.heap[g]? = some (.cells cs e (0, 0)) → ∀ u, u ∈ cs.toList → NWd u
theorem OwnN.wless {w : World} {base g : Nat} {e : TypeId} {v : Value} {n : Nat} {xs : List Value} (h : OwnN w base e v n xs) (hg : v.ownBlock = some g) : Wless w g := fun p m hp hc => by
  rcases h.1.2 with ⟨rfl, _⟩ | ⟨g', cap, cur, rfl, hb, hh, _⟩
  · cases hg
  · have e' : g' = g := by simpa [Value.ownBlock] using hg
    subst e'
    have e2 : cur[p.off]? = some (.int .u64 m) := by
      unfold World.cell? at hc
      rw [hp, hh] at hc
      exact (by simpa using hc : p.spot = none ∧ cur[p.off]? = some (.int .u64 m)).2
    exact h.2 g' cur hg hh (.int .u64 m) (by rw [← Array.getElem?_toList] at e2; exact List.mem_of_getElem? e2) m rfl
theorem zero_nwd {z : Array Value} (hs : z.size = 2) (hz : ∀ u, u ∈ z.toList → NWd u) (k : Nat) (u : Value) (hu : u ∈ (Builtin.zeroCells z k).toList) : NWd u := by
  unfold Builtin.zeroCells at hu
  rw [Array.toList_map, List.mem_map] at hu
  obtain ⟨i, hi, rfl⟩ := hu
  have hlt : i % z.size < z.size := Nat.mod_lt _ (by omega)
  rw [getElem!_pos z _ hlt]
  exact hz _ (Array.getElem_mem_toList hlt)
section
variable {P : Program} (w : World)
theorem run_append_n (base : Nat) (t ty e : TypeId) (i : TypeInfo) (z : Value) (bytes : Nat) (ht : P.underlying t = some (.slice e)) (hi : P.info? e = some i) (hz : i.zero = some z)
    (hsize : i.size = 2) (hby : i.bytes = bytes) (hzs : z.cells.size = 2) (hzn : ∀ u, u ∈ z.cells.toList → NWd u)
    (v : Value) (n : Nat) (xs : List Value) (hown : OwnN w base e v n xs)
    (a : Addr) (c : Nat) (news : List Value) (hl : news.length = 2) (hnews : ∀ j u, news[j]? = some u → w.cell? (a.add j) = some u) (h1 : ∀ u ∈ news, u.oneCell' = true) (hn : ∀ u, u ∈ news → NWd u)
    (h63 : n + 1 ≤ maxLen) (hbytes : (n + 1) * bytes ≤ 140737488355328) (hbase : base ≤ w.heap.size) :
    ∃ v' w', (Builtin.append_ #[t, t] ty #[v, .slice (some a) 1 c]).run P w = .ok v' w' ∧ OwnN w' base e v' (n + 1) (xs ++ news) ∧ w.grownBy w' v.ownBlock ∧ (v'.ownBlock = v.ownBlock ∨ v'.ownBlock = some w.heap.size) := by
  obtain ⟨v', w', hr, ho, hg, -⟩ := run_append_own (P := P) w base t ty e i z 2 bytes ht hi hz hsize hby hzs (by omega) v n xs hown.1 a 1 c news (by omega) hnews h1 h63 hbytes hbase
  suffices H : (∀ g cs, v'.ownBlock = some g → w'.heap[g]? = some (.cells cs e (0, 0)) → ∀ u, u ∈ cs.toList → NWd u) ∧ (v'.ownBlock = v.ownBlock ∨ v'.ownBlock = some w.heap.size) from ⟨v', w', hr, ⟨ho, H.1⟩, hg, H.2⟩
  have hsmall : n + 1 ≤ 9223372036854775807 := by simp only [maxLen] at h63; omega
  have zz := zero_nwd hzs hzn
  have fresh : ∀ (ys : List Value) (k : Nat) (cap : Nat), (∀ u, u ∈ ys → NWd u) → v' = .slice (some ⟨w.heap.size, 0, none⟩) (n + 1) cap → w' = w.drew.alloc (.cells (ys.toArray ++ news.toArray ++ Builtin.zeroCells z.cells k) e) →
      ∀ g cs, v'.ownBlock = some g → w'.heap[g]? = some (.cells cs e (0, 0)) → ∀ u, u ∈ cs.toList → NWd u := fun ys k cap hys e1 e2 g cs h2 h3 u hu => by
    subst e1 e2
    have e3 : w.heap.size = g := by simpa [Value.ownBlock] using h2
    subst e3
    have h9 : (w.drew.alloc (.cells (ys.toArray ++ news.toArray ++ Builtin.zeroCells z.cells k) e)).heap[w.heap.size]? = some (.cells (ys.toArray ++ news.toArray ++ Builtin.zeroCells z.cells k) e (0, 0)) := heap_alloc_new w.drew _
    rw [h9] at h3
    injection h3 with e4
    injection e4 with e5
    subst e5
    simp only [Array.toList_append, List.mem_append] at hu
    rcases hu with (hu | hu) | hu
    · exact hys u hu
    · exact hn u hu
    · exact zz k u hu
  rcases hown.1.2 with ⟨rfl, rfl⟩ | ⟨g, cap, cur, rfl, hbg, hh, hnc, hcm, hcs, htake⟩
  · have hr2 := run_append_nil (P := P) w t ty e i z ht hi hz a 1 c news (by omega) hnews (by omega) (by omega) (by simp only [Nat.zero_add] at hbytes; omega)
    rw [hr] at hr2
    injection hr2 with e1 e2
    exact ⟨fresh [] (grownCap w 1 0 e - 1) (grownCap w 1 0 e) (fun u hu => nomatch hu) e1 (by rw [e2]; simp), .inr (by rw [e1]; rfl)⟩
  · have hcur : ∀ u, u ∈ cur.toList → NWd u := hown.2 g cur rfl hh
    have hxs : ∀ u, u ∈ xs → NWd u := fun u hu => hcur u (by rw [← htake] at hu; exact List.mem_of_mem_take hu)
    by_cases hroom : n + 1 ≤ cap
    · have hfit : n * i.size + news.length ≤ cur.size := by rw [hl, hcs, hsize]; omega
      have hr2 := run_append_room (P := P) w t ty e i ht hi g n cap cur hh a 1 c news (by omega) hnews h1 hroom hfit
      rw [hr] at hr2
      injection hr2 with e1 e2
      refine ⟨?_, .inl (by rw [e1]; rfl)⟩
      intro g' cs h2 h3 u hu
      subst e1 e2
      have e3 : g = g' := by simpa [Value.ownBlock] using h2
      subst e3
      rw [setRow_heap w g cur _ e _ hh] at h3
      injection h3 with e4
      injection e4 with e5
      subst e5
      simp only [List.mem_append] at hu
      rcases hu with (hu | hu) | hu
      · exact hcur u (List.mem_of_mem_take hu)
      · exact hn u hu
      · exact hcur u (List.mem_of_mem_drop hu)
    · have holds : ∀ j u, xs[j]? = some u → w.cell? ((⟨g, 0, none⟩ : Addr).add j) = some u := hown.1.cells (g := g) rfl
      have hr2 := run_append_grow (P := P) w t ty e i z ht hi hz ⟨g, 0, none⟩ n cap xs (by rw [hown.1.1, hsize]) holds a 1 c news (by omega) hnews (by omega) (by omega) (growslice_fits (by omega) (by rw [hby]; exact hbytes))
      rw [hr] at hr2
      injection hr2 with e1 e2
      exact ⟨fresh xs _ _ hxs e1 e2, .inr (by rw [e1]; rfl)⟩
end
/-- A row of whole numbers that grows, in memory made since w0. -/
structure OwnZ (w0 w : World) (k : Nat) (v : Value) (zs : List Int) : Prop where
  row : ∃ vs : List Value, OwnN w w0.heap.size 28 v zs.length vs ∧ ∀ j, j < zs.length → ∃ s A n c, vs[j * 2]? = some (.bool s) ∧ vs[j * 2 + 1]? = some (.slice A n c) ∧ Zc w s A n c (ith zs j) ∧ n ≤ k
  old : Below w0.heap.size w0 w
theorem OwnZ.nil (w : World) (k : Nat) : OwnZ w w k (.slice none 0 0) [] := ⟨⟨[], ⟨World.ownsRow_nil w _ _ _, fun g cs h => nomatch h⟩, fun j hj => by simp at hj⟩, Below.refl _ _⟩
theorem OwnZ.below {w0 w w' : World} {k : Nat} {v : Value} {zs : List Int} (h : OwnZ w0 w k v zs) (hb : Below w.heap.size w w') : OwnZ w0 w' k v zs := by
  obtain ⟨⟨vs, ⟨h1, h2⟩, h3⟩, h4⟩ := h
  refine ⟨⟨vs, ⟨h1.kept (row := none) ⟨hb.os, hb.tape, hb.output, hb.size, fun k hk _ => hb.block k hk⟩ (by cases hv : v.ownBlock <;> simp), fun g cs hg hc => h2 g cs hg ?_⟩, fun j hj => ?_⟩, h4.trans (hb.mono h4.size)⟩
  · rw [← hb.block g (h1.lt g hg).2]; exact hc
  · obtain ⟨s, A, n, c, c1, c2, c3, c4⟩ := h3 j hj
    exact ⟨s, A, n, c, c1, c2, c3.below hb, c4⟩
theorem OwnZ.form {w0 w : World} {k : Nat} {v : Value} {zs : List Int} (h : OwnZ w0 w k v zs) : ∃ A c, v = .slice A zs.length c ∧ ∀ q, ZL q w A zs.length c k zs := by
  obtain ⟨⟨vs, ⟨h1, h2⟩, h3⟩, h4⟩ := h
  rcases h1.2 with ⟨rfl, e⟩ | ⟨g, cap, cur, rfl, hb, hh, hn, hm, hcs, ht⟩
  · rw [List.length_eq_zero_iff.1 e]
    exact ⟨none, 0, rfl, fun q => ZL.nil _ _ _⟩
  · refine ⟨_, cap, rfl, fun q => ⟨rfl, hn, by unfold maxLen at hm; omega, fun h0 => ⟨_, rfl, (Array.getElem?_eq_some_iff.1 hh).1, fun j hj => ?_⟩⟩⟩
    obtain ⟨s, A, n, c, c1, c2, c3, c4⟩ := h3 j hj
    have hc := h1.cells (g := g) rfl
    refine ⟨s, A, n, c, hc _ _ c1, ?_, .of c3, c4⟩
    have := hc _ _ c2
    rw [add_lit0] at this
    rw [add_lit0]
    exact this
/-- What becomes of the memory when a row v has grown to v'. -/
structure Grew (w w' : World) (v v' : Value) : Prop where
  by' : w.grownBy w' v.ownBlock
  now : ∀ g, v.ownBlock = some g → Wless w g
  to' : v'.ownBlock = v.ownBlock ∨ v'.ownBlock = some w.heap.size
theorem Grew.zc {w w' : World} {v v' : Value} (h : Grew w w' v v') {s : Bool} {A : Option Addr} {n c : Nat} {y : Int} (hy : Zc w s A n c y) : Zc w' s A n c y := by
  have h6 := h.by'
  cases hvb : v.ownBlock with
  | none => rw [hvb] at h6; exact hy.below ⟨h6.os, h6.tape, h6.output, h6.size, fun k hk => h6.block k hk (by simp)⟩
  | some g => rw [hvb] at h6; exact hy.gro (h.now g hvb) h6
/-- Two rows don't lie in one block. -/
def Dj (u v : Value) : Prop := u.ownBlock = none ∨ u.ownBlock ≠ v.ownBlock
theorem Dj.symm {u v : Value} (h : Dj u v) : Dj v u := by
  unfold Dj at *
  cases hv : v.ownBlock with
  | none => exact .inl rfl
  | some g =>
    right
    rw [hv] at h
    rcases h with h | h
    · rw [h]; simp
    · exact Ne.symm h
theorem OwnZ.other {w0 w w' : World} {k : Nat} {u v v' : Value} {ys : List Int} (h : OwnZ w0 w k u ys) (hG : Grew w w' v v') (hd : Dj u v) (hB : Below w0.heap.size w0 w') : OwnZ w0 w' k u ys ∧ Dj u v' := by
  obtain ⟨⟨vs, ⟨h1, h2⟩, h3⟩, h4⟩ := h
  refine ⟨⟨⟨vs, ⟨h1.kept hG.by' hd, fun g cs hg hc => h2 g cs hg ?_⟩, fun j hj => ?_⟩, hB⟩, ?_⟩
  · rw [← hG.by'.block g (h1.lt g hg).2 (by rw [← hg]; exact hd.resolve_left (by rw [hg]; simp))]; exact hc
  · obtain ⟨s, A, n, c, c1, c2, c3, c4⟩ := h3 j hj
    exact ⟨s, A, n, c, c1, c2, hG.zc c3, c4⟩
  · rcases hG.to' with e | e
    · unfold Dj; rw [e]; exact hd
    · unfold Dj
      rw [e]
      cases hu : u.ownBlock with
      | none => exact .inl rfl
      | some g => right; have := (h1.lt g hu).2; simp; omega
end Go.Proofs.Ytcdkdanfiimlkaa
end

section
/-! Regions of this program: their ends. -/
namespace Go.Proofs.Ytcdkdanfiimlkaa
open Go.RowKit
set_option linter.unusedVariables false
set_option linter.unusedSimpArgs false

/-- A goal that nothing lays open by itself. -/
structure Shut (p : Prop) : Prop where
  out : p
/-- What is to be shown behind a region, slot by slot. -/
def Ends (P : Program) (ops : Array Oper) (Q : Exit → Act → World → Prop) (m : Nat) (Fs : List FVal) (w : World) : Nat → List (Option Nat) → Act → Prop
  | _, [], a => Shut (wpList P ops Q (ops.toList.drop m) a w)
  | i, d :: ds, a => ∀ v, nthF Fs i v w → Ends P ops Q m Fs w (i + 1) ds (a.put d v)
theorem Ends.one {P : Program} {ops : Array Oper} {Q : Exit → Act → World → Prop} {m : Nat} {w : World} {Fs : List FVal} {i : Nat} {d : Option Nat} {ds : List (Option Nat)} {a : Act} (h : ∀ v, nthF Fs i v w → Ends P ops Q m Fs w (i + 1) ds (a.put d v)) : Ends P ops Q m Fs w i (d :: ds) a := h
theorem Ends.nil {P : Program} {ops : Array Oper} {Q : Exit → Act → World → Prop} {m : Nat} {w : World} {Fs : List FVal} {i : Nat} {a : Act} {l : List Oper} (hl : ops.toList.drop m = l) (h : wpList P ops Q l a w) : Ends P ops Q m Fs w i [] a := by
  unfold Ends; rw [hl]; exact ⟨h⟩
end Go.Proofs.Ytcdkdanfiimlkaa
end
