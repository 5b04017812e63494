/-
  append of a whole number to a row that the call owns.
-/
import Derived.Test.YtcdkdanfiimlkaaZlA
import Derived.Laws.AppendOwn
/-! append of a whole number to a row of the call's own. -/
namespace Go.Proofs.Ytcdkdanfiimlkaa
open Go.RowKit
set_option linter.unusedVariables false
set_option linter.unusedSimpArgs false

/-- No word. -/
def NWd (u : Value) : Prop := ∀ m : Int, u ≠ .int .u64 m
/-- A row that is owned, in a block without words. -/
def OwnN (w : World) (base : Nat) (e : TypeId) (v : Value) (n : Nat) (xs : List Value) : Prop :=
  w.ownsRow base e 2 v n xs ∧ ∀ g cs, v.ownBlock = some g → w.heap[g]? = some (.cells cs e (0, 0)) → ∀ u, u ∈ cs.toList → NWd u
theorem OwnN.wless {w : World} {base g : Nat} {e : TypeId} {v : Value} {n : Nat} {xs : List Value} (h : OwnN w base e v n xs) (hg : v.ownBlock = some g) : Wless w g := fun p m hp hc => by
  rcases h.1.2 with ⟨rfl, _⟩ | ⟨g', cap, cur, rfl, hb, hh, _⟩
  · cases hg
  · have e' : g' = g := by simpa [Value.ownBlock] using hg
    subst e'
    have e2 : cur[p.off]? = some (.int .u64 m) := by
      unfold World.cell? at hc
      rw [hp, hh] at hc
      exact (by simpa using hc : p.spot = none ∧ cur[p.off]? = some (.int .u64 m)).2
    exact h.2 g' cur hg hh (.int .u64 m) (by rw [← Array.getElem?_toList] at e2; exact List.mem_of_getElem? e2) m rfl
theorem zero_nwd {z : Array Value} (hs : z.size = 2) (hz : ∀ u, u ∈ z.toList → NWd u) (k : Nat) (u : Value) (hu : u ∈ (Builtin.zeroCells z k).toList) : NWd u := by
  unfold Builtin.zeroCells at hu
  rw [Array.toList_map, List.mem_map] at hu
  obtain ⟨i, hi, rfl⟩ := hu
  have hlt : i % z.size < z.size := Nat.mod_lt _ (by omega)
  rw [getElem!_pos z _ hlt]
  exact hz _ (Array.getElem_mem_toList hlt)
section
variable {P : Program} (w : World)
theorem run_append_n (base : Nat) (t ty e : TypeId) (i : TypeInfo) (z : Value) (bytes : Nat) (ht : P.underlying t = some (.slice e)) (hi : P.info? e = some i) (hz : i.zero = some z)
    (hsize : i.size = 2) (hby : i.bytes = bytes) (hzs : z.cells.size = 2) (hzn : ∀ u, u ∈ z.cells.toList → NWd u)
    (v : Value) (n : Nat) (xs : List Value) (hown : OwnN w base e v n xs)
    (a : Addr) (c : Nat) (news : List Value) (hl : news.length = 2) (hnews : ∀ j u, news[j]? = some u → w.cell? (a.add j) = some u) (h1 : ∀ u ∈ news, u.oneCell' = true) (hn : ∀ u, u ∈ news → NWd u)
    (h63 : n + 1 ≤ maxLen) (hbytes : (n + 1) * bytes ≤ 140737488355328) (hbase : base ≤ w.heap.size) :
    ∃ v' w', (Builtin.append_ #[t, t] ty #[v, .slice (some a) 1 c]).run P w = .ok v' w' ∧ OwnN w' base e v' (n + 1) (xs ++ news) ∧ w.grownBy w' v.ownBlock ∧ (v'.ownBlock = v.ownBlock ∨ v'.ownBlock = some w.heap.size) := by
  obtain ⟨v', w', hr, ho, hg, -⟩ := run_append_own (P := P) w base t ty e i z 2 bytes ht hi hz hsize hby hzs (by omega) v n xs hown.1 a 1 c news (by omega) hnews h1 h63 hbytes hbase
  suffices H : (∀ g cs, v'.ownBlock = some g → w'.heap[g]? = some (.cells cs e (0, 0)) → ∀ u, u ∈ cs.toList → NWd u) ∧ (v'.ownBlock = v.ownBlock ∨ v'.ownBlock = some w.heap.size) from ⟨v', w', hr, ⟨ho, H.1⟩, hg, H.2⟩
  have hsmall : n + 1 ≤ 9223372036854775807 := by simp only [maxLen] at h63; omega
  have zz := zero_nwd hzs hzn
  have fresh : ∀ (ys : List Value) (k : Nat) (cap : Nat), (∀ u, u ∈ ys → NWd u) → v' = .slice (some ⟨w.heap.size, 0, none⟩) (n + 1) cap → w' = w.drew.alloc (.cells (ys.toArray ++ news.toArray ++ Builtin.zeroCells z.cells k) e) →
      ∀ g cs, v'.ownBlock = some g → w'.heap[g]? = some (.cells cs e (0, 0)) → ∀ u, u ∈ cs.toList → NWd u := fun ys k cap hys e1 e2 g cs h2 h3 u hu => by
    subst e1 e2
    have e3 : w.heap.size = g := by simpa [Value.ownBlock] using h2
    subst e3
    have h9 : (w.drew.alloc (.cells (ys.toArray ++ news.toArray ++ Builtin.zeroCells z.cells k) e)).heap[w.heap.size]? = some (.cells (ys.toArray ++ news.toArray ++ Builtin.zeroCells z.cells k) e (0, 0)) := heap_alloc_new w.drew _
    rw [h9] at h3
    injection h3 with e4
    injection e4 with e5
    subst e5
    simp only [Array.toList_append, List.mem_append] at hu
    rcases hu with (hu | hu) | hu
    · exact hys u hu
    · exact hn u hu
    · exact zz k u hu
  rcases hown.1.2 with ⟨rfl, rfl⟩ | ⟨g, cap, cur, rfl, hbg, hh, hnc, hcm, hcs, htake⟩
  · have hr2 := run_append_nil (P := P) w t ty e i z ht hi hz a 1 c news (by omega) hnews (by omega) (by omega) (by simp only [Nat.zero_add] at hbytes; omega)
    rw [hr] at hr2
    injection hr2 with e1 e2
    exact ⟨fresh [] (grownCap w 1 0 e - 1) (grownCap w 1 0 e) (fun u hu => nomatch hu) e1 (by rw [e2]; simp), .inr (by rw [e1]; rfl)⟩
  · have hcur : ∀ u, u ∈ cur.toList → NWd u := hown.2 g cur rfl hh
    have hxs : ∀ u, u ∈ xs → NWd u := fun u hu => hcur u (by rw [← htake] at hu; exact List.mem_of_mem_take hu)
    by_cases hroom : n + 1 ≤ cap
    · have hfit : n * i.size + news.length ≤ cur.size := by rw [hl, hcs, hsize]; omega
      have hr2 := run_append_room (P := P) w t ty e i ht hi g n cap cur hh a 1 c news (by omega) hnews h1 hroom hfit
      rw [hr] at hr2
      injection hr2 with e1 e2
      refine ⟨?_, .inl (by rw [e1]; rfl)⟩
      intro g' cs h2 h3 u hu
      subst e1 e2
      have e3 : g = g' := by simpa [Value.ownBlock] using h2
      subst e3
      rw [setRow_heap w g cur _ e _ hh] at h3
      injection h3 with e4
      injection e4 with e5
      subst e5
      simp only [List.mem_append] at hu
      rcases hu with (hu | hu) | hu
      · exact hcur u (List.mem_of_mem_take hu)
      · exact hn u hu
      · exact hcur u (List.mem_of_mem_drop hu)
    · have holds : ∀ j u, xs[j]? = some u → w.cell? ((⟨g, 0, none⟩ : Addr).add j) = some u := hown.1.cells (g := g) rfl
      have hr2 := run_append_grow (P := P) w t ty e i z ht hi hz ⟨g, 0, none⟩ n cap xs (by rw [hown.1.1, hsize]) holds a 1 c news (by omega) hnews (by omega) (by omega) (growslice_fits (by omega) (by rw [hby]; exact hbytes))
      rw [hr] at hr2
      injection hr2 with e1 e2
      exact ⟨fresh xs _ _ hxs e1 e2, .inr (by rw [e1]; rfl)⟩
end
/-- A row of whole numbers that grows, in memory made since w0. -/
structure OwnZ (w0 w : World) (k : Nat) (v : Value) (zs : List Int) : Prop where
  row : ∃ vs : List Value, OwnN w w0.heap.size 28 v zs.length vs ∧ ∀ j, j < zs.length → ∃ s A n c, vs[j * 2]? = some (.bool s) ∧ vs[j * 2 + 1]? = some (.slice A n c) ∧ Zc w s A n c (ith zs j) ∧ n ≤ k
  old : Below w0.heap.size w0 w
theorem OwnZ.nil (w : World) (k : Nat) : OwnZ w w k (.slice none 0 0) [] := ⟨⟨[], ⟨World.ownsRow_nil w _ _ _, fun g cs h => nomatch h⟩, fun j hj => by simp at hj⟩, Below.refl _ _⟩
theorem OwnZ.below {w0 w w' : World} {k : Nat} {v : Value} {zs : List Int} (h : OwnZ w0 w k v zs) (hb : Below w.heap.size w w') : OwnZ w0 w' k v zs := by
  obtain ⟨⟨vs, ⟨h1, h2⟩, h3⟩, h4⟩ := h
  refine ⟨⟨vs, ⟨h1.kept (row := none) ⟨hb.os, hb.tape, hb.output, hb.size, fun k hk _ => hb.block k hk⟩ (by cases hv : v.ownBlock <;> simp), fun g cs hg hc => h2 g cs hg ?_⟩, fun j hj => ?_⟩, h4.trans (hb.mono h4.size)⟩
  · rw [← hb.block g (h1.lt g hg).2]; exact hc
  · obtain ⟨s, A, n, c, c1, c2, c3, c4⟩ := h3 j hj
    exact ⟨s, A, n, c, c1, c2, c3.below hb, c4⟩
theorem OwnZ.form {w0 w : World} {k : Nat} {v : Value} {zs : List Int} (h : OwnZ w0 w k v zs) : ∃ A c, v = .slice A zs.length c ∧ ∀ q, ZL q w A zs.length c k zs := by
  obtain ⟨⟨vs, ⟨h1, h2⟩, h3⟩, h4⟩ := h
  rcases h1.2 with ⟨rfl, e⟩ | ⟨g, cap, cur, rfl, hb, hh, hn, hm, hcs, ht⟩
  · rw [List.length_eq_zero_iff.1 e]
    exact ⟨none, 0, rfl, fun q => ZL.nil _ _ _⟩
  · refine ⟨_, cap, rfl, fun q => ⟨rfl, hn, by unfold maxLen at hm; omega, fun h0 => ⟨_, rfl, (Array.getElem?_eq_some_iff.1 hh).1, fun j hj => ?_⟩⟩⟩
    obtain ⟨s, A, n, c, c1, c2, c3, c4⟩ := h3 j hj
    have hc := h1.cells (g := g) rfl
    refine ⟨s, A, n, c, hc _ _ c1, ?_, .of c3, c4⟩
    have := hc _ _ c2
    rw [add_lit0] at this
    rw [add_lit0]
    exact this
/-- What becomes of the memory when a row v has grown to v'. -/
structure Grew (w w' : World) (v v' : Value) : Prop where
  by' : w.grownBy w' v.ownBlock
  now : ∀ g, v.ownBlock = some g → Wless w g
  to' : v'.ownBlock = v.ownBlock ∨ v'.ownBlock = some w.heap.size
theorem Grew.zc {w w' : World} {v v' : Value} (h : Grew w w' v v') {s : Bool} {A : Option Addr} {n c : Nat} {y : Int} (hy : Zc w s A n c y) : Zc w' s A n c y := by
  have h6 := h.by'
  cases hvb : v.ownBlock with
  | none => rw [hvb] at h6; exact hy.below ⟨h6.os, h6.tape, h6.output, h6.size, fun k hk => h6.block k hk (by simp)⟩
  | some g => rw [hvb] at h6; exact hy.gro (h.now g hvb) h6
/-- Two rows don't lie in one block. -/
def Dj (u v : Value) : Prop := u.ownBlock = none ∨ u.ownBlock ≠ v.ownBlock
theorem Dj.symm {u v : Value} (h : Dj u v) : Dj v u := by
  unfold Dj at *
  cases hv : v.ownBlock with
  | none => exact .inl rfl
  | some g =>
    right
    rw [hv] at h
    rcases h with h | h
    · rw [h]; simp
    · exact Ne.symm h
theorem OwnZ.other {w0 w w' : World} {k : Nat} {u v v' : Value} {ys : List Int} (h : OwnZ w0 w k u ys) (hG : Grew w w' v v') (hd : Dj u v) (hB : Below w0.heap.size w0 w') : OwnZ w0 w' k u ys ∧ Dj u v' := by
  obtain ⟨⟨vs, ⟨h1, h2⟩, h3⟩, h4⟩ := h
  refine ⟨⟨⟨vs, ⟨h1.kept hG.by' hd, fun g cs hg hc => h2 g cs hg ?_⟩, fun j hj => ?_⟩, hB⟩, ?_⟩
  · rw [← hG.by'.block g (h1.lt g hg).2 (by rw [← hg]; exact hd.resolve_left (by rw [hg]; simp))]; exact hc
  · obtain ⟨s, A, n, c, c1, c2, c3, c4⟩ := h3 j hj
    exact ⟨s, A, n, c, c1, c2, hG.zc c3, c4⟩
  · rcases hG.to' with e | e
    · unfold Dj; rw [e]; exact hd
    · unfold Dj
      rw [e]
      cases hu : u.ownBlock with
      | none => exact .inl rfl
      | some g => right; have := (h1.lt g hu).2; simp; omega
/-- One more is put to it; what becomes of other rows. -/
theorem wpList_appg {P : Program} (w0 w1 : World) {ops : Array Oper} {rest : List Oper} {o : Oper} {a : Act} {Q : Exit → Act → World → Prop} (hgd : o.guard = none) (s x : Operand) (t : TypeId)
    (ho : o.op = .call { callee := .builtin .append, args := #[s, x], argTypes := #[t, t] })
    (ht : P.underlying t = some (.slice 28)) (hinfo : (P.info? 28).map (fun i => (i.zero, i.size, i.bytes)) = some (some (.agg #[.bool false, .slice none 0 0]), 2, 32))
    (k : Nat) (v : Value) (zs : List Int) (hs : a.eval s = v) (hown : OwnZ w0 w1 k v zs) {sb : Bool} {A : Option Addr} {n c g : Nat} {z : Int} (hc0 : w1.cell? ⟨g, 0, none⟩ = some (.bool sb)) (hc1 : w1.cell? ⟨g, 1, none⟩ = some (.slice A n c)) (hz : Zc w1 sb A n c z) (hn : n ≤ k)
    (hx : a.eval x = .slice (some ⟨g, 0, none⟩) 1 1) (hlen : zs.length ≤ 1099511627776)
    (h : ∀ v' w', OwnZ w0 w' k v' (zs ++ [z]) → Grew w1 w' v v' → wpList P ops Q rest (a.put o.dst v') w') :
    wpList P ops Q (o :: rest) a w1 := by
  obtain ⟨i, hi, hz0, hz1, hz2⟩ := info_parts hinfo
  have hsz := hown.old.size
  have hzz := hz
  obtain ⟨⟨vs, h1, h3⟩, h4⟩ := hown
  obtain ⟨v', w', hr, h5, h6, h8⟩ := run_append_n (P := P) w1 w0.heap.size t o.type 28 i (.agg #[.bool false, .slice none 0 0]) 32 ht hi hz0 hz1 hz2 rfl (fun u hu => by
      simp [Value.cells] at hu
      rcases hu with rfl | rfl <;> exact fun m e => nomatch e) v zs.length vs h1 ⟨g, 0, none⟩ 1 [.bool sb, .slice A n c] rfl (fun j u hu => by
      rw [add_lit0]
      match j, hu with
      | 0, hu => simp at hu; subst hu; exact hc0
      | 1, hu => simp at hu; subst hu; exact hc1) (fun u hu => by
      simp at hu
      rcases hu with rfl | rfl <;> rfl) (fun u hu => by
      simp at hu
      rcases hu with rfl | rfl <;> exact fun m e => nomatch e) (by unfold maxLen; omega) (by omega) (by omega)
  refine wpList_plain hgd fun K hK' => ?_
  unfold Oper.wp execOp
  simp only [ho, resolve, invoke, builtin, Sem.run_bind, Sem.run_pure, Result.andThen_ok, List.map_toArray, List.map_cons, List.map_nil, hs, hx, hr]
  have keep : ∀ {s' : Bool} {A' : Option Addr} {n' c' : Nat} {y : Int}, Zc w1 s' A' n' c' y → Zc w' s' A' n' c' y := fun {s' A' n' c' y} hy => by
    cases hvb : v.ownBlock with
    | none => rw [hvb] at h6; exact hy.below ⟨h6.os, h6.tape, h6.output, h6.size, fun k hk => h6.block k hk (by simp)⟩
    | some g => rw [hvb] at h6; exact hy.gro (h1.wless hvb) h6
  have hvl : vs.length = zs.length * 2 := h1.1.1
  have hG : Grew w1 w' v v' := ⟨h6, fun g hg => h1.wless hg, h8⟩
  refine hK' _ _ (h v' w' ⟨⟨_, by rw [List.length_append]; exact h5, fun j hj => ?_⟩, ?_⟩ hG)
  · rw [List.length_append, List.length_singleton] at hj
    rcases Nat.lt_or_ge j zs.length with hlt | hge
    · obtain ⟨s', A', n', c', c1, c2, c3, c4⟩ := h3 j hlt
      refine ⟨s', A', n', c', by rw [List.getElem?_append_left (by omega)]; exact c1, by rw [List.getElem?_append_left (by omega)]; exact c2, ?_, c4⟩
      rw [show ith (zs ++ [z]) j = ith zs j by simp [ith, List.getD, List.getElem?_append_left hlt]]
      exact keep c3
    · obtain rfl : j = zs.length := by omega
      refine ⟨sb, A, n, c, by rw [List.getElem?_append_right (by omega), hvl, Nat.sub_self]; rfl, by rw [List.getElem?_append_right (by omega), hvl, show zs.length * 2 + 1 - zs.length * 2 = 1 by omega]; rfl, ?_, hn⟩
      rw [show ith (zs ++ [z]) zs.length = z by simp [ith, List.getD]]
      exact keep hzz
  · exact h4.grown h6 h4.size (fun k hk => (h1.1.lt k hk).1)
/-- One more is put to it. -/
theorem wpList_appz {P : Program} (w0 wr : World) {ops : Array Oper} {rest : List Oper} {o : Oper} {a : Act} {Q : Exit → Act → World → Prop} (hgd : o.guard = none) (s x : Operand) (t : TypeId)
    (ho : o.op = .call { callee := .builtin .append, args := #[s, x], argTypes := #[t, t] })
    (ht : P.underlying t = some (.slice 28)) (hinfo : (P.info? 28).map (fun i => (i.zero, i.size, i.bytes)) = some (some (.agg #[.bool false, .slice none 0 0]), 2, 32))
    (k : Nat) (v : Value) (zs : List Int) (hs : a.eval s = v) (hown : OwnZ w0 wr k v zs) (sb : Bool) (A : Option Addr) (n c : Nat) (z : Int) (hz : Zc wr sb A n c z) (hn : n ≤ k)
    (hx : a.eval x = .slice (some ⟨wr.heap.size, 0, none⟩) 1 1) (hlen : zs.length ≤ 1099511627776)
    (h : ∀ v' w', OwnZ w0 w' k v' (zs ++ [z]) → wpList P ops Q rest (a.put o.dst v') w') :
    wpList P ops Q (o :: rest) a (wr.alloc (.cells #[.bool sb, .slice A n c] 28)) :=
  wpList_appg w0 _ hgd s x t ho ht hinfo k v zs hs (hown.below (zba wr _)) (by simp [go_sem]) (by simp [go_sem]) (hz.below (zba wr _)) hn hx hlen (fun v' w' h1 _ => h v' w' h1)
end Go.Proofs.Ytcdkdanfiimlkaa
