/-
  The reference of layer 4: a number's digits.
-/
import Derived.Test.YtfpncmhaoadfdaaGreatRefD
import Derived.Laws.IdiomStrings
/-! Plain facts on the reference's Print: dividing by ten, digit by digit. -/
namespace Go.Proofs.YtfpncmhaoadfdaaGreat

/-- The digits from k on are divided by ten; r is what is left. -/
def Tenth (D Q : List Nat) (k r : Nat) : Prop := Q.length + k = D.length ∧ Low 65536 Q ∧ ev 65536 Q.reverse = ev 65536 (D.drop k) / 10 ∧ r = ev 65536 (D.drop k) % 10
theorem Tenth.start (D : List Nat) : Tenth D [] D.length 0 := ⟨by simp, Low.nil _, by simp [ev], by simp [ev]⟩
theorem Tenth.rest {D Q : List Nat} {k r : Nat} (h : Tenth D Q k r) : r < 10 := by rw [h.2.2.2]; exact Nat.mod_lt _ (by omega)
theorem Tenth.step {D Q : List Nat} {i r : Nat} (lD : Low 65536 D) (h : Tenth D Q (i + 1) r) : Tenth D (Q ++ [(r * 65536 + nth D i) / 10]) i ((r * 65536 + nth D i) % 10) := by
  obtain ⟨h1, h2, h3, h4⟩ := h
  have hi : i < D.length := by omega
  have hd := lD i hi
  have hr : r < 10 := by rw [h4]; exact Nat.mod_lt _ (by omega)
  have e : ev 65536 (D.drop i) = nth D i + 65536 * ev 65536 (D.drop (i + 1)) := by
    rw [List.drop_eq_getElem_cons hi, nth_getElem hi]; rfl
  generalize ev 65536 (D.drop (i + 1)) = H at *
  refine ⟨by simp; omega, h2.snoc (by omega), ?_, by rw [e]; omega⟩
  rw [List.reverse_append, List.reverse_singleton, List.singleton_append, ev, h3, e]
  omega
theorem Tenth.stop {D Q : List Nat} {r : Nat} (h : Tenth D Q 0 r) : ev 65536 Q.reverse = ev 65536 D / 10 ∧ r = ev 65536 D % 10 ∧ Q.length = D.length := by
  obtain ⟨h1, h2, h3, h4⟩ := h
  rw [List.drop_zero] at h3 h4
  exact ⟨h3, h4, by omega⟩
theorem Low.turned {b : Nat} {Q : List Nat} (h : Low b Q) : Low b Q.reverse := fun k hk => by
  have hk' : k < Q.length := by simpa using hk
  have e : nth Q.reverse k = nth Q (Q.length - 1 - k) := by
    rw [← nth_getElem (by simpa using hk'), List.getElem_reverse, nth_getElem]
  rw [e]; exact h _ (by omega)
/-- Turned round, from k on. -/
theorem turn_step {Q : List Nat} {i : Nat} (hi : i < Q.length) : (Q.drop (i + 1)).reverse ++ [nth Q i] = (Q.drop i).reverse := by
  rw [List.drop_eq_getElem_cons hi, nth_getElem hi, List.reverse_cons]
/-- The digits found so far, the last one first. -/
def Found (v : Nat) (T : List Nat) (y : Nat) : Prop := T.reverse = fw T.length v ∧ y = v / 10 ^ T.length ∧ (T.length = 0 ∨ 10 ^ (T.length - 1) ≤ v)
theorem Found.start (v : Nat) : Found v [] v := ⟨rfl, by simp, .inl rfl⟩
theorem Found.pos {v y : Nat} {T : List Nat} (h : Found v T y) (hy : 0 < y) : 10 ^ T.length ≤ v := by
  rw [h.2.1] at hy
  rcases Nat.lt_or_ge v (10 ^ T.length) with h1 | h1
  · rw [Nat.div_eq_of_lt h1] at hy; omega
  · exact h1
theorem Found.step {v y : Nat} {T : List Nat} (h : Found v T y) (hy : 0 < y) : Found v (T ++ [48 + y % 10]) (y / 10) := by
  have hp := h.pos hy
  obtain ⟨h1, h2, h3⟩ := h
  refine ⟨?_, ?_, .inr ?_⟩
  · rw [List.reverse_append, List.reverse_singleton, List.singleton_append, h1, List.length_append, List.length_singleton, fw_cons, h2]
  · rw [h2, Nat.div_div_eq_div_mul, ← Nat.pow_succ, List.length_append, List.length_singleton]
  · rw [List.length_append, List.length_singleton, Nat.add_sub_cancel]; exact hp
theorem Found.few {v y : Nat} {T : List Nat} (h : Found v T y) (hy : 0 < y) : T.length < nd v := by
  have h1 := h.pos hy
  have h2 := (nd_is v).1
  exact (Nat.pow_lt_pow_iff_right (a := 10) (by omega)).1 (Nat.lt_of_le_of_lt h1 h2)
theorem Found.done {v : Nat} {T : List Nat} (h : Found v T 0) (hT : 0 < T.length) : T.reverse = dgs v := by
  obtain ⟨h1, h2, h3⟩ := h
  have h4 : v < 10 ^ T.length := by
    rcases Nat.div_eq_zero_iff.1 h2.symm with h5 | h5
    · have := Nat.pow_pos (n := T.length) (show 0 < 10 from by omega); omega
    · exact h5
  rw [h1, dgs, nd_eq hT h4 (h3.elim (fun h => by omega) .inr)]
theorem Found.none {v : Nat} {T : List Nat} (h : Found v T 0) (hT : T.length = 0) : dgs v = [48] := by
  have h2 := h.2.1
  rw [hT, Nat.pow_zero, Nat.div_one] at h2
  subst h2
  unfold dgs
  rw [nd_eq (k := 1) (by omega) (by omega) (.inl rfl)]
  rfl
end Go.Proofs.YtfpncmhaoadfdaaGreat

/-! Contract: the reference's Print. -/
namespace Go.Proofs.YtfpncmhaoadfdaaGreat
open Go.RowKit
set_option linter.unusedVariables false

/-- append of one number to a row that the call owns: what else is there stays. -/
theorem wpList_appk {P : Program} (w0 wr : World) {ops : Array Oper} {rest : List Oper} {o : Oper} {a : Act} {Q : Exit → Act → World → Prop} (hgd : o.guard = none) (s x : Operand) (t : TypeId)
    (ho : o.op = .call { callee := .builtin .append, args := #[s, x], argTypes := #[t, t] })
    (e : TypeId) (K : IntKind) (bytes : Nat) (hby : bytes ≤ 8) (ht : P.underlying t = some (.slice e)) (hinfo : (P.info? e).map (fun i => (i.zero, i.size, i.bytes)) = some (some (.int K 0), 1, bytes))
    (v : Value) (zs : List Nat) (hs : a.eval s = v) (hown : OwnV w0 wr e K v zs) (y : Int) (d : Nat) (hy : y = (d : Int))
    (hx : a.eval x = .slice (some ⟨wr.heap.size, 0, none⟩) 1 1) (hlen : zs.length ≤ 4398046511104)
    (h : ∀ v' w', OwnV w0 w' e K v' (zs ++ [d]) → wr.grownBy w' v.ownBlock → wpList P ops Q rest (a.put o.dst v') w') :
    wpList P ops Q (o :: rest) a (wr.alloc (.cells #[.int K y] e)) := by
  subst hy
  obtain ⟨i, hi, hz0, hz1, hz2⟩ := info_parts hinfo
  obtain ⟨h1, h2⟩ := hown
  have hb := h2.size
  refine wpList_append_own (P := P) _ hgd s x t ho w0.heap.size e i (.int K 0) 1 bytes ht hi hz0 hz1 hz2 rfl (by omega) v zs.length (vs K zs) hs (h1.alloc _) ⟨wr.heap.size, 0, none⟩ 1 1 [.int K (d : Int)] hx rfl ?_ ?_ (by unfold maxLen; omega)
    (Nat.le_trans (Nat.mul_le_mul_left _ hby) (by omega)) (by simp; omega) ?_
  · intro j u hu
    match j, hu with
    | 0, hu =>
      simp at hu
      subst hu
      simp [Addr.add]
  · intro u hu
    simp at hu
    subst hu
    rfl
  · intro v' w' o1 o2 _
    refine h v' w' ⟨?_, (h2.alloc hb _).grown o2 (by simp; omega) (fun k hk => (h1.lt k hk).1)⟩ (grown_trans (grown_below (ba wr _) _) o2)
    rw [vs_append, List.length_append]
    exact o1
/-- A row of another type stays. -/
theorem own_apart {b b' : Nat} {t t' : TypeId} {vq v : Value} {n n' : Nat} {ys ys' : List Value} {w w' : World} (h : w.ownsRow b t 1 vq n ys) (k : w.ownsRow b' t' 1 v n' ys') (ht : t ≠ t') (hg : w.grownBy w' v.ownBlock) : w'.ownsRow b t 1 vq n ys := by
  refine ⟨h.1, ?_⟩
  rcases h.2 with h1 | ⟨g, cap, cur, hv, hb, hh, rest⟩
  · exact .inl h1
  · refine .inr ⟨g, cap, cur, hv, hb, (hg.block g (Array.getElem?_eq_some_iff.1 hh).1 fun e => ?_).trans hh, rest⟩
    rcases k.2 with ⟨rfl, _⟩ | ⟨g', cap', cur', rfl, _, hh', _⟩
    · cases e
    · have e' : g = g' := by simpa [Value.ownBlock] using e
      subst e'
      rw [hh] at hh'
      injection hh' with hh'
      injection hh' with _ h3
      exact ht h3
/-- The string of the bytes of a row. -/
theorem run_bytes_row {w : World} {A : Option Addr} {c : Nat} {Z : List Nat} (h : Rd w .u8 A Z) (hZ : 0 < Z.length) (hl : ∀ c ∈ Z, c < 256) :
    (convert 69 9 (.slice A Z.length c)).run Tryz.prog w = .ok (.string (str Z)) w := by
  obtain ⟨ad, rfl, _, hc⟩ := h hZ
  have := run_convert_bytes_back (P := Tryz.prog) w 69 9 5 ad c (Z.map UInt8.ofNat) Tryz.underlying69 Tryz.underlying5 Tryz.underlying9 (fun j hj => by
    have hj' : j < Z.length := by simpa using hj
    have hlt := hl _ (List.getElem_mem hj')
    have e8 : (UInt8.ofNat Z[j]).toNat = Z[j] := by simp [Nat.mod_eq_of_lt hlt]
    rw [hc j hj', List.getElem_map, e8, nth_getElem hj'])
  rw [List.length_map] at this
  exact this
theorem OwnV.slice {w0 w : World} {t : TypeId} {K : IntKind} {v : Value} {zs : List Nat} (h : OwnV w0 w t K v zs) : ∃ A c, v = .slice A zs.length c ∧ Rd w K A zs := by
  obtain ⟨A, c, e, hg⟩ := h.form
  exact ⟨A, c, e, hg.rd⟩

/-- The outer loop: T is found, y is left, of n digits. -/
def PnRel (w : World) (v : Nat) (s3 s4 : Value) (wr : World) : Prop :=
  ∃ (T : List Nat) (y : Nat) (A : Option Addr) (n c : Nat), OwnV w wr 5 .u8 s3 T ∧ s4 = .slice A n c ∧ Dv wr A n c y ∧ n ≤ 1000000 ∧ Found v T y
theorem lenOf_own {w wr : World} {t : TypeId} {K : IntKind} {v : Value} {T : List Nat} (h : OwnV w wr t K v T) : lenOf v = T.length := by
  obtain ⟨A, c, rfl, _⟩ := h.form
  rfl
end Go.Proofs.YtfpncmhaoadfdaaGreat
