/-
  Memory in which only certain places are written (no program is named here): areas of words within blocks, what stays beside them; copying into an area, and clearing one.
-/
import Derived.Test.YthpohkklggabpaaMem
import Derived.Laws.CopyOwn
import Derived.Lib.SliceRun
namespace Go.Proofs.Ythpohkklggabpaa
open Go.RowKit
set_option linter.unusedVariables false

/-- The places off .. off + n - 1 of block g. -/
def Seg (g off n : Nat) (a : Addr) : Prop := a.block = g ∧ off ≤ a.off ∧ a.off < off + n

/-- Block g is just words. -/
def Wb (w : World) (g : Nat) (t : TypeId) (L : List Nat) : Prop := Blk w g t .u64 L ∧ Low 18446744073709551616 L

/-- Only places of S are written. -/
structure Tch (S : Addr → Prop) (w w' : World) : Prop where
  os : w'.os = w.os
  tape : w'.tape = w.tape
  output : w'.output = w.output
  size : w.heap.size ≤ w'.heap.size
  block : ∀ k, k < w.heap.size → (∀ a : Addr, a.block = k → ¬ S a) → w'.heap[k]? = w.heap[k]?
  cell : ∀ a : Addr, a.block < w.heap.size → ¬ S a → w'.cell? a = w.cell? a
  blk : ∀ g t L, Wb w g t L → ∃ L', Wb w' g t L' ∧ L'.length = L.length ∧ ∀ j, ¬ S ⟨g, j, none⟩ → nth L' j = nth L j

section
variable {S S' : Addr → Prop} {w w' w'' : World}
theorem Tch.of_below (S : Addr → Prop) (h : Below w.heap.size w w') : Tch S w w' :=
  ⟨h.os, h.tape, h.output, h.size, fun k hk _ => h.block k hk, fun a ha _ => h.cell ha, fun g t L hL => ⟨L, ⟨hL.1.below h hL.1.lt, hL.2⟩, rfl, fun _ _ => rfl⟩⟩
theorem Tch.refl (S : Addr → Prop) (w : World) : Tch S w w := Tch.of_below S (Below.refl _ _)
theorem Tch.trans (h : Tch S w w') (k : Tch S w' w'') : Tch S w w'' := by
  refine ⟨k.os.trans h.os, k.tape.trans h.tape, k.output.trans h.output, Nat.le_trans h.size k.size, fun i hi hS => (k.block i (Nat.lt_of_lt_of_le hi h.size) hS).trans (h.block i hi hS), fun a ha hS => (k.cell a (Nat.lt_of_lt_of_le ha h.size) hS).trans (h.cell a ha hS), fun g t L hL => ?_⟩
  obtain ⟨L1, h1, h2, h3⟩ := h.blk g t L hL
  obtain ⟨L2, k1, k2, k3⟩ := k.blk g t L1 h1
  exact ⟨L2, k1, k2.trans h2, fun j hj => (k3 j hj).trans (h3 j hj)⟩
theorem Tch.mono (h : Tch S' w w') (hS : ∀ a : Addr, a.block < w.heap.size → S' a → S a) : Tch S w w' := by
  refine ⟨h.os, h.tape, h.output, h.size, fun k hk hn => h.block k hk fun a ha hs => hn a ha (hS a (by omega) hs), fun a ha hn => h.cell a ha fun hs => hn (hS a ha hs), fun g t L hL => ?_⟩
  obtain ⟨L1, h1, h2, h3⟩ := h.blk g t L hL
  exact ⟨L1, h1, h2, fun j hj => h3 j fun hs => hj (hS _ hL.1.lt hs)⟩
theorem Tch.below {B : Nat} (h : Tch S w w') (hB : B ≤ w.heap.size) (hS : ∀ a : Addr, S a → B ≤ a.block) : Below B w w' :=
  ⟨h.os, h.tape, h.output, h.size, fun k hk => h.block k (by omega) fun a ha hs => by have := hS a hs; omega⟩
/-- A row of words is overwritten. -/
theorem Tch.row {g : Nat} {t : TypeId} {L L' : List Nat} (h : Wb w g t L) (hl : L'.length = L.length) (hlow : Low 18446744073709551616 L') (hS : ∀ j, ¬ S ⟨g, j, none⟩ → nth L' j = nth L j) :
    Tch S w (w.setRow g (vs .u64 L').toArray) ∧ Wb (w.setRow g (vs .u64 L').toArray) g t L' := by
  have hb : Wb (w.setRow g (vs .u64 L').toArray) g t L' := ⟨setRow_heap w g _ _ t _ h.1, hlow⟩
  refine ⟨⟨rfl, rfl, rfl, by simp, fun k hk hn => ?_, fun a ha hn => ?_, fun g' t' M hM => ?_⟩, hb⟩
  · by_cases hkg : k = g
    · subst hkg
      have : L' = L := ext_nth hl fun j _ => hS j (hn _ rfl)
      subst this
      exact (setRow_heap w k _ _ t _ h.1).trans h.1.symm
    · exact setRow_other w g k _ hkg
  · by_cases hg : a.block = g
    · subst hg
      obtain ⟨b, o, sp⟩ := a
      cases sp with
      | some x => simp [World.cell?, setRow_heap w b _ _ t _ h.1, show w.heap[b]? = _ from h.1]
      | none =>
        have e := hS o hn
        rw [cell_of_row _ b o _ t (0, 0) hb.1, cell_of_row w b o _ t (0, 0) h.1, List.getElem?_toArray, List.getElem?_toArray]
        by_cases ho : o < L.length
        · rw [vs_get (by omega), vs_get ho, e]
        · rw [List.getElem?_eq_none (by rw [vs_length]; omega), List.getElem?_eq_none (by rw [vs_length]; omega)]
    · exact cell_setRow_other w g _ a hg
  · by_cases hg : g' = g
    · subst hg
      have e := h.1.symm.trans hM.1
      injection e with e
      injection e with e1 e2
      subst e2
      have e3 : vs .u64 L = vs .u64 M := by simpa using e1
      have e4 : M.length = L.length := by have := congrArg List.length e3; rw [vs_length, vs_length] at this; omega
      have e5 : M = L := ext_nth e4 fun j hj => by
        have h1 := vs_get (K := .u64) hj
        rw [← e3, vs_get (by omega)] at h1
        injection h1 with h1
        injection h1 with _ h1
        omega
      subst e5
      exact ⟨L', hb, hl, fun j hj => hS j hj⟩
    · exact ⟨M, ⟨(setRow_other w g g' _ hg).trans hM.1, hM.2⟩, rfl, fun _ _ => rfl⟩
theorem Wb.setCell_row {g : Nat} {t : TypeId} {L : List Nat} (h : Wb w g t L) (j n : Nat) : w.setCell ⟨g, j, none⟩ (.int .u64 (n : Int)) = w.setRow g (vs .u64 (L.set j n)).toArray := by
  rw [setCell_eq_setRow w g j _ t _ _ h.1, List.setIfInBounds_toArray, vs_set]
theorem Low.set {b : Nat} {L : List Nat} (h : Low b L) (j : Nat) {n : Nat} (hn : n < b) : Low b (L.set j n) := fun k hk => by
  by_cases hkj : j = k
  · subst hkj
    rw [nth_set_eq (by simpa using hk)]
    exact hn
  · rw [nth_set_ne hkj]
    exact h k (by simpa using hk)
theorem Tch.store {g : Nat} {t : TypeId} {L : List Nat} (h : Wb w g t L) (j : Nat) {n : Nat} (hn : n < 18446744073709551616) (hS : S ⟨g, j, none⟩) :
    Tch S w (w.setCell ⟨g, j, none⟩ (.int .u64 (n : Int))) ∧ Wb (w.setCell ⟨g, j, none⟩ (.int .u64 (n : Int))) g t (L.set j n) := by
  rw [h.setCell_row]
  exact Tch.row h (by simp) (h.2.set j hn) fun k hk => nth_set_ne fun e => hk (e ▸ hS)
end

/-- None of the n places from A on is in S. -/
def Off (S : Addr → Prop) (A : Option Addr) (n : Nat) : Prop := ∀ ad, A = some ad → ∀ j, j < n → ¬ S (ad.add j)
theorem add_off (a : Addr) (n : Nat) : (a.add n).off = a.off + n := by unfold Addr.add; split <;> simp_all
theorem Off.take {S : Addr → Prop} {A : Option Addr} {n m : Nat} (h : Off S A n) (hm : m ≤ n) : Off S A m := fun ad ha j hj => h ad ha j (by omega)
theorem Off.drop {S : Addr → Prop} {A : Option Addr} {n k m : Nat} (h : Off S A n) (hm : k + m ≤ n) : Off S (A.map (·.add k)) m := fun ad ha j hj => by
  cases A with
  | none => cases ha
  | some ad' =>
    simp only [Option.map_some, Option.some.injEq] at ha
    subst ha
    rw [add_add]
    exact h ad' rfl _ (by omega)
theorem Off.seg_lit {g off n b o m : Nat} (h : b ≠ g ∨ o + m ≤ off ∨ off + n ≤ o) : Off (Seg g off n) (some ⟨b, o, none⟩) m := fun ad ha j hj => by
  obtain rfl := Option.some.inj ha
  rw [add_lit]
  unfold Seg
  simp only
  omega
theorem Off.or {S S' : Addr → Prop} {A : Option Addr} {n : Nat} (h : Off S A n) (k : Off S' A n) : Off (fun a => S a ∨ S' a) A n := fun ad ha j hj hs => hs.elim (h ad ha j hj) (k ad ha j hj)
theorem Off.mono {S S' : Addr → Prop} {A : Option Addr} {n : Nat} (h : Off S A n) (k : ∀ a, S' a → S a) : Off S' A n := fun ad ha j hj hs => h ad ha j hj (k _ hs)
theorem Rd.tch {S : Addr → Prop} {w w' : World} {K : IntKind} {A : Option Addr} {xs : List Nat} (h : Rd w K A xs) (ht : Tch S w w') (ho : Off S A xs.length) : Rd w' K A xs := fun hn => by
  obtain ⟨ad, rfl, hb, hc⟩ := h hn
  exact ⟨ad, rfl, Nat.lt_of_lt_of_le hb ht.size, fun j hj => (ht.cell _ (by rw [add_block]; exact hb) (ho ad rfl j hj)).trans (hc j hj)⟩

/-- The words of block g from p on read as zs, and may be written. -/
def Ar (w : World) (g p : Nat) (t : TypeId) (zs : List Nat) : Prop := ∃ L, Wb w g t L ∧ p + zs.length ≤ L.length ∧ ∀ j, j < zs.length → nth L (p + j) = nth zs j

section
variable {S : Addr → Prop} {w w' : World} {g p : Nat} {t : TypeId} {zs : List Nat}
theorem Ar.rd (h : Ar w g p t zs) : Rd w .u64 (some ⟨g, p, none⟩) zs := by
  obtain ⟨L, h1, h2, h3⟩ := h
  intro hn
  exact ⟨_, rfl, h1.1.lt, fun j hj => by rw [add_lit, h1.1.cell (by omega), h3 j hj]⟩
theorem Ar.cell (h : Ar w g p t zs) {j : Nat} (hj : j < zs.length) : w.cell? ⟨g, p + j, none⟩ = some (.int .u64 (nth zs j)) := by
  obtain ⟨L, h1, h2, h3⟩ := h
  rw [h1.1.cell (by omega), h3 j hj]
theorem Ar.free (h : Ar w g p t zs) (j : Nat) : w.frozen? ⟨g, j, none⟩ = false := by
  obtain ⟨L, h1, h2, h3⟩ := h
  exact h1.1.free j
theorem Ar.lt (h : Ar w g p t zs) : g < w.heap.size := by
  obtain ⟨L, h1, h2, h3⟩ := h
  exact h1.1.lt
theorem Ar.low (h : Ar w g p t zs) : Low 18446744073709551616 zs := by
  obtain ⟨L, h1, h2, h3⟩ := h
  intro j hj
  rw [← h3 j hj]
  exact h1.2 _ (by omega)
theorem Ar.of_wb {L : List Nat} (h : Wb w g t L) : Ar w g 0 t L := ⟨L, h, by omega, fun j _ => by rw [Nat.zero_add]⟩
theorem Ar.sub (h : Ar w g p t zs) (k n : Nat) (hn : k + n ≤ zs.length) : Ar w g (p + k) t ((zs.drop k).take n) := by
  obtain ⟨L, h1, h2, h3⟩ := h
  refine ⟨L, h1, by simp; omega, fun j hj => ?_⟩
  simp at hj
  rw [nth_take (by omega), nth_drop, Nat.add_assoc, h3 _ (by omega)]
theorem Ar.take (h : Ar w g p t zs) (n : Nat) (hn : n ≤ zs.length) : Ar w g p t (zs.take n) := by simpa using h.sub 0 n (by omega)
theorem Ar.drop (h : Ar w g p t zs) (k : Nat) (hk : k ≤ zs.length) : Ar w g (p + k) t (zs.drop k) := by
  have := h.sub k (zs.length - k) (by omega)
  rwa [List.take_of_length_le (by simp)] at this
theorem Ar.store (h : Ar w g p t zs) {j n : Nat} (hj : j < zs.length) (hn : n < 18446744073709551616) (hS : S ⟨g, p + j, none⟩) :
    Tch S w (w.setCell ⟨g, p + j, none⟩ (.int .u64 (n : Int))) ∧ Ar (w.setCell ⟨g, p + j, none⟩ (.int .u64 (n : Int))) g p t (zs.set j n) := by
  obtain ⟨L, h1, h2, h3⟩ := h
  obtain ⟨k1, k2⟩ := Tch.store h1 (p + j) hn hS
  refine ⟨k1, _, k2, by simpa using h2, fun i hi => ?_⟩
  simp at hi
  by_cases hij : j = i
  · subst hij
    rw [nth_set_eq (by omega), nth_set_eq (by omega)]
  · rw [nth_set_ne (by omega), nth_set_ne hij, h3 i hi]
/-- What is not written reads as it did. -/
theorem Ar.tch (h : Ar w g p t zs) (ht : Tch S w w') (ho : ∀ j, j < zs.length → ¬ S ⟨g, p + j, none⟩) : Ar w' g p t zs := by
  obtain ⟨L, h1, h2, h3⟩ := h
  obtain ⟨L', k1, k2, k3⟩ := ht.blk g t L h1
  exact ⟨L', k1, by omega, fun j hj => by rw [k3 _ (ho j hj), h3 j hj]⟩
/-- What may be written is still there, whatever it reads. -/
theorem Ar.any (h : Ar w g p t zs) (ht : Tch S w w') : ∃ us, us.length = zs.length ∧ Ar w' g p t us := by
  obtain ⟨L, h1, h2, h3⟩ := h
  obtain ⟨L', k1, k2, k3⟩ := ht.blk g t L h1
  refine ⟨(L'.drop p).take zs.length, by simp; omega, L', k1, by simp; omega, fun j hj => ?_⟩
  simp at hj
  rw [nth_take (by omega), nth_drop]
theorem Wb.one {L M : List Nat} {t' : TypeId} (h : Wb w g t L) (k : Wb w g t' M) : L = M := by
  have e := h.1.symm.trans k.1
  injection e with e
  injection e with e1 e2
  have e3 : vs .u64 L = vs .u64 M := by simpa using e1
  have e4 : L.length = M.length := by have := congrArg List.length e3; rw [vs_length, vs_length] at this; omega
  exact ext_nth e4 fun j hj => by
    have h1 := vs_get (K := .u64) hj
    rw [e3, vs_get (by omega)] at h1
    injection h1 with h1
    injection h1 with _ h1
    omega
/-- Two areas, one behind the other, are one. -/
theorem Ar.join {us : List Nat} (h : Ar w g p t zs) {q : Nat} (k : Ar w g q t us) (hq : q = p + zs.length) : Ar w g p t (zs ++ us) := by
  subst hq
  obtain ⟨L, h1, h2, h3⟩ := h
  obtain ⟨M, k1, k2, k3⟩ := k
  obtain rfl := h1.one k1
  refine ⟨L, h1, by simp; omega, fun j hj => ?_⟩
  simp at hj
  by_cases hlt : j < zs.length
  · rw [nth_append_left hlt, h3 j hlt]
  · rw [nth_append_right (by omega), ← k3 _ (by omega)]
    congr 1
    omega
theorem Ar.below (h : Ar w g p t zs) (hb : Below w.heap.size w w') : Ar w' g p t zs := h.tch (Tch.of_below (fun _ => False) hb) fun _ _ h => h
end

theorem set_front {us zs : List Nat} {k n : Nat} (hk : us.length = k) (h : k < zs.length) : (us ++ zs.drop k).set k n = (us ++ [n]) ++ zs.drop (k + 1) := by
  have e := drop_nth h
  rw [List.set_append_right _ _ (by omega), hk, Nat.sub_self, e, List.set_cons_zero]
  simp
theorem nth_front {us zs : List Nat} {k : Nat} (hk : us.length = k) : nth (us ++ zs.drop k) k = nth zs k := by
  rw [nth_append_right (by omega), hk, Nat.sub_self, nth_drop, Nat.add_zero]
theorem len_front {us zs : List Nat} {k : Nat} (hk : us.length = k) (h : k ≤ zs.length) : (us ++ zs.drop k).length = zs.length := by simp; omega

/-- copy into an area, of words that lie elsewhere. -/
theorem wpList_copy_ar {P : Program} {w : World} {ops : Array Oper} {rest : List Oper} {o : Oper} {a : Act} {Q : Exit → Act → World → Prop} (hgd : o.guard = none) (d s : Operand) (dT sT : TypeId)
    (ho : o.op = .call { callee := .builtin .copy, args := #[d, s], argTypes := #[dT, sT] }) (elem : TypeId) (hu : P.underlying dT = some (.slice elem)) (hsz : (P.info? elem).map (·.size) = some 1)
    (sp : Option Addr) (dLen dCap sLen sCap g p : Nat) (t : TypeId) (zs us : List Nat) (hd : a.eval d = .slice (some ⟨g, p, none⟩) dLen dCap) (hs : a.eval s = .slice sp sLen sCap)
    (hz : Hid (zs.length = dLen)) (hul : Hid (us.length = sLen)) (hle : sLen ≤ dLen) (har : Ar w g p t zs) (hr : Rd w .u64 sp us) (hlow : Low 18446744073709551616 us)
    (S : Addr → Prop) (hS : ∀ j, j < sLen → S ⟨g, p + j, none⟩)
    (h : ∀ w', Ar w' g p t (us ++ zs.drop sLen) → Tch S w w' → w'.heap.size = w.heap.size → wpList P ops Q rest (a.put o.dst (.int .i64 sLen)) w') :
    wpList P ops Q (o :: rest) a w := by
  obtain rfl := hz.out.symm
  obtain rfl := hul.out.symm
  by_cases h0 : us.length = 0
  · refine wpList_copy_nothing hgd d s dT sT ho elem hu hsz _ sp zs.length dCap us.length sCap hd hs (by rw [h0]; exact Nat.min_eq_left (by omega)) ?_
    have e : us = [] := List.eq_nil_of_length_eq_zero h0
    subst e
    exact h w (by simpa using har) (Tch.refl _ _) rfl
  · obtain ⟨ad, rfl, hb, hc⟩ := hr (by omega)
    obtain ⟨L, h1, h2, h3⟩ := har
    have hm : Nat.min us.length zs.length = us.length := Nat.min_eq_left hle
    refine wpList_copy_own hgd d s dT sT ho elem hu hsz g p zs.length dCap ad us.length sCap hd hs (vs .u64 L).toArray t h1.1 (vs .u64 us) (by rw [vs_length, hm]) (fun j v hv => ?_) (by simp [vs_length]; omega) (vs_one _ _) ?_
    · rcases Nat.lt_or_ge j us.length with hj | hj
      · rw [vs_get hj] at hv
        rw [hc j hj, hv]
      · rw [List.getElem?_eq_none (by rw [vs_length]; exact hj)] at hv
        cases hv
    · have e : (vs .u64 L).toArray.toList.take p ++ (vs .u64 us ++ (vs .u64 L).toArray.toList.drop (p + (vs .u64 us).length)) = vs .u64 (L.take p ++ us ++ L.drop (p + us.length)) := by
        simp [vs, List.map_take, List.map_drop]
      rw [e, vs_length]
      have hl : (L.take p ++ us ++ L.drop (p + us.length)).length = L.length := length_mid rfl (by omega)
      have hn : ∀ j, nth (L.take p ++ us ++ L.drop (p + us.length)) j = if p ≤ j ∧ j < p + us.length then nth us (j - p) else nth L j := by
        intro j
        have hp : (L.take p).length = p := by simp; omega
        rw [List.append_assoc]
        by_cases h1 : j < p
        · rw [nth_append_left (by omega), nth_take h1, if_neg (by omega)]
        · rw [nth_append_right (by omega), hp]
          by_cases h2 : j < p + us.length
          · rw [nth_append_left (by omega), if_pos (by omega)]
          · rw [nth_append_right (by omega), nth_drop, if_neg (by omega)]
            congr 1
            omega
      obtain ⟨k1, k2⟩ := Tch.row (S := S) (L' := L.take p ++ us ++ L.drop (p + us.length)) h1 hl (((h1.2.take p).append hlow).append (h1.2.drop _)) fun j hj => by
        rw [hn, if_neg]
        rintro ⟨h4, h5⟩
        have := hS (j - p) (by omega)
        rw [show p + (j - p) = j by omega] at this
        exact hj this
      refine h _ ⟨_, k2, by rw [hl]; simp; omega, fun j hj => ?_⟩ k1 (by simp)
      simp at hj
      rw [hn]
      by_cases hlt : j < us.length
      · rw [if_pos (by omega), nth_append_left hlt]
        congr 1
        omega
      · rw [if_neg (by omega), nth_append_right (by omega), nth_drop, h3 _ (by omega)]
        congr 1
        omega

/-- The words of an area become noughts. -/
theorem setCells_ar {S : Addr → Prop} {g : Nat} {t : TypeId} : ∀ (n p : Nat) (w : World) (zs : List Nat), zs.length = n → Ar w g p t zs → (∀ j, j < n → S ⟨g, p + j, none⟩) →
    Tch S w (w.setCells g p (List.replicate n (.int .u64 0))) ∧ Ar (w.setCells g p (List.replicate n (.int .u64 0))) g p t (List.replicate n 0) ∧ (w.setCells g p (List.replicate n (.int .u64 0))).heap.size = w.heap.size
  | 0, p, w, zs, hl, h, hS => ⟨Tch.refl _ _, by rw [List.eq_nil_of_length_eq_zero hl] at h; exact h, rfl⟩
  | n + 1, p, w, zs, hl, h, hS => by
    obtain ⟨k1, k2⟩ := h.store (S := S) (j := 0) (n := 0) (by omega) (by omega) (hS 0 (by omega))
    rw [Nat.add_zero] at k1 k2
    have k3 := k2.drop 1 (by simp; omega)
    obtain ⟨m1, m2, m3⟩ := setCells_ar n (p + 1) _ _ (by simp; omega) k3 (fun j hj => by rw [Nat.add_assoc, Nat.add_comm 1 j]; exact hS (j + 1) (by omega))
    have k4 : Ar (w.setCell ⟨g, p, none⟩ (.int .u64 ((0 : Nat) : Int))) g p t [0] := by
      have := k2.take 1 (by simp; omega)
      cases zs with
      | nil => simp at hl
      | cons z zs => simpa using this
    obtain ⟨m4, m5, m6⟩ := setCells_ar (S := Seg g (p + 1) n) n (p + 1) _ _ (by simp; omega) k3 (fun j hj => ⟨rfl, Nat.le_add_right _ _, Nat.add_lt_add_left hj _⟩)
    have k5 := k4.tch m4 (fun j hj hs => by simp at hj; subst hj; have := hs.2.1; simp at this; omega)
    rw [List.replicate_succ, World.setCells, List.replicate_succ]
    refine ⟨k1.trans m1, ?_, by simpa using m3⟩
    exact k5.join m2 (by simp)
end Go.Proofs.Ythpohkklggabpaa
