/-
  Package mul but for Product: areas of memory (Ar, Tch), Karatsuba, Mul, Square, Pow; contracts by value.
-/
import Derived.Test.YthigedcpiglmnaaDoorNatA
import Derived.Laws.CopyOwn
import Derived.Lib.SliceRun
import Derived.Laws.Bits64
import Derived.StillTailTactics
import Derived.BigQuiet
import Derived.IntWalk
import Derived.Deep.QuietTactic
import Derived.Deep.DeepCutAuto
import Derived.Deep.RegionHeld3
import Derived.Test.YthigedcpiglmnaaDoorNatB
import Derived.Lib.RabinKarpLaws
import Derived.Test.YthigedcpiglmnaaDoorRefA
/-! Memory in which only certain places are written (no program is named here): areas of words within blocks, what stays beside them; copying into an area, and clearing one. -/
namespace Go.Proofs.YthigedcpiglmnaaDoor
open Go.RowKit
set_option linter.unusedVariables false

/-- The places off .. off + n - 1 of block g. -/
def Seg (g off n : Nat) (a : Addr) : Prop := a.block = g ∧ off ≤ a.off ∧ a.off < off + n

/-- Block g is just words. -/
def Wb (w : World) (g : Nat) (t : TypeId) (L : List Nat) : Prop := Blk w g t .u64 L ∧ Low 18446744073709551616 L

/-- Only places of S are written. -/
structure Tch (S : Addr → Prop) (w w' : World) : Prop where
  os : w'.os = w.os
  tape : w'.tape = w.tape
  output : w'.output = w.output
  size : w.heap.size ≤ w'.heap.size
  block : ∀ k, k < w.heap.size → (∀ a : Addr, a.block = k → ¬ S a) → w'.heap[k]? = w.heap[k]?
  cell : ∀ a : Addr, a.block < w.heap.size → ¬ S a → w'.cell? a = w.cell? a
  blk : ∀ g t L, Wb w g t L → ∃ L', Wb w' g t L' ∧ L'.length = L.length ∧ ∀ j, ¬ S ⟨g, j, none⟩ → nth L' j = nth L j

section
variable {S S' : Addr → Prop} {w w' w'' : World}
theorem Tch.of_below (S : Addr → Prop) (h : Below w.heap.size w w') : Tch S w w' :=
  ⟨h.os, h.tape, h.output, h.size, fun k hk _ => h.block k hk, fun a ha _ => h.cell ha, fun g t L hL => ⟨L, ⟨hL.1.below h hL.1.lt, hL.2⟩, rfl, fun _ _ => rfl⟩⟩
theorem Tch.refl (S : Addr → Prop) (w : World) : Tch S w w := Tch.of_below S (Below.refl _ _)
theorem Tch.trans (h : Tch S w w') (k : Tch S w' w'') : Tch S w w'' := by
  refine ⟨k.os.trans h.os, k.tape.trans h.tape, k.output.trans h.output, Nat.le_trans h.size k.size, fun i hi hS => (k.block i (Nat.lt_of_lt_of_le hi h.size) hS).trans (h.block i hi hS), fun a ha hS => (k.cell a (Nat.lt_of_lt_of_le ha h.size) hS).trans (h.cell a ha hS), fun g t L hL => ?_⟩
  obtain ⟨L1, h1, h2, h3⟩ := h.blk g t L hL
  obtain ⟨L2, k1, k2, k3⟩ := k.blk g t L1 h1
  exact ⟨L2, k1, k2.trans h2, fun j hj => (k3 j hj).trans (h3 j hj)⟩
theorem Tch.mono (h : Tch S' w w') (hS : ∀ a : Addr, a.block < w.heap.size → S' a → S a) : Tch S w w' := by
  refine ⟨h.os, h.tape, h.output, h.size, fun k hk hn => h.block k hk fun a ha hs => hn a ha (hS a (by omega) hs), fun a ha hn => h.cell a ha fun hs => hn (hS a ha hs), fun g t L hL => ?_⟩
  obtain ⟨L1, h1, h2, h3⟩ := h.blk g t L hL
  exact ⟨L1, h1, h2, fun j hj => h3 j fun hs => hj (hS _ hL.1.lt hs)⟩
theorem Tch.below {B : Nat} (h : Tch S w w') (hB : B ≤ w.heap.size) (hS : ∀ a : Addr, S a → B ≤ a.block) : Below B w w' :=
  ⟨h.os, h.tape, h.output, h.size, fun k hk => h.block k (by omega) fun a ha hs => by have := hS a hs; omega⟩
/-- A row of words is overwritten. -/
theorem Tch.row {g : Nat} {t : TypeId} {L L' : List Nat} (h : Wb w g t L) (hl : L'.length = L.length) (hlow : Low 18446744073709551616 L') (hS : ∀ j, ¬ S ⟨g, j, none⟩ → nth L' j = nth L j) :
    Tch S w (w.setRow g (vs .u64 L').toArray) ∧ Wb (w.setRow g (vs .u64 L').toArray) g t L' := by
  have hb : Wb (w.setRow g (vs .u64 L').toArray) g t L' := ⟨setRow_heap w g _ _ t _ h.1, hlow⟩
  refine ⟨⟨rfl, rfl, rfl, by simp, fun k hk hn => ?_, fun a ha hn => ?_, fun g' t' M hM => ?_⟩, hb⟩
  · by_cases hkg : k = g
    · subst hkg
      have : L' = L := ext_nth hl fun j _ => hS j (hn _ rfl)
      subst this
      exact (setRow_heap w k _ _ t _ h.1).trans h.1.symm
    · exact setRow_other w g k _ hkg
  · by_cases hg : a.block = g
    · subst hg
      obtain ⟨b, o, sp⟩ := a
      cases sp with
      | some x => simp [World.cell?, setRow_heap w b _ _ t _ h.1, show w.heap[b]? = _ from h.1]
      | none =>
        have e := hS o hn
        rw [cell_of_row _ b o _ t (0, 0) hb.1, cell_of_row w b o _ t (0, 0) h.1, List.getElem?_toArray, List.getElem?_toArray]
        by_cases ho : o < L.length
        · rw [vs_get (by omega), vs_get ho, e]
        · rw [List.getElem?_eq_none (by rw [vs_length]; omega), List.getElem?_eq_none (by rw [vs_length]; omega)]
    · exact cell_setRow_other w g _ a hg
  · by_cases hg : g' = g
    · subst hg
      have e := h.1.symm.trans hM.1
      injection e with e
      injection e with e1 e2
      subst e2
      have e3 : vs .u64 L = vs .u64 M := by simpa using e1
      have e4 : M.length = L.length := by have := congrArg List.length e3; rw [vs_length, vs_length] at this; omega
      have e5 : M = L := ext_nth e4 fun j hj => by
        have h1 := vs_get (K := .u64) hj
        rw [← e3, vs_get (by omega)] at h1
        injection h1 with h1
        injection h1 with _ h1
        omega
      subst e5
      exact ⟨L', hb, hl, fun j hj => hS j hj⟩
    · exact ⟨M, ⟨(setRow_other w g g' _ hg).trans hM.1, hM.2⟩, rfl, fun _ _ => rfl⟩
theorem Wb.setCell_row {g : Nat} {t : TypeId} {L : List Nat} (h : Wb w g t L) (j n : Nat) : w.setCell ⟨g, j, none⟩ (.int .u64 (n : Int)) = w.setRow g (vs .u64 (L.set j n)).toArray := by
  rw [setCell_eq_setRow w g j _ t _ _ h.1, List.setIfInBounds_toArray, vs_set]
theorem Low.set {b : Nat} {L : List Nat} (h : Low b L) (j : Nat) {n : Nat} (hn : n < b) : Low b (L.set j n) := fun k hk => by
  by_cases hkj : j = k
  · subst hkj
    rw [nth_set_eq (by simpa using hk)]
    exact hn
  · rw [nth_set_ne hkj]
    exact h k (by simpa using hk)
theorem Tch.store {g : Nat} {t : TypeId} {L : List Nat} (h : Wb w g t L) (j : Nat) {n : Nat} (hn : n < 18446744073709551616) (hS : S ⟨g, j, none⟩) :
    Tch S w (w.setCell ⟨g, j, none⟩ (.int .u64 (n : Int))) ∧ Wb (w.setCell ⟨g, j, none⟩ (.int .u64 (n : Int))) g t (L.set j n) := by
  rw [h.setCell_row]
  exact Tch.row h (by simp) (h.2.set j hn) fun k hk => nth_set_ne fun e => hk (e ▸ hS)
end

/-- None of the n places from A on is in S. -/
def Off (S : Addr → Prop) (A : Option Addr) (n : Nat) : Prop := ∀ ad, A = some ad → ∀ j, j < n → ¬ S (ad.add j)
theorem add_off (a : Addr) (n : Nat) : (a.add n).off = a.off + n := by unfold Addr.add; split <;> simp_all
theorem Off.take {S : Addr → Prop} {A : Option Addr} {n m : Nat} (h : Off S A n) (hm : m ≤ n) : Off S A m := fun ad ha j hj => h ad ha j (by omega)
theorem Off.drop {S : Addr → Prop} {A : Option Addr} {n k m : Nat} (h : Off S A n) (hm : k + m ≤ n) : Off S (A.map (·.add k)) m := fun ad ha j hj => by
  cases A with
  | none => cases ha
  | some ad' =>
    simp only [Option.map_some, Option.some.injEq] at ha
    subst ha
    rw [add_add]
    exact h ad' rfl _ (by omega)
theorem Off.seg_lit {g off n b o m : Nat} (h : b ≠ g ∨ o + m ≤ off ∨ off + n ≤ o) : Off (Seg g off n) (some ⟨b, o, none⟩) m := fun ad ha j hj => by
  obtain rfl := Option.some.inj ha
  rw [add_lit]
  unfold Seg
  simp only
  omega
theorem Off.or {S S' : Addr → Prop} {A : Option Addr} {n : Nat} (h : Off S A n) (k : Off S' A n) : Off (fun a => S a ∨ S' a) A n := fun ad ha j hj hs => hs.elim (h ad ha j hj) (k ad ha j hj)
theorem Off.mono {S S' : Addr → Prop} {A : Option Addr} {n : Nat} (h : Off S A n) (k : ∀ a, S' a → S a) : Off S' A n := fun ad ha j hj hs => h ad ha j hj (k _ hs)
theorem Rd.tch {S : Addr → Prop} {w w' : World} {K : IntKind} {A : Option Addr} {xs : List Nat} (h : Rd w K A xs) (ht : Tch S w w') (ho : Off S A xs.length) : Rd w' K A xs := fun hn => by
  obtain ⟨ad, rfl, hb, hc⟩ := h hn
  exact ⟨ad, rfl, Nat.lt_of_lt_of_le hb ht.size, fun j hj => (ht.cell _ (by rw [add_block]; exact hb) (ho ad rfl j hj)).trans (hc j hj)⟩

/-- The words of block g from p on read as zs, and may be written. -/
def Ar (w : World) (g p : Nat) (t : TypeId) (zs : List Nat) : Prop := ∃ L, Wb w g t L ∧ p + zs.length ≤ L.length ∧ ∀ j, j < zs.length → nth L (p + j) = nth zs j

section
variable {S : Addr → Prop} {w w' : World} {g p : Nat} {t : TypeId} {zs : List Nat}
theorem Ar.rd (h : Ar w g p t zs) : Rd w .u64 (some ⟨g, p, none⟩) zs := by
  obtain ⟨L, h1, h2, h3⟩ := h
  intro hn
  exact ⟨_, rfl, h1.1.lt, fun j hj => by rw [add_lit, h1.1.cell (by omega), h3 j hj]⟩
theorem Ar.cell (h : Ar w g p t zs) {j : Nat} (hj : j < zs.length) : w.cell? ⟨g, p + j, none⟩ = some (.int .u64 (nth zs j)) := by
  obtain ⟨L, h1, h2, h3⟩ := h
  rw [h1.1.cell (by omega), h3 j hj]
theorem Ar.free (h : Ar w g p t zs) (j : Nat) : w.frozen? ⟨g, j, none⟩ = false := by
  obtain ⟨L, h1, h2, h3⟩ := h
  exact h1.1.free j
theorem Ar.lt (h : Ar w g p t zs) : g < w.heap.size := by
  obtain ⟨L, h1, h2, h3⟩ := h
  exact h1.1.lt
theorem Ar.low (h : Ar w g p t zs) : Low 18446744073709551616 zs := by
  obtain ⟨L, h1, h2, h3⟩ := h
  intro j hj
  rw [← h3 j hj]
  exact h1.2 _ (by omega)
theorem Ar.of_wb {L : List Nat} (h : Wb w g t L) : Ar w g 0 t L := ⟨L, h, by omega, fun j _ => by rw [Nat.zero_add]⟩
theorem Ar.sub (h : Ar w g p t zs) (k n : Nat) (hn : k + n ≤ zs.length) : Ar w g (p + k) t ((zs.drop k).take n) := by
  obtain ⟨L, h1, h2, h3⟩ := h
  refine ⟨L, h1, by simp; omega, fun j hj => ?_⟩
  simp at hj
  rw [nth_take (by omega), nth_drop, Nat.add_assoc, h3 _ (by omega)]
theorem Ar.take (h : Ar w g p t zs) (n : Nat) (hn : n ≤ zs.length) : Ar w g p t (zs.take n) := by simpa using h.sub 0 n (by omega)
theorem Ar.drop (h : Ar w g p t zs) (k : Nat) (hk : k ≤ zs.length) : Ar w g (p + k) t (zs.drop k) := by
  have := h.sub k (zs.length - k) (by omega)
  rwa [List.take_of_length_le (by simp)] at this
theorem Ar.store (h : Ar w g p t zs) {j n : Nat} (hj : j < zs.length) (hn : n < 18446744073709551616) (hS : S ⟨g, p + j, none⟩) :
    Tch S w (w.setCell ⟨g, p + j, none⟩ (.int .u64 (n : Int))) ∧ Ar (w.setCell ⟨g, p + j, none⟩ (.int .u64 (n : Int))) g p t (zs.set j n) := by
  obtain ⟨L, h1, h2, h3⟩ := h
  obtain ⟨k1, k2⟩ := Tch.store h1 (p + j) hn hS
  refine ⟨k1, _, k2, by simpa using h2, fun i hi => ?_⟩
  simp at hi
  by_cases hij : j = i
  · subst hij
    rw [nth_set_eq (by omega), nth_set_eq (by omega)]
  · rw [nth_set_ne (by omega), nth_set_ne hij, h3 i hi]
/-- What is not written reads as it did. -/
theorem Ar.tch (h : Ar w g p t zs) (ht : Tch S w w') (ho : ∀ j, j < zs.length → ¬ S ⟨g, p + j, none⟩) : Ar w' g p t zs := by
  obtain ⟨L, h1, h2, h3⟩ := h
  obtain ⟨L', k1, k2, k3⟩ := ht.blk g t L h1
  exact ⟨L', k1, by omega, fun j hj => by rw [k3 _ (ho j hj), h3 j hj]⟩
/-- What may be written is still there, whatever it reads. -/
theorem Ar.any (h : Ar w g p t zs) (ht : Tch S w w') : ∃ us, us.length = zs.length ∧ Ar w' g p t us := by
  obtain ⟨L, h1, h2, h3⟩ := h
  obtain ⟨L', k1, k2, k3⟩ := ht.blk g t L h1
  refine ⟨(L'.drop p).take zs.length, by simp; omega, L', k1, by simp; omega, fun j hj => ?_⟩
  simp at hj
  rw [nth_take (by omega), nth_drop]
theorem Wb.one {L M : List Nat} {t' : TypeId} (h : Wb w g t L) (k : Wb w g t' M) : L = M := by
  have e := h.1.symm.trans k.1
  injection e with e
  injection e with e1 e2
  have e3 : vs .u64 L = vs .u64 M := by simpa using e1
  have e4 : L.length = M.length := by have := congrArg List.length e3; rw [vs_length, vs_length] at this; omega
  exact ext_nth e4 fun j hj => by
    have h1 := vs_get (K := .u64) hj
    rw [e3, vs_get (by omega)] at h1
    injection h1 with h1
    injection h1 with _ h1
    omega
/-- Two areas, one behind the other, are one. -/
theorem Ar.join {us : List Nat} (h : Ar w g p t zs) {q : Nat} (k : Ar w g q t us) (hq : q = p + zs.length) : Ar w g p t (zs ++ us) := by
  subst hq
  obtain ⟨L, h1, h2, h3⟩ := h
  obtain ⟨M, k1, k2, k3⟩ := k
  obtain rfl := h1.one k1
  refine ⟨L, h1, by simp; omega, fun j hj => ?_⟩
  simp at hj
  by_cases hlt : j < zs.length
  · rw [nth_append_left hlt, h3 j hlt]
  · rw [nth_append_right (by omega), ← k3 _ (by omega)]
    congr 1
    omega
theorem Ar.below (h : Ar w g p t zs) (hb : Below w.heap.size w w') : Ar w' g p t zs := h.tch (Tch.of_below (fun _ => False) hb) fun _ _ h => h
end

theorem set_front {us zs : List Nat} {k n : Nat} (hk : us.length = k) (h : k < zs.length) : (us ++ zs.drop k).set k n = (us ++ [n]) ++ zs.drop (k + 1) := by
  have e := drop_nth h
  rw [List.set_append_right _ _ (by omega), hk, Nat.sub_self, e, List.set_cons_zero]
  simp
theorem nth_front {us zs : List Nat} {k : Nat} (hk : us.length = k) : nth (us ++ zs.drop k) k = nth zs k := by
  rw [nth_append_right (by omega), hk, Nat.sub_self, nth_drop, Nat.add_zero]
theorem len_front {us zs : List Nat} {k : Nat} (hk : us.length = k) (h : k ≤ zs.length) : (us ++ zs.drop k).length = zs.length := by simp; omega

/-- copy into an area, of words that lie elsewhere. -/
theorem wpList_copy_ar {P : Program} {w : World} {ops : Array Oper} {rest : List Oper} {o : Oper} {a : Act} {Q : Exit → Act → World → Prop} (hgd : o.guard = none) (d s : Operand) (dT sT : TypeId)
    (ho : o.op = .call { callee := .builtin .copy, args := #[d, s], argTypes := #[dT, sT] }) (elem : TypeId) (hu : P.underlying dT = some (.slice elem)) (hsz : (P.info? elem).map (·.size) = some 1)
    (sp : Option Addr) (dLen dCap sLen sCap g p : Nat) (t : TypeId) (zs us : List Nat) (hd : a.eval d = .slice (some ⟨g, p, none⟩) dLen dCap) (hs : a.eval s = .slice sp sLen sCap)
    (hz : Hid (zs.length = dLen)) (hul : Hid (us.length = sLen)) (hle : sLen ≤ dLen) (har : Ar w g p t zs) (hr : Rd w .u64 sp us) (hlow : Low 18446744073709551616 us)
    (S : Addr → Prop) (hS : ∀ j, j < sLen → S ⟨g, p + j, none⟩)
    (h : ∀ w', Ar w' g p t (us ++ zs.drop sLen) → Tch S w w' → w'.heap.size = w.heap.size → wpList P ops Q rest (a.put o.dst (.int .i64 sLen)) w') :
    wpList P ops Q (o :: rest) a w := by
  obtain rfl := hz.out.symm
  obtain rfl := hul.out.symm
  by_cases h0 : us.length = 0
  · refine wpList_copy_nothing hgd d s dT sT ho elem hu hsz _ sp zs.length dCap us.length sCap hd hs (by rw [h0]; exact Nat.min_eq_left (by omega)) ?_
    have e : us = [] := List.eq_nil_of_length_eq_zero h0
    subst e
    exact h w (by simpa using har) (Tch.refl _ _) rfl
  · obtain ⟨ad, rfl, hb, hc⟩ := hr (by omega)
    obtain ⟨L, h1, h2, h3⟩ := har
    have hm : Nat.min us.length zs.length = us.length := Nat.min_eq_left hle
    refine wpList_copy_own hgd d s dT sT ho elem hu hsz g p zs.length dCap ad us.length sCap hd hs (vs .u64 L).toArray t h1.1 (vs .u64 us) (by rw [vs_length, hm]) (fun j v hv => ?_) (by simp [vs_length]; omega) (vs_one _ _) ?_
    · rcases Nat.lt_or_ge j us.length with hj | hj
      · rw [vs_get hj] at hv
        rw [hc j hj, hv]
      · rw [List.getElem?_eq_none (by rw [vs_length]; exact hj)] at hv
        cases hv
    · have e : (vs .u64 L).toArray.toList.take p ++ (vs .u64 us ++ (vs .u64 L).toArray.toList.drop (p + (vs .u64 us).length)) = vs .u64 (L.take p ++ us ++ L.drop (p + us.length)) := by
        simp [vs, List.map_take, List.map_drop]
      rw [e, vs_length]
      have hl : (L.take p ++ us ++ L.drop (p + us.length)).length = L.length := length_mid rfl (by omega)
      have hn : ∀ j, nth (L.take p ++ us ++ L.drop (p + us.length)) j = if p ≤ j ∧ j < p + us.length then nth us (j - p) else nth L j := by
        intro j
        have hp : (L.take p).length = p := by simp; omega
        rw [List.append_assoc]
        by_cases h1 : j < p
        · rw [nth_append_left (by omega), nth_take h1, if_neg (by omega)]
        · rw [nth_append_right (by omega), hp]
          by_cases h2 : j < p + us.length
          · rw [nth_append_left (by omega), if_pos (by omega)]
          · rw [nth_append_right (by omega), nth_drop, if_neg (by omega)]
            congr 1
            omega
      obtain ⟨k1, k2⟩ := Tch.row (S := S) (L' := L.take p ++ us ++ L.drop (p + us.length)) h1 hl (((h1.2.take p).append hlow).append (h1.2.drop _)) fun j hj => by
        rw [hn, if_neg]
        rintro ⟨h4, h5⟩
        have := hS (j - p) (by omega)
        rw [show p + (j - p) = j by omega] at this
        exact hj this
      refine h _ ⟨_, k2, by rw [hl]; simp; omega, fun j hj => ?_⟩ k1 (by simp)
      simp at hj
      rw [hn]
      by_cases hlt : j < us.length
      · rw [if_pos (by omega), nth_append_left hlt]
        congr 1
        omega
      · rw [if_neg (by omega), nth_append_right (by omega), nth_drop, h3 _ (by omega)]
        congr 1
        omega

/-- The words of an area become noughts. -/
theorem setCells_ar {S : Addr → Prop} {g : Nat} {t : TypeId} : ∀ (n p : Nat) (w : World) (zs : List Nat), zs.length = n → Ar w g p t zs → (∀ j, j < n → S ⟨g, p + j, none⟩) →
    Tch S w (w.setCells g p (List.replicate n (.int .u64 0))) ∧ Ar (w.setCells g p (List.replicate n (.int .u64 0))) g p t (List.replicate n 0) ∧ (w.setCells g p (List.replicate n (.int .u64 0))).heap.size = w.heap.size
  | 0, p, w, zs, hl, h, hS => ⟨Tch.refl _ _, by rw [List.eq_nil_of_length_eq_zero hl] at h; exact h, rfl⟩
  | n + 1, p, w, zs, hl, h, hS => by
    obtain ⟨k1, k2⟩ := h.store (S := S) (j := 0) (n := 0) (by omega) (by omega) (hS 0 (by omega))
    rw [Nat.add_zero] at k1 k2
    have k3 := k2.drop 1 (by simp; omega)
    obtain ⟨m1, m2, m3⟩ := setCells_ar n (p + 1) _ _ (by simp; omega) k3 (fun j hj => by rw [Nat.add_assoc, Nat.add_comm 1 j]; exact hS (j + 1) (by omega))
    have k4 : Ar (w.setCell ⟨g, p, none⟩ (.int .u64 ((0 : Nat) : Int))) g p t [0] := by
      have := k2.take 1 (by simp; omega)
      cases zs with
      | nil => simp at hl
      | cons z zs => simpa using this
    obtain ⟨m4, m5, m6⟩ := setCells_ar (S := Seg g (p + 1) n) n (p + 1) _ _ (by simp; omega) k3 (fun j hj => ⟨rfl, Nat.le_add_right _ _, Nat.add_lt_add_left hj _⟩)
    have k5 := k4.tch m4 (fun j hj hs => by simp at hj; subst hj; have := hs.2.1; simp at this; omega)
    rw [List.replicate_succ, World.setCells, List.replicate_succ]
    refine ⟨k1.trans m1, ?_, by simpa using m3⟩
    exact k5.join m2 (by simp)
end Go.Proofs.YthigedcpiglmnaaDoor

/-! Contracts: mul.trim, mul.addTo, mul.subFrom. -/
namespace Go.Proofs.YthigedcpiglmnaaDoor
open Go.RowKit
set_option linter.unusedVariables false

/-- The loops of mul.addTo: k words are done. -/
def AtRel (w : World) (g p : Nat) (zs xs : List Nat) (k : Nat) (s : Value) (wr : World) : Prop :=
  ∃ (c : Nat) (us : List Nat), Adding 18446744073709551616 zs xs us k c ∧ s = .int .u64 c ∧ Ar wr g p 26 (us ++ zs.drop k) ∧ Tch (Seg g p zs.length) w wr ∧ wr.heap.size = w.heap.size
theorem AtRel.next {w wr : World} {g p k c : Nat} {zs xs us : List Nat} {s : Value} (lz : Low 18446744073709551616 zs) (lx : Low 18446744073709551616 xs) (ha : Adding 18446744073709551616 zs xs us k c) (hk : k < zs.length)
    (har : Ar wr g p 26 (us ++ zs.drop k)) (ht : Tch (Seg g p zs.length) w wr) (hz : wr.heap.size = w.heap.size)
    (hs : s = .int .u64 (((nth zs k + nth xs k + c) / 18446744073709551616 : Nat) : Int)) :
    AtRel w g p zs xs (k + 1) s (wr.setCell ⟨g, p + k, none⟩ (.int .u64 (((nth zs k + nth xs k + c) % 18446744073709551616 : Nat) : Int))) := by
  obtain ⟨h1, h2⟩ := har.store (S := Seg g p zs.length) (j := k) (n := (nth zs k + nth xs k + c) % 18446744073709551616) (by rw [len_front ha.1 (by omega)]; exact hk) (Nat.mod_lt _ (by omega)) ⟨rfl, Nat.le_add_right _ _, Nat.add_lt_add_left hk _⟩
  rw [set_front ha.1 hk] at h2
  exact ⟨_, _, ha.step (by omega) lz lx, hs, h2, ht.trans h1, by simpa using hz⟩
/-- Behind the last word of what is added. -/
def AtPost (w : World) (g p : Nat) (zs xs : List Nat) (e : Ending) (w' : World) : Prop :=
  ∃ us : List Nat, e = .returned (.tuple #[]) ∧ us.length = zs.length ∧ ev 18446744073709551616 us = ev 18446744073709551616 zs + ev 18446744073709551616 xs ∧ Ar w' g p 26 us ∧ Tch (Seg g p zs.length) w w' ∧ w'.heap.size = w.heap.size
theorem adding_end {b : Nat} {zs xs us : List Nat} {k : Nat} (ha : Adding b zs xs us k 0) (hx : xs.length ≤ k) (hk : k ≤ zs.length) : ev b (us ++ zs.drop k) = ev b zs + ev b xs := by
  obtain ⟨h1, h2, h3, h4⟩ := ha
  rw [ev_append, h1, ev_split b zs k hk]
  rw [pre_ge b hx] at h4
  omega
theorem adding_full {b : Nat} {zs xs us : List Nat} {c : Nat} (ha : Adding b zs xs us zs.length c) (hx : xs.length ≤ zs.length) (hs : ev b zs + ev b xs < b ^ zs.length) : c = 0 := by
  obtain ⟨h1, h2, h3, h4⟩ := ha
  rw [pre_ge b hx, pre_len] at h4
  rcases Nat.eq_zero_or_pos c with h | h
  · exact h
  · obtain rfl : c = 1 := by omega
    omega

/-- The loops of mul.subFrom: k words are done. -/
def SfRel (w : World) (g p : Nat) (zs xs : List Nat) (k : Nat) (s : Value) (wr : World) : Prop :=
  ∃ (c : Nat) (us : List Nat), Subbing 18446744073709551616 zs xs us k c ∧ s = .int .u64 c ∧ Ar wr g p 26 (us ++ zs.drop k) ∧ Tch (Seg g p zs.length) w wr ∧ wr.heap.size = w.heap.size
theorem SfRel.next {w wr : World} {g p k c d c' : Nat} {zs xs us : List Nat} {s : Value} (ha : Subbing 18446744073709551616 zs xs us k c) (hk : k < zs.length)
    (har : Ar wr g p 26 (us ++ zs.drop k)) (ht : Tch (Seg g p zs.length) w wr) (hz : wr.heap.size = w.heap.size)
    (hd : d < 18446744073709551616) (hc : c' ≤ 1) (he : d + nth xs k + c = nth zs k + 18446744073709551616 * c') (hs : s = .int .u64 (c' : Int)) :
    SfRel w g p zs xs (k + 1) s (wr.setCell ⟨g, p + k, none⟩ (.int .u64 (d : Int))) := by
  obtain ⟨h1, h2⟩ := har.store (S := Seg g p zs.length) (j := k) (n := d) (by rw [len_front ha.1 (by omega)]; exact hk) hd ⟨rfl, Nat.le_add_right _ _, Nat.add_lt_add_left hk _⟩
  rw [set_front ha.1 hk] at h2
  exact ⟨_, _, ha.step hd hc he, hs, h2, ht.trans h1, by simpa using hz⟩
/-- What mul.subFrom leaves: whether it ran below 0, and the words. -/
def SfPost (w : World) (g p : Nat) (zs xs : List Nat) (e : Ending) (w' : World) : Prop :=
  ∃ (c : Nat) (us : List Nat), e = .returned (.bool (decide (c = 1))) ∧ c ≤ 1 ∧ us.length = zs.length ∧ Hid (ev 18446744073709551616 us + ev 18446744073709551616 xs = ev 18446744073709551616 zs + 18446744073709551616 ^ zs.length * c) ∧
    Ar w' g p 26 us ∧ Tch (Seg g p zs.length) w w' ∧ w'.heap.size = w.heap.size
theorem subbing_end {b : Nat} {zs xs us : List Nat} {k : Nat} (ha : Subbing b zs xs us k 0) (hx : xs.length ≤ k) (hk : k ≤ zs.length) : ev b (us ++ zs.drop k) + ev b xs = ev b zs := by
  obtain ⟨h1, h2, h3, h4⟩ := ha
  rw [ev_append, h1, ev_split b zs k hk]
  rw [pre_ge b hx] at h4
  omega
theorem subbing_full {b : Nat} {zs xs us : List Nat} {c : Nat} (ha : Subbing b zs xs us zs.length c) (hx : xs.length ≤ zs.length) : ev b (us ++ zs.drop zs.length) + ev b xs = ev b zs + b ^ zs.length * c := by
  obtain ⟨h1, h2, h3, h4⟩ := ha
  rw [pre_ge b hx, pre_len] at h4
  simpa using h4

end Go.Proofs.YthigedcpiglmnaaDoor

/-! Contracts: mul.fill, mul.distance. -/
namespace Go.Proofs.YthigedcpiglmnaaDoor
open Go.RowKit
set_option linter.unusedVariables false

/-- clear of an area, or of nothing. -/
theorem wpList_clear_ar {P : Program} {w : World} {ops : Array Oper} {rest : List Oper} {o : Oper} {a : Act} {Q : Exit → Act → World → Prop} (hgd : o.guard = none) (d : Operand) (dT : TypeId)
    (ho : o.op = .call { callee := .builtin .clear, args := #[d], argTypes := #[dT] }) (elem : TypeId) (hu : P.underlying dT = some (.slice elem)) (hv : ∀ w, (zeroValue elem).run P w = .ok (.int .u64 0) w)
    (A : Option Addr) (n c g q : Nat) (t : TypeId) (zs : List Nat) (hd : a.eval d = .slice A n c) (hA : 0 < n → A = some ⟨g, q, none⟩) (hz : Hid (zs.length = n)) (har : Ar w g q t zs)
    (S : Addr → Prop) (hS : ∀ j, j < n → S ⟨g, q + j, none⟩)
    (h : ∀ w', Ar w' g q t (List.replicate n 0) → Tch S w w' → w'.heap.size = w.heap.size → wpList P ops Q rest (a.put o.dst (.tuple #[])) w') :
    wpList P ops Q (o :: rest) a w := by
  refine wpList_plain hgd fun K hK => ?_
  rcases Nat.eq_zero_or_pos n with rfl | hn
  · have hrun : (Builtin.clear_ #[dT] o.type #[.slice A 0 c]).run P w = .ok (.tuple #[]) w := by
      cases A <;> simp [Builtin.clear_, run_underlying hu]
    unfold Oper.wp
    simp [execOp, ho, resolve, invoke, builtin, hd, hrun, Result.andThen]
    have e : zs = [] := List.eq_nil_of_length_eq_zero hz.out
    subst e
    exact hK _ _ (h w har (Tch.refl _ _) rfl)
  · obtain rfl := hA hn
    have hrun := Lib.run_clear_slice (P := P) w dT elem o.type (.int .u64 0) hu hv rfl rfl g q n c hn (fun j hj => by rw [har.cell (j := j) (by rw [hz.out]; exact hj)]; rfl) (fun j hj => har.free _)
    unfold Oper.wp
    simp [execOp, ho, resolve, invoke, builtin, hd, hrun, Result.andThen]
    obtain ⟨h1, h2, h3⟩ := setCells_ar (S := S) n q w zs hz.out har hS
    exact hK _ _ (h _ h2 h1 h3)

theorem zero_u64 : ∀ w, (zeroValue 26).run Tryd.prog w = .ok (.int .u64 0) w := fun w => by kernel_rfl

/-- What mul.fill leaves. -/
def FiPost (w : World) (g p m : Nat) (xs : List Nat) (e : Ending) (w' : World) : Prop :=
  e = .returned (.tuple #[]) ∧ Ar w' g p 26 (xs ++ List.replicate (m - xs.length) 0) ∧ Tch (Seg g p m) w w' ∧ w'.heap.size = w.heap.size
theorem fill_end {w w1 w2 : World} {g p m : Nat} {zs xs : List Nat} (hz : zs.length = m) (hx : xs.length ≤ m) (h1 : Ar w1 g p 26 (xs ++ zs.drop xs.length)) (t1 : Tch (Seg g p m) w w1) (z1 : w1.heap.size = w.heap.size)
    (h2 : Ar w2 g (p + xs.length) 26 (List.replicate (m - xs.length) 0)) (t2 : Tch (Seg g (p + xs.length) (m - xs.length)) w1 w2) (z2 : w2.heap.size = w1.heap.size) :
    FiPost w g p m xs (.returned (.tuple #[])) w2 := by
  have h3 := h1.take xs.length (by simp)
  rw [List.take_left'  rfl] at h3
  have h4 := h3.tch t2 (fun j hj hs => by have := hs.2.1; simp only at this; omega)
  refine ⟨rfl, h4.join h2 rfl, t1.trans (t2.mono fun a _ ha => ?_), by omega⟩
  unfold Seg at *
  omega

theorem xor_all (b : Nat) (hb : b < 18446744073709551616) : 18446744073709551615 ^^^ b = 18446744073709551615 - b := by
  have h1 : (BitVec.allOnes 64 ^^^ BitVec.ofNat 64 b).toNat = 18446744073709551615 ^^^ b := by
    rw [BitVec.toNat_xor, BitVec.toNat_allOnes, BitVec.toNat_ofNat, Nat.mod_eq_of_lt (by omega)]
  have h2 : (BitVec.allOnes 64 ^^^ BitVec.ofNat 64 b) = ~~~ BitVec.ofNat 64 b := by
    rw [BitVec.allOnes_xor]
  rw [← h1, h2, BitVec.toNat_not, BitVec.toNat_ofNat, Nat.mod_eq_of_lt (by omega)]
theorem max_u64 : IntKind.u64.max = ((18446744073709551615 : Nat) : Int) := by decide
theorem bits_not (z : Nat) (hz : z < 18446744073709551616) : bits .xor .u64 IntKind.u64.max (z : Int) = ((18446744073709551615 - z : Nat) : Int) := by
  rw [max_u64, bits_xor_u64_nat _ _ (by omega) hz, xor_all z hz]
/-- A number is made the one that lacks to the power: k words are done. -/
def Lacking (b : Nat) (zs us : List Nat) (k c : Nat) : Prop :=
  us.length = k ∧ Low b us ∧ c ≤ 1 ∧ ev b us + b ^ k * c + pre b zs k = b ^ k
theorem Lacking.start (b : Nat) (zs : List Nat) : Lacking b zs [] 0 1 := ⟨rfl, Low.nil b, by omega, by simp [ev, pre_zero]⟩
theorem Lacking.step {b : Nat} {zs us : List Nat} {k c s c' : Nat} (h : Lacking b zs us k c) (hs : s < b) (hc : c' ≤ 1) (he : s + b * c' = (b - 1 - nth zs k) + c) (hz : nth zs k < b) : Lacking b zs (us ++ [s]) (k + 1) c' := by
  obtain ⟨h1, h2, h3, h4⟩ := h
  refine ⟨by simp [h1], h2.snoc hs, hc, ?_⟩
  rw [ev_snoc, pre_succ, h1]
  have e : s + b * c' + nth zs k + 1 = b + c := by omega
  have e2 : b ^ k * (s + b * c' + nth zs k + 1) = b ^ k * (b + c) := by rw [e]
  simp only [Nat.mul_add, Nat.mul_one] at e2
  rw [Nat.pow_succ]
  have e3 : b ^ k * (b * c') = b ^ k * b * c' := (Nat.mul_assoc _ _ _).symm
  rw [e3] at e2
  omega
/-- The loop of mul.distance: k words are done. -/
def DsRel (w : World) (g p : Nat) (zs : List Nat) (k : Nat) (s : Value) (wr : World) : Prop :=
  ∃ (c : Nat) (us : List Nat), Lacking 18446744073709551616 zs us k c ∧ s = .int .u64 c ∧ Ar wr g p 26 (us ++ zs.drop k) ∧ Tch (Seg g p zs.length) w wr ∧ wr.heap.size = w.heap.size
theorem DsRel.next {w wr : World} {g p k c : Nat} {zs us : List Nat} {s : Value} (lz : Low 18446744073709551616 zs) (ha : Lacking 18446744073709551616 zs us k c) (hk : k < zs.length)
    (har : Ar wr g p 26 (us ++ zs.drop k)) (ht : Tch (Seg g p zs.length) w wr) (hz : wr.heap.size = w.heap.size) {d c' : Nat} (hd : d < 18446744073709551616) (hc : c' ≤ 1) (he : d + 18446744073709551616 * c' = (18446744073709551615 - nth zs k) + c)
    (hs : s = .int .u64 (c' : Int)) :
    DsRel w g p zs (k + 1) s (wr.setCell ⟨g, p + k, none⟩ (.int .u64 (d : Int))) := by
  obtain ⟨h1, h2⟩ := har.store (S := Seg g p zs.length) (j := k) (n := d) (by rw [len_front ha.1 (by omega)]; exact hk) hd ⟨rfl, Nat.le_add_right _ _, Nat.add_lt_add_left hk _⟩
  rw [set_front ha.1 hk] at h2
  exact ⟨_, _, ha.step hd hc he (lz.any (by omega) k), hs, h2, ht.trans h1, by simpa using hz⟩
/-- What mul.distance leaves: how far two numbers lie apart, and whether the first one is less. -/
def DsPost (w : World) (g p m x y : Nat) (e : Ending) (w' : World) : Prop :=
  ∃ us : List Nat, e = .returned (.bool (decide (x < y))) ∧ us.length = m ∧ Hid (ev 18446744073709551616 us = (x - y) + (y - x)) ∧ Ar w' g p 26 us ∧ Tch (Seg g p m) w w' ∧ w'.heap.size = w.heap.size
theorem ds_yes {b : Nat} {xs ys zs us : List Nat} {c m : Nat} (hx : xs.length = m) (hy : ys.length ≤ m) (lx : Low b xs) (ly : Low b ys) (hb : 2 ≤ b) (hz : zs.length = m) (lz : Low b zs) (h : ev b zs + ev b ys = ev b xs + b ^ m * 1)
    (hl : Lacking b zs us m c) : ev b xs < ev b ys ∧ ev b us = (ev b xs - ev b ys) + (ev b ys - ev b xs) := by
  obtain ⟨h1, h2, h3, h4⟩ := hl
  have k1 := ev_lt lz
  have k2 := ev_lt ly
  have k3 : b ^ ys.length ≤ b ^ m := Nat.pow_le_pow_right (by omega) hy
  rw [pre_ge b (by omega)] at h4
  rw [hz] at k1
  rcases Nat.eq_zero_or_pos c with rfl | hc
  · omega
  · obtain rfl : c = 1 := by omega
    omega
theorem ds_no {b : Nat} {xs ys zs : List Nat} {m : Nat} (h : ev b zs + ev b ys = ev b xs + b ^ m * 0) : ¬ ev b xs < ev b ys ∧ ev b zs = (ev b xs - ev b ys) + (ev b ys - ev b xs) := by omega

end Go.Proofs.YthigedcpiglmnaaDoor

/-! Contract: mul.karatsuba. -/
namespace Go.Proofs.YthigedcpiglmnaaDoor
open Go.RowKit
set_option linter.unusedVariables false

/-- What karatsuba writes: the product, and the room. -/
def KarS (g p m h r kr : Nat) (a : Addr) : Prop := Seg g p m a ∨ Seg h r kr a
/-- What karatsuba is handed: an area for the product, one for room, and two numbers of n words that lie in neither. -/
structure KarIn (w : World) (n g p h r kr : Nat) (A B : Option Addr) (zs rs xs ys : List Nat) : Prop where
  pz : Ar w g p 26 zs
  pl : zs.length = 2 * n
  rz : Ar w h r 26 rs
  rl : rs.length = kr
  rk : 3 * n ≤ kr
  apart : g ≠ h ∨ p + 2 * n ≤ r ∨ r + kr ≤ p
  xa : Rd w .u64 A xs
  xl : xs.length = n
  yb : Rd w .u64 B ys
  yl : ys.length = n
  lx : Low 18446744073709551616 xs
  ly : Low 18446744073709551616 ys
  oxp : Off (Seg g p (2 * n)) A n
  oxr : Off (Seg h r kr) A n
  oyp : Off (Seg g p (2 * n)) B n
  oyr : Off (Seg h r kr) B n
/-- What karatsuba leaves. -/
def KarPost (w : World) (n g p h r kr v : Nat) (e : Ending) (w' : World) : Prop :=
  e = .returned (.tuple #[]) ∧ ∃ us : List Nat, Hid (us.length = 2 * n) ∧ Hid (ev 18446744073709551616 us = v) ∧ Ar w' g p 26 us ∧ Tch (KarS g p (2 * n) h r kr) w w'
theorem KarIn.lt {w : World} {n g p h r kr : Nat} {A B : Option Addr} {zs rs xs ys : List Nat} (k : KarIn w n g p h r kr A B zs rs xs ys) : ev 18446744073709551616 xs * ev 18446744073709551616 ys < 18446744073709551616 ^ (2 * n) := by
  have h1 := ev_lt k.lx
  have h2 := ev_lt k.ly
  rw [k.xl] at h1
  rw [k.yl] at h2
  rw [Nat.two_mul, Nat.pow_add]
  exact Nat.mul_lt_mul'' h1 h2

theorem KarIn.below {w w' : World} {n g p h r kr : Nat} {A B : Option Addr} {zs rs xs ys : List Nat} (k : KarIn w n g p h r kr A B zs rs xs ys) (hb : Below w.heap.size w w') : KarIn w' n g p h r kr A B zs rs xs ys :=
  { k with pz := k.pz.below hb, rz := k.rz.below hb, xa := k.xa.below hb, yb := k.yb.below hb }
theorem below_drewN (w : World) (q : Nat) : Below w.heap.size w (w.drewN q) := ⟨rfl, rfl, rfl, Nat.le_refl _, fun _ _ => rfl⟩
theorem below_drew (w : World) : Below w.heap.size w w.drew := ⟨rfl, rfl, rfl, Nat.le_refl _, fun _ _ => rfl⟩

section
variable {w w' : World} {n half D N g p h r kr : Nat} {A B : Addr} {zs rs xs ys us vs : List Nat}
theorem KarIn.rest (K : KarIn w n g p h r kr (some A) (some B) zs rs xs ys) (hN : 2 * n = N) (T : Tch (KarS g p N h r kr) w w') :
    ∃ zs' rs', zs'.length = N ∧ rs'.length = kr ∧ Ar w' g p 26 zs' ∧ Ar w' h r 26 rs' ∧ Rd w' .u64 (some A) xs ∧ Rd w' .u64 (some B) ys := by
  subst hN
  obtain ⟨zs', z1, z2⟩ := K.pz.any T
  obtain ⟨rs', r1, r2⟩ := K.rz.any T
  exact ⟨zs', rs', by rw [z1, K.pl], by rw [r1, K.rl], z2, r2, K.xa.tch T (by rw [K.xl]; exact K.oxp.or K.oxr), K.yb.tch T (by rw [K.yl]; exact K.oyp.or K.oyr)⟩
theorem KarIn.cross (K : KarIn w n g p h r kr (some A) (some B) zs rs xs ys) (hN : 2 * n = N) (hD : D = 2 * half) (hn : 40 ≤ n) (M : half + half ≤ n + 1) (T : Tch (KarS g p N h r kr) w w') (ua : Ar w' g p 26 us) (ul : us.length = half)
    (va : Ar w' g (p + half) 26 vs) (vl : vs.length = half) : ∃ zs' rs', KarIn w' half h r h (r + D) (kr - D) (some ⟨g, p, none⟩) (some ⟨g, p + half, none⟩) zs' rs' us vs := by
  obtain ⟨zs', rs', z1, r1, z2, r2, _, _⟩ := K.rest hN T
  have a := K.apart
  have b := K.rk
  exact ⟨rs'.take D, rs'.drop D, r2.take D (by omega), by simp; omega, r2.drop D (by omega), by simp; omega, by omega, by omega, ua.rd, ul, va.rd, vl, ua.low, va.low,
    Off.seg_lit (by omega), Off.seg_lit (by omega), Off.seg_lit (by omega), Off.seg_lit (by omega)⟩
theorem KarIn.low (K : KarIn w n g p h r kr (some A) (some B) zs rs xs ys) (hN : 2 * n = N) (hD : D = 2 * half) (hn : 40 ≤ n) (M : half + half ≤ n + 1) (T : Tch (KarS g p N h r kr) w w') :
    ∃ zs' rs', KarIn w' half g p h (r + D) (kr - D) (some A) (some B) zs' rs' (xs.take half) (ys.take half) := by
  obtain ⟨zs', rs', z1, r1, z2, r2, x2, y2⟩ := K.rest hN T
  have a := K.apart
  have b := K.rk
  have c := K.xl
  have d := K.yl
  exact ⟨zs'.take D, rs'.drop D, z2.take D (by omega), by simp; omega, r2.drop D (by omega), by simp; omega, by omega, by omega, x2.take _, by simp; omega, y2.take _, by simp; omega, K.lx.take _, K.ly.take _,
    (K.oxp.take (by omega)).mono fun a ha => by unfold Seg at *; omega, (K.oxr.take (by omega)).mono fun a ha => by unfold Seg at *; omega, (K.oyp.take (by omega)).mono fun a ha => by unfold Seg at *; omega, (K.oyr.take (by omega)).mono fun a ha => by unfold Seg at *; omega⟩
theorem KarIn.high (K : KarIn w n g p h r kr (some A) (some B) zs rs xs ys) (hN : 2 * n = N) (hD : D = 2 * half) (hn : 40 ≤ n) (M : half + half ≤ n + 1) (T : Tch (KarS g p N h r kr) w w') :
    ∃ zs' rs', KarIn w' (n - half) g (p + D) h (r + D) (kr - D) (some (A.add half)) (some (B.add half)) zs' rs' (xs.drop half) (ys.drop half) := by
  obtain ⟨zs', rs', z1, r1, z2, r2, x2, y2⟩ := K.rest hN T
  have a := K.apart
  have b := K.rk
  have c := K.xl
  have d := K.yl
  exact ⟨zs'.drop D, rs'.drop D, z2.drop D (by omega), by simp; omega, r2.drop D (by omega), by simp; omega, by omega, by omega, x2.drop _, by simp; omega, y2.drop _, by simp; omega, K.lx.drop _, K.ly.drop _,
    (K.oxp.drop (k := half) (by omega)).mono fun a ha => by unfold Seg at *; omega, (K.oxr.drop (k := half) (by omega)).mono fun a ha => by unfold Seg at *; omega, (K.oyp.drop (k := half) (by omega)).mono fun a ha => by unfold Seg at *; omega, (K.oyr.drop (k := half) (by omega)).mono fun a ha => by unfold Seg at *; omega⟩
end

theorem kar_mid (x0 x1 y0 y1 : Nat) {b1 b2 : Bool} (h1 : decide (x0 < x1) = b1) (h2 : decide (y0 < y1) = b2) :
    if (b1 ^^ b2) = true then x0 * y0 + x1 * y1 + ((x0 - x1) + (x1 - x0)) * ((y0 - y1) + (y1 - y0)) = x0 * y1 + x1 * y0
    else x0 * y0 + x1 * y1 = x0 * y1 + x1 * y0 + ((x0 - x1) + (x1 - x0)) * ((y0 - y1) + (y1 - y0)) := by
  subst h1 h2
  rcases Nat.lt_or_ge x0 x1 with hx | hx
  · obtain ⟨d, rfl⟩ : ∃ d, x1 = x0 + d := ⟨x1 - x0, by omega⟩
    have e1 : (x0 - (x0 + d)) + (x0 + d - x0) = d := by omega
    rw [e1, decide_eq_true hx]
    rcases Nat.lt_or_ge y0 y1 with hy | hy
    · obtain ⟨f, rfl⟩ : ∃ f, y1 = y0 + f := ⟨y1 - y0, by omega⟩
      have e2 : (y0 - (y0 + f)) + (y0 + f - y0) = f := by omega
      rw [e2, decide_eq_true hy]
      simp
      grind
    · obtain ⟨f, rfl⟩ : ∃ f, y0 = y1 + f := ⟨y0 - y1, by omega⟩
      have e2 : (y1 + f - y1) + (y1 - (y1 + f)) = f := by omega
      rw [e2, decide_eq_false (by omega)]
      simp
      grind
  · obtain ⟨d, rfl⟩ : ∃ d, x0 = x1 + d := ⟨x0 - x1, by omega⟩
    have e1 : (x1 + d - x1) + (x1 - (x1 + d)) = d := by omega
    rw [e1, decide_eq_false (by omega)]
    rcases Nat.lt_or_ge y0 y1 with hy | hy
    · obtain ⟨f, rfl⟩ : ∃ f, y1 = y0 + f := ⟨y1 - y0, by omega⟩
      have e2 : (y0 - (y0 + f)) + (y0 + f - y0) = f := by omega
      rw [e2, decide_eq_true hy]
      simp
      grind
    · obtain ⟨f, rfl⟩ : ∃ f, y0 = y1 + f := ⟨y0 - y1, by omega⟩
      have e2 : (y1 + f - y1) + (y1 - (y1 + f)) = f := by omega
      rw [e2, decide_eq_false (by omega)]
      simp
      grind

/-- Behind the middle's sign. -/
def KarMid (w1 : World) (g p N h r kr D m : Nat) (ls hs : List Nat) (v : Value) (wx : World) : Prop :=
  ∃ ms : List Nat, Hid (ms.length = D + 1) ∧ Hid (ev 18446744073709551616 ms = m) ∧ Ar wx h (r + D) 26 ms ∧ Ar wx g p 26 ls ∧ Ar wx g (p + D) 26 hs ∧ Tch (KarS g p N h r kr) w1 wx
theorem kar_parts {b half n D : Nat} {xs ys : List Nat} (hb : 2 ≤ b) (hx : xs.length = n) (hy : ys.length = n) (lx : Low b xs) (ly : Low b ys) (h1 : n ≤ half + half) (h2 : half ≤ n) (hD : D = 2 * half) :
    ev b (xs.take half) * ev b (ys.take half) + ev b (xs.drop half) * ev b (ys.drop half) < b ^ (D + 1) ∧
    ev b (xs.take half) * ev b (ys.drop half) + ev b (xs.drop half) * ev b (ys.take half) < b ^ (D + 1) ∧
    ev b xs * ev b ys = (ev b (xs.take half) * ev b (ys.take half) + b ^ D * (ev b (xs.drop half) * ev b (ys.drop half))) + b ^ half * (ev b (xs.take half) * ev b (ys.drop half) + ev b (xs.drop half) * ev b (ys.take half)) := by
  have p : ∀ {zs : List Nat}, zs.length = n → Low b zs → ev b (zs.take half) < b ^ half ∧ ev b (zs.drop half) < b ^ half ∧ ev b zs = ev b (zs.take half) + b ^ half * ev b (zs.drop half) := by
    intro zs hz lz
    have a1 := ev_lt (lz.take half)
    have a2 := ev_lt (lz.drop half)
    have a3 : b ^ (zs.take half).length ≤ b ^ half := Nat.pow_le_pow_right (by omega) (by simp; omega)
    have a4 : b ^ (zs.drop half).length ≤ b ^ half := Nat.pow_le_pow_right (by omega) (by simp; omega)
    have a5 := ev_split b zs half (by omega)
    exact ⟨by omega, by omega, a5⟩
  obtain ⟨x1, x2, x3⟩ := p hx lx
  obtain ⟨y1, y2, y3⟩ := p hy ly
  have e1 : b ^ D = b ^ half * b ^ half := by rw [hD, Nat.two_mul, Nat.pow_add]
  have e2 : b ^ (D + 1) = b ^ half * b ^ half * b := by rw [Nat.pow_succ, e1]
  have q : ∀ {u v : Nat}, u < b ^ half → v < b ^ half → u * v < b ^ half * b ^ half := fun hu hv => Nat.mul_lt_mul'' hu hv
  have q1 := q x1 y1
  have q2 := q x2 y2
  have q3 := q x1 y2
  have q4 := q x2 y1
  have e3 : b ^ half * b ^ half * 2 ≤ b ^ half * b ^ half * b := Nat.mul_le_mul_left _ hb
  refine ⟨by omega, by omega, ?_⟩
  rw [x3, y3, e1]
  grind
theorem kar_top {b half D N v : Nat} {ls hs ms : List Nat} (hl : ls.length = D) (hh : half ≤ D) (hN : half ≤ N) (h0 : ev b ls + b ^ D * ev b hs + b ^ half * ev b ms = v) (hv : v < b ^ N) (hb : 0 < b) :
    ev b (ls.drop half ++ hs) + ev b ms < b ^ (N - half) ∧ ∀ fs : List Nat, ev b fs = ev b (ls.drop half ++ hs) + ev b ms → ev b (ls.take half ++ fs) = v := by
  have e1 := ev_split b ls half (by omega)
  have e2 : ev b (ls.drop half ++ hs) = ev b (ls.drop half) + b ^ (D - half) * ev b hs := by rw [ev_append]; simp [hl]
  have e3 : b ^ D = b ^ half * b ^ (D - half) := by rw [← Nat.pow_add]; congr 1; omega
  have e4 : b ^ N = b ^ half * b ^ (N - half) := by rw [← Nat.pow_add]; congr 1; omega
  have e5 : v = ev b (ls.take half) + b ^ half * (ev b (ls.drop half ++ hs) + ev b ms) := by
    rw [← h0, e1, e2, e3]
    show pre b ls half + _ + _ + _ = pre b ls half + _
    grind
  constructor
  · rw [e4] at hv
    refine Nat.lt_of_mul_lt_mul_left (a := b ^ half) ?_
    omega
  · intro fs hf
    rw [ev_append, hf, e5]
    have : (ls.take half).length = half := by simp; omega
    rw [this]

end Go.Proofs.YthigedcpiglmnaaDoor

/-! Contracts: mul.karatsuba for all lengths, mul.mulPiece, mul.Mul, mul.Square. -/
namespace Go.Proofs.YthigedcpiglmnaaDoor
open Go.RowKit
set_option linter.unusedVariables false

/-- A product is answered in new memory, of at most k words. -/
def PiPost (v k : Nat) (w : World) (e : Ending) (w' : World) : Prop :=
  ∃ A c us, e = .returned (.slice A (List.length us) c) ∧ Hid (ev 18446744073709551616 us = v) ∧ us.length ≤ k ∧ us.length ≤ c ∧ c ≤ 9223372036854775807 ∧ Low 18446744073709551616 us ∧ Rd w' .u64 A us ∧ (∀ ad, A = some ad → w.heap.size ≤ ad.block) ∧ Below w.heap.size w w'
theorem Got.block' {wi wj : World} {t : TypeId} {A : Option Addr} {c : Nat} {zs : List Nat} (h : Got wi wj t .u64 A c zs) : ∀ ad, A = some ad → wi.heap.size ≤ ad.block ∧ ad.block < wj.heap.size := by
  intro ad ha
  subst ha
  exact h.1.lt ad.block rfl

theorem Rd.shift {w : World} {K : IntKind} {A : Option Addr} {xs ys : List Nat} (h : Rd w K A xs) (e : xs = ys) : Rd w K A ys := e ▸ h
theorem wb_made {w : World} {g : Nat} {t : TypeId} {n : Nat} (h : Blk w g t .u64 (List.replicate n 0)) : Wb w g t (List.replicate n 0) := ⟨h, Low.replicate _ _ (by omega)⟩

end Go.Proofs.YthigedcpiglmnaaDoor

/-! Contracts: mul.Mul, mul.Square. -/
namespace Go.Proofs.YthigedcpiglmnaaDoor
open Go.RowKit
set_option linter.unusedVariables false

/-- Behind the exchange: the longer one, and the shorter one. -/
def MlCut (w : World) (F : Nat → Nat → Prop) (k : Nat) (va vb : Value) (wx : World) : Prop :=
  ∃ (A B : Option Addr) (c d : Nat) (xs ys : List Nat), va = .slice A xs.length c ∧ vb = .slice B ys.length d ∧ Rd w .u64 A xs ∧ Rd w .u64 B ys ∧ ys.length ≤ xs.length ∧ xs.length ≤ 1099511627776 ∧ ys.length ≤ k ∧
    xs.length ≤ c ∧ c ≤ 9223372036854775807 ∧ ys.length ≤ d ∧ d ≤ 9223372036854775807 ∧
    Low 18446744073709551616 xs ∧ Low 18446744073709551616 ys ∧ F (ev 18446744073709551616 xs) (ev 18446744073709551616 ys) ∧ wx = w
theorem MlCut.mk {w : World} {A B : Option Addr} {c d k : Nat} {xs ys : List Nat} (hx : Rd w .u64 A xs) (hy : Rd w .u64 B ys) (h : sl ys ≤ sl xs) (hm : sl xs ≤ 1099511627776) (hk : sl ys ≤ k) (hc : sl xs ≤ c) (hc' : c ≤ 9223372036854775807) (hd : sl ys ≤ d) (hd' : d ≤ 9223372036854775807)
    (lx : Low 18446744073709551616 xs) (ly : Low 18446744073709551616 ys) {F : Nat → Nat → Prop} (hS : F (ev 18446744073709551616 xs) (ev 18446744073709551616 ys)) :
    MlCut w F k (.slice A (sl xs) c) (.slice B (sl ys) d) w := by
  have ex : (xs.take (sl xs)).length = sl xs := by simp [Nat.min_eq_left (sl_le xs)]
  have ey : (ys.take (sl ys)).length = sl ys := by simp [Nat.min_eq_left (sl_le ys)]
  exact ⟨A, B, c, d, xs.take (sl xs), ys.take (sl ys), by rw [ex], by rw [ey], hx.take _, hy.take _, by rw [ex, ey]; exact h, by rw [ex]; exact hm, by rw [ey]; exact hk, by rw [ex]; exact hc, hc', by rw [ey]; exact hd, hd', lx.take _, ly.take _, by rw [ev_take_sl, ev_take_sl]; exact hS, rfl⟩

/-- mul.Mul, in the middle: the words below i are done. -/
def MlRel (w : World) (xs ys : List Nat) (i : Nat) (wr : World) : Prop :=
  ∃ Z : List Nat, Hid (Z.length = xs.length + ys.length) ∧ Hid (ev 18446744073709551616 Z = pre 18446744073709551616 xs i * ev 18446744073709551616 ys) ∧ Wb wr w.heap.size 26 Z ∧ Below w.heap.size w wr
theorem pre_drop (b : Nat) (xs : List Nat) (i q : Nat) : pre b xs (i + q) = pre b xs i + b ^ i * ev b ((xs.drop i).take q) := by
  unfold pre
  rw [List.take_add, ev_append, List.length_take]
  rcases Nat.lt_or_ge i xs.length with h | h
  · rw [Nat.min_eq_left (by omega)]
  · rw [List.drop_of_length_le h]
    simp [ev]
/-- One round: the piece from i on, of q words. -/
theorem ml_step {b i q : Nat} {xs ys Z us fs : List Nat} (hb : 2 ≤ b) (lx : Low b xs) (ly : Low b ys) (hZ : Z.length = xs.length + ys.length) (hv : ev b Z = pre b xs i * ev b ys) (hi : i ≤ xs.length) (hu : ev b us = ev b ((xs.drop i).take q) * ev b ys) :
    ev b (Z.drop i) + ev b us < b ^ (xs.length + ys.length - i) ∧ (ev b fs = ev b (Z.drop i) + ev b us → ev b (Z.take i ++ fs) = pre b xs (i + q) * ev b ys) := by
  have e1 := ev_split b Z i (by omega)
  have e2 := pre_drop b xs i q
  have e3 : pre b xs (i + q) * ev b ys = pre b Z i + b ^ i * (ev b (Z.drop i) + ev b us) := by
    rw [e2, Nat.add_mul, ← hv, e1, hu]
    grind
  have e4 : pre b xs (i + q) * ev b ys < b ^ (xs.length + ys.length) := by
    rw [Nat.pow_add]
    refine Nat.mul_lt_mul'' ?_ (ev_lt ly)
    have h1 := ev_lt (lx.take (i + q))
    exact Nat.lt_of_lt_of_le h1 (Nat.pow_le_pow_right (by omega) (by simp; omega))
  have e5 : b ^ (xs.length + ys.length) = b ^ i * b ^ (xs.length + ys.length - i) := by rw [← Nat.pow_add]; congr 1; omega
  constructor
  · refine Nat.lt_of_mul_lt_mul_left (a := b ^ i) ?_
    omega
  · intro hf
    rw [ev_append, hf, e3]
    have : (Z.take i).length = i := by simp; omega
    rw [this]
    rfl

theorem off_new {G p m n : Nat} {A : Option Addr} {H : Nat} (h : ∀ ad, A = some ad → H ≤ ad.block) (hG : G < H) : Off (Seg G p m) A n := fun ad ha j hj hs => by
  have h1 := h ad ha
  have h2 := hs.1
  rw [add_block] at h2
  omega
/-- One round leaves the relation of the next. -/
theorem MlRel.next {w wr w2 w3 : World} {xs ys Z us fs : List Nat} {i N : Nat} (hN : Hid (N = xs.length + ys.length)) (lx : Low 18446744073709551616 xs) (ly : Low 18446744073709551616 ys) (hZ : Hid (Z.length = xs.length + ys.length))
    (hv : Hid (ev 18446744073709551616 Z = pre 18446744073709551616 xs i * ev 18446744073709551616 ys)) (hi : i ≤ xs.length)
    (hu : Hid (ev 18446744073709551616 us = ev 18446744073709551616 ((xs.drop i).take ys.length) * ev 18446744073709551616 ys))
    (ha : Wb wr w.heap.size 26 Z) (hw : Below w.heap.size w wr) (hb : Below wr.drew.heap.size wr.drew w2)
    (h1 : fs.length = (Z.drop i).length) (h2 : ev 18446744073709551616 fs = ev 18446744073709551616 (Z.drop i) + ev 18446744073709551616 us) (h3 : Ar w3 w.heap.size i 26 fs) (h4 : Tch (Seg w.heap.size i (Z.drop i).length) w2 w3) :
    MlRel w xs ys (i + ys.length) w3 := by
  have hz := hZ.out
  have hs := ml_step (fs := fs) (by omega) lx ly hZ.out hv.out hi hu.out
  have hb2 : Wb w2 w.heap.size 26 Z := ⟨Blk.below (w := wr.drew) ha.1 hb ha.1.lt, ha.2⟩
  have ha2 : Ar w2 w.heap.size 0 26 Z := Ar.of_wb hb2
  have ha3 := (ha2.take i (by omega)).tch h4 fun j hj hs => by have := hs.2.1; simp at hj; simp only at this; omega
  have hl : (Z.take i ++ fs).length = xs.length + ys.length := by simp at h1 ⊢; omega
  obtain ⟨L', k1, k2, k3⟩ := h4.blk _ _ _ hb2
  obtain ⟨M, n1, n2, n3⟩ := ha3.join h3 (by simp; omega)
  obtain rfl := k1.one n1
  have he : Z.take i ++ fs = L' := ext_nth (by omega) fun j hj => by have := n3 j hj; rw [Nat.zero_add] at this; exact this.symm
  rw [← he] at k1
  refine ⟨Z.take i ++ fs, hl, hs.2 h2, k1, ?_⟩
  have hw2 : Below w.heap.size w w2 := hw.trans ((below_drew wr).trans hb |>.mono hw.size)
  exact hw2.trans (h4.below hw2.size fun a hs => by have := hs.1; omega)

end Go.Proofs.YthigedcpiglmnaaDoor

/-! Contracts: mul.Square, mul.aboveMaxBits, math/bits.Len, mul.Pow. -/
namespace Go.Proofs.YthigedcpiglmnaaDoor
open Go.RowKit
set_option linter.unusedVariables false

/-- n times the size is above MaxBits. -/
def aboveB (s n : Nat) : Bool := decide (0 < s ∧ 1048576 / s < n)
end Go.Proofs.YthigedcpiglmnaaDoor

/-! Contract: mul.Pow. -/
namespace Go.Proofs.YthigedcpiglmnaaDoor
open Go.RowKit
set_option linter.unusedVariables false

/-- Nothing and false. -/
def NonePost (w : World) (e : Ending) (w' : World) : Prop := e = .returned (.tuple #[.slice none 0 0, .bool false]) ∧ w = w'
theorem bl_words {x n : Nat} (h : x < 18446744073709551616 ^ n) : bl x ≤ 64 * n := bl_le.2 (by rw [Nat.pow_mul]; exact h)
/-- A number, in new memory, and true. -/
def PowPost (v : Nat) (w : World) (e : Ending) (w' : World) : Prop :=
  ∃ A c, e = .returned (.tuple #[.slice A (cn 18446744073709551616 v).length c, .bool true]) ∧ Got w w' 26 .u64 A c (cn 18446744073709551616 v)
/-- In the loop of mul.Pow: a power. -/
def PwRel (w : World) (v : Nat) (s : Value) (wr : World) : Prop := ∃ A c, s = .slice A (cn 18446744073709551616 v).length c ∧ Got w wr 26 .u64 A c (cn 18446744073709551616 v)
theorem PwRel.of {w wr w2 : World} {v : Nat} {e : Ending} (hb : Below w.heap.size w wr) (h : NatPost v wr e w2) : ∃ s, e = .returned s ∧ PwRel w v s w2 := by
  obtain ⟨A, c, rfl, hg⟩ := h
  exact ⟨_, rfl, A, c, rfl, Got.of_own hg.1 hb.size (hb.trans (hg.2.mono hb.size))⟩
theorem PwRel.nv {w wr : World} {v K : Nat} {s : Value} (h : PwRel w v s wr) (hv : v < 18446744073709551616 ^ K) : ∃ A n c, s = .slice A n c ∧ Nv wr A n c v ∧ n ≤ K ∧ Below w.heap.size w wr := by
  obtain ⟨A, c, rfl, hg⟩ := h
  have hc := hg.cap
  exact ⟨A, _, c, rfl, ⟨_, hg.rd, rfl, hc.1, by have := hc.2; unfold maxLen at this; omega, cn_low _ _ (by omega), ev_cn _ _ (by omega)⟩, cn_len_of_lt _ _ _ (by omega) hv, hg.2⟩
theorem pw_room {x k : Nat} (h : aboveB (bl x) k = false) : ∃ K, K ≤ 1048577 ∧ ∀ m, m ≤ k → x ^ m < 18446744073709551616 ^ K := by
  rcases Nat.eq_zero_or_pos x with rfl | hx
  · refine ⟨1, by omega, fun m _ => ?_⟩
    have : 0 ^ m ≤ 1 := by
      cases m with
      | zero => simp
      | succ m => simp
    rw [Nat.pow_one]
    omega
  · have hb : 0 < bl x := by unfold bl; rw [if_neg (by omega)]; omega
    have hk : k ≤ 1048576 / bl x := by
      unfold aboveB at h
      simp at h
      have := h hb
      omega
    have hm : bl x * k ≤ 1048576 := by
      have := Nat.mul_le_mul_left (bl x) hk
      have := Nat.mul_div_le 1048576 (bl x)
      omega
    refine ⟨bl x * k + 1, by omega, fun m hmk => ?_⟩
    have h1 : x ≤ 2 ^ bl x := Nat.le_of_lt (bl_le.1 (Nat.le_refl _))
    have h2 : x ^ m ≤ (2 ^ bl x) ^ m := Nat.pow_le_pow_left h1 m
    have h3 : (2 : Nat) ^ (bl x * m) ≤ 2 ^ (bl x * k) := Nat.pow_le_pow_right (by omega) (Nat.mul_le_mul_left _ hmk)
    rw [← Nat.pow_mul] at h2
    have h4 : (2 : Nat) ^ (bl x * k) ≤ 18446744073709551616 ^ (bl x * k) := Nat.pow_le_pow_left (by omega) _
    have h5 : (18446744073709551616 : Nat) ^ (bl x * k) < 18446744073709551616 ^ (bl x * k + 1) := by
      rw [Nat.pow_succ]
      have : 0 < (18446744073709551616 : Nat) ^ (bl x * k) := Nat.pow_pos (by omega)
      omega
    omega
theorem pw_half (x k j : Nat) : x ^ (k / 2 ^ (j + 1)) * x ^ (k / 2 ^ (j + 1)) = x ^ (2 * (k / 2 ^ (j + 1))) := by rw [← Nat.pow_add, Nat.two_mul]
theorem pw_even {k j : Nat} (h : k / 2 ^ j % 2 = 0) : 2 * (k / 2 ^ (j + 1)) = k / 2 ^ j := by
  rw [Nat.pow_succ, ← Nat.div_div_eq_div_mul]
  omega
theorem pw_odd {k j : Nat} (h : k / 2 ^ j % 2 = 1) : 2 * (k / 2 ^ (j + 1)) + 1 = k / 2 ^ j := by
  rw [Nat.pow_succ, ← Nat.div_div_eq_div_mul]
  omega
theorem pw_bit {k j : Nat} (hk : k ≤ 9223372036854775807) : bits BinOp.and IntKind.i64 ((k : Int) / 2 ^ j) 1 = ((k / 2 ^ j % 2 : Nat) : Int) := by
  have e : ((k : Int) / 2 ^ j) = ((k / 2 ^ j : Nat) : Int) := by push_cast; rfl
  rw [e]
  exact and_one _ (by have := Nat.div_le_self k (2 ^ j); omega)
theorem pw_start (x k : Nat) : x ^ (k / 2 ^ bl k) = 1 := by
  have : k / 2 ^ bl k = 0 := Nat.div_eq_of_lt (bl_le.1 (Nat.le_refl _))
  rw [this, Nat.pow_zero]
end Go.Proofs.YthigedcpiglmnaaDoor

namespace Go.Proofs.YthigedcpiglmnaaDoor
open Go.RowKit
set_option linter.unusedVariables false

/-- A power, and true. -/
def PowCv (v k : Nat) (w : World) (e : Ending) (w' : World) : Prop :=
  ∃ A n c, e = .returned (.tuple #[.slice A n c, .bool true]) ∧ Cv w' A n c v ∧ n ≤ k ∧ Below w.heap.size w w'
theorem above_small {s k : Nat} (h : s * k ≤ 1048576) : aboveB s k = false := by
  unfold aboveB
  simp only [decide_eq_false_iff_not]
  rintro ⟨h1, h2⟩
  have h3 : 1048576 < s * k := by
    have := (Nat.div_lt_iff_lt_mul h1).1 h2
    rwa [Nat.mul_comm] at this
  omega
theorem bl_three : bl 3 = 2 := by decide
end Go.Proofs.YthigedcpiglmnaaDoor

namespace Go.Proofs.YthigedcpiglmnaaDoor
open Go.RowKit
theorem above_words {A : Option Addr} {n c x k : Nat} {w : World} (h : Nv w A n c x) (N K : Nat) (hn : n ≤ N) (hk : k ≤ K) (hNK : 64 * N * K ≤ 1048576) : aboveB (bl x) k = false :=
  above_small (Nat.le_trans (Nat.mul_le_mul (Nat.le_trans (bl_words h.lt) (Nat.mul_le_mul_left 64 hn)) hk) hNK)
end Go.Proofs.YthigedcpiglmnaaDoor
