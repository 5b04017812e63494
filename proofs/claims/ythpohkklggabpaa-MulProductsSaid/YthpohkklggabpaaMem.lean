/-
  Memory that reads as a list of naturals (no program is named here): what is read, what is owned, what stays.
-/
import Derived.Test.YthpohkklggabpaaPlain
import Derived.Below
import Derived.Laws.OwnMore
import Derived.Deep.Draws
import Derived.Laws.Rows
import Derived.Deep.OwnRows
namespace Go.Proofs.Ythpohkklggabpaa
open Go.RowKit

/-- The values of a list of naturals, as integers of kind K. -/
def vs (K : IntKind) (xs : List Nat) : List Value := xs.map fun (n : Nat) => .int K (n : Int)
theorem vs_length (K : IntKind) (xs : List Nat) : (vs K xs).length = xs.length := by simp [vs]
theorem vs_get {K : IntKind} {xs : List Nat} {k : Nat} (h : k < xs.length) : (vs K xs)[k]? = some (.int K (nth xs k)) := by
  simp [vs, nth_getElem? h]
theorem vs_append (K : IntKind) (xs ys : List Nat) : vs K (xs ++ ys) = vs K xs ++ vs K ys := by simp [vs]
theorem vs_take (K : IntKind) (xs : List Nat) (n : Nat) : vs K (xs.take n) = (vs K xs).take n := by simp [vs, List.map_take]
theorem vs_nil (K : IntKind) : vs K [] = [] := rfl
theorem vs_set (K : IntKind) (xs : List Nat) (j n : Nat) : (vs K xs).set j (.int K (n : Int)) = vs K (xs.set j n) := by simp [vs, List.map_set]
theorem vs_one (K : IntKind) (xs : List Nat) : ∀ u ∈ vs K xs, u.oneCell' = true := by
  intro u hu
  simp only [vs, List.mem_map] at hu
  obtain ⟨n, _, rfl⟩ := hu
  rfl

theorem add_add (a : Addr) (i j : Nat) : (a.add i).add j = a.add (i + j) := by
  unfold Addr.add
  by_cases hi : i = 0 <;> by_cases hj : j = 0 <;> simp [hi, hj, Nat.add_assoc]
theorem add_block (a : Addr) (n : Nat) : (a.add n).block = a.block := by unfold Addr.add; split <;> rfl
theorem add_lit (g i j : Nat) : (⟨g, i, none⟩ : Addr).add j = ⟨g, i + j, none⟩ := by unfold Addr.add; split <;> simp_all
theorem add_lit0 (g j : Nat) : (⟨g, 0, none⟩ : Addr).add j = ⟨g, j, none⟩ := by rw [add_lit]; simp

/-- The cells from A on read as xs. -/
def Rd (w : World) (K : IntKind) (A : Option Addr) (xs : List Nat) : Prop :=
  0 < xs.length → ∃ ad, A = some ad ∧ ad.block < w.heap.size ∧ ∀ j, j < xs.length → w.cell? (ad.add j) = some (.int K (nth xs j))

section
variable {w w' : World} {K : IntKind} {A : Option Addr} {xs zs : List Nat}
theorem Rd.nil (w : World) (K : IntKind) (A : Option Addr) : Rd w K A [] := fun h => by simp at h
theorem Rd.at (h : Rd w K A xs) {k : Nat} (hk : k < xs.length) : ∃ ad, A = some ad ∧ ad.block < w.heap.size ∧ w.cell? (ad.add k) = some (.int K (nth xs k)) := by
  obtain ⟨ad, rfl, hb, hc⟩ := h (by omega)
  exact ⟨ad, rfl, hb, hc k hk⟩
theorem Rd.cell (h : Rd w K A xs) {ad : Addr} (ha : A = some ad) {k : Nat} (hk : k < xs.length) : w.cell? (ad.add k) = some (.int K (nth xs k)) := by
  obtain ⟨ad', e, _, hc⟩ := h.at hk
  rw [e] at ha
  obtain rfl := Option.some.inj ha
  exact hc
theorem Rd.keep (h : Rd w K A xs) (hs : w.heap.size ≤ w'.heap.size) (hk : ∀ ad, A = some ad → ad.block < w.heap.size → ∀ p : Addr, p.block = ad.block → w'.cell? p = w.cell? p) : Rd w' K A xs := fun hn => by
  obtain ⟨ad, rfl, hb, hc⟩ := h hn
  exact ⟨ad, rfl, by omega, fun j hj => (hk ad rfl hb _ (add_block ad j)).trans (hc j hj)⟩
theorem Rd.below (h : Rd w K A xs) (hb : Below w.heap.size w w') : Rd w' K A xs :=
  h.keep hb.size fun ad _ hlt p hp => hb.cell (by omega)
theorem Rd.below' {w0 : World} (h : Rd w0 K A xs) (hb : Below w0.heap.size w0 w) (hb' : Below w0.heap.size w w') : Rd w' K A xs :=
  h.below (hb.trans hb')
theorem Rd.drew (h : Rd w K A xs) : Rd w.drew K A xs := h
theorem Rd.drewN (h : Rd w K A xs) (n : Nat) : Rd (w.drewN n) K A xs := h
theorem Rd.alloc (h : Rd w K A xs) (o : Obj) : Rd (w.alloc o) K A xs := h.below ((Below.refl _ _).alloc (Nat.le_refl _) o)
theorem Rd.take (h : Rd w K A xs) (n : Nat) : Rd w K A (xs.take n) := fun hn => by
  have hl : 0 < xs.length := by simp at hn; omega
  obtain ⟨ad, rfl, hb, hc⟩ := h hl
  exact ⟨ad, rfl, hb, fun j hj => by have hj' : j < n ∧ j < xs.length := by { simp at hj; omega }; rw [nth_take hj'.1]; exact hc j hj'.2⟩
theorem Rd.drop (h : Rd w K A xs) (k : Nat) : Rd w K (A.map (·.add k)) (xs.drop k) := fun hn => by
  have hl : k < xs.length := by simp at hn; omega
  obtain ⟨ad, rfl, hb, hc⟩ := h (by omega)
  exact ⟨ad.add k, rfl, by rw [add_block]; exact hb, fun j hj => by rw [add_add, nth_drop]; exact hc _ (by simp at hj; omega)⟩
theorem Rd.far (h : Rd w K A xs) {p : Addr} (hp : ∀ ad, A = some ad → ad.block ≠ p.block) (u : Value) : Rd (w.setCell p u) K A xs :=
  h.keep (by simp) fun ad ha _ q hq => World.cell?_setCell_other w p q u (fun e => by subst e; exact hp ad ha hq.symm)
theorem Rd.new (h : Rd w K A xs) {p : Addr} (hp : w.heap.size ≤ p.block) (u : Value) : Rd (w.setCell p u) K A xs :=
  h.keep (by simp) fun ad _ hlt q hq => World.cell?_setCell_other w p q u (fun e => by subst e; omega)
theorem Rd.grown (h : Rd w K A xs) {row : Option Nat} (hg : w.grownBy w' row) (hr : ∀ ad, A = some ad → some ad.block ≠ row) : Rd w' K A xs :=
  h.keep hg.size fun ad ha hlt p hp => World.cell?_of_block (hg.block p.block (by omega) (by rw [hp]; exact hr ad ha))
end

/-- w' is w, some draws later. -/
def Sees (w w' : World) : Prop := ∃ q, w' = w.drewN q
theorem Sees.refl (w : World) : Sees w w := ⟨0, rfl⟩
theorem Sees.trans {a b c : World} (h : Sees a b) (k : Sees b c) : Sees a c := by
  obtain ⟨p, rfl⟩ := h
  obtain ⟨q, rfl⟩ := k
  exact ⟨p + q, by rw [World.drewN_drewN]⟩
theorem Sees.more {a b : World} (h : Sees a b) (q : Nat) : Sees a (b.drewN q) := h.trans ⟨q, rfl⟩
theorem Sees.drew {a b : World} (h : Sees a b) : Sees a b.drew := h.trans ⟨1, rfl⟩
theorem Sees.rd {w w' : World} {K : IntKind} {A : Option Addr} {xs : List Nat} (h : Sees w w') (hr : Rd w K A xs) : Rd w' K A xs := by
  obtain ⟨q, rfl⟩ := h
  exact hr
theorem Sees.below {w w' : World} (h : Sees w w') (B : Nat) : Below B w w' := by
  obtain ⟨q, rfl⟩ := h
  exact ⟨rfl, rfl, rfl, Nat.le_refl _, fun _ _ => rfl⟩
theorem quiet_same {P : Program} {f : FuncId} {args : Array Value} {w : World} {n : Nat} {v : Value}
    (h : Calls P f args (w.drewN n) fun e w' => e = .returned v ∧ w.drewN n = w') : Calls P f args (w.drewN n) fun e w'' => e = .returned v ∧ ∃ m, w'' = w.drewN m :=
  h.mono fun _ _ ⟨he, hm⟩ => ⟨he, n, hm.symm⟩
theorem quiet_sees {P : Program} {f : FuncId} {args : Array Value} {w : World} {n : Nat} {v : Value}
    (h : Calls P f args (w.drewN n) fun e w' => e = .returned v ∧ Sees (w.drewN n) w') : Calls P f args (w.drewN n) fun e w'' => e = .returned v ∧ ∃ m, w'' = w.drewN m :=
  h.mono fun _ _ ⟨he, m, hm⟩ => ⟨he, n + m, by rw [hm, World.drewN_drewN]⟩

/-- Block g is just the cells of xs. -/
def Blk (w : World) (g : Nat) (t : TypeId) (K : IntKind) (xs : List Nat) : Prop := w.heap[g]? = some (.cells (vs K xs).toArray t (0, 0))

section
variable {w w' : World} {g : Nat} {t : TypeId} {K : IntKind} {xs : List Nat}
theorem Blk.lt (h : Blk w g t K xs) : g < w.heap.size := by
  rcases Nat.lt_or_ge g w.heap.size with hlt | hge
  · exact hlt
  · unfold Blk at h; rw [Array.getElem?_eq_none hge] at h; cases h
theorem Blk.cell (h : Blk w g t K xs) {j : Nat} (hj : j < xs.length) : w.cell? ⟨g, j, none⟩ = some (.int K (nth xs j)) := by
  rw [cell_of_row w g j _ t (0, 0) h, List.getElem?_toArray, vs_get hj]
theorem Blk.free (h : Blk w g t K xs) (j : Nat) : w.frozen? ⟨g, j, none⟩ = false := frozen_of_row w g j _ t h
theorem Blk.set (h : Blk w g t K xs) (j n : Nat) : Blk (w.setCell ⟨g, j, none⟩ (.int K (n : Int))) g t K (xs.set j n) := by
  unfold Blk
  rw [heap_setCell_same w g j _ t _ h, List.setIfInBounds_toArray, vs_set]
theorem Blk.drew (h : Blk w g t K xs) : Blk w.drew g t K xs := h
theorem Blk.drewN (h : Blk w g t K xs) (n : Nat) : Blk (w.drewN n) g t K xs := h
theorem Blk.alloc (h : Blk w g t K xs) (o : Obj) : Blk (w.alloc o) g t K xs := (Below.heap_alloc w o g h.lt).trans h
theorem Blk.far (h : Blk w g t K xs) {p : Addr} (hp : g ≠ p.block) (u : Value) : Blk (w.setCell p u) g t K xs := (Below.heap_setCell w p u g hp).trans h
theorem Blk.below {B : Nat} (h : Blk w g t K xs) (hb : Below B w w') (hg : g < B) : Blk w' g t K xs := (hb.block g hg).trans h
theorem Blk.grown {row : Option Nat} (h : Blk w g t K xs) (hb : w.grownBy w' row) (hg : some g ≠ row) : Blk w' g t K xs := (hb.block g h.lt hg).trans h
theorem made_vs (K : IntKind) (n : Nat) : madeCells #[.int K 0] n = (vs K (List.replicate n 0)).toArray := by
  apply Array.ext
  · simp [size_madeCells, vs]
  · intro i h1 h2
    simp [madeCells, vs, Nat.mod_one]
theorem Blk.made (w : World) (t : TypeId) (K : IntKind) (n : Nat) : Blk (w.alloc (.cells (madeCells #[.int K 0] n) t)) w.heap.size t K (List.replicate n 0) := by
  unfold Blk
  rw [heap_alloc_new w, made_vs]
theorem Blk.rd (h : Blk w g t K xs) (off : Nat) : Rd w K (some ⟨g, off, none⟩) (xs.drop off) := fun hn =>
  ⟨_, rfl, h.lt, fun j hj => by
    rw [add_lit, nth_drop]
    exact h.cell (by simp at hj; omega)⟩
theorem Blk.rd0 (h : Blk w g t K xs) : Rd w K (some ⟨g, 0, none⟩) xs := by simpa using h.rd 0
theorem Blk.owns (h : Blk w g t K xs) {base n : Nat} (hb : base ≤ g) (hn : n ≤ xs.length) (hm : xs.length ≤ maxLen) :
    w.ownsRow base t 1 (.slice (some ⟨g, 0, none⟩) n xs.length) n (vs K (xs.take n)) :=
  ⟨by simp [vs_length, Nat.min_eq_left hn], .inr ⟨g, xs.length, _, rfl, hb, h, hn, hm, by simp [vs_length], by simp [vs_take]⟩⟩
end

/-- What is answered: memory made since w, which reads as zs; what was there is as it was. -/
def Got (w w' : World) (t : TypeId) (K : IntKind) (A : Option Addr) (c : Nat) (zs : List Nat) : Prop :=
  w'.ownsRow w.heap.size t 1 (.slice A zs.length c) zs.length (vs K zs) ∧ Below w.heap.size w w'

section
variable {w w' : World} {t : TypeId} {K : IntKind} {A : Option Addr} {c : Nat} {zs : List Nat}
theorem own_rd {base : Nat} (h : w.ownsRow base t 1 (.slice A zs.length c) zs.length (vs K zs)) : Rd w K A zs := fun hn => by
  rcases h.2 with ⟨h1, h2⟩ | ⟨g, cap, cur, hv, hg, hh, hnc, hcm, hcs, htake⟩
  · omega
  · have hA : A = some ⟨g, 0, none⟩ := by injection hv
    subst hA
    refine ⟨_, rfl, ?_, fun j hj => h.cells (g := g) rfl j _ (vs_get hj)⟩
    exact (h.lt g rfl).2
theorem own_cap {base : Nat} (h : w.ownsRow base t 1 (.slice A zs.length c) zs.length (vs K zs)) : zs.length ≤ c ∧ c ≤ maxLen := by
  rcases h.2 with ⟨h1, h2⟩ | ⟨g, cap, cur, hv, hg, hh, hnc, hcm, hcs, htake⟩
  · injection h1 with _ _ hc; subst hc; unfold maxLen; omega
  · injection hv with _ _ hc; subst hc; exact ⟨hnc, hcm⟩
theorem Got.rd (h : Got w w' t K A c zs) : Rd w' K A zs := own_rd h.1
theorem Got.cap (h : Got w w' t K A c zs) : zs.length ≤ c ∧ c ≤ maxLen := own_cap h.1
theorem Got.nil (w : World) (t : TypeId) (K : IntKind) : Got w w t K none 0 [] := ⟨World.ownsRow_nil w _ _ _, Below.refl _ _⟩
theorem Got.nil' (t : TypeId) (K : IntKind) (hb : Below w.heap.size w w') : Got w w' t K none 0 [] := ⟨World.ownsRow_nil w' _ _ _, hb⟩
theorem Got.of_own {base : Nat} (h : w'.ownsRow base t 1 (.slice A zs.length c) zs.length (vs K zs)) (hbase : w.heap.size ≤ base) (hb : Below w.heap.size w w') : Got w w' t K A c zs := by
  refine ⟨⟨h.1, ?_⟩, hb⟩
  rcases h.2 with h1 | ⟨g, cap, cur, hv, hg, rest⟩
  · exact .inl h1
  · exact .inr ⟨g, cap, cur, hv, by omega, rest⟩
/-- A front part of what is owned. -/
theorem own_take {base : Nat} {n m : Nat} {ys : List Value} (h : w.ownsRow base t 1 (.slice A n c) n ys) (hm : m ≤ n) (hA : A ≠ none ∨ c = 0) : w.ownsRow base t 1 (.slice A m c) m (ys.take m) := by
  rcases h.2 with ⟨h1, h2⟩ | ⟨g, cap, cur, hv, hg, hh, hnc, hcm, hcs, htake⟩
  · subst h2
    obtain rfl : m = 0 := by omega
    injection h1 with h3 h4 h5
    subst h3 h5
    exact World.ownsRow_nil w _ _ _
  · injection hv with h3 h4 h5
    subst h3 h5
    refine ⟨by have := h.1; simp at this ⊢; omega, .inr ⟨g, c, cur, rfl, hg, hh, by omega, hcm, hcs, ?_⟩⟩
    rw [← htake, List.take_take, Nat.mul_one, Nat.mul_one, Nat.min_eq_left hm]
end

/-- make([]T, n) of a one-cell integer type: the new block, whatever the world is called. -/
theorem wpList_make_blk {P : Program} (w : World) {ops : Array Oper} {rest : List Oper} {o : Oper} {a : Act} {Q : Exit → Act → World → Prop}
    (hg : o.guard = none) (l c : Operand) (t : TypeId) (hop : o.op = Op.makeSlice t l c)
    (e : TypeId) (K : IntKind) (bytes : Nat) (ht : P.underlying t = some (.slice e)) (hinfo : (P.info? e).map (fun i => (i.zero, i.size, i.bytes)) = some (some (.int K 0), 1, bytes))
    (kl kc : IntKind) (L C : Int) (n : Nat) (hl : a.eval l = .int kl L) (hc : a.eval c = .int kc C) (hL : L = (n : Int)) (hC : C = (n : Int)) (hbytes : bytes * n ≤ 281474976710656) (h63 : n ≤ 9223372036854775807)
    (hK : ∀ w', Blk w' w.heap.size e K (List.replicate n 0) → Below w.heap.size w w' → w'.heap.size = w.heap.size + 1 → wpList P ops Q rest (a.put o.dst (.slice (some ⟨w.heap.size, 0, none⟩) n n)) w') :
    wpList P ops Q (o :: rest) a w := by
  subst hL hC
  obtain ⟨i, hi, hz0, hz1, hz2⟩ := info_parts hinfo
  refine wpList_make_row w hg l c t hop e i (.int K 0) ht hi hz0 hz1 rfl kl kc n hl hc (by rw [hz2]; exact hbytes) h63 ?_
  exact hK _ (Blk.made w e K n) ((Below.refl _ _).alloc (Nat.le_refl _) _) (by simp)

/-- A block that the call made, trimmed: what is answered. -/
theorem got_trim {w w' : World} {g : Nat} {t : TypeId} {K : IntKind} {xs : List Nat} {b : Nat} (hb : 2 ≤ b) (h : Blk w' g t K xs) (hg : w.heap.size ≤ g) (hw : Below w.heap.size w w') (hm : xs.length ≤ 9223372036854775807) (hl : Low b xs) :
    Got w w' t K (some ⟨g, 0, none⟩) xs.length (cn b (ev b xs)) := by
  have ho := h.owns (n := sl xs) hg (sl_le xs) (by unfold maxLen; omega)
  have e := cn_ev b hb xs hl
  refine ⟨?_, hw⟩
  rw [e]
  have : (xs.take (sl xs)).length = sl xs := by simp [Nat.min_eq_left (sl_le xs)]
  rw [this]
  exact ho
end Go.Proofs.Ythpohkklggabpaa
