/-
  For MulProducts: lists of slices that the law itself appends to; the reference's Product.
-/
import Derived.Test.YthpohkklggabpaaHeapA
import Derived.Test.YthpohkklggabpaaRPow
namespace Go.Proofs.Ythpohkklggabpaa
open Go.RowKit
set_option linter.unusedVariables false

/-- Nothing below b has turned, nor a block of another type than t. -/
def Gup (b : Nat) (t : TypeId) (w w' : World) : Prop := Below b w w' ∧ ∀ (k : Nat) (cs : Array Value) (t' : TypeId) (fr : Nat × Nat), w.heap[k]? = some (.cells cs t' fr) → t' ≠ t → w'.heap[k]? = w.heap[k]?
theorem Gup.of_below {b : Nat} {t : TypeId} {w w' : World} (h : Below w.heap.size w w') (hb : b ≤ w.heap.size) : Gup b t w w' :=
  ⟨h.mono hb, fun a cs t' fr ha _ => h.block a (Array.getElem?_eq_some_iff.1 ha).1⟩
theorem Gup.trans {b : Nat} {t : TypeId} {w w' w'' : World} (h : Gup b t w w') (k : Gup b t w' w'') : Gup b t w w'' := ⟨h.1.trans k.1, fun a cs t' fr ha ht => by have e := h.2 a cs t' fr ha ht; exact (k.2 a cs t' fr (e.trans ha) ht).trans e⟩

/-- A list of slices of the law's own. -/
def OwnE (b : Nat) (w : World) (t : TypeId) (v : Value) (R : List Ent) : Prop := w.ownsRow b t 1 v R.length (vals R)
theorem OwnE.gup {b b' : Nat} {t t' : TypeId} {v : Value} {R : List Ent} {w w' : World} (h : OwnE b w t v R) (k : Gup b' t' w w') (ht : t ≠ t') : OwnE b w' t v R := by
  obtain ⟨h1, h2⟩ := h
  refine ⟨h1, ?_⟩
  rcases h2 with h2 | ⟨g, cap, cur, a, b, hh, r⟩
  · exact .inl h2
  · exact .inr ⟨g, cap, cur, a, b, (k.2 g cur t _ hh ht).trans hh, r⟩
theorem OwnE.below {b : Nat} {t : TypeId} {v : Value} {R : List Ent} {w w' : World} (h : OwnE b w t v R) (k : Below w.heap.size w w') : OwnE b w' t v R := by
  obtain ⟨h1, h2⟩ := h
  refine ⟨h1, ?_⟩
  rcases h2 with h2 | ⟨g, cap, cur, a, b, hh, r⟩
  · exact .inl h2
  · exact .inr ⟨g, cap, cur, a, b, (k.block g (Array.getElem?_eq_some_iff.1 hh).1).trans hh, r⟩
theorem OwnE.row {b : Nat} {t : TypeId} {v : Value} {R : List Ent} {w : World} (h : OwnE b w t v R) : ∃ A c, v = .slice A R.length c ∧ LRow w A R := by
  obtain ⟨h1, h2⟩ := h
  rcases h2 with ⟨rfl, h0⟩ | ⟨g, cap, cur, rfl, hg, hh, hn, hm, hs, ht⟩
  · exact ⟨none, 0, by rw [h0], fun hn => by omega⟩
  · refine ⟨_, _, rfl, fun hn => ⟨_, rfl, (Array.getElem?_eq_some_iff.1 hh).1, fun j hj => ?_⟩⟩
    rw [add_lit0, cell_of_row w g j _ _ (0, 0) hh]
    have h3 : (cur.toList.take (R.length * 1))[j]? = some R[j].val := by rw [ht]; exact vals_get hj
    rw [List.getElem?_take, if_pos (by omega), Array.getElem?_toList] at h3
    exact h3

/-- append of one slice, that was just laid into a block of its own. -/
theorem wpList_app_ent {P : Program} (w0 : World) {w wl : World} {ops : Array Oper} {rest : List Oper} {o : Oper} {a : Act} {Q : Exit → Act → World → Prop} (hgd : o.guard = none) (s x : Operand) (t : TypeId)
    (ho : o.op = .call { callee := .builtin .append, args := #[s, x], argTypes := #[t, t] })
    (e : TypeId) (ht : P.underlying t = some (.slice e)) (hinfo : (P.info? e).map (fun i => (i.zero, i.size, i.bytes)) = some (some (.slice none 0 0), 1, 24))
    (b : Nat) (v : Value) (R : List Ent) (r : Ent) (hs : a.eval s = v) (hown : OwnE b w e v R) (hwl : wl = w.alloc (.cells #[.slice r.A r.n r.c] e)) (hx : a.eval x = .slice (some ⟨w.heap.size, 0, none⟩) 1 1)
    (hR : R.length ≤ 1048576) (hb : b ≤ w.heap.size)
    (h : ∀ v' w', OwnE b w' e v' (R ++ [r]) → Gup b e w w' → wpList P ops Q rest (a.put o.dst v') w') : wpList P ops Q (o :: rest) a wl := by
  subst hwl
  obtain ⟨i, hi, hz0, hz1, hz2⟩ := info_parts hinfo
  refine wpList_append_lies _ hgd s x t ho b e i (.slice none 0 0) 1 24 ht hi hz0 hz1 hz2 rfl (by decide) v R.length (vals R) hs (World.ownsRow.alloc hown _) ⟨w.heap.size, 0, none⟩ 1 1 [.slice r.A r.n r.c] hx rfl
    (World.news_of_block (heap_alloc_new w _)) (by intro u hu; simp at hu; subst hu; rfl) (by omega) (by unfold maxLen; omega) (by omega) (by simp; omega) (w.heap.size + 1) (by simp) ?_
  intro g cap w1 hown1 hgrow hat hlt
  have hv : vals (R ++ [r]) = vals R ++ [.slice r.A r.n r.c] := by simp [vals, Ent.val]
  have hl : (R ++ [r]).length = R.length + 1 := by simp
  have hB : Below b w (w.alloc (.cells #[.slice r.A r.n r.c] e)) := (Below.refl _ _).alloc hb _
  refine h _ w1 (by unfold OwnE; rw [hv, hl]; exact hown1) ⟨hB.grown hgrow (by simp; omega) (fun k hk => (hown.lt k hk).1), fun k cs t' fr hk ht' => ?_⟩
  have hl2 := (Array.getElem?_eq_some_iff.1 hk).1
  rw [hgrow.block k (by simp; omega) (fun e2 => ?_), Below.heap_alloc w _ k hl2]
  rcases hown.2 with ⟨rfl, _⟩ | ⟨g', cap', cur, rfl, _, hh, _⟩
  · cases e2
  · have : k = g' := Option.some.inj e2
    subst this
    rw [hk] at hh
    injection hh with hh
    injection hh with _ e3
    exact ht' e3

/-- Digits that lie in a block of integers. -/
def DOk (w : World) (r : Ent) : Prop := Dv w r.A r.n r.c r.v ∧ ∀ ad, r.A = some ad → 0 < r.n → ∃ cs fr, w.heap[ad.block]? = some (.cells cs 3 fr)
theorem DOk.of_post {v : Nat} {w w' : World} {e : Ending} (h : DgPost v w e w') : ∃ r : Ent, e = .returned (.slice r.A r.n r.c) ∧ r.v = v ∧ DOk w' r ∧ r.n = (cn 65536 v).length ∧ Below w.heap.size w w' := by
  obtain ⟨A, c, rfl, hg⟩ := h
  have hc := hg.cap
  refine ⟨⟨A, (cn 65536 v).length, c, v⟩, rfl, rfl, ⟨⟨hg.rd, rfl, hc.1, by have := hc.2; unfold maxLen at this; omega⟩, fun ad ha hn => ?_⟩, rfl, hg.2⟩
  rcases hg.1.2 with ⟨h1, h2⟩ | ⟨g, cap, cur, hv, hg', hh, _⟩
  · simp only at hn
    omega
  · injection hv with h1
    simp only at ha
    rw [h1] at ha
    obtain rfl := Option.some.inj ha
    exact ⟨_, _, hh⟩
theorem DOk.gup {b : Nat} {t : TypeId} {w w' : World} {r : Ent} (h : DOk w r) (k : Gup b t w w') (ht : 3 ≠ t) : DOk w' r := by
  obtain ⟨⟨h1, h2, h3⟩, h4⟩ := h
  refine ⟨⟨fun hn => ?_, h2, h3⟩, fun ad ha hn => ?_⟩
  · obtain ⟨ad, ha, hb, hc⟩ := h1 hn
    obtain ⟨cs, fr, hh⟩ := h4 ad ha (by omega)
    exact ⟨ad, ha, Nat.lt_of_lt_of_le hb k.1.size, fun j hj => by rw [World.cell?_of_block (w := w) (by rw [add_block]; exact k.2 _ _ _ _ hh ht)]; exact hc j hj⟩
  · obtain ⟨cs, fr, hh⟩ := h4 ad ha hn
    exact ⟨cs, fr, (k.2 _ _ _ _ hh ht).trans hh⟩
theorem DOk.below {w w' : World} {r : Ent} (h : DOk w r) (k : Below w.heap.size w w') : DOk w' r := h.gup (Gup.of_below (t := 0) (b := 0) k (Nat.zero_le _)) (by decide)

theorem prodV_snoc (R : List Ent) (r : Ent) : prodV (R ++ [r]) = prodV R * r.v := by
  induction R with
  | nil => simp [prodV]
  | cons s R ih => simp only [List.cons_append, prodV, ih, Nat.mul_assoc]
theorem wtV_snoc (R : List Ent) (r : Ent) : wtV (R ++ [r]) = wtV R + r.n := by
  induction R with
  | nil => simp [wtV]
  | cons s R ih => simp only [List.cons_append, wtV, ih, Nat.add_assoc]
set_option maxHeartbeats 400000 in
/-- The reference's product. -/
theorem rproduct_v {A : Option Addr} {n c : Nat} {D : List Ent} {w : World} (h : LRow w A D) (hn : D.length = n) (hd : ∀ r, r ∈ D → DOk w r) (hn2 : n ≤ 1024) (hm : ∀ i, i ≤ n → wtV (D.take i) ≤ 1048576) (hm2 : ∀ r, r ∈ D → r.n ≤ 1048576) :
    Calls Try.prog 21 #[.slice A n c] w (DvPost (prodV D) (1 + wtV D) w) := by
  have HN := Lib.hid hn
  have HM := Lib.hid hm
  have HM2 := Lib.hid hm2
  have HD := Lib.hid hd
  clear hn hm hm2 hd
  go_enter Try.func21, Try.ntmps21
  go_wp2
  go_loopw [3, 4] (fun s i wr => ∃ j : Nat, j ≤ n ∧ i = .int .i64 j ∧ RpRel w (prodV (D.take j)) (1 + wtV (D.take j)) s wr) (fun _ i _ => n - (intOf i).toNat)
  case atStart => exact ⟨0, by omega, rfl, _, _, _, rfl, dv_one w _, by simp [wtV], (Below.refl _ _).alloc (Nat.le_refl _) _⟩
  case round =>
    obtain ⟨j, hj, rfl, A1, n1, c1, rfl, hv, hn1, hb⟩ := hrel
    by_cases hlt : j < n
    · have l1 := HM.out j hj
      have hjD : j < D.length := by have := HN.out; omega
      obtain ⟨ad, rfl, _, hcell⟩ := (h.below hb) (by omega)
      have c0 : wr.cell? (ad.add j) = some (.slice D[j].A D[j].n D[j].c) := hcell j hjD
      have hdj := ((HD.out D[j] (List.getElem_mem hjD)).below hb).1
      have l2 := HM2.out D[j] (List.getElem_mem hjD)
      have et : D.take (j + 1) = D.take j ++ [D[j]] := List.take_succ_eq_append_getElem hjD
      have ET := Lib.hid et
      clear hcell et
      go_wp2_with fail
      refine (rmul_v hv hdj (by omega) (by omega)).mono ?_
      rintro e w2 ⟨A2, n2, c2, rfl, h2, k2, b2⟩
      have R : Hid (RpRel w (prodV (D.take (j + 1))) (1 + wtV (D.take (j + 1))) (.slice A2 n2 c2) w2) := ⟨A2, n2, c2, rfl, by rw [ET.out, prodV_snoc]; exact h2, by rw [ET.out, wtV_snoc]; omega, hb.trans (b2.mono hb.size)⟩
      clear h2 b2 l1
      go_wp2
      go_roundw
      case rel => exact ⟨j + 1, by omega, by go_num, R.out⟩
      case measure => simp [intOf]; omega
    · obtain rfl : j = n := by omega
      have et : D.take j = D := List.take_of_length_le (by have := HN.out; omega)
      rw [et] at hv hn1
      have P : Hid (DvPost (prodV D) (1 + wtV D) w (.returned (.slice A1 n1 c1)) wr) := ⟨A1, n1, c1, rfl, hv, hn1, hb⟩
      clear hv hn1 hb et
      go_wp2
      go_ret
      exact P.out
end Go.Proofs.Ythpohkklggabpaa
