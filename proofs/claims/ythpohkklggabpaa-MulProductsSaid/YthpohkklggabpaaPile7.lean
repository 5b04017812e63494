/-
  mul.pileOf, mul.Product.
-/
import Derived.Test.YthpohkklggabpaaPile6
namespace Go.Proofs.Ythpohkklggabpaa
open Go.RowKit
set_option linter.unusedVariables false

/-- The slices of a list that came in. -/
def LRow (w : World) (A : Option Addr) (R : List Ent) : Prop := 0 < R.length → ∃ ad, A = some ad ∧ ad.block < w.heap.size ∧ ∀ j (hj : j < R.length), w.cell? (ad.add j) = some R[j].val
theorem LRow.below {w w' : World} {A : Option Addr} {R : List Ent} (h : LRow w A R) (hb : Below w.heap.size w w') : LRow w' A R := fun hn => by
  obtain ⟨ad, rfl, h1, h2⟩ := h hn
  exact ⟨ad, rfl, Nat.lt_of_lt_of_le h1 hb.size, fun j hj => (hb.cell (by rw [add_block]; exact h1)).trans (h2 j hj)⟩
def nilEnt : Ent := ⟨none, 0, 0, 0⟩
theorem nilEnt_ok (b : Nat) (w : World) : nilEnt.ok b w := ⟨Nv.nil w, fun ad ha => by cases ha⟩

/-- make of a list of slices. -/
theorem wpList_make_ents {P : Program} (w : World) {ops : Array Oper} {rest : List Oper} {o : Oper} {a : Act} {Q : Exit → Act → World → Prop}
    (hg : o.guard = none) (l c : Operand) (t : TypeId) (hop : o.op = Op.makeSlice t l c)
    (e : TypeId) (bytes : Nat) (ht : P.underlying t = some (.slice e)) (hinfo : (P.info? e).map (fun i => (i.zero, i.size, i.bytes)) = some (some (.slice none 0 0), 1, bytes))
    (kl kc : IntKind) (L C : Int) (n : Nat) (hl : a.eval l = .int kl L) (hc : a.eval c = .int kc C) (hL : L = (n : Int)) (hC : C = (n : Int)) (hbytes : bytes * n ≤ 281474976710656) (h63 : n ≤ 9223372036854775807)
    (hK : ∀ w', w'.heap[w.heap.size]? = some (.cells (vals (List.replicate n nilEnt)).toArray e (0, 0)) → Below w.heap.size w w' → w'.heap.size = w.heap.size + 1 → wpList P ops Q rest (a.put o.dst (.slice (some ⟨w.heap.size, 0, none⟩) n n)) w') :
    wpList P ops Q (o :: rest) a w := by
  subst hL hC
  obtain ⟨i, hi, hz0, hz1, hz2⟩ := info_parts hinfo
  refine wpList_make_row w hg l c t hop e i (.slice none 0 0) ht hi hz0 hz1 rfl kl kc n hl hc (by rw [hz2]; exact hbytes) h63 ?_
  refine hK _ ?_ ((Below.refl _ _).alloc (Nat.le_refl _) _) (by simp)
  rw [heap_alloc_new w]
  congr 2
  apply Array.ext
  · simp [size_madeCells, vals]
  · intro i h1 h2
    simp [madeCells, vals, Nat.mod_one, nilEnt, Ent.val]

/-- A trimmed entry. -/
def Trimmed (b : Nat) (w : World) (r t : Ent) : Prop := t.ok b w ∧ t.v = r.v ∧ t.n ≤ r.n
theorem mtrim_ent {b : Nat} {w : World} {r : Ent} (h : r.ok b w) : Calls Try.prog 26 #[.slice r.A r.n r.c] w fun e w' => ∃ t : Ent, e = .returned (.slice t.A t.n t.c) ∧ Trimmed b w r t ∧ w = w' := by
  obtain ⟨⟨xs, h1, h2, h3, h4, h5, h6⟩, hs⟩ := h
  refine (mtrim_calls r.A r.n r.c xs w h1 h2 h3 h4).mono ?_
  rintro e w' ⟨rfl, rfl⟩
  have hle := sl_le xs
  have hl : (xs.take (sl xs)).length = sl xs := by simp [Nat.min_eq_left hle]
  exact ⟨⟨r.A, sl xs, r.c, r.v⟩, rfl, ⟨⟨⟨xs.take (sl xs), h1.take _, hl, by show sl xs ≤ r.c; omega, h4, h5.take _, by rw [ev_take_sl]; exact h6⟩, fun ad ha hn => hs ad ha (by have : 0 < sl xs := hn; omega)⟩, rfl, by show sl xs ≤ r.n; omega⟩, rfl⟩

/-- In the loop of pileOf: k are put in. -/
def PoRel (b : Nat) (w : World) (p k : Nat) (R : List Ent) (wr : World) : Prop :=
  ∃ T : List Ent, T.length = k ∧ (∀ i (h1 : i < T.length) (h2 : i < R.length), Trimmed b wr R[i] T[i]) ∧ Pile b wr p (T ++ List.replicate (R.length - k) nilEnt) ∧ Hup b w wr
theorem prod_trim {b : Nat} {w : World} : ∀ {R T : List Ent}, T.length = R.length → (∀ i (h1 : i < T.length) (h2 : i < R.length), Trimmed b w R[i] T[i]) → prodV T = prodV R ∧ wtV T ≤ wtV R ∧ EntsOk b w T
  | [], [], _, _ => ⟨rfl, Nat.le_refl _, fun r hr => by cases hr⟩
  | r :: R, t :: T, hl, h => by
    have h0 := h 0 (by simp) (by simp)
    obtain ⟨i1, i2, i3⟩ := prod_trim (R := R) (T := T) (by simpa using hl) fun i h1 h2 => by have := h (i + 1) (by simp; omega) (by simp; omega); simpa using this
    simp only [List.getElem_cons_zero] at h0
    refine ⟨by simp only [prodV]; rw [i1, h0.2.1], by simp only [wtV]; have := h0.2.2; omega, fun x hx => ?_⟩
    rcases List.mem_cons.1 hx with rfl | hx
    · exact h0.1
    · exact i3 x hx
def PofPost (b : Nat) (w : World) (R : List Ent) (e : Ending) (w' : World) : Prop :=
  ∃ (p : Nat) (R' : List Ent), e = .returned (.pointer (some ⟨p, 0, none⟩)) ∧ Pile b w' p R' ∧ EntsOk b w' R' ∧ prodV R' = prodV R ∧ wtV R' ≤ wtV R ∧ R'.length = R.length ∧ Hup b w w'
theorem pile_start {w w1 : World} {n : Nat} (hb : w1.heap[w.heap.size]? = some (.cells (vals (List.replicate n nilEnt)).toArray 23 (0, 0))) (hw : Below w.heap.size w w1) (hz : w1.heap.size = w.heap.size + 1) (hn : n ≤ 1048576) :
    Pile w.heap.size (w1.alloc (.cells #[.slice (some ⟨w.heap.size, 0, none⟩) n n] 71)) w1.heap.size (List.replicate n nilEnt) := by
  refine ⟨w.heap.size, n, [], ?_, by omega, Nat.le_refl _, ?_, by simp, by omega⟩
  · rw [List.length_replicate]
    exact heap_alloc_new w1 _
  · rw [Below.heap_alloc w1 _ _ (by omega), List.append_nil]
    exact hb
theorem ent_end (T : List Ent) (m : Nat) (t : Ent) : (T ++ List.replicate (m + 1) nilEnt).set T.length t = (T ++ [t]) ++ List.replicate m nilEnt := by
  rw [List.set_append_right _ _ (Nat.le_refl _)]
  simp [List.replicate_succ]
theorem far_cell {w : World} {g p k i : Nat} {v : Value} {u : Option Value} (hne : g ≠ p) (hc : w.cell? ⟨p, i, none⟩ = u) : (w.setCell ⟨g, k, none⟩ v).cell? ⟨p, i, none⟩ = u := by
  rw [World.cell?_setCell_other w ⟨g, k, none⟩ ⟨p, i, none⟩ v (fun e => hne (by injection e)), hc]
/-- One more is put in. -/
theorem PoRel.next {b p k g cap : Nat} {w wr : World} {R T : List Ent} {spare : List Value} {t : Ent} (hT : T.length = k) (hk : k < R.length) (hall : ∀ i (h1 : i < T.length) (h2 : i < R.length), Trimmed b wr R[i] T[i])
    (ht : Trimmed b wr R[k] t) (hp : PileAt b wr p (T ++ List.replicate (R.length - k) nilEnt) g cap spare) (hu : Hup b w wr) : PoRel b w p (k + 1) R (wr.setCell ⟨g, k, none⟩ (.slice t.A t.n t.c)) := by
  obtain ⟨m, hm⟩ : ∃ m, R.length - k = m + 1 := ⟨R.length - k - 1, by omega⟩
  rw [hm] at hp
  have h1 := hp.set (i := k) (by simp; omega) t
  rw [← hT, ent_end, hT] at h1
  have hu2 : Hup b wr (wr.setCell ⟨g, k, none⟩ (.slice t.A t.n t.c)) := Hup.setCell hp.2.2.1 hp.2.2.2.1 (by decide)
  have hm2 : R.length - (k + 1) = m := by omega
  refine ⟨T ++ [t], by simp [hT], fun i h2 h3 => ?_, ⟨g, cap, spare, by rw [hm2]; exact h1⟩, hu.trans hu2⟩
  by_cases hi : i < T.length
  · rw [List.getElem_append_left hi]
    obtain ⟨a1, a2⟩ := hall i hi h3
    exact ⟨a1.hup hu2, a2⟩
  · have : i = T.length := by simp at h2; omega
    subst this
    rw [List.getElem_append_right (Nat.le_refl _)]
    subst hT
    simp only [Nat.sub_self, List.getElem_cons_zero]
    exact ⟨ht.1.hup hu2, ht.2⟩
theorem PoRel.drew {b p k : Nat} {w wr : World} {R : List Ent} (h : PoRel b w p k R wr) : PoRel b w p k R wr.drew := by
  obtain ⟨T, h1, h2, h3, h4⟩ := h
  exact ⟨T, h1, fun i a c => ⟨(h2 i a c).1.hup (Hup.drewN b wr 1), (h2 i a c).2⟩, h3, h4.trans (Hup.drewN b wr 1)⟩
set_option maxHeartbeats 1000000 in
theorem pileof_calls {A : Option Addr} {n c : Nat} {R : List Ent} {w : World} (h : LRow w A R) (hn : R.length = n) (ho : EntsOk w.heap.size w R) (hR : n ≤ 1048576) :
    Calls Try.prog 37 #[.slice A n c] w (PofPost w.heap.size w R) := by
  have HN := Lib.hid hn
  clear hn
  go_enter Try.func37, Try.ntmps37
  go_wp2_with (at_make; refine wpList_make_ents _ rfl _ _ 38 rfl 23 24 Try.underlying38 info_nat' _ _ _ _ n rfl rfl (by omega) (by omega) (by omega) (by omega) ?_)
  intro w1 hb1 hw1 hz1
  have HZ := Lib.hid hz1
  have H1 := Lib.hid hb1
  clear hz1 hb1
  go_wp2
  have hs : Hid (Pile w.heap.size (w1.alloc (.cells #[.slice (some ⟨w.heap.size, 0, none⟩) n n] 71)) w1.heap.size (List.replicate n nilEnt)) := pile_start H1.out hw1 HZ.out hR
  have hu0 : Hup w.heap.size w (w1.alloc (.cells #[.slice (some ⟨w.heap.size, 0, none⟩) n n] 71)) :=
    Hup.of_below (hw1.trans ((Below.refl _ _).alloc (by have := HZ.out; omega) _)) (Nat.le_refl _)
  go_loopw [13] (fun i wr => ∃ k : Nat, k ≤ n ∧ i = .int .i64 k ∧ PoRel w.heap.size w w1.heap.size k R wr) (fun i _ => n - (intOf i).toNat)
  case atStart => exact ⟨0, Nat.zero_le _, rfl, [], rfl, fun i h1 => by simp at h1, by rw [HN.out, Nat.sub_zero]; exact hs.out, hu0⟩
  case round =>
    clear hs hu0
    obtain ⟨k, hk, rfl, T, hT, hall, ⟨g, cap, spare, hp⟩, hu⟩ := hrel
    have hTn : (T ++ List.replicate (R.length - k) nilEnt).length = n := by simp; have := HN.out; omega
    have hc := hp.head
    rw [hTn] at hc
    have HT := Lib.hid hT
    have HTN := Lib.hid hTn
    clear hT hTn
    by_cases hlt : k < n
    · have hkR : k < R.length := by have := HN.out; omega
      obtain ⟨ad, rfl, hab, hcell⟩ := (h.below hu.1) (by omega)
      have c1 : wr.cell? (ad.add k) = some (.slice R[k].A R[k].n R[k].c) := hcell k hkR
      have c2 := hp.cell (i := k) (by rw [HTN.out]; exact hlt)
      obtain ⟨v2, hv2⟩ : ∃ v2, wr.cell? ⟨g, k, none⟩ = some v2 := ⟨_, c2⟩
      have f2 := hp.free k
      have hne := hp.ne
      have hok : Ent.ok w.heap.size wr R[k] := (ho _ (List.getElem_mem hkR)).hup hu
      have u1 : (0 : Int) ≤ (k : Int) := by omega
      have u2 : (k : Int) < (n : Int) := by omega
      clear c2 hcell
      go_wp2_with fail
      go_region_held3 (fun w' => w'.cell? ⟨w1.heap.size, 0, none⟩ = some (.slice (some ⟨g, 0, none⟩) n cap)) (first | exact hc | exact far_cell hne hc) (first | (go_at_call 26; refine (mtrim_ent (b := w.heap.size) (w := wr.drew) hok).mono ?_; rintro e w2 ⟨t, rfl, ht, rfl⟩))
      have R1 : Hid (PoRel w.heap.size w w1.heap.size (k + 1) R (wr.setCell ⟨g, k, none⟩ (.slice t.A t.n t.c))) := PoRel.next HT.out hkR hall ht hp hu
      clear ht hp hc hall
      go_wp2
      go_roundw
      case rel => exact ⟨k + 1, by omega, by go_num, R1.out.drew⟩
      case measure => simp [intOf]; omega
    · obtain rfl : k = n := by omega
      have hl : R.length - k = 0 := by have := HN.out; omega
      rw [hl, List.replicate_zero, List.append_nil] at hp
      obtain ⟨q1, q2, q3⟩ := prod_trim (HT.out.trans HN.out.symm) hall
      have Q1 := Lib.hid q1
      have Q2 := Lib.hid q2
      have hpile : Pile w.heap.size wr w1.heap.size T := ⟨g, cap, spare, hp⟩
      clear hl q1 q2 hall hc
      go_wp2_with fail
      refine (hinit_calls hpile q3 (by rw [HT.out]; omega)).mono ?_
      rintro e w2 ⟨rfl, R2, p2, h2, k2⟩
      have P : Hid (PofPost w.heap.size w R (.returned (.pointer (some ⟨w1.heap.size, 0, none⟩))) w2) :=
        ⟨w1.heap.size, R2, rfl, h2, (q3.perm p2).hup k2, by rw [prodV_perm p2, Q1.out], by rw [wtV_perm p2]; exact Q2.out, by rw [p2.length_eq, HT.out, HN.out], hu.trans k2⟩
      clear h2 k2
      go_wp2
      go_ret
      exact P.out

/-- mul.Product: of the slices of a list. -/
theorem product_calls {A : Option Addr} {n c N : Nat} {R : List Ent} {w : World} (h : LRow w A R) (hn : R.length = n) (ho : EntsOk w.heap.size w R) (hR : n ≤ 1048576) (hN : wtV R ≤ N) (hN2 : N ≤ 1099511627776) :
    Calls Try.prog 20 #[.slice A n c] w (NatPost (prodV R) w) := by
  have HN := Lib.hid hn
  clear hn
  go_enter Try.func20, Try.ntmps20
  go_wp2_with fail
  refine (pileof_calls h HN.out ho hR).mono ?_
  rintro e w1 ⟨p, R', rfl, h1, o1, v1, n1, l1, k1⟩
  have V1 := Lib.hid v1
  have L1 := Lib.hid l1
  clear v1 l1
  go_wp2_with fail
  refine (join_calls (N := N) h1 o1 (by rw [L1.out, HN.out]; exact hR) (by omega) hN2 k1.1.size).mono ?_
  rintro e w2 ⟨w3, k3, A', c', rfl, hg⟩
  rw [V1.out] at hg ⊢
  have hb3 := k1.trans k3
  have P : Hid (NatPost (prodV R) w (.returned (.slice A' (cn 18446744073709551616 (prodV R)).length c')) w2) := ⟨A', c', rfl, Got.of_own hg.1 hb3.1.size (hb3.1.trans (hg.2.mono hb3.1.size))⟩
  clear hg
  go_wp2
  go_ret
  exact P.out
end Go.Proofs.Ythpohkklggabpaa
