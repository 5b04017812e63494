/-
  Package dec: writeWord, powers, write, Print.
-/
import Derived.Test.YtfpncmhaoadfdaaGreatDecA
import Derived.Deep.OwnRows
import Derived.StillTailTactics
/-! A list with some places overwritten. -/
namespace Go.Proofs.YtfpncmhaoadfdaaGreat

/-- The list L, from p on overwritten by ds. -/
def ins (L : List Nat) (p : Nat) (ds : List Nat) : List Nat := L.take p ++ ds ++ L.drop (p + ds.length)
theorem ins_nil (L : List Nat) (p : Nat) : ins L p [] = L := by simp [ins]
theorem ins_length {L ds : List Nat} {p : Nat} (h : p + ds.length ≤ L.length) : (ins L p ds).length = L.length := by
  simp [ins, Nat.min_eq_left (show p ≤ L.length from by omega)]; omega
theorem ins_cons {L ds : List Nat} {p c : Nat} (h : p + ds.length + 1 ≤ L.length) : (ins L (p + 1) ds).set p c = ins L p (c :: ds) := by
  have hp : (L.take p).length = p := by simp; omega
  unfold ins
  rw [take_succ_nth (by omega), List.append_assoc, List.append_assoc, List.set_append_right _ _ (by omega), hp, Nat.sub_self]
  simp only [List.set_cons_zero, List.append_assoc, List.length_cons, List.cons_append, List.nil_append]
  rw [show p + 1 + ds.length = p + (ds.length + 1) from by omega]
theorem ins_ins {L ds es : List Nat} {p q : Nat} (hq : q = p + ds.length) (h : q + es.length ≤ L.length) : ins (ins L p ds) q es = ins L p (ds ++ es) := by
  subst hq
  have hp : (L.take p ++ ds).length = p + ds.length := by simp; omega
  unfold ins
  rw [← hp, List.take_left, List.drop_append, hp, List.drop_eq_nil_of_le (by omega), List.nil_append, List.drop_drop, List.length_append, List.append_assoc, List.append_assoc, List.append_assoc, List.append_assoc]
  rw [show p + ds.length + es.length = p + (ds.length + es.length) from by omega, show p + ds.length + (p + (ds.length + es.length) - (p + ds.length)) = p + (ds.length + es.length) from by omega]
theorem ins_all {L ds : List Nat} (h : ds.length = L.length) : ins L 0 ds = ds := by simp [ins, h]
end Go.Proofs.YtfpncmhaoadfdaaGreat

/-! Contract: dec.writeWord. -/
namespace Go.Proofs.YtfpncmhaoadfdaaGreat
open Go.RowKit
set_option linter.unusedVariables false

/-- What is left by dec.writeWord and dec.write. -/
def WrPost (w : World) (g p : Nat) (L ds : List Nat) (e : Ending) (w' : World) : Prop :=
  e = .returned (.tuple #[]) ∧ Blk w' g 5 .u8 (ins L p ds) ∧ w.grownBy w' (some g)
theorem grown_refl (w : World) (r : Option Nat) : w.grownBy w r := ⟨rfl, rfl, rfl, Nat.le_refl _, fun _ _ _ => rfl⟩
def WwRel (w : World) (g p m : Nat) (L : List Nat) (x k : Nat) (s : Value) (wr : World) : Prop :=
  s = .int .u64 ((x / 10 ^ (m - k) : Nat) : Int) ∧ Blk wr g 5 .u8 (ins L (p + k) (fw (m - k) x)) ∧ w.grownBy wr (some g)
theorem fw_next {m k x : Nat} (hk : k < m) : fw (m - k) x = (48 + x / 10 ^ (m - (k + 1)) % 10) :: fw (m - (k + 1)) x := by
  rw [show m - k = (m - (k + 1)) + 1 from by omega, fw_cons]
theorem WwRel.next {w wr : World} {g p m k x y c : Nat} {L : List Nat} {s : Value} (hk : k < m) (hp : p + m ≤ L.length) (hy : x / 10 ^ (m - (k + 1)) = y) (hc : c = 48 + y % 10) (hs : s = .int .u64 ((y / 10 : Nat) : Int))
    (hb : Blk wr g 5 .u8 (ins L (p + (k + 1)) (fw (m - (k + 1)) x))) (hg : w.grownBy wr (some g)) : WwRel w g p m L x k s (wr.setCell ⟨g, p + k, none⟩ (.int .u8 (c : Int))) := by
  have h := hb.set (p + k) c
  rw [← Nat.add_assoc, ins_cons (by rw [fw_length]; omega)] at h
  refine ⟨?_, ?_, grown_set hg _ _⟩
  · rw [hs, ← hy, Nat.div_div_eq_div_mul, ← Nat.pow_succ, show (m - (k + 1)).succ = m - k from by omega]
  · rw [fw_next hk, hy, ← hc]; exact h
theorem wword_calls (g p m cap : Nat) (L : List Nat) (x : Nat) (w : World) (hb : Blk w g 5 .u8 L) (hp : p + m ≤ L.length) (hL : L.length ≤ 1099511627776) (hx : x < 18446744073709551616) :
    Calls Tryz.prog 65 #[.slice (some ⟨g, p, none⟩) m cap, .int .u64 x] w (WrPost w g p L (fw m x)) := by
  go_enter Tryz.func65, Tryz.ntmps65
  go_wp2
  go_loopw [1, 4] (fun s i wr => ∃ k : Nat, k ≤ m ∧ i = .int .i64 ((k : Int) - 1) ∧ WwRel w g p m L x k s wr) (fun _ i _ => (intOf i + 1).toNat)
  case atStart => exact ⟨m, Nat.le_refl _, rfl, by simp, by rw [Nat.sub_self]; simpa [fw, ins_nil] using hb, grown_refl _ _⟩
  case round =>
    obtain ⟨k, hk, rfl, rfl, hbk, hg⟩ := hrel
    rcases Nat.eq_zero_or_pos k with rfl | hpos
    · have P : Hid (WrPost w g p L (fw m x) (.returned (.tuple #[])) wr) := Lib.hid ⟨rfl, by simpa using hbk, hg⟩
      clear hbk hg
      go_wp2
      go_end0
      exact P.out
    · obtain ⟨i, rfl⟩ : ∃ i, k = i + 1 := ⟨k - 1, by omega⟩
      rw [show (((i + 1 : Nat) : Int) - 1) = (i : Int) from by omega]
      have hlen : (ins L (p + (i + 1)) (fw (m - (i + 1)) x)).length = L.length := ins_length (by rw [fw_length]; omega)
      have cs := hbk.cell (j := p + i) (by rw [hlen]; omega)
      have cf := hbk.free (p + i)
      obtain ⟨y, hy⟩ : ∃ y, x / 10 ^ (m - (i + 1)) = y := ⟨_, rfl⟩
      have hyx : y ≤ x := by rw [← hy]; exact Nat.div_le_self _ _
      rw [hy]
      have HN := fun c s h1 h2 => WwRel.next (w := w) (s := s) (c := c) hk hp hy h1 h2 hbk hg
      have HN' := Lib.hid HN
      clear hlen hy HN hbk hg hpos
      go_wp2
      go_roundw
      case rel => exact ⟨i, by omega, by go_num, HN'.out _ _ rfl rfl⟩
      case measure => simp [intOf]

/-- The powers of ten that cut numbers: n slices in block g. -/
def CutsAt (w : World) (g n : Nat) : Prop := ∀ j, j < n → ∃ A m c, w.cell? ⟨g, j, none⟩ = some (.slice A m c) ∧ Cv w A m c (10 ^ (18 * 2 ^ j)) ∧ m ≤ 2 ^ j
theorem CutsAt.le {w : World} {g n m : Nat} (h : CutsAt w g n) (hm : m ≤ n) : CutsAt w g m := fun j hj => h j (by omega)
theorem CutsAt.below {w w' : World} {g n : Nat} (h : CutsAt w g n) (hb : Below w.heap.size w w') (hg : g < w.heap.size) : CutsAt w' g n := fun j hj => by
  obtain ⟨A, m, c, h1, h2, h3⟩ := h j hj
  exact ⟨A, m, c, (hb.cell (p := ⟨g, j, none⟩) hg).trans h1, h2.below hb, h3⟩
/-- The list of cuts. -/
def Cuts (w : World) (A : Option Addr) (n c : Nat) : Prop := ∃ g, A = some ⟨g, 0, none⟩ ∧ g < w.heap.size ∧ n ≤ c ∧ c ≤ 20 ∧ CutsAt w g n
theorem Cuts.below {w w' : World} {A : Option Addr} {n c : Nat} (h : Cuts w A n c) (hb : Below w.heap.size w w') : Cuts w' A n c := by
  obtain ⟨g, rfl, h1, h2, h3, h4⟩ := h
  exact ⟨g, rfl, Nat.lt_of_lt_of_le h1 hb.size, h2, h3, h4.below hb h1⟩
theorem Cuts.le {w : World} {A : Option Addr} {n m c : Nat} (h : Cuts w A n c) (hm : m ≤ n) : Cuts w A m c := by
  obtain ⟨g, rfl, h1, h2, h3, h4⟩ := h
  exact ⟨g, rfl, h1, by omega, h3, h4.le hm⟩

/-- A list of slices that is made. -/
theorem wpList_make_cuts {P : Program} (w : World) {ops : Array Oper} {rest : List Oper} {o : Oper} {a : Act} {Q : Exit → Act → World → Prop}
    (hg : o.guard = none) (l c : Operand) (t : TypeId) (hop : o.op = Op.makeSlice t l c)
    (e : TypeId) (bytes : Nat) (ht : P.underlying t = some (.slice e)) (hinfo : (P.info? e).map (fun i => (i.zero, i.size, i.bytes)) = some (some (.slice none 0 0), 1, bytes))
    (kl kc : IntKind) (L C : Int) (n : Nat) (hl : a.eval l = .int kl L) (hc : a.eval c = .int kc C) (hL : L = (n : Int)) (hC : C = (n : Int)) (hbytes : bytes * n ≤ 281474976710656) (h63 : n ≤ 9223372036854775807)
    (hK : ∀ w', w'.heap[w.heap.size]? = some (.cells (List.replicate n (.slice none 0 0)).toArray e (0, 0)) → Below w.heap.size w w' → w'.heap.size = w.heap.size + 1 → wpList P ops Q rest (a.put o.dst (.slice (some ⟨w.heap.size, 0, none⟩) n n)) w') :
    wpList P ops Q (o :: rest) a w := by
  subst hL hC
  obtain ⟨i, hi, hz0, hz1, hz2⟩ := info_parts hinfo
  refine wpList_make_row w hg l c t hop e i (.slice none 0 0) ht hi hz0 hz1 rfl kl kc n hl hc (by rw [hz2]; exact hbytes) h63 ?_
  refine hK _ ?_ ((Below.refl _ _).alloc (Nat.le_refl _) _) (by simp)
  rw [heap_alloc_new w]
  congr 2
  apply Array.ext
  · simp [size_madeCells]
  · intro i h1 h2
    simp [madeCells, Nat.mod_one]
theorem info_cut : (Tryz.prog.info? 23).map (fun i => (i.zero, i.size, i.bytes)) = some (some (.slice none 0 0), 1, 24) := by kernel_rfl

/-- What reads as numbers does not lie in a block of other things. -/
theorem rd_apart {w w' : World} {K : IntKind} {A : Option Addr} {xs : List Nat} {g : Nat} {cs : Array Value} {t : TypeId} {fr : Nat × Nat} (h : Rd w K A xs) (hg : w.heap[g]? = some (.cells cs t fr))
    (hno : ∀ (i : Nat) (n : Int), cs[i]? ≠ some (.int K n)) (hb : w.grownBy w' (some g)) : Rd w' K A xs := fun hn => by
  obtain ⟨ad, rfl, hlt, hc⟩ := h hn
  have hne : ad.block ≠ g := fun e => by
    have h1 := hc 0 hn
    unfold World.cell? at h1
    rw [add_block, e, hg] at h1
    simp only at h1
    split at h1
    · cases h1
    · exact hno _ _ h1
  exact h.grown hb (fun ad' e => by cases e; intro e2; exact hne (Option.some.inj e2)) hn
theorem Cv.apart {w w' : World} {A : Option Addr} {n c v g : Nat} {cs : Array Value} {t : TypeId} {fr : Nat × Nat} (h : Cv w A n c v) (hg : w.heap[g]? = some (.cells cs t fr))
    (hno : ∀ (i : Nat) (n : Int), cs[i]? ≠ some (.int .u64 n)) (hb : w.grownBy w' (some g)) : Cv w' A n c v := ⟨rd_apart h.1 hg hno hb, h.2⟩
/-- All are slices. -/
def AllSl (V : List Value) : Prop := ∀ v ∈ V, ∃ A n c, v = .slice A n c
theorem AllSl.no {V : List Value} (h : AllSl V) (i : Nat) (n : Int) : V.toArray[i]? ≠ some (.int .u64 n) := fun e => by
  rw [List.getElem?_toArray] at e
  obtain ⟨A, m, c, hv⟩ := h _ (List.mem_of_getElem? e)
  cases hv
theorem AllSl.set {V : List Value} (h : AllSl V) (k : Nat) (A : Option Addr) (n c : Nat) : AllSl (V.set k (.slice A n c)) := fun v hv => by
  rcases List.mem_or_eq_of_mem_set hv with h1 | h1
  · exact h v h1
  · exact ⟨A, n, c, h1⟩
def PwRow (w : World) (n k : Nat) (wr : World) (V : List Value) : Prop :=
  wr.heap[w.heap.size]? = some (.cells V.toArray 23 (0, 0)) ∧ V.length = n ∧ AllSl V ∧ (∀ j, j < k → ∃ A m c, V[j]? = some (.slice A m c) ∧ Cv wr A m c (10 ^ (18 * 2 ^ j)) ∧ m ≤ 2 ^ j) ∧ Below w.heap.size w wr
theorem PwRow.below {w wr w' : World} {n k : Nat} {V : List Value} (h : PwRow w n k wr V) (hb : Below wr.heap.size wr w') : PwRow w n k w' V := by
  obtain ⟨h1, h2, h3, h4, h5⟩ := h
  refine ⟨(hb.block _ (Array.getElem?_eq_some_iff.1 h1).1).trans h1, h2, h3, fun j hj => ?_, h5.trans (hb.mono h5.size)⟩
  obtain ⟨A, m, c, e1, e2, e3⟩ := h4 j hj
  exact ⟨A, m, c, e1, e2.below hb, e3⟩
theorem PwRow.next {w wr : World} {n k : Nat} {V : List Value} {A : Option Addr} {m c : Nat} (h : PwRow w n k wr V) (hk : k < n) (hc : Cv wr A m c (10 ^ (18 * 2 ^ k))) (hm : m ≤ 2 ^ k) :
    PwRow w n (k + 1) (wr.setCell ⟨w.heap.size, k, none⟩ (.slice A m c)) (V.set k (.slice A m c)) ∧ Cv (wr.setCell ⟨w.heap.size, k, none⟩ (.slice A m c)) A m c (10 ^ (18 * 2 ^ k)) := by
  obtain ⟨h1, h2, h3, h4, h5⟩ := h
  have hg := grown_set (grown_refl wr (some w.heap.size)) k (.slice A m c)
  refine ⟨⟨?_, by simp [h2], h3.set k A m c, fun j hj => ?_, h5.setCell (Nat.le_refl _) _⟩, hc.apart h1 h3.no hg⟩
  · rw [heap_setCell_same wr _ k _ _ _ h1, List.setIfInBounds_toArray]
  · rcases Nat.lt_or_ge j k with hj2 | hj2
    · obtain ⟨A', m', c', e1, e2, e3⟩ := h4 j hj2
      exact ⟨A', m', c', by rw [List.getElem?_set_ne (by omega)]; exact e1, e2.apart h1 h3.no hg, e3⟩
    · obtain rfl : j = k := by omega
      exact ⟨A, m, c, by rw [List.getElem?_set_self (by omega)], hc.apart h1 h3.no hg, hm⟩
theorem PwRow.cuts {w wr : World} {n : Nat} {V : List Value} (h : PwRow w n n wr V) (hn : n ≤ 20) : Cuts wr (some ⟨w.heap.size, 0, none⟩) n n := by
  obtain ⟨h1, h2, h3, h4, h5⟩ := h
  refine ⟨_, rfl, (Array.getElem?_eq_some_iff.1 h1).1, Nat.le_refl _, hn, fun j hj => ?_⟩
  obtain ⟨A, m, c, e1, e2, e3⟩ := h4 j hj
  exact ⟨A, m, c, by rw [cell_of_row wr _ j _ _ (0, 0) h1, List.getElem?_toArray, e1], e2, e3⟩
theorem PwRow.free {w wr : World} {n k : Nat} {V : List Value} (h : PwRow w n k wr V) (j : Nat) : wr.frozen? ⟨w.heap.size, j, none⟩ = false := frozen_of_row wr _ j _ _ h.1
theorem PwRow.cell {w wr : World} {n k : Nat} {V : List Value} (h : PwRow w n k wr V) {j : Nat} (hj : j < n) : ∃ A m c, wr.cell? ⟨w.heap.size, j, none⟩ = some (.slice A m c) := by
  have hl : j < V.length := by rw [h.2.1]; exact hj
  obtain ⟨A, m, c, e⟩ := h.2.2.1 V[j] (List.getElem_mem hl)
  exact ⟨A, m, c, by rw [cell_of_row wr _ j _ _ (0, 0) h.1, List.getElem?_toArray, List.getElem?_eq_getElem hl, e]⟩

/-- What dec.powers answers. -/
def CutsPost (n : Nat) (w : World) (e : Ending) (w' : World) : Prop := ∃ A c, e = .returned (.slice A n c) ∧ Cuts w' A n c ∧ Below w.heap.size w w'
theorem ten_square (k : Nat) : (10 : Nat) ^ (18 * 2 ^ k) * 10 ^ (18 * 2 ^ k) = 10 ^ (18 * 2 ^ (k + 1)) := by
  rw [← Nat.pow_add, Nat.pow_succ]; congr 1; omega
theorem two_small {k : Nat} (h : k ≤ 20) : 2 ^ k ≤ 1048576 := Nat.pow_le_pow_right (n := 2) (j := 20) (by omega) h
def PwState (w : World) (n k : Nat) (s : Value) (wr : World) : Prop :=
  (∃ V, PwRow w n k wr V) ∧ (∃ A m c, s = .slice A m c ∧ Cv wr A m c (10 ^ (18 * 2 ^ (k - 1))) ∧ m ≤ 2 ^ (k - 1))
theorem PwRow.start {w w1 : World} {n : Nat} (h : w1.heap[w.heap.size]? = some (.cells (List.replicate n (.slice none 0 0)).toArray 23 (0, 0))) (hb : Below w.heap.size w w1) : PwRow w n 0 w1 (List.replicate n (.slice none 0 0)) :=
  ⟨h, by simp, fun v hv => ⟨none, 0, 0, (List.mem_replicate.1 hv).2⟩, fun j hj => by omega, hb⟩
theorem powers_calls (n : Nat) (hn : n ≤ 20) (w : World) :
    Calls Tryz.prog 47 #[.int .i64 n] w (CutsPost n w) := by
  go_enter Tryz.func47, Tryz.ntmps47
  go_wp2_with (at_make; refine wpList_make_cuts _ rfl _ _ 71 rfl 23 24 Tryz.underlying71 info_cut _ _ _ _ n rfl rfl rfl rfl (by omega) (by omega) ?_)
  intro w1 h1 b1 z1
  have R0 := PwRow.start h1 b1
  clear h1 z1
  go_wp2_with fail
  refine (ofc_v 1000000000000000000 (by omega) _).mono ?_
  rintro e w2 ⟨A2, n2, c2, rfl, h2, k2, b2⟩
  have R1 := R0.below b2
  have S1 : PwState w n 0 (.slice A2 n2 c2) w2 := ⟨⟨_, R1⟩, _, _, _, rfl, h2, k2⟩
  clear R0 R1 h2 k2 b1 b2
  go_wp2
  go_loopw [4, 11] (fun s i wr => ∃ k : Nat, k ≤ n ∧ i = .int .i64 k ∧ PwState w n k s wr) (fun _ i _ => n - (intOf i).toNat)
  case atStart => exact ⟨0, Nat.zero_le _, rfl, S1⟩
  case round =>
    obtain ⟨k, hk, rfl, ⟨V, hV⟩, A, m, c, rfl, hC, hm⟩ := hrel
    clear S1
    by_cases hlt : k < n
    · rcases Nat.eq_zero_or_pos k with rfl | hpos
      · obtain ⟨B, q, d, hc0⟩ := hV.cell hlt
        have hf := hV.free 0
        have N1 := hV.next hlt hC hm
        have HN1 := Lib.hid N1
        clear N1 hV hC
        go_wp2
        go_roundw
        case rel => exact ⟨1, by omega, by go_num, ⟨_, HN1.out.1⟩, _, _, _, rfl, HN1.out.2, hm⟩
        case measure => simp [intOf]; omega
      · obtain ⟨i, rfl⟩ : ∃ i, k = i + 1 := ⟨k - 1, by omega⟩
        rw [Nat.add_sub_cancel] at hC hm
        have hm2 := two_small (k := i) (by omega)
        go_wp2_with fail
        refine (squarec_v hC.nv (by omega)).mono ?_
        rintro e w3 ⟨A3, n3, c3, rfl, h3, k3, b3⟩
        rw [ten_square] at h3
        have hV3 := hV.below b3
        obtain ⟨B, q, d, hc0⟩ := hV3.cell hlt
        have hf := hV3.free (i + 1)
        have hm3 : n3 ≤ 2 ^ (i + 1) := by rw [Nat.pow_succ]; omega
        have N1 := hV3.next hlt h3 hm3
        have HN1 := Lib.hid N1
        have HM3 := Lib.hid hm3
        clear N1 hV hV3 hC h3 hm hm2 hm3 b3 k3
        go_wp2
        go_roundw
        case rel => exact ⟨i + 1 + 1, by omega, by go_num, ⟨_, HN1.out.1⟩, _, _, _, rfl, HN1.out.2, HM3.out⟩
        case measure => simp [intOf]; omega
    · obtain rfl : k = n := by omega
      have P : Hid (CutsPost k w (.returned (.slice (some ⟨w.heap.size, 0, none⟩) k k)) wr) := Lib.hid ⟨_, _, rfl, hV.cuts hn, hV.2.2.2.2⟩
      clear hV hC hm
      go_wp2
      go_ret
      exact P.out

theorem Blk.no8 {w : World} {g : Nat} {t : TypeId} {L : List Nat} (h : Blk w g t .u8 L) (i : Nat) (n : Int) : (vs .u8 L).toArray[i]? ≠ some (.int .u64 n) := fun e => by
  rw [List.getElem?_toArray] at e
  have := List.mem_of_getElem? e
  simp [vs] at this
theorem Cv.bytes {w w' : World} {A : Option Addr} {n c v g : Nat} {t : TypeId} {L : List Nat} (h : Cv w A n c v) (hb : Blk w g t .u8 L) (hg : w.grownBy w' (some g)) : Cv w' A n c v := h.apart hb hb.no8 hg
theorem Cuts.bytes {w w' : World} {A : Option Addr} {n c g : Nat} {t : TypeId} {L : List Nat} (h : Cuts w A n c) (hb : Blk w g t .u8 L) (hg : w.grownBy w' (some g)) : Cuts w' A n c := by
  obtain ⟨q, rfl, h1, h2, h3, h4⟩ := h
  refine ⟨q, rfl, Nat.lt_of_lt_of_le h1 hg.size, h2, h3, fun j hj => ?_⟩
  obtain ⟨B, m, d, e1, e2, e3⟩ := h4 j hj
  have hne : some q ≠ some g := fun e => by
    cases e
    rw [cell_of_row w _ j _ _ (0, 0) hb, List.getElem?_toArray] at e1
    have := List.mem_of_getElem? e1
    simp [vs] at this
  exact ⟨B, m, d, (World.cell?_of_block (hg.block q h1 hne)).trans e1, e2.bytes hb hg, e3⟩
theorem grown_below {w w' : World} (h : Below w.heap.size w w') (r : Option Nat) : w.grownBy w' r := ⟨h.os, h.tape, h.output, h.size, fun k hk _ => h.block k hk⟩

/-- dec.write, with n cuts. -/
def WriteOk (n : Nat) : Prop := ∀ (g p m cap na ca cc : Nat) (A C : Option Addr) (L : List Nat) (v : Nat) (w : World), Hid (m = 18 * 2 ^ n) → Blk w g 5 .u8 L → p + m ≤ L.length → L.length ≤ 1099511627776 → m ≤ cap → cap ≤ 1099511627776 →
  Nv w A na ca v → na ≤ 549755813888 → Hid (v < 10 ^ (18 * 2 ^ n)) → Cuts w C n cc →
  Calls Tryz.prog 46 #[.slice (some ⟨g, p, none⟩) m cap, .slice A na ca, .slice C n cc] w (WrPost w g p L (fw m v))
theorem write_zero : WriteOk 0 := by
  intro g p m cap na ca cc A C L v w HM hb hp hL hcap hcap2 hv hna HV hC
  obtain rfl : m = 18 := HM.out
  have hv1 : v < 1000000000000000000 := HV.out
  obtain ⟨xs, x1, x2, x3, x4, x5, rfl⟩ := hv
  have X2 := Lib.hid x2
  clear x2 HM HV
  go_enter Tryz.func46, Tryz.ntmps46
  go_wp2_with fail
  refine (word_calls A na ca xs _ x1 X2.out x3 x4 x5).mono ?_
  rintro e w' ⟨h1 | h1, rfl⟩
  · obtain ⟨h1, rfl⟩ := h1
    go_wp2_with fail
    refine (wword_calls g p 18 cap L (ev 18446744073709551616 xs) _ hb hp hL h1).mono ?_
    rintro e w2 ⟨rfl, hb2, hg2⟩
    go_wp2
    go_end0
    exact ⟨rfl, hb2, hg2⟩
  · omega
set_option maxRecDepth 100000 in
theorem write_step {n : Nat} (ih : WriteOk n) : WriteOk (n + 1) := by
  intro g p m cap na ca cc A C L v w HM hb hp hL hcap hcap2 hv hna HV hC
  obtain ⟨D, hD⟩ : ∃ D, D = 18 * 2 ^ n := ⟨_, rfl⟩
  have hm : m = D + D := by rw [HM.out, hD, Nat.pow_succ]; omega
  have HDD := Lib.hid hm
  have hD0 : 0 < D := by rw [hD]; exact Nat.mul_pos (by omega) (Nat.pow_pos (by omega))
  have hP : 0 < 10 ^ (18 * 2 ^ n) := Nat.pow_pos (by omega)
  have hvD : v / 10 ^ D < 10 ^ D := by
    rw [Nat.div_lt_iff_lt_mul (Nat.pow_pos (by omega)), ← Nat.pow_add, ← hm, show m = 18 * 2 ^ (n + 1) from HM.out]; exact HV.out
  have hvR : v % 10 ^ D < 10 ^ D := Nat.mod_lt _ (Nat.pow_pos (by omega))
  obtain ⟨q, rfl, hq, hn1, hn2, hcuts⟩ := hC
  obtain ⟨B, k, d, hcell, hB, hk⟩ := hcuts n (by omega)
  have hC : Cuts w (some ⟨q, 0, none⟩) n cc := ⟨q, rfl, hq, by omega, hn2, hcuts.le (by omega)⟩
  have hk2 := two_small (k := n) (by omega)
  have hkk : k ≤ 1048576 := by omega
  have HD := Lib.hid hD
  have HVD := Lib.hid hvD
  have HVR := Lib.hid hvR
  have HP := Lib.hid hP
  have e1 : (m : Int) / 2 = (D : Int) := by omega
  have u1 : ¬ cap = D := by omega
  have u2 : D ≤ cap := by omega
  have u3 : n ≤ cc := by omega
  have u4 : m - D = D := by omega
  have u5 : D ≤ m := by omega
  have u6 : p + D + D ≤ L.length := by omega
  have hwr : IntKind.i64.wrap (D : Int) = (D : Int) := IntWalk.i64_in _ (by omega)
  have HWR := Lib.hid hwr
  have U4 := Lib.hid u4
  clear hD hvD hvR hP hcuts HM HV hk hk2 hm u4 hwr
  go_enter Tryz.func46, Tryz.ntmps46
  go_wp2_with fail
  refine (dm_v hv hB.nv (by omega) (by omega) HP.out).mono ?_
  rintro e w2 ⟨A1, n1, c1, A2, n2, c2, rfl, q1, q2, k1, k2, B2⟩
  have hC2 := hC.below B2
  have hb2 := hb.below B2 hb.lt
  have hg2 := grown_below B2 (some g)
  rw [← HD.out] at q1 q2
  have Q1 := Lib.hid q1
  have Q2 := Lib.hid q2
  clear hcell hv hB hC hb q1 q2 B2
  go_wp2_with fail
  go_still_tail 7, (by kernel_rfl)
  change wpList _ _ _ _ _ w2.drew
  have B3 := below_drew w2
  replace hC2 := hC2.below B3
  replace hb2 := hb2.below B3 hb2.lt
  replace hg2 := grown_trans hg2 (grown_below B3 (some g))
  have Q1' := Lib.hid (Q1.out.below B3)
  have Q2' := Lib.hid (Q2.out.below B3)
  clear Q1 Q2 B3
  generalize w2.drew = w3 at *
  go_wp2_with fail
  refine (ih g p D cap n1 c1 cc A1 _ L (v / 10 ^ D) _ HD hb2 (by omega) hL (by omega) hcap2 Q1'.out.nv (by omega) (by rw [← HD.out]; exact HVD) hC2).mono ?_
  rintro e w4 ⟨rfl, hb4, hg4⟩
  replace hC2 := hC2.bytes hb2 hg4
  have Q4 := Lib.hid (Q2'.out.bytes hb2 hg4)
  replace hg2 := grown_trans hg2 hg4
  clear Q1' Q2' hb2 hg4
  go_wp2_with fail
  have u4 := U4.out
  have hwr := HWR.out
  go_still_tail 7, (by kernel_rfl)
  change wpList _ _ _ _ _ w4.drew
  clear u4 hwr
  have B5 := below_drew w4
  replace hC2 := hC2.below B5
  replace hb4 := hb4.below B5 hb4.lt
  replace hg2 := grown_trans hg2 (grown_below B5 (some g))
  have Q5 := Lib.hid (Q4.out.below B5)
  clear Q4 B5
  generalize w4.drew = w5 at *
  have hl1 : (ins L p (fw D (v / 10 ^ D))).length = L.length := ins_length (by rw [fw_length]; omega)
  have HL1 := Lib.hid hl1
  clear hl1
  go_wp2_with fail
  refine (ih g (p + D) D (cap - D) n2 c2 cc A2 _ (ins L p (fw D (v / 10 ^ D))) (v % 10 ^ D) _ HD hb4 (by rw [HL1.out]; omega) (by rw [HL1.out]; exact hL) (by omega) (by omega) Q5.out.nv (by omega) (by rw [← HD.out]; exact HVR) hC2).mono ?_
  rintro e w6 ⟨rfl, hb6, hg6⟩
  have P : Hid (WrPost w g p L (fw m v) (.returned (.tuple #[])) w6) := Lib.hid ⟨rfl, by
    rw [HDD.out, fw_add, ← fw_mod D v, ← ins_ins (q := p + D) (by rw [fw_length]) (by rw [fw_length]; omega)]; exact hb6, grown_trans hg2 hg6⟩
  clear hb6 hg6 hb4 hg2
  go_wp2
  go_end0
  exact P.out
theorem write_ok (n : Nat) : WriteOk n := by
  induction n with
  | zero => exact write_zero
  | succ n ih => exact write_step ih

/-- The string of the bytes of a block. -/
theorem run_bytes_blk {w : World} {g k n c : Nat} {ds : List Nat} {L : List Nat} (hb : Blk w g 5 .u8 L) (hds : L.drop k = ds) (hn : ds.length = n) :
    (convert 69 9 (.slice (some ⟨g, k, none⟩) n c)).run Tryz.prog w = .ok (.string (str ds)) w := by
  rw [← str_num]
  refine run_convert_bytes_arg w _ 5 Tryz.underlying69 Tryz.underlying5 g k n c _ (by simpa using hn) (fun i hi => ?_) _ Tryz.underlying9
  rw [hb.cell (by rw [← hds, List.length_drop] at hn; omega)]
  have e : nth L (k + i) = nth ds i := by rw [← hds, nth_drop]
  rw [e]
  simp [nth, List.getD, hn, hi]
theorem info_u8 : (Tryz.prog.info? 5).map (fun i => (i.zero, i.size, i.bytes)) = some (some (.int .u8 0), 1, 1) := by kernel_rfl
/-- What dec.Print answers. -/
def PrPost (v : Nat) (w : World) (e : Ending) (w' : World) : Prop := e = .returned (.string (str (dgs v))) ∧ Below w.heap.size w w'
theorem bitsd_v {A : Option Addr} {n c v : Nat} {w : World} (hx : Nv w A n c v) (hn : n ≤ 1099511627776) :
    Calls Tryz.prog 28 #[.slice A n c] w fun e w' => e = .returned (.int .i64 (bl v)) ∧ w = w' := by
  obtain ⟨xs, h1, h2, h3, h4, h5, rfl⟩ := hx
  exact bits_calls A n c xs w h1 h2 h3 h4 h5 hn
/-- The length of a slice. -/
def dlen : Value → Nat
  | .slice _ n _ => n
  | _ => 0
theorem fw_split {D r j v : Nat} (h : j + r = D) : (fw D v).drop j = fw r v := by
  subst h
  have e := fw_length j (v / 10 ^ r)
  rw [fw_add, List.drop_append, e, Nat.sub_self, List.drop_eq_nil_of_le (by omega)]; rfl
theorem fw_head {D r j v : Nat} (h : j + r = D) (hr : 0 < r) : nth (fw D v) j = 48 + v / 10 ^ (r - 1) % 10 := by
  have e := nth_drop (fw D v) j 0
  rw [Nat.add_zero] at e
  rw [← e, fw_split h]
  obtain ⟨s, rfl⟩ : ∃ s, r = s + 1 := ⟨r - 1, by omega⟩
  rw [fw_cons, nth_cons_zero]; rfl
theorem lead_nought {r v : Nat} (hr : 0 < r) (hv : v < 10 ^ r) : v / 10 ^ (r - 1) % 10 = 0 ↔ v < 10 ^ (r - 1) := by
  obtain ⟨s, rfl⟩ : ∃ s, r = s + 1 := ⟨r - 1, by omega⟩
  rw [Nat.add_sub_cancel]
  have h5 : v / 10 ^ s < 10 := by rw [Nat.div_lt_iff_lt_mul (Nat.pow_pos (by omega)), ← Nat.pow_succ']; exact hv
  rw [Nat.mod_eq_of_lt h5, Nat.div_eq_zero_iff]
  have := Nat.pow_pos (n := s) (show 0 < 10 from by omega)
  omega
set_option maxRecDepth 100000 in
theorem print_calls {A : Option Addr} {n c v : Nat} {w : World} (hx : Nv w A n c v) (hn : n ≤ 1024) :
    Calls Tryz.prog 33 #[.slice A n c] w (PrPost v w) := by
  have hbl : bl v ≤ 65536 := by have := bl_words hx.lt; omega
  go_enter Tryz.func33, Tryz.ntmps33
  go_wp2_with fail
  refine (bitsd_v hx (by omega) ).mono ?_
  rintro e w' ⟨rfl, rfl⟩
  go_wp2_with fail
  refine (dbl_calls 59 (bl v) (by omega) (by omega) (by omega) _).mono ?_
  rintro e w' ⟨⟨k, rfl, d1, d2⟩, rfl⟩
  have hk := dbl_small (m := 11) (by omega) d2 (by omega)
  have hv := bits_ten v k d1
  have HV := Lib.hid hv
  obtain ⟨D, hD⟩ : ∃ D, D = 18 * 2 ^ k := ⟨_, rfl⟩
  have hD2 : D ≤ 36864 := by have := Nat.pow_le_pow_right (n := 2) (by omega) hk; omega
  have hD0 : 0 < D := by rw [hD]; exact Nat.mul_pos (by omega) (Nat.pow_pos (by omega))
  have HD := Lib.hid hD
  have hw64 : wrap64 (18 * 2 ^ k) = (D : Int) := by
    have e : (18 * 2 ^ k : Int) = (D : Int) := by rw [hD]; push_cast; rfl
    rw [e]; exact IntWalk.wrap64_in _ (by omega)
  clear d1 d2 hbl hv hD
  go_wp2_with (at_make; refine wpList_make_blk _ rfl _ _ 69 rfl 5 .u8 1 Tryz.underlying69 info_u8 _ _ _ _ D rfl rfl hw64 hw64 (by omega) (by omega) ?_)
  intro w1 h1 b1 z1
  obtain ⟨g, hg⟩ : ∃ g, g = w.heap.size := ⟨_, rfl⟩
  rw [← hg] at h1 ⊢
  have HG := Lib.hid hg
  have hx1 := hx.below b1
  have B1 := Lib.hid b1
  clear hw64 hg z1 b1 hx
  go_wp2_with fail
  refine (powers_calls k (by omega) _).mono ?_
  rintro e w2 ⟨C, cc, rfl, hC, b2⟩
  have h2 := h1.below b2 h1.lt
  have hx2 := hx1.below b2
  have B2 : Hid (Below w.heap.size w w2) := Lib.hid (B1.out.trans (b2.mono B1.out.size))
  clear h1 b2 hx1 B1
  go_wp2_with fail
  refine (write_ok k g 0 D D n c cc A C _ v _ HD h2 (by simp) (by simp; omega) (Nat.le_refl _) (by omega) hx2 (by omega) HV hC).mono ?_
  rintro e w3 ⟨rfl, h3, g3⟩
  rw [ins_all (by rw [fw_length, List.length_replicate])] at h3
  have B3 : Hid (Below w.heap.size w w3) := Lib.hid (B2.out.trans ⟨g3.os, g3.tape, g3.output, g3.size, fun i hi => g3.block i (Nat.lt_of_lt_of_le hi B2.out.size) (fun e => by cases e; have := HG.out; omega)⟩)
  have hvD : v < 10 ^ D := by rw [HD.out]; exact HV.out
  have HVD := Lib.hid hvD
  clear h2 g3 hx2 hC B2 HV HD hvD
  go_wp2
  go_loop [4] (fun s => ∃ r j : Nat, s = .slice (some ⟨g, j, none⟩) r r ∧ 0 < r ∧ r ≤ D ∧ Hid (j + r = D) ∧ Hid (v < 10 ^ r)) (fun s => dlen s)
  case atStart => exact ⟨D, 0, rfl, hD0, Nat.le_refl _, Lib.hid (by omega), HVD⟩
  case round =>
    obtain ⟨r, j, rfl, hr, hrD, HJ, HR⟩ := hrel
    have hjD : j < D := by have := HJ.out; omega
    have cc := h3.cell (j := j) (by rw [fw_length]; exact hjD)
    rw [fw_head HJ.out hr] at cc
    have hl := lead_nought hr HR.out
    have hend : Hid (nd v = r → str (dgs v) = str ((fw D v).drop j)) := Lib.hid fun e => by rw [fw_split HJ.out, dgs, e]
    have hlen : ((fw D v).drop j).length = r := by rw [List.length_drop, fw_length]; have := HJ.out; omega
    have kc := run_bytes_blk (k := j) (n := r) (c := r) h3 rfl hlen
    by_cases h1 : 1 < r
    · by_cases h0 : v < 10 ^ (r - 1)
      · rw [hl.2 h0] at cc
        have H0 := Lib.hid h0
        have hr1 : ¬ r = 1 := by omega
        clear hl hlen kc h0
        go_wp2
        go_round
        case rel => exact ⟨r - 1, j + 1, rfl, by omega, by omega, Lib.hid (by have := HJ.out; omega), H0⟩
        case measure => show r - 1 < r; omega
      · have hne : v / 10 ^ (r - 1) % 10 ≠ 0 := fun e => h0 (hl.1 e)
        obtain ⟨x, hx⟩ : ∃ x, x = v / 10 ^ (r - 1) % 10 := ⟨_, rfl⟩
        rw [← hx] at cc hne
        have hx10 : x < 10 := by omega
        have t0 : ((((48 + x : Nat) : Int)) == 48) = false := by rw [beq_eq_false_iff_ne]; omega
        have t1 : (((48 : Int) + (x : Int)) == 48) = false := by rw [beq_eq_false_iff_ne]; omega
        have E := hend.out (nd_eq hr HR.out (.inr (by omega)))
        rw [← E] at kc
        clear hl hlen h0 hx E
        go_wp2
        go_ret
        exact ⟨rfl, B3.out⟩
    · have E := hend.out (nd_eq hr HR.out (.inl (by omega)))
      rw [← E] at kc
      clear hl hlen E
      go_wp2
      go_ret
      exact ⟨rfl, B3.out⟩
end Go.Proofs.YtfpncmhaoadfdaaGreat
