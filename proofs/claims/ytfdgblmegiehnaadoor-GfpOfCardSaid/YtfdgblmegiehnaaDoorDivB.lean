/-
  Package div: trim, byWord, subProduct, addBack, guess, takeOut.
-/
import Derived.Test.YtfdgblmegiehnaaDoorDivA
import Derived.Test.YtfdgblmegiehnaaDoorMulA
/-! Contracts: div.trim, div.byWord. -/
namespace Go.Proofs.YtfdgblmegiehnaaDoor
open Go.RowKit
set_option linter.unusedVariables false

theorem bl_sl {xs : List Nat} (lx : Low 18446744073709551616 xs) : (bl (ev 18446744073709551616 xs) + 63) / 64 = sl xs := by
  rcases Nat.eq_zero_or_pos (sl xs) with h0 | hpos
  · rw [h0, sl_zero_ev h0, bl_zero]
  · obtain ⟨l, hl⟩ : ∃ l, sl xs = l + 1 := ⟨sl xs - 1, by omega⟩
    have ht := sl_top hpos
    rw [hl, Nat.add_sub_cancel] at ht
    have u1 := lx.any (by omega) l
    have b64 : bl (nth xs l) ≤ 64 := bl_le.2 (by simpa using u1)
    have b1 : 0 < bl (nth xs l) := bl_lt.2 (by simp; omega)
    rw [sl_split hl, bl_top (pre_lt lx (by omega) l) (by omega), hl]
    omega

/-- A quotient by a word, from the greatest word on: k words are left. -/
def Wording (b : Nat) (xs D : List Nat) (x k r : Nat) : Prop :=
  k + D.length = xs.length ∧ Low b D ∧ r < x ∧ ev b (xs.drop k) = ev b D * x + r
theorem Wording.start {b : Nat} (xs : List Nat) {x : Nat} (hx : 0 < x) : Wording b xs [] x xs.length 0 := ⟨by simp, Low.nil b, hx, by simp [ev]⟩
theorem Wording.step {b : Nat} {xs D : List Nat} {x k r : Nat} (lx : Low b xs) (hxb : x ≤ b) (h : Wording b xs D x (k + 1) r) :
    Wording b xs ((r * b + nth xs k) / x :: D) x k ((r * b + nth xs k) % x) := by
  obtain ⟨h1, h2, h3, h4⟩ := h
  have hk : k < xs.length := by omega
  have hxk := lx k hk
  have hq : (r * b + nth xs k) / x < b := (Nat.div_lt_iff_lt_mul (by omega)).2 (by
    have h5 : (r + 1) * b ≤ x * b := Nat.mul_le_mul_right _ h3
    rw [Nat.add_mul, Nat.one_mul, Nat.mul_comm x b] at h5
    omega)
  refine ⟨by simp; omega, h2.cons hq, Nat.mod_lt _ (by omega), ?_⟩
  have h6 := Nat.div_add_mod (r * b + nth xs k) x
  rw [drop_nth hk, ev, h4, ev]
  generalize (r * b + nth xs k) / x = q at *
  generalize (r * b + nth xs k) % x = s at *
  grind
theorem Wording.stop {b : Nat} {xs D : List Nat} {x r : Nat} (h : Wording b xs D x 0 r) : ev b D = ev b xs / x ∧ r = ev b xs % x := by
  obtain ⟨h1, h2, h3, h4⟩ := h
  rw [List.drop_zero] at h4
  rw [h4]
  constructor
  · rw [Nat.mul_comm, Nat.mul_add_div (by omega), Nat.div_eq_of_lt h3, Nat.add_zero]
  · rw [Nat.mul_comm, Nat.mul_add_mod, Nat.mod_eq_of_lt h3]
theorem set_last (D : List Nat) (k v : Nat) : (List.replicate (k + 1) 0 ++ D).set k v = List.replicate k 0 ++ (v :: D) := by
  rw [List.set_append_left _ _ (by simp), List.replicate_succ', List.set_append_right _ _ (by simp)]
  simp

/-- What div.byWord answers. -/
def BwPost (v x : Nat) (w : World) (e : Ending) (w' : World) : Prop :=
  ∃ A c, e = .returned (.tuple #[.slice A (cn 18446744073709551616 (v / x)).length c, .int .u64 ((v % x : Nat) : Int)]) ∧ Got w w' 22 .u64 A c (cn 18446744073709551616 (v / x))
/-- The loop of div.byWord. -/
def BwRel (w : World) (xs : List Nat) (x k : Nat) (s : Value) (wr : World) : Prop :=
  ∃ (r : Nat) (D : List Nat), Wording 18446744073709551616 xs D x k r ∧ s = .int .u64 (r : Int) ∧ Blk wr w.heap.size 22 .u64 (List.replicate k 0 ++ D) ∧ Below w.heap.size w wr
theorem BwRel.next {w wr : World} {xs D : List Nat} {x k r : Nat} (lx : Low 18446744073709551616 xs) (hx : x < 18446744073709551616) (h : Wording 18446744073709551616 xs D x (k + 1) r)
    (hb : Blk wr w.heap.size 22 .u64 (List.replicate (k + 1) 0 ++ D)) (hw : Below w.heap.size w wr) {q s : Nat} (hq : q = (r * 18446744073709551616 + nth xs k) / x) (hs : s = (r * 18446744073709551616 + nth xs k) % x) :
    BwRel w xs x k (.int .u64 (s : Int)) (wr.setCell ⟨w.heap.size, k, none⟩ (.int .u64 (q : Int))) := by
  subst hq hs
  have h2 := hb.set k ((r * 18446744073709551616 + nth xs k) / x)
  rw [set_last] at h2
  exact ⟨_, _, h.step lx (by omega), rfl, h2, hw.setCell (Nat.le_refl _) _⟩
theorem BwRel.stop {w wr : World} {xs D : List Nat} {x r : Nat} (h : Wording 18446744073709551616 xs D x 0 r) (hb : Blk wr w.heap.size 22 .u64 (List.replicate 0 0 ++ D)) (hw : Below w.heap.size w wr) (hm : xs.length ≤ 9223372036854775807) :
    BwPost (ev 18446744073709551616 xs) x w (.returned (.tuple #[.slice (some ⟨w.heap.size, 0, none⟩) (sl D) D.length, .int .u64 (r : Int)])) wr := by
  obtain ⟨h1, h2⟩ := h.stop
  have hg := got_trim (b := 18446744073709551616) (by omega) hb (Nat.le_refl _) hw (by have := h.1; simp at this ⊢; omega) (by simpa using h.2.1)
  simp only [List.replicate_zero, List.nil_append] at hg
  rw [h1] at hg
  exact ⟨_, _, by rw [h2, sl_len _ (by omega) h.2.1, h1], hg⟩

/-! Contracts: div.subProduct, div.addBack. -/
theorem sub64_two (x y : Nat) (hx : x < 18446744073709551616) (hy : y < 18446744073709551616) :
    ∃ s o : Nat, (∀ w, (callFunc 53 #[.int .u64 x, .int .u64 y, .int .u64 0]).run Tryd.prog w = .ok (.value (.tuple #[.int .u64 (s : Int), .int .u64 (o : Int)])) w) ∧
      s + y + 0 = x + 18446744073709551616 * o ∧ s < 18446744073709551616 ∧ o ≤ 1 :=
  sub64_pair x y 0 hx hy (by omega)
theorem add64_mid (x c : Nat) (hx : x < 18446744073709551616) (hc : c ≤ 1) :
    ∃ s o : Nat, (∀ w, (callFunc 52 #[.int .u64 x, .int .u64 0, .int .u64 c]).run Tryd.prog w = .ok (.value (.tuple #[.int .u64 (s : Int), .int .u64 (o : Int)])) w) ∧
      s + 18446744073709551616 * o = x + 0 + c ∧ s < 18446744073709551616 ∧ o ≤ 1 :=
  add64_pair x 0 c hx (by omega) hc
/-- A product that is being taken away: k words are done. -/
def Taking (b : Nat) (zs xs us : List Nat) (x k c : Nat) : Prop :=
  us.length = k ∧ Low b us ∧ c < b ∧ ev b us + pre b xs k * x = pre b zs k + b ^ k * c
theorem Taking.start {b : Nat} (hb : 0 < b) (zs xs : List Nat) (x : Nat) : Taking b zs xs [] x 0 0 := ⟨rfl, Low.nil b, hb, by simp [ev, pre_zero]⟩
theorem Taking.step {b : Nat} {zs xs us : List Nat} {x k c s c' : Nat} (h : Taking b zs xs us x k c) (hs : s < b) (hc : c' < b) (he : s + nth xs k * x + c = nth zs k + b * c') :
    Taking b zs xs (us ++ [s]) x (k + 1) c' := by
  obtain ⟨h1, h2, h3, h4⟩ := h
  refine ⟨by simp [h1], h2.snoc hs, hc, ?_⟩
  rw [ev_snoc, pre_succ, pre_succ, h1, Nat.pow_succ]
  grind
theorem Taking.stop {b : Nat} {zs xs us : List Nat} {x k c s o : Nat} (h : Taking b zs xs us x k c) (hk : xs.length = k) (hz : zs.length = k + 1) (he : s + c = nth zs k + b * o) :
    (us ++ [s]).length = zs.length ∧ ev b (us ++ [s]) + ev b xs * x = ev b zs + b ^ zs.length * o := by
  obtain ⟨h1, h2, h3, h4⟩ := h
  refine ⟨by simp [h1, hz], ?_⟩
  have e := pre_succ b zs k
  rw [← hz, pre_len] at e
  rw [← hk, pre_len, hk] at h4
  rw [ev_snoc, e, h1, hz, Nat.pow_succ]
  grind
theorem sp_sum {p hi lo c s1 o1 s2 o2 z : Nat} (h0 : hi * 18446744073709551616 + lo = p) (f2 : s1 + 18446744073709551616 * o1 = lo + c) (g2 : s2 + s1 + 0 = z + 18446744073709551616 * o2) :
    s2 + p + c = z + 18446744073709551616 * (hi + o1 + o2) := by omega
theorem sp_low {w x c s z c' : Nat} (hw : w < 18446744073709551616) (hx : x < 18446744073709551616) (hc : c < 18446744073709551616) (hs : s < 18446744073709551616) (he : s + w * x + c = z + 18446744073709551616 * c') : c' < 18446744073709551616 := by
  have : w * x ≤ 18446744073709551615 * 18446744073709551615 := Nat.mul_le_mul (by omega) (by omega)
  omega
/-- The loop of div.subProduct: k words are done. -/
def SpRel (w : World) (g p : Nat) (zs xs : List Nat) (x k : Nat) (s : Value) (wr : World) : Prop :=
  ∃ (c : Nat) (us : List Nat), Taking 18446744073709551616 zs xs us x k c ∧ s = .int .u64 c ∧ Ar wr g p 22 (us ++ zs.drop k) ∧ Tch (Seg g p zs.length) w wr ∧ wr.heap.size = w.heap.size
theorem SpRel.next {w wr : World} {g p k c d c' x : Nat} {zs xs us : List Nat} {s : Value} (ha : Taking 18446744073709551616 zs xs us x k c) (hk : k < zs.length)
    (har : Ar wr g p 22 (us ++ zs.drop k)) (ht : Tch (Seg g p zs.length) w wr) (hz : wr.heap.size = w.heap.size)
    (hd : d < 18446744073709551616) (hc : c' < 18446744073709551616) (he : d + nth xs k * x + c = nth zs k + 18446744073709551616 * c') (hs : s = .int .u64 (c' : Int)) :
    SpRel w g p zs xs x (k + 1) s (wr.setCell ⟨g, p + k, none⟩ (.int .u64 (d : Int))) := by
  obtain ⟨h1, h2⟩ := har.store (S := Seg g p zs.length) (j := k) (n := d) (by rw [len_front ha.1 (by omega)]; exact hk) hd ⟨rfl, Nat.le_add_right _ _, Nat.add_lt_add_left hk _⟩
  rw [set_front ha.1 hk] at h2
  exact ⟨_, _, ha.step hd hc he, hs, h2, ht.trans h1, by simpa using hz⟩
/-- What subProduct and addBack leave: whether it ran over, and the words. -/
def OvPost (w : World) (g p l : Nat) (F : Nat → Nat → Prop) (e : Ending) (w' : World) : Prop :=
  ∃ (c : Nat) (us : List Nat), e = .returned (.bool (decide (c = 1))) ∧ c ≤ 1 ∧ us.length = l ∧ Hid (F (ev 18446744073709551616 us) (18446744073709551616 ^ l * c)) ∧
    Ar w' g p 22 us ∧ Tch (Seg g p l) w w' ∧ w'.heap.size = w.heap.size
theorem SpRel.last {w wr : World} {g p c d o x : Nat} {zs xs us : List Nat} (ha : Taking 18446744073709551616 zs xs us x xs.length c) (hz : zs.length = xs.length + 1)
    (har : Ar wr g p 22 (us ++ zs.drop xs.length)) (ht : Tch (Seg g p zs.length) w wr) (hs : wr.heap.size = w.heap.size)
    (hd : d < 18446744073709551616) (ho : o ≤ 1) (he : d + c + 0 = nth zs xs.length + 18446744073709551616 * o) {b : Bool} (hb : decide (o = 1) = b) :
    OvPost w g p zs.length (fun u t => u + ev 18446744073709551616 xs * x = ev 18446744073709551616 zs + t) (.returned (.bool b)) (wr.setCell ⟨g, p + xs.length, none⟩ (.int .u64 (d : Int))) := by
  obtain ⟨h1, h2⟩ := har.store (S := Seg g p zs.length) (j := xs.length) (n := d) (by rw [len_front ha.1 (by omega)]; omega) hd ⟨rfl, Nat.le_add_right _ _, Nat.add_lt_add_left (by omega) _⟩
  rw [set_front ha.1 (by omega), List.drop_of_length_le (by omega), List.append_nil] at h2
  obtain ⟨k1, k2⟩ := ha.stop rfl hz (by omega)
  exact ⟨o, _, by rw [hb], ho, k1, Lib.hid k2, h2, ht.trans h1, by simpa using hs⟩

theorem AtRel.last {w wr : World} {g p c d o : Nat} {zs xs us : List Nat} (ha : Adding 18446744073709551616 zs xs us xs.length c) (hz : zs.length = xs.length + 1)
    (har : Ar wr g p 22 (us ++ zs.drop xs.length)) (ht : Tch (Seg g p zs.length) w wr) (hs : wr.heap.size = w.heap.size)
    (hd : d < 18446744073709551616) (ho : o ≤ 1) (he : d + 18446744073709551616 * o = nth zs xs.length + 0 + c) {b : Bool} (hb : decide (o = 1) = b) :
    OvPost w g p zs.length (fun u t => u + t = ev 18446744073709551616 zs + ev 18446744073709551616 xs) (.returned (.bool b)) (wr.setCell ⟨g, p + xs.length, none⟩ (.int .u64 (d : Int))) := by
  obtain ⟨h1, h2⟩ := har.store (S := Seg g p zs.length) (j := xs.length) (n := d) (by rw [len_front ha.1 (by omega)]; omega) hd ⟨rfl, Nat.le_add_right _ _, Nat.add_lt_add_left (by omega) _⟩
  rw [set_front ha.1 (by omega), List.drop_of_length_le (by omega), List.append_nil] at h2
  obtain ⟨a1, a2, a3, a4⟩ := ha
  have e := pre_succ 18446744073709551616 zs xs.length
  rw [← hz, pre_len] at e
  refine ⟨o, us ++ [d], by rw [hb], ho, by simp [a1, hz], Lib.hid ?_, h2, ht.trans h1, by simpa using hs⟩
  rw [pre_len] at a4
  rw [ev_snoc, e, a1, hz, Nat.pow_succ]
  have e2 : 18446744073709551616 ^ xs.length * d + 18446744073709551616 ^ xs.length * 18446744073709551616 * o = 18446744073709551616 ^ xs.length * nth zs xs.length + 18446744073709551616 ^ xs.length * c := by
    rw [Nat.mul_assoc, ← Nat.mul_add, ← Nat.mul_add, he, Nat.add_zero]
  omega

end Go.Proofs.YtfdgblmegiehnaaDoor
