/-
  DivB
-/
import Derived.Test.YtcdkdanfiimlkaaPk22
import Derived.Test.YtcdkdanfiimlkaaPk06

/-! Contracts: div.trim, div.byWord. -/
namespace Go.Proofs.Ytcdkdanfiimlkaa
open Go.RowKit
set_option linter.unusedVariables false

theorem bl_sl {xs : List Nat} (lx : Low 18446744073709551616 xs) : (bl (ev 18446744073709551616 xs) + 63) / 64 = sl xs := by
  rcases Nat.eq_zero_or_pos (sl xs) with h0 | hpos
  · rw [h0, sl_zero_ev h0, bl_zero]
  · obtain ⟨l, hl⟩ : ∃ l, sl xs = l + 1 := ⟨sl xs - 1, by omega⟩
    have ht := sl_top hpos
    rw [hl, Nat.add_sub_cancel] at ht
    have u1 := lx.any (by omega) l
    have b64 : bl (nth xs l) ≤ 64 := bl_le.2 (by simpa using u1)
    have b1 : 0 < bl (nth xs l) := bl_lt.2 (by simp; omega)
    rw [sl_split hl, bl_top (pre_lt lx (by omega) l) (by omega), hl]
    omega

theorem dtrim_calls (A : Option Addr) (n c : Nat) (xs : List Nat) (w : World) (hx : Rd w .u64 A xs) (hxn : xs.length = n) (hc : n ≤ c) (hc' : c ≤ 9223372036854775807) (lx : Low 18446744073709551616 xs) (bn : n ≤ 1099511627776) :
    Calls Try.prog 152 #[.slice A n c] w fun e w' => e = .returned (.slice A (sl xs) c) ∧ w = w' := by
  have sx : sl xs ≤ n := hxn ▸ sl_le xs
  have h1 := bl_sl lx
  obtain ⟨B, hB⟩ : ∃ B, B = bl (ev 18446744073709551616 xs) := ⟨_, rfl⟩
  rw [← hB] at h1
  have HB := Lib.hid hB
  have E1 := Lib.hid (show (B + 64 - 1) / 64 = sl xs by omega)
  have hB2 : B ≤ 70368744177664 := by omega
  have hB3 : (B + 64 - 1) / 64 ≤ c := by omega
  clear h1 hB
  go_enter Try.func152, Try.ntmps152
  go_wp2_with fail
  refine (bits_calls _ _ _ xs _ hx hxn hc hc' lx bn).mono ?_
  rintro e w' ⟨rfl, rfl⟩
  rw [← HB.out]
  go_wp2
  go_ret
  exact ⟨by show Ending.returned (.slice A ((B + 64 - 1) / 64) c) = _; rw [E1.out], rfl⟩

/-- A quotient by a word, from the greatest word on: k words are left. -/
def Wording (b : Nat) (xs D : List Nat) (x k r : Nat) : Prop :=
  k + D.length = xs.length ∧ Low b D ∧ r < x ∧ ev b (xs.drop k) = ev b D * x + r
theorem Wording.start {b : Nat} (xs : List Nat) {x : Nat} (hx : 0 < x) : Wording b xs [] x xs.length 0 := ⟨by simp, Low.nil b, hx, by simp [ev]⟩
theorem Wording.step {b : Nat} {xs D : List Nat} {x k r : Nat} (lx : Low b xs) (hxb : x ≤ b) (h : Wording b xs D x (k + 1) r) :
    Wording b xs ((r * b + nth xs k) / x :: D) x k ((r * b + nth xs k) % x) := by
  obtain ⟨h1, h2, h3, h4⟩ := h
  have hk : k < xs.length := by omega
  have hxk := lx k hk
  have hq : (r * b + nth xs k) / x < b := (Nat.div_lt_iff_lt_mul (by omega)).2 (by
    have h5 : (r + 1) * b ≤ x * b := Nat.mul_le_mul_right _ h3
    rw [Nat.add_mul, Nat.one_mul, Nat.mul_comm x b] at h5
    omega)
  refine ⟨by simp; omega, h2.cons hq, Nat.mod_lt _ (by omega), ?_⟩
  have h6 := Nat.div_add_mod (r * b + nth xs k) x
  rw [drop_nth hk, ev, h4, ev]
  generalize (r * b + nth xs k) / x = q at *
  generalize (r * b + nth xs k) % x = s at *
  grind
theorem Wording.stop {b : Nat} {xs D : List Nat} {x r : Nat} (h : Wording b xs D x 0 r) : ev b D = ev b xs / x ∧ r = ev b xs % x := by
  obtain ⟨h1, h2, h3, h4⟩ := h
  rw [List.drop_zero] at h4
  rw [h4]
  constructor
  · rw [Nat.mul_comm, Nat.mul_add_div (by omega), Nat.div_eq_of_lt h3, Nat.add_zero]
  · rw [Nat.mul_comm, Nat.mul_add_mod, Nat.mod_eq_of_lt h3]
theorem set_last (D : List Nat) (k v : Nat) : (List.replicate (k + 1) 0 ++ D).set k v = List.replicate k 0 ++ (v :: D) := by
  rw [List.set_append_left _ _ (by simp), List.replicate_succ', List.set_append_right _ _ (by simp)]
  simp

/-- What div.byWord answers. -/
def BwPost (v x : Nat) (w : World) (e : Ending) (w' : World) : Prop :=
  ∃ A c, e = .returned (.tuple #[.slice A (cn 18446744073709551616 (v / x)).length c, .int .u64 ((v % x : Nat) : Int)]) ∧ Got w w' 80 .u64 A c (cn 18446744073709551616 (v / x))
/-- The loop of div.byWord. -/
def BwRel (w : World) (xs : List Nat) (x k : Nat) (s : Value) (wr : World) : Prop :=
  ∃ (r : Nat) (D : List Nat), Wording 18446744073709551616 xs D x k r ∧ s = .int .u64 (r : Int) ∧ Blk wr w.heap.size 80 .u64 (List.replicate k 0 ++ D) ∧ Below w.heap.size w wr
theorem BwRel.next {w wr : World} {xs D : List Nat} {x k r : Nat} (lx : Low 18446744073709551616 xs) (hx : x < 18446744073709551616) (h : Wording 18446744073709551616 xs D x (k + 1) r)
    (hb : Blk wr w.heap.size 80 .u64 (List.replicate (k + 1) 0 ++ D)) (hw : Below w.heap.size w wr) {q s : Nat} (hq : q = (r * 18446744073709551616 + nth xs k) / x) (hs : s = (r * 18446744073709551616 + nth xs k) % x) :
    BwRel w xs x k (.int .u64 (s : Int)) (wr.setCell ⟨w.heap.size, k, none⟩ (.int .u64 (q : Int))) := by
  subst hq hs
  have h2 := hb.set k ((r * 18446744073709551616 + nth xs k) / x)
  rw [set_last] at h2
  exact ⟨_, _, h.step lx (by omega), rfl, h2, hw.setCell (Nat.le_refl _) _⟩
theorem BwRel.stop {w wr : World} {xs D : List Nat} {x r : Nat} (h : Wording 18446744073709551616 xs D x 0 r) (hb : Blk wr w.heap.size 80 .u64 (List.replicate 0 0 ++ D)) (hw : Below w.heap.size w wr) (hm : xs.length ≤ 9223372036854775807) :
    BwPost (ev 18446744073709551616 xs) x w (.returned (.tuple #[.slice (some ⟨w.heap.size, 0, none⟩) (sl D) D.length, .int .u64 (r : Int)])) wr := by
  obtain ⟨h1, h2⟩ := h.stop
  have hg := got_trim (b := 18446744073709551616) (by omega) hb (Nat.le_refl _) hw (by have := h.1; simp at this ⊢; omega) (by simpa using h.2.1)
  simp only [List.replicate_zero, List.nil_append] at hg
  rw [h1] at hg
  exact ⟨_, _, by rw [h2, sl_len _ (by omega) h.2.1, h1], hg⟩

set_option maxHeartbeats 400000 in
theorem byword_calls (A : Option Addr) (n c : Nat) (xs : List Nat) (x : Nat) (w : World) (hr : Rd w .u64 A xs) (hn : xs.length = n) (bn : n ≤ 1099511627776) (lx : Low 18446744073709551616 xs) (hx0 : 0 < x) (hx : x < 18446744073709551616) :
    Calls Try.prog 153 #[.slice A n c, .int .u64 x] w (BwPost (ev 18446744073709551616 xs) x w) := by
  subst hn
  go_enter Try.func153, Try.ntmps153
  go_wp2_with (at_make; refine wpList_make_blk _ rfl _ _ 26 rfl 80 .u64 8 Try.underlying26 info_u64 _ _ _ _ xs.length rfl rfl (by omega) (by omega) (by omega) (by omega) ?_)
  intro w1 hb1 hw1 hz1
  have HZ := Lib.hid hz1
  clear hz1
  go_wp2
  go_loopw [7, 8] (fun s i wr => ∃ k : Nat, k ≤ xs.length ∧ i = .int .i64 ((k : Int) - 1) ∧ BwRel w xs x k s wr) (fun _ i _ => (intOf i + 1).toNat)
  case atStart => exact ⟨xs.length, Nat.le_refl _, rfl, 0, [], Wording.start xs hx0, rfl, by simpa using hb1, hw1⟩
  case round =>
    obtain ⟨k, hk, rfl, r, D, hd, rfl, hb, hw⟩ := hrel
    rcases Nat.eq_zero_or_pos k with rfl | hpos
    · have hl : D.length = xs.length := by have := hd.1; omega
      have hP := BwRel.stop hd hb hw (by omega)
      have HP := Lib.hid hP
      have HD := Lib.hid hd
      have HL := Lib.hid hl
      clear hd hw hP hl
      simp only [List.replicate_zero, List.nil_append] at hb
      go_wp2_with fail
      refine (dtrim_calls _ _ _ D _ hb.rd0 HL.out (by omega) (by omega) HD.out.2.1 (by omega)).mono ?_
      rintro e w' ⟨rfl, rfl⟩
      go_wp2_with fail
      go_ret2
      have := HP.out
      rw [HL.out] at this
      exact this
    · obtain ⟨i, rfl⟩ : ∃ i, k = i + 1 := ⟨k - 1, by omega⟩
      have hi : i < xs.length := by omega
      obtain ⟨ad, rfl, _, c1⟩ := (hr.below hw).at (k := i) hi
      rw [show (((i + 1 : Nat) : Int) - 1) = (i : Int) from by omega]
      have HD := Lib.hid hd
      have hrx : r < x := hd.2.2.1
      have hxi := lx i hi
      clear hd
      go_wp2_with fail
      refine (div64_calls _ _ _ hrx hxi hx _).mono ?_
      rintro e w' ⟨rfl, hs⟩
      have hb2 := hb.below (hs.below _) hb.lt
      have hw2 := hw.trans (hs.below _)
      have cs := hb2.cell (j := i) (by have := HD.out.1; simp; omega)
      have cf := hb2.free i
      obtain ⟨q, hq⟩ : ∃ q, q = (r * 18446744073709551616 + nth xs i) / x := ⟨_, rfl⟩
      obtain ⟨s, hs'⟩ : ∃ s, s = (r * 18446744073709551616 + nth xs i) % x := ⟨_, rfl⟩
      rw [← hq, ← hs']
      have HQ := Lib.hid hq
      have HS := Lib.hid hs'
      clear hq hs' hb hw hs c1
      go_wp2_with fail
      go_roundw
      case rel => exact ⟨i, by omega, rfl, BwRel.next lx hx HD.out hb2 hw2 HQ.out HS.out⟩
      case measure => simp [intOf]

/-! Contracts: div.subProduct, div.addBack. -/
theorem sub64_two (x y : Nat) (hx : x < 18446744073709551616) (hy : y < 18446744073709551616) :
    ∃ s o : Nat, (∀ w, (callFunc 107 #[.int .u64 x, .int .u64 y, .int .u64 0]).run Try.prog w = .ok (.value (.tuple #[.int .u64 (s : Int), .int .u64 (o : Int)])) w) ∧
      s + y + 0 = x + 18446744073709551616 * o ∧ s < 18446744073709551616 ∧ o ≤ 1 :=
  sub64_pair x y 0 hx hy (by omega)
theorem add64_mid (x c : Nat) (hx : x < 18446744073709551616) (hc : c ≤ 1) :
    ∃ s o : Nat, (∀ w, (callFunc 106 #[.int .u64 x, .int .u64 0, .int .u64 c]).run Try.prog w = .ok (.value (.tuple #[.int .u64 (s : Int), .int .u64 (o : Int)])) w) ∧
      s + 18446744073709551616 * o = x + 0 + c ∧ s < 18446744073709551616 ∧ o ≤ 1 :=
  add64_pair x 0 c hx (by omega) hc
/-- A product that is being taken away: k words are done. -/
def Taking (b : Nat) (zs xs us : List Nat) (x k c : Nat) : Prop :=
  us.length = k ∧ Low b us ∧ c < b ∧ ev b us + pre b xs k * x = pre b zs k + b ^ k * c
theorem Taking.start {b : Nat} (hb : 0 < b) (zs xs : List Nat) (x : Nat) : Taking b zs xs [] x 0 0 := ⟨rfl, Low.nil b, hb, by simp [ev, pre_zero]⟩
theorem Taking.step {b : Nat} {zs xs us : List Nat} {x k c s c' : Nat} (h : Taking b zs xs us x k c) (hs : s < b) (hc : c' < b) (he : s + nth xs k * x + c = nth zs k + b * c') :
    Taking b zs xs (us ++ [s]) x (k + 1) c' := by
  obtain ⟨h1, h2, h3, h4⟩ := h
  refine ⟨by simp [h1], h2.snoc hs, hc, ?_⟩
  rw [ev_snoc, pre_succ, pre_succ, h1, Nat.pow_succ]
  grind
theorem Taking.stop {b : Nat} {zs xs us : List Nat} {x k c s o : Nat} (h : Taking b zs xs us x k c) (hk : xs.length = k) (hz : zs.length = k + 1) (he : s + c = nth zs k + b * o) :
    (us ++ [s]).length = zs.length ∧ ev b (us ++ [s]) + ev b xs * x = ev b zs + b ^ zs.length * o := by
  obtain ⟨h1, h2, h3, h4⟩ := h
  refine ⟨by simp [h1, hz], ?_⟩
  have e := pre_succ b zs k
  rw [← hz, pre_len] at e
  rw [← hk, pre_len, hk] at h4
  rw [ev_snoc, e, h1, hz, Nat.pow_succ]
  grind
theorem sp_sum {p hi lo c s1 o1 s2 o2 z : Nat} (h0 : hi * 18446744073709551616 + lo = p) (f2 : s1 + 18446744073709551616 * o1 = lo + c) (g2 : s2 + s1 + 0 = z + 18446744073709551616 * o2) :
    s2 + p + c = z + 18446744073709551616 * (hi + o1 + o2) := by omega
theorem sp_low {w x c s z c' : Nat} (hw : w < 18446744073709551616) (hx : x < 18446744073709551616) (hc : c < 18446744073709551616) (hs : s < 18446744073709551616) (he : s + w * x + c = z + 18446744073709551616 * c') : c' < 18446744073709551616 := by
  have : w * x ≤ 18446744073709551615 * 18446744073709551615 := Nat.mul_le_mul (by omega) (by omega)
  omega
/-- The loop of div.subProduct: k words are done. -/
def SpRel (w : World) (g p : Nat) (zs xs : List Nat) (x k : Nat) (s : Value) (wr : World) : Prop :=
  ∃ (c : Nat) (us : List Nat), Taking 18446744073709551616 zs xs us x k c ∧ s = .int .u64 c ∧ Ar wr g p 80 (us ++ zs.drop k) ∧ Tch (Seg g p zs.length) w wr ∧ wr.heap.size = w.heap.size
theorem SpRel.next {w wr : World} {g p k c d c' x : Nat} {zs xs us : List Nat} {s : Value} (ha : Taking 18446744073709551616 zs xs us x k c) (hk : k < zs.length)
    (har : Ar wr g p 80 (us ++ zs.drop k)) (ht : Tch (Seg g p zs.length) w wr) (hz : wr.heap.size = w.heap.size)
    (hd : d < 18446744073709551616) (hc : c' < 18446744073709551616) (he : d + nth xs k * x + c = nth zs k + 18446744073709551616 * c') (hs : s = .int .u64 (c' : Int)) :
    SpRel w g p zs xs x (k + 1) s (wr.setCell ⟨g, p + k, none⟩ (.int .u64 (d : Int))) := by
  obtain ⟨h1, h2⟩ := har.store (S := Seg g p zs.length) (j := k) (n := d) (by rw [len_front ha.1 (by omega)]; exact hk) hd ⟨rfl, Nat.le_add_right _ _, Nat.add_lt_add_left hk _⟩
  rw [set_front ha.1 hk] at h2
  exact ⟨_, _, ha.step hd hc he, hs, h2, ht.trans h1, by simpa using hz⟩
/-- What subProduct and addBack leave: whether it ran over, and the words. -/
def OvPost (w : World) (g p l : Nat) (F : Nat → Nat → Prop) (e : Ending) (w' : World) : Prop :=
  ∃ (c : Nat) (us : List Nat), e = .returned (.bool (decide (c = 1))) ∧ c ≤ 1 ∧ us.length = l ∧ Hid (F (ev 18446744073709551616 us) (18446744073709551616 ^ l * c)) ∧
    Ar w' g p 80 us ∧ Tch (Seg g p l) w w' ∧ w'.heap.size = w.heap.size
theorem SpRel.last {w wr : World} {g p c d o x : Nat} {zs xs us : List Nat} (ha : Taking 18446744073709551616 zs xs us x xs.length c) (hz : zs.length = xs.length + 1)
    (har : Ar wr g p 80 (us ++ zs.drop xs.length)) (ht : Tch (Seg g p zs.length) w wr) (hs : wr.heap.size = w.heap.size)
    (hd : d < 18446744073709551616) (ho : o ≤ 1) (he : d + c + 0 = nth zs xs.length + 18446744073709551616 * o) {b : Bool} (hb : decide (o = 1) = b) :
    OvPost w g p zs.length (fun u t => u + ev 18446744073709551616 xs * x = ev 18446744073709551616 zs + t) (.returned (.bool b)) (wr.setCell ⟨g, p + xs.length, none⟩ (.int .u64 (d : Int))) := by
  obtain ⟨h1, h2⟩ := har.store (S := Seg g p zs.length) (j := xs.length) (n := d) (by rw [len_front ha.1 (by omega)]; omega) hd ⟨rfl, Nat.le_add_right _ _, Nat.add_lt_add_left (by omega) _⟩
  rw [set_front ha.1 (by omega), List.drop_of_length_le (by omega), List.append_nil] at h2
  obtain ⟨k1, k2⟩ := ha.stop rfl hz (by omega)
  exact ⟨o, _, by rw [hb], ho, k1, Lib.hid k2, h2, ht.trans h1, by simpa using hs⟩

set_option maxHeartbeats 1000000 in
theorem subprod_calls (g p cap d : Nat) (B : Option Addr) (zs xs : List Nat) (x : Nat) (w : World) (har : Ar w g p 80 zs) (hr : Rd w .u64 B xs) (hzl : zs.length = xs.length + 1)
    (hoff : Off (Seg g p zs.length) B xs.length) (lx : Low 18446744073709551616 xs) (hx : x < 18446744073709551616) (hm : zs.length ≤ 9223372036854775807) :
    Calls Try.prog 159 #[.slice (some ⟨g, p, none⟩) zs.length cap, .slice B xs.length d, .int .u64 x] w
      (OvPost w g p zs.length (fun u t => u + ev 18446744073709551616 xs * x = ev 18446744073709551616 zs + t)) := by
  have lz := har.low
  have HZL := Lib.hid hzl
  have hlt1 : xs.length < zs.length := by omega
  clear hzl
  go_enter Try.func159, Try.ntmps159
  go_wp2
  go_loopw [7, 17] (fun s i wr => ∃ k : Nat, k ≤ xs.length ∧ i = .int .i64 k ∧ SpRel w g p zs xs x k s wr) (fun _ i _ => xs.length - (intOf i).toNat)
  case atStart => exact ⟨0, Nat.zero_le _, rfl, 0, [], Taking.start (by omega) _ _ _, rfl, by simpa using har, Tch.refl _ _, rfl⟩
  case round =>
    obtain ⟨k, hk, rfl, c, us, ha, rfl, ha2, ht, hz⟩ := hrel
    by_cases hlt : k < xs.length
    · obtain ⟨ad, rfl, _, c1⟩ := (hr.tch ht hoff).at (k := k) hlt
      have cs := ha2.cell (j := k) (by rw [len_front ha.1 (by omega)]; omega)
      rw [nth_front ha.1] at cs
      have cf := ha2.free (p + k)
      have b1 := lx.any (by omega) k
      have b2 := lz.any (by omega) k
      have b3 := ha.2.2.1
      have hkz : k < zs.length := by omega
      have HA := Lib.hid ha
      have HZ := Lib.hid hz
      clear ha hz
      go_wp2_with fail
      refine (mul64_calls _ _ b1 hx _).mono ?_
      rintro e w' ⟨hi, lo, rfl, h0, h1, h2, rfl⟩
      obtain ⟨s1, o1, f1, f2, f3, f4⟩ := add64_two lo c h2 b3
      obtain ⟨s2, o2, g1, g2, g3, g4⟩ := sub64_two (nth zs k) s1 b2 f3
      have t1 := sp_sum h0 f2 g2
      have t2 := sp_low b1 hx b3 g3 t1
      have T1 := Lib.hid t1
      clear h0 f2 g2 t1
      go_wp2_with fail
      go_roundw
      case rel => exact ⟨k + 1, by omega, by go_num, SpRel.next HA.out hkz ha2 ht HZ.out g3 t2 T1.out (by go_num)⟩
      case measure => simp [intOf]; omega
    · obtain rfl : k = xs.length := by omega
      have cs := ha2.cell (j := xs.length) (by rw [len_front ha.1 (by omega)]; omega)
      rw [nth_front ha.1] at cs
      have cf := ha2.free (p + xs.length)
      obtain ⟨s1, o1, f1, f2, f3, f4⟩ := sub64_two (nth zs xs.length) c (lz.any (by omega) _) ha.2.2.1
      clear hlt
      rcases Nat.eq_zero_or_pos o1 with h0 | h0
      · have P := Lib.hid (SpRel.last ha HZL.out ha2 ht hz f3 f4 f2 (b := false) (by simp; omega))
        have hne : (((o1 : Nat) : Int) != 0) = false := by rw [bne_eq_false_iff_eq]; omega
        clear ha ha2 ht hz f2 f3 f4 h0
        go_wp2_with fail
        go_ret
        exact P.out
      · have P := Lib.hid (SpRel.last ha HZL.out ha2 ht hz f3 f4 f2 (b := true) (by simp; omega))
        have hne : (((o1 : Nat) : Int) != 0) = true := by rw [bne_iff_ne]; omega
        clear ha ha2 ht hz f2 f3 f4 h0
        go_wp2_with fail
        go_ret
        exact P.out

theorem AtRel.last {w wr : World} {g p c d o : Nat} {zs xs us : List Nat} (ha : Adding 18446744073709551616 zs xs us xs.length c) (hz : zs.length = xs.length + 1)
    (har : Ar wr g p 80 (us ++ zs.drop xs.length)) (ht : Tch (Seg g p zs.length) w wr) (hs : wr.heap.size = w.heap.size)
    (hd : d < 18446744073709551616) (ho : o ≤ 1) (he : d + 18446744073709551616 * o = nth zs xs.length + 0 + c) {b : Bool} (hb : decide (o = 1) = b) :
    OvPost w g p zs.length (fun u t => u + t = ev 18446744073709551616 zs + ev 18446744073709551616 xs) (.returned (.bool b)) (wr.setCell ⟨g, p + xs.length, none⟩ (.int .u64 (d : Int))) := by
  obtain ⟨h1, h2⟩ := har.store (S := Seg g p zs.length) (j := xs.length) (n := d) (by rw [len_front ha.1 (by omega)]; omega) hd ⟨rfl, Nat.le_add_right _ _, Nat.add_lt_add_left (by omega) _⟩
  rw [set_front ha.1 (by omega), List.drop_of_length_le (by omega), List.append_nil] at h2
  obtain ⟨a1, a2, a3, a4⟩ := ha
  have e := pre_succ 18446744073709551616 zs xs.length
  rw [← hz, pre_len] at e
  refine ⟨o, us ++ [d], by rw [hb], ho, by simp [a1, hz], Lib.hid ?_, h2, ht.trans h1, by simpa using hs⟩
  rw [pre_len] at a4
  rw [ev_snoc, e, a1, hz, Nat.pow_succ]
  have e2 : 18446744073709551616 ^ xs.length * d + 18446744073709551616 ^ xs.length * 18446744073709551616 * o = 18446744073709551616 ^ xs.length * nth zs xs.length + 18446744073709551616 ^ xs.length * c := by
    rw [Nat.mul_assoc, ← Nat.mul_add, ← Nat.mul_add, he, Nat.add_zero]
  omega

set_option maxHeartbeats 1000000 in
theorem addback_calls (g p cap d : Nat) (B : Option Addr) (zs xs : List Nat) (w : World) (har : Ar w g p 80 zs) (hr : Rd w .u64 B xs) (hzl : zs.length = xs.length + 1)
    (hoff : Off (Seg g p zs.length) B xs.length) (lx : Low 18446744073709551616 xs) (hm : zs.length ≤ 9223372036854775807) :
    Calls Try.prog 160 #[.slice (some ⟨g, p, none⟩) zs.length cap, .slice B xs.length d] w
      (OvPost w g p zs.length (fun u t => u + t = ev 18446744073709551616 zs + ev 18446744073709551616 xs)) := by
  have lz := har.low
  have HZL := Lib.hid hzl
  have hlt1 : xs.length < zs.length := by omega
  clear hzl
  go_enter Try.func160, Try.ntmps160
  go_wp2
  go_loopw [5, 10] (fun s i wr => ∃ k : Nat, k ≤ xs.length ∧ i = .int .i64 k ∧ AtRel w g p zs xs k s wr) (fun _ i _ => xs.length - (intOf i).toNat)
  case atStart => exact ⟨0, Nat.zero_le _, rfl, 0, [], Adding.start _ _ _, rfl, by simpa using har, Tch.refl _ _, rfl⟩
  case round =>
    obtain ⟨k, hk, rfl, c, us, ha, rfl, ha2, ht, hz⟩ := hrel
    by_cases hlt : k < xs.length
    · obtain ⟨ad, rfl, _, c1⟩ := (hr.tch ht hoff).at (k := k) hlt
      have cs := ha2.cell (j := k) (by rw [len_front ha.1 (by omega)]; omega)
      rw [nth_front ha.1] at cs
      have cf := ha2.free (p + k)
      have hadd := add64_run (nth zs k) (nth xs k) c ha.2.2.1
      have hkz : k < zs.length := by omega
      have HA := Lib.hid ha
      have HZ := Lib.hid hz
      clear ha hz
      go_wp2_with fail
      go_roundw
      case rel => exact ⟨k + 1, by omega, by go_num, AtRel.next lz lx HA.out hkz ha2 ht HZ.out rfl⟩
      case measure => simp [intOf]; omega
    · obtain rfl : k = xs.length := by omega
      have cs := ha2.cell (j := xs.length) (by rw [len_front ha.1 (by omega)]; omega)
      rw [nth_front ha.1] at cs
      have cf := ha2.free (p + xs.length)
      obtain ⟨s1, o1, f1, f2, f3, f4⟩ := add64_mid (nth zs xs.length) c (lz.any (by omega) _) ha.2.2.1
      clear hlt
      rcases Nat.eq_zero_or_pos o1 with h0 | h0
      · have P := Lib.hid (AtRel.last ha HZL.out ha2 ht hz f3 f4 f2 (b := false) (by simp; omega))
        have hne : (((o1 : Nat) : Int) != 0) = false := by rw [bne_eq_false_iff_eq]; omega
        clear ha ha2 ht hz f2 f3 f4 h0
        go_wp2_with fail
        go_ret
        exact P.out
      · have P := Lib.hid (AtRel.last ha HZL.out ha2 ht hz f3 f4 f2 (b := true) (by simp; omega))
        have hne : (((o1 : Nat) : Int) != 0) = true := by rw [bne_iff_ne]; omega
        clear ha ha2 ht hz f2 f3 f4 h0
        go_wp2_with fail
        go_ret
        exact P.out
end Go.Proofs.Ytcdkdanfiimlkaa
