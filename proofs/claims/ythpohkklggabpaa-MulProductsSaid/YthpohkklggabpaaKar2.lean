/-
  Contracts: mul.fill, mul.distance.
-/
import Derived.Test.YthpohkklggabpaaKar1
import Derived.Laws.Bits64
namespace Go.Proofs.Ythpohkklggabpaa
open Go.RowKit
set_option linter.unusedVariables false

/-- clear of an area, or of nothing. -/
theorem wpList_clear_ar {P : Program} {w : World} {ops : Array Oper} {rest : List Oper} {o : Oper} {a : Act} {Q : Exit → Act → World → Prop} (hgd : o.guard = none) (d : Operand) (dT : TypeId)
    (ho : o.op = .call { callee := .builtin .clear, args := #[d], argTypes := #[dT] }) (elem : TypeId) (hu : P.underlying dT = some (.slice elem)) (hv : ∀ w, (zeroValue elem).run P w = .ok (.int .u64 0) w)
    (A : Option Addr) (n c g q : Nat) (t : TypeId) (zs : List Nat) (hd : a.eval d = .slice A n c) (hA : 0 < n → A = some ⟨g, q, none⟩) (hz : Hid (zs.length = n)) (har : Ar w g q t zs)
    (S : Addr → Prop) (hS : ∀ j, j < n → S ⟨g, q + j, none⟩)
    (h : ∀ w', Ar w' g q t (List.replicate n 0) → Tch S w w' → w'.heap.size = w.heap.size → wpList P ops Q rest (a.put o.dst (.tuple #[])) w') :
    wpList P ops Q (o :: rest) a w := by
  refine wpList_plain hgd fun K hK => ?_
  rcases Nat.eq_zero_or_pos n with rfl | hn
  · have hrun : (Builtin.clear_ #[dT] o.type #[.slice A 0 c]).run P w = .ok (.tuple #[]) w := by
      cases A <;> simp [Builtin.clear_, run_underlying hu]
    unfold Oper.wp
    simp [execOp, ho, resolve, invoke, builtin, hd, hrun, Result.andThen]
    have e : zs = [] := List.eq_nil_of_length_eq_zero hz.out
    subst e
    exact hK _ _ (h w har (Tch.refl _ _) rfl)
  · obtain rfl := hA hn
    have hrun := Lib.run_clear_slice (P := P) w dT elem o.type (.int .u64 0) hu hv rfl rfl g q n c hn (fun j hj => by rw [har.cell (j := j) (by rw [hz.out]; exact hj)]; rfl) (fun j hj => har.free _)
    unfold Oper.wp
    simp [execOp, ho, resolve, invoke, builtin, hd, hrun, Result.andThen]
    obtain ⟨h1, h2, h3⟩ := setCells_ar (S := S) n q w zs hz.out har hS
    exact hK _ _ (h _ h2 h1 h3)

theorem zero_u64 : ∀ w, (zeroValue 45).run Try.prog w = .ok (.int .u64 0) w := fun w => by kernel_rfl

/-- What mul.fill leaves. -/
def FiPost (w : World) (g p m : Nat) (xs : List Nat) (e : Ending) (w' : World) : Prop :=
  e = .returned (.tuple #[]) ∧ Ar w' g p 45 (xs ++ List.replicate (m - xs.length) 0) ∧ Tch (Seg g p m) w w' ∧ w'.heap.size = w.heap.size
theorem fill_end {w w1 w2 : World} {g p m : Nat} {zs xs : List Nat} (hz : zs.length = m) (hx : xs.length ≤ m) (h1 : Ar w1 g p 45 (xs ++ zs.drop xs.length)) (t1 : Tch (Seg g p m) w w1) (z1 : w1.heap.size = w.heap.size)
    (h2 : Ar w2 g (p + xs.length) 45 (List.replicate (m - xs.length) 0)) (t2 : Tch (Seg g (p + xs.length) (m - xs.length)) w1 w2) (z2 : w2.heap.size = w1.heap.size) :
    FiPost w g p m xs (.returned (.tuple #[])) w2 := by
  have h3 := h1.take xs.length (by simp)
  rw [List.take_left'  rfl] at h3
  have h4 := h3.tch t2 (fun j hj hs => by have := hs.2.1; simp only at this; omega)
  refine ⟨rfl, h4.join h2 rfl, t1.trans (t2.mono fun a _ ha => ?_), by omega⟩
  unfold Seg at *
  omega

set_option maxHeartbeats 400000 in
theorem fill_calls (g p cap n d : Nat) (B : Option Addr) (zs xs : List Nat) (m : Nat) (w : World) (har : Ar w g p 45 zs) (hzl : zs.length = m) (hr : Rd w .u64 B xs) (hn : xs.length = n)
    (lx : Low 18446744073709551616 xs) (hnm : n ≤ m) (hcap : m ≤ cap) (hm : cap ≤ 9223372036854775807) :
    Calls Try.prog 53 #[.slice (some ⟨g, p, none⟩) m cap, .slice B n d] w (FiPost w g p m xs) := by
  have HZ := Lib.hid hzl
  have HN := Lib.hid hn
  have hl : ((xs ++ zs.drop n).drop n).length = m - n := by simp; omega
  have HL := Lib.hid hl
  have he : ∀ w1 w2 : World, Ar w1 g p 45 (xs ++ zs.drop n) → Tch (Seg g p m) w w1 → w1.heap.size = w.heap.size → Ar w2 g (p + n) 45 (List.replicate (m - n) 0) → Tch (Seg g (p + n) (m - n)) w1 w2 → w2.heap.size = w1.heap.size →
      FiPost w g p m xs (.returned (.tuple #[])) w2 := by
    subst hn
    intro w1 w2 h1 t1 z1 h2 t2 z2
    exact fill_end hzl hnm h1 t1 z1 h2 t2 z2
  have HE := Lib.hid he
  clear hzl hn hl he
  have hS : ∀ j, j < n → Seg g p m ⟨g, p + j, none⟩ := fun j hj => ⟨rfl, Nat.le_add_right _ _, Nat.add_lt_add_left (by omega) _⟩
  have HS := Lib.hid hS
  have hS2 : ∀ j, j < m - n → Seg g (p + n) (m - n) ⟨g, p + n + j, none⟩ := fun j hj => ⟨rfl, Nat.le_add_right _ _, Nat.add_lt_add_left hj _⟩
  have HS2 := Lib.hid hS2
  clear hS hS2
  by_cases hc : n = cap
  · obtain rfl : n = m := by omega
    subst hc
    have h0 : n - n = 0 := by omega
    have H0 := Lib.hid h0
    clear h0
    go_enter Try.func53, Try.ntmps53
    go_wp2_with (refine wpList_copy_ar rfl (.tmp 5) (.tmp 6) _ _ rfl 45 Try.underlying23 (by kernel_rfl) B n n n d g p 45 zs xs rfl rfl HZ.out HN.out (Nat.le_refl _) har hr lx (Seg g p n) HS.out ?_)
    intro w1 h1 t1 z1
    have Z1 := Lib.hid z1
    clear z1
    have h2 := h1.drop n (by have := HN.out; simp; omega)
    go_wp2_with (refine wpList_clear_ar rfl (.tmp 10) _ rfl 45 Try.underlying23 zero_u64 _ 0 _ g (p + n) 45 _ rfl (fun h => by omega) (HL.out.trans H0.out) h2 (Seg g (p + n) (n - n)) (fun j hj => by omega) ?_)
    intro w2 h3 t3 z3
    have Z3 := Lib.hid z3
    clear z3
    go_wp2
    go_end0
    exact HE.out _ _ h1 t1 Z1.out (by rw [H0.out]; exact h3) (by rw [H0.out]; exact t3) Z3.out
  · have hlt : n < cap := by omega
    clear hc
    go_enter Try.func53, Try.ntmps53
    go_wp2_with (refine wpList_copy_ar rfl (.tmp 5) (.tmp 6) _ _ rfl 45 Try.underlying23 (by kernel_rfl) B m cap n d g p 45 zs xs rfl rfl HZ.out HN.out hnm har hr lx (Seg g p m) HS.out ?_)
    intro w1 h1 t1 z1
    have Z1 := Lib.hid z1
    clear z1
    have h2 := h1.drop n (by have := HN.out; have := HZ.out; simp; omega)
    go_wp2_with (refine wpList_clear_ar rfl (.tmp 10) _ rfl 45 Try.underlying23 zero_u64 _ (m - n) _ g (p + n) 45 _ rfl (fun h => rfl) HL.out h2 (Seg g (p + n) (m - n)) HS2.out ?_)
    intro w2 h3 t3 z3
    have Z3 := Lib.hid z3
    clear z3
    go_wp2
    go_end0
    exact HE.out _ _ h1 t1 Z1.out h3 t3 Z3.out

theorem xor_all (b : Nat) (hb : b < 18446744073709551616) : 18446744073709551615 ^^^ b = 18446744073709551615 - b := by
  have h1 : (BitVec.allOnes 64 ^^^ BitVec.ofNat 64 b).toNat = 18446744073709551615 ^^^ b := by
    rw [BitVec.toNat_xor, BitVec.toNat_allOnes, BitVec.toNat_ofNat, Nat.mod_eq_of_lt (by omega)]
  have h2 : (BitVec.allOnes 64 ^^^ BitVec.ofNat 64 b) = ~~~ BitVec.ofNat 64 b := by
    rw [BitVec.allOnes_xor]
  rw [← h1, h2, BitVec.toNat_not, BitVec.toNat_ofNat, Nat.mod_eq_of_lt (by omega)]
theorem max_u64 : IntKind.u64.max = ((18446744073709551615 : Nat) : Int) := by decide
theorem bits_not (z : Nat) (hz : z < 18446744073709551616) : bits .xor .u64 IntKind.u64.max (z : Int) = ((18446744073709551615 - z : Nat) : Int) := by
  rw [max_u64, bits_xor_u64_nat _ _ (by omega) hz, xor_all z hz]
theorem not_pair (z c : Nat) (hz : z < 18446744073709551616) (hc : c ≤ 1) :
    ∃ s o : Nat, (∀ w, (callFunc 43 #[.int .u64 (bits .xor .u64 IntKind.u64.max (z : Int)), .int .u64 0, .int .u64 c]).run Try.prog w = .ok (.value (.tuple #[.int .u64 (s : Int), .int .u64 (o : Int)])) w) ∧
      s + 18446744073709551616 * o = (18446744073709551615 - z) + c ∧ s < 18446744073709551616 ∧ o ≤ 1 := by
  rw [bits_not z hz]
  exact ⟨_, _, add64_run0 (18446744073709551615 - z) c hc, by omega, by omega, by omega⟩

/-- A number is made the one that lacks to the power: k words are done. -/
def Lacking (b : Nat) (zs us : List Nat) (k c : Nat) : Prop :=
  us.length = k ∧ Low b us ∧ c ≤ 1 ∧ ev b us + b ^ k * c + pre b zs k = b ^ k
theorem Lacking.start (b : Nat) (zs : List Nat) : Lacking b zs [] 0 1 := ⟨rfl, Low.nil b, by omega, by simp [ev, pre_zero]⟩
theorem Lacking.step {b : Nat} {zs us : List Nat} {k c s c' : Nat} (h : Lacking b zs us k c) (hs : s < b) (hc : c' ≤ 1) (he : s + b * c' = (b - 1 - nth zs k) + c) (hz : nth zs k < b) : Lacking b zs (us ++ [s]) (k + 1) c' := by
  obtain ⟨h1, h2, h3, h4⟩ := h
  refine ⟨by simp [h1], h2.snoc hs, hc, ?_⟩
  rw [ev_snoc, pre_succ, h1]
  have e : s + b * c' + nth zs k + 1 = b + c := by omega
  have e2 : b ^ k * (s + b * c' + nth zs k + 1) = b ^ k * (b + c) := by rw [e]
  simp only [Nat.mul_add, Nat.mul_one] at e2
  rw [Nat.pow_succ]
  have e3 : b ^ k * (b * c') = b ^ k * b * c' := (Nat.mul_assoc _ _ _).symm
  rw [e3] at e2
  omega
/-- The loop of mul.distance: k words are done. -/
def DsRel (w : World) (g p : Nat) (zs : List Nat) (k : Nat) (s : Value) (wr : World) : Prop :=
  ∃ (c : Nat) (us : List Nat), Lacking 18446744073709551616 zs us k c ∧ s = .int .u64 c ∧ Ar wr g p 45 (us ++ zs.drop k) ∧ Tch (Seg g p zs.length) w wr ∧ wr.heap.size = w.heap.size
theorem DsRel.next {w wr : World} {g p k c : Nat} {zs us : List Nat} {s : Value} (lz : Low 18446744073709551616 zs) (ha : Lacking 18446744073709551616 zs us k c) (hk : k < zs.length)
    (har : Ar wr g p 45 (us ++ zs.drop k)) (ht : Tch (Seg g p zs.length) w wr) (hz : wr.heap.size = w.heap.size) {d c' : Nat} (hd : d < 18446744073709551616) (hc : c' ≤ 1) (he : d + 18446744073709551616 * c' = (18446744073709551615 - nth zs k) + c)
    (hs : s = .int .u64 (c' : Int)) :
    DsRel w g p zs (k + 1) s (wr.setCell ⟨g, p + k, none⟩ (.int .u64 (d : Int))) := by
  obtain ⟨h1, h2⟩ := har.store (S := Seg g p zs.length) (j := k) (n := d) (by rw [len_front ha.1 (by omega)]; exact hk) hd ⟨rfl, Nat.le_add_right _ _, Nat.add_lt_add_left hk _⟩
  rw [set_front ha.1 hk] at h2
  exact ⟨_, _, ha.step hd hc he (lz.any (by omega) k), hs, h2, ht.trans h1, by simpa using hz⟩
/-- What mul.distance leaves: how far two numbers lie apart, and whether the first one is less. -/
def DsPost (w : World) (g p m x y : Nat) (e : Ending) (w' : World) : Prop :=
  ∃ us : List Nat, e = .returned (.bool (decide (x < y))) ∧ us.length = m ∧ Hid (ev 18446744073709551616 us = (x - y) + (y - x)) ∧ Ar w' g p 45 us ∧ Tch (Seg g p m) w w' ∧ w'.heap.size = w.heap.size
theorem ds_yes {b : Nat} {xs ys zs us : List Nat} {c m : Nat} (hx : xs.length = m) (hy : ys.length ≤ m) (lx : Low b xs) (ly : Low b ys) (hb : 2 ≤ b) (hz : zs.length = m) (lz : Low b zs) (h : ev b zs + ev b ys = ev b xs + b ^ m * 1)
    (hl : Lacking b zs us m c) : ev b xs < ev b ys ∧ ev b us = (ev b xs - ev b ys) + (ev b ys - ev b xs) := by
  obtain ⟨h1, h2, h3, h4⟩ := hl
  have k1 := ev_lt lz
  have k2 := ev_lt ly
  have k3 : b ^ ys.length ≤ b ^ m := Nat.pow_le_pow_right (by omega) hy
  rw [pre_ge b (by omega)] at h4
  rw [hz] at k1
  rcases Nat.eq_zero_or_pos c with rfl | hc
  · omega
  · obtain rfl : c = 1 := by omega
    omega
theorem ds_no {b : Nat} {xs ys zs : List Nat} {m : Nat} (h : ev b zs + ev b ys = ev b xs + b ^ m * 0) : ¬ ev b xs < ev b ys ∧ ev b zs = (ev b xs - ev b ys) + (ev b ys - ev b xs) := by omega

set_option maxHeartbeats 400000 in
theorem distance_calls (g p cap m c n d : Nat) (A B : Option Addr) (zs xs ys : List Nat) (w : World) (har : Ar w g p 45 zs) (hzl : zs.length = m) (hx : Rd w .u64 A xs) (hxn : xs.length = m) (hy : Rd w .u64 B ys) (hyn : ys.length = n)
    (lx : Low 18446744073709551616 xs) (ly : Low 18446744073709551616 ys) (hnm : n ≤ m) (hcap : m ≤ cap) (hm : cap ≤ 9223372036854775807) (hoff : Off (Seg g p m) B n) :
    Calls Try.prog 54 #[.slice (some ⟨g, p, none⟩) m cap, .slice A m c, .slice B n d] w (DsPost w g p m (ev 18446744073709551616 xs) (ev 18446744073709551616 ys)) := by
  have HZ := Lib.hid hzl
  have HX := Lib.hid hxn
  have HY := Lib.hid hyn
  have hS : ∀ j, j < m → Seg g p m ⟨g, p + j, none⟩ := fun j hj => ⟨rfl, Nat.le_add_right _ _, Nat.add_lt_add_left (by omega) _⟩
  have HS := Lib.hid hS
  have he : xs ++ zs.drop m = xs := by rw [List.drop_of_length_le (by omega), List.append_nil]
  have HE := Lib.hid he
  clear hzl hxn hyn hS he
  go_enter Try.func54, Try.ntmps54
  go_wp2_with (refine wpList_copy_ar rfl (.tmp 10) (.tmp 11) _ _ rfl 45 Try.underlying23 (by kernel_rfl) A m cap m c g p 45 zs xs rfl rfl HZ.out HX.out (Nat.le_refl _) har hx lx (Seg g p m) HS.out ?_)
  intro w1 h1 t1 z1
  rw [HE.out] at h1
  have Z1 := Lib.hid z1
  clear z1 HE
  go_wp2_with fail
  refine (subfrom_calls g p cap n d B xs ys m w1 h1 HX.out (hy.tch t1 (by rw [HY.out]; exact hoff)) HY.out hoff ly hnm (by omega)).mono ?_
  rintro e w2 ⟨b, us, rfl, hb, hul, hv, h2, t2, z2⟩
  have lu := h2.low
  rcases Nat.eq_zero_or_pos b with h0 | h0
  · subst h0
    have hn := ds_no (xs := xs) (m := m) (by have := hv.out; rw [HX.out] at this; exact this)
    have P : Hid (DsPost w g p m (ev 18446744073709551616 xs) (ev 18446744073709551616 ys) (.returned (.bool false)) w2) :=
      ⟨us, by rw [decide_eq_false hn.1], by rw [hul, HX.out], hn.2, h2, t1.trans (by rw [HX.out] at t2; exact t2), by rw [z2, Z1.out]⟩
    clear hn hul z2 h1 t1 t2
    go_wp2
    go_ret
    exact P.out
  · obtain rfl : b = 1 := by omega
    have hum : us.length = m := by rw [hul, HX.out]
    rw [HX.out] at t2
    rw [HX.out] at hv
    have HU := Lib.hid hum
    have Z2 := Lib.hid z2
    clear hul hum z2
    go_wp2
    go_loopw [7, 19] (fun s i wr => ∃ k : Nat, k ≤ m ∧ i = .int .i64 k ∧ DsRel w2 g p us k s wr) (fun _ i _ => m - (intOf i).toNat)
    case atStart => exact ⟨0, Nat.zero_le _, rfl, 1, [], Lacking.start _ _, rfl, by simpa using h2, Tch.refl _ _, rfl⟩
    case round =>
      obtain ⟨k, hk, rfl, cr, vs, ha, rfl, ha2, ht, hz⟩ := hrel
      by_cases hlt : k < m
      · have cs := ha2.cell (j := k) (by rw [len_front ha.1 (by rw [HU.out]; omega), HU.out]; omega)
        rw [nth_front ha.1] at cs
        have cf := ha2.free (p + k)
        have hx0 := lu.any (by omega) k
        obtain ⟨s1, o1, f1, f2, f3, f4⟩ := not_pair (nth us k) cr hx0 ha.2.2.1
        have HA := Lib.hid ha
        have HZ' := Lib.hid hz
        have F2 := Lib.hid f2
        clear ha hz f2
        go_wp2_with fail
        go_roundw
        case rel => exact ⟨k + 1, by omega, by go_num, DsRel.next lu HA.out (by rw [HU.out]; exact hlt) ha2 ht HZ'.out f3 f4 F2.out rfl⟩
        case measure => simp [intOf]; omega
      · obtain rfl : k = m := by omega
        obtain ⟨e1, e2⟩ := ds_yes (xs := xs) (ys := ys) HX.out (by rw [HY.out]; exact hnm) lx ly (by omega) HU.out lu hv.out ha
        have e3 : vs ++ us.drop k = vs := by rw [List.drop_of_length_le (by rw [HU.out]; exact Nat.le_refl _), List.append_nil]
        rw [e3] at ha2
        rw [HU.out] at ht
        have P : Hid (DsPost w g p k (ev 18446744073709551616 xs) (ev 18446744073709551616 ys) (.returned (.bool true)) wr) :=
          ⟨vs, by rw [decide_eq_true e1], ha.1, e2, ha2, (t1.trans t2).trans ht, by rw [hz, Z2.out, Z1.out]⟩
        clear e1 e2 e3 ha ha2 ht hz hlt
        go_wp2
        go_ret
        exact P.out
end Go.Proofs.Ythpohkklggabpaa
