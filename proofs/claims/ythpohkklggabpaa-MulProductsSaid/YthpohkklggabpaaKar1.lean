/-
  Contracts: mul.trim, mul.addTo, mul.subFrom.
-/
import Derived.Test.YthpohkklggabpaaTch
import Derived.Test.YthpohkklggabpaaNat7
namespace Go.Proofs.Ythpohkklggabpaa
open Go.RowKit
set_option linter.unusedVariables false

set_option maxHeartbeats 400000 in
theorem mtrim_calls (A : Option Addr) (n c : Nat) (xs : List Nat) (w : World) (hr : Rd w .u64 A xs) (hn : xs.length = n) (hc : n ≤ c) (hm : c ≤ 9223372036854775807) :
    Calls Try.prog 26 #[.slice A n c] w fun e w' => e = .returned (.slice A (sl xs) c) ∧ w = w' := by
  subst hn
  go_enter Try.func26, Try.ntmps26
  go_wp2
  go_loop [3] (fun n => ∃ k : Nat, k ≤ xs.length ∧ Zs xs k ∧ n = .int .i64 k) (fun n => (intOf n).toNat)
  case atStart => exact ⟨xs.length, Nat.le_refl _, fun j hj => nth_ge hj, rfl⟩
  case round =>
    obtain ⟨k, hk, hz, rfl⟩ := hrel
    by_cases h0 : k = 0
    · subst h0
      have e : sl xs = 0 := sl_eq hz (.inl rfl)
      have E := Lib.hid e
      clear e
      go_wp2
      go_ret
      exact ⟨by rw [E.out]; rfl, rfl⟩
    · obtain ⟨m, rfl⟩ : ∃ m, k = m + 1 := ⟨k - 1, by omega⟩
      obtain ⟨ad, rfl, _, hcell⟩ := hr.at (k := m) (by omega)
      by_cases hx : nth xs m = 0
      · rw [hx] at hcell
        have hz' : Zs xs m := fun j hj => by
          rcases Nat.eq_or_lt_of_le hj with rfl | h
          · exact hx
          · exact hz j h
        have H := Lib.hid hx
        clear hx h0
        go_wp2
        go_round
        case rel => exact ⟨m, by omega, hz', by go_num⟩
        case measure => simp [intOf]
      · have e : sl xs = m + 1 := sl_eq hz (.inr hx)
        have E := Lib.hid e
        have hb : (((nth xs m : Nat) : Int) == 0) = false := by rw [beq_eq_false_iff_ne]; omega
        clear e h0 hx
        go_wp2
        go_ret
        exact ⟨by rw [E.out]; rfl, rfl⟩

/-- The loops of mul.addTo: k words are done. -/
def AtRel (w : World) (g p : Nat) (zs xs : List Nat) (k : Nat) (s : Value) (wr : World) : Prop :=
  ∃ (c : Nat) (us : List Nat), Adding 18446744073709551616 zs xs us k c ∧ s = .int .u64 c ∧ Ar wr g p 45 (us ++ zs.drop k) ∧ Tch (Seg g p zs.length) w wr ∧ wr.heap.size = w.heap.size
theorem AtRel.next {w wr : World} {g p k c : Nat} {zs xs us : List Nat} {s : Value} (lz : Low 18446744073709551616 zs) (lx : Low 18446744073709551616 xs) (ha : Adding 18446744073709551616 zs xs us k c) (hk : k < zs.length)
    (har : Ar wr g p 45 (us ++ zs.drop k)) (ht : Tch (Seg g p zs.length) w wr) (hz : wr.heap.size = w.heap.size)
    (hs : s = .int .u64 (((nth zs k + nth xs k + c) / 18446744073709551616 : Nat) : Int)) :
    AtRel w g p zs xs (k + 1) s (wr.setCell ⟨g, p + k, none⟩ (.int .u64 (((nth zs k + nth xs k + c) % 18446744073709551616 : Nat) : Int))) := by
  obtain ⟨h1, h2⟩ := har.store (S := Seg g p zs.length) (j := k) (n := (nth zs k + nth xs k + c) % 18446744073709551616) (by rw [len_front ha.1 (by omega)]; exact hk) (Nat.mod_lt _ (by omega)) ⟨rfl, Nat.le_add_right _ _, Nat.add_lt_add_left hk _⟩
  rw [set_front ha.1 hk] at h2
  exact ⟨_, _, ha.step (by omega) lz lx, hs, h2, ht.trans h1, by simpa using hz⟩
/-- Behind the last word of what is added. -/
def AtPost (w : World) (g p : Nat) (zs xs : List Nat) (e : Ending) (w' : World) : Prop :=
  ∃ us : List Nat, e = .returned (.tuple #[]) ∧ us.length = zs.length ∧ ev 18446744073709551616 us = ev 18446744073709551616 zs + ev 18446744073709551616 xs ∧ Ar w' g p 45 us ∧ Tch (Seg g p zs.length) w w' ∧ w'.heap.size = w.heap.size
theorem adding_end {b : Nat} {zs xs us : List Nat} {k : Nat} (ha : Adding b zs xs us k 0) (hx : xs.length ≤ k) (hk : k ≤ zs.length) : ev b (us ++ zs.drop k) = ev b zs + ev b xs := by
  obtain ⟨h1, h2, h3, h4⟩ := ha
  rw [ev_append, h1, ev_split b zs k hk]
  rw [pre_ge b hx] at h4
  omega
theorem adding_full {b : Nat} {zs xs us : List Nat} {c : Nat} (ha : Adding b zs xs us zs.length c) (hx : xs.length ≤ zs.length) (hs : ev b zs + ev b xs < b ^ zs.length) : c = 0 := by
  obtain ⟨h1, h2, h3, h4⟩ := ha
  rw [pre_ge b hx, pre_len] at h4
  rcases Nat.eq_zero_or_pos c with h | h
  · exact h
  · obtain rfl : c = 1 := by omega
    omega

set_option maxHeartbeats 400000 in
theorem addto_calls (g p cap n d : Nat) (B : Option Addr) (zs xs : List Nat) (m : Nat) (w : World) (har : Ar w g p 45 zs) (hzl : zs.length = m) (hr : Rd w .u64 B xs) (hn : xs.length = n)
    (hoff : Off (Seg g p m) B n) (lx : Low 18446744073709551616 xs) (hnm : n ≤ m) (hm : m ≤ 9223372036854775807) (hs : ev 18446744073709551616 zs + ev 18446744073709551616 xs < 18446744073709551616 ^ m) :
    Calls Try.prog 27 #[.slice (some ⟨g, p, none⟩) m cap, .slice B n d] w (AtPost w g p zs xs) := by
  subst hzl hn
  have lz := har.low
  have HS := Lib.hid hs
  clear hs
  go_enter Try.func27, Try.ntmps27
  go_wp2
  go_loopw [4, 10] (fun s i wr => ∃ k : Nat, k ≤ xs.length ∧ i = .int .i64 k ∧ AtRel w g p zs xs k s wr) (fun _ i _ => xs.length - (intOf i).toNat)
  case atStart => exact ⟨0, Nat.zero_le _, rfl, 0, [], Adding.start _ _ _, rfl, by simpa using har, Tch.refl _ _, rfl⟩
  case round =>
    obtain ⟨k, hk, rfl, c, us, ha, rfl, ha2, ht, hz⟩ := hrel
    by_cases hlt : k < xs.length
    · obtain ⟨ad, rfl, _, c1⟩ := (hr.tch ht hoff).at (k := k) hlt
      have cs := ha2.cell (j := k) (by rw [len_front ha.1 (by omega)]; omega)
      rw [nth_front ha.1] at cs
      have cf := ha2.free (p + k)
      have hadd := add64_run (nth zs k) (nth xs k) c ha.2.2.1
      have HA := Lib.hid ha
      have HZ := Lib.hid hz
      clear ha hz
      go_wp2_with fail
      go_roundw
      case rel => exact ⟨k + 1, by omega, by go_num, AtRel.next lz lx HA.out (by omega) ha2 ht HZ.out rfl⟩
      case measure => simp [intOf]; omega
    · obtain rfl : k = xs.length := by omega
      clear hlt
      go_wp2
      go_loopw [4, 7] (fun s i wr => ∃ k : Nat, xs.length ≤ k ∧ k ≤ zs.length ∧ i = .int .i64 k ∧ AtRel w g p zs xs k s wr) (fun _ i _ => zs.length - (intOf i).toNat)
      case atStart => exact ⟨xs.length, Nat.le_refl _, hnm, rfl, c, us, ha, rfl, ha2, ht, hz⟩
      case round =>
        clear ha ha2 ht hz
        obtain ⟨k, hk0, hk, rfl, c, us, ha, rfl, ha2, ht, hz⟩ := hrel
        rcases Nat.eq_zero_or_pos c with hc | hc
        · subst hc
          have e := adding_end ha hk0 hk
          have l := len_front ha.1 hk
          have E := Lib.hid e
          have L := Lib.hid l
          have HZ := Lib.hid hz
          clear e l ha hz
          go_wp2
          go_end0
          exact ⟨_, rfl, L.out, E.out, ha2, ht, HZ.out⟩
        · have hlt : k < zs.length := by
            rcases Nat.lt_or_ge k zs.length with h | h
            · exact h
            · obtain rfl : k = zs.length := by omega
              have := adding_full ha hk0 HS.out
              omega
          have cs := ha2.cell (j := k) (by rw [len_front ha.1 (by omega)]; omega)
          rw [nth_front ha.1] at cs
          have cf := ha2.free (p + k)
          have hadd := add64_run0 (nth zs k) c ha.2.2.1
          have h0 : nth xs k = 0 := nth_ge hk0
          have hne : (((c : Nat) : Int) == 0) = false := by rw [beq_eq_false_iff_ne]; omega
          have hne' : (((c : Nat) : Int) != 0) = true := by rw [bne_iff_ne]; omega
          have HA := Lib.hid ha
          have H0 := Lib.hid h0
          have HZ := Lib.hid hz
          clear ha h0 hz
          go_wp2_with fail
          go_roundw
          case rel =>
            have hn := AtRel.next (s := .int .u64 (((nth zs k + nth xs k + c) / 18446744073709551616 : Nat) : Int)) lz lx HA.out hlt ha2 ht HZ.out rfl
            rw [H0.out, Nat.add_zero] at hn
            exact ⟨k + 1, by omega, by omega, by go_num, hn⟩
          case measure => simp [intOf]; omega

/-- The loops of mul.subFrom: k words are done. -/
def SfRel (w : World) (g p : Nat) (zs xs : List Nat) (k : Nat) (s : Value) (wr : World) : Prop :=
  ∃ (c : Nat) (us : List Nat), Subbing 18446744073709551616 zs xs us k c ∧ s = .int .u64 c ∧ Ar wr g p 45 (us ++ zs.drop k) ∧ Tch (Seg g p zs.length) w wr ∧ wr.heap.size = w.heap.size
theorem SfRel.next {w wr : World} {g p k c d c' : Nat} {zs xs us : List Nat} {s : Value} (ha : Subbing 18446744073709551616 zs xs us k c) (hk : k < zs.length)
    (har : Ar wr g p 45 (us ++ zs.drop k)) (ht : Tch (Seg g p zs.length) w wr) (hz : wr.heap.size = w.heap.size)
    (hd : d < 18446744073709551616) (hc : c' ≤ 1) (he : d + nth xs k + c = nth zs k + 18446744073709551616 * c') (hs : s = .int .u64 (c' : Int)) :
    SfRel w g p zs xs (k + 1) s (wr.setCell ⟨g, p + k, none⟩ (.int .u64 (d : Int))) := by
  obtain ⟨h1, h2⟩ := har.store (S := Seg g p zs.length) (j := k) (n := d) (by rw [len_front ha.1 (by omega)]; exact hk) hd ⟨rfl, Nat.le_add_right _ _, Nat.add_lt_add_left hk _⟩
  rw [set_front ha.1 hk] at h2
  exact ⟨_, _, ha.step hd hc he, hs, h2, ht.trans h1, by simpa using hz⟩
/-- What mul.subFrom leaves: whether it ran below 0, and the words. -/
def SfPost (w : World) (g p : Nat) (zs xs : List Nat) (e : Ending) (w' : World) : Prop :=
  ∃ (c : Nat) (us : List Nat), e = .returned (.bool (decide (c = 1))) ∧ c ≤ 1 ∧ us.length = zs.length ∧ Hid (ev 18446744073709551616 us + ev 18446744073709551616 xs = ev 18446744073709551616 zs + 18446744073709551616 ^ zs.length * c) ∧
    Ar w' g p 45 us ∧ Tch (Seg g p zs.length) w w' ∧ w'.heap.size = w.heap.size
theorem subbing_end {b : Nat} {zs xs us : List Nat} {k : Nat} (ha : Subbing b zs xs us k 0) (hx : xs.length ≤ k) (hk : k ≤ zs.length) : ev b (us ++ zs.drop k) + ev b xs = ev b zs := by
  obtain ⟨h1, h2, h3, h4⟩ := ha
  rw [ev_append, h1, ev_split b zs k hk]
  rw [pre_ge b hx] at h4
  omega
theorem subbing_full {b : Nat} {zs xs us : List Nat} {c : Nat} (ha : Subbing b zs xs us zs.length c) (hx : xs.length ≤ zs.length) : ev b (us ++ zs.drop zs.length) + ev b xs = ev b zs + b ^ zs.length * c := by
  obtain ⟨h1, h2, h3, h4⟩ := ha
  rw [pre_ge b hx, pre_len] at h4
  simpa using h4

set_option maxHeartbeats 400000 in
theorem subfrom_calls (g p cap n d : Nat) (B : Option Addr) (zs xs : List Nat) (m : Nat) (w : World) (har : Ar w g p 45 zs) (hzl : zs.length = m) (hr : Rd w .u64 B xs) (hn : xs.length = n)
    (hoff : Off (Seg g p m) B n) (lx : Low 18446744073709551616 xs) (hnm : n ≤ m) (hm : m ≤ 9223372036854775807) :
    Calls Try.prog 55 #[.slice (some ⟨g, p, none⟩) m cap, .slice B n d] w (SfPost w g p zs xs) := by
  subst hzl hn
  have lz := har.low
  go_enter Try.func55, Try.ntmps55
  go_wp2
  go_loopw [5, 11] (fun s i wr => ∃ k : Nat, k ≤ xs.length ∧ i = .int .i64 k ∧ SfRel w g p zs xs k s wr) (fun _ i _ => xs.length - (intOf i).toNat)
  case atStart => exact ⟨0, Nat.zero_le _, rfl, 0, [], Subbing.start _ _ _, rfl, by simpa using har, Tch.refl _ _, rfl⟩
  case round =>
    obtain ⟨k, hk, rfl, c, us, ha, rfl, ha2, ht, hz⟩ := hrel
    by_cases hlt : k < xs.length
    · obtain ⟨ad, rfl, _, c1⟩ := (hr.tch ht hoff).at (k := k) hlt
      have cs := ha2.cell (j := k) (by rw [len_front ha.1 (by omega)]; omega)
      rw [nth_front ha.1] at cs
      have cf := ha2.free (p + k)
      obtain ⟨s1, o1, f1, f2, f3, f4⟩ := sub64_pair (nth zs k) (nth xs k) c (lz.any (by omega) k) (lx.any (by omega) k) ha.2.2.1
      have HA := Lib.hid ha
      have HZ := Lib.hid hz
      have F2 := Lib.hid f2
      clear ha hz f2
      go_wp2_with fail
      go_roundw
      case rel => exact ⟨k + 1, by omega, by go_num, SfRel.next HA.out (by omega) ha2 ht HZ.out f3 f4 F2.out rfl⟩
      case measure => simp [intOf]; omega
    · obtain rfl : k = xs.length := by omega
      clear hlt
      go_wp2
      go_loopw [5, 8] (fun s i wr => ∃ k : Nat, xs.length ≤ k ∧ k ≤ zs.length ∧ i = .int .i64 k ∧ SfRel w g p zs xs k s wr) (fun _ i _ => zs.length - (intOf i).toNat)
      case atStart => exact ⟨xs.length, Nat.le_refl _, hnm, rfl, c, us, ha, rfl, ha2, ht, hz⟩
      case round =>
        clear ha ha2 ht hz
        obtain ⟨k, hk0, hk, rfl, c, us, ha, rfl, ha2, ht, hz⟩ := hrel
        rcases Nat.eq_zero_or_pos c with hc | hc
        · subst hc
          have e := subbing_end ha hk0 hk
          have l := len_front ha.1 hk
          have P : Hid (SfPost w g p zs xs (.returned (.bool false)) wr) := ⟨0, _, rfl, by omega, l, by rw [e]; rfl, ha2, ht, hz⟩
          clear e l ha hz ha2 ht
          go_wp2
          go_ret
          exact P.out
        · have hc1 : c ≤ 1 := ha.2.2.1
          have hne : (((c : Nat) : Int) == 0) = false := by rw [beq_eq_false_iff_ne]; omega
          have hne' : (((c : Nat) : Int) != 0) = true := by rw [bne_iff_ne]; omega
          by_cases hlt : k < zs.length
          · have cs := ha2.cell (j := k) (by rw [len_front ha.1 (by omega)]; omega)
            rw [nth_front ha.1] at cs
            have cf := ha2.free (p + k)
            obtain ⟨s1, o1, f1, f2, f3, f4⟩ := sub64_pair0 (nth zs k) c (lz.any (by omega) k) hc1
            have h0 : nth xs k = 0 := nth_ge hk0
            rw [← h0] at f2
            have HA := Lib.hid ha
            have HZ := Lib.hid hz
            have F2 := Lib.hid f2
            clear ha h0 hz f2
            go_wp2_with fail
            go_roundw
            case rel => exact ⟨k + 1, by omega, by omega, by go_num, SfRel.next HA.out hlt ha2 ht HZ.out f3 f4 F2.out rfl⟩
            case measure => simp [intOf]; omega
          · obtain rfl : k = zs.length := by omega
            have e := subbing_full ha hk0
            have l := len_front ha.1 hk
            have hd : decide (c = 1) = true := by simp; omega
            have P : Hid (SfPost w g p zs xs (.returned (.bool true)) wr) := ⟨c, _, by rw [hd], by omega, l, e, ha2, ht, hz⟩
            clear e l ha hz ha2 ht hlt hd
            go_wp2
            go_ret
            exact P.out
end Go.Proofs.Ythpohkklggabpaa
