/-
  The reference of layer 1: To, Same; quincunxlaw01.is.
-/
import Derived.Test.YthpohkklggabpaaRef4
namespace Go.Proofs.Ythpohkklggabpaa
open Go.RowKit

theorem pre_cons (b : Nat) (xs : List Nat) (k : Nat) : pre b xs (k + 1) = nth xs 0 + b * pre b (xs.drop 1) k := by
  cases xs with
  | nil => simp [pre, ev, nth]
  | cons x xs => simp [pre, ev, nth]
theorem pre_add (b : Nat) (xs : List Nat) (i k : Nat) : pre b xs (i + k) = pre b xs i + b ^ i * pre b (xs.drop i) k := by
  induction k with
  | zero => simp [pre_zero]
  | succ k ih => rw [← Nat.add_assoc, pre_succ, pre_succ, ih, nth_drop, Nat.pow_add]; grind

/-- The word of four digits from i on, its digits from s on. -/
def hor (ds : List Nat) (i s : Nat) : Nat := pre 65536 (ds.drop (i + s)) (4 - s)
theorem hor_four (ds : List Nat) (i : Nat) : hor ds i 4 = 0 := by simp [hor, pre_zero]
theorem hor_step (ds : List Nat) (i s : Nat) (hs : s < 4) : hor ds i s = nth ds (i + s) + 65536 * hor ds i (s + 1) := by
  unfold hor
  rw [show 4 - s = (4 - (s + 1)) + 1 from by omega, pre_cons, nth_drop, List.drop_drop]
  rfl
theorem hor_lt {ds : List Nat} (h : Low 65536 ds) (i s : Nat) (hs : 1 ≤ s) : hor ds i s < 281474976710656 := by
  have h1 := pre_lt (h.drop (i + s)) (by omega) (4 - s)
  have h2 : (65536 : Nat) ^ (4 - s) ≤ 65536 ^ 3 := Nat.pow_le_pow_right (by omega) (by omega)
  unfold hor
  have e : (65536 : Nat) ^ 3 = 281474976710656 := by decide
  omega
theorem hor_word {ds : List Nat} (h : Low 65536 ds) (i : Nat) : hor ds i 0 < 18446744073709551616 := by
  have h1 := pre_lt (h.drop i) (by omega) 4
  have e : (65536 : Nat) ^ 4 = 18446744073709551616 := by decide
  unfold hor
  rw [e] at h1
  exact h1

/-- The words of q fours of digits. -/
def Joining (ds W : List Nat) (q : Nat) : Prop := W.length = q ∧ Low 18446744073709551616 W ∧ ev 18446744073709551616 W = pre 65536 ds (4 * q)
theorem Joining.start (ds : List Nat) : Joining ds [] 0 := ⟨rfl, Low.nil _, by simp [ev, pre_zero]⟩
theorem Joining.step {ds W : List Nat} {q : Nat} (hd : Low 65536 ds) (h : Joining ds W q) : Joining ds (W ++ [hor ds (4 * q) 0]) (q + 1) := by
  obtain ⟨h1, h2, h3⟩ := h
  refine ⟨by simp [h1], h2.snoc (hor_word hd _), ?_⟩
  rw [ev_snoc, h1, h3, show 4 * (q + 1) = 4 * q + 4 from by omega, pre_add, pow_word]
  rfl
theorem Joining.stop {ds W : List Nat} {q : Nat} (h : Joining ds W q) (hq : ds.length ≤ 4 * q) : ev 18446744073709551616 W = ev 65536 ds := by
  rw [h.2.2, pre_ge _ hq]

/-- The length in a slot. -/
def lenOf : Value → Nat | .slice _ k _ => k | _ => 0

set_option maxHeartbeats 400000 in
theorem to_calls (A : Option Addr) (n c : Nat) (ds : List Nat) (w : World) (hr : Rd w .i64 A ds) (hn : ds.length = n) (bn : n ≤ 4398046511101) (hd : Low 65536 ds) :
    Calls Try.prog 25 #[.slice A n c] w (NatPost (ev 65536 ds) w) := by
  have HN := Lib.hid hn
  clear hn
  go_enter Try.func25, Try.ntmps25
  go_wp2
  go_loopw [3, 4] (fun v i wr => ∃ (q : Nat) (W : List Nat), 4 * q ≤ n + 3 ∧ i = .int .i64 ((4 * q : Nat) : Int) ∧ Joining ds W q ∧ OwnV w wr 45 .u64 v W) (fun _ i _ => n + 3 - (intOf i).toNat)
  case atStart => exact ⟨0, [], by omega, rfl, Joining.start _, OwnV.nil _ _ _⟩
  case round =>
    obtain ⟨q, W, hq, rfl, hJ, ho⟩ := hrel
    have hl : W.length ≤ 4398046511104 := by have := hJ.1; omega
    obtain ⟨i, hi⟩ : ∃ i, i = 4 * q := ⟨_, rfl⟩
    rw [← hi]
    by_cases hlt : i < n
    · have hst := hJ.step hd
      rw [← hi] at hst
      have hSt := Lib.hid hst
      have HI := Lib.hid hi
      have hin : i ≤ n + 3 := by omega
      clear hJ hst hi hq
      obtain ⟨wo, rfl⟩ : ∃ wo : World, wo = wr := ⟨_, rfl⟩
      go_wp2
      go_loop [5, 6] (fun x k => ∃ s : Nat, s ≤ 4 ∧ k = .int .i64 ((s : Int) - 1) ∧ x = .int .u64 (hor ds i s)) (fun _ k => (intOf k + 1).toNat)
      case atStart => exact ⟨4, by omega, rfl, by rw [hor_four]; rfl⟩
      case round =>
        obtain ⟨s, hs, rfl, rfl⟩ := hrel
        rcases Nat.eq_zero_or_pos s with rfl | hpos
        · go_wp2_with (at_builtin; refine wpList_app1 w wo rfl _ _ _ rfl 45 .u64 Try.underlying22 info_u64 _ W (by rfl) ho _ (hor ds i 0) rfl (by rfl) hl ?_)
          intro v1 w1 ho1
          clear ho
          go_wp2
          go_roundw
          case rel => exact ⟨q + 1, _, by have := HI.out; omega, by have := HI.out; go_num, hSt.out, ho1⟩
          case measure => simp [intOf]; omega
        · obtain ⟨t, rfl⟩ : ∃ t, s = t + 1 := ⟨s - 1, by omega⟩
          rw [show (((t + 1 : Nat) : Int) - 1) = (t : Int) from by omega]
          have e1 := hor_step ds i t (by omega)
          have E1 := Lib.hid e1
          have hh := hor_lt hd i (t + 1) (by omega)
          clear e1
          obtain ⟨y, hy⟩ : ∃ y, y = hor ds i (t + 1) := ⟨_, rfl⟩
          rw [← hy]
          rw [← hy] at hh
          have HY := Lib.hid hy
          clear hy
          by_cases hlt2 : i + t < n
          · obtain ⟨ad, rfl, _, hcell⟩ := (hr.below ho.2).at (k := i + t) (by have := HN.out; omega)
            have u1 := hd.any (by omega) (i + t)
            go_wp2
            go_round
            case rel => exact ⟨t, by omega, rfl, by rw [E1.out, ← HY.out]; go_num⟩
            case measure => simp [intOf]
          · have e0 : nth ds (i + t) = 0 := nth_ge (by have := HN.out; omega)
            have E0 := Lib.hid e0
            clear e0
            go_wp2
            go_round
            case rel => exact ⟨t, by omega, rfl, by rw [E1.out, ← HY.out, E0.out]; go_num⟩
            case measure => simp [intOf]
    · have e := hJ.stop (by have := HN.out; omega)
      have E := Lib.hid e
      have lW := hJ.2.1
      have hWl : W.length ≤ 4398046511104 := hl
      obtain ⟨A2, c2, rfl, hg⟩ := ho.form
      have hcap := hg.cap
      clear e hJ hq
      have hc2 : c2 ≤ 9223372036854775807 := by have := hcap.2; unfold maxLen at this; omega
      have hc1 := hcap.1
      clear hcap hi
      go_wp2
      go_loop [3] (fun v => ∃ k : Nat, k ≤ W.length ∧ Zs W k ∧ v = .slice A2 k c2) (fun v => lenOf v)
      case atStart => exact ⟨W.length, Nat.le_refl _, fun j hj => nth_ge hj, rfl⟩
      case round =>
        obtain ⟨k, hk, hz, rfl⟩ := hrel
        have fin : (k = 0 ∨ nth W (k - 1) ≠ 0) → NatPost (ev 65536 ds) w (.returned (.slice A2 k c2)) wr := fun h => by
          have es : sl W = k := sl_eq hz h
          have ew := cn_ev 18446744073709551616 (by omega) W lW
          rw [E.out, es] at ew
          have elen : (W.take k).length = k := by simp [Nat.min_eq_left hk]
          refine ⟨A2, c2, by rw [ew, elen], ?_, hg.2⟩
          rw [ew, vs_take, elen]
          refine own_take hg.1 hk ?_
          rcases hg.1.2 with ⟨h1, _⟩ | ⟨g, cap, cur, hv, _⟩
          · injection h1 with _ _ h3; exact .inr h3
          · injection hv with h1; exact .inl (by rw [h1]; simp)
        rcases Nat.eq_zero_or_pos k with rfl | hpos
        · have F := Lib.hid (fin (.inl rfl))
          clear fin
          go_wp2
          go_ret
          exact F.out
        · obtain ⟨m, rfl⟩ : ∃ m, k = m + 1 := ⟨k - 1, by omega⟩
          obtain ⟨ad, rfl, _, hcell⟩ := hg.rd.at (k := m) (by omega)
          by_cases hx : nth W m = 0
          · rw [hx] at hcell
            have hz' : Zs W m := fun j hj => by
              rcases Nat.eq_or_lt_of_le hj with rfl | h
              · exact hx
              · exact hz j h
            have H := Lib.hid hx
            clear hx fin
            go_wp2
            go_round
            case rel => exact ⟨m, by omega, hz', rfl⟩
            case measure => simp [lenOf]
          · have F := Lib.hid (fin (.inr hx))
            have hb : (((nth W m : Nat) : Int) == 0) = false := by rw [beq_eq_false_iff_ne]; omega
            clear fin hx
            go_wp2
            go_ret
            exact F.out

theorem quiet_bool {w w' : World} {b : Bool} {e : Ending} (h : e = .returned (.bool b) ∧ Sees w w') : e = .returned (.bool b) ∧ Below w.heap.size w w' := ⟨h.1, h.2.below _⟩

set_option maxHeartbeats 400000 in
theorem same_calls (A B : Option Addr) (n m c d : Nat) (xs ys : List Nat) (w : World) (hx : Rd w .u64 A xs) (hy : Rd w .u64 B ys) (hxn : xs.length = n) (hyn : ys.length = m) (bn : n ≤ 9223372036854775807) (h : xs = ys) :
    Calls Try.prog 15 #[.slice A n c, .slice B m d] w (TruePost w) := by
  subst h
  obtain rfl : n = m := by omega
  have HX := Lib.hid hxn
  clear hxn hyn
  go_enter Try.func15, Try.ntmps15
  go_wp2
  go_loopw [5] (fun i wr => ∃ k : Nat, k ≤ n ∧ i = .int .i64 k ∧ Sees w wr) (fun i _ => n - (intOf i).toNat)
  case atStart => exact ⟨0, Nat.zero_le _, rfl, Sees.refl _⟩
  case round =>
    obtain ⟨k, hk, rfl, hw⟩ := hrel
    by_cases hlt : k < n
    · obtain ⟨ad, rfl, _, c1⟩ := (hw.rd hx).at (k := k) (by have := HX.out; omega)
      obtain ⟨ae, rfl, _, c2⟩ := (hw.rd hy).at (k := k) (by have := HX.out; omega)
      go_wp2
      go_quiet (fail)
      go_wp2
      go_roundw
      case rel => exact ⟨k + 1, by omega, by go_num, hw.more _⟩
      case measure => simp [intOf]; omega
    · go_wp2
      go_ret
      exact ⟨rfl, hw.below _⟩

/-- Words in normal form and digits of one number: is answers true. -/
theorem is_calls (A B : Option Addr) (c d v : Nat) (n m : Nat) (ds : List Nat) (w : World) (hx : Rd w .u64 A (cn 18446744073709551616 v)) (hn : (cn 18446744073709551616 v).length = n) (bn : n ≤ 9223372036854775807)
    (hd : Rd w .i64 B ds) (hdn : ds.length = m) (bm : m ≤ 4398046511101) (ld : Low 65536 ds) (hv : ev 65536 ds = v) :
    Calls Try.prog 11 #[.slice A n c, .slice B m d] w (TruePost w) := by
  subst hv
  have HN := Lib.hid hn
  have HD := Lib.hid hdn
  clear hn hdn
  go_enter Try.func11, Try.ntmps11
  go_wp2_with fail
  refine (to_calls _ _ _ ds _ hd HD.out bm ld).mono ?_
  rintro e w1 ⟨A1, c1, rfl, hg⟩
  have hr := hg.rd
  have hb := hg.2
  rw [HN.out]
  have hx1 := hx.below hb
  clear hg
  go_wp2_with fail
  refine (same_calls _ _ _ _ _ _ _ _ _ hx1 hr HN.out HN.out bn rfl).mono ?_
  rintro e w2 ⟨rfl, hb2⟩
  go_wp2
  go_ret
  exact ⟨rfl, hb.trans (hb2.mono hb.size)⟩
end Go.Proofs.Ythpohkklggabpaa
