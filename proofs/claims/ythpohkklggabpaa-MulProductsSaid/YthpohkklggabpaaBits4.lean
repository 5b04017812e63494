/-
  For quincunxlaw01.NatBits: the reference's Bits; contracts by value.
-/
import Derived.Test.YthpohkklggabpaaBits3
namespace Go.Proofs.Ythpohkklggabpaa
open Go.RowKit

theorem bup' {a b c : World} (h : Below a.heap.size a b) (k : Below b.heap.size b c) : Below a.heap.size a c := h.trans (k.mono h.size)
theorem sl_canon (b v : Nat) (hb : 2 ≤ b) : sl (cn b v) = (cn b v).length := sl_cn b v hb

set_option maxHeartbeats 1000000 in
theorem rbits_v {A : Option Addr} {n c x : Nat} {w : World} (hx : Dv w A n c x) (hn : n ≤ 1099511627776) :
    Calls Try.prog 17 #[.slice A n c] w fun e w' => e = .returned (.int .i64 (bl x)) ∧ Below w.heap.size w w' := by
  have hlt := hx.lt
  have hbl : bl x ≤ 16 * n := bl_le.2 (by rw [Nat.pow_mul]; exact hlt)
  have hs := sl_canon 65536 x (by omega)
  rw [hx.2.1] at hs
  have HS := Lib.hid hs
  have HX := Lib.hid hx
  clear hs hx hlt
  have hc := HX.out.2.2.1
  have hc' := HX.out.2.2.2
  go_enter Try.func17, Try.ntmps17
  go_wp2_with fail
  refine (rtrim_calls _ _ _ _ _ HX.out.1 HX.out.2.1 hc hc').mono ?_
  rintro e w' ⟨rfl, rfl⟩
  rw [HS.out]
  go_wp2
  go_loopw [3, 4] (fun v i wr => ∃ (t : Nat) (D : Option Addr) (m d : Nat), t ≤ bl x ∧ i = .int .i64 t ∧ v = .slice D m d ∧ Dv wr D m d (x / 2 ^ t) ∧ m ≤ n ∧ Below w.heap.size w wr) (fun _ i _ => bl x - (intOf i).toNat)
  case atStart => exact ⟨0, A, n, c, Nat.zero_le _, rfl, rfl, by rw [Nat.pow_zero, Nat.div_one]; exact HX.out, Nat.le_refl _, Below.refl _ _⟩
  case round =>
    obtain ⟨t, D, m, d, ht, rfl, rfl, hD, hm, hw⟩ := hrel
    have HD := Lib.hid hD
    clear hD
    rcases Nat.eq_zero_or_pos m with rfl | hpos
    · have e0 : x / 2 ^ t = 0 := (cn_nil_iff 65536 _ (by omega)).1 HD.out.2.1
      have e1 : t = bl x := by
        rcases Nat.lt_or_ge t (bl x) with h | h
        · have := bl_lt.1 h; omega
        · omega
      have E1 := Lib.hid e1
      clear e0 e1
      go_wp2
      go_ret
      exact ⟨by rw [← E1.out]; rfl, hw⟩
    · have h1 : 0 < x / 2 ^ t := by
        rcases Nat.eq_zero_or_pos (x / 2 ^ t) with h | h
        · have := HD.out.2.1
          rw [h] at this
          simp [cn_zero] at this
          omega
        · exact h
      have h2 := bl_lt.2 h1
      have h3 : (t : Int) < 16 * (n : Int) + 1 := by omega
      clear h1
      go_wp2_with fail
      refine (half_calls _ _ _ _ _ HD.out.1 HD.out.2.1 (by omega) (cn_low _ _ (by omega))).mono ?_
      rintro e w2 ⟨A3, c3, ys, rfl, hg3, hyl, ly, hy⟩
      rw [ev_cn _ _ (by omega), Nat.div_div_eq_div_mul, ← Nat.pow_succ] at hy
      have HYL := Lib.hid (hyl.trans HD.out.2.1)
      have HY := Lib.hid hy
      clear hy hyl
      go_wp2_with fail
      refine (rtrim_end (OwnV.of_got hg3 (Below.refl _ _)) ly HY.out).mono ?_
      rintro e w3 ⟨⟨A4, c4, rfl, hg4⟩, rfl⟩
      have hD4 : Hid (Dv w2 A4 (cn 65536 (x / 2 ^ (t + 1))).length c4 (x / 2 ^ (t + 1))) := ⟨hg4.rd, rfl, hg4.cap.1, by have := hg4.cap.2; unfold maxLen at this; omega⟩
      have hl4 : (cn 65536 (x / 2 ^ (t + 1))).length ≤ n := by
        have h5 : x / 2 ^ (t + 1) ≤ x := Nat.div_le_self _ _
        have h6 := cn_len_mono 65536 _ _ (by omega) h5
        have h7 := HX.out.2.1
        omega
      have hw2 := bup' hw hg4.2
      clear hg3 hg4
      obtain ⟨l4, hl4e⟩ : ∃ l4, l4 = (cn 65536 (x / 2 ^ (t + 1))).length := ⟨_, rfl⟩
      rw [← hl4e] at hl4 hD4 ⊢
      clear hl4e
      go_wp2
      go_roundw
      case rel => exact ⟨t + 1, A4, l4, c4, by omega, by go_num, rfl, hD4.out, hl4, hw2⟩
      case measure => simp [intOf]; omega
end Go.Proofs.Ythpohkklggabpaa
