/-
  The reference of layer 3: bit, DivMod, Zero, Divides.
-/
import Derived.Test.YtfdgblmegiehnaaDoorRefA
/-! The reference of layer 3: bit, DivMod, Zero, Divides. -/
namespace Go.Proofs.YtfdgblmegiehnaaDoor
open Go.RowKit
set_option linter.unusedVariables false

theorem bit16 {v i s t : Nat} (hi : i = 16 * s + t) (ht : t < 16) (hs : s < (cn 65536 v).length) : v / 2 ^ i % 2 = nth (cn 65536 v) s / 2 ^ t % 2 := by
  have e1 := ev_split 65536 (cn 65536 v) s (by omega)
  rw [ev_cn _ _ (by omega), drop_nth hs, ev] at e1
  have e2 := pre_lt (cn_low 65536 v (by omega)) (by omega) s
  have e3 : (2 : Nat) ^ i = 65536 ^ s * 2 ^ t := by rw [hi, Nat.pow_add, Nat.pow_mul]
  rw [e3, ← Nat.div_div_eq_div_mul]
  have e4 : v / 65536 ^ s = nth (cn 65536 v) s + 65536 * ev 65536 ((cn 65536 v).drop (s + 1)) := by
    generalize nth (cn 65536 v) s = d at *
    generalize ev 65536 ((cn 65536 v).drop (s + 1)) = r at *
    generalize pre 65536 (cn 65536 v) s = p at *
    rw [e1, Nat.add_mul_div_left _ _ (Nat.pow_pos (by omega)), Nat.div_eq_of_lt e2, Nat.zero_add]
  rw [e4]
  generalize ev 65536 ((cn 65536 v).drop (s + 1)) = r
  have e5 : 65536 * r = 2 ^ t * (2 * (2 ^ (15 - t) * r)) := by
    have : (65536 : Nat) = 2 ^ t * 2 ^ (16 - t) := by rw [← Nat.pow_add, show t + (16 - t) = 16 from by omega]
    rw [this, show 16 - t = (15 - t) + 1 from by omega, Nat.pow_succ]
    grind
  rw [e5, Nat.add_mul_div_left _ _ (Nat.pow_pos (by omega)), Nat.add_mul_mod_self_left]

set_option maxHeartbeats 400000 in
theorem rbit_v {A : Option Addr} {n c v i s t : Nat} {w : World} (hx : Dv w A n c v) (hi : i = 16 * s + t) (ht : t < 16) (hs : s < n) (hn : n ≤ 9223372036854775807) (hi2 : i ≤ 9223372036854775807) :
    Calls Tryd.prog 63 #[.slice A n c, .int .i64 i] w fun e w' => e = .returned (.int .i64 ((v / 2 ^ i % 2 : Nat) : Int)) ∧ w = w' := by
  have hl := hx.2.1
  have e := bit16 (v := v) hi ht (by omega)
  obtain ⟨ad, rfl, _, c1⟩ := hx.1.at (k := s) (by omega)
  obtain ⟨r, hr⟩ : ∃ r, r = v / 2 ^ i % 2 := ⟨_, rfl⟩
  rw [← hr] at e
  rw [← hr]
  clear hr
  have E := Lib.hid e
  have v1 : (i : Int) / 16 = (s : Int) := by omega
  have v2 : (i : Int) % 16 = (t : Int) := by omega
  have d1 := (cn_low 65536 v (by omega)).any (by omega) s
  generalize nth (cn 65536 v) s = d at *
  clear hl e hi hx
  go_enter Tryd.func63, Tryd.ntmps63
  go_wp2
  go_loop [5, 6] (fun x i => ∃ k a : Nat, k ≤ t ∧ i = .int .i64 k ∧ x = .int .i64 a ∧ a < 65536 ∧ Hid (a = d / 2 ^ k)) (fun _ i => t - (intOf i).toNat)
  case atStart => exact ⟨0, d, Nat.zero_le _, rfl, rfl, d1, Lib.hid (by simp)⟩
  case round =>
    obtain ⟨k, a, hk, rfl, rfl, hab, ha⟩ := hrel
    by_cases hlt : k < t
    · obtain ⟨a2, ha2⟩ : ∃ q, q = a / 2 := ⟨_, rfl⟩
      have h1 : (a : Int) / 2 = (a2 : Int) := by omega
      have h2 : Hid (a2 = d / 2 ^ (k + 1)) := Lib.hid (by rw [ha2, ha.out, Nat.pow_succ, Nat.div_div_eq_div_mul])
      have ha3 : a2 < 65536 := by omega
      clear ha2
      go_wp2
      go_round
      case rel => exact ⟨k + 1, a2, by omega, by go_num, rfl, ha3, h2⟩
      case measure => simp [intOf]; omega
    · obtain rfl : k = t := by omega
      obtain ⟨a2, ha2⟩ : ∃ q, q = a % 2 := ⟨_, rfl⟩
      have h1 : (a : Int) % 2 = (a2 : Int) := by omega
      have HA := Lib.hid ha2
      have ha3 : a2 < 65536 := by omega
      clear hlt ha2
      go_wp2
      go_ret
      exact ⟨by rw [E.out, ← ha.out, ← HA.out]; rfl, rfl⟩

theorem Dv.len {w : World} {A : Option Addr} {n c v K : Nat} (h : Dv w A n c v) (hv : v < 65536 ^ K) : n ≤ K := by rw [← h.2.1]; exact cn_len_of_lt _ _ _ (by omega) hv
/-- One bit more: the quotient and the rest. -/
theorem dmb_step {X b y : Nat} (hy : 0 < y) (hb : b ≤ 1) : (2 * X + b) / y = (X / y + X / y) + (if y ≤ X % y + X % y + b then 1 else 0) ∧ (2 * X + b) % y = if y ≤ X % y + X % y + b then X % y + X % y + b - y else X % y + X % y + b := by
  have h1 := Nat.div_add_mod X y
  have h2 := Nat.mod_lt X hy
  generalize X / y = q at *
  generalize X % y = r at *
  have h3 : 2 * X + b = (r + r + b) + y * (q + q) := by rw [← h1, Nat.mul_add y q q]; omega
  split
  · rename_i h
    have h4 : 2 * X + b = (r + r + b - y) + y * (q + q + 1) := by rw [Nat.mul_add y (q + q) 1, Nat.mul_one]; omega
    rw [h4, Nat.add_mul_div_left _ _ hy, Nat.add_mul_mod_self_left, Nat.div_eq_of_lt (by omega), Nat.mod_eq_of_lt (by omega)]
    omega
  · rename_i h
    rw [h3, Nat.add_mul_div_left _ _ hy, Nat.add_mul_mod_self_left, Nat.div_eq_of_lt (by omega), Nat.mod_eq_of_lt (by omega)]
    omega
theorem half_more (v k : Nat) : v / 2 ^ k = 2 * (v / 2 ^ (k + 1)) + v / 2 ^ k % 2 := by
  rw [Nat.pow_succ, ← Nat.div_div_eq_div_mul]; omega
/-- Quotient and rest are answered. -/
def RdmPost (q r a b : Nat) (w : World) (e : Ending) (w' : World) : Prop :=
  ∃ A n c A' n' c', e = .returned (.tuple #[.slice A n c, .slice A' n' c']) ∧ Dv w' A n c q ∧ Dv w' A' n' c' r ∧ n ≤ a ∧ n' ≤ b ∧ Below w.heap.size w w'
/-- The loop of the reference's DivMod: k bits are left. -/
def RdmRel (w : World) (x y k : Nat) (s6 s7 : Value) (wr : World) : Prop :=
  ∃ A n c A' n' c', s6 = .slice A n c ∧ s7 = .slice A' n' c' ∧ Dv wr A n c (x / 2 ^ k / y) ∧ Dv wr A' n' c' (x / 2 ^ k % y) ∧ Below w.heap.size w wr
theorem dv_one {w : World} : Dv (w.alloc (.cells #[.int .i64 1] 3)) (some ⟨w.heap.size, 0, none⟩) 1 1 1 := by
  have hb : Blk (w.alloc (.cells #[.int .i64 1] 3)) w.heap.size 3 .i64 [1] := heap_alloc_new w _
  have e : cn 65536 1 = [1] := by decide
  exact ⟨by rw [e]; exact hb.rd0, by rw [e]; rfl, Nat.le_refl _, by omega⟩

set_option maxRecDepth 100000 in
set_option maxHeartbeats 2000000 in
theorem rdm_v {A B : Option Addr} {n m c d x y : Nat} {w : World} (hx : Dv w A n c x) (hy : Dv w B m d y) (hn : n ≤ 1000000) (hm : m ≤ 1000000) (h0 : 0 < y) :
    Calls Tryd.prog 45 #[.slice A n c, .slice B m d] w (RdmPost (x / y) (x % y) n m w) := by
  have lx := hx.lt
  have ly := hy.lt
  have LX := Lib.hid lx
  have LY := Lib.hid ly
  have hstart : x / 2 ^ (16 * n) = 0 := by
    rw [Nat.pow_mul]; exact Nat.div_eq_of_lt lx
  have HST := Lib.hid hstart
  clear lx ly hstart
  go_enter Tryd.func45, Tryd.ntmps45
  go_wp2_with fail
  go_loopw [6, 7, 8] (fun s6 s7 i wr => ∃ k : Nat, k ≤ 16 * n ∧ i = .int .i64 ((k : Int) - 1) ∧ RdmRel w x y k s6 s7 wr) (fun _ _ i _ => (intOf i + 1).toNat)
  case atStart => exact ⟨16 * n, Nat.le_refl _, by simp, _, _, _, _, _, _, rfl, rfl, by rw [HST.out, Nat.zero_div]; exact Dv.nil w, by rw [HST.out, Nat.zero_mod]; exact Dv.nil w, Below.refl _ _⟩
  case round =>
    obtain ⟨k, hk, rfl, A1, n1, c1, A2, n2, c2, rfl, rfl, dq, dr, hw⟩ := hrel
    rcases Nat.eq_zero_or_pos k with rfl | hpos
    · rw [Nat.pow_zero, Nat.div_one] at dq dr
      have P : Hid (RdmPost (x / y) (x % y) n m w (.returned (.tuple #[.slice A1 n1 c1, .slice A2 n2 c2])) wr) :=
        Lib.hid ⟨_, _, _, _, _, _, rfl, dq, dr, dq.len (Nat.lt_of_le_of_lt (Nat.div_le_self _ _) LX.out), dr.len (Nat.lt_trans (Nat.mod_lt _ h0) LY.out), hw⟩
      clear dq dr hw
      go_wp2_with fail
      go_ret2
      exact P.out
    · obtain ⟨i, rfl⟩ : ∃ i, k = i + 1 := ⟨k - 1, by omega⟩
      rw [show (((i + 1 : Nat) : Int) - 1) = (i : Int) from by omega]
      have hi : i < 16 * n := by omega
      have hxw := hx.below hw
      have hyw := hy.below hw
      have k1 : n1 ≤ n := dq.len (Nat.lt_of_le_of_lt (Nat.le_trans (Nat.div_le_self _ _) (Nat.div_le_self _ _)) LX.out)
      have k2 : n2 ≤ m := dr.len (Nat.lt_trans (Nat.mod_lt _ h0) LY.out)
      obtain ⟨X, hX⟩ : ∃ X, X = x / 2 ^ (i + 1) := ⟨_, rfl⟩
      rw [← hX] at dq dr
      have hb := half_more x i
      rw [← hX] at hb
      have hb1 : x / 2 ^ i % 2 ≤ 1 := by omega
      obtain ⟨st1, st2⟩ := dmb_step (X := X) h0 hb1
      rw [← hb] at st1 st2
      have ST1 := Lib.hid st1
      have ST2 := Lib.hid st2
      have hr1 := Nat.mod_lt X h0
      clear hX hb st1 st2 hk hpos
      go_wp2_with fail
      refine (radd_v dq dq (by omega) (by omega)).mono ?_
      rintro e w1 ⟨A3, n3, c3, rfl, dq2, k3, B1⟩
      replace dr := dr.below B1
      replace hxw := hxw.below B1
      replace hyw := hyw.below B1
      replace hw := hw.trans (B1.mono hw.size)
      clear B1
      go_wp2_with fail
      refine (radd_v dr dr (by omega) (by omega)).mono ?_
      rintro e w2 ⟨A4, n4, c4, rfl, dr2, k4, B1⟩
      replace dq2 := dq2.below B1
      replace hxw := hxw.below B1
      replace hyw := hyw.below B1
      replace hw := hw.trans (B1.mono hw.size)
      clear B1
      go_wp2_with fail
      refine (rbit_v hxw (s := i / 16) (t := i % 16) (by omega) (by omega) (by omega) (by omega) (by omega)).mono ?_
      rintro e w' ⟨rfl, rfl⟩
      obtain ⟨b, hb⟩ : ∃ b, b = x / 2 ^ i % 2 := ⟨_, rfl⟩
      rw [← hb] at hb1 ST1 ST2
      rw [← hb]
      clear hb
      go_upto_if 26 with fail
      go_cut [7] (fun s7 wx => ∃ A n c, s7 = .slice A n c ∧ Dv wx A n c (X % y + X % y + b) ∧ n ≤ m + 3 ∧ Below w2.heap.size w2 wx)
      case first =>
        rcases Nat.eq_zero_or_pos b with hb0 | hb0
        · have b1 : ((b : Int) == 1) = false := by rw [beq_eq_false_iff_ne]; omega
          have HB0 := Lib.hid hb0
          clear hb0
          go_wp2_with fail
          go_meet
          exact ⟨_, _, _, rfl, by rw [HB0.out, Nat.add_zero]; exact dr2, by omega, Below.refl _ _⟩
        · have b1 : ((b : Int) == 1) = true := by rw [beq_iff_eq]; omega
          have HB0 := Lib.hid (show b = 1 by omega)
          clear hb0
          have hal : Below w2.heap.size w2 (w2.alloc (.cells #[.int .i64 1] 3)) := (Below.refl _ _).alloc (Nat.le_refl _) _
          go_wp2_with fail
          refine (radd_v (dr2.below hal) dv_one (by omega) (by omega)).mono ?_
          rintro e w3 ⟨A5, n5, c5, rfl, dr3, k5, B3⟩
          have B3' := hal.trans (B3.mono hal.size)
          clear B3
          go_wp2_with fail
          go_meet
          exact ⟨_, _, _, rfl, by rw [HB0.out]; exact dr3, by omega, B3'⟩
      case rest =>
        obtain ⟨A5, n5, c5, rfl, dr3, k5, B1⟩ := hcut
        replace dq2 := dq2.below B1
        replace hxw := hxw.below B1
        replace hyw := hyw.below B1
        replace hw := hw.trans (B1.mono hw.size)
        clear B1 dr2
        by_cases hge : y ≤ X % y + X % y + b
        · have hcmp : 0 ≤ cmpN (X % y + X % y + b) y := by
            unfold cmpN; split
            · omega
            · split <;> omega
          obtain ⟨r0, hr0⟩ : ∃ r, r = cmpN (X % y + X % y + b) y := ⟨_, rfl⟩
          rw [← hr0] at hcmp
          have HR0 := Lib.hid hr0.symm
          have s1 := ST1.out
          have s2 := ST2.out
          rw [if_pos hge] at s1 s2
          have S1 := Lib.hid s1
          have S2 := Lib.hid s2
          clear s1 s2 hr0
          go_wp2_with fail
          refine (rcmp_v dr3 hyw HR0.out).mono ?_
          rintro e w4 ⟨rfl, B1⟩
          replace dq2 := dq2.below B1
          replace dr3 := dr3.below B1
          replace hxw := hxw.below B1
          replace hyw := hyw.below B1
          replace hw := hw.trans (B1.mono hw.size)
          clear B1
          go_wp2_with fail
          refine (rsub_v dr3 hyw (by omega) hge).mono ?_
          rintro e w5 ⟨A6, n6, c6, rfl, dr4, k6, B1⟩
          replace dq2 := dq2.below B1
          replace hw := hw.trans (B1.mono hw.size)
          have hal : Below w5.heap.size w5 (w5.alloc (.cells #[.int .i64 1] 3)) := (Below.refl _ _).alloc (Nat.le_refl _) _
          clear B1
          go_wp2_with fail
          refine (radd_v (dq2.below hal) dv_one (by omega) (by omega)).mono ?_
          rintro e w6 ⟨A7, n7, c7, rfl, dq3, k7, B3⟩
          have B3' := hal.trans (B3.mono hal.size)
          replace dr4 := dr4.below B3'
          replace hw := hw.trans (B3'.mono hw.size)
          clear B3 B3'
          go_wp2_with fail
          go_roundw
          case rel => exact ⟨i, by omega, rfl, _, _, _, _, _, _, rfl, rfl, by rw [S1.out]; exact dq3, by rw [S2.out]; exact dr4, hw⟩
          case measure => simp [intOf]
        · have hcmp : cmpN (X % y + X % y + b) y = -1 := cmpN_lt (by omega)
          have s1 := ST1.out
          have s2 := ST2.out
          rw [if_neg hge] at s1 s2
          have S1 := Lib.hid s1
          have S2 := Lib.hid s2
          have HR0 := Lib.hid hcmp
          clear s1 s2 hcmp
          go_wp2_with fail
          refine (rcmp_v dr3 hyw HR0.out).mono ?_
          rintro e w4 ⟨rfl, B1⟩
          replace dq2 := dq2.below B1
          replace dr3 := dr3.below B1
          replace hw := hw.trans (B1.mono hw.size)
          clear B1
          go_wp2_with fail
          go_roundw
          case rel => exact ⟨i, by omega, rfl, _, _, _, _, _, _, rfl, rfl, by rw [S1.out, Nat.add_zero]; exact dq2, by rw [S2.out]; exact dr3, hw⟩
          case measure => simp [intOf]

end Go.Proofs.YtfdgblmegiehnaaDoor
