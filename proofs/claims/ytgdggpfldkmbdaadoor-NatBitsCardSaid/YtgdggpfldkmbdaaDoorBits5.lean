/-
  For every input quincunxlaw01.NatBits returns true and leaves what was there as it was: the walk.
-/
import Derived.Test.YtgdggpfldkmbdaaDoorBits4
import Derived.Test.YtgdggpfldkmbdaaDoorShifts
import Derived.Deep.DeepCutAuto
namespace Go.Proofs.YtgdggpfldkmbdaaDoor
open Go.RowKit

/-- The table of math/bits stands in its variable. -/
def TabIn (w : World) : Prop := 0 < w.heap.size ∧ TabAt 0 Lib.deBruijn64tab w
theorem TabIn.below {w w' : World} (h : TabIn w) (hb : Below w.heap.size w w') : TabIn w' :=
  ⟨Nat.lt_of_lt_of_le h.1 hb.size, fun j hj => (hb.cell (p := ⟨0, j, none⟩) h.1).trans (h.2 j hj)⟩
/-- The bit i of v; 0 below 0. -/
def bitv (v : Nat) (i : Int) : Nat := if i < 0 then 0 else v / 2 ^ i.toNat % 2
/-- Behind the statement that reckons the bit. -/
def BitCut (wb : World) (v : Nat) (i : Int) (s : Value) (wx : World) : Prop := s = .int .i64 (bitv v i) ∧ Below wb.heap.size wb wx

theorem zeros_v {A : Option Addr} {n c v : Nat} {w : World} (ha : Nv w A n c v) (hn : n ≤ 1099511627776) (hT : TabAt 0 Lib.deBruijn64tab w) :
    Calls Tryd.prog 7 #[.slice A n c] w (ZerosPost v w) := by
  obtain ⟨xs, h1, h2, h3, h4, h5, rfl⟩ := ha
  exact zeros_calls A n c xs w h1 h2 h5 hn hT
theorem word_yes {A : Option Addr} {n c v : Nat} {w : World} (ha : Nv w A n c v) (hv : v < 18446744073709551616) :
    Calls Tryd.prog 8 #[.slice A n c] w fun e w' => e = .returned (.tuple #[.int .u64 (v : Int), .bool true]) ∧ w = w' := by
  obtain ⟨xs, h1, h2, h3, h4, h5, rfl⟩ := ha
  refine (word_calls A n c xs w h1 h2 h3 h4 h5).mono ?_
  rintro e w' ⟨⟨_, he⟩ | ⟨h, _⟩, rfl⟩
  · exact ⟨he, rfl⟩
  · omega
theorem word_no {A : Option Addr} {n c v : Nat} {w : World} (ha : Nv w A n c v) (hv : 18446744073709551616 ≤ v) :
    Calls Tryd.prog 8 #[.slice A n c] w fun e w' => e = .returned (.tuple #[.int .u64 0, .bool false]) ∧ w = w' := by
  obtain ⟨xs, h1, h2, h3, h4, h5, rfl⟩ := ha
  refine (word_calls A n c xs w h1 h2 h3 h4 h5).mono ?_
  rintro e w' ⟨⟨h, _⟩ | ⟨_, he⟩, rfl⟩
  · omega
  · exact ⟨he, rfl⟩
theorem bits_v {A : Option Addr} {n c v : Nat} {w : World} (ha : Nv w A n c v) (hn : n ≤ 1099511627776) :
    Calls Tryd.prog 10 #[.slice A n c] w fun e w' => e = .returned (.int .i64 (bl v)) ∧ w = w' := by
  obtain ⟨xs, h1, h2, h3, h4, h5, rfl⟩ := ha
  exact bits_calls A n c xs w h1 h2 h3 h4 h5 hn
theorem bit_v {A : Option Addr} {n c v : Nat} {i : Int} {w : World} (ha : Nv w A n c v) (hi : i ≤ 9223372036854775807) :
    Calls Tryd.prog 11 #[.slice A n c, .int .i64 i] w fun e w' => e = .returned (.int .i64 (bitv v i)) ∧ w = w' := by
  unfold bitv
  by_cases h : i < 0
  · rw [if_pos h]
    exact bit_neg A n c i w h
  · rw [if_neg h]
    obtain ⟨xs, h1, h2, h3, h4, h5, rfl⟩ := ha
    obtain ⟨k, rfl⟩ := Int.eq_ofNat_of_zero_le (by omega : 0 ≤ i)
    rw [Int.toNat_natCast]
    exact bit_calls A n c k (k / 64) (k % 64) xs w h1 h2 h5 (by omega) (by omega) (by omega)
theorem bit_is {A : Option Addr} {n c v : Nat} {i : Int} {w : World} (ha : Nv w A n c v) (hi : i ≤ 9223372036854775807) (h : bitv v i = 0) :
    Calls Tryd.prog 11 #[.slice A n c, .int .i64 i] w fun e w' => e = .returned (.int .i64 0) ∧ w = w' :=
  (bit_v ha hi).mono fun _ _ ⟨he, hw⟩ => ⟨by rw [he, h]; rfl, hw⟩
theorem bit_high {v n : Nat} {i : Int} (hv : v < 18446744073709551616 ^ n) (hn : n ≤ 20) (hi : 1280 ≤ i) : bitv v i = 0 := by
  unfold bitv
  rw [if_neg (by omega)]
  have e : (18446744073709551616 : Nat) ^ n = 2 ^ (64 * n) := by rw [Nat.pow_mul]
  rw [e] at hv
  rw [Nat.div_eq_of_lt (Nat.lt_of_lt_of_le hv (Nat.pow_le_pow_right (by omega) (by omega)))]
theorem bl_words {v n : Nat} (hv : v < 18446744073709551616 ^ n) (hn : n ≤ 20) : bl v ≤ 1280 := by
  have := (bl_le (v := v) (k := 64 * n)).2 (by rw [Nat.pow_mul]; exact hv)
  omega
theorem of_cv (x : Nat) (hx : x < 18446744073709551616) (w : World) : Calls Tryd.prog 13 #[.int .u64 x] w (CvPost x 1 w) :=
  (of_calls x hx w).mono fun _ _ h => NatPost.cv (v := x) (k := 1) h (by simpa using hx)
/-- The lowest digit. -/
theorem Dv.low {A : Option Addr} {n c u : Nat} {w : World} (h : Dv w A n c u) (hn : 0 < n) : ∃ (y : Nat), ∃ ad, A = some ad ∧ w.cell? ad = some (.int .i64 (y : Int)) ∧ y < 65536 ∧ y % 2 = u % 2 := by
  have hlen := h.2.1
  obtain ⟨ad, ha, _, hc⟩ := h.1.at (k := 0) (by omega)
  have hu : 0 < u := by
    rcases Nat.eq_zero_or_pos u with h0 | h0
    · subst h0; simp [cn_zero] at hlen; omega
    · exact h0
  refine ⟨nth (cn 65536 u) 0, ad, ha, by simpa [Addr.add] using hc, (cn_low 65536 u (by omega)).any (by omega) 0, ?_⟩
  rw [cn_pos 65536 u (by omega) hu, nth_cons_zero]
  omega
theorem Dv.pos {A : Option Addr} {n c u : Nat} {w : World} (h : Dv w A n c u) (hu : 0 < u) : 0 < n := by
  rcases Nat.eq_zero_or_pos n with h0 | h0
  · have := (cn_nil_iff 65536 u (by omega)).1 (h.2.1.trans h0)
    omega
  · exact h0

set_option maxRecDepth 100000 in
set_option maxHeartbeats 2000000 in
theorem nb_zero_neg (A : Option Addr) (n c v : Nat) (i : Int) (w : World) (ha : Nv w A n c v) (h1 : n ≤ 20) (hT : TabIn w) (hi : i < 0) (hv : v = 0) :
    Calls Tryd.prog 3 #[.slice A n c, .int .i64 i] w (TruePost w) := by
  have hW := Below.refl w.heap.size w
  have hvlt := ha.lt
  have HV := Lib.hid hvlt
  have hb1280 : bl v ≤ 1280 := bl_words hvlt h1
  have HV0 := Lib.hid hv
  have hs : v < 18446744073709551616 := by omega
  have hbl : bl v ≤ 64 := by rw [hv]; decide
  have b0 : (((bl v : Nat) : Int) == 0) = true := by rw [hv]; rfl
  clear hv hvlt
  go_enter Tryd.func3, Tryd.ntmps3
  go_wp2_with fail
  refine (awake_calls _).mono ?_
  rintro e w1 ⟨rfl, B1⟩
  replace ha := ha.below B1
  replace hT := hT.below B1
  replace hW := hW.trans (B1.mono hW.size)
  go_wp2_with fail
  refine (from_v ha (by omega)).mono ?_
  rintro e w2 ⟨A2, n2, c2, rfl, dx, k2, B2⟩
  replace ha := ha.below B2
  replace hT := hT.below B2
  replace hW := hW.trans (B2.mono hW.size)
  go_wp2_with fail
  refine (rbits_v dx (by omega)).mono ?_
  rintro e w3 ⟨rfl, B3⟩
  replace ha := ha.below B3
  replace hT := hT.below B3
  replace dx := dx.below B3
  replace hW := hW.trans (B3.mono hW.size)
  go_wp2_with fail
  refine (zeros_v ha (by omega) hT.2).mono ?_
  rintro e w4 ⟨z, rfl, Z0, Z1, rfl⟩
  obtain rfl : z = 0 := Z0 HV0.out
  clear Z0 Z1
  go_wp2_with fail
  refine (word_yes ha hs).mono ?_
  rintro e w5 ⟨rfl, rfl⟩
  have hb0 : bitv v i = 0 := by unfold bitv; rw [if_pos hi]
  have HB0 := Lib.hid hb0
  clear hb0
  go_wp2_with fail
  refine (bits_v ha (by omega)).mono ?_
  rintro e w21 ⟨rfl, rfl⟩
  go_wp2_with fail
  refine (bit_is ha (by omega) HB0.out).mono ?_
  rintro e w22 ⟨rfl, rfl⟩
  go_wp2_with fail
  refine (of_cv v hs _).mono ?_
  rintro e w23 ⟨A23, n23, c23, rfl, o1, k23, B23⟩
  replace ha := ha.below B23
  replace hT := hT.below B23
  replace dx := dx.below B23
  replace hW := hW.trans (B23.mono hW.size)
  go_wp2_with fail
  refine (is_v o1 dx (by omega) rfl).mono ?_
  rintro e w24 ⟨rfl, B24⟩
  replace ha := ha.below B24
  replace hT := hT.below B24
  replace dx := dx.below B24
  replace o1 := o1.below B24
  replace hW := hW.trans (B24.mono hW.size)
  go_wp2
  go_ret
  exact ⟨rfl, hW⟩

set_option maxRecDepth 100000 in
set_option maxHeartbeats 2000000 in
theorem nb_zero_far (A : Option Addr) (n c v : Nat) (i : Int) (w : World) (ha : Nv w A n c v) (h1 : n ≤ 20) (hT : TabIn w) (hi : 1280 ≤ i) (hi2 : i ≤ 9223372036854775807) (hv : v = 0) :
    Calls Tryd.prog 3 #[.slice A n c, .int .i64 i] w (TruePost w) := by
  have hW := Below.refl w.heap.size w
  have hvlt := ha.lt
  have HV := Lib.hid hvlt
  have hb1280 : bl v ≤ 1280 := bl_words hvlt h1
  have HV0 := Lib.hid hv
  have hs : v < 18446744073709551616 := by omega
  have hbl : bl v ≤ 64 := by rw [hv]; decide
  have b0 : (((bl v : Nat) : Int) == 0) = true := by rw [hv]; rfl
  clear hv hvlt
  go_enter Tryd.func3, Tryd.ntmps3
  go_wp2_with fail
  refine (awake_calls _).mono ?_
  rintro e w1 ⟨rfl, B1⟩
  replace ha := ha.below B1
  replace hT := hT.below B1
  replace hW := hW.trans (B1.mono hW.size)
  go_wp2_with fail
  refine (from_v ha (by omega)).mono ?_
  rintro e w2 ⟨A2, n2, c2, rfl, dx, k2, B2⟩
  replace ha := ha.below B2
  replace hT := hT.below B2
  replace hW := hW.trans (B2.mono hW.size)
  go_wp2_with fail
  refine (rbits_v dx (by omega)).mono ?_
  rintro e w3 ⟨rfl, B3⟩
  replace ha := ha.below B3
  replace hT := hT.below B3
  replace dx := dx.below B3
  replace hW := hW.trans (B3.mono hW.size)
  go_wp2_with fail
  refine (zeros_v ha (by omega) hT.2).mono ?_
  rintro e w4 ⟨z, rfl, Z0, Z1, rfl⟩
  obtain rfl : z = 0 := Z0 HV0.out
  clear Z0 Z1
  go_wp2_with fail
  refine (word_yes ha hs).mono ?_
  rintro e w5 ⟨rfl, rfl⟩
  have hb0 : bitv v i = 0 := bit_high HV.out h1 hi
  have HB0 := Lib.hid hb0
  clear hb0
  go_wp2_with fail
  refine (bits_v ha (by omega)).mono ?_
  rintro e w21 ⟨rfl, rfl⟩
  go_wp2_with fail
  refine (bit_is ha (by omega) HB0.out).mono ?_
  rintro e w22 ⟨rfl, rfl⟩
  go_wp2_with fail
  refine (of_cv v hs _).mono ?_
  rintro e w23 ⟨A23, n23, c23, rfl, o1, k23, B23⟩
  replace ha := ha.below B23
  replace hT := hT.below B23
  replace dx := dx.below B23
  replace hW := hW.trans (B23.mono hW.size)
  go_wp2_with fail
  refine (is_v o1 dx (by omega) rfl).mono ?_
  rintro e w24 ⟨rfl, B24⟩
  replace ha := ha.below B24
  replace hT := hT.below B24
  replace dx := dx.below B24
  replace o1 := o1.below B24
  replace hW := hW.trans (B24.mono hW.size)
  go_wp2
  go_ret
  exact ⟨rfl, hW⟩

set_option maxRecDepth 100000 in
set_option maxHeartbeats 2000000 in
theorem nb_zero_mid (A : Option Addr) (n c v : Nat) (k : Nat) (w : World) (ha : Nv w A n c v) (h1 : n ≤ 20) (hT : TabIn w) (hi : k < 1280) (hv : v = 0) :
    Calls Tryd.prog 3 #[.slice A n c, .int .i64 (k : Int)] w (TruePost w) := by
  have hW := Below.refl w.heap.size w
  have hvlt := ha.lt
  have HV := Lib.hid hvlt
  have hb1280 : bl v ≤ 1280 := bl_words hvlt h1
  have HV0 := Lib.hid hv
  have hs : v < 18446744073709551616 := by omega
  have hbl : bl v ≤ 64 := by rw [hv]; decide
  have b0 : (((bl v : Nat) : Int) == 0) = true := by rw [hv]; rfl
  clear hv hvlt
  go_enter Tryd.func3, Tryd.ntmps3
  go_wp2_with fail
  refine (awake_calls _).mono ?_
  rintro e w1 ⟨rfl, B1⟩
  replace ha := ha.below B1
  replace hT := hT.below B1
  replace hW := hW.trans (B1.mono hW.size)
  go_wp2_with fail
  refine (from_v ha (by omega)).mono ?_
  rintro e w2 ⟨A2, n2, c2, rfl, dx, k2, B2⟩
  replace ha := ha.below B2
  replace hT := hT.below B2
  replace hW := hW.trans (B2.mono hW.size)
  go_wp2_with fail
  refine (rbits_v dx (by omega)).mono ?_
  rintro e w3 ⟨rfl, B3⟩
  replace ha := ha.below B3
  replace hT := hT.below B3
  replace dx := dx.below B3
  replace hW := hW.trans (B3.mono hW.size)
  go_wp2_with fail
  refine (zeros_v ha (by omega) hT.2).mono ?_
  rintro e w4 ⟨z, rfl, Z0, Z1, rfl⟩
  obtain rfl : z = 0 := Z0 HV0.out
  clear Z0 Z1
  go_wp2_with fail
  refine (word_yes ha hs).mono ?_
  rintro e w5 ⟨rfl, rfl⟩
  go_upto_if 37 with fail
  go_cut [10] (BitCut w3 v (k : Int))
  case first =>
    go_wp2_with fail
    refine (rhalf_v dx (by omega) (by omega)).mono ?_
    rintro e w8 ⟨A8, n8, c8, rfl, h8, k8, B8⟩
    have hbit : bitv v (k : Int) = v / 2 ^ k % 2 := by unfold bitv; rw [if_neg (by omega), Int.toNat_natCast]
    have HBIT := Lib.hid hbit
    clear hbit
    rcases Nat.eq_zero_or_pos n8 with rfl | hpos
    · have e8 : v / 2 ^ k = 0 := (cn_nil_iff 65536 _ (by omega)).1 h8.2.1
      have E8 := Lib.hid e8
      clear e8
      go_wp2
      go_meet
      exact ⟨by rw [HBIT.out, E8.out]; rfl, B8⟩
    · obtain ⟨y, ad, rfl, cy, hy1, hy2⟩ := h8.low hpos
      have HY := Lib.hid hy2
      clear hy2
      go_wp2
      go_meet
      exact ⟨by rw [HBIT.out, ← HY.out]; go_num, B8⟩
  case rest =>
    obtain ⟨rfl, B20⟩ := hcut
    replace ha := ha.below B20
    replace hT := hT.below B20
    replace dx := dx.below B20
    replace hW := hW.trans (B20.mono hW.size)
    go_wp2_with fail
    refine (bits_v ha (by omega)).mono ?_
    rintro e w21 ⟨rfl, rfl⟩
    go_wp2_with fail
    refine (bit_v ha (by omega)).mono ?_
    rintro e w22 ⟨rfl, rfl⟩
    go_wp2_with fail
    refine (of_cv v hs _).mono ?_
    rintro e w23 ⟨A23, n23, c23, rfl, o1, k23, B23⟩
    replace ha := ha.below B23
    replace hT := hT.below B23
    replace dx := dx.below B23
    replace hW := hW.trans (B23.mono hW.size)
    go_wp2_with fail
    refine (is_v o1 dx (by omega) rfl).mono ?_
    rintro e w24 ⟨rfl, B24⟩
    replace ha := ha.below B24
    replace hT := hT.below B24
    replace dx := dx.below B24
    replace o1 := o1.below B24
    replace hW := hW.trans (B24.mono hW.size)
    go_wp2
    go_ret
    exact ⟨rfl, hW⟩

set_option maxRecDepth 100000 in
set_option maxHeartbeats 2000000 in
theorem nb_small_neg (A : Option Addr) (n c v : Nat) (i : Int) (w : World) (ha : Nv w A n c v) (h1 : n ≤ 20) (hT : TabIn w) (hi : i < 0) (hv : v ≠ 0) (hs : v < 18446744073709551616) :
    Calls Tryd.prog 3 #[.slice A n c, .int .i64 i] w (TruePost w) := by
  have hW := Below.refl w.heap.size w
  have hvlt := ha.lt
  have HV := Lib.hid hvlt
  have hb1280 : bl v ≤ 1280 := bl_words hvlt h1
  have HV0 := Lib.hid hv
  have hbl : bl v ≤ 64 := bl_le.2 (by simpa using hs)
  have hbp : 0 < bl v := Nat.pos_of_ne_zero fun h => hv (by have := bl_le.1 (Nat.le_of_eq h); simpa using this)
  have b0 : (((bl v : Nat) : Int) == 0) = false := by rw [beq_eq_false_iff_ne]; omega
  clear hv hvlt
  go_enter Tryd.func3, Tryd.ntmps3
  go_wp2_with fail
  refine (awake_calls _).mono ?_
  rintro e w1 ⟨rfl, B1⟩
  replace ha := ha.below B1
  replace hT := hT.below B1
  replace hW := hW.trans (B1.mono hW.size)
  go_wp2_with fail
  refine (from_v ha (by omega)).mono ?_
  rintro e w2 ⟨A2, n2, c2, rfl, dx, k2, B2⟩
  replace ha := ha.below B2
  replace hT := hT.below B2
  replace hW := hW.trans (B2.mono hW.size)
  go_wp2_with fail
  refine (rbits_v dx (by omega)).mono ?_
  rintro e w3 ⟨rfl, B3⟩
  replace ha := ha.below B3
  replace hT := hT.below B3
  replace dx := dx.below B3
  replace hW := hW.trans (B3.mono hW.size)
  go_wp2_with fail
  refine (zeros_v ha (by omega) hT.2).mono ?_
  rintro e w4 ⟨z, rfl, Z0, Z1, rfl⟩
  obtain ⟨m, hm⟩ := Z1 HV0.out
  have hzd : v / 2 ^ z = 2 * m + 1 := by rw [hm, Nat.mul_div_cancel_left _ (Nat.pow_pos (by omega))]
  have hzl : z < bl v := bl_lt.2 (by rw [hzd]; omega)
  have hzb : (v / 2 ^ z) * 2 ^ z = v := by rw [hzd, Nat.mul_comm]; exact hm.symm
  have HZD := Lib.hid hzd
  have HZB := Lib.hid hzb
  clear Z0 Z1 hm hzd hzb
  go_wp2_with fail
  refine (word_yes ha hs).mono ?_
  rintro e w5 ⟨rfl, rfl⟩
  have hb0 : bitv v i = 0 := by unfold bitv; rw [if_pos hi]
  have HB0 := Lib.hid hb0
  clear hb0
  go_wp2_with fail
  refine (bits_v ha (by omega)).mono ?_
  rintro e w21 ⟨rfl, rfl⟩
  go_wp2_with fail
  refine (bit_is ha (by omega) HB0.out).mono ?_
  rintro e w22 ⟨rfl, rfl⟩
  go_wp2_with fail
  refine (of_cv v hs _).mono ?_
  rintro e w23 ⟨A23, n23, c23, rfl, o1, k23, B23⟩
  replace ha := ha.below B23
  replace hT := hT.below B23
  replace dx := dx.below B23
  replace hW := hW.trans (B23.mono hW.size)
  go_wp2_with fail
  refine (is_v o1 dx (by omega) rfl).mono ?_
  rintro e w24 ⟨rfl, B24⟩
  replace ha := ha.below B24
  replace hT := hT.below B24
  replace dx := dx.below B24
  replace o1 := o1.below B24
  replace hW := hW.trans (B24.mono hW.size)
  go_wp2_with fail
  refine (rhalf_v dx (by omega) (by omega)).mono ?_
  rintro e w25 ⟨A25, n25, c25, rfl, h, k25, B25⟩
  replace ha := ha.below B25
  replace hT := hT.below B25
  replace dx := dx.below B25
  replace o1 := o1.below B25
  replace hW := hW.trans (B25.mono hW.size)
  obtain ⟨y, ad, hA, cy, hy1, hy2⟩ := h.low (h.pos (by rw [HZD.out]; omega))
  subst hA
  have hn1 : 0 < n25 := h.pos (by rw [HZD.out]; omega)
  have yb : (((y : Nat) : Int) % 2 == 1) = true := by rw [beq_iff_eq]; have := HZD.out; omega
  clear hy2
  go_wp2_with fail
  refine (twice_v h (by omega) (by omega)).mono ?_
  rintro e w26 ⟨A26, n26, c26, rfl, t1, k26, B26⟩
  replace ha := ha.below B26
  replace hT := hT.below B26
  replace dx := dx.below B26
  replace o1 := o1.below B26
  replace h := h.below B26
  replace hW := hW.trans (B26.mono hW.size)
  go_wp2_with fail
  refine (rcmp_v t1 dx (cmpN_eq HZB.out)).mono ?_
  rintro e w27 ⟨rfl, B27⟩
  replace ha := ha.below B27
  replace hT := hT.below B27
  replace dx := dx.below B27
  replace o1 := o1.below B27
  replace h := h.below B27
  replace t1 := t1.below B27
  replace hW := hW.trans (B27.mono hW.size)
  go_wp2
  go_ret
  exact ⟨rfl, hW⟩

set_option maxRecDepth 100000 in
set_option maxHeartbeats 2000000 in
theorem nb_small_far (A : Option Addr) (n c v : Nat) (i : Int) (w : World) (ha : Nv w A n c v) (h1 : n ≤ 20) (hT : TabIn w) (hi : 1280 ≤ i) (hi2 : i ≤ 9223372036854775807) (hv : v ≠ 0) (hs : v < 18446744073709551616) :
    Calls Tryd.prog 3 #[.slice A n c, .int .i64 i] w (TruePost w) := by
  have hW := Below.refl w.heap.size w
  have hvlt := ha.lt
  have HV := Lib.hid hvlt
  have hb1280 : bl v ≤ 1280 := bl_words hvlt h1
  have HV0 := Lib.hid hv
  have hbl : bl v ≤ 64 := bl_le.2 (by simpa using hs)
  have hbp : 0 < bl v := Nat.pos_of_ne_zero fun h => hv (by have := bl_le.1 (Nat.le_of_eq h); simpa using this)
  have b0 : (((bl v : Nat) : Int) == 0) = false := by rw [beq_eq_false_iff_ne]; omega
  clear hv hvlt
  go_enter Tryd.func3, Tryd.ntmps3
  go_wp2_with fail
  refine (awake_calls _).mono ?_
  rintro e w1 ⟨rfl, B1⟩
  replace ha := ha.below B1
  replace hT := hT.below B1
  replace hW := hW.trans (B1.mono hW.size)
  go_wp2_with fail
  refine (from_v ha (by omega)).mono ?_
  rintro e w2 ⟨A2, n2, c2, rfl, dx, k2, B2⟩
  replace ha := ha.below B2
  replace hT := hT.below B2
  replace hW := hW.trans (B2.mono hW.size)
  go_wp2_with fail
  refine (rbits_v dx (by omega)).mono ?_
  rintro e w3 ⟨rfl, B3⟩
  replace ha := ha.below B3
  replace hT := hT.below B3
  replace dx := dx.below B3
  replace hW := hW.trans (B3.mono hW.size)
  go_wp2_with fail
  refine (zeros_v ha (by omega) hT.2).mono ?_
  rintro e w4 ⟨z, rfl, Z0, Z1, rfl⟩
  obtain ⟨m, hm⟩ := Z1 HV0.out
  have hzd : v / 2 ^ z = 2 * m + 1 := by rw [hm, Nat.mul_div_cancel_left _ (Nat.pow_pos (by omega))]
  have hzl : z < bl v := bl_lt.2 (by rw [hzd]; omega)
  have hzb : (v / 2 ^ z) * 2 ^ z = v := by rw [hzd, Nat.mul_comm]; exact hm.symm
  have HZD := Lib.hid hzd
  have HZB := Lib.hid hzb
  clear Z0 Z1 hm hzd hzb
  go_wp2_with fail
  refine (word_yes ha hs).mono ?_
  rintro e w5 ⟨rfl, rfl⟩
  have hb0 : bitv v i = 0 := bit_high HV.out h1 hi
  have HB0 := Lib.hid hb0
  clear hb0
  go_wp2_with fail
  refine (bits_v ha (by omega)).mono ?_
  rintro e w21 ⟨rfl, rfl⟩
  go_wp2_with fail
  refine (bit_is ha (by omega) HB0.out).mono ?_
  rintro e w22 ⟨rfl, rfl⟩
  go_wp2_with fail
  refine (of_cv v hs _).mono ?_
  rintro e w23 ⟨A23, n23, c23, rfl, o1, k23, B23⟩
  replace ha := ha.below B23
  replace hT := hT.below B23
  replace dx := dx.below B23
  replace hW := hW.trans (B23.mono hW.size)
  go_wp2_with fail
  refine (is_v o1 dx (by omega) rfl).mono ?_
  rintro e w24 ⟨rfl, B24⟩
  replace ha := ha.below B24
  replace hT := hT.below B24
  replace dx := dx.below B24
  replace o1 := o1.below B24
  replace hW := hW.trans (B24.mono hW.size)
  go_wp2_with fail
  refine (rhalf_v dx (by omega) (by omega)).mono ?_
  rintro e w25 ⟨A25, n25, c25, rfl, h, k25, B25⟩
  replace ha := ha.below B25
  replace hT := hT.below B25
  replace dx := dx.below B25
  replace o1 := o1.below B25
  replace hW := hW.trans (B25.mono hW.size)
  obtain ⟨y, ad, hA, cy, hy1, hy2⟩ := h.low (h.pos (by rw [HZD.out]; omega))
  subst hA
  have hn1 : 0 < n25 := h.pos (by rw [HZD.out]; omega)
  have yb : (((y : Nat) : Int) % 2 == 1) = true := by rw [beq_iff_eq]; have := HZD.out; omega
  clear hy2
  go_wp2_with fail
  refine (twice_v h (by omega) (by omega)).mono ?_
  rintro e w26 ⟨A26, n26, c26, rfl, t1, k26, B26⟩
  replace ha := ha.below B26
  replace hT := hT.below B26
  replace dx := dx.below B26
  replace o1 := o1.below B26
  replace h := h.below B26
  replace hW := hW.trans (B26.mono hW.size)
  go_wp2_with fail
  refine (rcmp_v t1 dx (cmpN_eq HZB.out)).mono ?_
  rintro e w27 ⟨rfl, B27⟩
  replace ha := ha.below B27
  replace hT := hT.below B27
  replace dx := dx.below B27
  replace o1 := o1.below B27
  replace h := h.below B27
  replace t1 := t1.below B27
  replace hW := hW.trans (B27.mono hW.size)
  go_wp2
  go_ret
  exact ⟨rfl, hW⟩

set_option maxRecDepth 100000 in
set_option maxHeartbeats 2000000 in
theorem nb_small_mid (A : Option Addr) (n c v : Nat) (k : Nat) (w : World) (ha : Nv w A n c v) (h1 : n ≤ 20) (hT : TabIn w) (hi : k < 1280) (hv : v ≠ 0) (hs : v < 18446744073709551616) :
    Calls Tryd.prog 3 #[.slice A n c, .int .i64 (k : Int)] w (TruePost w) := by
  have hW := Below.refl w.heap.size w
  have hvlt := ha.lt
  have HV := Lib.hid hvlt
  have hb1280 : bl v ≤ 1280 := bl_words hvlt h1
  have HV0 := Lib.hid hv
  have hbl : bl v ≤ 64 := bl_le.2 (by simpa using hs)
  have hbp : 0 < bl v := Nat.pos_of_ne_zero fun h => hv (by have := bl_le.1 (Nat.le_of_eq h); simpa using this)
  have b0 : (((bl v : Nat) : Int) == 0) = false := by rw [beq_eq_false_iff_ne]; omega
  clear hv hvlt
  go_enter Tryd.func3, Tryd.ntmps3
  go_wp2_with fail
  refine (awake_calls _).mono ?_
  rintro e w1 ⟨rfl, B1⟩
  replace ha := ha.below B1
  replace hT := hT.below B1
  replace hW := hW.trans (B1.mono hW.size)
  go_wp2_with fail
  refine (from_v ha (by omega)).mono ?_
  rintro e w2 ⟨A2, n2, c2, rfl, dx, k2, B2⟩
  replace ha := ha.below B2
  replace hT := hT.below B2
  replace hW := hW.trans (B2.mono hW.size)
  go_wp2_with fail
  refine (rbits_v dx (by omega)).mono ?_
  rintro e w3 ⟨rfl, B3⟩
  replace ha := ha.below B3
  replace hT := hT.below B3
  replace dx := dx.below B3
  replace hW := hW.trans (B3.mono hW.size)
  go_wp2_with fail
  refine (zeros_v ha (by omega) hT.2).mono ?_
  rintro e w4 ⟨z, rfl, Z0, Z1, rfl⟩
  obtain ⟨m, hm⟩ := Z1 HV0.out
  have hzd : v / 2 ^ z = 2 * m + 1 := by rw [hm, Nat.mul_div_cancel_left _ (Nat.pow_pos (by omega))]
  have hzl : z < bl v := bl_lt.2 (by rw [hzd]; omega)
  have hzb : (v / 2 ^ z) * 2 ^ z = v := by rw [hzd, Nat.mul_comm]; exact hm.symm
  have HZD := Lib.hid hzd
  have HZB := Lib.hid hzb
  clear Z0 Z1 hm hzd hzb
  go_wp2_with fail
  refine (word_yes ha hs).mono ?_
  rintro e w5 ⟨rfl, rfl⟩
  go_upto_if 37 with fail
  go_cut [10] (BitCut w3 v (k : Int))
  case first =>
    go_wp2_with fail
    refine (rhalf_v dx (by omega) (by omega)).mono ?_
    rintro e w8 ⟨A8, n8, c8, rfl, h8, k8, B8⟩
    have hbit : bitv v (k : Int) = v / 2 ^ k % 2 := by unfold bitv; rw [if_neg (by omega), Int.toNat_natCast]
    have HBIT := Lib.hid hbit
    clear hbit
    rcases Nat.eq_zero_or_pos n8 with rfl | hpos
    · have e8 : v / 2 ^ k = 0 := (cn_nil_iff 65536 _ (by omega)).1 h8.2.1
      have E8 := Lib.hid e8
      clear e8
      go_wp2
      go_meet
      exact ⟨by rw [HBIT.out, E8.out]; rfl, B8⟩
    · obtain ⟨y, ad, rfl, cy, hy1, hy2⟩ := h8.low hpos
      have HY := Lib.hid hy2
      clear hy2
      go_wp2
      go_meet
      exact ⟨by rw [HBIT.out, ← HY.out]; go_num, B8⟩
  case rest =>
    obtain ⟨rfl, B20⟩ := hcut
    replace ha := ha.below B20
    replace hT := hT.below B20
    replace dx := dx.below B20
    replace hW := hW.trans (B20.mono hW.size)
    go_wp2_with fail
    refine (bits_v ha (by omega)).mono ?_
    rintro e w21 ⟨rfl, rfl⟩
    go_wp2_with fail
    refine (bit_v ha (by omega)).mono ?_
    rintro e w22 ⟨rfl, rfl⟩
    go_wp2_with fail
    refine (of_cv v hs _).mono ?_
    rintro e w23 ⟨A23, n23, c23, rfl, o1, k23, B23⟩
    replace ha := ha.below B23
    replace hT := hT.below B23
    replace dx := dx.below B23
    replace hW := hW.trans (B23.mono hW.size)
    go_wp2_with fail
    refine (is_v o1 dx (by omega) rfl).mono ?_
    rintro e w24 ⟨rfl, B24⟩
    replace ha := ha.below B24
    replace hT := hT.below B24
    replace dx := dx.below B24
    replace o1 := o1.below B24
    replace hW := hW.trans (B24.mono hW.size)
    go_wp2_with fail
    refine (rhalf_v dx (by omega) (by omega)).mono ?_
    rintro e w25 ⟨A25, n25, c25, rfl, h, k25, B25⟩
    replace ha := ha.below B25
    replace hT := hT.below B25
    replace dx := dx.below B25
    replace o1 := o1.below B25
    replace hW := hW.trans (B25.mono hW.size)
    obtain ⟨y, ad, hA, cy, hy1, hy2⟩ := h.low (h.pos (by rw [HZD.out]; omega))
    subst hA
    have hn1 : 0 < n25 := h.pos (by rw [HZD.out]; omega)
    have yb : (((y : Nat) : Int) % 2 == 1) = true := by rw [beq_iff_eq]; have := HZD.out; omega
    clear hy2
    go_wp2_with fail
    refine (twice_v h (by omega) (by omega)).mono ?_
    rintro e w26 ⟨A26, n26, c26, rfl, t1, k26, B26⟩
    replace ha := ha.below B26
    replace hT := hT.below B26
    replace dx := dx.below B26
    replace o1 := o1.below B26
    replace h := h.below B26
    replace hW := hW.trans (B26.mono hW.size)
    go_wp2_with fail
    refine (rcmp_v t1 dx (cmpN_eq HZB.out)).mono ?_
    rintro e w27 ⟨rfl, B27⟩
    replace ha := ha.below B27
    replace hT := hT.below B27
    replace dx := dx.below B27
    replace o1 := o1.below B27
    replace h := h.below B27
    replace t1 := t1.below B27
    replace hW := hW.trans (B27.mono hW.size)
    go_wp2
    go_ret
    exact ⟨rfl, hW⟩

set_option maxRecDepth 100000 in
set_option maxHeartbeats 2000000 in
theorem nb_big_neg (A : Option Addr) (n c v : Nat) (i : Int) (w : World) (ha : Nv w A n c v) (h1 : n ≤ 20) (hT : TabIn w) (hi : i < 0) (hs : 18446744073709551616 ≤ v) :
    Calls Tryd.prog 3 #[.slice A n c, .int .i64 i] w (TruePost w) := by
  have hW := Below.refl w.heap.size w
  have hvlt := ha.lt
  have HV := Lib.hid hvlt
  have hb1280 : bl v ≤ 1280 := bl_words hvlt h1
  have hbl : 64 < bl v := by
    rcases Nat.lt_or_ge 64 (bl v) with h | h
    · exact h
    · have := bl_le.1 h; omega
  have b0 : (((bl v : Nat) : Int) == 0) = false := by rw [beq_eq_false_iff_ne]; omega
  clear hvlt
  go_enter Tryd.func3, Tryd.ntmps3
  go_wp2_with fail
  refine (awake_calls _).mono ?_
  rintro e w1 ⟨rfl, B1⟩
  replace ha := ha.below B1
  replace hT := hT.below B1
  replace hW := hW.trans (B1.mono hW.size)
  go_wp2_with fail
  refine (from_v ha (by omega)).mono ?_
  rintro e w2 ⟨A2, n2, c2, rfl, dx, k2, B2⟩
  replace ha := ha.below B2
  replace hT := hT.below B2
  replace hW := hW.trans (B2.mono hW.size)
  go_wp2_with fail
  refine (rbits_v dx (by omega)).mono ?_
  rintro e w3 ⟨rfl, B3⟩
  replace ha := ha.below B3
  replace hT := hT.below B3
  replace dx := dx.below B3
  replace hW := hW.trans (B3.mono hW.size)
  go_wp2_with fail
  refine (zeros_v ha (by omega) hT.2).mono ?_
  rintro e w4 ⟨z, rfl, Z0, Z1, rfl⟩
  obtain ⟨m, hm⟩ := Z1 (by omega)
  have hzd : v / 2 ^ z = 2 * m + 1 := by rw [hm, Nat.mul_div_cancel_left _ (Nat.pow_pos (by omega))]
  have hzl : z < bl v := bl_lt.2 (by rw [hzd]; omega)
  have hzb : (v / 2 ^ z) * 2 ^ z = v := by rw [hzd, Nat.mul_comm]; exact hm.symm
  have HZD := Lib.hid hzd
  have HZB := Lib.hid hzb
  clear Z0 Z1 hm hzd hzb
  go_wp2_with fail
  refine (word_no ha hs).mono ?_
  rintro e w5 ⟨rfl, rfl⟩
  have hb0 : bitv v i = 0 := by unfold bitv; rw [if_pos hi]
  have HB0 := Lib.hid hb0
  clear hb0
  go_wp2_with fail
  refine (bits_v ha (by omega)).mono ?_
  rintro e w21 ⟨rfl, rfl⟩
  go_wp2_with fail
  refine (bit_is ha (by omega) HB0.out).mono ?_
  rintro e w22 ⟨rfl, rfl⟩
  go_wp2_with fail
  refine (rhalf_v dx (by omega) (by omega)).mono ?_
  rintro e w23 ⟨A23, n23, c23, rfl, h, k23, B23⟩
  replace ha := ha.below B23
  replace hT := hT.below B23
  replace dx := dx.below B23
  replace hW := hW.trans (B23.mono hW.size)
  obtain ⟨y, ad, hA, cy, hy1, hy2⟩ := h.low (h.pos (by rw [HZD.out]; omega))
  subst hA
  have hn1 : 0 < n23 := h.pos (by rw [HZD.out]; omega)
  have yb : (((y : Nat) : Int) % 2 == 1) = true := by rw [beq_iff_eq]; have := HZD.out; omega
  clear hy2
  go_wp2_with fail
  refine (twice_v h (by omega) (by omega)).mono ?_
  rintro e w24 ⟨A24, n24, c24, rfl, t1, k24, B24⟩
  replace ha := ha.below B24
  replace hT := hT.below B24
  replace dx := dx.below B24
  replace h := h.below B24
  replace hW := hW.trans (B24.mono hW.size)
  go_wp2_with fail
  refine (rcmp_v t1 dx (cmpN_eq HZB.out)).mono ?_
  rintro e w25 ⟨rfl, B25⟩
  replace ha := ha.below B25
  replace hT := hT.below B25
  replace dx := dx.below B25
  replace h := h.below B25
  replace t1 := t1.below B25
  replace hW := hW.trans (B25.mono hW.size)
  go_wp2
  go_ret
  exact ⟨rfl, hW⟩

set_option maxRecDepth 100000 in
set_option maxHeartbeats 2000000 in
theorem nb_big_far (A : Option Addr) (n c v : Nat) (i : Int) (w : World) (ha : Nv w A n c v) (h1 : n ≤ 20) (hT : TabIn w) (hi : 1280 ≤ i) (hi2 : i ≤ 9223372036854775807) (hs : 18446744073709551616 ≤ v) :
    Calls Tryd.prog 3 #[.slice A n c, .int .i64 i] w (TruePost w) := by
  have hW := Below.refl w.heap.size w
  have hvlt := ha.lt
  have HV := Lib.hid hvlt
  have hb1280 : bl v ≤ 1280 := bl_words hvlt h1
  have hbl : 64 < bl v := by
    rcases Nat.lt_or_ge 64 (bl v) with h | h
    · exact h
    · have := bl_le.1 h; omega
  have b0 : (((bl v : Nat) : Int) == 0) = false := by rw [beq_eq_false_iff_ne]; omega
  clear hvlt
  go_enter Tryd.func3, Tryd.ntmps3
  go_wp2_with fail
  refine (awake_calls _).mono ?_
  rintro e w1 ⟨rfl, B1⟩
  replace ha := ha.below B1
  replace hT := hT.below B1
  replace hW := hW.trans (B1.mono hW.size)
  go_wp2_with fail
  refine (from_v ha (by omega)).mono ?_
  rintro e w2 ⟨A2, n2, c2, rfl, dx, k2, B2⟩
  replace ha := ha.below B2
  replace hT := hT.below B2
  replace hW := hW.trans (B2.mono hW.size)
  go_wp2_with fail
  refine (rbits_v dx (by omega)).mono ?_
  rintro e w3 ⟨rfl, B3⟩
  replace ha := ha.below B3
  replace hT := hT.below B3
  replace dx := dx.below B3
  replace hW := hW.trans (B3.mono hW.size)
  go_wp2_with fail
  refine (zeros_v ha (by omega) hT.2).mono ?_
  rintro e w4 ⟨z, rfl, Z0, Z1, rfl⟩
  obtain ⟨m, hm⟩ := Z1 (by omega)
  have hzd : v / 2 ^ z = 2 * m + 1 := by rw [hm, Nat.mul_div_cancel_left _ (Nat.pow_pos (by omega))]
  have hzl : z < bl v := bl_lt.2 (by rw [hzd]; omega)
  have hzb : (v / 2 ^ z) * 2 ^ z = v := by rw [hzd, Nat.mul_comm]; exact hm.symm
  have HZD := Lib.hid hzd
  have HZB := Lib.hid hzb
  clear Z0 Z1 hm hzd hzb
  go_wp2_with fail
  refine (word_no ha hs).mono ?_
  rintro e w5 ⟨rfl, rfl⟩
  have hb0 : bitv v i = 0 := bit_high HV.out h1 hi
  have HB0 := Lib.hid hb0
  clear hb0
  go_wp2_with fail
  refine (bits_v ha (by omega)).mono ?_
  rintro e w21 ⟨rfl, rfl⟩
  go_wp2_with fail
  refine (bit_is ha (by omega) HB0.out).mono ?_
  rintro e w22 ⟨rfl, rfl⟩
  go_wp2_with fail
  refine (rhalf_v dx (by omega) (by omega)).mono ?_
  rintro e w23 ⟨A23, n23, c23, rfl, h, k23, B23⟩
  replace ha := ha.below B23
  replace hT := hT.below B23
  replace dx := dx.below B23
  replace hW := hW.trans (B23.mono hW.size)
  obtain ⟨y, ad, hA, cy, hy1, hy2⟩ := h.low (h.pos (by rw [HZD.out]; omega))
  subst hA
  have hn1 : 0 < n23 := h.pos (by rw [HZD.out]; omega)
  have yb : (((y : Nat) : Int) % 2 == 1) = true := by rw [beq_iff_eq]; have := HZD.out; omega
  clear hy2
  go_wp2_with fail
  refine (twice_v h (by omega) (by omega)).mono ?_
  rintro e w24 ⟨A24, n24, c24, rfl, t1, k24, B24⟩
  replace ha := ha.below B24
  replace hT := hT.below B24
  replace dx := dx.below B24
  replace h := h.below B24
  replace hW := hW.trans (B24.mono hW.size)
  go_wp2_with fail
  refine (rcmp_v t1 dx (cmpN_eq HZB.out)).mono ?_
  rintro e w25 ⟨rfl, B25⟩
  replace ha := ha.below B25
  replace hT := hT.below B25
  replace dx := dx.below B25
  replace h := h.below B25
  replace t1 := t1.below B25
  replace hW := hW.trans (B25.mono hW.size)
  go_wp2
  go_ret
  exact ⟨rfl, hW⟩

set_option maxRecDepth 100000 in
set_option maxHeartbeats 2000000 in
theorem nb_big_mid (A : Option Addr) (n c v : Nat) (k : Nat) (w : World) (ha : Nv w A n c v) (h1 : n ≤ 20) (hT : TabIn w) (hi : k < 1280) (hs : 18446744073709551616 ≤ v) :
    Calls Tryd.prog 3 #[.slice A n c, .int .i64 (k : Int)] w (TruePost w) := by
  have hW := Below.refl w.heap.size w
  have hvlt := ha.lt
  have HV := Lib.hid hvlt
  have hb1280 : bl v ≤ 1280 := bl_words hvlt h1
  have hbl : 64 < bl v := by
    rcases Nat.lt_or_ge 64 (bl v) with h | h
    · exact h
    · have := bl_le.1 h; omega
  have b0 : (((bl v : Nat) : Int) == 0) = false := by rw [beq_eq_false_iff_ne]; omega
  clear hvlt
  go_enter Tryd.func3, Tryd.ntmps3
  go_wp2_with fail
  refine (awake_calls _).mono ?_
  rintro e w1 ⟨rfl, B1⟩
  replace ha := ha.below B1
  replace hT := hT.below B1
  replace hW := hW.trans (B1.mono hW.size)
  go_wp2_with fail
  refine (from_v ha (by omega)).mono ?_
  rintro e w2 ⟨A2, n2, c2, rfl, dx, k2, B2⟩
  replace ha := ha.below B2
  replace hT := hT.below B2
  replace hW := hW.trans (B2.mono hW.size)
  go_wp2_with fail
  refine (rbits_v dx (by omega)).mono ?_
  rintro e w3 ⟨rfl, B3⟩
  replace ha := ha.below B3
  replace hT := hT.below B3
  replace dx := dx.below B3
  replace hW := hW.trans (B3.mono hW.size)
  go_wp2_with fail
  refine (zeros_v ha (by omega) hT.2).mono ?_
  rintro e w4 ⟨z, rfl, Z0, Z1, rfl⟩
  obtain ⟨m, hm⟩ := Z1 (by omega)
  have hzd : v / 2 ^ z = 2 * m + 1 := by rw [hm, Nat.mul_div_cancel_left _ (Nat.pow_pos (by omega))]
  have hzl : z < bl v := bl_lt.2 (by rw [hzd]; omega)
  have hzb : (v / 2 ^ z) * 2 ^ z = v := by rw [hzd, Nat.mul_comm]; exact hm.symm
  have HZD := Lib.hid hzd
  have HZB := Lib.hid hzb
  clear Z0 Z1 hm hzd hzb
  go_wp2_with fail
  refine (word_no ha hs).mono ?_
  rintro e w5 ⟨rfl, rfl⟩
  go_upto_if 37 with fail
  go_cut [10] (BitCut w3 v (k : Int))
  case first =>
    go_wp2_with fail
    refine (rhalf_v dx (by omega) (by omega)).mono ?_
    rintro e w8 ⟨A8, n8, c8, rfl, h8, k8, B8⟩
    have hbit : bitv v (k : Int) = v / 2 ^ k % 2 := by unfold bitv; rw [if_neg (by omega), Int.toNat_natCast]
    have HBIT := Lib.hid hbit
    clear hbit
    rcases Nat.eq_zero_or_pos n8 with rfl | hpos
    · have e8 : v / 2 ^ k = 0 := (cn_nil_iff 65536 _ (by omega)).1 h8.2.1
      have E8 := Lib.hid e8
      clear e8
      go_wp2
      go_meet
      exact ⟨by rw [HBIT.out, E8.out]; rfl, B8⟩
    · obtain ⟨y, ad, rfl, cy, hy1, hy2⟩ := h8.low hpos
      have HY := Lib.hid hy2
      clear hy2
      go_wp2
      go_meet
      exact ⟨by rw [HBIT.out, ← HY.out]; go_num, B8⟩
  case rest =>
    obtain ⟨rfl, B20⟩ := hcut
    replace ha := ha.below B20
    replace hT := hT.below B20
    replace dx := dx.below B20
    replace hW := hW.trans (B20.mono hW.size)
    go_wp2_with fail
    refine (bits_v ha (by omega)).mono ?_
    rintro e w21 ⟨rfl, rfl⟩
    go_wp2_with fail
    refine (bit_v ha (by omega)).mono ?_
    rintro e w22 ⟨rfl, rfl⟩
    go_wp2_with fail
    refine (rhalf_v dx (by omega) (by omega)).mono ?_
    rintro e w23 ⟨A23, n23, c23, rfl, h, k23, B23⟩
    replace ha := ha.below B23
    replace hT := hT.below B23
    replace dx := dx.below B23
    replace hW := hW.trans (B23.mono hW.size)
    obtain ⟨y, ad, hA, cy, hy1, hy2⟩ := h.low (h.pos (by rw [HZD.out]; omega))
    subst hA
    have hn1 : 0 < n23 := h.pos (by rw [HZD.out]; omega)
    have yb : (((y : Nat) : Int) % 2 == 1) = true := by rw [beq_iff_eq]; have := HZD.out; omega
    clear hy2
    go_wp2_with fail
    refine (twice_v h (by omega) (by omega)).mono ?_
    rintro e w24 ⟨A24, n24, c24, rfl, t1, k24, B24⟩
    replace ha := ha.below B24
    replace hT := hT.below B24
    replace dx := dx.below B24
    replace h := h.below B24
    replace hW := hW.trans (B24.mono hW.size)
    go_wp2_with fail
    refine (rcmp_v t1 dx (cmpN_eq HZB.out)).mono ?_
    rintro e w25 ⟨rfl, B25⟩
    replace ha := ha.below B25
    replace hT := hT.below B25
    replace dx := dx.below B25
    replace h := h.below B25
    replace t1 := t1.below B25
    replace hW := hW.trans (B25.mono hW.size)
    go_wp2
    go_ret
    exact ⟨rfl, hW⟩
end Go.Proofs.YtgdggpfldkmbdaaDoor
