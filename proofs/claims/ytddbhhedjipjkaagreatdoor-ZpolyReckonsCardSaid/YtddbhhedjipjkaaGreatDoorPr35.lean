/-
  GcdD
-/
import Derived.Test.YtddbhhedjipjkaaGreatDoorPr32
import Derived.Test.YtddbhhedjipjkaaGreatDoorPr34

namespace Go.Proofs.YtddbhhedjipjkaaGreatDoor
open Go.RowKit
set_option linter.unusedVariables false
theorem none_calls (p q r s : Nat) {b : Bool} (hb : ((q : Int) == 0) = b) (w : World) :
    Calls Tryz.prog 109 #[.agg #[.int .u64 p, .int .u64 q, .int .u64 r, .int .u64 s]] w fun e w' => e = .returned (.bool b) ∧ Below w.heap.size w w' := by
  have hW := (Below.refl w.heap.size w).alloc (Nat.le_refl _) (.cells #[.int .u64 p, .int .u64 q, .int .u64 r, .int .u64 s] 121)
  go_enter Tryz.func109, Tryz.ntmps109
  go_wp2_with fail
  go_ret
  exact ⟨rfl, hW⟩
theorem lead_word {f s0 u : Nat} (hu : u < 64) (hf : f * 2 ^ u < 18446744073709551616) (hs : s0 < 18446744073709551616) (hfB : f < 18446744073709551616) :
    bits .or .u64 (IntKind.u64.wrap ((f : Int) * 2 ^ u)) ((s0 : Int) / 2 ^ (64 - u)) = (((f * 18446744073709551616 + s0) / 2 ^ (64 - u) : Nat) : Int) := by
  obtain ⟨_, _, g3, _⟩ := up_word (x := s0) (u := u) (c := 0) hs hu (Nat.pow_pos (by omega))
  have hv := up_value (x := f) (u := u) (c := s0 / 2 ^ (64 - u)) hfB hu g3
  rw [down_value, hv, Nat.mod_eq_of_lt hf]
  have e : (18446744073709551616 : Nat) = 2 ^ u * 2 ^ (64 - u) := split_word u hu
  have e2 : f * 18446744073709551616 + s0 = s0 + 2 ^ (64 - u) * (f * 2 ^ u) := by rw [e]; grind
  rw [e2, Nat.add_mul_div_left _ _ (Nat.pow_pos (by omega)), Nat.add_comm]
theorem lead_num {zs : List Nat} {m u : Nat} (lz : Low 18446744073709551616 zs) (hz : zs.length = m + 2) : (nth zs (m + 1) * 18446744073709551616 + nth zs m) / 2 ^ (64 - u) = ev 18446744073709551616 zs / (18446744073709551616 ^ m * 2 ^ (64 - u)) := by
  have z1 := pre_succ 18446744073709551616 zs m
  have z2 := pre_succ 18446744073709551616 zs (m + 1)
  have zl := pre_lt lz (by omega) m
  rw [show m + 1 + 1 = zs.length from by omega, pre_len] at z2
  have e : ev 18446744073709551616 zs / 18446744073709551616 ^ m = nth zs (m + 1) * 18446744073709551616 + nth zs m := by
    have h : ev 18446744073709551616 zs = pre 18446744073709551616 zs m + 18446744073709551616 ^ m * (nth zs (m + 1) * 18446744073709551616 + nth zs m) := by
      rw [z2, z1, show (18446744073709551616 : Nat) ^ (m + 1) = 18446744073709551616 ^ m * 18446744073709551616 from Nat.pow_succ ..]
      generalize (18446744073709551616 : Nat) ^ m = P
      grind
    rw [h, Nat.add_mul_div_left _ _ (Nat.pow_pos (by omega)), Nat.div_eq_of_lt zl, Nat.zero_add]
  rw [← Nat.div_div_eq_div_mul, e]
theorem top_le {b m : Nat} {zs us : List Nat} (hb : 0 < b) (lz : Low b zs) (hz : zs.length = m + 1) (hu : us.length = m + 1) (h : ev b us ≤ ev b zs) : nth us m ≤ nth zs m := by
  have z1 := pre_succ b zs m
  have u1 := pre_succ b us m
  have zl := pre_lt lz hb m
  rw [show m + 1 = zs.length from hz.symm, pre_len] at z1
  rw [show m + 1 = us.length from hu.symm, pre_len] at u1
  rcases Nat.lt_or_ge (nth zs m) (nth us m) with h1 | h1
  · exfalso
    have : b ^ m * (nth zs m + 1) ≤ b ^ m * nth us m := Nat.mul_le_mul_left _ h1
    rw [Nat.mul_add, Nat.mul_one] at this
    omega
  · exact h1
def LePost (a b : Nat) (w : World) (e : Ending) (w' : World) : Prop :=
  ∃ X Y : Nat, e = .returned (.tuple #[.int .u64 (X : Int), .int .u64 (Y : Int)]) ∧ X < 18446744073709551616 ∧ 0 < X ∧ Y ≤ X ∧ Hid (∃ K, (X * K ≤ a ∧ a < X * K + K) ∧ (Y * K ≤ b ∧ b < Y * K + K)) ∧ Sees w w'
theorem div_both {a K : Nat} (hK : 0 < K) : a / K * K ≤ a ∧ a < a / K * K + K := by
  have h1 := Nat.div_add_mod a K
  have h2 := Nat.mod_lt a hK
  rw [Nat.mul_comm] at h1
  omega
set_option maxHeartbeats 1000000 in
theorem leading_calls (A B : Option Addr) (n m c d : Nat) (zs us : List Nat) (w : World) (hz : Rd w .u64 A zs) (hu : Rd w .u64 B us) (hzl : zs.length = n) (hul : us.length = n) (hm : n = m + 2) (lz : Low 18446744073709551616 zs) (lu : Low 18446744073709551616 us)
    (ht : nth zs (m + 1) ≠ 0) (hle : ev 18446744073709551616 us ≤ ev 18446744073709551616 zs) (bn : n ≤ 1099511627776) :
    Calls Tryz.prog 124 #[.slice A n c, .slice B n d] w (LePost (ev 18446744073709551616 zs) (ev 18446744073709551616 us) w) := by
  obtain ⟨i1, hi1⟩ : ∃ i, i = m + 1 := ⟨_, rfl⟩
  have htl := top_le (m := m + 1) (by omega) lz (by omega) (by omega) hle
  obtain ⟨ad, rfl, _, c0⟩ := hz.at (k := m) (by omega)
  have c1 := hz.cell rfl (k := i1) (by omega)
  obtain ⟨ae, rfl, _, d0⟩ := hu.at (k := m) (by omega)
  have d1 := hu.cell rfl (k := i1) (by omega)
  have b0 := lz.any (by omega) m
  have b1 := lz.any (by omega) i1
  have e0 := lu.any (by omega) m
  have e1 := lu.any (by omega) i1
  obtain ⟨u, hu'⟩ : ∃ u, u = 64 - bl (nth zs (m + 1)) := ⟨_, rfl⟩
  have hb64 : bl (nth zs (m + 1)) ≤ 64 := bl_le.2 (by have := lz.any (b := 18446744073709551616) (by omega) (m + 1); simpa using this)
  have hb0 : 0 < bl (nth zs (m + 1)) := bl_lt.2 (by simp; omega)
  have hu64 : u < 64 := by omega
  have hf : nth zs (m + 1) * 2 ^ u < 18446744073709551616 := by
    have h1 := bl_le.1 (Nat.le_refl (bl (nth zs (m + 1))))
    have e : (18446744073709551616 : Nat) = 2 ^ bl (nth zs (m + 1)) * 2 ^ u := by rw [← Nat.pow_add, show bl (nth zs (m + 1)) + u = 64 from by omega]
    rw [e]; exact Nat.mul_lt_mul_of_pos_right h1 (Nat.pow_pos (by omega))
  have hg : nth us (m + 1) * 2 ^ u < 18446744073709551616 := Nat.lt_of_le_of_lt (Nat.mul_le_mul_right _ htl) hf
  rw [← hi1] at hf hg hu'
  have w1 := lead_word hu64 hf b0 b1
  have w2 := lead_word hu64 hg e0 e1
  have hK : 0 < 18446744073709551616 ^ m * 2 ^ (64 - u) := Nat.mul_pos (Nat.pow_pos (by omega)) (Nat.pow_pos (by omega))
  have n1 := lead_num (u := u) lz (show zs.length = m + 2 by omega)
  have n2 := lead_num (u := u) lu (show us.length = m + 2 by omega)
  rw [← hi1] at n1 n2
  rw [n1] at w1
  rw [n2] at w2
  have q1 := div_both (a := ev 18446744073709551616 zs) hK
  have q2 := div_both (a := ev 18446744073709551616 us) hK
  have q3 : ev 18446744073709551616 us / (18446744073709551616 ^ m * 2 ^ (64 - u)) ≤ ev 18446744073709551616 zs / (18446744073709551616 ^ m * 2 ^ (64 - u)) := Nat.div_le_div_right hle
  have q4 : ev 18446744073709551616 zs / (18446744073709551616 ^ m * 2 ^ (64 - u)) < 18446744073709551616 := by
    rw [← n1]
    refine (Nat.div_lt_iff_lt_mul (Nat.pow_pos (by omega))).2 ?_
    have e : (18446744073709551616 : Nat) = 2 ^ u * 2 ^ (64 - u) := split_word u hu64
    have h1 : nth zs i1 + 1 ≤ 2 ^ (64 - u) := by
      have h2 : nth zs i1 * 2 ^ u < 2 ^ (64 - u) * 2 ^ u := by rw [Nat.mul_comm (2 ^ (64 - u)), ← e]; exact hf
      exact Nat.lt_of_mul_lt_mul_right h2
    have h3 : (nth zs i1 + 1) * 18446744073709551616 ≤ 2 ^ (64 - u) * 18446744073709551616 := Nat.mul_le_mul_right _ h1
    rw [Nat.add_mul, Nat.one_mul, Nat.mul_comm (2 ^ (64 - u))] at h3
    omega
  have q5 : 0 < ev 18446744073709551616 zs / (18446744073709551616 ^ m * 2 ^ (64 - u)) := by
    refine Nat.div_pos ?_ hK
    have h1 : (2 : Nat) ^ (64 - u) ≤ 18446744073709551616 := by
      have : (2 : Nat) ^ (64 - u) ≤ 2 ^ 64 := Nat.pow_le_pow_right (by omega) (by omega)
      simpa using this
    have h2 := pre_succ 18446744073709551616 zs (m + 1)
    rw [show m + 1 + 1 = zs.length from by omega, pre_len] at h2
    have h3 : 18446744073709551616 ^ (m + 1) ≤ 18446744073709551616 ^ (m + 1) * nth zs (m + 1) := Nat.le_mul_of_pos_right _ (by omega)
    have h4 : 18446744073709551616 ^ m * 2 ^ (64 - u) ≤ 18446744073709551616 ^ m * 18446744073709551616 := Nat.mul_le_mul_left _ h1
    rw [Nat.pow_succ] at h2 h3
    omega
  have PH := Lib.hid (show ∃ K, (ev 18446744073709551616 zs / (18446744073709551616 ^ m * 2 ^ (64 - u)) * K ≤ ev 18446744073709551616 zs ∧ ev 18446744073709551616 zs < ev 18446744073709551616 zs / (18446744073709551616 ^ m * 2 ^ (64 - u)) * K + K) ∧
    (ev 18446744073709551616 us / (18446744073709551616 ^ m * 2 ^ (64 - u)) * K ≤ ev 18446744073709551616 us ∧ ev 18446744073709551616 us < ev 18446744073709551616 us / (18446744073709551616 ^ m * 2 ^ (64 - u)) * K + K) from ⟨_, q1, q2⟩)
  clear n1 n2 q1 q2 hK hf hg htl hb64 hb0 hle ht
  generalize ev 18446744073709551616 zs / (18446744073709551616 ^ m * 2 ^ (64 - u)) = X at *
  generalize ev 18446744073709551616 us / (18446744073709551616 ^ m * 2 ^ (64 - u)) = Y at *
  generalize nth zs m = s0 at *
  generalize nth zs i1 = f at *
  generalize nth us m = t0 at *
  generalize nth us i1 = g at *
  obtain ⟨dn, hdn⟩ : ∃ d, d = 64 - u := ⟨_, rfl⟩
  rw [← hdn] at w1 w2
  have v1 : (n : Int) - 1 = (i1 : Int) := by omega
  have v2 : (n : Int) - 2 = (m : Int) := by omega
  have v3 : IntKind.i64.wrap ((n : Int) - 1) = (i1 : Int) := by rw [IntWalk.i64_in _ (by omega)]; omega
  have v4 : IntKind.i64.wrap ((n : Int) - 2) = (m : Int) := by rw [IntWalk.i64_in _ (by omega)]; omega
  have v5 : (64 : Int) - (u : Int) = (dn : Int) := by omega
  have v6 : IntKind.i64.wrap (64 - (u : Int)) = (dn : Int) := by rw [IntWalk.i64_in _ (by omega)]; omega
  have k1 : i1 < n := by omega
  have k2 : m < n := by omega
  have k3 : dn ≤ 64 := by omega
  have HU := Lib.hid hu'
  clear hu' hi1 hm hdn hzl hul hz hu lz lu
  go_enter Tryz.func124, Tryz.ntmps124
  go_wp2_with fail
  refine (lz64_calls _ b1 _).mono ?_
  rintro e w' ⟨rfl, rfl⟩
  rw [← HU.out]
  go_wp2_with fail
  go_quiet (fail)
  go_wp2_with fail
  go_ret2
  exact ⟨X, Y, rfl, q4, q5, q3, PH, ⟨_, rfl⟩⟩
theorem jof_end {Ok : Nat → Nat → Nat → Nat → Prop} {w w3 w4 : World} {e : Ending} (hB : Below (w.heap.size + 1) (w.alloc (.cells #[.int .u64 0, .int .u64 0, .int .u64 0, .int .u64 0] 121)) w3) (hz : w3.heap.size = w.heap.size + 1) (P : JpPost Ok w3 e w4) :
    ∃ p q r s : Nat, e = .returned (.agg #[.int .u64 (p : Int), .int .u64 (q : Int), .int .u64 (r : Int), .int .u64 (s : Int)]) ∧ p < 18446744073709551616 ∧ q < 18446744073709551616 ∧ r < 18446744073709551616 ∧ s < 18446744073709551616 ∧ 1 ≤ p ∧ 1 ≤ s ∧ Hid (Ok p q r s) ∧
      (w4.cell? ⟨w.heap.size, 0, none⟩ = some (.int .u64 0) ∧ w4.cell? ⟨w.heap.size, 1, none⟩ = some (.int .u64 0) ∧ w4.cell? ⟨w.heap.size, 2, none⟩ = some (.int .u64 0) ∧ w4.cell? ⟨w.heap.size, 3, none⟩ = some (.int .u64 0) ∧
       w4.frozen? ⟨w.heap.size, 0, none⟩ = false ∧ w4.frozen? ⟨w.heap.size, 1, none⟩ = false ∧ w4.frozen? ⟨w.heap.size, 2, none⟩ = false ∧ w4.frozen? ⟨w.heap.size, 3, none⟩ = false ∧
       ((((w4.setCell ⟨w.heap.size, 0, none⟩ (.int .u64 (p : Int))).setCell ⟨w.heap.size, 1, none⟩ (.int .u64 (q : Int))).setCell ⟨w.heap.size, 2, none⟩ (.int .u64 (r : Int))).setCell ⟨w.heap.size, 3, none⟩ (.int .u64 (s : Int))).cell? ⟨w.heap.size, 0, none⟩ = some (.int .u64 (p : Int)) ∧
       ((((w4.setCell ⟨w.heap.size, 0, none⟩ (.int .u64 (p : Int))).setCell ⟨w.heap.size, 1, none⟩ (.int .u64 (q : Int))).setCell ⟨w.heap.size, 2, none⟩ (.int .u64 (r : Int))).setCell ⟨w.heap.size, 3, none⟩ (.int .u64 (s : Int))).cell? ⟨w.heap.size, 1, none⟩ = some (.int .u64 (q : Int)) ∧
       ((((w4.setCell ⟨w.heap.size, 0, none⟩ (.int .u64 (p : Int))).setCell ⟨w.heap.size, 1, none⟩ (.int .u64 (q : Int))).setCell ⟨w.heap.size, 2, none⟩ (.int .u64 (r : Int))).setCell ⟨w.heap.size, 3, none⟩ (.int .u64 (s : Int))).cell? ⟨w.heap.size, 2, none⟩ = some (.int .u64 (r : Int)) ∧
       ((((w4.setCell ⟨w.heap.size, 0, none⟩ (.int .u64 (p : Int))).setCell ⟨w.heap.size, 1, none⟩ (.int .u64 (q : Int))).setCell ⟨w.heap.size, 2, none⟩ (.int .u64 (r : Int))).setCell ⟨w.heap.size, 3, none⟩ (.int .u64 (s : Int))).cell? ⟨w.heap.size, 3, none⟩ = some (.int .u64 (s : Int)) ∧
       Below w.heap.size w ((((w4.setCell ⟨w.heap.size, 0, none⟩ (.int .u64 (p : Int))).setCell ⟨w.heap.size, 1, none⟩ (.int .u64 (q : Int))).setCell ⟨w.heap.size, 2, none⟩ (.int .u64 (r : Int))).setCell ⟨w.heap.size, 3, none⟩ (.int .u64 (s : Int)))) := by
  obtain ⟨p, q, r, s, rfl, bp, bq, br, bs, hp, hs, hok, B4⟩ := P
  have b1 := ((jo_alloc w 0 0 0 0).below hB (by omega)).below B4 (by omega)
  have W4 : Wb w4 w.heap.size 121 [0, 0, 0, 0] := ⟨b1, low4 (by omega) (by omega) (by omega) (by omega)⟩
  obtain ⟨z0, z1, z2, z3, _, _, _, _, k0, k1, k2, k3⟩ := wb4 W4
  obtain ⟨X, T⟩ := wb4_set W4 bp bq br bs
  obtain ⟨y0, y1, y2, y3, _⟩ := wb4 X
  have hs4 := B4.size
  exact ⟨p, q, r, s, rfl, bp, bq, br, bs, hp, hs, hok, z0, z1, z2, z3, k0, k1, k2, k3, y0, y1, y2, y3, (((zb0 w _).trans (hB.mono (by omega))).trans (B4.mono (by omega))).trans (T.below (by omega) fun a h => by rw [h]; exact Nat.le_refl _)⟩
set_option maxRecDepth 100000 in
theorem jof_calls (A B : Option Addr) (n c d : Nat) (zs us : List Nat) (w : World) (hz : Rd w .u64 A zs) (hu : Rd w .u64 B us) (hzl : zs.length = n) (hul : us.length = n) (lz : Low 18446744073709551616 zs) (lu : Low 18446744073709551616 us)
    (hn : 0 < n) (ht : nth zs (n - 1) ≠ 0) (hle : ev 18446744073709551616 us ≤ ev 18446744073709551616 zs) (bn : n ≤ 1099511627776) :
    Calls Tryz.prog 108 #[.slice A n c, .slice B n d] w (JpPost (Jok (ev 18446744073709551616 zs) (ev 18446744073709551616 us)) w) := by
  have HZL := Lib.hid hzl
  have HUL := Lib.hid hul
  have HT := Lib.hid ht
  have HLE := Lib.hid hle
  clear hzl hul ht hle
  rcases Nat.lt_or_ge 1 n with h1 | h1
  · obtain ⟨m, hm⟩ : ∃ m, n = m + 2 := ⟨n - 2, by omega⟩
    have HM := Lib.hid hm
    have HT2 : Hid (nth zs (m + 1) ≠ 0) := Lib.hid (by have := HT.out; rwa [hm, show m + 2 - 1 = m + 1 by omega] at this)
    have hne : ¬ (n = 1) := by omega
    have b1 : ((n : Int) == 1) = false := by rw [beq_eq_false_iff_ne]; omega
    clear hm
    go_enter Tryz.func108, Tryz.ntmps108
    go_wp2_with fail
    have hz1 := hz.alloc (.cells #[.int .u64 0, .int .u64 0, .int .u64 0, .int .u64 0] 121)
    have hu1 := hu.alloc (.cells #[.int .u64 0, .int .u64 0, .int .u64 0, .int .u64 0] 121)
    refine (leading_calls _ _ n m c d zs us _ hz1 hu1 HZL.out HUL.out HM.out lz lu HT2.out HLE.out bn).mono ?_
    rintro e w3 ⟨X, Y, rfl, hX, hX0, hYX, hK, S3⟩
    have B0 := Lib.hid (S3.below (w.heap.size + 1))
    have Z3 : w3.heap.size = w.heap.size + 1 := by obtain ⟨n, rfl⟩ := S3; simp
    clear S3 hz1 hu1 hz hu
    go_wp2_with fail
    refine (sure_calls X Y hYX hX0 hX _).mono ?_
    intro e w4 P
    obtain ⟨p, q, r, s, rfl, bp, bq, br, bs, hp, hs, hok, R⟩ := jof_end B0.out Z3 P
    obtain ⟨z0, z1, z2, z3, k0, k1, k2, k3, y0, y1, y2, y3, BB⟩ := R
    have HB := Lib.hid BB
    have HOK : Hid (Jok (ev 18446744073709551616 zs) (ev 18446744073709551616 us) p q r s) := Lib.hid (by
      obtain ⟨K, k1, k2⟩ := hK.out
      exact hok.out K _ _ k1 k2)
    clear BB P
    go_wp2_with fail
    refine bodyPost_ret (v := .agg #[.int .u64 (p : Int), .int .u64 (q : Int), .int .u64 (r : Int), .int .u64 (s : Int)]) (by simp [results, Tryz.results108, go_sem, y0, y1, y2, y3]) rfl ?_
    exact ⟨p, q, r, s, rfl, bp, bq, br, bs, hp, hs, HOK, HB.out⟩
  · obtain rfl : n = 1 := by omega
    obtain ⟨X, hX⟩ : ∃ X, zs = [X] := List.length_eq_one_iff.1 HZL.out
    obtain ⟨Y, hY⟩ : ∃ Y, us = [Y] := List.length_eq_one_iff.1 HUL.out
    subst hX hY
    have e1 : ev 18446744073709551616 [X] = X := by simp [ev]
    have e2 : ev 18446744073709551616 [Y] = Y := by simp [ev]
    have hX0 : 0 < X := by have := HT.out; simp [nth] at this; omega
    have hYX : Y ≤ X := by have := HLE.out; rwa [e1, e2] at this
    have hX : X < 18446744073709551616 := lz.head
    rw [e1, e2]
    have B0 := Lib.hid (Below.refl (w.heap.size + 1) (w.alloc (.cells #[.int .u64 0, .int .u64 0, .int .u64 0, .int .u64 0] 121)))
    have hz1 := hz.alloc (.cells #[.int .u64 0, .int .u64 0, .int .u64 0, .int .u64 0] 121)
    have hu1 := hu.alloc (.cells #[.int .u64 0, .int .u64 0, .int .u64 0, .int .u64 0] 121)
    obtain ⟨ad, rfl, l1, c0⟩ := hz1.at (k := 0) (by simp)
    obtain ⟨ae, rfl, l2, d0⟩ := hu1.at (k := 0) (by simp)
    rw [show ad.add 0 = ad by unfold Addr.add; simp, show nth [X] 0 = X from rfl] at c0
    rw [show ae.add 0 = ae by unfold Addr.add; simp, show nth [Y] 0 = Y from rfl] at d0
    clear e1 e2 HZL HUL HT HLE hz hu hz1 hu1
    go_enter Tryz.func108, Tryz.ntmps108
    go_wp2_with fail
    obtain ⟨w1, hw1⟩ : ∃ w1, w1 = w.alloc (.cells #[.int .u64 0, .int .u64 0, .int .u64 0, .int .u64 0] 121) := ⟨_, rfl⟩
    have Z1 : w1.heap.size = w.heap.size + 1 := by rw [hw1]; simp
    rw [← hw1] at c0 d0 l1 l2 ⊢
    have HW1 := Lib.hid hw1
    have HZ1 := Lib.hid Z1
    clear hw1 Z1
    go_still_tail 6, (by kernel_rfl)
    change wpList _ _ _ _ _ w1.drew
    obtain ⟨w2, hw2⟩ : ∃ w2, w2 = w1.drew := ⟨_, rfl⟩
    rw [← hw2]
    have Z2 : Hid (w2.heap.size = w.heap.size + 1) := Lib.hid (by rw [hw2]; exact HZ1.out)
    have B2 : Hid (Below (w.heap.size + 1) (w.alloc (.cells #[.int .u64 0, .int .u64 0, .int .u64 0, .int .u64 0] 121)) w2) := Lib.hid (by rw [hw2, ← HW1.out]; exact (Below.refl _ _).drew)
    clear hw2 c0 d0 l1 l2 B0
    go_wp2_with fail
    refine (whole_calls X Y hYX hX0 hX _).mono ?_
    intro e w4 P
    obtain ⟨p, q, r, s, rfl, bp, bq, br, bs, hp, hs, hok, R⟩ := jof_end B2.out Z2.out P
    obtain ⟨z0, z1, z2, z3, k0, k1, k2, k3, y0, y1, y2, y3, BB⟩ := R
    have HB := Lib.hid BB
    clear BB P
    go_wp2_with fail
    refine bodyPost_ret (v := .agg #[.int .u64 (p : Int), .int .u64 (q : Int), .int .u64 (r : Int), .int .u64 (s : Int)]) (by simp [results, Tryz.results108, go_sem, y0, y1, y2, y3]) rfl ?_
    exact ⟨p, q, r, s, rfl, bp, bq, br, bs, hp, hs, hok, HB.out⟩
def NbPost (v : Nat) (w : World) (e : Ending) (w' : World) : Prop :=
  ∃ g, e = .returned (.slice (some ⟨g, 0, none⟩) (cn 18446744073709551616 v).length (cn 18446744073709551616 v).length) ∧ w.heap.size ≤ g ∧ Blk w' g 52 .u64 (cn 18446744073709551616 v) ∧ Below w.heap.size w w'
theorem norm_blk (A : Option Addr) (n c : Nat) (xs : List Nat) (w : World) (hx : Rd w .u64 A xs) (hxn : xs.length = n)
    (hc : n ≤ c) (hc' : c ≤ 9223372036854775807) (lx : Low 18446744073709551616 xs) (bx : n ≤ 1099511627776) :
    Calls Tryz.prog 74 #[.slice A n c] w (NbPost (ev 18446744073709551616 xs) w) := by
  have sx : sl xs ≤ n := hxn ▸ sl_le xs
  have HX := Lib.hid hxn
  have ht := cn_ev 18446744073709551616 (by omega) xs lx
  have hl : (xs.take (sl xs)).length = sl xs := by simp [Nat.min_eq_left (sl_le xs)]
  have HT := Lib.hid ht
  have HL := Lib.hid hl
  clear hxn ht hl
  go_enter Tryz.func74, Tryz.ntmps74
  go_wp2_with fail
  refine (trim_calls _ _ _ xs _ hx HX.out (by omega) (by omega)).mono ?_
  rintro e w' ⟨rfl, rfl⟩
  go_wp2_with (at_make; refine wpList_make_blk _ rfl _ _ 25 rfl 52 .u64 8 Tryz.underlying25 info_u64 _ _ _ _ (sl xs) rfl rfl (by omega) (by omega) (by omega) (by omega) ?_)
  intro w1 hb1 hw1 hz1
  have HZ := Lib.hid hz1
  clear hz1
  go_wp2_with (refine wpList_copy_splice rfl (.tmp 9) (.tmp 10) _ _ rfl 52 Tryz.underlying25 (by kernel_rfl) (some ⟨w.heap.size, 0, none⟩) A (sl xs) (sl xs) (sl xs) c rfl rfl w.heap.size 0 (vs .u64 (List.replicate (sl xs) 0)) 52 hb1 (vs .u64 (xs.take (sl xs))) ?_ ?_ ?_ (vs_one _ _) w.heap.size w hw1 (Nat.le_refl _) ?_)
  · rw [vs_length, HL.out]; simp
  · intro hp
    rw [vs_length] at hp
    obtain ⟨ad, h1, _, h3⟩ := ((hx.take (sl xs)).below hw1) hp
    exact ⟨ad, h1, fun j v hv => by
      rcases Nat.lt_or_ge j (xs.take (sl xs)).length with hj | hj
      · rw [vs_get hj] at hv
        rw [h3 j hj, hv]
      · rw [List.getElem?_eq_none (by rw [vs_length]; exact hj)] at hv
        cases hv⟩
  · rw [vs_length, vs_length, HL.out]; simp
  · intro w2 hb2 hw2
    go_wp2
    go_ret
    have hb3 : Blk w2 w.heap.size 52 .u64 (xs.take (sl xs)) := by
      have := hb2.out
      rw [splice_all (by rw [vs_length, vs_length, HL.out]; simp)] at this
      exact this
    rw [← HT.out] at hb3
    exact ⟨w.heap.size, by rw [HT.out, HL.out]; rfl, Nat.le_refl _, hb3, hw2⟩
theorem Wb.part {S : Addr → Prop} {w w' : World} {g n : Nat} {t : TypeId} {La zs : List Nat} (h : Wb w g t La) (ht : Tch S w w') (ha : Ar w' g 0 t zs) (hz : zs.length = n) (hn : n ≤ La.length) (hS : ∀ j, n ≤ j → ¬ S ⟨g, j, none⟩) : Wb w' g t (zs ++ La.drop n) := by
  obtain ⟨L', h1, h2, h3⟩ := ht.blk g t La h
  obtain ⟨L'', k1, k2, k3⟩ := ha
  obtain rfl := k1.one h1
  have e : L'' = zs ++ La.drop n := by
    refine ext_nth (by simp; omega) fun j hj => ?_
    by_cases hlt : j < zs.length
    · rw [nth_append_left hlt, ← k3 j hlt, Nat.zero_add]
    · rw [nth_append_right (by omega), nth_drop, h3 j (hS j (by omega)), show n + (j - zs.length) = j by omega]
  rwa [e] at h1
theorem ev_pad' (xs : List Nat) (n : Nat) : ev 18446744073709551616 (xs ++ List.replicate n 0) = ev 18446744073709551616 xs := by
  rw [ev_append, ev_replicate]; simp
def StPost (w : World) (base g n D : Nat) (La : List Nat) (e : Ending) (w' : World) : Prop :=
  ∃ zs : List Nat, e = .returned (.tuple #[]) ∧ zs.length = n ∧ Hid (ev 18446744073709551616 zs = D) ∧ Wb w' g 52 (zs ++ La.drop n) ∧ Tch (Seg g 0 n) w w'
theorem st_end {w w1 w2 : World} {base g n : Nat} {La xs : List Nat} (W : Wb w g 52 La) (hn : n ≤ La.length) (hB : Below w.heap.size w w1) (hP : FiPost w1 g 0 n xs (.returned (.tuple #[])) w2) (hx : xs.length ≤ n) : StPost w base g n (ev 18446744073709551616 xs) La (.returned (.tuple #[])) w2 := by
  obtain ⟨_, ha, ht, _⟩ := hP
  have W1 : Wb w1 g 52 La := ⟨W.1.below hB W.1.lt, W.2⟩
  refine ⟨_, rfl, by simp; omega, Lib.hid (ev_pad' xs _), W1.part ht ha (by simp; omega) hn fun j hj hs => by have := hs.2.2; simp at this; omega, (Tch.of_below _ hB).trans ht⟩
set_option maxRecDepth 100000 in
set_option maxHeartbeats 1000000 in
theorem step_calls (g n cap d m x y : Nat) (B : Option Addr) (La : List Nat) (w : World) (base : Nat) (W : Wb w g 52 La) (hn : n ≤ La.length) (hcap : n ≤ cap) (hx : ev 18446744073709551616 (La.take n) = x) (hcm : cap ≤ 9223372036854775807) (bn : n ≤ 549755813888) (hy : Nv w B m d y) (hm : m ≤ n) (h0 : 0 < y) :
    Calls Tryz.prog 110 #[.slice (some ⟨g, 0, none⟩) n cap, .slice B m d] w (StPost w base g n (x % y) La) := by
  have A0 : Ar w g 0 52 (La.take n) := (Ar.of_wb W).take n hn
  have hl0 : (La.take n).length = n := by simp; omega
  have hxv : Nv w (some ⟨g, 0, none⟩) n cap x := ⟨_, A0.rd, hl0, hcap, hcm, A0.low, hx⟩
  have hxl := hxv.lt
  have hlen : (cn 18446744073709551616 (x % y)).length ≤ n := cn_len_of_lt _ _ _ (by omega) (Nat.lt_of_le_of_lt (Nat.mod_le _ _) hxl)
  have HL0 := Lib.hid hl0
  have E : Hid (∀ w1 w2 : World, Below w.heap.size w w1 → FiPost w1 g 0 n (cn 18446744073709551616 (x % y)) (.returned (.tuple #[])) w2 → StPost w base g n (x % y) La (.returned (.tuple #[])) w2) :=
    Lib.hid (fun w1 w2 h1 h2 => by have := st_end (base := base) W hn h1 h2 hlen; rwa [ev_cn _ _ (by omega)] at this)
  have low := cn_low 18446744073709551616 (x % y) (by omega)
  clear hl0 hx hxl
  go_enter Tryz.func110, Tryz.ntmps110
  go_wp2_with fail
  refine (mod_calls hxv hy (by omega) (by omega) h0).mono ?_
  rintro e w1 ⟨A1, c1, rfl, G1⟩
  have A1' := A0.below G1.2
  have r1 := G1.rd
  have E1 := Lib.hid (fun w2 => E.out w1 w2 G1.2)
  clear E G1 A0 hxv hy W
  generalize cn 18446744073709551616 (x % y) = us at *
  obtain ⟨k, hk⟩ : ∃ k, k = us.length := ⟨_, rfl⟩
  rw [← hk] at hlen
  rw [← hk]
  have HK := Lib.hid hk.symm
  clear hk
  have hS : ∀ j, j < k → Seg g 0 n ⟨g, 0 + j, none⟩ := fun j hj => ⟨rfl, Nat.zero_le _, by simp; omega⟩
  have HS := Lib.hid hS
  have hS2 : ∀ j, j < n - k → Seg g k (n - k) ⟨g, k + j, none⟩ := fun j hj => ⟨rfl, Nat.le_add_right _ _, Nat.add_lt_add_left hj _⟩
  have HS2 := Lib.hid hS2
  have hl2 : ((us ++ (La.take n).drop k).drop k).length = n - k := by have := HK.out; have := HL0.out; simp; omega
  have HL2 := Lib.hid hl2
  have he : ∀ w2 w3 : World, Ar w2 g 0 52 (us ++ (La.take n).drop k) → Tch (Seg g 0 n) w1 w2 → w2.heap.size = w1.heap.size → Ar w3 g k 52 (List.replicate (n - k) 0) → Tch (Seg g k (n - k)) w2 w3 → w3.heap.size = w2.heap.size →
      StPost w base g n (x % y) La (.returned (.tuple #[])) w3 := by
    have := HK.out
    subst this
    exact fun w2 w3 h1 t1 z1 h2 t2 z2 => E1.out w3 (fill_end HL0.out hlen h1 t1 z1 (by rw [Nat.zero_add]; exact h2) (by rw [Nat.zero_add]; exact t2) z2)
  have HE := Lib.hid he
  clear hS hS2 hl2 he E1
  by_cases hc : k = cap
  · obtain rfl : k = n := by omega
    subst hc
    have h0' : k - k = 0 := by omega
    have H0 := Lib.hid h0'
    clear h0'
    go_wp2_with (refine wpList_copy_ar rfl (.tmp 13) (.tmp 14) _ _ rfl 52 Tryz.underlying25 (by kernel_rfl) A1 k k k c1 g 0 52 _ us rfl rfl HL0.out HK.out (Nat.le_refl _) A1' r1 low (Seg g 0 k) HS.out ?_)
    intro w2 h1 t1 z1
    have Z1 := Lib.hid z1
    clear z1
    have e1 : us = us ++ (La.take k).drop k := by rw [List.drop_take]; simp
    rw [e1] at h1
    have h2 := h1.drop k (by have := HK.out; simp; omega)
    rw [Nat.zero_add] at h2
    have H1 := Lib.hid h1
    clear h1 e1
    go_wp2_with (refine wpList_clear_ar rfl (.tmp 18) _ rfl 52 Tryz.underlying25 zero_u64 _ 0 _ g k 52 _ rfl (fun h => by omega) (HL2.out.trans H0.out) h2 (Seg g k (k - k)) (fun j hj => by omega) ?_)
    intro w3 h3 t3 z3
    have Z3 := Lib.hid z3
    clear z3
    go_wp2
    go_end0
    exact HE.out _ _ H1.out t1 Z1.out (by rw [H0.out]; exact h3) (by rw [H0.out]; exact t3) Z3.out
  · have hlt : k < cap := by omega
    clear hc
    go_wp2_with (refine wpList_copy_ar rfl (.tmp 13) (.tmp 14) _ _ rfl 52 Tryz.underlying25 (by kernel_rfl) A1 n cap k c1 g 0 52 _ us rfl rfl HL0.out HK.out hlen A1' r1 low (Seg g 0 n) HS.out ?_)
    intro w2 h1 t1 z1
    have Z1 := Lib.hid z1
    clear z1
    have h2 := h1.drop k (by have := HK.out; have := HL0.out; simp; omega)
    rw [Nat.zero_add] at h2
    go_wp2_with (refine wpList_clear_ar rfl (.tmp 18) _ rfl 52 Tryz.underlying25 zero_u64 _ (n - k) _ g k 52 _ rfl (fun h => rfl) HL2.out h2 (Seg g k (n - k)) HS2.out ?_)
    intro w3 h3 t3 z3
    have Z3 := Lib.hid z3
    clear z3
    go_wp2
    go_end0
    exact HE.out _ _ h1 t1 Z1.out h3 t3 Z3.out
end Go.Proofs.YtddbhhedjipjkaaGreatDoor
