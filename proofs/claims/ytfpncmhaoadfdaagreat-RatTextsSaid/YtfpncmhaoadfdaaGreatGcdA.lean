/-
  Packages div, lehmer: gcdOfWords, mulAdd, twoProducts.next, difference, sum.
-/
import Derived.Test.YtfpncmhaoadfdaaGreatDivE
import Derived.StillTailTactics
/-! Contracts: div.gcdOfWords, lehmer.mulAdd, twoProducts.next, difference, sum. -/
namespace Go.Proofs.YtfpncmhaoadfdaaGreat
open Go.RowKit
set_option linter.unusedVariables false

set_option maxHeartbeats 400000 in
theorem gw_calls (x y : Nat) (hx : x < 18446744073709551616) (hy : y < 18446744073709551616) (w : World) :
    Calls Tryz.prog 53 #[.int .u64 x, .int .u64 y] w fun e w' => e = .returned (.int .u64 ((Nat.gcd x y : Nat) : Int)) ∧ Sees w w' := by
  obtain ⟨g, hg⟩ : ∃ g, g = Nat.gcd x y := ⟨_, rfl⟩
  rw [← hg]
  have HG := Lib.hid hg.symm
  clear hg
  go_enter Tryz.func53, Tryz.ntmps53
  go_wp2
  go_loopg [0, 1] y (fun k s0 s1 wr => Sees w wr ∧ ∃ a : Nat, s0 = .int .u64 (a : Int) ∧ s1 = .int .u64 (k : Int) ∧ a < 18446744073709551616 ∧ k < 18446744073709551616 ∧ Hid (Nat.gcd a k = g))
  case atStart => exact ⟨Sees.refl _, x, rfl, rfl, hx, hy, HG⟩
  case round =>
    obtain ⟨hs, a, rfl, rfl, ha, hk, hgcd⟩ := hrel
    rcases Nat.eq_zero_or_pos gk with rfl | h0
    · have hag : Hid (a = g) := Lib.hid (by rw [← hgcd.out, Nat.gcd_zero_right])
      go_wp2
      go_ret
      exact ⟨by rw [← hag.out]; rfl, hs⟩
    · obtain ⟨r, hr⟩ : ∃ r, r = a % gk := ⟨_, rfl⟩
      have e1 : (a : Int) % (gk : Int) = (r : Int) := by rw [hr]; rfl
      have e2 : (a : Int).tmod (gk : Int) = (r : Int) := by rw [hr]; rfl
      have hrk : r < gk := by rw [hr]; exact Nat.mod_lt _ h0
      have e3 : IntKind.u64.wrap (r : Int) = (r : Int) := by rw [IntKind.wrap_u64]; omega
      have b1 : ((gk : Int) == 0) = false := by rw [beq_eq_false_iff_ne]; omega
      have b2 : ((gk : Int) != 0) = true := by rw [bne_iff_ne]; omega
      have b3 : ¬ (gk = 0) := by omega
      have hn : Hid (Nat.gcd gk r = g) := Lib.hid (by rw [← hgcd.out, hr, Nat.gcd_comm a gk, Nat.gcd_comm gk (a % gk)]; exact (Nat.gcd_rec gk a).symm)
      have hr2 : r < 18446744073709551616 := by omega
      have HRK := Lib.hid hrk
      clear hr hrk hgcd h0
      go_wp2
      go_quiet (fail)
      go_wp2
      go_roundg r
      case rel => exact ⟨hs.more _, gk, rfl, rfl, hk, hr2, hn⟩
      case measure => exact HRK.out

/-- Both words of a product and a word more, the lesser one first. -/
def MaPost (v x y : Nat) (w : World) (e : Ending) (w' : World) : Prop :=
  ∃ lo hi : Nat, e = .returned (.tuple #[.int .u64 (lo : Int), .int .u64 (hi : Int)]) ∧ lo + 18446744073709551616 * hi = v * x + y ∧ lo < 18446744073709551616 ∧ hi < 18446744073709551616 ∧ w = w'
theorem madd_calls (v x y : Nat) (hv : v < 18446744073709551616) (hx : x < 18446744073709551616) (hy : y < 18446744073709551616) (w : World) :
    Calls Tryz.prog 108 #[.int .u64 v, .int .u64 x, .int .u64 y] w (MaPost v x y w) := by
  go_enter Tryz.func108, Tryz.ntmps108
  go_wp2_with fail
  refine (mul64_calls _ _ hv hx _).mono ?_
  rintro e w' ⟨hi, lo, rfl, h0, h1, h2, rfl⟩
  obtain ⟨s1, o1, f1, f2, f3, f4⟩ := add64_two lo y h2 hy
  have hsum : s1 + 18446744073709551616 * (hi + o1) = v * x + y := by omega
  have P : Hid (MaPost v x y w (.returned (.tuple #[.int .u64 (s1 : Int), .int .u64 ((hi + o1 : Nat) : Int)])) w) := Lib.hid ⟨s1, hi + o1, rfl, hsum, f3, by omega, rfl⟩
  clear h0 f2 hsum
  go_wp2_with fail
  go_ret2
  have := P.out
  simpa using this

theorem madd_fn (v x y : Nat) (hv : v < 18446744073709551616) (hx : x < 18446744073709551616) (hy : y < 18446744073709551616) :
    ∃ lo hi : Nat, (∀ w, Calls Tryz.prog 108 #[.int .u64 v, .int .u64 x, .int .u64 y] w fun e w' => e = .returned (.tuple #[.int .u64 (lo : Int), .int .u64 (hi : Int)]) ∧ w' = w) ∧
      lo + 18446744073709551616 * hi = v * x + y ∧ lo < 18446744073709551616 ∧ hi < 18446744073709551616 := by
  have h1 : v * x ≤ 18446744073709551615 * 18446744073709551615 := Nat.mul_le_mul (by omega) (by omega)
  refine ⟨(v * x + y) % 18446744073709551616, (v * x + y) / 18446744073709551616, fun w => (madd_calls v x y hv hx hy w).mono ?_, by omega, by omega, by omega⟩
  rintro e w' ⟨lo, hi, rfl, h2, h3, h4, rfl⟩
  exact ⟨by rw [← h2, show (lo + 18446744073709551616 * hi) % 18446744073709551616 = lo by omega, show (lo + 18446744073709551616 * hi) / 18446744073709551616 = hi by omega], rfl⟩

/-- Two products, word by word: what next answers and leaves. -/
def NxPost (w : World) (h x y m l b v u : Nat) (e : Ending) (w' : World) : Prop :=
  ∃ lo1 lo2 m' l' : Nat, e = .returned (.tuple #[.int .u64 (lo1 : Int), .int .u64 (lo2 : Int)]) ∧ lo1 < 18446744073709551616 ∧ lo2 < 18446744073709551616 ∧ Hid (lo1 + 18446744073709551616 * m' = v * x + m) ∧ Hid (lo2 + 18446744073709551616 * l' = u * y + l) ∧ m' < 18446744073709551616 ∧ l' < 18446744073709551616 ∧
    Wb w' h 110 [x, y, m', l', b] ∧ Tch (fun a => a.block = h) w w' ∧ w'.heap.size = w.heap.size
set_option maxRecDepth 100000 in
set_option maxHeartbeats 1000000 in
theorem next_calls (w : World) (h x y m l b v u : Nat) (hb : Wb w h 110 [x, y, m, l, b]) (hv : v < 18446744073709551616) (hu : u < 18446744073709551616) :
    Calls Tryz.prog 103 #[.pointer (some ⟨h, 0, none⟩), .int .u64 v, .int .u64 u] w (NxPost w h x y m l b v u) := by
  have c0 := hb.1.cell (j := 0) (by simp)
  have c1 := hb.1.cell (j := 1) (by simp)
  have c2 := hb.1.cell (j := 2) (by simp)
  have c3 := hb.1.cell (j := 3) (by simp)
  have f2 := hb.1.free 2
  simp only [nth, List.getD_cons_zero, List.getD_cons_succ] at c0 c1 c2 c3
  have x1 : x < 18446744073709551616 := hb.2 0 (by simp)
  have x2 : y < 18446744073709551616 := hb.2 1 (by simp)
  have x3 : m < 18446744073709551616 := hb.2 2 (by simp)
  have x4 : l < 18446744073709551616 := hb.2 3 (by simp)
  go_enter Tryz.func103, Tryz.ntmps103
  obtain ⟨lo1, hi1, M1, E1, y1, y2⟩ := madd_fn v x m hv x1 x3
  obtain ⟨lo2, hi2, M2, E2, y3, y4⟩ := madd_fn u y l hu x2 x4
  have HE1 := Lib.hid E1
  have HE2 := Lib.hid E2
  clear E1 E2
  go_wp2_with fail
  go_still_tail 17, (by kernel_rfl)
  still_call (M1 _)
  repeat still_step
  refine wpStill_nil ?_
  change wpList _ _ _ _ _ w.drew
  have B1 := below_drew w
  have W1 : Wb w.drew h 110 [x, y, m, l, b] := hb
  have Z1 : w.drew.heap.size = w.heap.size := rfl
  obtain ⟨w1, hw1⟩ : ∃ w1, w1 = w.drew := ⟨_, rfl⟩
  rw [← hw1] at B1 W1 Z1 ⊢
  have c2' := W1.1.cell (j := 2) (by simp)
  have f2' := W1.1.free 2
  obtain ⟨T2, W2⟩ := Tch.store (S := fun a => a.block = h) W1 2 y2 rfl
  simp only [List.set_cons_succ, List.set_cons_zero] at W2
  clear hw1 c0 c1 c2 c3 f2 hb
  have HW1 := Lib.hid W1
  have HW2 := Lib.hid W2
  have HT2 := Lib.hid T2
  have HB1 := Lib.hid B1
  have HZ1 := Lib.hid Z1
  clear W1 W2 T2 B1 Z1
  go_wp2_with fail
  obtain ⟨w2, hw2⟩ : ∃ w2, w2 = w1.setCell ⟨h, 2, none⟩ (.int .u64 (hi1 : Int)) := ⟨_, rfl⟩
  have W2 := HW2.out
  have T2 := HT2.out
  have Z2 : w2.heap.size = w.heap.size := by rw [hw2, ← HZ1.out]; simp
  rw [← hw2] at W2 T2 ⊢
  have d1 := W2.1.cell (j := 1) (by simp)
  have d3 := W2.1.cell (j := 3) (by simp)
  have f3 := W2.1.free 3
  simp only [nth, List.getD_cons_zero, List.getD_cons_succ] at d1 d3
  have HW3 := Lib.hid W2
  have HT3 := Lib.hid T2
  have HZ2 := Lib.hid Z2
  clear hw2 W2 T2 Z2 HW2 HT2 c2' f2'
  go_still_tail 17, (by kernel_rfl)
  still_call (M2 _)
  repeat still_step
  refine wpStill_nil ?_
  change wpList _ _ _ _ _ w2.drew
  have B3 := below_drew w2
  have W3 : Wb w2.drew h 110 [x, y, hi1, l, b] := HW3.out
  have Z3 : w2.drew.heap.size = w2.heap.size := rfl
  obtain ⟨w3, hw3⟩ : ∃ w3, w3 = w2.drew := ⟨_, rfl⟩
  rw [← hw3] at B3 W3 Z3 ⊢
  have c3' := W3.1.cell (j := 3) (by simp)
  have f3' := W3.1.free 3
  obtain ⟨T4, W4⟩ := Tch.store (S := fun a => a.block = h) W3 3 y4 rfl
  simp only [List.set_cons_succ, List.set_cons_zero] at W4
  have HT : Hid (Tch (fun a => a.block = h) w (w3.setCell ⟨h, 3, none⟩ (.int .u64 (hi2 : Int)))) :=
    Lib.hid (((Tch.of_below _ HB1.out).trans HT3.out).trans ((Tch.of_below _ B3).trans T4))
  have HW4 := Lib.hid W4
  have HZ4 : Hid ((w3.setCell ⟨h, 3, none⟩ (.int .u64 (hi2 : Int))).heap.size = w.heap.size) := Lib.hid (by simp; rw [Z3, HZ2.out])
  clear hw3 W3 Z3 W4 T4 B3 d1 d3 f3
  go_wp2_with fail
  go_ret2
  exact ⟨lo1, lo2, hi1, hi2, rfl, y1, y3, HE1, HE2, y2, y4, HW4.out, HT.out, HZ4.out⟩

/-- A difference of products, word by word: what difference answers and leaves. -/
def DfPost (w : World) (h x y m l b v u : Nat) (e : Ending) (w' : World) : Prop :=
  ∃ z m' l' b' : Nat, e = .returned (.int .u64 (z : Int)) ∧ z < 18446744073709551616 ∧ Hid (z + u * y + l + b + 18446744073709551616 * m' = v * x + m + 18446744073709551616 * (l' + b')) ∧ m' < 18446744073709551616 ∧ l' < 18446744073709551616 ∧ b' ≤ 1 ∧
    Wb w' h 110 [x, y, m', l', b'] ∧ Tch (fun a => a.block = h) w w' ∧ w'.heap.size = w.heap.size
set_option maxRecDepth 100000 in
set_option maxHeartbeats 1000000 in
theorem diff_calls (w : World) (h x y m l b v u : Nat) (hb : Wb w h 110 [x, y, m, l, b]) (hb1 : b ≤ 1) (hv : v < 18446744073709551616) (hu : u < 18446744073709551616) :
    Calls Tryz.prog 90 #[.pointer (some ⟨h, 0, none⟩), .int .u64 v, .int .u64 u] w (DfPost w h x y m l b v u) := by
  go_enter Tryz.func90, Tryz.ntmps90
  go_wp2_with fail
  refine (next_calls w h x y m l b v u hb hv hu).mono ?_
  rintro e w1 ⟨lo1, lo2, m', l', rfl, h1, h2, e1, e2, h3, h4, W1, T1, Z1⟩
  obtain ⟨z, o, s1, s2, s3, s4⟩ := sub64_pair lo1 lo2 b h1 h2 hb1
  have HS := Lib.hid s2
  have c4 := W1.1.cell (j := 4) (by simp)
  have f4 := W1.1.free 4
  simp only [nth, List.getD_cons_zero, List.getD_cons_succ] at c4
  obtain ⟨T2, W2⟩ := Tch.store (S := fun a => a.block = h) W1 4 (n := o) (by omega) rfl
  simp only [List.set_cons_succ, List.set_cons_zero] at W2
  have hsum : Hid (z + u * y + l + b + 18446744073709551616 * m' = v * x + m + 18446744073709551616 * (l' + o)) := Lib.hid (by have e1 := e1.out; have e2 := e2.out; have e3 := HS.out; generalize v * x = P at *; generalize u * y = Q at *; omega)
  have HP : Hid (DfPost w h x y m l b v u (.returned (.int .u64 (z : Int))) (w1.setCell ⟨h, 4, none⟩ (.int .u64 (o : Int)))) := Lib.hid ⟨z, m', l', o, rfl, s3, hsum, h3, h4, s4, W2, T1.trans T2, by simp; exact Z1⟩
  clear s2 W1 W2 T1 T2 Z1 hb e1 e2 hsum HS
  go_wp2_with fail
  go_ret
  exact HP.out

/-- A sum of products, word by word: what sum answers and leaves. -/
def SdPost (w : World) (h x y m l b v u : Nat) (e : Ending) (w' : World) : Prop :=
  ∃ z m' l' b' : Nat, e = .returned (.int .u64 (z : Int)) ∧ z < 18446744073709551616 ∧ Hid (z + 18446744073709551616 * (m' + l' + b') = v * x + m + (u * y + l) + b) ∧ m' < 18446744073709551616 ∧ l' < 18446744073709551616 ∧ b' ≤ 1 ∧
    Wb w' h 110 [x, y, m', l', b'] ∧ Tch (fun a => a.block = h) w w' ∧ w'.heap.size = w.heap.size
end Go.Proofs.YtfpncmhaoadfdaaGreat
