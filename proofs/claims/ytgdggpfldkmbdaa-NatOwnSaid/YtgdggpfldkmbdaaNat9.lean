/-
  Contract: nat.MulAdd.
-/
import Derived.Test.YtgdggpfldkmbdaaRef6
namespace Go.Proofs.Ytgdggpfldkmbdaa
open Go.RowKit

/-- The loop of nat.MulAdd: k words are done. -/
def ScRel (w : World) (xs : List Nat) (x y n k : Nat) (s : Value) (wr : World) : Prop :=
  ∃ (c r : Nat) (zs : List Nat), Scaling 18446744073709551616 xs zs x y k c ∧ s = .int .u64 c ∧ k + r = n ∧ Blk wr w.heap.size 37 .u64 (zs ++ List.replicate (r + 1) 0) ∧ Below w.heap.size w wr
theorem ScRel.next {w wr : World} {xs zs : List Nat} {x y n k c r d c' : Nat} {s : Value} (ha : Scaling 18446744073709551616 xs zs x y k c)
    (hn : k + (r + 1) = n) (hb : Blk wr w.heap.size 37 .u64 (zs ++ List.replicate (r + 1 + 1) 0)) (hw : Below w.heap.size w wr)
    (hd : d < 18446744073709551616) (hc : c' < 18446744073709551616) (he : d + 18446744073709551616 * c' = nth xs k * x + c) (hs : s = .int .u64 (c' : Int)) :
    ScRel w xs x y n (k + 1) s (wr.setCell ⟨w.heap.size, k, none⟩ (.int .u64 (d : Int))) := by
  have h := hb.set zs.length d
  rw [set_end, ha.1] at h
  exact ⟨_, r, _, ha.step hd hc he, hs, by omega, h, hw.setCell (Nat.le_refl _) _⟩
theorem ma_sum {p hi lo c s o : Nat} (h0 : hi * 18446744073709551616 + lo = p) (h1 : s + 18446744073709551616 * o = lo + c) : s + 18446744073709551616 * (hi + o) = p + c := by omega

set_option maxHeartbeats 400000 in
theorem muladd_calls (A : Option Addr) (n c : Nat) (xs : List Nat) (x y : Nat) (w : World) (hx : Rd w .u64 A xs) (hxn : xs.length = n)
    (hc : n ≤ c) (hc' : c ≤ 9223372036854775807) (lx : Low 18446744073709551616 xs) (bx : n ≤ 1099511627776) (hX : x < 18446744073709551616) (hY : y < 18446744073709551616) :
    Calls Try.prog 22 #[.slice A n c, .int .u64 x, .int .u64 y] w (NatPost (ev 18446744073709551616 xs * x + y) w) := by
  have sx : sl xs ≤ n := hxn ▸ sl_le xs
  have HX := Lib.hid hxn
  rw [← ev_take_sl _ xs]
  obtain ⟨us, hus⟩ : ∃ us, us = xs.take (sl xs) := ⟨_, rfl⟩
  have hux : Rd w .u64 A us := hus ▸ hx.take _
  have lu : Low 18446744073709551616 us := hus ▸ lx.take _
  have eu : sl xs = us.length := by rw [hus]; simp [Nat.min_eq_left (sl_le xs)]
  rw [← hus]
  have hmx : us.length ≤ 1099511627776 := by omega
  have EU := Lib.hid eu
  clear hxn hus eu
  go_enter Try.func22, Try.ntmps22
  go_wp2_with fail
  refine (trim_calls _ _ _ xs _ hx HX.out (by omega) (by omega)).mono ?_
  rintro e w' ⟨rfl, rfl⟩
  rw [EU.out]
  clear hx lx sx HX hc hc' bx EU
  go_wp2_with (at_make; refine wpList_make_blk _ rfl _ _ 23 rfl 37 .u64 8 Try.underlying23 info_u64 _ _ _ _ (us.length + 1) rfl rfl (by omega) (by omega) (by omega) (by omega) ?_)
  intro w1 hb1 hw1 hz1
  have HZ := Lib.hid hz1
  clear hz1
  go_wp2
  go_loopw [8, 23] (fun s i wr => ∃ k : Nat, k ≤ us.length ∧ i = .int .i64 k ∧ ScRel w us x y us.length k s wr) (fun _ i _ => us.length - (intOf i).toNat)
  case atStart => exact ⟨0, Nat.zero_le _, rfl, y, us.length, [], Scaling.start _ _ _ hY, rfl, by omega, hb1, hw1⟩
  case round =>
    obtain ⟨k, hk, rfl, cr, r, zs, ha, rfl, hkr, hb, hw⟩ := hrel
    by_cases hlt : k < us.length
    · obtain ⟨r, rfl⟩ : ∃ q, r = q + 1 := ⟨r - 1, by omega⟩
      obtain ⟨ad, rfl, _, c1⟩ := (hux.below hw).at (k := k) (by omega)
      have cs := hb.cell (j := k) (by simp [ha.1])
      have cf := hb.free k
      have b1 := lu.any (by omega) k
      have b3 := ha.2.2.1
      have HA := Lib.hid ha
      have HK := Lib.hid hkr
      clear ha hkr
      go_wp2_with fail
      refine (mul64_calls _ _ b1 hX _).mono ?_
      rintro e w' ⟨hi, lo, rfl, h0, h1, h2, rfl⟩
      obtain ⟨s1, o1, f1, f2, f3, f4⟩ := add64_two lo cr h2 b3
      have t1 := ma_sum h0 f2
      have t2 : hi + o1 < 18446744073709551616 := by omega
      have T1 := Lib.hid t1
      clear h0 f2 t1
      go_wp2_with fail
      go_roundw
      case rel => exact ⟨k + 1, by omega, by go_num, ScRel.next HA.out HK.out hb hw f3 t2 T1.out (by go_num)⟩
      case measure => simp [intOf]; omega
    · obtain rfl : k = us.length := by omega
      obtain rfl : r = 0 := by omega
      have cs := hb.cell (j := us.length) (by simp [ha.1])
      have cf := hb.free us.length
      have hb2 := hb.set zs.length cr
      rw [set_end, ha.1] at hb2
      obtain ⟨s1, s2, s3⟩ := ha.stop (Nat.le_refl _)
      have S2 := Lib.hid s2
      have S3 := Lib.hid s3
      clear s2 s3 ha hkr hlt hb
      go_wp2_with fail
      simp only [List.replicate_zero, List.append_nil] at hb2
      refine (trim_calls _ _ _ (zs ++ [cr]) _ hb2.rd0 S3.out (Nat.le_refl _) (by omega)).mono ?_
      rintro e w' ⟨rfl, rfl⟩
      go_wp2
      go_ret
      exact nat_end hb2 (Nat.le_refl _) (hw.setCell (Nat.le_refl _) _) S3.out (by omega) s1 S2.out
theorem muladd_v {A : Option Addr} {n c v x y : Nat} {w : World} (hv : Nv w A n c v) (hn : n ≤ 1099511627776) (hX : x < 18446744073709551616) (hY : y < 18446744073709551616) :
    Calls Try.prog 22 #[.slice A n c, .int .u64 x, .int .u64 y] w (CvPost (v * x + y) (n + 1) w) := by
  have l1 := hv.lt
  obtain ⟨xs, h1, h2, h3, h4, h5, rfl⟩ := hv
  refine (muladd_calls A n c xs x y w h1 h2 h3 h4 h5 hn hX hY).mono fun _ _ h => h.cv ?_
  rw [Nat.pow_succ]
  have h6 : (ev 18446744073709551616 xs + 1) * 18446744073709551616 ≤ 18446744073709551616 ^ n * 18446744073709551616 := Nat.mul_le_mul_right _ l1
  have h7 : ev 18446744073709551616 xs * x ≤ ev 18446744073709551616 xs * 18446744073709551615 := Nat.mul_le_mul_left _ (by omega)
  omega
end Go.Proofs.Ytgdggpfldkmbdaa
