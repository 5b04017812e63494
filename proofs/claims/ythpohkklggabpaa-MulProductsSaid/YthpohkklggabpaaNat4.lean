/-
  Contracts: math/bits.Mul64, nat.addProduct.
-/
import Derived.Test.YthpohkklggabpaaNat3
import Derived.Shelf.Bits.Mul64
namespace Go.Proofs
open Go.Shelf
def Try.laysMul64_ren : Go.Shelf.Ren := ⟨fun | 264 => 46 | n => n, fun | 53 => 45 | 46 => 54 | n => n, fun | n => n⟩
theorem Try.laysMul64 : Go.Proofs.Lays.n264 Try.prog Try.laysMul64_ren := {
  mixed := by kernel_rfl
  f264 := Try.func46.trans (congrArg some (by kernel_rfl))
  t46 := Try.underlying54
  a46 := Try.isAgg54
  z46 := Try.sizeOf54
  v46 := Try.zeroValue54
  t53 := Try.underlying45
  a53 := Try.isAgg45
  z53 := Try.sizeOf45
  v53 := Try.zeroValue45 }
end Go.Proofs
namespace Go.Proofs.Ythpohkklggabpaa
open Go.RowKit

/-- Both words of a product. -/
def MulPost (x y : Nat) (w : World) (e : Ending) (w' : World) : Prop :=
  ∃ hi lo : Nat, e = .returned (.tuple #[.int .u64 (hi : Int), .int .u64 (lo : Int)]) ∧ hi * 18446744073709551616 + lo = x * y ∧ hi ≤ 18446744073709551614 ∧ lo < 18446744073709551616 ∧ w = w'
theorem mul64_calls (x y : Nat) (hx : x < 18446744073709551616) (hy : y < 18446744073709551616) (w : World) :
    Calls Try.prog 46 #[.int .u64 x, .int .u64 y] w (MulPost x y w) :=
  (Any.bits_Mul64 Try.laysMul64 x y hx hy w).mono fun _ _ ⟨he, hw⟩ => by
    have h1 : x * y ≤ 18446744073709551615 * 18446744073709551615 := Nat.mul_le_mul (by omega) (by omega)
    exact ⟨x * y / 18446744073709551616, x * y % 18446744073709551616, he, by omega, by omega, by omega, hw.symm⟩

theorem add64_pair (x y c : Nat) (hx : x < 18446744073709551616) (hy : y < 18446744073709551616) (hc : c ≤ 1) :
    ∃ s o : Nat, (∀ w, (callFunc 43 #[.int .u64 x, .int .u64 y, .int .u64 c]).run Try.prog w = .ok (.value (.tuple #[.int .u64 (s : Int), .int .u64 (o : Int)])) w) ∧
      s + 18446744073709551616 * o = x + y + c ∧ s < 18446744073709551616 ∧ o ≤ 1 :=
  ⟨(x + y + c) % 18446744073709551616, (x + y + c) / 18446744073709551616, add64_run x y c hc, by omega, by omega, by omega⟩
theorem add64_two (x y : Nat) (hx : x < 18446744073709551616) (hy : y < 18446744073709551616) :
    ∃ s o : Nat, (∀ w, (callFunc 43 #[.int .u64 x, .int .u64 y, .int .u64 0]).run Try.prog w = .ok (.value (.tuple #[.int .u64 (s : Int), .int .u64 (o : Int)])) w) ∧
      s + 18446744073709551616 * o = x + y ∧ s < 18446744073709551616 ∧ o ≤ 1 :=
  add64_pair x y 0 hx hy (by omega)

theorem grown_set {w wr : World} {g : Nat} (h : w.grownBy wr (some g)) (j : Nat) (u : Value) : w.grownBy (wr.setCell ⟨g, j, none⟩ u) (some g) :=
  ⟨h.os, h.tape, h.output, by simpa using h.size, fun k hk hne => (Below.heap_setCell wr ⟨g, j, none⟩ u k (fun e => hne (by simp [e]))).trans (h.block k hk hne)⟩
theorem grown_trans {a b c : World} {r : Option Nat} (h : a.grownBy b r) (k : b.grownBy c r) : a.grownBy c r :=
  ⟨k.os.trans h.os, k.tape.trans h.tape, k.output.trans h.output, Nat.le_trans h.size k.size, fun i hi hne => (k.block i (Nat.lt_of_lt_of_le hi h.size) hne).trans (h.block i hi hne)⟩

/-- nat.addProduct, in the middle: k words are done. -/
def ApRel (w : World) (g off : Nat) (L xs : List Nat) (x k : Nat) (s : Value) (wr : World) : Prop :=
  ∃ (c : Nat) (zs : List Nat), Muling 18446744073709551616 (L.drop off) xs zs x k c ∧ s = .int .u64 c ∧ Blk wr g 45 .u64 (L.take off ++ zs ++ L.drop (off + k)) ∧ w.grownBy wr (some g) ∧ wr.heap.size = w.heap.size
/-- What nat.addProduct leaves. -/
def ApPost (w : World) (g off : Nat) (L xs : List Nat) (x n : Nat) (e : Ending) (w' : World) : Prop :=
  ∃ s, e = .returned s ∧ ApRel w g off L xs x n s w'

theorem ap_sum {m p hi lo c s1 o1 s2 o2 : Nat} (h0 : hi * 18446744073709551616 + lo = p) (h1 : s1 + 18446744073709551616 * o1 = lo + c) (h2 : s2 + 18446744073709551616 * o2 = m + s1) :
    s2 + 18446744073709551616 * (hi + o1 + o2) = m + p + c := by omega
theorem ap_low {m a b hi lo c s1 o1 s2 o2 : Nat} (ha : a < 18446744073709551616) (hb : b < 18446744073709551616) (hm : m < 18446744073709551616) (hc : c < 18446744073709551616)
    (h0 : hi * 18446744073709551616 + lo = a * b) (h1 : s1 + 18446744073709551616 * o1 = lo + c) (h2 : s2 + 18446744073709551616 * o2 = m + s1) : hi + o1 + o2 < 18446744073709551616 := by
  have h3 : a * b ≤ 18446744073709551615 * 18446744073709551615 := Nat.mul_le_mul (by omega) (by omega)
  omega

theorem ApRel.next {w wr : World} {g off k c s2 c' : Nat} {L xs zs : List Nat} {x : Nat} {s : Value} (hm : Muling 18446744073709551616 (L.drop off) xs zs x k c)
    (hbk : Blk wr g 45 .u64 (L.take off ++ zs ++ L.drop (off + k))) (hg : w.grownBy wr (some g)) (hz : wr.heap.size = w.heap.size) (hk : off + k < L.length)
    (h2 : s2 < 18446744073709551616) (hc : c' < 18446744073709551616) (he : s2 + 18446744073709551616 * c' = nth L (off + k) + nth xs k * x + c) (hs : s = .int .u64 (c' : Int)) :
    ApRel w g off L xs x (k + 1) s (wr.setCell ⟨g, off + k, none⟩ (.int .u64 (s2 : Int))) := by
  have h := hbk.set (off + k) s2
  rw [set_mid hm.1 hk] at h
  exact ⟨c', _, hm.step h2 hc (by rw [nth_drop]; exact he), hs, h, grown_set hg _ _, by simpa using hz⟩

set_option maxHeartbeats 400000 in
theorem ap_calls (g off n cap d : Nat) (B : Option Addr) (L xs : List Nat) (x : Nat) (w : World) (hb : Blk w g 45 .u64 L) (hy : Rd w .u64 B xs) (hn : xs.length = n)
    (hB : ∀ ad, B = some ad → ad.block ≠ g) (hoff : off + n ≤ L.length) (lL : Low 18446744073709551616 L) (lx : Low 18446744073709551616 xs) (hx : x < 18446744073709551616) (bn : L.length ≤ 9223372036854775807) :
    Calls Try.prog 32 #[.slice (some ⟨g, off, none⟩) n cap, .slice B n d, .int .u64 x] w (ApPost w g off L xs x n) := by
  have HN := Lib.hid hn
  clear hn
  go_enter Try.func32, Try.ntmps32
  go_wp2
  go_loopw [7, 15] (fun s i wr => ∃ k : Nat, k ≤ n ∧ i = .int .i64 k ∧ ApRel w g off L xs x k s wr) (fun _ i _ => n - (intOf i).toNat)
  case atStart => exact ⟨0, Nat.zero_le _, rfl, 0, [], Muling.start (by omega) _ _ _, rfl, by simpa using hb, ⟨rfl, rfl, rfl, Nat.le_refl _, fun _ _ _ => rfl⟩, rfl⟩
  case round =>
    obtain ⟨k, hk, rfl, c, zs, hm, rfl, hbk, hg, hz⟩ := hrel
    by_cases hlt : k < n
    · have hy' := hy.grown hg (fun ad ha => by intro e; exact hB ad ha (Option.some.inj e))
      obtain ⟨ad, rfl, _, c1⟩ := hy'.at (k := k) (by have := HN.out; omega)
      have cs := hbk.cell (j := off + k) (by rw [length_mid hm.1 (by omega)]; omega)
      rw [nth_mid hm.1 (by omega)] at cs
      have cf := hbk.free (off + k)
      have b1 := lx.any (by omega) k
      have b2 := lL.any (by omega) (off + k)
      have b3 := hm.2.2.1
      have hm' := Lib.hid hm
      have hz' := Lib.hid hz
      clear hm hy' hz
      go_wp2_with fail
      refine (mul64_calls _ _ b1 hx _).mono ?_
      rintro e w' ⟨hi, lo, rfl, h0, h1, h2, rfl⟩
      obtain ⟨s1, o1, f1, f2, f3, f4⟩ := add64_two lo c h2 b3
      obtain ⟨s2, o2, g1, g2, g3, g4⟩ := add64_two (nth L (off + k)) s1 b2 f3
      have t1 := ap_sum h0 f2 g2
      have t2 := ap_low b1 hx b2 b3 h0 f2 g2
      have T1 := Lib.hid t1
      clear h0 f2 g2 t1
      go_wp2_with fail
      go_roundw
      case rel => exact ⟨k + 1, by omega, by go_num, ApRel.next hm'.out hbk hg hz'.out (by omega) g3 t2 T1.out (by go_num)⟩
      case measure => simp [intOf]; omega
    · obtain rfl : k = n := by omega
      have hm' := Lib.hid hm
      have hz' := Lib.hid hz
      clear hm hlt hz
      go_wp2
      go_ret
      exact ⟨_, rfl, c, zs, hm'.out, rfl, hbk, hg, hz'.out⟩
end Go.Proofs.Ythpohkklggabpaa
