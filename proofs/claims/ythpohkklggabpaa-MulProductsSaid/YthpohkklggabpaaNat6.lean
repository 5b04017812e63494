/-
  The contracts of package nat by value: what a slice of words stands for; quincunxlaw01.awake and few.
-/
import Derived.Test.YthpohkklggabpaaNat5
namespace Go.Proofs.Ythpohkklggabpaa
open Go.RowKit

/-- The slice (A, n, c) reads as words of the number v. -/
def Nv (w : World) (A : Option Addr) (n c v : Nat) : Prop :=
  ∃ xs, Rd w .u64 A xs ∧ xs.length = n ∧ n ≤ c ∧ c ≤ 9223372036854775807 ∧ Low 18446744073709551616 xs ∧ ev 18446744073709551616 xs = v
theorem Nv.below {w w' : World} {A : Option Addr} {n c v : Nat} (h : Nv w A n c v) (hb : Below w.heap.size w w') : Nv w' A n c v := by
  obtain ⟨xs, h1, h2⟩ := h
  exact ⟨xs, h1.below hb, h2⟩
theorem Nv.sees {w w' : World} {A : Option Addr} {n c v : Nat} (h : Nv w A n c v) (hb : Sees w w') : Nv w' A n c v := h.below (hb.below _)
theorem Nv.lt {w : World} {A : Option Addr} {n c v : Nat} (h : Nv w A n c v) : v < 18446744073709551616 ^ n := by
  obtain ⟨xs, h1, h2, h3, h4, h5, h6⟩ := h
  subst h2 h6
  exact ev_lt h5
theorem Nv.nil (w : World) : Nv w none 0 0 0 := ⟨[], Rd.nil _ _ _, rfl, Nat.le_refl _, by omega, Low.nil _, rfl⟩

/-- A number is answered: of at most k words. -/
def NvPost (v k : Nat) (w : World) (e : Ending) (w' : World) : Prop :=
  ∃ A n c, e = .returned (.slice A n c) ∧ Nv w' A n c v ∧ n ≤ k ∧ Below w.heap.size w w' ∧ Hid (n = (cn 18446744073709551616 v).length)
theorem NatPost.nv {v k : Nat} {w w' : World} {e : Ending} (h : NatPost v w e w') (hk : v < 18446744073709551616 ^ k) : NvPost v k w e w' := by
  obtain ⟨A, c, rfl, hg⟩ := h
  have hc := hg.cap
  refine ⟨A, _, c, rfl, ⟨_, hg.rd, rfl, hc.1, by have := hc.2; unfold maxLen at this; omega, cn_low _ _ (by omega), ev_cn _ _ (by omega)⟩, cn_len_of_lt _ _ _ (by omega) hk, hg.2, rfl⟩

theorem pow_big {n k : Nat} (h : n ≤ k) : (18446744073709551616 : Nat) ^ n ≤ 18446744073709551616 ^ k := Nat.pow_le_pow_right (by omega) h

theorem of_v (x : Nat) (hx : x < 18446744073709551616) (w : World) : Calls Try.prog 23 #[.int .u64 x] w (NvPost x 1 w) :=
  (of_calls x hx w).mono fun _ _ h => NatPost.nv (v := x) (k := 1) h (by simpa using hx)
theorem mul_v {A B : Option Addr} {n m c d x y : Nat} {w : World} (hx : Nv w A n c x) (hy : Nv w B m d y) (hn : n ≤ 1099511627776) (hm : m ≤ 1099511627776) :
    Calls Try.prog 16 #[.slice A n c, .slice B m d] w (NvPost (x * y) (n + m) w) := by
  have l1 := hx.lt
  have l2 := hy.lt
  obtain ⟨xs, h1, h2, h3, h4, h5, rfl⟩ := hx
  obtain ⟨ys, g1, g2, g3, g4, g5, rfl⟩ := hy
  refine (mul_calls A B n m c d xs ys w h1 g1 h2 g2 h3 h4 g3 g4 h5 g5 hn hm).mono fun _ _ h => h.nv ?_
  rw [Nat.pow_add]
  exact Nat.mul_lt_mul'' l1 l2
theorem cmp_v {A B : Option Addr} {n m c d x y : Nat} {w : World} (hx : Nv w A n c x) (hy : Nv w B m d y) :
    Calls Try.prog 22 #[.slice A n c, .slice B m d] w fun e w' => e = .returned (.int .i64 (cmpN x y)) ∧ Sees w w' := by
  obtain ⟨xs, h1, h2, h3, h4, h5, rfl⟩ := hx
  obtain ⟨ys, g1, g2, g3, g4, g5, rfl⟩ := hy
  exact cmp_calls A B n m c d xs ys w h1 g1 h2 g2 h3 h4 g3 g4 h5 g5
theorem cmp_same_v {A B : Option Addr} {n m c d x y : Nat} {w : World} (hx : Nv w A n c x) (hy : Nv w B m d y) (h : x = y) :
    Calls Try.prog 22 #[.slice A n c, .slice B m d] w fun e w' => e = .returned (.int .i64 0) ∧ Below w.heap.size w w' :=
  (cmp_v hx hy).mono fun _ _ ⟨he, hw⟩ => ⟨by rw [he, cmpN_eq h], hw.below _⟩

theorem cn_two : cn 18446744073709551616 18446744073709551616 = [0, 1] := by
  rw [cn_pos _ _ (by omega) (by omega), Nat.mod_self, Nat.div_self (by omega), cn_pos _ _ (by omega) (by omega), Nat.div_eq_of_lt (by omega), cn_zero]

/-- What awake answers: true; what was there is as it was. -/
def TruePost (w : World) (e : Ending) (w' : World) : Prop := e = .returned (.bool true) ∧ Below w.heap.size w w'
end Go.Proofs.Ythpohkklggabpaa
