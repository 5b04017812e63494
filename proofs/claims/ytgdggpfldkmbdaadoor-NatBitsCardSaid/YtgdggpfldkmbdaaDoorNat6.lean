/-
  The contracts of package nat by value: what a slice of words stands for; quincunxlaw01.awake and few.
-/
import Derived.Test.YtgdggpfldkmbdaaDoorNat5
namespace Go.Proofs.YtgdggpfldkmbdaaDoor
open Go.RowKit

/-- The slice (A, n, c) reads as words of the number v. -/
def Nv (w : World) (A : Option Addr) (n c v : Nat) : Prop :=
  ∃ xs, Rd w .u64 A xs ∧ xs.length = n ∧ n ≤ c ∧ c ≤ 9223372036854775807 ∧ Low 18446744073709551616 xs ∧ ev 18446744073709551616 xs = v
theorem Nv.below {w w' : World} {A : Option Addr} {n c v : Nat} (h : Nv w A n c v) (hb : Below w.heap.size w w') : Nv w' A n c v := by
  obtain ⟨xs, h1, h2⟩ := h
  exact ⟨xs, h1.below hb, h2⟩
theorem Nv.sees {w w' : World} {A : Option Addr} {n c v : Nat} (h : Nv w A n c v) (hb : Sees w w') : Nv w' A n c v := h.below (hb.below _)
theorem Nv.lt {w : World} {A : Option Addr} {n c v : Nat} (h : Nv w A n c v) : v < 18446744073709551616 ^ n := by
  obtain ⟨xs, h1, h2, h3, h4, h5, h6⟩ := h
  subst h2 h6
  exact ev_lt h5
theorem Nv.nil (w : World) : Nv w none 0 0 0 := ⟨[], Rd.nil _ _ _, rfl, Nat.le_refl _, by omega, Low.nil _, rfl⟩

/-- A number is answered: of at most k words. -/
def NvPost (v k : Nat) (w : World) (e : Ending) (w' : World) : Prop :=
  ∃ A n c, e = .returned (.slice A n c) ∧ Nv w' A n c v ∧ n ≤ k ∧ Below w.heap.size w w' ∧ Hid (n = (cn 18446744073709551616 v).length)
theorem NatPost.nv {v k : Nat} {w w' : World} {e : Ending} (h : NatPost v w e w') (hk : v < 18446744073709551616 ^ k) : NvPost v k w e w' := by
  obtain ⟨A, c, rfl, hg⟩ := h
  have hc := hg.cap
  refine ⟨A, _, c, rfl, ⟨_, hg.rd, rfl, hc.1, by have := hc.2; unfold maxLen at this; omega, cn_low _ _ (by omega), ev_cn _ _ (by omega)⟩, cn_len_of_lt _ _ _ (by omega) hk, hg.2, rfl⟩

theorem pow_big {n k : Nat} (h : n ≤ k) : (18446744073709551616 : Nat) ^ n ≤ 18446744073709551616 ^ k := Nat.pow_le_pow_right (by omega) h

theorem of_v (x : Nat) (hx : x < 18446744073709551616) (w : World) : Calls Tryd.prog 13 #[.int .u64 x] w (NvPost x 1 w) :=
  (of_calls x hx w).mono fun _ _ h => NatPost.nv (v := x) (k := 1) h (by simpa using hx)
theorem add_v {A B : Option Addr} {n m c d x y : Nat} {w : World} (hx : Nv w A n c x) (hy : Nv w B m d y) (hn : n ≤ 1099511627776) (hm : m ≤ 1099511627776) :
    Calls Tryd.prog 16 #[.slice A n c, .slice B m d] w (NvPost (x + y) (max n m + 1) w) := by
  have l1 := hx.lt
  have l2 := hy.lt
  obtain ⟨xs, h1, h2, h3, h4, h5, rfl⟩ := hx
  obtain ⟨ys, g1, g2, g3, g4, g5, rfl⟩ := hy
  refine (add_calls A B n m c d xs ys w h1 g1 h2 g2 h3 h4 g3 g4 h5 g5 hn hm).mono fun _ _ h => h.nv ?_
  have p1 := pow_big (Nat.le_max_left n m)
  have p2 := pow_big (Nat.le_max_right n m)
  rw [Nat.pow_succ]
  omega
theorem cn_two : cn 18446744073709551616 18446744073709551616 = [0, 1] := by
  rw [cn_pos _ _ (by omega) (by omega), Nat.mod_self, Nat.div_self (by omega), cn_pos _ _ (by omega) (by omega), Nat.div_eq_of_lt (by omega), cn_zero]

/-- What awake answers: true; what was there is as it was. -/
def TruePost (w : World) (e : Ending) (w' : World) : Prop := e = .returned (.bool true) ∧ Below w.heap.size w w'
set_option maxHeartbeats 400000 in
theorem awake_calls (w : World) : Calls Tryd.prog 4 #[] w (TruePost w) := by
  go_enter Tryd.func4, Tryd.ntmps4
  go_wp2_with fail
  refine (of_v 18446744073709551615 (by omega) _).mono ?_
  rintro e w1 ⟨A1, n1, c1, rfl, h1, k1, b1, e1⟩
  go_wp2_with fail
  refine (of_v 1 (by omega) _).mono ?_
  rintro e w2 ⟨A2, n2, c2, rfl, h2, k2, b2, e2⟩
  go_wp2_with fail
  obtain ⟨xs, p1, p2, p3, p4, p5, p6⟩ := h1.below b2
  obtain ⟨ys, q1, q2, q3, q4, q5, q6⟩ := h2
  have P2 := Lib.hid p2
  have P6 := Lib.hid p6
  have Q2 := Lib.hid q2
  have Q6 := Lib.hid q6
  clear p2 p6 q2 q6 h1
  refine (add_calls A1 A2 n1 n2 c1 c2 xs ys _ p1 q1 P2.out Q2.out p3 p4 q3 q4 p5 q5 (by omega) (by omega)).mono ?_
  rw [P6.out, Q6.out]
  rintro e w3 ⟨A3, c3, rfl, hg⟩
  rw [show (18446744073709551615 + 1 : Nat) = 18446744073709551616 from rfl, cn_two] at hg
  rw [show (18446744073709551615 + 1 : Nat) = 18446744073709551616 from rfl, cn_two]
  have hb : Below w.heap.size w w3 := (b1.trans (b2.mono b1.size)).trans (hg.2.mono (Nat.le_trans b1.size b2.size))
  obtain ⟨ad, rfl, _, hc⟩ := hg.rd (by simp)
  have d0 : w3.cell? ad = some (.int .u64 0) := by have := hc 0 (by simp); simpa [Addr.add, nth] using this
  have d1 : w3.cell? ⟨ad.block, ad.off + 1, none⟩ = some (.int .u64 1) := by have := hc 1 (by simp); simpa [Addr.add, nth] using this
  clear hc hg p1 q1 p5 q5
  go_wp2
  go_ret
  exact ⟨rfl, hb⟩

end Go.Proofs.YtgdggpfldkmbdaaDoor
