/-
  Contracts by value: canonical words, canonical digits; what the reference and package nat answer.
-/
import Derived.Test.YthpohkklggabpaaRef5
namespace Go.Proofs.Ythpohkklggabpaa
open Go.RowKit

/-- The slice (A, n, c) reads as the canonical words of v. -/
def Cv (w : World) (A : Option Addr) (n c v : Nat) : Prop :=
  Rd w .u64 A (cn 18446744073709551616 v) ∧ (cn 18446744073709551616 v).length = n ∧ n ≤ c ∧ c ≤ 9223372036854775807
theorem Cv.below {w w' : World} {A : Option Addr} {n c v : Nat} (h : Cv w A n c v) (hb : Below w.heap.size w w') : Cv w' A n c v := ⟨h.1.below hb, h.2⟩
theorem Cv.nv {w : World} {A : Option Addr} {n c v : Nat} (h : Cv w A n c v) : Nv w A n c v := ⟨_, h.1, h.2.1, h.2.2.1, h.2.2.2, cn_low _ _ (by omega), ev_cn _ _ (by omega)⟩
/-- The slice (A, n, c) reads as the canonical digits of v. -/
def Dv (w : World) (A : Option Addr) (n c v : Nat) : Prop :=
  Rd w .i64 A (cn 65536 v) ∧ (cn 65536 v).length = n ∧ n ≤ c ∧ c ≤ 9223372036854775807
theorem Dv.below {w w' : World} {A : Option Addr} {n c v : Nat} (h : Dv w A n c v) (hb : Below w.heap.size w w') : Dv w' A n c v := ⟨h.1.below hb, h.2⟩
theorem Dv.nil (w : World) : Dv w none 0 0 0 := ⟨Rd.nil _ _ _, rfl, Nat.le_refl _, by omega⟩

def CvPost (v k : Nat) (w : World) (e : Ending) (w' : World) : Prop :=
  ∃ A n c, e = .returned (.slice A n c) ∧ Cv w' A n c v ∧ n ≤ k ∧ Below w.heap.size w w'
theorem NatPost.cv {v k : Nat} {w w' : World} {e : Ending} (h : NatPost v w e w') (hk : v < 18446744073709551616 ^ k) : CvPost v k w e w' := by
  obtain ⟨A, c, rfl, hg⟩ := h
  have hc := hg.cap
  exact ⟨A, _, c, rfl, ⟨hg.rd, rfl, hc.1, by have := hc.2; unfold maxLen at this; omega⟩, cn_len_of_lt _ _ _ (by omega) hk, hg.2⟩
def DvPost (v k : Nat) (w : World) (e : Ending) (w' : World) : Prop :=
  ∃ A n c, e = .returned (.slice A n c) ∧ Dv w' A n c v ∧ n ≤ k ∧ Below w.heap.size w w'
theorem DgPost.dv {v k : Nat} {w w' : World} {e : Ending} (h : DgPost v w e w') (hk : v < 65536 ^ k) : DvPost v k w e w' := by
  obtain ⟨A, c, rfl, hg⟩ := h
  have hc := hg.cap
  exact ⟨A, _, c, rfl, ⟨hg.rd, rfl, hc.1, by have := hc.2; unfold maxLen at this; omega⟩, cn_len_of_lt _ _ _ (by omega) hk, hg.2⟩
theorem Dv.lt {w : World} {A : Option Addr} {n c v : Nat} (h : Dv w A n c v) : v < 65536 ^ n := by
  have := cn_len_lt 65536 v (by omega)
  rwa [h.2.1] at this
theorem Cv.lt {w : World} {A : Option Addr} {n c v : Nat} (h : Cv w A n c v) : v < 18446744073709551616 ^ n := h.nv.lt
theorem pow_dig {n k : Nat} (h : n ≤ k) : (65536 : Nat) ^ n ≤ 65536 ^ k := Nat.pow_le_pow_right (by omega) h

theorem mulc_v {A B : Option Addr} {n m c d x y : Nat} {w : World} (hx : Nv w A n c x) (hy : Nv w B m d y) (hn : n ≤ 1099511627776) (hm : m ≤ 1099511627776) :
    Calls Try.prog 16 #[.slice A n c, .slice B m d] w (CvPost (x * y) (n + m) w) := by
  have l1 := hx.lt
  have l2 := hy.lt
  obtain ⟨xs, h1, h2, h3, h4, h5, rfl⟩ := hx
  obtain ⟨ys, g1, g2, g3, g4, g5, rfl⟩ := hy
  refine (mul_calls A B n m c d xs ys w h1 g1 h2 g2 h3 h4 g3 g4 h5 g5 hn hm).mono fun _ _ h => h.cv ?_
  rw [Nat.pow_add]
  exact Nat.mul_lt_mul'' l1 l2
theorem normc_v {A : Option Addr} {n c x : Nat} {w : World} (hx : Nv w A n c x) (hn : n ≤ 1099511627776) :
    Calls Try.prog 50 #[.slice A n c] w (CvPost x n w) := by
  have l1 := hx.lt
  obtain ⟨xs, h1, h2, h3, h4, h5, rfl⟩ := hx
  exact (norm_calls A n c xs w h1 h2 h3 h4 h5 hn).mono fun _ _ h => h.cv l1
def SubCv (x y : Nat) (k : Nat) (w : World) (e : Ending) (w' : World) : Prop :=
  ∃ A n c, e = .returned (.tuple #[.slice A n c, .bool true]) ∧ Cv w' A n c (x - y) ∧ n ≤ k ∧ Below w.heap.size w w'
theorem from_v {A : Option Addr} {n c x : Nat} {w : World} (hx : Nv w A n c x) (hn : n ≤ 1099511627775) :
    Calls Try.prog 10 #[.slice A n c] w (DvPost x (4 * n) w) := by
  have l1 := hx.lt
  obtain ⟨xs, h1, h2, h3, h4, h5, rfl⟩ := hx
  exact (from_calls A n c xs w h1 h2 hn h5).mono fun _ _ h => h.dv (by rwa [pow_word] at l1)
theorem radd_v {A B : Option Addr} {n m c d x y : Nat} {w : World} (hx : Dv w A n c x) (hy : Dv w B m d y) (hn : n ≤ 4398046511101) (hm : m ≤ 4398046511101) :
    Calls Try.prog 29 #[.slice A n c, .slice B m d] w (DvPost (x + y) (max n m + 1) w) := by
  have l1 := hx.lt
  have l2 := hy.lt
  refine (radd_calls A B n m c d _ _ w hx.1 hy.1 hx.2.1 hy.2.1 hn hm ((cn_low _ _ (by omega)).wide (by omega)) ((cn_low _ _ (by omega)).wide (by omega))).mono fun e w' h => ?_
  rw [ev_cn _ _ (by omega), ev_cn _ _ (by omega)] at h
  refine h.dv ?_
  have p1 := pow_dig (Nat.le_max_left n m)
  have p2 := pow_dig (Nat.le_max_right n m)
  rw [Nat.pow_succ]
  omega
theorem is_v {A B : Option Addr} {n m c d x y : Nat} {w : World} (hx : Cv w A n c x) (hy : Dv w B m d y) (hm : m ≤ 4398046511101) (h : y = x) :
    Calls Try.prog 11 #[.slice A n c, .slice B m d] w (TruePost w) := by
  subst h
  exact is_calls A B c d y n m _ w hx.1 hx.2.1 (by have := hx.2.2; omega) hy.1 hy.2.1 hm (cn_low _ _ (by omega)) (ev_cn _ _ (by omega))
end Go.Proofs.Ythpohkklggabpaa
