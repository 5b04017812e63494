/-
  Package div: DivMod, Mod, Exact, Small, by value.
-/
import Derived.Test.YtfdgblmegiehnaaDoorDivD
/-! Contracts: div.DivMod, Mod, Exact, Small. -/
namespace Go.Proofs.YtfdgblmegiehnaaDoor
open Go.RowKit
set_option linter.unusedVariables false

/-- Quotient and rest in new memory, and true. -/
def DmPost (q r : Nat) (w : World) (e : Ending) (w' : World) : Prop :=
  ∃ A c A' c', e = .returned (.tuple #[.slice A (cn 18446744073709551616 q).length c, .slice A' (cn 18446744073709551616 r).length c', .bool true]) ∧ Got w w' 22 .u64 A c (cn 18446744073709551616 q) ∧ Got w w' 22 .u64 A' c' (cn 18446744073709551616 r)
theorem trim_rd {w : World} {A : Option Addr} {xs : List Nat} (h : Rd w .u64 A xs) : Rd w .u64 A (xs.take (sl xs)) := h.take _
theorem trim_len (xs : List Nat) : (xs.take (sl xs)).length = sl xs := by simp [Nat.min_eq_left (sl_le xs)]
theorem Nv.trim {w : World} {A : Option Addr} {n c v : Nat} (h : Nv w A n c v) : ∃ xs, Rd w .u64 A xs ∧ xs.length = n ∧ n ≤ c ∧ c ≤ 9223372036854775807 ∧ Low 18446744073709551616 xs ∧ Nv w A (sl xs) c v ∧ sl xs ≤ n ∧ (v = 0 ↔ sl xs = 0) ∧
    Rd w .u64 A (xs.take (sl xs)) ∧ (xs.take (sl xs)).length = sl xs ∧ Low 18446744073709551616 (xs.take (sl xs)) ∧ ev 18446744073709551616 (xs.take (sl xs)) = v ∧ sl xs = (cn 18446744073709551616 v).length := by
  obtain ⟨xs, h1, h2, h3, h4, h5, rfl⟩ := h
  have hs : sl xs ≤ n := h2 ▸ sl_le xs
  refine ⟨xs, h1, h2, h3, h4, h5, ⟨_, h1.take (sl xs), trim_len xs, by omega, h4, h5.take _, ev_take_sl _ _⟩, hs, ?_, h1.take _, trim_len xs, h5.take _, ev_take_sl _ _, sl_len _ (by omega) h5⟩
  rw [sl_len _ (by omega) h5]
  exact (cn_nil_iff _ _ (by omega)).symm
theorem Got.on {w w1 w' : World} {t : TypeId} {K : IntKind} {A : Option Addr} {c : Nat} {zs : List Nat} (h : Got w w1 t K A c zs) (hb : Below w1.heap.size w1 w') : Got w w' t K A c zs := by
  obtain ⟨A', c', e, g⟩ := (OwnV.below (w0 := w) (v := .slice A zs.length c) h hb).form
  injection e with e1 e2 e3
  subst e1 e3
  exact g
/-- Nothing and false; what was there is as it was. -/
def NoPost (w : World) (e : Ending) (w' : World) : Prop := e = .returned (.tuple #[.slice none 0 0, .bool false]) ∧ Below w.heap.size w w'
/-- Quotient and rest by a word, and true. -/
def SmPost (v x : Nat) (w : World) (e : Ending) (w' : World) : Prop :=
  ∃ A c, e = .returned (.tuple #[.slice A (cn 18446744073709551616 (v / x)).length c, .int .u64 ((v % x : Nat) : Int), .bool true]) ∧ Got w w' 22 .u64 A c (cn 18446744073709551616 (v / x))
/-! By value, for the laws. -/
theorem Got.cv {w w' : World} {A : Option Addr} {c v : Nat} (h : Got w w' 22 .u64 A c (cn 18446744073709551616 v)) : Cv w' A (cn 18446744073709551616 v).length c v := by
  have hc := h.cap
  exact ⟨h.rd, rfl, hc.1, by have := hc.2; unfold maxLen at this; omega⟩
def DmCv (q r kq kr : Nat) (w : World) (e : Ending) (w' : World) : Prop :=
  ∃ A n c A' n' c', e = .returned (.tuple #[.slice A n c, .slice A' n' c', .bool true]) ∧ Cv w' A n c q ∧ Cv w' A' n' c' r ∧ n ≤ kq ∧ n' ≤ kr ∧ Below w.heap.size w w'
theorem div_lt_pow {x y n : Nat} (h : x < 18446744073709551616 ^ n) : x / y < 18446744073709551616 ^ n := Nat.lt_of_le_of_lt (Nat.div_le_self _ _) h
/-- A number is answered, and true: by value. -/
def TwoCv (v k : Nat) (w : World) (e : Ending) (w' : World) : Prop :=
  ∃ A n c, e = .returned (.tuple #[.slice A n c, .bool true]) ∧ Cv w' A n c v ∧ n ≤ k ∧ Below w.heap.size w w'
theorem TwoPost.cv {v k : Nat} {w w' : World} {e : Ending} (h : TwoPost v w e w') (hk : v < 18446744073709551616 ^ k) : TwoCv v k w e w' := by
  obtain ⟨A, c, rfl, hg⟩ := h
  exact ⟨A, _, c, rfl, hg.cv, cn_len_of_lt _ _ _ (by omega) hk, hg.2⟩
def SmCv (q r k : Nat) (w : World) (e : Ending) (w' : World) : Prop :=
  ∃ A n c, e = .returned (.tuple #[.slice A n c, .int .u64 (r : Int), .bool true]) ∧ Cv w' A n c q ∧ n ≤ k ∧ Below w.heap.size w w'
theorem ofc_v (x : Nat) (hx : x < 18446744073709551616) (w : World) : Calls Tryd.prog 37 #[.int .u64 x] w (CvPost x 1 w) :=
  (of_calls x hx w).mono fun _ _ ⟨A, c, he, hg⟩ => ⟨A, _, c, he, hg.cv, cn_len_of_lt _ _ _ (by omega) (by omega), hg.2⟩
/-- A number, as a law's walk has it. -/
theorem natCast_small {k : Nat} {i : Int} (h : i = (k : Int)) : i = (k : Int) := h

/-! quincunxlaw03.awake. -/
end Go.Proofs.YtfdgblmegiehnaaDoor
