/-
  Contract: nat.Shr.
-/
import Derived.Test.YthpohkklggabpaaNat10
namespace Go.Proofs.Ythpohkklggabpaa
open Go.RowKit

/-- The word that is left at place j, of a number shifted down by 64 s + u. -/
def dnw (xs : List Nat) (s u j : Nat) : Nat := nth xs (s + j) / 2 ^ u + (nth xs (s + j + 1) * 2 ^ (64 - u)) % 18446744073709551616
/-- The words of a number shifted down. -/
def dn (xs : List Nat) (s u : Nat) : List Nat := (List.range (xs.length - s)).map (dnw xs s u)
theorem dn_length (xs : List Nat) (s u : Nat) : (dn xs s u).length = xs.length - s := by simp [dn]
theorem dn_nth {xs : List Nat} {s u j : Nat} (h : j < xs.length - s) : nth (dn xs s u) j = dnw xs s u j := by simp [dn, nth, List.getD, h]
theorem split_word (u : Nat) (hu : u < 64) : (18446744073709551616 : Nat) = 2 ^ u * 2 ^ (64 - u) := by rw [← Nat.pow_add, Nat.add_sub_cancel' (by omega)]
/-- One word shifted down: what comes from the word above. -/
theorem dn_word {x y u : Nat} (hx : x < 18446744073709551616) (hu : u < 64) :
    (x / 2 ^ u ||| (y * 2 ^ (64 - u)) % 18446744073709551616) = x / 2 ^ u + (y * 2 ^ (64 - u)) % 18446744073709551616 ∧ x / 2 ^ u + (y * 2 ^ (64 - u)) % 18446744073709551616 < 18446744073709551616 ∧
    (y * 2 ^ (64 - u)) % 18446744073709551616 = (y % 2 ^ u) * 2 ^ (64 - u) ∧ x / 2 ^ u < 18446744073709551616 := by
  have e := split_word u hu
  have hp : 0 < 2 ^ u := Nat.pow_pos (by omega)
  have e1 : (y * 2 ^ (64 - u)) % 18446744073709551616 = (y % 2 ^ u) * 2 ^ (64 - u) := by rw [e, Nat.mul_mod_mul_right]
  have e2 : x / 2 ^ u < 2 ^ (64 - u) := (Nat.div_lt_iff_lt_mul hp).2 (by rw [Nat.mul_comm, ← e]; exact hx)
  have e3 : y % 2 ^ u < 2 ^ u := Nat.mod_lt _ hp
  have e4 : x / 2 ^ u ≤ x := Nat.div_le_self _ _
  rw [e1]
  refine ⟨?_, ?_, rfl, by omega⟩
  · rw [Nat.or_comm, Nat.mul_comm, Nat.add_comm, Nat.two_pow_add_eq_or_of_lt e2]
  · have : (y % 2 ^ u + 1) * 2 ^ (64 - u) ≤ 2 ^ u * 2 ^ (64 - u) := Nat.mul_le_mul_right _ e3
    rw [Nat.add_mul, Nat.one_mul, ← e] at this
    omega
theorem dn_low {xs : List Nat} (lx : Low 18446744073709551616 xs) {s u : Nat} (hu : u < 64) : Low 18446744073709551616 (dn xs s u) := fun j hj => by
  rw [dn_length] at hj
  rw [dn_nth hj]
  exact (dn_word (lx.any (by omega) _) hu).2.1
theorem dn_pre {xs : List Nat} (lx : Low 18446744073709551616 xs) {s u : Nat} (hu : u < 64) : ∀ k, k ≤ xs.length - s →
    pre 18446744073709551616 (dn xs s u) k * 2 ^ u + nth xs s % 2 ^ u = pre 18446744073709551616 (xs.drop s) k + 18446744073709551616 ^ k * (nth xs (s + k) % 2 ^ u) := by
  intro k
  induction k with
  | zero => intro _; simp [pre_zero]
  | succ k ih =>
    intro hk
    have h1 := ih (by omega)
    obtain ⟨_, _, h2, _⟩ := dn_word (x := nth xs (s + k)) (y := nth xs (s + k + 1)) (lx.any (by omega) _) hu
    have h3 := Nat.mod_add_div (nth xs (s + k)) (2 ^ u)
    have e := split_word u hu
    rw [pre_succ, pre_succ, dn_nth (by omega), nth_drop, Nat.pow_succ]
    unfold dnw
    rw [h2, ← Nat.add_assoc s k 1]
    generalize nth xs (s + k + 1) % 2 ^ u = r1 at *
    generalize nth xs (s + k) / 2 ^ u = q at *
    generalize nth xs (s + k) % 2 ^ u = r0 at *
    generalize nth xs s % 2 ^ u = rr at *
    rw [← h3]
    generalize (18446744073709551616 : Nat) ^ k = p at *
    generalize (2 : Nat) ^ (64 - u) = v at *
    generalize (18446744073709551616 : Nat) = b at *
    generalize (2 : Nat) ^ u = t at *
    subst e
    grind
theorem dn_ev {xs : List Nat} (lx : Low 18446744073709551616 xs) {s u : Nat} (hu : u < 64) (hs : s ≤ xs.length) : ev 18446744073709551616 (dn xs s u) = ev 18446744073709551616 xs / 2 ^ (64 * s + u) := by
  have h := dn_pre lx hu (xs.length - s) (Nat.le_refl _)
  rw [show s + (xs.length - s) = xs.length from by omega, nth_ge (Nat.le_refl _), Nat.zero_mod, Nat.mul_zero, Nat.add_zero] at h
  rw [pre_ge _ (by rw [dn_length]; exact Nat.le_refl _), pre_ge _ (by simp)] at h
  have e1 := ev_split 18446744073709551616 xs s hs
  have e2 := pre_lt lx (by omega) s
  have hp : 0 < 2 ^ u := Nat.pow_pos (by omega)
  have e3 : nth xs s % 2 ^ u < 2 ^ u := Nat.mod_lt _ hp
  rw [two_word, ← Nat.div_div_eq_div_mul]
  have e4 : ev 18446744073709551616 xs / 18446744073709551616 ^ s = ev 18446744073709551616 (xs.drop s) := by
    rw [e1, Nat.add_mul_div_left _ _ (Nat.pow_pos (by omega)), Nat.div_eq_of_lt e2, Nat.zero_add]
  rw [e4, ← h, Nat.mul_comm, Nat.mul_add_div hp, Nat.div_eq_of_lt e3, Nat.add_zero]

theorem set_back (L : List Nat) (t : Nat) (ht : t < L.length) : (List.replicate (t + 1) 0 ++ L.drop (t + 1)).set t (nth L t) = List.replicate t 0 ++ L.drop t := by
  rw [List.replicate_succ', List.append_assoc, List.set_append_right _ _ (by simp)]
  simp [drop_nth ht]

/-- The loop of nat.Shr: the words from t on are done. -/
def DnRel (w : World) (xs : List Nat) (s u t : Nat) (q : Value) (wr : World) : Prop :=
  q = .int .u64 (((nth xs (s + t) * 2 ^ (64 - u)) % 18446744073709551616 : Nat) : Int) ∧ Blk wr w.heap.size 45 .u64 (List.replicate t 0 ++ (dn xs s u).drop t) ∧ Below w.heap.size w wr
theorem dn_value {x u c : Nat} (hx : x < 18446744073709551616) (hu : u < 64) (y : Nat) (hc : c = (y * 2 ^ (64 - u)) % 18446744073709551616) :
    bits .or .u64 ((x : Int) / 2 ^ u) (c : Int) = ((x / 2 ^ u + (y * 2 ^ (64 - u)) % 18446744073709551616 : Nat) : Int) := by
  subst hc
  obtain ⟨h1, h2, h3, h4⟩ := dn_word (y := y) hx hu
  have e : (x : Int) / 2 ^ u = ((x / 2 ^ u : Nat) : Int) := by
    rw [Int.natCast_ediv, Int.natCast_pow]
    rfl
  rw [e, or_u64 _ _ h4 (by omega), h1]
theorem up_carry (x u : Nat) : IntKind.u64.wrap ((x : Int) * 2 ^ (64 - u)) = (((x * 2 ^ (64 - u)) % 18446744073709551616 : Nat) : Int) := by
  rw [IntKind.wrap_u64, Int.natCast_emod, Int.natCast_mul, Int.natCast_pow]
  rfl
theorem DnRel.next {w wr : World} {xs : List Nat} {s u t c : Nat} (lx : Low 18446744073709551616 xs) (hu : u < 64) (ht : t < xs.length - s) (hc : c = (nth xs (s + (t + 1)) * 2 ^ (64 - u)) % 18446744073709551616)
    (hb : Blk wr w.heap.size 45 .u64 (List.replicate (t + 1) 0 ++ (dn xs s u).drop (t + 1))) (hw : Below w.heap.size w wr) :
    DnRel w xs s u t (.int .u64 (IntKind.u64.wrap ((nth xs (s + t) : Int) * 2 ^ (64 - u)))) (wr.setCell ⟨w.heap.size, t, none⟩ (.int .u64 (bits .or .u64 ((nth xs (s + t) : Int) / 2 ^ u) (c : Int)))) := by
  rw [dn_value (lx.any (by omega) _) hu _ hc, up_carry]
  have h := hb.set t (nth (dn xs s u) t)
  rw [set_back _ _ (by rw [dn_length]; exact ht), dn_nth ht] at h
  exact ⟨rfl, h, hw.setCell (Nat.le_refl _) _⟩

end Go.Proofs.Ythpohkklggabpaa
