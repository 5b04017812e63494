/-
  quincunxlaw06.ModCrt: plain facts, and Crt's answer in one form.
-/
import Derived.Test.YtbcopicoldnahaaGreatCrtJ
import Derived.Test.YtbcopicoldnahaaGreatAwk6
import Derived.Test.YtbcopicoldnahaaGreatModC
import Derived.Test.YtbcopicoldnahaaGreatModD
import Derived.Test.YtbcopicoldnahaaGreatZintG
/-! quincunxlaw06.ModCrt: plain facts, and Crt's answer in one form. -/
namespace Go.Proofs.YtbcopicoldnahaaGreat
open Go.RowKit
set_option linter.unusedVariables false
set_option linter.unusedSimpArgs false

def nz : Zin := ⟨false, none, 0, 0, 0⟩
/-- The j-th number. -/
def zat (R : List Zin) (j : Nat) : Int := (R.getD j nz).z
theorem zat_eq {R : List Zin} {j : Nat} (h : j < R.length) : zat R j = R[j].z := by unfold zat; rw [List.getD_eq_getElem?_getD, List.getElem?_eq_getElem h]; rfl
/-- The rests at a and b don't go together. -/
def Apa (R M : List Zin) (a b : Nat) : Prop := ¬ ((Nat.gcd (zat M a).natAbs (zat M b).natAbs : Nat) : Int) ∣ zat R a - zat R b
def ApUp (R M : List Zin) (i : Nat) : Prop := ∃ a, a < i ∧ ∃ b, b < a ∧ Apa R M a b
def ApIn (R M : List Zin) (i k : Nat) : Prop := ApUp R M i ∨ ∃ b, b < k ∧ Apa R M i b
def BadUp (M : List Zin) (i : Nat) : Prop := ∃ j, j < i ∧ zat M j ≤ 0
/-- In the outer loop. -/
def LRel (R M : List Zin) (i : Nat) (bad ap : Bool) : Prop := (bad = true ↔ BadUp M i) ∧ (bad = false → (ap = true ↔ ApUp R M i)) ∧ ∀ j, j < i → (M.getD j nz).n ≤ 1 ∧ (R.getD j nz).n ≤ 2
/-- In the inner loop. -/
def KRel (R M : List Zin) (i k : Nat) (ap : Bool) : Prop := ap = true ↔ ApIn R M i k
theorem LRel.start (R M : List Zin) : LRel R M 0 false false :=
  ⟨⟨fun h => (by cases h), fun ⟨j, h, _⟩ => (by omega)⟩, fun _ => ⟨fun h => (by cases h), fun ⟨a, h, _⟩ => (by omega)⟩, fun j h => (by omega)⟩
theorem LRel.sizes {R M : List Zin} {i : Nat} {bad ap : Bool} (h : LRel R M i bad ap) (h1 : (M.getD i nz).n ≤ 1) (h2 : (R.getD i nz).n ≤ 2) : ∀ j, j < i + 1 → (M.getD j nz).n ≤ 1 ∧ (R.getD j nz).n ≤ 2 := fun j hj => by
  by_cases e : j = i
  · subst e; exact ⟨h1, h2⟩
  · exact h.2.2 j (by omega)
theorem BadUp.succ {M : List Zin} {i : Nat} : BadUp M (i + 1) ↔ BadUp M i ∨ zat M i ≤ 0 := by
  constructor
  · rintro ⟨j, h1, h2⟩
    by_cases e : j = i
    · subst e; exact .inr h2
    · exact .inl ⟨j, by omega, h2⟩
  · rintro (⟨j, h1, h2⟩ | h)
    · exact ⟨j, by omega, h2⟩
    · exact ⟨i, by omega, h⟩
theorem LRel.bad {R M : List Zin} {i : Nat} {bad ap : Bool} (h : LRel R M i bad ap) (h1 : (M.getD i nz).n ≤ 1) (h2 : (R.getD i nz).n ≤ 2) (hb : bad = true ∨ zat M i ≤ 0) : LRel R M (i + 1) true ap := by
  refine ⟨⟨fun _ => ?_, fun _ => rfl⟩, fun e => (by cases e), h.sizes h1 h2⟩
  rw [BadUp.succ]
  rcases hb with hb | hb
  · exact .inl (h.1.1 hb)
  · exact .inr hb
theorem LRel.good {R M : List Zin} {i : Nat} {ap ap' : Bool} (h : LRel R M i false ap) (h1 : (M.getD i nz).n ≤ 1) (h2 : (R.getD i nz).n ≤ 2) (hb : 0 < zat M i) (hk : KRel R M i i ap') : LRel R M (i + 1) false ap' := by
  refine ⟨⟨fun e => (by cases e), fun e => ?_⟩, fun _ => hk.trans ?_, h.sizes h1 h2⟩
  · rw [BadUp.succ] at e
    rcases e with e | e
    · exact h.1.2 e
    · omega
  · constructor
    · rintro (⟨a, k1, k2⟩ | ⟨b, k1, k2⟩)
      · exact ⟨a, by omega, k2⟩
      · exact ⟨i, by omega, b, k1, k2⟩
    · rintro ⟨a, k1, b, k2, k3⟩
      by_cases e : a = i
      · rw [e] at k2 k3; exact .inr ⟨b, k2, k3⟩
      · exact .inl ⟨a, by omega, b, k2, k3⟩
theorem LRel.inner {R M : List Zin} {i : Nat} {ap : Bool} (h : LRel R M i false ap) : KRel R M i 0 ap :=
  (h.2.1 rfl).trans ⟨.inl, fun k => by
    rcases k with k | ⟨b, h, _⟩
    · exact k
    · omega⟩
theorem KRel.yes {R M : List Zin} {i k : Nat} (h : KRel R M i k true) : KRel R M i (k + 1) true :=
  ⟨fun _ => by
    rcases h.1 rfl with h | ⟨b, h1, h2⟩
    · exact .inl h
    · exact .inr ⟨b, by omega, h2⟩, fun _ => rfl⟩
theorem KRel.step {R M : List Zin} {i k : Nat} {b : Bool} (h : KRel R M i k false) (hb : decide (((Nat.gcd (zat M i).natAbs (zat M k).natAbs : Nat) : Int) ∣ zat R i - zat R k) = b) : KRel R M i (k + 1) (!b) := by
  cases b
  · have := of_decide_eq_false hb
    exact ⟨fun _ => .inr ⟨k, by omega, this⟩, fun _ => rfl⟩
  · have hb := of_decide_eq_true hb
    refine ⟨fun e => (by cases e), fun e => ?_⟩
    rcases e with e | ⟨a, h1, h2⟩
    · exact h.2 (.inl e)
    · by_cases e : a = k
      · subst e; exact absurd hb h2
      · exact h.2 (.inr ⟨a, by omega, h2⟩)
theorem zprs_at {R M : List Zin} {x : Int × Int} (h : x ∈ zprs R M) : ∃ i, i < R.length ∧ i < M.length ∧ x = (zat R i, zat M i) := by
  obtain ⟨i, hi, rfl⟩ := List.getElem_of_mem h
  simp only [zprs, List.length_zipWith] at hi
  exact ⟨i, by omega, by omega, by rw [zat_eq (by omega), zat_eq (by omega)]; simp [zprs]⟩
theorem zprs_mem {R M : List Zin} {i : Nat} (h1 : i < R.length) (h2 : i < M.length) : (zat R i, zat M i) ∈ zprs R M := by
  rw [zat_eq h1, zat_eq h2]
  exact List.mem_iff_getElem.2 ⟨i, by simp [zprs]; omega, by simp [zprs]⟩
/-- No two of them are apart just if each two agree. -/
theorem agree_iff {R M : List Zin} {n : Nat} (hR : R.length = n) (hM : M.length = n) : Agree (zprs R M) ↔ ¬ ApUp R M n := by
  constructor
  · rintro h ⟨a, h1, b, h2, h3⟩
    exact h3 (h _ (zprs_mem (by omega) (by omega)) _ (zprs_mem (i := b) (by omega) (by omega)))
  · intro h x hx y hy
    obtain ⟨a, a1, a2, rfl⟩ := zprs_at hx
    obtain ⟨b, b1, b2, rfl⟩ := zprs_at hy
    simp only
    have sym : ∀ a b, a < n → b < a → ((Nat.gcd (zat M a).natAbs (zat M b).natAbs : Nat) : Int) ∣ zat R a - zat R b := fun a b h1 h2 => Classical.byContradiction fun k => h ⟨a, h1, b, h2, k⟩
    rcases Nat.lt_trichotomy a b with h1 | h1 | h1
    · have := sym b a (by omega) h1
      rw [Nat.gcd_comm] at this
      have := Int.dvd_neg.2 this
      rwa [show -(zat R b - zat R a) = zat R a - zat R b by omega] at this
    · subst h1
      rw [Int.sub_self]
      exact ⟨0, by simp⟩
    · exact sym a b (by omega) h1
/-- What Crt's answer stands for. -/
def Outc (R M : List Zin) (n : Nat) (x : Cls) (k : Int) : Prop :=
  (BadUp M n ∧ k = 1 ∧ x.r = 0 ∧ x.q = 0) ∨ (¬ BadUp M n ∧ ((k = 0 ∧ 0 ≤ x.r ∧ x.r < x.q ∧ x.q.natAbs = lcmL (zprs R M) ∧ Sat (zprs R M) x.r ∧ ¬ ApUp R M n) ∨ (k = 10 ∧ ApUp R M n ∧ x.r = 0 ∧ x.q = 0)))
def CrtOut (R M : List Zin) (n : Nat) (w : World) (e : Ending) (w' : World) : Prop :=
  ∃ (x : Cls) (k : Int), e = .returned (.tuple #[.agg #[.bool x.s, .slice x.A x.n x.c], .agg #[.bool x.t, .slice x.B x.m x.d], .int .i64 k]) ∧ x.ok w' ∧ Outc R M n x k ∧ Below w.heap.size w w'
theorem CrtPost.out {R M : List Zin} {n : Nat} {w w' : World} {e : Ending} (h : CrtPost R M w e w') (hR : R.length = n) (hM : M.length = n) : CrtOut R M n w e w' := by
  have z : ∀ w : World, Cls.ok w ⟨false, none, 0, 0, false, none, 0, 0, 0, 0⟩ := fun w => ⟨Zc.none0 w, Zc.none0 w, Nat.zero_le _, Nat.zero_le _⟩
  have nb : (∀ x, x ∈ M → 0 < x.z) → ¬ BadUp M n := fun h1 ⟨j, h2, h3⟩ => by
    have := h1 _ (List.getElem_mem (show j < M.length by omega))
    rw [zat_eq (by omega)] at h3
    omega
  rcases h with ⟨⟨x, h1, h2⟩, rfl, B⟩ | ⟨h1, ⟨x, rfl, h2, ⟨a1, a2, a3, a4⟩, B⟩ | ⟨h2, rfl, B⟩⟩
  · obtain ⟨i, hi, rfl⟩ := List.getElem_of_mem h1
    exact ⟨⟨false, none, 0, 0, false, none, 0, 0, 0, 0⟩, 1, rfl, z _, .inl ⟨⟨i, by omega, by rw [zat_eq hi]; exact h2⟩, rfl, rfl, rfl⟩, B⟩
  · exact ⟨x, 0, rfl, h2, .inr ⟨nb h1, .inl ⟨rfl, a1, a2, a3, a4, (agree_iff hR hM).1 (sat_agree a4)⟩⟩, B⟩
  · exact ⟨⟨false, none, 0, 0, false, none, 0, 0, 0, 0⟩, 10, rfl, z _, .inr ⟨nb h1, .inr ⟨rfl, Classical.byContradiction fun k => h2 ((agree_iff hR hM).2 k), rfl, rfl⟩⟩, B⟩
/-- What the law's least common multiple of the first i moduli is. -/
def AccRel (M : List Zin) (i : Nat) (acc : Int) : Prop := 0 < acc ∧ (∀ z : Int, acc ∣ z ↔ ∀ j, j < i → zat M j ∣ z) ∧ acc.natAbs < 18446744073709551616 ^ (i + 1)
theorem AccRel.start (M : List Zin) : AccRel M 0 1 := ⟨by omega, fun z => ⟨fun _ j h => (by omega), fun _ => ⟨z, by simp⟩⟩, by decide⟩
theorem AccRel.next {M : List Zin} {i : Nat} {acc m G : Int} (h : AccRel M i acc) (hm : zat M i = m) (h0 : 0 < m) (hB : m.natAbs < 18446744073709551616) (hG : ((Nat.gcd acc.natAbs m.natAbs : Nat) : Int) = G) :
    ∃ q, q * G = acc * m ∧ AccRel M (i + 1) q := by
  obtain ⟨a0, a1, a2⟩ := h
  have e1 := Nat.gcd_mul_lcm acc.natAbs m.natAbs
  have e2 : ((acc.natAbs : Nat) : Int) = acc := by omega
  have e3 : ((m.natAbs : Nat) : Int) = m := by omega
  refine ⟨((Nat.lcm acc.natAbs m.natAbs : Nat) : Int), ?_, ?_, ?_, ?_⟩
  · rw [← hG, Int.mul_comm, ← Int.natCast_mul, e1, Int.natCast_mul, e2, e3]
  · have := Nat.lcm_pos (show 0 < acc.natAbs by omega) (show 0 < m.natAbs by omega)
    omega
  · intro z
    have e : ((Nat.lcm acc.natAbs m.natAbs : Nat) : Int) ∣ z ↔ acc ∣ z ∧ m ∣ z := by
      rw [← Int.natAbs_dvd_natAbs, Int.natAbs_natCast, Nat.lcm_dvd_iff, ← Int.natAbs_dvd_natAbs (a := acc), ← Int.natAbs_dvd_natAbs (a := m)]
    rw [e, a1]
    constructor
    · rintro ⟨k1, k2⟩ j hj
      by_cases ej : j = i
      · rw [ej, hm]; exact k2
      · exact k1 j (by omega)
    · intro k
      refine ⟨fun j hj => k j (by omega), ?_⟩
      rw [← hm]
      exact k i (by omega)
  · rw [Int.natAbs_natCast]
    have h1 : Nat.lcm acc.natAbs m.natAbs ≤ acc.natAbs * m.natAbs := Nat.le_of_dvd (Nat.mul_pos (by omega) (by omega)) ⟨_, by rw [← e1, Nat.mul_comm]⟩
    have h2 : acc.natAbs * m.natAbs < 18446744073709551616 ^ (i + 1) * 18446744073709551616 := Nat.mul_lt_mul'' a2 hB
    rw [Nat.pow_succ]
    exact Nat.lt_of_le_of_lt h1 h2
theorem AccRel.ex {M : List Zin} : ∀ n : Nat, (∀ j, j < n → 0 < zat M j ∧ (zat M j).natAbs < 18446744073709551616) → ∃ acc, AccRel M n acc
  | 0, _ => ⟨1, AccRel.start M⟩
  | n + 1, h => by
    obtain ⟨acc, ha⟩ := AccRel.ex n fun j hj => h j (by omega)
    obtain ⟨q, _, hq⟩ := ha.next rfl (h n (by omega)).1 (h n (by omega)).2 rfl
    exact ⟨q, hq⟩
theorem AccRel.last {R M : List Zin} {n : Nat} {acc : Int} (h : AccRel M n acc) (hR : R.length = n) (hM : M.length = n) : acc.natAbs = lcmL (zprs R M) := by
  have e : ∀ z : Int, acc ∣ z ↔ ((lcmL (zprs R M) : Nat) : Int) ∣ z := fun z => by
    rw [h.2.1, ← dvs_lcm]
    constructor
    · intro k y hy
      obtain ⟨j, j1, j2, rfl⟩ := zprs_at hy
      exact k j (by omega)
    · intro k j hj
      exact k _ (zprs_mem (R := R) (M := M) (i := j) (by omega) (by omega))
  have e1 := Int.natAbs_dvd_natAbs.2 ((e acc).1 (Int.dvd_refl _))
  have e2 := Int.natAbs_dvd_natAbs.2 ((e ((lcmL (zprs R M) : Nat) : Int)).2 (Int.dvd_refl _))
  rw [Int.natAbs_natCast] at e1 e2
  exact Nat.dvd_antisymm e2 e1
theorem Zv.small {w : World} {s : Bool} {A : Option Addr} {n c : Nat} {z : Int} (h : Zv w s A n c z) (hn : n ≤ 1) : z.natAbs < 18446744073709551616 := by
  have h1 := h.abs.1.lt
  have h2 : 18446744073709551616 ^ n ≤ 18446744073709551616 ^ 1 := Nat.pow_le_pow_right (by omega) hn
  rw [Nat.pow_one] at h2
  omega
/-- What is known before the last loop. -/
theorem last_bound {R M : List Zin} {n : Nat} {w : World} (hR : R.length = n) (hM : M.length = n) (h6 : n ≤ 6) (om : ZinOk w M) (hb : ¬ BadUp M n) (hs : ∀ j, j < n → (M.getD j nz).n ≤ 1) : lcmL (zprs R M) < 18446744073709551616 ^ 7 := by
  obtain ⟨acc, ha⟩ := AccRel.ex (M := M) n fun j hj => by
    refine ⟨Int.not_le.1 fun k => hb ⟨j, hj, k⟩, ?_⟩
    have e := List.getD_eq_getElem?_getD (l := M) (i := j) (a := nz)
    rw [List.getElem?_eq_getElem (show j < M.length by omega)] at e
    have h1 := hs j hj
    rw [e] at h1
    rw [zat_eq (show j < M.length by omega)]
    exact (om _ (List.getElem_mem (show j < M.length by omega))).1.small h1
  rw [← ha.last hR hM]
  exact Nat.lt_of_lt_of_le ha.2.2 (Nat.pow_le_pow_right (by omega) (by omega))
end Go.Proofs.YtbcopicoldnahaaGreat
