/-
  Rests by many moduli: plain facts.
-/
import Derived.Test.YtbcopicoldnahaaGreatCrtA
/-! Rests by many moduli: plain facts. -/
namespace Go.Proofs.YtbcopicoldnahaaGreat
set_option linter.unusedVariables false

/-- z has all the rests. -/
def Sat (L : List (Int × Int)) (z : Int) : Prop := ∀ x, x ∈ L → x.2 ∣ z - x.1
/-- All moduli divide z. -/
def Dvs (L : List (Int × Int)) (z : Int) : Prop := ∀ x, x ∈ L → x.2 ∣ z
/-- Each two rests are together. -/
def Agree (L : List (Int × Int)) : Prop := ∀ x, x ∈ L → ∀ y, y ∈ L → ((Nat.gcd x.2.natAbs y.2.natAbs : Nat) : Int) ∣ x.1 - y.1
/-- All moduli are above 0. -/
def PosL (L : List (Int × Int)) : Prop := ∀ x, x ∈ L → 0 < x.2
def lcmL : List (Int × Int) → Nat
  | [] => 1
  | x :: L => Nat.lcm x.2.natAbs (lcmL L)
def prodL : List (Int × Int) → Nat
  | [] => 1
  | x :: L => x.2.natAbs * prodL L
theorem PosL.tail {x : Int × Int} {L : List (Int × Int)} (h : PosL (x :: L)) : PosL L := fun y hy => h y (List.mem_cons_of_mem _ hy)
theorem lcmL_pos : ∀ {L : List (Int × Int)}, PosL L → 0 < lcmL L
  | [], _ => by decide
  | x :: L, h => Nat.lcm_pos (by have := h x List.mem_cons_self; omega) (lcmL_pos h.tail)
theorem prodL_pos : ∀ {L : List (Int × Int)}, PosL L → 0 < prodL L
  | [], _ => by decide
  | x :: L, h => Nat.mul_pos (by have := h x List.mem_cons_self; omega) (prodL_pos h.tail)
theorem lcmL_prod : ∀ (L : List (Int × Int)), lcmL L ∣ prodL L
  | [] => Nat.dvd_refl _
  | x :: L => Nat.lcm_dvd (Nat.dvd_mul_right _ _) (Nat.dvd_trans (lcmL_prod L) (Nat.dvd_mul_left _ _))
theorem dvs_lcm : ∀ (L : List (Int × Int)) (z : Int), Dvs L z ↔ ((lcmL L : Nat) : Int) ∣ z
  | [], z => ⟨fun _ => ⟨z, by simp [lcmL]⟩, fun _ x hx => by cases hx⟩
  | x :: L, z => by
    have e : ((lcmL (x :: L) : Nat) : Int) ∣ z ↔ x.2 ∣ z ∧ ((lcmL L : Nat) : Int) ∣ z := by
      show ((Nat.lcm x.2.natAbs (lcmL L) : Nat) : Int) ∣ z ↔ _
      rw [← Int.natAbs_dvd_natAbs, Int.natAbs_natCast, Nat.lcm_dvd_iff, ← Int.natAbs_dvd_natAbs (a := x.2), ← Int.natAbs_dvd_natAbs (a := ((lcmL L : Nat) : Int)), Int.natAbs_natCast]
    rw [e, ← dvs_lcm L z]
    exact ⟨fun h => ⟨h x List.mem_cons_self, fun y hy => h y (List.mem_cons_of_mem _ hy)⟩, fun h y hy => by
      rcases List.mem_cons.1 hy with rfl | hy
      · exact h.1
      · exact h.2 y hy⟩
theorem gcd_lcmL : ∀ {L : List (Int × Int)} {c : Nat} {z : Int}, PosL L → (∀ y, y ∈ L → ((Nat.gcd y.2.natAbs c : Nat) : Int) ∣ z) → ((Nat.gcd (lcmL L) c : Nat) : Int) ∣ z
  | [], c, z, _, _ => ⟨z, by simp [lcmL]⟩
  | x :: L, c, z, hp, h => by
    have h1 := h x List.mem_cons_self
    have h2 := gcd_lcmL (L := L) (c := c) (z := z) hp.tail fun y hy => h y (List.mem_cons_of_mem _ hy)
    exact gcd_lcm (Nat.gcd_pos_of_pos_right _ (lcmL_pos hp.tail)) h1 h2
theorem sat_agree {L : List (Int × Int)} {z : Int} (h : Sat L z) : Agree L := fun x hx y hy => by
  have h1 : ((Nat.gcd x.2.natAbs y.2.natAbs : Nat) : Int) ∣ z - x.1 := Int.dvd_trans (Int.dvd_trans (Int.natCast_dvd_natCast.2 (Nat.gcd_dvd_left _ _)) Int.natAbs_dvd_self) (h x hx)
  have h2 : ((Nat.gcd x.2.natAbs y.2.natAbs : Nat) : Int) ∣ z - y.1 := Int.dvd_trans (Int.dvd_trans (Int.natCast_dvd_natCast.2 (Nat.gcd_dvd_right _ _)) Int.natAbs_dvd_self) (h y hy)
  have := Int.dvd_sub h2 h1
  rwa [show z - y.1 - (z - x.1) = x.1 - y.1 by omega] at this
theorem agree_sat : ∀ {L : List (Int × Int)}, PosL L → Agree L → ∃ z, Sat L z
  | [], _, _ => ⟨0, fun x hx => by cases hx⟩
  | x :: L, hp, h => by
    obtain ⟨z', hz⟩ := agree_sat (L := L) hp.tail fun a ha b hb => h a (List.mem_cons_of_mem _ ha) b (List.mem_cons_of_mem _ hb)
    have hg : ((Nat.gcd (lcmL L) x.2.natAbs : Nat) : Int) ∣ x.1 - z' := gcd_lcmL hp.tail fun y hy => by
      have h1 := h x List.mem_cons_self y (List.mem_cons_of_mem _ hy)
      rw [Nat.gcd_comm] at h1
      have h2 : ((Nat.gcd y.2.natAbs x.2.natAbs : Nat) : Int) ∣ z' - y.1 := Int.dvd_trans (Int.dvd_trans (Int.natCast_dvd_natCast.2 (Nat.gcd_dvd_left _ _)) Int.natAbs_dvd_self) (hz y hy)
      have := Int.dvd_sub h1 h2
      rwa [show x.1 - y.1 - (z' - y.1) = x.1 - z' by omega] at this
    obtain ⟨s, t, e⟩ := gcd_sum hg
    refine ⟨z' + s * (lcmL L : Nat), fun y hy => ?_⟩
    rcases List.mem_cons.1 hy with rfl | hy
    · have hx := hp y List.mem_cons_self
      refine ⟨-t, ?_⟩
      have e2 : ((y.2.natAbs : Nat) : Int) = y.2 := by omega
      rw [e2] at e
      have e3 : y.2 * -t = -(t * y.2) := by rw [Int.mul_neg, Int.mul_comm]
      rw [e3]
      omega
    · have h1 := (dvs_lcm L (s * (lcmL L : Nat))).2 ⟨s, Int.mul_comm _ _⟩ y hy
      have := Int.dvd_add (hz y hy) h1
      rwa [show z' - y.1 + s * ((lcmL L : Nat) : Int) = z' + s * ((lcmL L : Nat) : Int) - y.1 by omega] at this
/-- What stays the same for the lists: who has all rests, and what all moduli divide. -/
def SameL (R L : List (Int × Int)) : Prop := (∀ z, Sat R z ↔ Sat L z) ∧ (∀ z, Dvs R z ↔ Dvs L z)
theorem SameL.refl (L : List (Int × Int)) : SameL L L := ⟨fun z => Iff.rfl, fun z => Iff.rfl⟩
theorem SameL.trans {A B C : List (Int × Int)} (h : SameL A B) (k : SameL B C) : SameL A C := ⟨fun z => (h.1 z).trans (k.1 z), fun z => (h.2 z).trans (k.2 z)⟩
theorem SameL.perm {R L : List (Int × Int)} (h : R.Perm L) : SameL R L := ⟨fun z => ⟨fun k x hx => k x (h.symm.subset hx), fun k x hx => k x (h.subset hx)⟩, fun z => ⟨fun k x hx => k x (h.symm.subset hx), fun k x hx => k x (h.subset hx)⟩⟩
/-- One class in the place of two. -/
theorem SameL.join {a p b q R M : Int} {L : List (Int × Int)} (h : JoinOk a p b q R M) : SameL (L ++ [(R, M)]) ((a, p) :: (b, q) :: L) := by
  obtain ⟨h0, h1, h2, h3, h4⟩ := h
  constructor
  · intro z
    have e : M ∣ z - R ↔ p ∣ z - a ∧ q ∣ z - b := by
      rw [h4]
      have a1 : p ∣ z - R ↔ p ∣ z - a := ⟨fun k => by have := Int.dvd_add k h2; rwa [show z - R + (R - a) = z - a by omega] at this, fun k => by have := Int.dvd_sub k h2; rwa [show z - a - (R - a) = z - R by omega] at this⟩
      have a2 : q ∣ z - R ↔ q ∣ z - b := ⟨fun k => by have := Int.dvd_add k h3; rwa [show z - R + (R - b) = z - b by omega] at this, fun k => by have := Int.dvd_sub k h3; rwa [show z - b - (R - b) = z - R by omega] at this⟩
      rw [a1, a2]
    constructor
    · intro k x hx
      have k1 := e.1 (k (R, M) (by simp))
      rcases List.mem_cons.1 hx with rfl | hx
      · exact k1.1
      rcases List.mem_cons.1 hx with rfl | hx
      · exact k1.2
      · exact k x (by simp [hx])
    · intro k x hx
      rcases List.mem_append.1 hx with hx | hx
      · exact k x (by simp [hx])
      · simp only [List.mem_singleton] at hx
        subst hx
        exact e.2 ⟨k (a, p) (by simp), k (b, q) (by simp)⟩
  · intro z
    constructor
    · intro k x hx
      have k1 := (h4 z).1 (k (R, M) (by simp))
      rcases List.mem_cons.1 hx with rfl | hx
      · exact k1.1
      rcases List.mem_cons.1 hx with rfl | hx
      · exact k1.2
      · exact k x (by simp [hx])
    · intro k x hx
      rcases List.mem_append.1 hx with hx | hx
      · exact k x (by simp [hx])
      · simp only [List.mem_singleton] at hx
        subst hx
        exact (h4 z).2 ⟨k (a, p) (by simp), k (b, q) (by simp)⟩
/-- Each modulus is at most the least common multiple. -/
theorem SameL.le {R L : List (Int × Int)} {x : Int × Int} (h : SameL R L) (hp : PosL L) (hx : x ∈ R) (h0 : 0 < x.2) : x.2.natAbs ≤ lcmL L := by
  have h1 := (h.2 ((lcmL L : Nat) : Int)).2 ((dvs_lcm L _).2 (Int.dvd_refl _)) x hx
  have h2 : x.2.natAbs ∣ lcmL L := by have := Int.natAbs_dvd_natAbs.2 h1; rwa [Int.natAbs_natCast] at this
  exact Nat.le_of_dvd (lcmL_pos hp) h2
/-- Where two don't go together there is nothing for all. -/
theorem SameL.none {a p b q : Int} {R L : List (Int × Int)} (h : SameL ((a, p) :: (b, q) :: R) L) (hp : PosL L) (hG : ¬ ((Nat.gcd q.natAbs p.natAbs : Nat) : Int) ∣ a - b) : ¬ Agree L := by
  intro k
  obtain ⟨z, hz⟩ := agree_sat hp k
  have h1 := (h.1 z).2 hz
  refine join_none (a := a) (p := p) (b := b) (q := q) ?_ ?_ hG z ⟨h1 (a, p) (by simp), h1 (b, q) (by simp)⟩
  · exact Int.dvd_trans (Int.natCast_dvd_natCast.2 (Nat.gcd_dvd_right _ _)) Int.natAbs_dvd_self
  · exact Int.dvd_trans (Int.natCast_dvd_natCast.2 (Nat.gcd_dvd_left _ _)) Int.natAbs_dvd_self
end Go.Proofs.YtbcopicoldnahaaGreat
