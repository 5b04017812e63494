/-
  Package rat, by value.
-/
import Derived.Test.YtfpncmhaoadfdaaGreatRatR
/-! Contracts: rat, by the numbers that fractions stand for. -/
namespace Go.Proofs.YtfpncmhaoadfdaaGreat
open Go.RowKit
set_option linter.unusedVariables false
set_option linter.unusedSimpArgs false

theorem unwanted_undef {ops : Array Oper} {o : Oper} {a : Act} {j d : Nat} {b : Bool} (hg : o.guard = some (j, b)) (hd : slotOf ops j = some d) (h : a.eval (.tmp d) = undef) : Region.wanted o (yielded ops a.tmps) = false := by
  have hy : yielded ops a.tmps j = none := by
    unfold slotOf at hd
    unfold yielded
    rw [hd, Option.bind_some]
    unfold Act.eval at h
    simp only [Array.getD_eq_getD_getElem?] at h
    cases hx : a.tmps[d]? with
    | none => rfl
    | some v => rw [hx] at h; simp at h; subst h; rfl
  unfold Region.wanted
  rw [hg]
  simp only [hy]
  rfl
/-- A fraction, normal or not, that stands for the number q. -/
def Qv (w : World) (s : Bool) (A : Option Addr) (n c : Nat) (t : Bool) (B : Option Addr) (m d : Nat) (q : Rat) : Prop := ∃ N D, Zv w s A n c N ∧ Zv w t B m d D ∧ Hid (Rat.divInt N D = q)
section
variable {w w' : World} {g : Nat} {s t s' t' s0 t0 u v : Bool} {A B A' B' A0 B0 C D' : Option Addr} {n c m d n' c' m' d' n0 c0 m0 d0 l e' f' h' k : Nat} {p q : Rat}
theorem Qv.mk {N D : Int} (h : Zv w s A n c N) (h' : Zv w t B m d D) : Qv w s A n c t B m d (Rat.divInt N D) := ⟨N, D, h, h', Lib.hid rfl⟩
theorem Qc.qv (h : Qc w s A n c t B m d q) : Qv w s A n c t B m d q := ⟨_, _, h.nv, h.dv, Lib.hid (rnum_rden q)⟩
theorem Qv.below (h : Qv w s A n c t B m d q) (hb : Below w.heap.size w w') : Qv w' s A n c t B m d q := by
  obtain ⟨N, D, h1, h2, h3⟩ := h
  exact ⟨N, D, h1.below hb, h2.below hb, h3⟩
theorem Qv.rput (h : Qv w s A n c t B m d q) (hi : Rb w g s0 A0 n0 c0 t0 B0 m0 d0) : Qv (rput w g s' A' n' c' t' B' m' d') s A n c t B m d q := by
  obtain ⟨N, D, h1, h2, h3⟩ := h
  exact ⟨N, D, h1.rput hi, h2.rput hi, h3⟩
theorem Qv.zput (h : Qv w s A n c t B m d q) (hi : Ib w g s0 A0 n0 c0) : Qv (zput w g s' A' n' c') s A n c t B m d q := by
  obtain ⟨N, D, h1, h2, h3⟩ := h
  exact ⟨N, D, h1.zput hi, h2.zput hi, h3⟩
theorem cmp_q (ha : Qv w s A n c t B m d p) (hb : Qv w u C l e' v D' f' h' q) (k : Nat) (hnk : n ≤ k) (hmk : m ≤ k) (hlk : l ≤ k) (hfk : f' ≤ k) (h1 : 1 ≤ k) (hk : k ≤ 1073741824) {r : Int} (hr : rsg (p - q) = r) :
    Calls Tryz.prog 10 #[.agg #[.bool s, .slice A n c, .bool t, .slice B m d], .agg #[.bool u, .slice C l e', .bool v, .slice D' f' h']] w (IPost r w) := by
  obtain ⟨N, D, a1, a2, a3⟩ := ha
  obtain ⟨M, E, b1, b2, b3⟩ := hb
  exact qcmp_v a1 a2 b1 b2 hnk hmk hlk hfk h1 hk (by rw [a3.out, b3.out]; exact hr)
theorem sign_q (ha : Qv w s A n c t B m d p) (k : Nat) (hnk : n ≤ k) (hmk : m ≤ k) (hk : k ≤ 1073741824) {r : Int} (hr : rsg p = r) :
    Calls Tryz.prog 11 #[.agg #[.bool s, .slice A n c, .bool t, .slice B m d]] w (IPost r w) := by
  obtain ⟨N, D, a1, a2, a3⟩ := ha
  exact qsign_v a1 a2 (by omega) (by omega) (by rw [← rsg_divInt, a3.out]; exact hr)
/-- The whole number next to a. -/
def rnear (a : Rat) : Int := (a + 1 / 2).floor
theorem near_uniq {a : Rat} {z : Int} (h : NearOk a z) : z = rnear a := by
  unfold NearOk at h
  unfold rnear
  exact (rfloor_of (by grind) (by grind)).symm
theorem near_ok (a : Rat) : NearOk a (rnear a) := by
  have h1 := Rat.floor_le (a + 1 / 2)
  have h2 := Rat.lt_floor_add_one (a + 1 / 2)
  rw [Rat.intCast_add, Rat.intCast_one] at h2
  unfold NearOk rnear
  constructor <;> grind
end
end Go.Proofs.YtfpncmhaoadfdaaGreat
