/-
  Lists of whole numbers that came in; the reference's Few.
-/
import Derived.Test.YtcdkdanfiimlkaaZlA
/-! Lists of whole numbers that came in; of a size that is looked at. -/
namespace Go.Proofs.Ytcdkdanfiimlkaa
open Go.RowKit
set_option linter.unusedVariables false
set_option linter.unusedSimpArgs false

/-- A whole number of a list that came in. -/
structure Zr where
  s : Bool
  A : Option Addr
  n : Nat
  c : Nat
  z : Int
def nzr : Zr := ⟨false, none, 0, 0, 0⟩
/-- The numbers of a list that came in, as they lie. -/
structure RL (w : World) (A : Option Addr) (n c : Nat) (R : List Zr) : Prop where
  len : R.length = n
  le : n ≤ c
  cap : c ≤ 9223372036854775807
  at' : 0 < n → ∃ ad, A = some ad ∧ ad.block < w.heap.size ∧ ∀ j, j < n → w.cell? (ad.add (j * 2)) = some (.bool (R.getD j nzr).s) ∧ w.cell? ⟨(ad.add (j * 2)).block, (ad.add (j * 2)).off + 1, none⟩ = some (.slice (R.getD j nzr).A (R.getD j nzr).n (R.getD j nzr).c)
  num : ∀ x, x ∈ R → Zv w x.s x.A x.n x.c x.z
theorem RL.below {w w' : World} {A : Option Addr} {n c : Nat} {R : List Zr} (h : RL w A n c R) (hb : Below w.heap.size w w') : RL w' A n c R := ⟨h.len, h.le, h.cap, fun h0 => by
  obtain ⟨ad, rfl, h1, h2⟩ := h.at' h0
  exact ⟨ad, rfl, Nat.lt_of_lt_of_le h1 hb.size, fun j hj => ⟨(hb.cell (by rw [add_block]; exact h1)).trans (h2 j hj).1, (hb.cell (p := ⟨(ad.add (j * 2)).block, (ad.add (j * 2)).off + 1, none⟩) (by show (ad.add (j * 2)).block < _; rw [add_block]; exact h1)).trans (h2 j hj).2⟩⟩, fun x hx => (h.num x hx).below hb⟩
/-- Its numbers. -/
def nums (R : List Zr) : List Int := R.map (·.z)
theorem RL.zl {w : World} {A : Option Addr} {n c k : Nat} {R : List Zr} (h : RL w A n c R) (hk : ∀ j, j < n → (R.getD j nzr).n ≤ k) : ZL false w A n c k (nums R) := ⟨by unfold nums; rw [List.length_map]; exact h.len, h.le, h.cap, fun h0 => by
  obtain ⟨ad, rfl, h1, h2⟩ := h.at' h0
  refine ⟨ad, rfl, h1, fun j hj => ?_⟩
  have hl : j < R.length := by rw [h.len]; exact hj
  have e : R.getD j nzr = R[j] := by simp [List.getD, hl]
  have e2 : ith (nums R) j = R[j].z := by simp [ith, nums, List.getD, hl]
  obtain ⟨c1, c2⟩ := h2 j hj
  refine ⟨_, _, _, _, c1, c2, ⟨?_, fun e => nomatch e⟩, hk j hj⟩
  rw [e, e2]
  exact h.num _ (List.getElem_mem hl)⟩
/-- It is of a size that is looked at. -/
def Fw (R : List Zr) (N W : Nat) : Prop := R.length ≤ N ∧ ∀ j, j < R.length → j < 100 → (R.getD j nzr).n ≤ W
theorem fw_all {R : List Zr} {N W : Nat} (h : Fw R N W) (hN : N ≤ 100) (j : Nat) (hj : j < R.length) : (R.getD j nzr).n ≤ W := h.2 j hj (by have := h.1; omega)
instance (R : List Zr) (N W : Nat) : Decidable (Fw R N W) := by unfold Fw; infer_instance
def fwb (R : List Zr) (N W : Nat) : Bool := decide (Fw R N W)
theorem fwb_true {R : List Zr} {N W : Nat} (h : Fw R N W) : fwb R N W = true := by unfold fwb; exact decide_eq_true h
theorem fwb_false {R : List Zr} {N W : Nat} (h : ¬ Fw R N W) : fwb R N W = false := by unfold fwb; exact decide_eq_false h
theorem of_fwb {R : List Zr} {N W : Nat} (h : fwb R N W = true) : Fw R N W := by unfold fwb at h; exact of_decide_eq_true h
set_option maxRecDepth 100000 in
set_option maxHeartbeats 1000000 in
/-- The reference's Few. -/
theorem rfew10_v {A : Option Addr} {n c N W : Nat} {R : List Zr} {b : Bool} {w : World} (hx : RL w A n c R) (hN : N ≤ 1000) (hW' : W ≤ 1000) (hb : fwb R N W = b) :
    Calls Try.prog 85 #[.slice A n c, .int .i64 (N : Int), .int .i64 (W : Int)] w (fun e w' => e = .returned (.bool b) ∧ Below w.heap.size w w') := by
  have HX0 := Lib.hid hx
  have HN := Lib.hid hx.len
  have Hb := Lib.hid hb
  have hnc := hx.le
  have hcm := hx.cap
  clear hx hb
  go_enter Try.func85, Try.ntmps85
  go_wp2_with fail
  go_loopw [7] (fun s7 wr => ∃ j : Nat, s7 = .int .i64 (j : Int) ∧ j ≤ n ∧ Hid (∀ i, i < j → (R.getD i nzr).n ≤ W) ∧ wr = w) (fun s7 _ => n - (intOf s7).toNat)
  case atStart => exact ⟨0, rfl, Nat.zero_le _, Lib.hid fun i hi => by omega, rfl⟩
  case round =>
    obtain ⟨j, rfl, hj, HE, rfl⟩ := hrel
    by_cases hlt : j < n
    · have u2 : (j : Int) < (n : Int) := by omega
      by_cases h100 : j < 100
      · have u3 : (j : Int) < 100 := by omega
        have u1 : (0 : Int) ≤ (j : Int) := by omega
        obtain ⟨ad, rfl, hab, hc⟩ := HX0.out.at' (by omega)
        obtain ⟨c1, c2⟩ := hc j hlt
        obtain ⟨x, hx⟩ : ∃ x, R.getD j nzr = x := ⟨_, rfl⟩
        rw [hx] at c1 c2
        have HX := Lib.hid hx
        clear hc hab hx
        by_cases hw : x.n ≤ W
        · have u4 : ¬ (W : Int) < (x.n : Int) := by omega
          have HE2 : Hid (∀ i, i < j + 1 → (R.getD i nzr).n ≤ W) := Lib.hid fun i hi => by
            rcases Nat.lt_or_ge i j with h | h
            · exact HE.out i h
            · rw [show i = j by omega, HX.out]; exact hw
          clear hw
          go_wp2_with fail
          go_roundw
          case rel => exact ⟨j + 1, by go_num, by omega, HE2, trivial⟩
          case measure => first | (simp [intOf]; done) | (simp [intOf]; omega)
        · have u4 : (W : Int) < (x.n : Int) := by omega
          have hbf : b = false := by
            rw [← Hb.out]
            exact fwb_false fun h => hw (by rw [← HX.out]; exact h.2 j (by rw [HN.out]; exact hlt) h100)
          have HBF := Lib.hid hbf
          clear hbf hw
          go_wp2_with fail
          exact bodyPost_ret (v := .bool false) (by simp [results, Try.results85, go_sem]) rfl ⟨by rw [HBF.out], Below.refl _ _⟩
      · have u3 : ¬ (j : Int) < 100 := by omega
        obtain ⟨t, ht⟩ : ∃ t, decide ((n : Int) ≤ (N : Int)) = t := ⟨_, rfl⟩
        have hbt : b = t := by
          rw [← Hb.out, ← ht]
          by_cases hnN : n ≤ N
          · rw [decide_eq_true (by omega)]
            exact fwb_true ⟨by rw [HN.out]; exact hnN, fun i hi h1 => HE.out i (by omega)⟩
          · rw [decide_eq_false (by omega)]
            exact fwb_false fun h => hnN (by have := h.1; rw [HN.out] at this; exact this)
        have HBT := Lib.hid hbt
        have HTT := Lib.hid ht
        clear hbt ht
        go_wp2_with fail
        exact bodyPost_ret (v := .bool (decide ((n : Int) ≤ (N : Int)))) (by simp [results, Try.results85, go_sem]) rfl ⟨by rw [HBT.out, HTT.out], Below.refl _ _⟩
    · obtain rfl : j = n := by omega
      have u3 : ¬ (j : Int) < (j : Int) := by omega
      obtain ⟨t, ht⟩ : ∃ t, decide ((j : Int) ≤ (N : Int)) = t := ⟨_, rfl⟩
      have hbt : b = t := by
        rw [← Hb.out, ← ht]
        by_cases hnN : j ≤ N
        · rw [decide_eq_true (by omega)]
          exact fwb_true ⟨by rw [HN.out]; exact hnN, fun i hi h1 => HE.out i (by rw [HN.out] at hi; exact hi)⟩
        · rw [decide_eq_false (by omega)]
          exact fwb_false fun h => hnN (by have := h.1; rw [HN.out] at this; exact this)
      have HBT := Lib.hid hbt
      have HTT := Lib.hid ht
      clear hbt ht
      go_wp2_with fail
      exact bodyPost_ret (v := .bool (decide ((j : Int) ≤ (N : Int)))) (by simp [results, Try.results85, go_sem]) rfl ⟨by rw [HBT.out, HTT.out], Below.refl _ _⟩
end Go.Proofs.Ytcdkdanfiimlkaa
