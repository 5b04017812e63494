/-
  Package modn: Prime, Next; the reference's Prime.
-/
import Derived.Test.YthigedcpiglmnaaDoorPrA
import Derived.Test.YthigedcpiglmnaaDoorMrZ
/-! Contracts: modn.Prime, Next, quincunxref06.Prime. -/
namespace Go.Proofs.YthigedcpiglmnaaDoor
open Go.RowKit
set_option linter.unusedVariables false
set_option linter.unusedSimpArgs false

/-- It is told whether p is a prime below 2^31. -/
def PmPost (p : Nat) (w : World) (e : Ending) (w' : World) : Prop := ∃ v : Bool, e = .returned (.bool v) ∧ (v = true ↔ MR.Pr p ∧ p < 2147483648) ∧ w = w'
/-- The table of math/bits lies where it lies. -/
def TabHas (w : World) : Prop := 0 < w.heap.size ∧ TabAt 0 Lib.deBruijn64tab w
theorem TabHas.below {w w' : World} (h : TabHas w) (hb : Below w.heap.size w w') : TabHas w' :=
  ⟨Nat.lt_of_lt_of_le h.1 hb.size, fun j hj => (hb.cell (p := ⟨0, j, none⟩) h.1).trans (h.2 j hj)⟩
theorem pr_no {p : Nat} (h : MR.Pr p) (c : Nat) (hc : 2 ≤ c) (hne : p ≠ c) (h0 : p % c = 0) : False := by
  rcases h.2 c (Nat.dvd_of_mod_eq_zero h0) with k | k <;> omega
theorem two_adic : ∀ n : Nat, 1 ≤ n → ∃ t d, n = 2 ^ t * d ∧ d % 2 = 1 := by
  intro n
  induction n using Nat.strongRecOn with
  | _ n ih =>
    intro h
    rcases Nat.mod_two_eq_zero_or_one n with z | z
    · obtain ⟨t, d, h1, h2⟩ := ih (n / 2) (by omega) (by omega)
      exact ⟨t + 1, d, by rw [MR.two_pow]; omega, h2⟩
    · exact ⟨0, n, by simp, z⟩
theorem pr_lp {p c : Nat} (h : MR.Pr p) (hc : MR.Pr c) (h3 : 3 ≤ p) (h0 : ¬ p % c = 0) : ∃ t d, p - 1 = 2 ^ t * d ∧ d % 2 = 1 ∧ MR.Sp p c t d := by
  obtain ⟨t, d, h1, h2⟩ := two_adic (p - 1) (by omega)
  refine ⟨t, d, h1, h2, MR.pr_sp h ?_ h1⟩
  intro k
  rcases hc.2 p k with z | z
  · omega
  · rw [z, Nat.mod_self] at h0; exact h0 rfl
/-- The bases that were passed. -/
def Passed (p k : Nat) : Prop := ∀ c ∈ [2, 3, 5, 7].take k, ¬ c ∣ p ∧ ∃ t d, p - 1 = 2 ^ t * d ∧ d % 2 = 1 ∧ MR.Sp p c t d
theorem Passed.next {p k c : Nat} (h : Passed p k) (h0 : ¬ p % c = 0) (hs : ∃ t d, p - 1 = 2 ^ t * d ∧ d % 2 = 1 ∧ MR.Sp p c t d) (e : [2, 3, 5, 7][k]? = some c) : Passed p (k + 1) := by
  intro b hb
  rw [List.take_add_one, e] at hb
  rcases List.mem_append.1 hb with k | k
  · exact h b k
  · obtain rfl : b = c := by simpa using k
    exact ⟨fun d => h0 (Nat.mod_eq_zero_of_dvd d), hs⟩
theorem Passed.mr {p : Nat} (h : Passed p 4) : MR.MrOk p := by
  intro b hb
  refine h b ?_
  rcases hb with z | z | z | z <;> subst z <;> decide
theorem idx0 (w : World) : (Instr.index 89 (.agg #[.int .u64 2, .int .u64 3, .int .u64 5, .int .u64 7]) (.int .i64 0)).run Tryd.prog w = .ok (.int .u64 2) w := by kernel_rfl
theorem idx1 (w : World) : (Instr.index 89 (.agg #[.int .u64 2, .int .u64 3, .int .u64 5, .int .u64 7]) (.int .i64 1)).run Tryd.prog w = .ok (.int .u64 3) w := by kernel_rfl
theorem idx2 (w : World) : (Instr.index 89 (.agg #[.int .u64 2, .int .u64 3, .int .u64 5, .int .u64 7]) (.int .i64 2)).run Tryd.prog w = .ok (.int .u64 5) w := by kernel_rfl
theorem idx3 (w : World) : (Instr.index 89 (.agg #[.int .u64 2, .int .u64 3, .int .u64 5, .int .u64 7]) (.int .i64 3)).run Tryd.prog w = .ok (.int .u64 7) w := by kernel_rfl
set_option maxRecDepth 100000 in
set_option maxHeartbeats 4000000 in
/-- modn.Prime. -/
theorem prime_calls (p : Nat) (w : World) (hp : p < 18446744073709551616) (hT : TabAt 0 Lib.deBruijn64tab w) :
    Calls Tryd.prog 57 #[.int .u64 p] w (PmPost p w) := by
  by_cases h2 : p < 2
  · have P : Hid (PmPost p w (.returned (.bool false)) w) := Lib.hid ⟨false, rfl, ⟨fun h => (by cases h), fun h => by have := h.1.1; omega⟩, rfl⟩
    go_enter Tryd.func57, Tryd.ntmps57
    go_wp2
    go_ret
    exact P.out
  · by_cases hp2 : p < 2147483648
    · have H0 : Hid (Passed p 0) := Lib.hid (fun c hc => by simp at hc)
      have b1 : decide ((p : Int) < 2) = false := decide_eq_false (by omega)
      have b2 : decide ((2147483648 : Int) ≤ (p : Int)) = false := decide_eq_false (by omega)
      go_enter Tryd.func57, Tryd.ntmps57
      go_wp2
      go_loop [12] (fun i => ∃ k : Nat, k ≤ 4 ∧ i = .int .i64 (k : Int) ∧ Hid (1 ≤ k → 3 ≤ p) ∧ Hid (Passed p k)) (fun i => 4 - (intOf i).toNat)
      case atStart => exact ⟨0, by omega, rfl, Lib.hid (fun h => by omega), H0⟩
      case round =>
       clear H0
       obtain ⟨k, hk, hi, HK, HP⟩ := hrel
       have hk' : k = 0 ∨ k = 1 ∨ k = 2 ∨ k = 3 ∨ k = 4 := by omega
       rcases hk' with rfl | rfl | rfl | rfl | rfl
       · obtain rfl := hi.trans (show (Value.int .i64 ((0 : Nat) : Int)) = .int .i64 0 from rfl)
         clear hk
         have x0 := idx0 w
         by_cases h0 : p % 2 = 0
         · have e0 : (p : Int) % 2 = 0 := by omega
           by_cases hc : p = 2
           · subst hc
             have P : Hid (PmPost 2 w (.returned (.bool true)) w) := Lib.hid ⟨true, rfl, ⟨fun _ => ⟨MR.pr2, by omega⟩, fun _ => rfl⟩, rfl⟩
             clear HP HK e0 h0
             go_wp2
             go_ret
             exact P.out
           · have hc' : ((p : Int) == 2) = false := by rw [beq_eq_false_iff_ne]; omega
             have P : Hid (PmPost p w (.returned (.bool false)) w) := Lib.hid ⟨false, rfl, ⟨fun h => (by cases h), fun h => (pr_no h.1 2 (by omega) hc h0).elim⟩, rfl⟩
             clear HP HK h0 hc
             go_wp2
             go_ret
             exact P.out
         · have e0 : ((p : Int) % 2 == 0) = false := by rw [beq_eq_false_iff_ne]; omega
           have h3 : 3 ≤ p := by omega
           clear HK
           go_wp2_with fail
           refine (lp_calls p 2 w h3 hp2 (by omega) (by omega) hT).mono ?_
           rintro e w1 ⟨v, rfl, hv, rfl⟩
           clear e0
           cases v
           · have P : Hid (PmPost p w (.returned (.bool false)) w) := Lib.hid ⟨false, rfl, ⟨fun h => (by cases h), fun h => absurd (hv.2 (pr_lp h.1 MR.pr2 h3 h0)) (by decide)⟩, rfl⟩
             clear HP h0 hv
             go_wp2
             go_ret
             exact P.out
           · have HN : Hid (Passed p 1) := Lib.hid (HP.out.next (c := 2) h0 (hv.1 rfl) rfl)
             clear HP h0 hv
             go_wp2
             go_round
             case rel => exact ⟨1, by omega, by go_num, Lib.hid fun _ => h3, HN⟩
             case measure => simp [intOf]
       · obtain rfl := hi.trans (show (Value.int .i64 ((1 : Nat) : Int)) = .int .i64 1 from rfl)
         clear hk
         have x1 := idx1 w
         by_cases h0 : p % 3 = 0
         · have e0 : (p : Int) % 3 = 0 := by omega
           by_cases hc : p = 3
           · subst hc
             have P : Hid (PmPost 3 w (.returned (.bool true)) w) := Lib.hid ⟨true, rfl, ⟨fun _ => ⟨MR.pr3, by omega⟩, fun _ => rfl⟩, rfl⟩
             clear HP HK e0 h0
             go_wp2
             go_ret
             exact P.out
           · have hc' : ((p : Int) == 3) = false := by rw [beq_eq_false_iff_ne]; omega
             have P : Hid (PmPost p w (.returned (.bool false)) w) := Lib.hid ⟨false, rfl, ⟨fun h => (by cases h), fun h => (pr_no h.1 3 (by omega) hc h0).elim⟩, rfl⟩
             clear HP HK h0 hc
             go_wp2
             go_ret
             exact P.out
         · have e0 : ((p : Int) % 3 == 0) = false := by rw [beq_eq_false_iff_ne]; omega
           have h3 : 3 ≤ p := HK.out (by omega)
           clear HK
           go_wp2_with fail
           refine (lp_calls p 3 w h3 hp2 (by omega) (by omega) hT).mono ?_
           rintro e w1 ⟨v, rfl, hv, rfl⟩
           clear e0
           cases v
           · have P : Hid (PmPost p w (.returned (.bool false)) w) := Lib.hid ⟨false, rfl, ⟨fun h => (by cases h), fun h => absurd (hv.2 (pr_lp h.1 MR.pr3 h3 h0)) (by decide)⟩, rfl⟩
             clear HP h0 hv
             go_wp2
             go_ret
             exact P.out
           · have HN : Hid (Passed p 2) := Lib.hid (HP.out.next (c := 3) h0 (hv.1 rfl) rfl)
             clear HP h0 hv
             go_wp2
             go_round
             case rel => exact ⟨2, by omega, by go_num, Lib.hid fun _ => h3, HN⟩
             case measure => simp [intOf]
       · obtain rfl := hi.trans (show (Value.int .i64 ((2 : Nat) : Int)) = .int .i64 2 from rfl)
         clear hk
         have x2 := idx2 w
         by_cases h0 : p % 5 = 0
         · have e0 : (p : Int) % 5 = 0 := by omega
           by_cases hc : p = 5
           · subst hc
             have P : Hid (PmPost 5 w (.returned (.bool true)) w) := Lib.hid ⟨true, rfl, ⟨fun _ => ⟨MR.pr5, by omega⟩, fun _ => rfl⟩, rfl⟩
             clear HP HK e0 h0
             go_wp2
             go_ret
             exact P.out
           · have hc' : ((p : Int) == 5) = false := by rw [beq_eq_false_iff_ne]; omega
             have P : Hid (PmPost p w (.returned (.bool false)) w) := Lib.hid ⟨false, rfl, ⟨fun h => (by cases h), fun h => (pr_no h.1 5 (by omega) hc h0).elim⟩, rfl⟩
             clear HP HK h0 hc
             go_wp2
             go_ret
             exact P.out
         · have e0 : ((p : Int) % 5 == 0) = false := by rw [beq_eq_false_iff_ne]; omega
           have h3 : 3 ≤ p := HK.out (by omega)
           clear HK
           go_wp2_with fail
           refine (lp_calls p 5 w h3 hp2 (by omega) (by omega) hT).mono ?_
           rintro e w1 ⟨v, rfl, hv, rfl⟩
           clear e0
           cases v
           · have P : Hid (PmPost p w (.returned (.bool false)) w) := Lib.hid ⟨false, rfl, ⟨fun h => (by cases h), fun h => absurd (hv.2 (pr_lp h.1 MR.pr5 h3 h0)) (by decide)⟩, rfl⟩
             clear HP h0 hv
             go_wp2
             go_ret
             exact P.out
           · have HN : Hid (Passed p 3) := Lib.hid (HP.out.next (c := 5) h0 (hv.1 rfl) rfl)
             clear HP h0 hv
             go_wp2
             go_round
             case rel => exact ⟨3, by omega, by go_num, Lib.hid fun _ => h3, HN⟩
             case measure => simp [intOf]
       · obtain rfl := hi.trans (show (Value.int .i64 ((3 : Nat) : Int)) = .int .i64 3 from rfl)
         clear hk
         have x3 := idx3 w
         by_cases h0 : p % 7 = 0
         · have e0 : (p : Int) % 7 = 0 := by omega
           by_cases hc : p = 7
           · subst hc
             have P : Hid (PmPost 7 w (.returned (.bool true)) w) := Lib.hid ⟨true, rfl, ⟨fun _ => ⟨MR.pr7, by omega⟩, fun _ => rfl⟩, rfl⟩
             clear HP HK e0 h0
             go_wp2
             go_ret
             exact P.out
           · have hc' : ((p : Int) == 7) = false := by rw [beq_eq_false_iff_ne]; omega
             have P : Hid (PmPost p w (.returned (.bool false)) w) := Lib.hid ⟨false, rfl, ⟨fun h => (by cases h), fun h => (pr_no h.1 7 (by omega) hc h0).elim⟩, rfl⟩
             clear HP HK h0 hc
             go_wp2
             go_ret
             exact P.out
         · have e0 : ((p : Int) % 7 == 0) = false := by rw [beq_eq_false_iff_ne]; omega
           have h3 : 3 ≤ p := HK.out (by omega)
           clear HK
           go_wp2_with fail
           refine (lp_calls p 7 w h3 hp2 (by omega) (by omega) hT).mono ?_
           rintro e w1 ⟨v, rfl, hv, rfl⟩
           clear e0
           cases v
           · have P : Hid (PmPost p w (.returned (.bool false)) w) := Lib.hid ⟨false, rfl, ⟨fun h => (by cases h), fun h => absurd (hv.2 (pr_lp h.1 MR.pr7 h3 h0)) (by decide)⟩, rfl⟩
             clear HP h0 hv
             go_wp2
             go_ret
             exact P.out
           · have HN : Hid (Passed p 4) := Lib.hid (HP.out.next (c := 7) h0 (hv.1 rfl) rfl)
             clear HP h0 hv
             go_wp2
             go_round
             case rel => exact ⟨4, by omega, by go_num, Lib.hid fun _ => h3, HN⟩
             case measure => simp [intOf]
       · obtain rfl := hi.trans (show (Value.int .i64 ((4 : Nat) : Int)) = .int .i64 4 from rfl)
         clear hk
         have h3 := HK.out (by omega)
         have P : Hid (PmPost p w (.returned (.bool true)) w) := Lib.hid ⟨true, rfl, ⟨fun _ => ⟨MR.mr_pr (by omega) hp2 HP.out.mr, hp2⟩, fun _ => rfl⟩, rfl⟩
         clear HP HK
         go_wp2
         go_ret
         exact P.out
    · have P : Hid (PmPost p w (.returned (.bool false)) w) := Lib.hid ⟨false, rfl, ⟨fun h => (by cases h), fun h => absurd h.2 hp2⟩, rfl⟩
      go_enter Tryd.func57, Tryd.ntmps57
      go_wp2
      go_ret
      exact P.out
/-- The reference's loop: no divisor so far. -/
def NoDiv (p d : Nat) : Prop := ∀ c, 2 ≤ c → c < d → p % c ≠ 0
theorem NoDiv.pr {p d : Nat} (h : NoDiv p d) (h2 : 2 ≤ p) (hd : p / d < d) (hd1 : 2 ≤ d) : MR.Pr p := by
  refine MR.pr_small h2 fun c h1 h3 h0 => ?_
  rcases Nat.lt_or_ge c d with k | k
  · exact h c h1 k h0
  · have e := Nat.div_add_mod p c
    have h4 : p / c ≤ p / d := Nat.div_le_div_left k (by omega)
    obtain ⟨q, hq⟩ : ∃ q, p / c = q := ⟨_, rfl⟩
    rw [hq] at e h4
    rw [h0, Nat.add_zero] at e
    have h5 : 2 ≤ q := by
      rcases Nat.lt_or_ge q 2 with z | z
      · have : q = 0 ∨ q = 1 := by omega
        rcases this with y | y
        · rw [y, Nat.mul_zero] at e; omega
        · rw [y, Nat.mul_one] at e; omega
      · exact z
    refine h q h5 (by omega) ?_
    rw [← e]
    exact Nat.mul_mod_left _ _
end Go.Proofs.YthigedcpiglmnaaDoor
