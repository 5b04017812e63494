/-
  The walks of ModPrimes and ModNext.
-/
import Derived.Test.YtofdbihohljmpaaDoorPrB
import Derived.Test.YtofdbihohljmpaaDoorGapA
import Derived.Test.YtofdbihohljmpaaDoorAwk6
/-! The walks of ModPrimes and ModNext. -/
namespace Go.Proofs.YtofdbihohljmpaaDoor
open Go.RowKit
set_option linter.unusedVariables false
set_option linter.unusedSimpArgs false

/-- The table of math/bits lies where it lies. -/
def TabHas (w : World) : Prop := 0 < w.heap.size ∧ TabAt 0 Lib.deBruijn64tab w
theorem TabHas.below {w w' : World} (h : TabHas w) (hb : Below w.heap.size w w') : TabHas w' :=
  ⟨Nat.lt_of_lt_of_le h.1 hb.size, fun j hj => (hb.cell (p := ⟨0, j, none⟩) h.1).trans (h.2 j hj)⟩
/-- What Next answers where there is a prime near. -/
def NextPost (n : Nat) (w : World) (e : Ending) (w' : World) : Prop :=
  ∃ q : Nat, e = .returned (.tuple #[.int .u64 (q : Int), .bool true]) ∧ MR.Pr q ∧ n < q ∧ q ≤ n + 200 ∧ Hid (∀ k, n < k → k < q → ¬ MR.Pr k) ∧ w = w'
theorem next_no (p : Nat) (w : World) (h1 : 2147483647 ≤ p) (h2 : p < 18446744073709551616) :
    Calls Tryd.prog 8 #[.int .u64 p] w fun e w' => e = .returned (.tuple #[.int .u64 0, .bool false]) ∧ w = w' := by
  have b1 : decide ((p : Int) < 2147483647) = false := decide_eq_false (by omega)
  go_enter Tryd.func8, Tryd.ntmps8
  go_wp2
  go_loop [0] (fun s => s = .int .u64 (p : Int)) (fun _ => 0)
  case atStart => rfl
  case round =>
    obtain rfl := hrel
    go_wp2
    go_ret2
    exact ⟨rfl, rfl⟩
set_option maxHeartbeats 2000000 in
theorem next_yes (n : Nat) (w : World) (hn : n < 1048576) (hT : TabHas w) :
    Calls Tryd.prog 8 #[.int .u64 n] w (NextPost n w) := by
  obtain ⟨q0, hq1, hq2, hq3⟩ := MR.near_all n hn
  have HQ := Lib.hid hq3
  have HT := hT.2
  clear hq3
  go_enter Tryd.func8, Tryd.ntmps8
  go_wp2
  go_loop [0] (fun s => ∃ k : Nat, n ≤ k ∧ k < q0 ∧ s = .int .u64 (k : Int) ∧ Hid (∀ j, n < j → j ≤ k → ¬ MR.Pr j)) (fun s => q0 - (intOf s).toNat)
  case atStart => exact ⟨n, Nat.le_refl _, hq1, rfl, Lib.hid fun j h1 h2 => by omega⟩
  case round =>
    obtain ⟨k, hk1, hk2, rfl, HN⟩ := hrel
    have b1 : decide ((k : Int) < 2147483647) = true := decide_eq_true (by omega)
    go_wp2_with fail
    refine (prime_calls (k + 1) w (by omega) HT).mono ?_
    rintro e w1 ⟨v, rfl, hv, rfl⟩
    cases v
    · have hnp : ¬ MR.Pr (k + 1) := fun h => absurd (hv.2 ⟨h, by omega⟩) (by decide)
      have hk3 : k + 1 < q0 := by
        rcases Nat.lt_or_ge (k + 1) q0 with z | z
        · exact z
        · exact absurd (by rw [show k + 1 = q0 by omega]; exact HQ.out) hnp
      have HM : Hid (∀ j, n < j → j ≤ k + 1 → ¬ MR.Pr j) := Lib.hid fun j h1 h2 => by
        by_cases e : j = k + 1
        · rw [e]; exact hnp
        · exact HN.out j h1 (by omega)
      clear hv hnp HN
      go_wp2
      go_round
      case rel => exact ⟨k + 1, by omega, hk3, by go_num, HM⟩
      case measure => simp [intOf]; omega
    · have P : Hid (NextPost n w (.returned (.tuple #[.int .u64 ((k + 1 : Nat) : Int), .bool true])) w) := Lib.hid ⟨k + 1, rfl, (hv.1 rfl).1, by omega, by omega, Lib.hid fun j h1 h2 => HN.out j h1 (by omega), rfl⟩
      clear hv HN
      go_wp2
      go_ret2
      exact P.out
theorem below31 {n : Nat} {v : Bool} (hn : n < 2147483648) (hv : v = true ↔ MR.Pr n ∧ n < 2147483648) : v = true ↔ MR.Pr n := ⟨fun h => (hv.1 h).1, fun h => hv.2 ⟨h, hn⟩⟩
set_option maxRecDepth 100000 in
set_option maxHeartbeats 2000000 in
theorem mprimes_calls (p b : Nat) (w : World) (hp : p < 4294967296) (hb : b < 18446744073709551616) (hT : TabHas w) :
    Calls Tryd.prog 3 #[.int .u32 p, .int .u64 b] w (TruePost w) := by
  obtain ⟨n, hn⟩ : ∃ n, p % 2147483648 = n := ⟨_, rfl⟩
  have hn2 : n < 2147483648 := by omega
  have hnc : (p : Int) % 2147483648 = (n : Int) := by omega
  have hW := Below.refl w.heap.size w
  clear hn
  by_cases hb2 : b < 2147483648
  · have b1 : decide ((b : Int) < 2147483648) = true := decide_eq_true (by omega)
    go_enter Tryd.func3, Tryd.ntmps3
    go_wp2_with fail
    refine (mawake_calls _).mono ?_
    rintro e w1 ⟨rfl, B1⟩
    replace hT := hT.below B1
    replace hW := hW.trans (B1.mono hW.size)
    clear B1
    go_wp2_with fail
    refine (prime_calls n w1 (by omega) hT.2).mono ?_
    rintro e w2 ⟨v, rfl, hv, rfl⟩
    have HV := Lib.hid (below31 hn2 hv)
    clear hv
    go_wp2_with fail
    refine (rprime_calls n w1 (by omega) HV.out).mono ?_
    rintro e w3 ⟨rfl, rfl⟩
    clear HV
    go_wp2
    go_ret
    exact ⟨rfl, hW⟩
  · have b1 : decide ((b : Int) < 2147483648) = false := decide_eq_false (by omega)
    go_enter Tryd.func3, Tryd.ntmps3
    go_wp2_with fail
    refine (mawake_calls _).mono ?_
    rintro e w1 ⟨rfl, B1⟩
    replace hT := hT.below B1
    replace hW := hW.trans (B1.mono hW.size)
    clear B1
    go_wp2_with fail
    refine (prime_calls n w1 (by omega) hT.2).mono ?_
    rintro e w2 ⟨v, rfl, hv, rfl⟩
    have HV := Lib.hid (below31 hn2 hv)
    clear hv
    go_wp2_with fail
    refine (rprime_calls n w1 (by omega) HV.out).mono ?_
    rintro e w3 ⟨rfl, rfl⟩
    clear HV
    go_wp2_with fail
    refine (prime_calls b w1 hb hT.2).mono ?_
    rintro e w4 ⟨u, rfl, hu, rfl⟩
    obtain rfl : u = false := by
      cases u
      · rfl
      · exact absurd (hu.1 rfl).2 hb2
    clear hu
    go_wp2
    go_ret
    exact ⟨rfl, hW⟩
set_option maxRecDepth 100000 in
set_option maxHeartbeats 2000000 in
theorem mnext_calls (p : Nat) (w : World) (hp : p < 4294967296) (hT : TabHas w) :
    Calls Tryd.prog 4 #[.int .u32 p] w (TruePost w) := by
  obtain ⟨n, hn⟩ : ∃ n, p % 1048576 = n := ⟨_, rfl⟩
  have hn2 : n < 1048576 := by omega
  have hnc : (p : Int) % 1048576 = (n : Int) := by omega
  have hW := Below.refl w.heap.size w
  clear hn
  go_enter Tryd.func4, Tryd.ntmps4
  go_wp2_with fail
  refine (next_yes n w hn2 hT).mono ?_
  rintro e w1 ⟨q, rfl, hq, hq1, hq2, hqn, rfl⟩
  have HPQ := Lib.hid hq
  clear hq
  have b1 : decide (q ≤ n) = false := decide_eq_false (by omega)
  have b2 : decide ((q : Int) ≤ (n : Int)) = false := decide_eq_false (by omega)
  have b3 : decide ((n : Int) + 200 < (q : Int)) = false := decide_eq_false (by omega)
  go_wp2_with fail
  refine (mawake_calls _).mono ?_
  rintro e w1 ⟨rfl, B1⟩
  replace hW := hW.trans (B1.mono hW.size)
  clear B1 hT
  go_wp2_with fail
  refine (rprime_calls q w1 (by omega) (b := true) ⟨fun _ => HPQ.out, fun _ => rfl⟩).mono ?_
  rintro e w3 ⟨rfl, rfl⟩
  go_wp2
  go_loop [6] (fun s => ∃ k : Nat, n < k ∧ k ≤ q ∧ s = .int .u64 (k : Int)) (fun s => q - (intOf s).toNat)
  case atStart => exact ⟨n + 1, by omega, by omega, by go_num⟩
  case round =>
    obtain ⟨k, hk1, hk2, rfl⟩ := hrel
    by_cases hkq : k < q
    · have HN : Hid (false = true ↔ MR.Pr k) := Lib.hid ⟨fun h => (by cases h), fun h => (hqn.out k hk1 hkq h).elim⟩
      go_wp2_with fail
      refine (rprime_calls k w1 (by omega) HN.out).mono ?_
      rintro e w4 ⟨rfl, rfl⟩
      clear HN
      go_wp2
      go_round
      case rel => exact ⟨k + 1, by omega, by omega, by go_num⟩
      case measure => simp [intOf]; omega
    · have hkq' : q ≤ k := by omega
      clear hkq
      go_wp2_with fail
      refine (next_no (2147483647 + n) w1 (by omega) (by omega)).mono ?_
      rintro e w4 ⟨rfl, rfl⟩
      go_wp2
      go_ret
      exact ⟨rfl, hW⟩
end Go.Proofs.YtofdbihohljmpaaDoor
