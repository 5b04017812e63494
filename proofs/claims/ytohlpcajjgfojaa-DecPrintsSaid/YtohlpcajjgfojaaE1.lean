/-
  quincunxlaw04.awake; the walks of DecSums, DecLong, DecBack.
-/
import Derived.Test.YtohlpcajjgfojaaDecC
/-! quincunxlaw04.awake. -/
namespace Go.Proofs.Ytohlpcajjgfojaa
open Go.RowKit
theorem nv_two {w : World} {t : TypeId} : Nv (w.alloc (.cells #[.int .u64 0, .int .u64 1] t)) (some ⟨w.heap.size, 0, none⟩) 2 2 18446744073709551616 := by
  have hb : Blk (w.alloc (.cells #[.int .u64 0, .int .u64 1] t)) w.heap.size t .u64 [0, 1] := heap_alloc_new w _
  exact ⟨[0, 1], hb.rd0, rfl, Nat.le_refl _, by omega, by intro k hk; simp at hk; rcases k with _ | _ | k <;> simp [nth] at *, by simp [ev]⟩
theorem print_two : str (dgs 18446744073709551616) = { data := #[49, 56, 52, 52, 54, 55, 52, 52, 48, 55, 51, 55, 48, 57, 53, 53, 49, 54, 49, 54] } := by
  unfold dgs
  rw [nd_eq (k := 20) (by omega) (by omega) (.inr (by omega))]
  rfl
theorem wawake_calls (w : World) : Calls Try.prog 8 #[] w (TruePost w) := by
  have hW := Below.refl w.heap.size w
  have E := print_two
  go_enter Try.func8, Try.ntmps8
  go_wp2_with fail
  refine (print_calls nv_two (by omega)).mono ?_
  rintro e w1 ⟨rfl, B1⟩
  rw [E]
  have hW2 := Lib.hid (((Below.refl w.heap.size w).alloc (Nat.le_refl _) _).trans (B1.mono (by simp)))
  clear hW B1 E
  go_wp2
  go_ret
  exact ⟨rfl, hW2.out⟩
end Go.Proofs.Ytohlpcajjgfojaa

/-! The walk of DecSums. -/
namespace Go.Proofs.Ytohlpcajjgfojaa
open Go.RowKit
set_option linter.unusedVariables false
theorem dsums_calls (s : ByteArray) (w : World) (hs : s.size ≤ 9223372036854775807) :
    Calls Try.prog 6 #[.string s] w (TruePost w) := by
  have hW := Below.refl w.heap.size w
  by_cases h1 : (s.size : Int) ≤ 500
  · by_cases hN : Num (bys s)
    · go_enter Try.func6, Try.ntmps6
      go_wp2_with fail
      refine (wawake_calls _).mono ?_
      rintro e w1 ⟨rfl, B1⟩
      replace hW := hW.trans (B1.mono hW.size)
      obtain ⟨v, hv1⟩ : ∃ v, hv (bys s) = v := ⟨_, rfl⟩
      obtain ⟨r, hr⟩ : ∃ r, v % 1000000007 = r := ⟨_, rfl⟩
      have HV := Lib.hid hv1
      have HR := Lib.hid hr
      have HN := Lib.hid hN
      clear hv1 hr hN
      go_wp2_with fail
      refine (sum_yes s HN.out r (by rw [HV.out]; exact HR.out) _).mono ?_
      rintro e w2 ⟨rfl, rfl⟩
      go_wp2_with fail
      refine (parse_yes s HN.out _).mono ?_
      rw [HV.out]
      rintro e w3 ⟨A3, n3, c3, rfl, p3, k3, B3⟩
      replace hW := hW.trans (B3.mono hW.size)
      go_wp2_with fail
      refine (small_v (x := 1000000007) p3.nv (by omega) (by omega) (by omega)).mono ?_
      rw [HR.out]
      rintro e w4 ⟨A4, n4, c4, rfl, p4, k4, B4⟩
      replace hW := hW.trans (B4.mono hW.size)
      go_wp2
      go_ret
      exact ⟨rfl, hW⟩
    · go_enter Try.func6, Try.ntmps6
      go_wp2_with fail
      refine (wawake_calls _).mono ?_
      rintro e w1 ⟨rfl, B1⟩
      replace hW := hW.trans (B1.mono hW.size)
      have HN := Lib.hid hN
      clear hN
      go_wp2_with fail
      refine (sum_no s HN.out _).mono ?_
      rintro e w2 ⟨rfl, rfl⟩
      go_wp2_with fail
      refine (parse_no s HN.out _).mono ?_
      rintro e w3 ⟨rfl, rfl⟩
      go_wp2_with fail
      refine (small_v (x := 1000000007) (Nv.nil _) (by omega) (by omega) (by omega)).mono ?_
      rintro e w4 ⟨A4, n4, c4, rfl, p4, k4, B4⟩
      replace hW := hW.trans (B4.mono hW.size)
      go_wp2
      go_ret
      exact ⟨rfl, hW⟩
  · go_enter Try.func6, Try.ntmps6
    go_wp2_with fail
    refine (wawake_calls _).mono ?_
    rintro e w1 ⟨rfl, B1⟩
    replace hW := hW.trans (B1.mono hW.size)
    go_wp2_with fail
    refine (wawake_calls _).mono ?_
    rintro e w2 ⟨rfl, B2⟩
    replace hW := hW.trans (B2.mono hW.size)
    go_wp2
    go_ret
    exact ⟨rfl, hW⟩
end Go.Proofs.Ytohlpcajjgfojaa
