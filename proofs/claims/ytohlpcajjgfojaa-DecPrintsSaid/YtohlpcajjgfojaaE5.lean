/-
  The walk of DecPrints.
-/
import Derived.Test.YtohlpcajjgfojaaRefE
/-! The walk of DecPrints. -/
namespace Go.Proofs.Ytohlpcajjgfojaa
open Go.RowKit
set_option linter.unusedVariables false
theorem str_size (l : List Nat) : (str l).size = l.length := by simp [str, ByteArray.size]
set_option maxHeartbeats 1000000 in
theorem decprints_calls (A : Option Addr) (n c v : Nat) (w : World) (ha : Nv w A n c v) (hn : n ≤ 9223372036854775807) :
    Calls Try.prog 3 #[.slice A n c] w (TruePost w) := by
  have hW := Below.refl w.heap.size w
  by_cases h1 : (n : Int) ≤ 20
  · have hnd := nv_digits ha (by omega)
    have hsz : nd v = (str (dgs v)).size := by rw [str_size, dgs_length]
    have HND := Lib.hid hnd
    obtain ⟨s1, hs1⟩ : ∃ s1, str (dgs v) = s1 := ⟨_, rfl⟩
    rw [hs1] at hsz
    have HS1 := Lib.hid hs1
    have HSZ := Lib.hid hsz
    clear hs1 hsz hnd
    go_enter Try.func3, Try.ntmps3
    go_wp2_with fail
    refine (wawake_calls _).mono ?_
    rintro e w1 ⟨rfl, B1⟩
    replace ha := ha.below B1
    replace hW := hW.trans (B1.mono hW.size)
    go_wp2_with fail
    refine (from_v ha (by omega)).mono ?_
    rintro e w2 ⟨A2, n2, c2, rfl, p2, k2, B2⟩
    replace ha := ha.below B2
    replace hW := hW.trans (B2.mono hW.size)
    go_wp2_with fail
    refine (rprint_v p2 (by omega) (by have := HND.out; omega)).mono ?_
    rintro e w3 ⟨rfl, B3⟩
    rw [HS1.out]
    replace ha := ha.below B3
    replace hW := hW.trans (B3.mono hW.size)
    clear p2
    go_wp2_with fail
    refine (print_calls ha (by omega)).mono ?_
    rintro e w4 ⟨rfl, B4⟩
    rw [HS1.out]
    replace ha := ha.below B4
    replace hW := hW.trans (B4.mono hW.size)
    go_wp2_with fail
    refine (len_v ha (by omega) HSZ.out).mono ?_
    rintro e w5 ⟨rfl, B5⟩
    replace hW := hW.trans (B5.mono hW.size)
    clear ha
    go_wp2
    go_ret
    exact ⟨rfl, hW⟩
  · go_enter Try.func3, Try.ntmps3
    go_wp2_with fail
    refine (wawake_calls _).mono ?_
    rintro e w1 ⟨rfl, B1⟩
    replace hW := hW.trans (B1.mono hW.size)
    go_wp2_with fail
    refine (wawake_calls _).mono ?_
    rintro e w2 ⟨rfl, B2⟩
    replace hW := hW.trans (B2.mono hW.size)
    go_wp2
    go_ret
    exact ⟨rfl, hW⟩
end Go.Proofs.Ytohlpcajjgfojaa
