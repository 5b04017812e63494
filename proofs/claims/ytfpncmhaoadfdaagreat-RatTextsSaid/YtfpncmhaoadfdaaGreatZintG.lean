/-
  Package zint: Gcd.
-/
import Derived.Test.YtfpncmhaoadfdaaGreatZintD
import Derived.Test.YtfpncmhaoadfdaaGreatGcdF
/-! Contract: zint.Gcd. -/
namespace Go.Proofs.YtfpncmhaoadfdaaGreat
open Go.RowKit
set_option linter.unusedVariables false
set_option linter.unusedSimpArgs false

set_option maxHeartbeats 400000 in
/-- zint.Gcd. -/
theorem zgcd_v {A B : Option Addr} {n m c d : Nat} {s t : Bool} {x y : Int} {w : World} (hx : Zv w s A n c x) (hy : Zv w t B m d y) (hn : n ≤ 137438953472) (hm : m ≤ 137438953472) {G : Int} (hG : ((Nat.gcd x.natAbs y.natAbs : Nat) : Int) = G) :
    Calls Tryz.prog 24 #[.agg #[.bool s, .slice A n c], .agg #[.bool t, .slice B m d]] w (ZPost G (max n m) w) := by
  obtain ⟨w3, hw3, IA, IB, IR, z0⟩ := open3 w s t A B n c m d
  obtain ⟨hx1, ex⟩ := hx.up z0
  obtain ⟨hy1, ey⟩ := hy.up z0
  have HZ := Lib.hid z0
  have hs : sg false (Nat.gcd x.natAbs y.natAbs) = G := by rw [← hG]; rfl
  have HS := Lib.hid hs
  have HW := Lib.hid hw3.symm
  clear hx hy ex ey hs z0 hw3 hG
  have HA := Lib.hid IA
  have HB := Lib.hid IB
  have HR := Lib.hid IR
  obtain ⟨a1, a2, a3, a4, a5⟩ := IA
  obtain ⟨b1, b2, b3, b4, b5⟩ := IB
  clear IR
  have n1 : ¬ (w.heap.size + 1 + 1 = w.heap.size) := by omega
  have n2 : ¬ (w.heap.size = w.heap.size + 1 + 1) := by omega
  go_enter Tryz.func24, Tryz.ntmps24
  go_wp2_with fail
  rw [HW.out]
  go_wp2_with fail
  refine (gcd_v hx1 hy1 hn hm).mono ?_
  rintro e w4 ⟨A4, n4, c4, rfl, p4, k4, B4⟩
  clear a1 a2 a3 a4 b1 b2 b3 b4
  obtain ⟨r1, r2, r3, r4, r5⟩ := HR.out.below B4
  have Q4 := B4
  go_wp2_with fail
  refine (signed_v p4).mono ?_
  rintro e w5 ⟨s5, A5, n5, c5, rfl, p5, k5, B5⟩
  clear r1 r2 r3 r4 r5
  have Q5 := zup Q4 B5
  obtain ⟨r1, r2, r3, r4, r5⟩ := HR.out.below Q5
  rw [HS.out] at p5
  have P := Lib.hid (zfin p5 ⟨r1, r2, r3, r4, r5⟩ (k := max n m) (by omega) (by omega) (zup HZ.out Q5))
  clear p4 p5 B4 B5 Q4 Q5 k4 k5
  go_wp2_with fail
  exact bodyPost_ret (v := .agg #[.bool s5, .slice A5 n5 c5]) (by simp [results, Tryz.results24, go_sem, r1, r2]) rfl P.out
end Go.Proofs.YtfpncmhaoadfdaaGreat
