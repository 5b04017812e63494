/-
  The walk of ModRests.
-/
import Derived.Test.YtofdbihohljmpaaG1a
import Derived.Test.YtofdbihohljmpaaG1b
import Derived.Deep.RegionWith
/-! The walk of ModRests. -/
namespace Go.Proofs.Ytofdbihohljmpaa
open Go.RowKit
set_option linter.unusedVariables false
set_option linter.unusedSimpArgs false

theorem mrests_calls (A B : Option Addr) (n m c d : Nat) (s t : Bool) (x y : Int) (w : World) (hx : Zv w s A n c x) (hy : Zv w t B m d y) (hn : n ≤ 9223372036854775807) (hm : m ≤ 9223372036854775807) :
    Calls Try.prog 3 #[.agg #[.bool s, .slice A n c], .agg #[.bool t, .slice B m d]] w (TruePost w) := by
  by_cases hf : n ≤ 4 ∧ m ≤ 4
  · by_cases h0 : y ≤ 0
    · exact mr_bad hx hy hf.1 hf.2 h0
    · by_cases hg : Nat.gcd x.natAbs y.natAbs = 1
      · exact mr_yes hx hy hf.1 hf.2 (by omega) hg
      · exact mr_none hx hy hf.1 hf.2 (by omega) hg
  · exact mr_few hx hy hn hm hf
end Go.Proofs.Ytofdbihohljmpaa
