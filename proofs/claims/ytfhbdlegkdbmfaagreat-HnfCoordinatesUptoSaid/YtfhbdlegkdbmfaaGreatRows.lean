/-
  No cell of these rows narrows 'for every input' (looked for: loops, veiled, ifaces, maps, wideKeys, modest, calm, conditions, laid).
  DERIVED. THE GIVEN ROWS OF THIS SEAT. 3 by the template 'for every input the law returns true; each argument reads behind the call as it read before'; 0 by the template 'total and deterministic' (their statements: YtfhbdlegkdbmfaaGreatTotals.lean).
  GIVEN WITH THE SEED: the statements are not yours to turn. If you find one false, say at which input.
  Laid BY PROGRAM, IN A SANDBOX (cutbox-rows.mjs): the forced cells as the released guide's own fill.sh prints them over the translation bbb76b89686ebf92… (all of the seat's roots in one cut). By AI agents, Wed Nov 11 2026. No macro, syntax, notation, axiom, sorry.
-/
import Derived.Test.YtfhbdlegkdbmfaaGreatChecked
import GoSem.Claim
import GoSem.ClaimJoined
import GoSem.ClaimMapViews
import Derived.JoinedTies
import Derived.KernelRfl
namespace Go.Proofs.YtfhbdlegkdbmfaaGreat
/- THE CELL 'sum', in the pinned program and in every row, IS THE sha256 OF THE DUMP (.gsa) THAT YtfhbdlegkdbmfaaGreatProg.lean LOADS. Nothing in Lean hashes anything: it is a label: what it is worth is what the hold of that sum in a sandbox is worth. -/
noncomputable def Tryz.pinned : Pinned := { name := "ytfhbdlegkdbmfaagreat", sum := "bbb76b89686ebf92e37866160769fce4a82a87c51a797bb754e8e56ad59b98be", checked := Tryz.checked }
namespace Rows
def none {H : Type} : Left H := { results := [], args := [] }

/-- 'quincunxlaw13.QmatClears': WHATEVER THE INPUT: true; the input reads as it did. -/
def qmatClearsSpec : ChangeSpec := { name := "qmatClears", fn := fun _ => fun
  | [d1, d2, d3] => { results := [.lit (.bool true)], args := [d1, d2, d3] }
  | _ => none }
def qmatClearsRow : OpenClaim := { program := "ytfhbdlegkdbmfaagreat", sum := "bbb76b89686ebf92e37866160769fce4a82a87c51a797bb754e8e56ad59b98be", func := "quincunx/quincunxlaw13.QmatClears", spec := "qmatClears", inPlace := ["math/bits.Add64", "math/bits.Sub64"], unfollowed := true, recurses := true, named := ["math/bits.divideError", "math/bits.overflowError"], apart := false }
def QmatClearsSaid : Prop := qmatClearsRow.holds Tryz.pinned (OpenSpec.ofChange qmatClearsSpec)

/-- ITS FALSE NEIGHBOUR: 'it returns false'. Refute it at one input. -/
def qmatClearsWrong : ChangeSpec := { name := "qmatClears", fn := fun _ => fun
  | [d1, d2, d3] => { results := [.lit (.bool false)], args := [d1, d2, d3] }
  | _ => none }
def QmatClearsWrongFalsely : Prop := qmatClearsRow.holds Tryz.pinned (OpenSpec.ofChange qmatClearsWrong)

/-- 'quincunxlaw13.QmatReckons': WHATEVER THE INPUT: true; the input reads as it did. -/
def qmatReckonsSpec : ChangeSpec := { name := "qmatReckons", fn := fun _ => fun
  | [d1, d2, d3] => { results := [.lit (.bool true)], args := [d1, d2, d3] }
  | _ => none }
def qmatReckonsRow : OpenClaim := { program := "ytfhbdlegkdbmfaagreat", sum := "bbb76b89686ebf92e37866160769fce4a82a87c51a797bb754e8e56ad59b98be", func := "quincunx/quincunxlaw13.QmatReckons", spec := "qmatReckons", inPlace := ["math/bits.Add64", "math/bits.Sub64"], unfollowed := true, recurses := true, named := ["math/bits.divideError", "math/bits.overflowError"], apart := false }
def QmatReckonsSaid : Prop := qmatReckonsRow.holds Tryz.pinned (OpenSpec.ofChange qmatReckonsSpec)

/-- ITS FALSE NEIGHBOUR: 'it returns false'. Refute it at one input. -/
def qmatReckonsWrong : ChangeSpec := { name := "qmatReckons", fn := fun _ => fun
  | [d1, d2, d3] => { results := [.lit (.bool false)], args := [d1, d2, d3] }
  | _ => none }
def QmatReckonsWrongFalsely : Prop := qmatReckonsRow.holds Tryz.pinned (OpenSpec.ofChange qmatReckonsWrong)

/-- 'quincunxlaw14.HnfCoordinates': WHATEVER THE INPUT: true; the input reads as it did. -/
def hnfCoordinatesSpec : ChangeSpec := { name := "hnfCoordinates", fn := fun _ => fun
  | [d1, d2, d3] => { results := [.lit (.bool true)], args := [d1, d2, d3] }
  | _ => none }
def hnfCoordinatesRow : OpenClaim := { program := "ytfhbdlegkdbmfaagreat", sum := "bbb76b89686ebf92e37866160769fce4a82a87c51a797bb754e8e56ad59b98be", func := "quincunx/quincunxlaw14.HnfCoordinates", spec := "hnfCoordinates", inPlace := ["math/bits.Add64", "math/bits.Sub64"], unfollowed := true, recurses := true, named := ["math/bits.divideError", "math/bits.overflowError"], apart := false }
def HnfCoordinatesSaid : Prop := hnfCoordinatesRow.holds Tryz.pinned (OpenSpec.ofChange hnfCoordinatesSpec)

/-- ITS FALSE NEIGHBOUR: 'it returns false'. Refute it at one input. -/
def hnfCoordinatesWrong : ChangeSpec := { name := "hnfCoordinates", fn := fun _ => fun
  | [d1, d2, d3] => { results := [.lit (.bool false)], args := [d1, d2, d3] }
  | _ => none }
def HnfCoordinatesWrongFalsely : Prop := hnfCoordinatesRow.holds Tryz.pinned (OpenSpec.ofChange hnfCoordinatesWrong)

/- THE SECOND FORM. 'bulk': how many values and letters a reading holds, each counted each time it is reached (what is shared counts as often as it is met; a slice's spare places count too). A statement '..UptoSaid' is the law's where the arguments, and the package variables that the reading takes, are together of bulk at most 1048576: NARROWER than '..Said'. Prove '..Said' where nothing that the law and all that it calls make is longer than what came in: it says more and counts as full. Else prove '..UptoSaid'. A law counts once. -/
mutual
def uptoBulk {H : Type} : DataW H → Nat
  | .lit (.string bytes) => bytes.length + 1
  | .lit _ => 1
  | .nil => 1
  | .ptr d => uptoBulk d + 1
  | .slice elems spare => uptoBulkAll elems + uptoBulkAll spare + 1
  | .agg parts => uptoBulkAll parts + 1
  | .iface _ d => uptoBulk d + 1
  | .map entries => uptoBulkEntries entries + 1
  | .held _ => 1
def uptoBulkAll {H : Type} : List (DataW H) → Nat
  | [] => 0
  | d :: r => uptoBulk d + uptoBulkAll r
def uptoBulkEntries {H : Type} : List (Lit × DataW H) → Nat
  | [] => 0
  | x :: r => uptoBulkEntry x + uptoBulkEntries r
def uptoBulkEntry {H : Type} : Lit × DataW H → Nat
  | (.string bytes, d) => bytes.length + uptoBulk d + 1
  | (_, d) => uptoBulk d + 1
 end
def uptoSmall : (H : Type) → List (DataW H) → Bool := fun _ ds => decide (uptoBulkAll ds ≤ 1048576)
def OpenSpec.upto (s : _root_.Go.ChangeSpec) : _root_.Go.OpenSpec := { _root_.Go.OpenSpec.ofChange s with cond := some uptoSmall }

/-- 'quincunxlaw13.QmatClears', WHERE WHAT IT READS IS OF BULK AT MOST 1048576: true; the input reads as it did. -/
def qmatClearsUptoRow : OpenClaim := { program := "ytfhbdlegkdbmfaagreat", sum := "bbb76b89686ebf92e37866160769fce4a82a87c51a797bb754e8e56ad59b98be", func := "quincunx/quincunxlaw13.QmatClears", spec := "qmatClears", inPlace := ["math/bits.Add64", "math/bits.Sub64"], unfollowed := true, recurses := true, named := ["math/bits.divideError", "math/bits.overflowError"], apart := false, narrowed := true }
def QmatClearsUptoSaid : Prop := qmatClearsUptoRow.holds Tryz.pinned (OpenSpec.upto qmatClearsSpec)

/-- 'quincunxlaw13.QmatReckons', WHERE WHAT IT READS IS OF BULK AT MOST 1048576: true; the input reads as it did. -/
def qmatReckonsUptoRow : OpenClaim := { program := "ytfhbdlegkdbmfaagreat", sum := "bbb76b89686ebf92e37866160769fce4a82a87c51a797bb754e8e56ad59b98be", func := "quincunx/quincunxlaw13.QmatReckons", spec := "qmatReckons", inPlace := ["math/bits.Add64", "math/bits.Sub64"], unfollowed := true, recurses := true, named := ["math/bits.divideError", "math/bits.overflowError"], apart := false, narrowed := true }
def QmatReckonsUptoSaid : Prop := qmatReckonsUptoRow.holds Tryz.pinned (OpenSpec.upto qmatReckonsSpec)

/-- 'quincunxlaw14.HnfCoordinates', WHERE WHAT IT READS IS OF BULK AT MOST 1048576: true; the input reads as it did. -/
def hnfCoordinatesUptoRow : OpenClaim := { program := "ytfhbdlegkdbmfaagreat", sum := "bbb76b89686ebf92e37866160769fce4a82a87c51a797bb754e8e56ad59b98be", func := "quincunx/quincunxlaw14.HnfCoordinates", spec := "hnfCoordinates", inPlace := ["math/bits.Add64", "math/bits.Sub64"], unfollowed := true, recurses := true, named := ["math/bits.divideError", "math/bits.overflowError"], apart := false, narrowed := true }
def HnfCoordinatesUptoSaid : Prop := hnfCoordinatesUptoRow.holds Tryz.pinned (OpenSpec.upto hnfCoordinatesSpec)

end Rows
end Go.Proofs.YtfhbdlegkdbmfaaGreat
