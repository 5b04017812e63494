/-
  No cell of these rows narrows 'for every input' (looked for: loops, veiled, ifaces, maps, wideKeys, modest, calm, conditions, laid).
  DERIVED. THE GIVEN ROWS OF THIS SEAT. 7 by the template 'for every input the law returns true; each argument reads behind the call as it read before'; 0 by the template 'total and deterministic' (their statements: YtkgghhklbbfdiaaGreatTotals.lean).
  GIVEN WITH THE SEED: the statements are not yours to turn. If you find one false, say at which input.
  Laid BY PROGRAM, IN A SANDBOX (cutbox-rows.mjs): the forced cells as the released guide's own fill.sh prints them over the translation 4a129f7a0df474f2… (all of the seat's roots in one cut). By AI agents, Wed Nov 11 2026. No macro, syntax, notation, axiom, sorry.
-/
import Derived.Test.YtkgghhklbbfdiaaGreatChecked
import GoSem.Claim
import GoSem.ClaimJoined
import GoSem.ClaimMapViews
import Derived.JoinedTies
import Derived.KernelRfl
namespace Go.Proofs.YtkgghhklbbfdiaaGreat
/- THE CELL 'sum', in the pinned program and in every row, IS THE sha256 OF THE DUMP (.gsa) THAT YtkgghhklbbfdiaaGreatProg.lean LOADS. Nothing in Lean hashes anything: it is a label: what it is worth is what the hold of that sum in a sandbox is worth. -/
noncomputable def Tryz.pinned : Pinned := { name := "ytkgghhklbbfdiaagreat", sum := "4a129f7a0df474f255fb0d7be09689c679db66f01fd1228924c2b1eb411d03e2", checked := Tryz.checked }
namespace Rows
def none {H : Type} : Left H := { results := [], args := [] }

/-- 'quincunxlaw13.QmatReduces': WHATEVER THE INPUT: true; the input reads as it did. -/
def qmatReducesSpec : ChangeSpec := { name := "qmatReduces", fn := fun _ => fun
  | [d] => { results := [.lit (.bool true)], args := [d] }
  | _ => none }
def qmatReducesRow : OpenClaim := { program := "ytkgghhklbbfdiaagreat", sum := "4a129f7a0df474f255fb0d7be09689c679db66f01fd1228924c2b1eb411d03e2", func := "quincunx/quincunxlaw13.QmatReduces", spec := "qmatReduces", inPlace := ["math/bits.Add64", "math/bits.Sub64"], unfollowed := true, recurses := true, named := ["math/bits.divideError", "math/bits.overflowError"], apart := false }
def QmatReducesSaid : Prop := qmatReducesRow.holds Tryz.pinned (OpenSpec.ofChange qmatReducesSpec)

/-- ITS FALSE NEIGHBOUR: 'it returns false'. Refute it at one input. -/
def qmatReducesWrong : ChangeSpec := { name := "qmatReduces", fn := fun _ => fun
  | [d] => { results := [.lit (.bool false)], args := [d] }
  | _ => none }
def QmatReducesWrongFalsely : Prop := qmatReducesRow.holds Tryz.pinned (OpenSpec.ofChange qmatReducesWrong)

/-- 'quincunxlaw13.QmatRows': WHATEVER THE INPUT: true; the input reads as it did. -/
def qmatRowsSpec : ChangeSpec := { name := "qmatRows", fn := fun _ => fun
  | [d1, d2] => { results := [.lit (.bool true)], args := [d1, d2] }
  | _ => none }
def qmatRowsRow : OpenClaim := { program := "ytkgghhklbbfdiaagreat", sum := "4a129f7a0df474f255fb0d7be09689c679db66f01fd1228924c2b1eb411d03e2", func := "quincunx/quincunxlaw13.QmatRows", spec := "qmatRows", inPlace := ["math/bits.Add64", "math/bits.Sub64"], unfollowed := true, recurses := true, named := ["math/bits.divideError", "math/bits.overflowError"], apart := false }
def QmatRowsSaid : Prop := qmatRowsRow.holds Tryz.pinned (OpenSpec.ofChange qmatRowsSpec)

/-- ITS FALSE NEIGHBOUR: 'it returns false'. Refute it at one input. -/
def qmatRowsWrong : ChangeSpec := { name := "qmatRows", fn := fun _ => fun
  | [d1, d2] => { results := [.lit (.bool false)], args := [d1, d2] }
  | _ => none }
def QmatRowsWrongFalsely : Prop := qmatRowsRow.holds Tryz.pinned (OpenSpec.ofChange qmatRowsWrong)

/-- 'quincunxlaw13.QmatInverts': WHATEVER THE INPUT: true; the input reads as it did. -/
def qmatInvertsSpec : ChangeSpec := { name := "qmatInverts", fn := fun _ => fun
  | [d] => { results := [.lit (.bool true)], args := [d] }
  | _ => none }
def qmatInvertsRow : OpenClaim := { program := "ytkgghhklbbfdiaagreat", sum := "4a129f7a0df474f255fb0d7be09689c679db66f01fd1228924c2b1eb411d03e2", func := "quincunx/quincunxlaw13.QmatInverts", spec := "qmatInverts", inPlace := ["math/bits.Add64", "math/bits.Sub64"], unfollowed := true, recurses := true, named := ["math/bits.divideError", "math/bits.overflowError"], apart := false }
def QmatInvertsSaid : Prop := qmatInvertsRow.holds Tryz.pinned (OpenSpec.ofChange qmatInvertsSpec)

/-- ITS FALSE NEIGHBOUR: 'it returns false'. Refute it at one input. -/
def qmatInvertsWrong : ChangeSpec := { name := "qmatInverts", fn := fun _ => fun
  | [d] => { results := [.lit (.bool false)], args := [d] }
  | _ => none }
def QmatInvertsWrongFalsely : Prop := qmatInvertsRow.holds Tryz.pinned (OpenSpec.ofChange qmatInvertsWrong)

/-- 'quincunxlaw13.QmatSolves': WHATEVER THE INPUT: true; the input reads as it did. -/
def qmatSolvesSpec : ChangeSpec := { name := "qmatSolves", fn := fun _ => fun
  | [d1, d2] => { results := [.lit (.bool true)], args := [d1, d2] }
  | _ => none }
def qmatSolvesRow : OpenClaim := { program := "ytkgghhklbbfdiaagreat", sum := "4a129f7a0df474f255fb0d7be09689c679db66f01fd1228924c2b1eb411d03e2", func := "quincunx/quincunxlaw13.QmatSolves", spec := "qmatSolves", inPlace := ["math/bits.Add64", "math/bits.Sub64"], unfollowed := true, recurses := true, named := ["math/bits.divideError", "math/bits.overflowError"], apart := false }
def QmatSolvesSaid : Prop := qmatSolvesRow.holds Tryz.pinned (OpenSpec.ofChange qmatSolvesSpec)

/-- ITS FALSE NEIGHBOUR: 'it returns false'. Refute it at one input. -/
def qmatSolvesWrong : ChangeSpec := { name := "qmatSolves", fn := fun _ => fun
  | [d1, d2] => { results := [.lit (.bool false)], args := [d1, d2] }
  | _ => none }
def QmatSolvesWrongFalsely : Prop := qmatSolvesRow.holds Tryz.pinned (OpenSpec.ofChange qmatSolvesWrong)

/-- 'quincunxlaw13.QmatKernels': WHATEVER THE INPUT: true; the input reads as it did. -/
def qmatKernelsSpec : ChangeSpec := { name := "qmatKernels", fn := fun _ => fun
  | [d] => { results := [.lit (.bool true)], args := [d] }
  | _ => none }
def qmatKernelsRow : OpenClaim := { program := "ytkgghhklbbfdiaagreat", sum := "4a129f7a0df474f255fb0d7be09689c679db66f01fd1228924c2b1eb411d03e2", func := "quincunx/quincunxlaw13.QmatKernels", spec := "qmatKernels", inPlace := ["math/bits.Add64", "math/bits.Sub64"], unfollowed := true, recurses := true, named := ["math/bits.divideError", "math/bits.overflowError"], apart := false }
def QmatKernelsSaid : Prop := qmatKernelsRow.holds Tryz.pinned (OpenSpec.ofChange qmatKernelsSpec)

/-- ITS FALSE NEIGHBOUR: 'it returns false'. Refute it at one input. -/
def qmatKernelsWrong : ChangeSpec := { name := "qmatKernels", fn := fun _ => fun
  | [d] => { results := [.lit (.bool false)], args := [d] }
  | _ => none }
def QmatKernelsWrongFalsely : Prop := qmatKernelsRow.holds Tryz.pinned (OpenSpec.ofChange qmatKernelsWrong)

/-- 'quincunxlaw13.QmatClears': WHATEVER THE INPUT: true; the input reads as it did. -/
def qmatClearsSpec : ChangeSpec := { name := "qmatClears", fn := fun _ => fun
  | [d1, d2, d3] => { results := [.lit (.bool true)], args := [d1, d2, d3] }
  | _ => none }
def qmatClearsRow : OpenClaim := { program := "ytkgghhklbbfdiaagreat", sum := "4a129f7a0df474f255fb0d7be09689c679db66f01fd1228924c2b1eb411d03e2", func := "quincunx/quincunxlaw13.QmatClears", spec := "qmatClears", inPlace := ["math/bits.Add64", "math/bits.Sub64"], unfollowed := true, recurses := true, named := ["math/bits.divideError", "math/bits.overflowError"], apart := false }
def QmatClearsSaid : Prop := qmatClearsRow.holds Tryz.pinned (OpenSpec.ofChange qmatClearsSpec)

/-- ITS FALSE NEIGHBOUR: 'it returns false'. Refute it at one input. -/
def qmatClearsWrong : ChangeSpec := { name := "qmatClears", fn := fun _ => fun
  | [d1, d2, d3] => { results := [.lit (.bool false)], args := [d1, d2, d3] }
  | _ => none }
def QmatClearsWrongFalsely : Prop := qmatClearsRow.holds Tryz.pinned (OpenSpec.ofChange qmatClearsWrong)

/-- 'quincunxlaw13.QmatReckons': WHATEVER THE INPUT: true; the input reads as it did. -/
def qmatReckonsSpec : ChangeSpec := { name := "qmatReckons", fn := fun _ => fun
  | [d1, d2, d3] => { results := [.lit (.bool true)], args := [d1, d2, d3] }
  | _ => none }
def qmatReckonsRow : OpenClaim := { program := "ytkgghhklbbfdiaagreat", sum := "4a129f7a0df474f255fb0d7be09689c679db66f01fd1228924c2b1eb411d03e2", func := "quincunx/quincunxlaw13.QmatReckons", spec := "qmatReckons", inPlace := ["math/bits.Add64", "math/bits.Sub64"], unfollowed := true, recurses := true, named := ["math/bits.divideError", "math/bits.overflowError"], apart := false }
def QmatReckonsSaid : Prop := qmatReckonsRow.holds Tryz.pinned (OpenSpec.ofChange qmatReckonsSpec)

/-- ITS FALSE NEIGHBOUR: 'it returns false'. Refute it at one input. -/
def qmatReckonsWrong : ChangeSpec := { name := "qmatReckons", fn := fun _ => fun
  | [d1, d2, d3] => { results := [.lit (.bool false)], args := [d1, d2, d3] }
  | _ => none }
def QmatReckonsWrongFalsely : Prop := qmatReckonsRow.holds Tryz.pinned (OpenSpec.ofChange qmatReckonsWrong)

/- THE SECOND FORM. 'bulk': how many values and letters a reading holds, each counted each time it is reached (what is shared counts as often as it is met; a slice's spare places count too). A statement '..UptoSaid' is the law's where the arguments, and the package variables that the reading takes, are together of bulk at most 1048576: NARROWER than '..Said'. Prove '..Said' where nothing that the law and all that it calls make is longer than what came in: it says more and counts as full. Else prove '..UptoSaid'. A law counts once. -/
mutual
def uptoBulk {H : Type} : DataW H → Nat
  | .lit (.string bytes) => bytes.length + 1
  | .lit _ => 1
  | .nil => 1
  | .ptr d => uptoBulk d + 1
  | .slice elems spare => uptoBulkAll elems + uptoBulkAll spare + 1
  | .agg parts => uptoBulkAll parts + 1
  | .iface _ d => uptoBulk d + 1
  | .map entries => uptoBulkEntries entries + 1
  | .held _ => 1
def uptoBulkAll {H : Type} : List (DataW H) → Nat
  | [] => 0
  | d :: r => uptoBulk d + uptoBulkAll r
def uptoBulkEntries {H : Type} : List (Lit × DataW H) → Nat
  | [] => 0
  | x :: r => uptoBulkEntry x + uptoBulkEntries r
def uptoBulkEntry {H : Type} : Lit × DataW H → Nat
  | (.string bytes, d) => bytes.length + uptoBulk d + 1
  | (_, d) => uptoBulk d + 1
 end
def uptoSmall : (H : Type) → List (DataW H) → Bool := fun _ ds => decide (uptoBulkAll ds ≤ 1048576)
def OpenSpec.upto (s : _root_.Go.ChangeSpec) : _root_.Go.OpenSpec := { _root_.Go.OpenSpec.ofChange s with cond := some uptoSmall }

/-- 'quincunxlaw13.QmatReduces', WHERE WHAT IT READS IS OF BULK AT MOST 1048576: true; the input reads as it did. -/
def qmatReducesUptoRow : OpenClaim := { program := "ytkgghhklbbfdiaagreat", sum := "4a129f7a0df474f255fb0d7be09689c679db66f01fd1228924c2b1eb411d03e2", func := "quincunx/quincunxlaw13.QmatReduces", spec := "qmatReduces", inPlace := ["math/bits.Add64", "math/bits.Sub64"], unfollowed := true, recurses := true, named := ["math/bits.divideError", "math/bits.overflowError"], apart := false, narrowed := true }
def QmatReducesUptoSaid : Prop := qmatReducesUptoRow.holds Tryz.pinned (OpenSpec.upto qmatReducesSpec)

/-- 'quincunxlaw13.QmatRows', WHERE WHAT IT READS IS OF BULK AT MOST 1048576: true; the input reads as it did. -/
def qmatRowsUptoRow : OpenClaim := { program := "ytkgghhklbbfdiaagreat", sum := "4a129f7a0df474f255fb0d7be09689c679db66f01fd1228924c2b1eb411d03e2", func := "quincunx/quincunxlaw13.QmatRows", spec := "qmatRows", inPlace := ["math/bits.Add64", "math/bits.Sub64"], unfollowed := true, recurses := true, named := ["math/bits.divideError", "math/bits.overflowError"], apart := false, narrowed := true }
def QmatRowsUptoSaid : Prop := qmatRowsUptoRow.holds Tryz.pinned (OpenSpec.upto qmatRowsSpec)

/-- 'quincunxlaw13.QmatInverts', WHERE WHAT IT READS IS OF BULK AT MOST 1048576: true; the input reads as it did. -/
def qmatInvertsUptoRow : OpenClaim := { program := "ytkgghhklbbfdiaagreat", sum := "4a129f7a0df474f255fb0d7be09689c679db66f01fd1228924c2b1eb411d03e2", func := "quincunx/quincunxlaw13.QmatInverts", spec := "qmatInverts", inPlace := ["math/bits.Add64", "math/bits.Sub64"], unfollowed := true, recurses := true, named := ["math/bits.divideError", "math/bits.overflowError"], apart := false, narrowed := true }
def QmatInvertsUptoSaid : Prop := qmatInvertsUptoRow.holds Tryz.pinned (OpenSpec.upto qmatInvertsSpec)

/-- 'quincunxlaw13.QmatSolves', WHERE WHAT IT READS IS OF BULK AT MOST 1048576: true; the input reads as it did. -/
def qmatSolvesUptoRow : OpenClaim := { program := "ytkgghhklbbfdiaagreat", sum := "4a129f7a0df474f255fb0d7be09689c679db66f01fd1228924c2b1eb411d03e2", func := "quincunx/quincunxlaw13.QmatSolves", spec := "qmatSolves", inPlace := ["math/bits.Add64", "math/bits.Sub64"], unfollowed := true, recurses := true, named := ["math/bits.divideError", "math/bits.overflowError"], apart := false, narrowed := true }
def QmatSolvesUptoSaid : Prop := qmatSolvesUptoRow.holds Tryz.pinned (OpenSpec.upto qmatSolvesSpec)

/-- 'quincunxlaw13.QmatKernels', WHERE WHAT IT READS IS OF BULK AT MOST 1048576: true; the input reads as it did. -/
def qmatKernelsUptoRow : OpenClaim := { program := "ytkgghhklbbfdiaagreat", sum := "4a129f7a0df474f255fb0d7be09689c679db66f01fd1228924c2b1eb411d03e2", func := "quincunx/quincunxlaw13.QmatKernels", spec := "qmatKernels", inPlace := ["math/bits.Add64", "math/bits.Sub64"], unfollowed := true, recurses := true, named := ["math/bits.divideError", "math/bits.overflowError"], apart := false, narrowed := true }
def QmatKernelsUptoSaid : Prop := qmatKernelsUptoRow.holds Tryz.pinned (OpenSpec.upto qmatKernelsSpec)

/-- 'quincunxlaw13.QmatClears', WHERE WHAT IT READS IS OF BULK AT MOST 1048576: true; the input reads as it did. -/
def qmatClearsUptoRow : OpenClaim := { program := "ytkgghhklbbfdiaagreat", sum := "4a129f7a0df474f255fb0d7be09689c679db66f01fd1228924c2b1eb411d03e2", func := "quincunx/quincunxlaw13.QmatClears", spec := "qmatClears", inPlace := ["math/bits.Add64", "math/bits.Sub64"], unfollowed := true, recurses := true, named := ["math/bits.divideError", "math/bits.overflowError"], apart := false, narrowed := true }
def QmatClearsUptoSaid : Prop := qmatClearsUptoRow.holds Tryz.pinned (OpenSpec.upto qmatClearsSpec)

/-- 'quincunxlaw13.QmatReckons', WHERE WHAT IT READS IS OF BULK AT MOST 1048576: true; the input reads as it did. -/
def qmatReckonsUptoRow : OpenClaim := { program := "ytkgghhklbbfdiaagreat", sum := "4a129f7a0df474f255fb0d7be09689c679db66f01fd1228924c2b1eb411d03e2", func := "quincunx/quincunxlaw13.QmatReckons", spec := "qmatReckons", inPlace := ["math/bits.Add64", "math/bits.Sub64"], unfollowed := true, recurses := true, named := ["math/bits.divideError", "math/bits.overflowError"], apart := false, narrowed := true }
def QmatReckonsUptoSaid : Prop := qmatReckonsUptoRow.holds Tryz.pinned (OpenSpec.upto qmatReckonsSpec)

end Rows
end Go.Proofs.YtkgghhklbbfdiaaGreat
