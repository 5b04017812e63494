/-
  No cell of these rows narrows 'for every input' (looked for: loops, veiled, ifaces, maps, wideKeys, modest, calm, conditions, laid).
  DERIVED. THE GIVEN ROWS OF THIS SEAT. 5 by the template 'for every input the law returns true; each argument reads behind the call as it read before'; 0 by the template 'total and deterministic' (their statements: YtgohglhefhocgaaGreatTotals.lean).
  GIVEN WITH THE SEED: the statements are not yours to turn. If you find one false, say at which input.
  Laid BY PROGRAM, IN A SANDBOX (cutbox-rows.mjs): the forced cells as the released guide's own fill.sh prints them over the translation c8d63bf2a3544378… (all of the seat's roots in one cut). By AI agents, Wed Nov 11 2026. No macro, syntax, notation, axiom, sorry.
-/
import Derived.Test.YtgohglhefhocgaaGreatChecked
import GoSem.Claim
import GoSem.ClaimJoined
import GoSem.ClaimMapViews
import Derived.JoinedTies
import Derived.KernelRfl
namespace Go.Proofs.YtgohglhefhocgaaGreat
/- THE CELL 'sum', in the pinned program and in every row, IS THE sha256 OF THE DUMP (.gsa) THAT YtgohglhefhocgaaGreatProg.lean LOADS. Nothing in Lean hashes anything: it is a label: what it is worth is what the hold of that sum in a sandbox is worth. -/
noncomputable def Tryz.pinned : Pinned := { name := "ytgohglhefhocgaagreat", sum := "c8d63bf2a35443786cee698c5b07d6f7c07e9f03b8bb60c49aba9c1d147ee040", checked := Tryz.checked }
namespace Rows
def none {H : Type} : Left H := { results := [], args := [] }

/-- 'quincunxlaw14.HnfForms': WHATEVER THE INPUT: true; the input reads as it did. -/
def hnfFormsSpec : ChangeSpec := { name := "hnfForms", fn := fun _ => fun
  | [d] => { results := [.lit (.bool true)], args := [d] }
  | _ => none }
def hnfFormsRow : OpenClaim := { program := "ytgohglhefhocgaagreat", sum := "c8d63bf2a35443786cee698c5b07d6f7c07e9f03b8bb60c49aba9c1d147ee040", func := "quincunx/quincunxlaw14.HnfForms", spec := "hnfForms", inPlace := ["math/bits.Add64", "math/bits.Sub64"], unfollowed := true, recurses := true, named := ["math/bits.divideError", "math/bits.overflowError"], apart := false }
def HnfFormsSaid : Prop := hnfFormsRow.holds Tryz.pinned (OpenSpec.ofChange hnfFormsSpec)

/-- ITS FALSE NEIGHBOUR: 'it returns false'. Refute it at one input. -/
def hnfFormsWrong : ChangeSpec := { name := "hnfForms", fn := fun _ => fun
  | [d] => { results := [.lit (.bool false)], args := [d] }
  | _ => none }
def HnfFormsWrongFalsely : Prop := hnfFormsRow.holds Tryz.pinned (OpenSpec.ofChange hnfFormsWrong)

/-- 'quincunxlaw14.HnfOne': WHATEVER THE INPUT: true; the input reads as it did. -/
def hnfOneSpec : ChangeSpec := { name := "hnfOne", fn := fun _ => fun
  | [d1, d2] => { results := [.lit (.bool true)], args := [d1, d2] }
  | _ => none }
def hnfOneRow : OpenClaim := { program := "ytgohglhefhocgaagreat", sum := "c8d63bf2a35443786cee698c5b07d6f7c07e9f03b8bb60c49aba9c1d147ee040", func := "quincunx/quincunxlaw14.HnfOne", spec := "hnfOne", inPlace := ["math/bits.Add64", "math/bits.Sub64"], unfollowed := true, recurses := true, named := ["math/bits.divideError", "math/bits.overflowError"], apart := false }
def HnfOneSaid : Prop := hnfOneRow.holds Tryz.pinned (OpenSpec.ofChange hnfOneSpec)

/-- ITS FALSE NEIGHBOUR: 'it returns false'. Refute it at one input. -/
def hnfOneWrong : ChangeSpec := { name := "hnfOne", fn := fun _ => fun
  | [d1, d2] => { results := [.lit (.bool false)], args := [d1, d2] }
  | _ => none }
def HnfOneWrongFalsely : Prop := hnfOneRow.holds Tryz.pinned (OpenSpec.ofChange hnfOneWrong)

/-- 'quincunxlaw14.HnfIs': WHATEVER THE INPUT: true; the input reads as it did. -/
def hnfIsSpec : ChangeSpec := { name := "hnfIs", fn := fun _ => fun
  | [d] => { results := [.lit (.bool true)], args := [d] }
  | _ => none }
def hnfIsRow : OpenClaim := { program := "ytgohglhefhocgaagreat", sum := "c8d63bf2a35443786cee698c5b07d6f7c07e9f03b8bb60c49aba9c1d147ee040", func := "quincunx/quincunxlaw14.HnfIs", spec := "hnfIs", inPlace := ["math/bits.Add64", "math/bits.Sub64"], unfollowed := true, recurses := true, named := ["math/bits.divideError", "math/bits.overflowError"], apart := false }
def HnfIsSaid : Prop := hnfIsRow.holds Tryz.pinned (OpenSpec.ofChange hnfIsSpec)

/-- ITS FALSE NEIGHBOUR: 'it returns false'. Refute it at one input. -/
def hnfIsWrong : ChangeSpec := { name := "hnfIs", fn := fun _ => fun
  | [d] => { results := [.lit (.bool false)], args := [d] }
  | _ => none }
def HnfIsWrongFalsely : Prop := hnfIsRow.holds Tryz.pinned (OpenSpec.ofChange hnfIsWrong)

/-- 'quincunxlaw14.HnfCoordinates': WHATEVER THE INPUT: true; the input reads as it did. -/
def hnfCoordinatesSpec : ChangeSpec := { name := "hnfCoordinates", fn := fun _ => fun
  | [d1, d2, d3] => { results := [.lit (.bool true)], args := [d1, d2, d3] }
  | _ => none }
def hnfCoordinatesRow : OpenClaim := { program := "ytgohglhefhocgaagreat", sum := "c8d63bf2a35443786cee698c5b07d6f7c07e9f03b8bb60c49aba9c1d147ee040", func := "quincunx/quincunxlaw14.HnfCoordinates", spec := "hnfCoordinates", inPlace := ["math/bits.Add64", "math/bits.Sub64"], unfollowed := true, recurses := true, named := ["math/bits.divideError", "math/bits.overflowError"], apart := false }
def HnfCoordinatesSaid : Prop := hnfCoordinatesRow.holds Tryz.pinned (OpenSpec.ofChange hnfCoordinatesSpec)

/-- ITS FALSE NEIGHBOUR: 'it returns false'. Refute it at one input. -/
def hnfCoordinatesWrong : ChangeSpec := { name := "hnfCoordinates", fn := fun _ => fun
  | [d1, d2, d3] => { results := [.lit (.bool false)], args := [d1, d2, d3] }
  | _ => none }
def HnfCoordinatesWrongFalsely : Prop := hnfCoordinatesRow.holds Tryz.pinned (OpenSpec.ofChange hnfCoordinatesWrong)

/-- 'quincunxlaw14.HnfWithin': WHATEVER THE INPUT: true; the input reads as it did. -/
def hnfWithinSpec : ChangeSpec := { name := "hnfWithin", fn := fun _ => fun
  | [d1, d2, d3] => { results := [.lit (.bool true)], args := [d1, d2, d3] }
  | _ => none }
def hnfWithinRow : OpenClaim := { program := "ytgohglhefhocgaagreat", sum := "c8d63bf2a35443786cee698c5b07d6f7c07e9f03b8bb60c49aba9c1d147ee040", func := "quincunx/quincunxlaw14.HnfWithin", spec := "hnfWithin", inPlace := ["math/bits.Add64", "math/bits.Sub64"], unfollowed := true, recurses := true, named := ["math/bits.divideError", "math/bits.overflowError"], apart := false }
def HnfWithinSaid : Prop := hnfWithinRow.holds Tryz.pinned (OpenSpec.ofChange hnfWithinSpec)

/-- ITS FALSE NEIGHBOUR: 'it returns false'. Refute it at one input. -/
def hnfWithinWrong : ChangeSpec := { name := "hnfWithin", fn := fun _ => fun
  | [d1, d2, d3] => { results := [.lit (.bool false)], args := [d1, d2, d3] }
  | _ => none }
def HnfWithinWrongFalsely : Prop := hnfWithinRow.holds Tryz.pinned (OpenSpec.ofChange hnfWithinWrong)

/- THE SECOND FORM. 'bulk': how many values and letters a reading holds, each counted each time it is reached (what is shared counts as often as it is met; a slice's spare places count too). A statement '..UptoSaid' is the law's where the arguments, and the package variables that the reading takes, are together of bulk at most 1048576: NARROWER than '..Said'. Prove '..Said' where nothing that the law and all that it calls make is longer than what came in: it says more and counts as full. Else prove '..UptoSaid'. A law counts once. -/
mutual
def uptoBulk {H : Type} : DataW H → Nat
  | .lit (.string bytes) => bytes.length + 1
  | .lit _ => 1
  | .nil => 1
  | .ptr d => uptoBulk d + 1
  | .slice elems spare => uptoBulkAll elems + uptoBulkAll spare + 1
  | .agg parts => uptoBulkAll parts + 1
  | .iface _ d => uptoBulk d + 1
  | .map entries => uptoBulkEntries entries + 1
  | .held _ => 1
def uptoBulkAll {H : Type} : List (DataW H) → Nat
  | [] => 0
  | d :: r => uptoBulk d + uptoBulkAll r
def uptoBulkEntries {H : Type} : List (Lit × DataW H) → Nat
  | [] => 0
  | x :: r => uptoBulkEntry x + uptoBulkEntries r
def uptoBulkEntry {H : Type} : Lit × DataW H → Nat
  | (.string bytes, d) => bytes.length + uptoBulk d + 1
  | (_, d) => uptoBulk d + 1
 end
def uptoSmall : (H : Type) → List (DataW H) → Bool := fun _ ds => decide (uptoBulkAll ds ≤ 1048576)
def OpenSpec.upto (s : _root_.Go.ChangeSpec) : _root_.Go.OpenSpec := { _root_.Go.OpenSpec.ofChange s with cond := some uptoSmall }

/-- 'quincunxlaw14.HnfForms', WHERE WHAT IT READS IS OF BULK AT MOST 1048576: true; the input reads as it did. -/
def hnfFormsUptoRow : OpenClaim := { program := "ytgohglhefhocgaagreat", sum := "c8d63bf2a35443786cee698c5b07d6f7c07e9f03b8bb60c49aba9c1d147ee040", func := "quincunx/quincunxlaw14.HnfForms", spec := "hnfForms", inPlace := ["math/bits.Add64", "math/bits.Sub64"], unfollowed := true, recurses := true, named := ["math/bits.divideError", "math/bits.overflowError"], apart := false, narrowed := true }
def HnfFormsUptoSaid : Prop := hnfFormsUptoRow.holds Tryz.pinned (OpenSpec.upto hnfFormsSpec)

/-- 'quincunxlaw14.HnfOne', WHERE WHAT IT READS IS OF BULK AT MOST 1048576: true; the input reads as it did. -/
def hnfOneUptoRow : OpenClaim := { program := "ytgohglhefhocgaagreat", sum := "c8d63bf2a35443786cee698c5b07d6f7c07e9f03b8bb60c49aba9c1d147ee040", func := "quincunx/quincunxlaw14.HnfOne", spec := "hnfOne", inPlace := ["math/bits.Add64", "math/bits.Sub64"], unfollowed := true, recurses := true, named := ["math/bits.divideError", "math/bits.overflowError"], apart := false, narrowed := true }
def HnfOneUptoSaid : Prop := hnfOneUptoRow.holds Tryz.pinned (OpenSpec.upto hnfOneSpec)

/-- 'quincunxlaw14.HnfIs', WHERE WHAT IT READS IS OF BULK AT MOST 1048576: true; the input reads as it did. -/
def hnfIsUptoRow : OpenClaim := { program := "ytgohglhefhocgaagreat", sum := "c8d63bf2a35443786cee698c5b07d6f7c07e9f03b8bb60c49aba9c1d147ee040", func := "quincunx/quincunxlaw14.HnfIs", spec := "hnfIs", inPlace := ["math/bits.Add64", "math/bits.Sub64"], unfollowed := true, recurses := true, named := ["math/bits.divideError", "math/bits.overflowError"], apart := false, narrowed := true }
def HnfIsUptoSaid : Prop := hnfIsUptoRow.holds Tryz.pinned (OpenSpec.upto hnfIsSpec)

/-- 'quincunxlaw14.HnfCoordinates', WHERE WHAT IT READS IS OF BULK AT MOST 1048576: true; the input reads as it did. -/
def hnfCoordinatesUptoRow : OpenClaim := { program := "ytgohglhefhocgaagreat", sum := "c8d63bf2a35443786cee698c5b07d6f7c07e9f03b8bb60c49aba9c1d147ee040", func := "quincunx/quincunxlaw14.HnfCoordinates", spec := "hnfCoordinates", inPlace := ["math/bits.Add64", "math/bits.Sub64"], unfollowed := true, recurses := true, named := ["math/bits.divideError", "math/bits.overflowError"], apart := false, narrowed := true }
def HnfCoordinatesUptoSaid : Prop := hnfCoordinatesUptoRow.holds Tryz.pinned (OpenSpec.upto hnfCoordinatesSpec)

/-- 'quincunxlaw14.HnfWithin', WHERE WHAT IT READS IS OF BULK AT MOST 1048576: true; the input reads as it did. -/
def hnfWithinUptoRow : OpenClaim := { program := "ytgohglhefhocgaagreat", sum := "c8d63bf2a35443786cee698c5b07d6f7c07e9f03b8bb60c49aba9c1d147ee040", func := "quincunx/quincunxlaw14.HnfWithin", spec := "hnfWithin", inPlace := ["math/bits.Add64", "math/bits.Sub64"], unfollowed := true, recurses := true, named := ["math/bits.divideError", "math/bits.overflowError"], apart := false, narrowed := true }
def HnfWithinUptoSaid : Prop := hnfWithinUptoRow.holds Tryz.pinned (OpenSpec.upto hnfWithinSpec)

end Rows
end Go.Proofs.YtgohglhefhocgaaGreat
