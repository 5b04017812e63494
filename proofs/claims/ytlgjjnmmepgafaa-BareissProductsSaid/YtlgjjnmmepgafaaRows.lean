/-
  No cell of these rows narrows 'for every input' (looked for: loops, veiled, ifaces, maps, wideKeys, modest, calm, conditions, laid).
  DERIVED. THE GIVEN ROWS OF THIS SEAT. 4 by the template 'for every input the law returns true; each argument reads behind the call as it read before'; 0 by the template 'total and deterministic' (their statements: YtlgjjnmmepgafaaTotals.lean).
  GIVEN WITH THE SEED: the statements are not yours to turn. If you find one false, say at which input.
  Laid BY PROGRAM, IN A SANDBOX (cutbox-rows.mjs): the forced cells as the released guide's own fill.sh prints them over the translation 1c083bb2edd7b0c4… (all of the seat's roots in one cut). By AI agents, Wed Nov 11 2026. No macro, syntax, notation, axiom, sorry.
-/
import Derived.Test.YtlgjjnmmepgafaaChecked
import GoSem.Claim
import GoSem.ClaimJoined
import GoSem.ClaimMapViews
import Derived.JoinedTies
import Derived.KernelRfl
namespace Go.Proofs.Ytlgjjnmmepgafaa
/- THE CELL 'sum', in the pinned program and in every row, IS THE sha256 OF THE DUMP (.gsa) THAT YtlgjjnmmepgafaaProg.lean LOADS. Nothing in Lean hashes anything: it is a label: what it is worth is what the hold of that sum in a sandbox is worth. -/
noncomputable def Try.pinned : Pinned := { name := "ytlgjjnmmepgafaa", sum := "1c083bb2edd7b0c401bebb4ebb8573ed79129fee3097730123092043c7283b62", checked := Try.checked }
namespace Rows
def none {H : Type} : Left H := { results := [], args := [] }

/-- 'quincunxlaw12.BareissDets': WHATEVER THE INPUT: true; the input reads as it did. -/
def bareissDetsSpec : ChangeSpec := { name := "bareissDets", fn := fun _ => fun
  | [d] => { results := [.lit (.bool true)], args := [d] }
  | _ => none }
def bareissDetsRow : OpenClaim := { program := "ytlgjjnmmepgafaa", sum := "1c083bb2edd7b0c401bebb4ebb8573ed79129fee3097730123092043c7283b62", func := "quincunx/quincunxlaw12.BareissDets", spec := "bareissDets", inPlace := ["math/bits.Add64", "math/bits.Sub64"], unfollowed := true, recurses := true, named := ["math/bits.divideError", "math/bits.overflowError"], apart := false }
def BareissDetsSaid : Prop := bareissDetsRow.holds Try.pinned (OpenSpec.ofChange bareissDetsSpec)

/-- ITS FALSE NEIGHBOUR: 'it returns false'. Refute it at one input. -/
def bareissDetsWrong : ChangeSpec := { name := "bareissDets", fn := fun _ => fun
  | [d] => { results := [.lit (.bool false)], args := [d] }
  | _ => none }
def BareissDetsWrongFalsely : Prop := bareissDetsRow.holds Try.pinned (OpenSpec.ofChange bareissDetsWrong)

/-- 'quincunxlaw12.BareissRanks': WHATEVER THE INPUT: true; the input reads as it did. -/
def bareissRanksSpec : ChangeSpec := { name := "bareissRanks", fn := fun _ => fun
  | [d] => { results := [.lit (.bool true)], args := [d] }
  | _ => none }
def bareissRanksRow : OpenClaim := { program := "ytlgjjnmmepgafaa", sum := "1c083bb2edd7b0c401bebb4ebb8573ed79129fee3097730123092043c7283b62", func := "quincunx/quincunxlaw12.BareissRanks", spec := "bareissRanks", inPlace := ["math/bits.Add64", "math/bits.Sub64"], unfollowed := true, recurses := true, named := ["math/bits.divideError", "math/bits.overflowError"], apart := false }
def BareissRanksSaid : Prop := bareissRanksRow.holds Try.pinned (OpenSpec.ofChange bareissRanksSpec)

/-- ITS FALSE NEIGHBOUR: 'it returns false'. Refute it at one input. -/
def bareissRanksWrong : ChangeSpec := { name := "bareissRanks", fn := fun _ => fun
  | [d] => { results := [.lit (.bool false)], args := [d] }
  | _ => none }
def BareissRanksWrongFalsely : Prop := bareissRanksRow.holds Try.pinned (OpenSpec.ofChange bareissRanksWrong)

/-- 'quincunxlaw12.BareissProducts': WHATEVER THE INPUT: true; the input reads as it did. -/
def bareissProductsSpec : ChangeSpec := { name := "bareissProducts", fn := fun _ => fun
  | [d1, d2] => { results := [.lit (.bool true)], args := [d1, d2] }
  | _ => none }
def bareissProductsRow : OpenClaim := { program := "ytlgjjnmmepgafaa", sum := "1c083bb2edd7b0c401bebb4ebb8573ed79129fee3097730123092043c7283b62", func := "quincunx/quincunxlaw12.BareissProducts", spec := "bareissProducts", inPlace := ["math/bits.Add64", "math/bits.Sub64"], unfollowed := true, recurses := true, named := ["math/bits.divideError", "math/bits.overflowError"], apart := false }
def BareissProductsSaid : Prop := bareissProductsRow.holds Try.pinned (OpenSpec.ofChange bareissProductsSpec)

/-- ITS FALSE NEIGHBOUR: 'it returns false'. Refute it at one input. -/
def bareissProductsWrong : ChangeSpec := { name := "bareissProducts", fn := fun _ => fun
  | [d1, d2] => { results := [.lit (.bool false)], args := [d1, d2] }
  | _ => none }
def BareissProductsWrongFalsely : Prop := bareissProductsRow.holds Try.pinned (OpenSpec.ofChange bareissProductsWrong)

/-- 'quincunxlaw12.BareissBound': WHATEVER THE INPUT: true; the input reads as it did. -/
def bareissBoundSpec : ChangeSpec := { name := "bareissBound", fn := fun _ => fun
  | [d] => { results := [.lit (.bool true)], args := [d] }
  | _ => none }
def bareissBoundRow : OpenClaim := { program := "ytlgjjnmmepgafaa", sum := "1c083bb2edd7b0c401bebb4ebb8573ed79129fee3097730123092043c7283b62", func := "quincunx/quincunxlaw12.BareissBound", spec := "bareissBound", inPlace := ["math/bits.Add64", "math/bits.Sub64"], unfollowed := true, recurses := true, named := ["math/bits.divideError", "math/bits.overflowError"], apart := false }
def BareissBoundSaid : Prop := bareissBoundRow.holds Try.pinned (OpenSpec.ofChange bareissBoundSpec)

/-- ITS FALSE NEIGHBOUR: 'it returns false'. Refute it at one input. -/
def bareissBoundWrong : ChangeSpec := { name := "bareissBound", fn := fun _ => fun
  | [d] => { results := [.lit (.bool false)], args := [d] }
  | _ => none }
def BareissBoundWrongFalsely : Prop := bareissBoundRow.holds Try.pinned (OpenSpec.ofChange bareissBoundWrong)

/- THE SECOND FORM. 'bulk': how many values and letters a reading holds, each counted each time it is reached (what is shared counts as often as it is met; a slice's spare places count too). A statement '..UptoSaid' is the law's where the arguments, and the package variables that the reading takes, are together of bulk at most 1048576: NARROWER than '..Said'. Prove '..Said' where nothing that the law and all that it calls make is longer than what came in: it says more and counts as full. Else prove '..UptoSaid'. A law counts once. -/
mutual
def uptoBulk {H : Type} : DataW H → Nat
  | .lit (.string bytes) => bytes.length + 1
  | .lit _ => 1
  | .nil => 1
  | .ptr d => uptoBulk d + 1
  | .slice elems spare => uptoBulkAll elems + uptoBulkAll spare + 1
  | .agg parts => uptoBulkAll parts + 1
  | .iface _ d => uptoBulk d + 1
  | .map entries => uptoBulkEntries entries + 1
  | .held _ => 1
def uptoBulkAll {H : Type} : List (DataW H) → Nat
  | [] => 0
  | d :: r => uptoBulk d + uptoBulkAll r
def uptoBulkEntries {H : Type} : List (Lit × DataW H) → Nat
  | [] => 0
  | x :: r => uptoBulkEntry x + uptoBulkEntries r
def uptoBulkEntry {H : Type} : Lit × DataW H → Nat
  | (.string bytes, d) => bytes.length + uptoBulk d + 1
  | (_, d) => uptoBulk d + 1
 end
def uptoSmall : (H : Type) → List (DataW H) → Bool := fun _ ds => decide (uptoBulkAll ds ≤ 1048576)
def OpenSpec.upto (s : _root_.Go.ChangeSpec) : _root_.Go.OpenSpec := { _root_.Go.OpenSpec.ofChange s with cond := some uptoSmall }

/-- 'quincunxlaw12.BareissDets', WHERE WHAT IT READS IS OF BULK AT MOST 1048576: true; the input reads as it did. -/
def bareissDetsUptoRow : OpenClaim := { program := "ytlgjjnmmepgafaa", sum := "1c083bb2edd7b0c401bebb4ebb8573ed79129fee3097730123092043c7283b62", func := "quincunx/quincunxlaw12.BareissDets", spec := "bareissDets", inPlace := ["math/bits.Add64", "math/bits.Sub64"], unfollowed := true, recurses := true, named := ["math/bits.divideError", "math/bits.overflowError"], apart := false, narrowed := true }
def BareissDetsUptoSaid : Prop := bareissDetsUptoRow.holds Try.pinned (OpenSpec.upto bareissDetsSpec)

/-- 'quincunxlaw12.BareissRanks', WHERE WHAT IT READS IS OF BULK AT MOST 1048576: true; the input reads as it did. -/
def bareissRanksUptoRow : OpenClaim := { program := "ytlgjjnmmepgafaa", sum := "1c083bb2edd7b0c401bebb4ebb8573ed79129fee3097730123092043c7283b62", func := "quincunx/quincunxlaw12.BareissRanks", spec := "bareissRanks", inPlace := ["math/bits.Add64", "math/bits.Sub64"], unfollowed := true, recurses := true, named := ["math/bits.divideError", "math/bits.overflowError"], apart := false, narrowed := true }
def BareissRanksUptoSaid : Prop := bareissRanksUptoRow.holds Try.pinned (OpenSpec.upto bareissRanksSpec)

/-- 'quincunxlaw12.BareissProducts', WHERE WHAT IT READS IS OF BULK AT MOST 1048576: true; the input reads as it did. -/
def bareissProductsUptoRow : OpenClaim := { program := "ytlgjjnmmepgafaa", sum := "1c083bb2edd7b0c401bebb4ebb8573ed79129fee3097730123092043c7283b62", func := "quincunx/quincunxlaw12.BareissProducts", spec := "bareissProducts", inPlace := ["math/bits.Add64", "math/bits.Sub64"], unfollowed := true, recurses := true, named := ["math/bits.divideError", "math/bits.overflowError"], apart := false, narrowed := true }
def BareissProductsUptoSaid : Prop := bareissProductsUptoRow.holds Try.pinned (OpenSpec.upto bareissProductsSpec)

/-- 'quincunxlaw12.BareissBound', WHERE WHAT IT READS IS OF BULK AT MOST 1048576: true; the input reads as it did. -/
def bareissBoundUptoRow : OpenClaim := { program := "ytlgjjnmmepgafaa", sum := "1c083bb2edd7b0c401bebb4ebb8573ed79129fee3097730123092043c7283b62", func := "quincunx/quincunxlaw12.BareissBound", spec := "bareissBound", inPlace := ["math/bits.Add64", "math/bits.Sub64"], unfollowed := true, recurses := true, named := ["math/bits.divideError", "math/bits.overflowError"], apart := false, narrowed := true }
def BareissBoundUptoSaid : Prop := bareissBoundUptoRow.holds Try.pinned (OpenSpec.upto bareissBoundSpec)

end Rows
end Go.Proofs.Ytlgjjnmmepgafaa
