/-
  No cell of these rows narrows 'for every input' (looked for: loops, veiled, ifaces, maps, wideKeys, modest, calm, conditions, laid).
  DERIVED. THE GIVEN ROWS OF THIS SEAT. 7 by the template 'for every input the law returns true; each argument reads behind the call as it read before'; 0 by the template 'total and deterministic' (their statements: YtobhoobdbbinhaaTotals.lean).
  GIVEN WITH THE SEED: the statements are not yours to turn. If you find one false, say at which input.
  Laid BY PROGRAM, IN A SANDBOX (cutbox-rows.mjs): the forced cells as the released guide's own fill.sh prints them over the translation a34da36ff47d1b91… (all of the seat's roots in one cut). By AI agents, Wed Nov 11 2026. No macro, syntax, notation, axiom, sorry.
-/
import Derived.Test.YtobhoobdbbinhaaChecked
import GoSem.Claim
import GoSem.ClaimJoined
import GoSem.ClaimMapViews
import Derived.JoinedTies
import Derived.KernelRfl
namespace Go.Proofs.Ytobhoobdbbinhaa
/- THE CELL 'sum', in the pinned program and in every row, IS THE sha256 OF THE DUMP (.gsa) THAT YtobhoobdbbinhaaProg.lean LOADS. Nothing in Lean hashes anything: it is a label: what it is worth is what the hold of that sum in a sandbox is worth. -/
noncomputable def Try.pinned : Pinned := { name := "ytobhoobdbbinhaa", sum := "a34da36ff47d1b910f8ca587dac8d134627ff7abeb2f13e8f6fcdf4237b476d3", checked := Try.checked }
namespace Rows
def none {H : Type} : Left H := { results := [], args := [] }

/-- 'quincunxlaw03.DivDivides': WHATEVER THE INPUT: true; the input reads as it did. -/
def divDividesSpec : ChangeSpec := { name := "divDivides", fn := fun _ => fun
  | [d1, d2] => { results := [.lit (.bool true)], args := [d1, d2] }
  | _ => none }
def divDividesRow : OpenClaim := { program := "ytobhoobdbbinhaa", sum := "a34da36ff47d1b910f8ca587dac8d134627ff7abeb2f13e8f6fcdf4237b476d3", func := "quincunx/quincunxlaw03.DivDivides", spec := "divDivides", inPlace := ["math/bits.Add64", "math/bits.Sub64"], named := ["math/bits.divideError", "math/bits.overflowError"], apart := false }
def DivDividesSaid : Prop := divDividesRow.holds Try.pinned (OpenSpec.ofChange divDividesSpec)

/-- ITS FALSE NEIGHBOUR: 'it returns false'. Refute it at one input. -/
def divDividesWrong : ChangeSpec := { name := "divDivides", fn := fun _ => fun
  | [d1, d2] => { results := [.lit (.bool false)], args := [d1, d2] }
  | _ => none }
def DivDividesWrongFalsely : Prop := divDividesRow.holds Try.pinned (OpenSpec.ofChange divDividesWrong)

/-- 'quincunxlaw03.DivBack': WHATEVER THE INPUT: true; the input reads as it did. -/
def divBackSpec : ChangeSpec := { name := "divBack", fn := fun _ => fun
  | [d1, d2] => { results := [.lit (.bool true)], args := [d1, d2] }
  | _ => none }
def divBackRow : OpenClaim := { program := "ytobhoobdbbinhaa", sum := "a34da36ff47d1b910f8ca587dac8d134627ff7abeb2f13e8f6fcdf4237b476d3", func := "quincunx/quincunxlaw03.DivBack", spec := "divBack", inPlace := ["math/bits.Add64", "math/bits.Sub64"], named := ["math/bits.divideError", "math/bits.overflowError"], apart := false }
def DivBackSaid : Prop := divBackRow.holds Try.pinned (OpenSpec.ofChange divBackSpec)

/-- ITS FALSE NEIGHBOUR: 'it returns false'. Refute it at one input. -/
def divBackWrong : ChangeSpec := { name := "divBack", fn := fun _ => fun
  | [d1, d2] => { results := [.lit (.bool false)], args := [d1, d2] }
  | _ => none }
def DivBackWrongFalsely : Prop := divBackRow.holds Try.pinned (OpenSpec.ofChange divBackWrong)

/-- 'quincunxlaw03.DivSmall': WHATEVER THE INPUT: true; the input reads as it did. -/
def divSmallSpec : ChangeSpec := { name := "divSmall", fn := fun _ => fun
  | [d1, d2] => { results := [.lit (.bool true)], args := [d1, d2] }
  | _ => none }
def divSmallRow : OpenClaim := { program := "ytobhoobdbbinhaa", sum := "a34da36ff47d1b910f8ca587dac8d134627ff7abeb2f13e8f6fcdf4237b476d3", func := "quincunx/quincunxlaw03.DivSmall", spec := "divSmall", inPlace := ["math/bits.Add64", "math/bits.Sub64"], named := ["math/bits.divideError", "math/bits.overflowError"], apart := false }
def DivSmallSaid : Prop := divSmallRow.holds Try.pinned (OpenSpec.ofChange divSmallSpec)

/-- ITS FALSE NEIGHBOUR: 'it returns false'. Refute it at one input. -/
def divSmallWrong : ChangeSpec := { name := "divSmall", fn := fun _ => fun
  | [d1, d2] => { results := [.lit (.bool false)], args := [d1, d2] }
  | _ => none }
def DivSmallWrongFalsely : Prop := divSmallRow.holds Try.pinned (OpenSpec.ofChange divSmallWrong)

/-- 'quincunxlaw03.DivGcd': WHATEVER THE INPUT: true; the input reads as it did. -/
def divGcdSpec : ChangeSpec := { name := "divGcd", fn := fun _ => fun
  | [d1, d2, d3] => { results := [.lit (.bool true)], args := [d1, d2, d3] }
  | _ => none }
def divGcdRow : OpenClaim := { program := "ytobhoobdbbinhaa", sum := "a34da36ff47d1b910f8ca587dac8d134627ff7abeb2f13e8f6fcdf4237b476d3", func := "quincunx/quincunxlaw03.DivGcd", spec := "divGcd", inPlace := ["math/bits.Add64", "math/bits.Sub64"], recurses := true, named := ["math/bits.divideError", "math/bits.overflowError"], apart := false }
def DivGcdSaid : Prop := divGcdRow.holds Try.pinned (OpenSpec.ofChange divGcdSpec)

/-- ITS FALSE NEIGHBOUR: 'it returns false'. Refute it at one input. -/
def divGcdWrong : ChangeSpec := { name := "divGcd", fn := fun _ => fun
  | [d1, d2, d3] => { results := [.lit (.bool false)], args := [d1, d2, d3] }
  | _ => none }
def DivGcdWrongFalsely : Prop := divGcdRow.holds Try.pinned (OpenSpec.ofChange divGcdWrong)

/-- 'quincunxlaw03.DivCommon': WHATEVER THE INPUT: true; the input reads as it did. -/
def divCommonSpec : ChangeSpec := { name := "divCommon", fn := fun _ => fun
  | [d1, d2, d3] => { results := [.lit (.bool true)], args := [d1, d2, d3] }
  | _ => none }
def divCommonRow : OpenClaim := { program := "ytobhoobdbbinhaa", sum := "a34da36ff47d1b910f8ca587dac8d134627ff7abeb2f13e8f6fcdf4237b476d3", func := "quincunx/quincunxlaw03.DivCommon", spec := "divCommon", inPlace := ["math/bits.Add64", "math/bits.Sub64"], named := ["math/bits.divideError", "math/bits.overflowError"], apart := false }
def DivCommonSaid : Prop := divCommonRow.holds Try.pinned (OpenSpec.ofChange divCommonSpec)

/-- ITS FALSE NEIGHBOUR: 'it returns false'. Refute it at one input. -/
def divCommonWrong : ChangeSpec := { name := "divCommon", fn := fun _ => fun
  | [d1, d2, d3] => { results := [.lit (.bool false)], args := [d1, d2, d3] }
  | _ => none }
def DivCommonWrongFalsely : Prop := divCommonRow.holds Try.pinned (OpenSpec.ofChange divCommonWrong)

/-- 'quincunxlaw03.DivRoot': WHATEVER THE INPUT: true; the input reads as it did. -/
def divRootSpec : ChangeSpec := { name := "divRoot", fn := fun _ => fun
  | [d] => { results := [.lit (.bool true)], args := [d] }
  | _ => none }
def divRootRow : OpenClaim := { program := "ytobhoobdbbinhaa", sum := "a34da36ff47d1b910f8ca587dac8d134627ff7abeb2f13e8f6fcdf4237b476d3", func := "quincunx/quincunxlaw03.DivRoot", spec := "divRoot", inPlace := ["math/bits.Add64", "math/bits.Sub64"], recurses := true, named := ["math/bits.divideError", "math/bits.overflowError"], apart := false }
def DivRootSaid : Prop := divRootRow.holds Try.pinned (OpenSpec.ofChange divRootSpec)

/-- ITS FALSE NEIGHBOUR: 'it returns false'. Refute it at one input. -/
def divRootWrong : ChangeSpec := { name := "divRoot", fn := fun _ => fun
  | [d] => { results := [.lit (.bool false)], args := [d] }
  | _ => none }
def DivRootWrongFalsely : Prop := divRootRow.holds Try.pinned (OpenSpec.ofChange divRootWrong)

/-- 'quincunxlaw03.DivOwn': WHATEVER THE INPUT: true; the input reads as it did. -/
def divOwnSpec : ChangeSpec := { name := "divOwn", fn := fun _ => fun
  | [d1, d2] => { results := [.lit (.bool true)], args := [d1, d2] }
  | _ => none }
def divOwnRow : OpenClaim := { program := "ytobhoobdbbinhaa", sum := "a34da36ff47d1b910f8ca587dac8d134627ff7abeb2f13e8f6fcdf4237b476d3", func := "quincunx/quincunxlaw03.DivOwn", spec := "divOwn", inPlace := ["math/bits.Add64", "math/bits.Sub64"], named := ["math/bits.divideError", "math/bits.overflowError"], apart := false }
def DivOwnSaid : Prop := divOwnRow.holds Try.pinned (OpenSpec.ofChange divOwnSpec)

/-- ITS FALSE NEIGHBOUR: 'it returns false'. Refute it at one input. -/
def divOwnWrong : ChangeSpec := { name := "divOwn", fn := fun _ => fun
  | [d1, d2] => { results := [.lit (.bool false)], args := [d1, d2] }
  | _ => none }
def DivOwnWrongFalsely : Prop := divOwnRow.holds Try.pinned (OpenSpec.ofChange divOwnWrong)

/- THE SECOND FORM. 'bulk': how many values and letters a reading holds, each counted each time it is reached (what is shared counts as often as it is met; a slice's spare places count too). A statement '..UptoSaid' is the law's where the arguments, and the package variables that the reading takes, are together of bulk at most 1048576: NARROWER than '..Said'. Prove '..Said' where nothing that the law and all that it calls make is longer than what came in: it says more and counts as full. Else prove '..UptoSaid'. A law counts once. -/
mutual
def uptoBulk {H : Type} : DataW H → Nat
  | .lit (.string bytes) => bytes.length + 1
  | .lit _ => 1
  | .nil => 1
  | .ptr d => uptoBulk d + 1
  | .slice elems spare => uptoBulkAll elems + uptoBulkAll spare + 1
  | .agg parts => uptoBulkAll parts + 1
  | .iface _ d => uptoBulk d + 1
  | .map entries => uptoBulkEntries entries + 1
  | .held _ => 1
def uptoBulkAll {H : Type} : List (DataW H) → Nat
  | [] => 0
  | d :: r => uptoBulk d + uptoBulkAll r
def uptoBulkEntries {H : Type} : List (Lit × DataW H) → Nat
  | [] => 0
  | x :: r => uptoBulkEntry x + uptoBulkEntries r
def uptoBulkEntry {H : Type} : Lit × DataW H → Nat
  | (.string bytes, d) => bytes.length + uptoBulk d + 1
  | (_, d) => uptoBulk d + 1
 end
def uptoSmall : (H : Type) → List (DataW H) → Bool := fun _ ds => decide (uptoBulkAll ds ≤ 1048576)
def OpenSpec.upto (s : _root_.Go.ChangeSpec) : _root_.Go.OpenSpec := { _root_.Go.OpenSpec.ofChange s with cond := some uptoSmall }

/-- 'quincunxlaw03.DivDivides', WHERE WHAT IT READS IS OF BULK AT MOST 1048576: true; the input reads as it did. -/
def divDividesUptoRow : OpenClaim := { program := "ytobhoobdbbinhaa", sum := "a34da36ff47d1b910f8ca587dac8d134627ff7abeb2f13e8f6fcdf4237b476d3", func := "quincunx/quincunxlaw03.DivDivides", spec := "divDivides", inPlace := ["math/bits.Add64", "math/bits.Sub64"], named := ["math/bits.divideError", "math/bits.overflowError"], apart := false, narrowed := true }
def DivDividesUptoSaid : Prop := divDividesUptoRow.holds Try.pinned (OpenSpec.upto divDividesSpec)

/-- 'quincunxlaw03.DivBack', WHERE WHAT IT READS IS OF BULK AT MOST 1048576: true; the input reads as it did. -/
def divBackUptoRow : OpenClaim := { program := "ytobhoobdbbinhaa", sum := "a34da36ff47d1b910f8ca587dac8d134627ff7abeb2f13e8f6fcdf4237b476d3", func := "quincunx/quincunxlaw03.DivBack", spec := "divBack", inPlace := ["math/bits.Add64", "math/bits.Sub64"], named := ["math/bits.divideError", "math/bits.overflowError"], apart := false, narrowed := true }
def DivBackUptoSaid : Prop := divBackUptoRow.holds Try.pinned (OpenSpec.upto divBackSpec)

/-- 'quincunxlaw03.DivSmall', WHERE WHAT IT READS IS OF BULK AT MOST 1048576: true; the input reads as it did. -/
def divSmallUptoRow : OpenClaim := { program := "ytobhoobdbbinhaa", sum := "a34da36ff47d1b910f8ca587dac8d134627ff7abeb2f13e8f6fcdf4237b476d3", func := "quincunx/quincunxlaw03.DivSmall", spec := "divSmall", inPlace := ["math/bits.Add64", "math/bits.Sub64"], named := ["math/bits.divideError", "math/bits.overflowError"], apart := false, narrowed := true }
def DivSmallUptoSaid : Prop := divSmallUptoRow.holds Try.pinned (OpenSpec.upto divSmallSpec)

/-- 'quincunxlaw03.DivGcd', WHERE WHAT IT READS IS OF BULK AT MOST 1048576: true; the input reads as it did. -/
def divGcdUptoRow : OpenClaim := { program := "ytobhoobdbbinhaa", sum := "a34da36ff47d1b910f8ca587dac8d134627ff7abeb2f13e8f6fcdf4237b476d3", func := "quincunx/quincunxlaw03.DivGcd", spec := "divGcd", inPlace := ["math/bits.Add64", "math/bits.Sub64"], recurses := true, named := ["math/bits.divideError", "math/bits.overflowError"], apart := false, narrowed := true }
def DivGcdUptoSaid : Prop := divGcdUptoRow.holds Try.pinned (OpenSpec.upto divGcdSpec)

/-- 'quincunxlaw03.DivCommon', WHERE WHAT IT READS IS OF BULK AT MOST 1048576: true; the input reads as it did. -/
def divCommonUptoRow : OpenClaim := { program := "ytobhoobdbbinhaa", sum := "a34da36ff47d1b910f8ca587dac8d134627ff7abeb2f13e8f6fcdf4237b476d3", func := "quincunx/quincunxlaw03.DivCommon", spec := "divCommon", inPlace := ["math/bits.Add64", "math/bits.Sub64"], named := ["math/bits.divideError", "math/bits.overflowError"], apart := false, narrowed := true }
def DivCommonUptoSaid : Prop := divCommonUptoRow.holds Try.pinned (OpenSpec.upto divCommonSpec)

/-- 'quincunxlaw03.DivRoot', WHERE WHAT IT READS IS OF BULK AT MOST 1048576: true; the input reads as it did. -/
def divRootUptoRow : OpenClaim := { program := "ytobhoobdbbinhaa", sum := "a34da36ff47d1b910f8ca587dac8d134627ff7abeb2f13e8f6fcdf4237b476d3", func := "quincunx/quincunxlaw03.DivRoot", spec := "divRoot", inPlace := ["math/bits.Add64", "math/bits.Sub64"], recurses := true, named := ["math/bits.divideError", "math/bits.overflowError"], apart := false, narrowed := true }
def DivRootUptoSaid : Prop := divRootUptoRow.holds Try.pinned (OpenSpec.upto divRootSpec)

/-- 'quincunxlaw03.DivOwn', WHERE WHAT IT READS IS OF BULK AT MOST 1048576: true; the input reads as it did. -/
def divOwnUptoRow : OpenClaim := { program := "ytobhoobdbbinhaa", sum := "a34da36ff47d1b910f8ca587dac8d134627ff7abeb2f13e8f6fcdf4237b476d3", func := "quincunx/quincunxlaw03.DivOwn", spec := "divOwn", inPlace := ["math/bits.Add64", "math/bits.Sub64"], named := ["math/bits.divideError", "math/bits.overflowError"], apart := false, narrowed := true }
def DivOwnUptoSaid : Prop := divOwnUptoRow.holds Try.pinned (OpenSpec.upto divOwnSpec)

end Rows
end Go.Proofs.Ytobhoobdbbinhaa
