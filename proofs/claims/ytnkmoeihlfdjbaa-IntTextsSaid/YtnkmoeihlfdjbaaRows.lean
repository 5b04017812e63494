/-
  No cell of these rows narrows 'for every input' (looked for: loops, veiled, ifaces, maps, wideKeys, modest, calm, conditions, laid).
  DERIVED. THE GIVEN ROWS OF THIS SEAT. 8 by the template 'for every input the law returns true; each argument reads behind the call as it read before'; 0 by the template 'total and deterministic' (their statements: YtnkmoeihlfdjbaaTotals.lean).
  GIVEN WITH THE SEED: the statements are not yours to turn. If you find one false, say at which input.
  Laid BY PROGRAM, IN A SANDBOX (cutbox-rows.mjs): the forced cells as the released guide's own fill.sh prints them over the translation f2a2c3bc722a36a9… (all of the seat's roots in one cut). By AI agents, Wed Nov 11 2026. No macro, syntax, notation, axiom, sorry.
-/
import Derived.Test.YtnkmoeihlfdjbaaChecked
import GoSem.Claim
import GoSem.ClaimJoined
import GoSem.ClaimMapViews
import Derived.JoinedTies
import Derived.KernelRfl
namespace Go.Proofs.Ytnkmoeihlfdjbaa
/- THE CELL 'sum', in the pinned program and in every row, IS THE sha256 OF THE DUMP (.gsa) THAT YtnkmoeihlfdjbaaProg.lean LOADS. Nothing in Lean hashes anything: it is a label: what it is worth is what the hold of that sum in a sandbox is worth. -/
noncomputable def Try.pinned : Pinned := { name := "ytnkmoeihlfdjbaa", sum := "f2a2c3bc722a36a9f647a0cf4e63b90b0284730b1fe1f9a0754e5e7afe53e00b", checked := Try.checked }
namespace Rows
def none {H : Type} : Left H := { results := [], args := [] }

/-- 'quincunxlaw05.IntAdds': WHATEVER THE INPUT: true; the input reads as it did. -/
def intAddsSpec : ChangeSpec := { name := "intAdds", fn := fun _ => fun
  | [d1, d2] => { results := [.lit (.bool true)], args := [d1, d2] }
  | _ => none }
def intAddsRow : OpenClaim := { program := "ytnkmoeihlfdjbaa", sum := "f2a2c3bc722a36a9f647a0cf4e63b90b0284730b1fe1f9a0754e5e7afe53e00b", func := "quincunx/quincunxlaw05.IntAdds", spec := "intAdds", inPlace := ["math/bits.Add64", "math/bits.Sub64"], recurses := true, named := ["math/bits.divideError", "math/bits.overflowError"], apart := false }
def IntAddsSaid : Prop := intAddsRow.holds Try.pinned (OpenSpec.ofChange intAddsSpec)

/-- ITS FALSE NEIGHBOUR: 'it returns false'. Refute it at one input. -/
def intAddsWrong : ChangeSpec := { name := "intAdds", fn := fun _ => fun
  | [d1, d2] => { results := [.lit (.bool false)], args := [d1, d2] }
  | _ => none }
def IntAddsWrongFalsely : Prop := intAddsRow.holds Try.pinned (OpenSpec.ofChange intAddsWrong)

/-- 'quincunxlaw05.IntDivides': WHATEVER THE INPUT: true; the input reads as it did. -/
def intDividesSpec : ChangeSpec := { name := "intDivides", fn := fun _ => fun
  | [d1, d2] => { results := [.lit (.bool true)], args := [d1, d2] }
  | _ => none }
def intDividesRow : OpenClaim := { program := "ytnkmoeihlfdjbaa", sum := "f2a2c3bc722a36a9f647a0cf4e63b90b0284730b1fe1f9a0754e5e7afe53e00b", func := "quincunx/quincunxlaw05.IntDivides", spec := "intDivides", inPlace := ["math/bits.Add64", "math/bits.Sub64"], named := ["math/bits.divideError", "math/bits.overflowError"], apart := false }
def IntDividesSaid : Prop := intDividesRow.holds Try.pinned (OpenSpec.ofChange intDividesSpec)

/-- ITS FALSE NEIGHBOUR: 'it returns false'. Refute it at one input. -/
def intDividesWrong : ChangeSpec := { name := "intDivides", fn := fun _ => fun
  | [d1, d2] => { results := [.lit (.bool false)], args := [d1, d2] }
  | _ => none }
def IntDividesWrongFalsely : Prop := intDividesRow.holds Try.pinned (OpenSpec.ofChange intDividesWrong)

/-- 'quincunxlaw05.IntRounds': WHATEVER THE INPUT: true; the input reads as it did. -/
def intRoundsSpec : ChangeSpec := { name := "intRounds", fn := fun _ => fun
  | [d1, d2] => { results := [.lit (.bool true)], args := [d1, d2] }
  | _ => none }
def intRoundsRow : OpenClaim := { program := "ytnkmoeihlfdjbaa", sum := "f2a2c3bc722a36a9f647a0cf4e63b90b0284730b1fe1f9a0754e5e7afe53e00b", func := "quincunx/quincunxlaw05.IntRounds", spec := "intRounds", inPlace := ["math/bits.Add64", "math/bits.Sub64"], recurses := true, named := ["math/bits.divideError", "math/bits.overflowError"], apart := false }
def IntRoundsSaid : Prop := intRoundsRow.holds Try.pinned (OpenSpec.ofChange intRoundsSpec)

/-- ITS FALSE NEIGHBOUR: 'it returns false'. Refute it at one input. -/
def intRoundsWrong : ChangeSpec := { name := "intRounds", fn := fun _ => fun
  | [d1, d2] => { results := [.lit (.bool false)], args := [d1, d2] }
  | _ => none }
def IntRoundsWrongFalsely : Prop := intRoundsRow.holds Try.pinned (OpenSpec.ofChange intRoundsWrong)

/-- 'quincunxlaw05.IntXgcd': WHATEVER THE INPUT: true; the input reads as it did. -/
def intXgcdSpec : ChangeSpec := { name := "intXgcd", fn := fun _ => fun
  | [d1, d2] => { results := [.lit (.bool true)], args := [d1, d2] }
  | _ => none }
def intXgcdRow : OpenClaim := { program := "ytnkmoeihlfdjbaa", sum := "f2a2c3bc722a36a9f647a0cf4e63b90b0284730b1fe1f9a0754e5e7afe53e00b", func := "quincunx/quincunxlaw05.IntXgcd", spec := "intXgcd", inPlace := ["math/bits.Add64", "math/bits.Sub64"], recurses := true, named := ["math/bits.divideError", "math/bits.overflowError"], apart := false }
def IntXgcdSaid : Prop := intXgcdRow.holds Try.pinned (OpenSpec.ofChange intXgcdSpec)

/-- ITS FALSE NEIGHBOUR: 'it returns false'. Refute it at one input. -/
def intXgcdWrong : ChangeSpec := { name := "intXgcd", fn := fun _ => fun
  | [d1, d2] => { results := [.lit (.bool false)], args := [d1, d2] }
  | _ => none }
def IntXgcdWrongFalsely : Prop := intXgcdRow.holds Try.pinned (OpenSpec.ofChange intXgcdWrong)

/-- 'quincunxlaw05.IntGcd': WHATEVER THE INPUT: true; the input reads as it did. -/
def intGcdSpec : ChangeSpec := { name := "intGcd", fn := fun _ => fun
  | [d1, d2, d3] => { results := [.lit (.bool true)], args := [d1, d2, d3] }
  | _ => none }
def intGcdRow : OpenClaim := { program := "ytnkmoeihlfdjbaa", sum := "f2a2c3bc722a36a9f647a0cf4e63b90b0284730b1fe1f9a0754e5e7afe53e00b", func := "quincunx/quincunxlaw05.IntGcd", spec := "intGcd", inPlace := ["math/bits.Add64", "math/bits.Sub64"], recurses := true, named := ["math/bits.divideError", "math/bits.overflowError"], apart := false }
def IntGcdSaid : Prop := intGcdRow.holds Try.pinned (OpenSpec.ofChange intGcdSpec)

/-- ITS FALSE NEIGHBOUR: 'it returns false'. Refute it at one input. -/
def intGcdWrong : ChangeSpec := { name := "intGcd", fn := fun _ => fun
  | [d1, d2, d3] => { results := [.lit (.bool false)], args := [d1, d2, d3] }
  | _ => none }
def IntGcdWrongFalsely : Prop := intGcdRow.holds Try.pinned (OpenSpec.ofChange intGcdWrong)

/-- 'quincunxlaw05.IntTexts': WHATEVER THE INPUT: true; the input reads as it did. -/
def intTextsSpec : ChangeSpec := { name := "intTexts", fn := fun _ => fun
  | [d1, d2] => { results := [.lit (.bool true)], args := [d1, d2] }
  | _ => none }
def intTextsRow : OpenClaim := { program := "ytnkmoeihlfdjbaa", sum := "f2a2c3bc722a36a9f647a0cf4e63b90b0284730b1fe1f9a0754e5e7afe53e00b", func := "quincunx/quincunxlaw05.IntTexts", spec := "intTexts", inPlace := ["math/bits.Add64", "math/bits.Sub64"], recurses := true, named := ["math/bits.divideError", "math/bits.overflowError"], apart := false }
def IntTextsSaid : Prop := intTextsRow.holds Try.pinned (OpenSpec.ofChange intTextsSpec)

/-- ITS FALSE NEIGHBOUR: 'it returns false'. Refute it at one input. -/
def intTextsWrong : ChangeSpec := { name := "intTexts", fn := fun _ => fun
  | [d1, d2] => { results := [.lit (.bool false)], args := [d1, d2] }
  | _ => none }
def IntTextsWrongFalsely : Prop := intTextsRow.holds Try.pinned (OpenSpec.ofChange intTextsWrong)

/-- 'quincunxlaw05.IntSmall': WHATEVER THE INPUT: true; the input reads as it did. -/
def intSmallSpec : ChangeSpec := { name := "intSmall", fn := fun _ => fun
  | [d1, d2] => { results := [.lit (.bool true)], args := [d1, d2] }
  | _ => none }
def intSmallRow : OpenClaim := { program := "ytnkmoeihlfdjbaa", sum := "f2a2c3bc722a36a9f647a0cf4e63b90b0284730b1fe1f9a0754e5e7afe53e00b", func := "quincunx/quincunxlaw05.IntSmall", spec := "intSmall", inPlace := ["math/bits.Add64", "math/bits.Sub64"], recurses := true, named := ["math/bits.divideError", "math/bits.overflowError"], apart := false }
def IntSmallSaid : Prop := intSmallRow.holds Try.pinned (OpenSpec.ofChange intSmallSpec)

/-- ITS FALSE NEIGHBOUR: 'it returns false'. Refute it at one input. -/
def intSmallWrong : ChangeSpec := { name := "intSmall", fn := fun _ => fun
  | [d1, d2] => { results := [.lit (.bool false)], args := [d1, d2] }
  | _ => none }
def IntSmallWrongFalsely : Prop := intSmallRow.holds Try.pinned (OpenSpec.ofChange intSmallWrong)

/-- 'quincunxlaw05.IntRing': WHATEVER THE INPUT: true; the input reads as it did. -/
def intRingSpec : ChangeSpec := { name := "intRing", fn := fun _ => fun
  | [d1, d2, d3] => { results := [.lit (.bool true)], args := [d1, d2, d3] }
  | _ => none }
def intRingRow : OpenClaim := { program := "ytnkmoeihlfdjbaa", sum := "f2a2c3bc722a36a9f647a0cf4e63b90b0284730b1fe1f9a0754e5e7afe53e00b", func := "quincunx/quincunxlaw05.IntRing", spec := "intRing", inPlace := ["math/bits.Add64", "math/bits.Sub64"], recurses := true, named := ["math/bits.divideError", "math/bits.overflowError"], apart := false }
def IntRingSaid : Prop := intRingRow.holds Try.pinned (OpenSpec.ofChange intRingSpec)

/-- ITS FALSE NEIGHBOUR: 'it returns false'. Refute it at one input. -/
def intRingWrong : ChangeSpec := { name := "intRing", fn := fun _ => fun
  | [d1, d2, d3] => { results := [.lit (.bool false)], args := [d1, d2, d3] }
  | _ => none }
def IntRingWrongFalsely : Prop := intRingRow.holds Try.pinned (OpenSpec.ofChange intRingWrong)

/- THE SECOND FORM. 'bulk': how many values and letters a reading holds, each counted each time it is reached (what is shared counts as often as it is met; a slice's spare places count too). A statement '..UptoSaid' is the law's where the arguments, and the package variables that the reading takes, are together of bulk at most 1048576: NARROWER than '..Said'. Prove '..Said' where nothing that the law and all that it calls make is longer than what came in: it says more and counts as full. Else prove '..UptoSaid'. A law counts once. -/
mutual
def uptoBulk {H : Type} : DataW H → Nat
  | .lit (.string bytes) => bytes.length + 1
  | .lit _ => 1
  | .nil => 1
  | .ptr d => uptoBulk d + 1
  | .slice elems spare => uptoBulkAll elems + uptoBulkAll spare + 1
  | .agg parts => uptoBulkAll parts + 1
  | .iface _ d => uptoBulk d + 1
  | .map entries => uptoBulkEntries entries + 1
  | .held _ => 1
def uptoBulkAll {H : Type} : List (DataW H) → Nat
  | [] => 0
  | d :: r => uptoBulk d + uptoBulkAll r
def uptoBulkEntries {H : Type} : List (Lit × DataW H) → Nat
  | [] => 0
  | x :: r => uptoBulkEntry x + uptoBulkEntries r
def uptoBulkEntry {H : Type} : Lit × DataW H → Nat
  | (.string bytes, d) => bytes.length + uptoBulk d + 1
  | (_, d) => uptoBulk d + 1
 end
def uptoSmall : (H : Type) → List (DataW H) → Bool := fun _ ds => decide (uptoBulkAll ds ≤ 1048576)
def OpenSpec.upto (s : _root_.Go.ChangeSpec) : _root_.Go.OpenSpec := { _root_.Go.OpenSpec.ofChange s with cond := some uptoSmall }

/-- 'quincunxlaw05.IntAdds', WHERE WHAT IT READS IS OF BULK AT MOST 1048576: true; the input reads as it did. -/
def intAddsUptoRow : OpenClaim := { program := "ytnkmoeihlfdjbaa", sum := "f2a2c3bc722a36a9f647a0cf4e63b90b0284730b1fe1f9a0754e5e7afe53e00b", func := "quincunx/quincunxlaw05.IntAdds", spec := "intAdds", inPlace := ["math/bits.Add64", "math/bits.Sub64"], recurses := true, named := ["math/bits.divideError", "math/bits.overflowError"], apart := false, narrowed := true }
def IntAddsUptoSaid : Prop := intAddsUptoRow.holds Try.pinned (OpenSpec.upto intAddsSpec)

/-- 'quincunxlaw05.IntDivides', WHERE WHAT IT READS IS OF BULK AT MOST 1048576: true; the input reads as it did. -/
def intDividesUptoRow : OpenClaim := { program := "ytnkmoeihlfdjbaa", sum := "f2a2c3bc722a36a9f647a0cf4e63b90b0284730b1fe1f9a0754e5e7afe53e00b", func := "quincunx/quincunxlaw05.IntDivides", spec := "intDivides", inPlace := ["math/bits.Add64", "math/bits.Sub64"], named := ["math/bits.divideError", "math/bits.overflowError"], apart := false, narrowed := true }
def IntDividesUptoSaid : Prop := intDividesUptoRow.holds Try.pinned (OpenSpec.upto intDividesSpec)

/-- 'quincunxlaw05.IntRounds', WHERE WHAT IT READS IS OF BULK AT MOST 1048576: true; the input reads as it did. -/
def intRoundsUptoRow : OpenClaim := { program := "ytnkmoeihlfdjbaa", sum := "f2a2c3bc722a36a9f647a0cf4e63b90b0284730b1fe1f9a0754e5e7afe53e00b", func := "quincunx/quincunxlaw05.IntRounds", spec := "intRounds", inPlace := ["math/bits.Add64", "math/bits.Sub64"], recurses := true, named := ["math/bits.divideError", "math/bits.overflowError"], apart := false, narrowed := true }
def IntRoundsUptoSaid : Prop := intRoundsUptoRow.holds Try.pinned (OpenSpec.upto intRoundsSpec)

/-- 'quincunxlaw05.IntXgcd', WHERE WHAT IT READS IS OF BULK AT MOST 1048576: true; the input reads as it did. -/
def intXgcdUptoRow : OpenClaim := { program := "ytnkmoeihlfdjbaa", sum := "f2a2c3bc722a36a9f647a0cf4e63b90b0284730b1fe1f9a0754e5e7afe53e00b", func := "quincunx/quincunxlaw05.IntXgcd", spec := "intXgcd", inPlace := ["math/bits.Add64", "math/bits.Sub64"], recurses := true, named := ["math/bits.divideError", "math/bits.overflowError"], apart := false, narrowed := true }
def IntXgcdUptoSaid : Prop := intXgcdUptoRow.holds Try.pinned (OpenSpec.upto intXgcdSpec)

/-- 'quincunxlaw05.IntGcd', WHERE WHAT IT READS IS OF BULK AT MOST 1048576: true; the input reads as it did. -/
def intGcdUptoRow : OpenClaim := { program := "ytnkmoeihlfdjbaa", sum := "f2a2c3bc722a36a9f647a0cf4e63b90b0284730b1fe1f9a0754e5e7afe53e00b", func := "quincunx/quincunxlaw05.IntGcd", spec := "intGcd", inPlace := ["math/bits.Add64", "math/bits.Sub64"], recurses := true, named := ["math/bits.divideError", "math/bits.overflowError"], apart := false, narrowed := true }
def IntGcdUptoSaid : Prop := intGcdUptoRow.holds Try.pinned (OpenSpec.upto intGcdSpec)

/-- 'quincunxlaw05.IntTexts', WHERE WHAT IT READS IS OF BULK AT MOST 1048576: true; the input reads as it did. -/
def intTextsUptoRow : OpenClaim := { program := "ytnkmoeihlfdjbaa", sum := "f2a2c3bc722a36a9f647a0cf4e63b90b0284730b1fe1f9a0754e5e7afe53e00b", func := "quincunx/quincunxlaw05.IntTexts", spec := "intTexts", inPlace := ["math/bits.Add64", "math/bits.Sub64"], recurses := true, named := ["math/bits.divideError", "math/bits.overflowError"], apart := false, narrowed := true }
def IntTextsUptoSaid : Prop := intTextsUptoRow.holds Try.pinned (OpenSpec.upto intTextsSpec)

/-- 'quincunxlaw05.IntSmall', WHERE WHAT IT READS IS OF BULK AT MOST 1048576: true; the input reads as it did. -/
def intSmallUptoRow : OpenClaim := { program := "ytnkmoeihlfdjbaa", sum := "f2a2c3bc722a36a9f647a0cf4e63b90b0284730b1fe1f9a0754e5e7afe53e00b", func := "quincunx/quincunxlaw05.IntSmall", spec := "intSmall", inPlace := ["math/bits.Add64", "math/bits.Sub64"], recurses := true, named := ["math/bits.divideError", "math/bits.overflowError"], apart := false, narrowed := true }
def IntSmallUptoSaid : Prop := intSmallUptoRow.holds Try.pinned (OpenSpec.upto intSmallSpec)

/-- 'quincunxlaw05.IntRing', WHERE WHAT IT READS IS OF BULK AT MOST 1048576: true; the input reads as it did. -/
def intRingUptoRow : OpenClaim := { program := "ytnkmoeihlfdjbaa", sum := "f2a2c3bc722a36a9f647a0cf4e63b90b0284730b1fe1f9a0754e5e7afe53e00b", func := "quincunx/quincunxlaw05.IntRing", spec := "intRing", inPlace := ["math/bits.Add64", "math/bits.Sub64"], recurses := true, named := ["math/bits.divideError", "math/bits.overflowError"], apart := false, narrowed := true }
def IntRingUptoSaid : Prop := intRingUptoRow.holds Try.pinned (OpenSpec.upto intRingSpec)

end Rows
end Go.Proofs.Ytnkmoeihlfdjbaa
