/-
  No cell of these rows narrows 'for every input' (looked for: loops, veiled, ifaces, maps, wideKeys, modest, calm, conditions, laid).
  DERIVED. THE GIVEN ROWS OF THIS SEAT. 5 by the template 'for every input the law returns true; each argument reads behind the call as it read before'; 0 by the template 'total and deterministic' (their statements: YtnnohfkocaajfaaTotals.lean).
  GIVEN WITH THE SEED: the statements are not yours to turn. If you find one false, say at which input.
  Laid BY PROGRAM, IN A SANDBOX (cutbox-rows.mjs): the forced cells as the released guide's own fill.sh prints them over the translation 6c16ed87644b019a… (all of the seat's roots in one cut). By AI agents, Wed Nov 11 2026. No macro, syntax, notation, axiom, sorry.
-/
import Derived.Test.YtnnohfkocaajfaaChecked
import GoSem.Claim
import GoSem.ClaimJoined
import GoSem.ClaimMapViews
import Derived.JoinedTies
import Derived.KernelRfl
namespace Go.Proofs.Ytnnohfkocaajfaa
/- THE CELL 'sum', in the pinned program and in every row, IS THE sha256 OF THE DUMP (.gsa) THAT YtnnohfkocaajfaaProg.lean LOADS. Nothing in Lean hashes anything: it is a label: what it is worth is what the hold of that sum in a sandbox is worth. -/
noncomputable def Try.pinned : Pinned := { name := "ytnnohfkocaajfaa", sum := "6c16ed87644b019a140e949da2a58b1412aca142e72b2bbf3dfdfa52cea2493f", checked := Try.checked }
namespace Rows
def none {H : Type} : Left H := { results := [], args := [] }

/-- 'quincunxlaw03.DivGcd': WHATEVER THE INPUT: true; the input reads as it did. -/
def divGcdSpec : ChangeSpec := { name := "divGcd", fn := fun _ => fun
  | [d1, d2, d3] => { results := [.lit (.bool true)], args := [d1, d2, d3] }
  | _ => none }
def divGcdRow : OpenClaim := { program := "ytnnohfkocaajfaa", sum := "6c16ed87644b019a140e949da2a58b1412aca142e72b2bbf3dfdfa52cea2493f", func := "quincunx/quincunxlaw03.DivGcd", spec := "divGcd", inPlace := ["math/bits.Add64", "math/bits.Sub64"], recurses := true, named := ["math/bits.divideError", "math/bits.overflowError"], apart := false }
def DivGcdSaid : Prop := divGcdRow.holds Try.pinned (OpenSpec.ofChange divGcdSpec)

/-- ITS FALSE NEIGHBOUR: 'it returns false'. Refute it at one input. -/
def divGcdWrong : ChangeSpec := { name := "divGcd", fn := fun _ => fun
  | [d1, d2, d3] => { results := [.lit (.bool false)], args := [d1, d2, d3] }
  | _ => none }
def DivGcdWrongFalsely : Prop := divGcdRow.holds Try.pinned (OpenSpec.ofChange divGcdWrong)

/-- 'quincunxlaw03.DivCommon': WHATEVER THE INPUT: true; the input reads as it did. -/
def divCommonSpec : ChangeSpec := { name := "divCommon", fn := fun _ => fun
  | [d1, d2, d3] => { results := [.lit (.bool true)], args := [d1, d2, d3] }
  | _ => none }
def divCommonRow : OpenClaim := { program := "ytnnohfkocaajfaa", sum := "6c16ed87644b019a140e949da2a58b1412aca142e72b2bbf3dfdfa52cea2493f", func := "quincunx/quincunxlaw03.DivCommon", spec := "divCommon", inPlace := ["math/bits.Add64", "math/bits.Sub64"], named := ["math/bits.divideError", "math/bits.overflowError"], apart := false }
def DivCommonSaid : Prop := divCommonRow.holds Try.pinned (OpenSpec.ofChange divCommonSpec)

/-- ITS FALSE NEIGHBOUR: 'it returns false'. Refute it at one input. -/
def divCommonWrong : ChangeSpec := { name := "divCommon", fn := fun _ => fun
  | [d1, d2, d3] => { results := [.lit (.bool false)], args := [d1, d2, d3] }
  | _ => none }
def DivCommonWrongFalsely : Prop := divCommonRow.holds Try.pinned (OpenSpec.ofChange divCommonWrong)

/-- 'quincunxlaw03.DivOwn': WHATEVER THE INPUT: true; the input reads as it did. -/
def divOwnSpec : ChangeSpec := { name := "divOwn", fn := fun _ => fun
  | [d1, d2] => { results := [.lit (.bool true)], args := [d1, d2] }
  | _ => none }
def divOwnRow : OpenClaim := { program := "ytnnohfkocaajfaa", sum := "6c16ed87644b019a140e949da2a58b1412aca142e72b2bbf3dfdfa52cea2493f", func := "quincunx/quincunxlaw03.DivOwn", spec := "divOwn", inPlace := ["math/bits.Add64", "math/bits.Sub64"], named := ["math/bits.divideError", "math/bits.overflowError"], apart := false }
def DivOwnSaid : Prop := divOwnRow.holds Try.pinned (OpenSpec.ofChange divOwnSpec)

/-- ITS FALSE NEIGHBOUR: 'it returns false'. Refute it at one input. -/
def divOwnWrong : ChangeSpec := { name := "divOwn", fn := fun _ => fun
  | [d1, d2] => { results := [.lit (.bool false)], args := [d1, d2] }
  | _ => none }
def DivOwnWrongFalsely : Prop := divOwnRow.holds Try.pinned (OpenSpec.ofChange divOwnWrong)

/-- 'quincunxlaw05.IntXgcd': WHATEVER THE INPUT: true; the input reads as it did. -/
def intXgcdSpec : ChangeSpec := { name := "intXgcd", fn := fun _ => fun
  | [d1, d2] => { results := [.lit (.bool true)], args := [d1, d2] }
  | _ => none }
def intXgcdRow : OpenClaim := { program := "ytnnohfkocaajfaa", sum := "6c16ed87644b019a140e949da2a58b1412aca142e72b2bbf3dfdfa52cea2493f", func := "quincunx/quincunxlaw05.IntXgcd", spec := "intXgcd", inPlace := ["math/bits.Add64", "math/bits.Sub64"], recurses := true, named := ["math/bits.divideError", "math/bits.overflowError"], apart := false }
def IntXgcdSaid : Prop := intXgcdRow.holds Try.pinned (OpenSpec.ofChange intXgcdSpec)

/-- ITS FALSE NEIGHBOUR: 'it returns false'. Refute it at one input. -/
def intXgcdWrong : ChangeSpec := { name := "intXgcd", fn := fun _ => fun
  | [d1, d2] => { results := [.lit (.bool false)], args := [d1, d2] }
  | _ => none }
def IntXgcdWrongFalsely : Prop := intXgcdRow.holds Try.pinned (OpenSpec.ofChange intXgcdWrong)

/-- 'quincunxlaw05.IntGcd': WHATEVER THE INPUT: true; the input reads as it did. -/
def intGcdSpec : ChangeSpec := { name := "intGcd", fn := fun _ => fun
  | [d1, d2, d3] => { results := [.lit (.bool true)], args := [d1, d2, d3] }
  | _ => none }
def intGcdRow : OpenClaim := { program := "ytnnohfkocaajfaa", sum := "6c16ed87644b019a140e949da2a58b1412aca142e72b2bbf3dfdfa52cea2493f", func := "quincunx/quincunxlaw05.IntGcd", spec := "intGcd", inPlace := ["math/bits.Add64", "math/bits.Sub64"], recurses := true, named := ["math/bits.divideError", "math/bits.overflowError"], apart := false }
def IntGcdSaid : Prop := intGcdRow.holds Try.pinned (OpenSpec.ofChange intGcdSpec)

/-- ITS FALSE NEIGHBOUR: 'it returns false'. Refute it at one input. -/
def intGcdWrong : ChangeSpec := { name := "intGcd", fn := fun _ => fun
  | [d1, d2, d3] => { results := [.lit (.bool false)], args := [d1, d2, d3] }
  | _ => none }
def IntGcdWrongFalsely : Prop := intGcdRow.holds Try.pinned (OpenSpec.ofChange intGcdWrong)

/- THE SECOND FORM. 'bulk': how many values and letters a reading holds, each counted each time it is reached (what is shared counts as often as it is met; a slice's spare places count too). A statement '..UptoSaid' is the law's where the arguments, and the package variables that the reading takes, are together of bulk at most 1048576: NARROWER than '..Said'. Prove '..Said' where nothing that the law and all that it calls make is longer than what came in: it says more and counts as full. Else prove '..UptoSaid'. A law counts once. -/
mutual
def uptoBulk {H : Type} : DataW H → Nat
  | .lit (.string bytes) => bytes.length + 1
  | .lit _ => 1
  | .nil => 1
  | .ptr d => uptoBulk d + 1
  | .slice elems spare => uptoBulkAll elems + uptoBulkAll spare + 1
  | .agg parts => uptoBulkAll parts + 1
  | .iface _ d => uptoBulk d + 1
  | .map entries => uptoBulkEntries entries + 1
  | .held _ => 1
def uptoBulkAll {H : Type} : List (DataW H) → Nat
  | [] => 0
  | d :: r => uptoBulk d + uptoBulkAll r
def uptoBulkEntries {H : Type} : List (Lit × DataW H) → Nat
  | [] => 0
  | x :: r => uptoBulkEntry x + uptoBulkEntries r
def uptoBulkEntry {H : Type} : Lit × DataW H → Nat
  | (.string bytes, d) => bytes.length + uptoBulk d + 1
  | (_, d) => uptoBulk d + 1
 end
def uptoSmall : (H : Type) → List (DataW H) → Bool := fun _ ds => decide (uptoBulkAll ds ≤ 1048576)
def OpenSpec.upto (s : _root_.Go.ChangeSpec) : _root_.Go.OpenSpec := { _root_.Go.OpenSpec.ofChange s with cond := some uptoSmall }

/-- 'quincunxlaw03.DivGcd', WHERE WHAT IT READS IS OF BULK AT MOST 1048576: true; the input reads as it did. -/
def divGcdUptoRow : OpenClaim := { program := "ytnnohfkocaajfaa", sum := "6c16ed87644b019a140e949da2a58b1412aca142e72b2bbf3dfdfa52cea2493f", func := "quincunx/quincunxlaw03.DivGcd", spec := "divGcd", inPlace := ["math/bits.Add64", "math/bits.Sub64"], recurses := true, named := ["math/bits.divideError", "math/bits.overflowError"], apart := false, narrowed := true }
def DivGcdUptoSaid : Prop := divGcdUptoRow.holds Try.pinned (OpenSpec.upto divGcdSpec)

/-- 'quincunxlaw03.DivCommon', WHERE WHAT IT READS IS OF BULK AT MOST 1048576: true; the input reads as it did. -/
def divCommonUptoRow : OpenClaim := { program := "ytnnohfkocaajfaa", sum := "6c16ed87644b019a140e949da2a58b1412aca142e72b2bbf3dfdfa52cea2493f", func := "quincunx/quincunxlaw03.DivCommon", spec := "divCommon", inPlace := ["math/bits.Add64", "math/bits.Sub64"], named := ["math/bits.divideError", "math/bits.overflowError"], apart := false, narrowed := true }
def DivCommonUptoSaid : Prop := divCommonUptoRow.holds Try.pinned (OpenSpec.upto divCommonSpec)

/-- 'quincunxlaw03.DivOwn', WHERE WHAT IT READS IS OF BULK AT MOST 1048576: true; the input reads as it did. -/
def divOwnUptoRow : OpenClaim := { program := "ytnnohfkocaajfaa", sum := "6c16ed87644b019a140e949da2a58b1412aca142e72b2bbf3dfdfa52cea2493f", func := "quincunx/quincunxlaw03.DivOwn", spec := "divOwn", inPlace := ["math/bits.Add64", "math/bits.Sub64"], named := ["math/bits.divideError", "math/bits.overflowError"], apart := false, narrowed := true }
def DivOwnUptoSaid : Prop := divOwnUptoRow.holds Try.pinned (OpenSpec.upto divOwnSpec)

/-- 'quincunxlaw05.IntXgcd', WHERE WHAT IT READS IS OF BULK AT MOST 1048576: true; the input reads as it did. -/
def intXgcdUptoRow : OpenClaim := { program := "ytnnohfkocaajfaa", sum := "6c16ed87644b019a140e949da2a58b1412aca142e72b2bbf3dfdfa52cea2493f", func := "quincunx/quincunxlaw05.IntXgcd", spec := "intXgcd", inPlace := ["math/bits.Add64", "math/bits.Sub64"], recurses := true, named := ["math/bits.divideError", "math/bits.overflowError"], apart := false, narrowed := true }
def IntXgcdUptoSaid : Prop := intXgcdUptoRow.holds Try.pinned (OpenSpec.upto intXgcdSpec)

/-- 'quincunxlaw05.IntGcd', WHERE WHAT IT READS IS OF BULK AT MOST 1048576: true; the input reads as it did. -/
def intGcdUptoRow : OpenClaim := { program := "ytnnohfkocaajfaa", sum := "6c16ed87644b019a140e949da2a58b1412aca142e72b2bbf3dfdfa52cea2493f", func := "quincunx/quincunxlaw05.IntGcd", spec := "intGcd", inPlace := ["math/bits.Add64", "math/bits.Sub64"], recurses := true, named := ["math/bits.divideError", "math/bits.overflowError"], apart := false, narrowed := true }
def IntGcdUptoSaid : Prop := intGcdUptoRow.holds Try.pinned (OpenSpec.upto intGcdSpec)

end Rows
end Go.Proofs.Ytnnohfkocaajfaa
