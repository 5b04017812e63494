/-
  NARROWER THAN 'FOR EVERY INPUT', by the rows' own cells (each row's printed sentence says how): PolyReckons: laid · PolyDivides: laid · PolyXgcd: laid · PolyLcm: laid · PolyPowers: laid · PolyPrimes: laid · PolyDerives: laid.
  DERIVED. THE GIVEN ROWS OF THIS SEAT. 7 by the template 'for every input the law returns true; each argument reads behind the call as it read before'; 0 by the template 'total and deterministic' (their statements: YthigedcpiglmnaaDoorTotals.lean).
  GIVEN WITH THE SEED: the statements are not yours to turn. If you find one false, say at which input.
  Laid BY PROGRAM, IN A SANDBOX (cutbox-rows.mjs): the forced cells as the released guide's own fill.sh prints them over the translation 6d48759d4150ea0d… (all of the seat's roots in one cut). By AI agents, Wed Nov 11 2026. No macro, syntax, notation, axiom, sorry.
-/
import Derived.Test.YthigedcpiglmnaaDoorChecked
import GoSem.Claim
import GoSem.ClaimJoined
import GoSem.ClaimMapViews
import Derived.JoinedTies
import Derived.KernelRfl
namespace Go.Proofs.YthigedcpiglmnaaDoor
/- THE CELL 'sum', in the pinned program and in every row, IS THE sha256 OF THE DUMP (.gsa) THAT YthigedcpiglmnaaDoorProg.lean LOADS. Nothing in Lean hashes anything: it is a label: what it is worth is what the hold of that sum in a sandbox is worth. -/
noncomputable def Tryd.pinned : Pinned := { name := "ythigedcpiglmnaadoor", sum := "6d48759d4150ea0dd2de914fd61bf7f338f51eb4364534d74c7fb95f9c0fd4c3", checked := Tryd.checked }
namespace Rows
def none {H : Type} : Left H := { results := [], args := [] }

/- WHAT THE LISTED PACKAGE-LEVEL VARIABLES READ AS WHEN THE CALL BEGINS. Each datum BY PROGRAM (the guide's laid-datum.mjs) off the statement by which the dump's own 'gosem.cut.vars' lays the variable. In a bare row this is a premise. The card (YthigedcpiglmnaaDoorCards.lean) ties it to the program's text. -/
def laid_math_bits_deBruijn64tab {H : Type} : DataW H := .agg [.lit (.int .u8 0), .lit (.int .u8 1), .lit (.int .u8 56), .lit (.int .u8 2), .lit (.int .u8 57), .lit (.int .u8 49), .lit (.int .u8 28), .lit (.int .u8 3), .lit (.int .u8 61), .lit (.int .u8 58), .lit (.int .u8 42), .lit (.int .u8 50), .lit (.int .u8 38), .lit (.int .u8 29), .lit (.int .u8 17), .lit (.int .u8 4), .lit (.int .u8 62), .lit (.int .u8 47), .lit (.int .u8 59), .lit (.int .u8 36), .lit (.int .u8 45), .lit (.int .u8 43), .lit (.int .u8 51), .lit (.int .u8 22), .lit (.int .u8 53), .lit (.int .u8 39), .lit (.int .u8 33), .lit (.int .u8 30), .lit (.int .u8 24), .lit (.int .u8 18), .lit (.int .u8 12), .lit (.int .u8 5), .lit (.int .u8 63), .lit (.int .u8 55), .lit (.int .u8 48), .lit (.int .u8 27), .lit (.int .u8 60), .lit (.int .u8 41), .lit (.int .u8 37), .lit (.int .u8 16), .lit (.int .u8 46), .lit (.int .u8 35), .lit (.int .u8 44), .lit (.int .u8 21), .lit (.int .u8 52), .lit (.int .u8 32), .lit (.int .u8 23), .lit (.int .u8 11), .lit (.int .u8 54), .lit (.int .u8 26), .lit (.int .u8 40), .lit (.int .u8 15), .lit (.int .u8 34), .lit (.int .u8 20), .lit (.int .u8 31), .lit (.int .u8 10), .lit (.int .u8 25), .lit (.int .u8 14), .lit (.int .u8 19), .lit (.int .u8 9), .lit (.int .u8 13), .lit (.int .u8 8), .lit (.int .u8 7), .lit (.int .u8 6)]

/-- 'quincunxlaw09.PolyReckons': WHATEVER THE INPUT: true; the input reads as it did. -/
def polyReckonsSpec : ChangeSpec := { name := "polyReckons", fn := fun _ => fun
  | [d1, d2, d3] => { results := [.lit (.bool true)], args := [d1, d2, d3] }
  | _ => none }
def polyReckonsRow : OpenClaim := { program := "ythigedcpiglmnaadoor", sum := "6d48759d4150ea0dd2de914fd61bf7f338f51eb4364534d74c7fb95f9c0fd4c3", func := "quincunx/quincunxlaw09.PolyReckons", spec := "polyReckons", unfollowed := true, recurses := true, named := ["math/bits.deBruijn64tab"], apart := false, laid := [("math/bits.deBruijn64tab", laid_math_bits_deBruijn64tab)] }
def PolyReckonsSaid : Prop := polyReckonsRow.holds Tryd.pinned (OpenSpec.ofChange polyReckonsSpec)

/-- ITS FALSE NEIGHBOUR: 'it returns false'. Refute it at one input. -/
def polyReckonsWrong : ChangeSpec := { name := "polyReckons", fn := fun _ => fun
  | [d1, d2, d3] => { results := [.lit (.bool false)], args := [d1, d2, d3] }
  | _ => none }
def PolyReckonsWrongFalsely : Prop := polyReckonsRow.holds Tryd.pinned (OpenSpec.ofChange polyReckonsWrong)

/-- 'quincunxlaw09.PolyDivides': WHATEVER THE INPUT: true; the input reads as it did. -/
def polyDividesSpec : ChangeSpec := { name := "polyDivides", fn := fun _ => fun
  | [d1, d2, d3] => { results := [.lit (.bool true)], args := [d1, d2, d3] }
  | _ => none }
def polyDividesRow : OpenClaim := { program := "ythigedcpiglmnaadoor", sum := "6d48759d4150ea0dd2de914fd61bf7f338f51eb4364534d74c7fb95f9c0fd4c3", func := "quincunx/quincunxlaw09.PolyDivides", spec := "polyDivides", named := ["math/bits.deBruijn64tab"], apart := false, laid := [("math/bits.deBruijn64tab", laid_math_bits_deBruijn64tab)] }
def PolyDividesSaid : Prop := polyDividesRow.holds Tryd.pinned (OpenSpec.ofChange polyDividesSpec)

/-- ITS FALSE NEIGHBOUR: 'it returns false'. Refute it at one input. -/
def polyDividesWrong : ChangeSpec := { name := "polyDivides", fn := fun _ => fun
  | [d1, d2, d3] => { results := [.lit (.bool false)], args := [d1, d2, d3] }
  | _ => none }
def PolyDividesWrongFalsely : Prop := polyDividesRow.holds Tryd.pinned (OpenSpec.ofChange polyDividesWrong)

/-- 'quincunxlaw09.PolyXgcd': WHATEVER THE INPUT: true; the input reads as it did. -/
def polyXgcdSpec : ChangeSpec := { name := "polyXgcd", fn := fun _ => fun
  | [d1, d2, d3] => { results := [.lit (.bool true)], args := [d1, d2, d3] }
  | _ => none }
def polyXgcdRow : OpenClaim := { program := "ythigedcpiglmnaadoor", sum := "6d48759d4150ea0dd2de914fd61bf7f338f51eb4364534d74c7fb95f9c0fd4c3", func := "quincunx/quincunxlaw09.PolyXgcd", spec := "polyXgcd", named := ["math/bits.deBruijn64tab"], apart := false, laid := [("math/bits.deBruijn64tab", laid_math_bits_deBruijn64tab)] }
def PolyXgcdSaid : Prop := polyXgcdRow.holds Tryd.pinned (OpenSpec.ofChange polyXgcdSpec)

/-- ITS FALSE NEIGHBOUR: 'it returns false'. Refute it at one input. -/
def polyXgcdWrong : ChangeSpec := { name := "polyXgcd", fn := fun _ => fun
  | [d1, d2, d3] => { results := [.lit (.bool false)], args := [d1, d2, d3] }
  | _ => none }
def PolyXgcdWrongFalsely : Prop := polyXgcdRow.holds Tryd.pinned (OpenSpec.ofChange polyXgcdWrong)

/-- 'quincunxlaw09.PolyLcm': WHATEVER THE INPUT: true; the input reads as it did. -/
def polyLcmSpec : ChangeSpec := { name := "polyLcm", fn := fun _ => fun
  | [d1, d2, d3] => { results := [.lit (.bool true)], args := [d1, d2, d3] }
  | _ => none }
def polyLcmRow : OpenClaim := { program := "ythigedcpiglmnaadoor", sum := "6d48759d4150ea0dd2de914fd61bf7f338f51eb4364534d74c7fb95f9c0fd4c3", func := "quincunx/quincunxlaw09.PolyLcm", spec := "polyLcm", named := ["math/bits.deBruijn64tab"], apart := false, laid := [("math/bits.deBruijn64tab", laid_math_bits_deBruijn64tab)] }
def PolyLcmSaid : Prop := polyLcmRow.holds Tryd.pinned (OpenSpec.ofChange polyLcmSpec)

/-- ITS FALSE NEIGHBOUR: 'it returns false'. Refute it at one input. -/
def polyLcmWrong : ChangeSpec := { name := "polyLcm", fn := fun _ => fun
  | [d1, d2, d3] => { results := [.lit (.bool false)], args := [d1, d2, d3] }
  | _ => none }
def PolyLcmWrongFalsely : Prop := polyLcmRow.holds Tryd.pinned (OpenSpec.ofChange polyLcmWrong)

/-- 'quincunxlaw09.PolyPowers': WHATEVER THE INPUT: true; the input reads as it did. -/
def polyPowersSpec : ChangeSpec := { name := "polyPowers", fn := fun _ => fun
  | [d1, d2, d3] => { results := [.lit (.bool true)], args := [d1, d2, d3] }
  | _ => none }
def polyPowersRow : OpenClaim := { program := "ythigedcpiglmnaadoor", sum := "6d48759d4150ea0dd2de914fd61bf7f338f51eb4364534d74c7fb95f9c0fd4c3", func := "quincunx/quincunxlaw09.PolyPowers", spec := "polyPowers", named := ["math/bits.deBruijn64tab"], apart := false, laid := [("math/bits.deBruijn64tab", laid_math_bits_deBruijn64tab)] }
def PolyPowersSaid : Prop := polyPowersRow.holds Tryd.pinned (OpenSpec.ofChange polyPowersSpec)

/-- ITS FALSE NEIGHBOUR: 'it returns false'. Refute it at one input. -/
def polyPowersWrong : ChangeSpec := { name := "polyPowers", fn := fun _ => fun
  | [d1, d2, d3] => { results := [.lit (.bool false)], args := [d1, d2, d3] }
  | _ => none }
def PolyPowersWrongFalsely : Prop := polyPowersRow.holds Tryd.pinned (OpenSpec.ofChange polyPowersWrong)

/-- 'quincunxlaw09.PolyPrimes': WHATEVER THE INPUT: true; the input reads as it did. -/
def polyPrimesSpec : ChangeSpec := { name := "polyPrimes", fn := fun _ => fun
  | [d1, d2] => { results := [.lit (.bool true)], args := [d1, d2] }
  | _ => none }
def polyPrimesRow : OpenClaim := { program := "ythigedcpiglmnaadoor", sum := "6d48759d4150ea0dd2de914fd61bf7f338f51eb4364534d74c7fb95f9c0fd4c3", func := "quincunx/quincunxlaw09.PolyPrimes", spec := "polyPrimes", named := ["math/bits.deBruijn64tab"], apart := false, laid := [("math/bits.deBruijn64tab", laid_math_bits_deBruijn64tab)] }
def PolyPrimesSaid : Prop := polyPrimesRow.holds Tryd.pinned (OpenSpec.ofChange polyPrimesSpec)

/-- ITS FALSE NEIGHBOUR: 'it returns false'. Refute it at one input. -/
def polyPrimesWrong : ChangeSpec := { name := "polyPrimes", fn := fun _ => fun
  | [d1, d2] => { results := [.lit (.bool false)], args := [d1, d2] }
  | _ => none }
def PolyPrimesWrongFalsely : Prop := polyPrimesRow.holds Tryd.pinned (OpenSpec.ofChange polyPrimesWrong)

/-- 'quincunxlaw09.PolyDerives': WHATEVER THE INPUT: true; the input reads as it did. -/
def polyDerivesSpec : ChangeSpec := { name := "polyDerives", fn := fun _ => fun
  | [d1, d2, d3] => { results := [.lit (.bool true)], args := [d1, d2, d3] }
  | _ => none }
def polyDerivesRow : OpenClaim := { program := "ythigedcpiglmnaadoor", sum := "6d48759d4150ea0dd2de914fd61bf7f338f51eb4364534d74c7fb95f9c0fd4c3", func := "quincunx/quincunxlaw09.PolyDerives", spec := "polyDerives", named := ["math/bits.deBruijn64tab"], apart := false, laid := [("math/bits.deBruijn64tab", laid_math_bits_deBruijn64tab)] }
def PolyDerivesSaid : Prop := polyDerivesRow.holds Tryd.pinned (OpenSpec.ofChange polyDerivesSpec)

/-- ITS FALSE NEIGHBOUR: 'it returns false'. Refute it at one input. -/
def polyDerivesWrong : ChangeSpec := { name := "polyDerives", fn := fun _ => fun
  | [d1, d2, d3] => { results := [.lit (.bool false)], args := [d1, d2, d3] }
  | _ => none }
def PolyDerivesWrongFalsely : Prop := polyDerivesRow.holds Tryd.pinned (OpenSpec.ofChange polyDerivesWrong)

/- THE SECOND FORM. 'bulk': how many values and letters a reading holds, each counted each time it is reached (what is shared counts as often as it is met; a slice's spare places count too). A statement '..UptoSaid' is the law's where the arguments, and the package variables that the reading takes, are together of bulk at most 1048576: NARROWER than '..Said'. Prove '..Said' where nothing that the law and all that it calls make is longer than what came in: it says more and counts as full. Else prove '..UptoSaid'. A law counts once. -/
mutual
def uptoBulk {H : Type} : DataW H → Nat
  | .lit (.string bytes) => bytes.length + 1
  | .lit _ => 1
  | .nil => 1
  | .ptr d => uptoBulk d + 1
  | .slice elems spare => uptoBulkAll elems + uptoBulkAll spare + 1
  | .agg parts => uptoBulkAll parts + 1
  | .iface _ d => uptoBulk d + 1
  | .map entries => uptoBulkEntries entries + 1
  | .held _ => 1
def uptoBulkAll {H : Type} : List (DataW H) → Nat
  | [] => 0
  | d :: r => uptoBulk d + uptoBulkAll r
def uptoBulkEntries {H : Type} : List (Lit × DataW H) → Nat
  | [] => 0
  | x :: r => uptoBulkEntry x + uptoBulkEntries r
def uptoBulkEntry {H : Type} : Lit × DataW H → Nat
  | (.string bytes, d) => bytes.length + uptoBulk d + 1
  | (_, d) => uptoBulk d + 1
 end
def uptoSmall : (H : Type) → List (DataW H) → Bool := fun _ ds => decide (uptoBulkAll ds ≤ 1048576)
def OpenSpec.upto (s : _root_.Go.ChangeSpec) : _root_.Go.OpenSpec := { _root_.Go.OpenSpec.ofChange s with cond := some uptoSmall }

/-- 'quincunxlaw09.PolyReckons', WHERE WHAT IT READS IS OF BULK AT MOST 1048576: true; the input reads as it did. -/
def polyReckonsUptoRow : OpenClaim := { program := "ythigedcpiglmnaadoor", sum := "6d48759d4150ea0dd2de914fd61bf7f338f51eb4364534d74c7fb95f9c0fd4c3", func := "quincunx/quincunxlaw09.PolyReckons", spec := "polyReckons", unfollowed := true, recurses := true, named := ["math/bits.deBruijn64tab"], apart := false, laid := [("math/bits.deBruijn64tab", laid_math_bits_deBruijn64tab)], narrowed := true }
def PolyReckonsUptoSaid : Prop := polyReckonsUptoRow.holds Tryd.pinned (OpenSpec.upto polyReckonsSpec)

/-- 'quincunxlaw09.PolyDivides', WHERE WHAT IT READS IS OF BULK AT MOST 1048576: true; the input reads as it did. -/
def polyDividesUptoRow : OpenClaim := { program := "ythigedcpiglmnaadoor", sum := "6d48759d4150ea0dd2de914fd61bf7f338f51eb4364534d74c7fb95f9c0fd4c3", func := "quincunx/quincunxlaw09.PolyDivides", spec := "polyDivides", named := ["math/bits.deBruijn64tab"], apart := false, laid := [("math/bits.deBruijn64tab", laid_math_bits_deBruijn64tab)], narrowed := true }
def PolyDividesUptoSaid : Prop := polyDividesUptoRow.holds Tryd.pinned (OpenSpec.upto polyDividesSpec)

/-- 'quincunxlaw09.PolyXgcd', WHERE WHAT IT READS IS OF BULK AT MOST 1048576: true; the input reads as it did. -/
def polyXgcdUptoRow : OpenClaim := { program := "ythigedcpiglmnaadoor", sum := "6d48759d4150ea0dd2de914fd61bf7f338f51eb4364534d74c7fb95f9c0fd4c3", func := "quincunx/quincunxlaw09.PolyXgcd", spec := "polyXgcd", named := ["math/bits.deBruijn64tab"], apart := false, laid := [("math/bits.deBruijn64tab", laid_math_bits_deBruijn64tab)], narrowed := true }
def PolyXgcdUptoSaid : Prop := polyXgcdUptoRow.holds Tryd.pinned (OpenSpec.upto polyXgcdSpec)

/-- 'quincunxlaw09.PolyLcm', WHERE WHAT IT READS IS OF BULK AT MOST 1048576: true; the input reads as it did. -/
def polyLcmUptoRow : OpenClaim := { program := "ythigedcpiglmnaadoor", sum := "6d48759d4150ea0dd2de914fd61bf7f338f51eb4364534d74c7fb95f9c0fd4c3", func := "quincunx/quincunxlaw09.PolyLcm", spec := "polyLcm", named := ["math/bits.deBruijn64tab"], apart := false, laid := [("math/bits.deBruijn64tab", laid_math_bits_deBruijn64tab)], narrowed := true }
def PolyLcmUptoSaid : Prop := polyLcmUptoRow.holds Tryd.pinned (OpenSpec.upto polyLcmSpec)

/-- 'quincunxlaw09.PolyPowers', WHERE WHAT IT READS IS OF BULK AT MOST 1048576: true; the input reads as it did. -/
def polyPowersUptoRow : OpenClaim := { program := "ythigedcpiglmnaadoor", sum := "6d48759d4150ea0dd2de914fd61bf7f338f51eb4364534d74c7fb95f9c0fd4c3", func := "quincunx/quincunxlaw09.PolyPowers", spec := "polyPowers", named := ["math/bits.deBruijn64tab"], apart := false, laid := [("math/bits.deBruijn64tab", laid_math_bits_deBruijn64tab)], narrowed := true }
def PolyPowersUptoSaid : Prop := polyPowersUptoRow.holds Tryd.pinned (OpenSpec.upto polyPowersSpec)

/-- 'quincunxlaw09.PolyPrimes', WHERE WHAT IT READS IS OF BULK AT MOST 1048576: true; the input reads as it did. -/
def polyPrimesUptoRow : OpenClaim := { program := "ythigedcpiglmnaadoor", sum := "6d48759d4150ea0dd2de914fd61bf7f338f51eb4364534d74c7fb95f9c0fd4c3", func := "quincunx/quincunxlaw09.PolyPrimes", spec := "polyPrimes", named := ["math/bits.deBruijn64tab"], apart := false, laid := [("math/bits.deBruijn64tab", laid_math_bits_deBruijn64tab)], narrowed := true }
def PolyPrimesUptoSaid : Prop := polyPrimesUptoRow.holds Tryd.pinned (OpenSpec.upto polyPrimesSpec)

/-- 'quincunxlaw09.PolyDerives', WHERE WHAT IT READS IS OF BULK AT MOST 1048576: true; the input reads as it did. -/
def polyDerivesUptoRow : OpenClaim := { program := "ythigedcpiglmnaadoor", sum := "6d48759d4150ea0dd2de914fd61bf7f338f51eb4364534d74c7fb95f9c0fd4c3", func := "quincunx/quincunxlaw09.PolyDerives", spec := "polyDerives", named := ["math/bits.deBruijn64tab"], apart := false, laid := [("math/bits.deBruijn64tab", laid_math_bits_deBruijn64tab)], narrowed := true }
def PolyDerivesUptoSaid : Prop := polyDerivesUptoRow.holds Tryd.pinned (OpenSpec.upto polyDerivesSpec)

end Rows
end Go.Proofs.YthigedcpiglmnaaDoor
