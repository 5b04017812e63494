/-
  DERIVED. GIVEN WITH THE SEED: THE CARDS: each row of YtofdbihohljmpaaDoorRows.lean that lists a variable, with what it lists TIED to the program's text (the seventh form; the later family's looks); each row that meets fmt, with fmt's text TOLD by the authors' own Lean function (tested against real Go, not proved from fmt's source: count such statements apart). THE CARD IS WHAT COUNTS. Prove the row's statement (the work); the ties are given (YtofdbihohljmpaaDoorTie.lean); close each card by the builder's one call (the guide's Derived/Test/ToyasCard.lean, 'card_holds'). Laid BY PROGRAM, IN A SANDBOX (cutbox-door.mjs). By AI agents, Wed Nov 11 2026. No macro, syntax, notation, axiom, sorry.
-/
import Derived.Test.YtofdbihohljmpaaDoorRows
import GoSem.ClaimSeven
namespace Go.Proofs.YtofdbihohljmpaaDoor
namespace Rows

/-- THE TIED CARD OF 'quincunxlaw06.ModPrimes'. -/
def modPrimesCard : Claim7 := { stood := { row := modPrimesRow, standIns := [], harness := (true, "fc2bf30d457a507d8708232994193139825f17b66e58c205b046ec1db4658e84"), looks := false }, kinds := [], alts := [], laidByText := true, laidKinds := [.data], laidTests := true, laidLooks := .later }
def ModPrimesCardSaid : Prop := Claim7.holds Tryd.pinned (.plain (OpenSpec.ofChange modPrimesSpec)) modPrimesCard

/-- THE TIED CARD OF 'quincunxlaw06.ModNext'. -/
def modNextCard : Claim7 := { stood := { row := modNextRow, standIns := [], harness := (true, "fc2bf30d457a507d8708232994193139825f17b66e58c205b046ec1db4658e84"), looks := false }, kinds := [], alts := [], laidByText := true, laidKinds := [.data], laidTests := true, laidLooks := .later }
def ModNextCardSaid : Prop := Claim7.holds Tryd.pinned (.plain (OpenSpec.ofChange modNextSpec)) modNextCard

/-- THE SECOND FORM's CARD OF 'quincunxlaw06.ModPrimes'. -/
def modPrimesUptoCard : Claim7 := { stood := { row := modPrimesUptoRow, standIns := [], harness := (true, "fc2bf30d457a507d8708232994193139825f17b66e58c205b046ec1db4658e84"), looks := false }, kinds := [], alts := [], laidByText := true, laidKinds := [.data], laidTests := true, laidLooks := .later }
def ModPrimesUptoCardSaid : Prop := Claim7.holds Tryd.pinned (.plain (OpenSpec.upto modPrimesSpec)) modPrimesUptoCard

/-- THE SECOND FORM's CARD OF 'quincunxlaw06.ModNext'. -/
def modNextUptoCard : Claim7 := { stood := { row := modNextUptoRow, standIns := [], harness := (true, "fc2bf30d457a507d8708232994193139825f17b66e58c205b046ec1db4658e84"), looks := false }, kinds := [], alts := [], laidByText := true, laidKinds := [.data], laidTests := true, laidLooks := .later }
def ModNextUptoCardSaid : Prop := Claim7.holds Tryd.pinned (.plain (OpenSpec.upto modNextSpec)) modNextUptoCard
end Rows
end Go.Proofs.YtofdbihohljmpaaDoor
