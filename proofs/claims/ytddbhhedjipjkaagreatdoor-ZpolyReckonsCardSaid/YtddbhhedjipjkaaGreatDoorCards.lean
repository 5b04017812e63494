/-
  DERIVED. GIVEN WITH THE SEED: THE CARDS: each row of YtddbhhedjipjkaaGreatDoorRows.lean that lists a variable, with what it lists TIED to the program's text (the seventh form; the later family's looks); each row that meets fmt, with fmt's text TOLD by the authors' own Lean function (tested against real Go, not proved from fmt's source: count such statements apart). THE CARD IS WHAT COUNTS. Prove the row's statement (the work); the ties are given (YtddbhhedjipjkaaGreatDoorTie.lean); close each card by the builder's one call (the guide's Derived/Test/ToyasCard.lean, 'card_holds'). Laid BY PROGRAM, IN A SANDBOX (cutbox-door.mjs). By AI agents, Wed Nov 11 2026. No macro, syntax, notation, axiom, sorry.
-/
import Derived.Test.YtddbhhedjipjkaaGreatDoorRows
import GoSem.ClaimSeven
namespace Go.Proofs.YtddbhhedjipjkaaGreatDoor
namespace Rows

/-- THE TIED CARD OF 'quincunxlaw10.ZpolyReckons'. -/
def zpolyReckonsCard : Claim7 := { stood := { row := zpolyReckonsRow, standIns := [], harness := (true, "d4ff7ad6acd4352485e8d65fb498108488792ccf4b36279512d911bf308e3fb4"), looks := false }, kinds := [], alts := [], laidByText := true, laidKinds := [.data], laidTests := true, laidLooks := .later }
def ZpolyReckonsCardSaid : Prop := Claim7.holds Tryz.pinned (.plain (OpenSpec.ofChange zpolyReckonsSpec)) zpolyReckonsCard

/-- THE TIED CARD OF 'quincunxlaw10.ZpolyPseudo'. -/
def zpolyPseudoCard : Claim7 := { stood := { row := zpolyPseudoRow, standIns := [], harness := (true, "d4ff7ad6acd4352485e8d65fb498108488792ccf4b36279512d911bf308e3fb4"), looks := false }, kinds := [], alts := [], laidByText := true, laidKinds := [.data], laidTests := true, laidLooks := .later }
def ZpolyPseudoCardSaid : Prop := Claim7.holds Tryz.pinned (.plain (OpenSpec.ofChange zpolyPseudoSpec)) zpolyPseudoCard

/-- THE TIED CARD OF 'quincunxlaw10.ZpolyExact'. -/
def zpolyExactCard : Claim7 := { stood := { row := zpolyExactRow, standIns := [], harness := (true, "d4ff7ad6acd4352485e8d65fb498108488792ccf4b36279512d911bf308e3fb4"), looks := false }, kinds := [], alts := [], laidByText := true, laidKinds := [.data], laidTests := true, laidLooks := .later }
def ZpolyExactCardSaid : Prop := Claim7.holds Tryz.pinned (.plain (OpenSpec.ofChange zpolyExactSpec)) zpolyExactCard

/-- THE TIED CARD OF 'quincunxlaw10.ZpolyContent'. -/
def zpolyContentCard : Claim7 := { stood := { row := zpolyContentRow, standIns := [], harness := (true, "d4ff7ad6acd4352485e8d65fb498108488792ccf4b36279512d911bf308e3fb4"), looks := false }, kinds := [], alts := [], laidByText := true, laidKinds := [.data], laidTests := true, laidLooks := .later }
def ZpolyContentCardSaid : Prop := Claim7.holds Tryz.pinned (.plain (OpenSpec.ofChange zpolyContentSpec)) zpolyContentCard

/-- THE TIED CARD OF 'quincunxlaw10.ZpolyGcd'. -/
def zpolyGcdCard : Claim7 := { stood := { row := zpolyGcdRow, standIns := [], harness := (true, "d4ff7ad6acd4352485e8d65fb498108488792ccf4b36279512d911bf308e3fb4"), looks := false }, kinds := [], alts := [], laidByText := true, laidKinds := [.data], laidTests := true, laidLooks := .later }
def ZpolyGcdCardSaid : Prop := Claim7.holds Tryz.pinned (.plain (OpenSpec.ofChange zpolyGcdSpec)) zpolyGcdCard

/-- THE TIED CARD OF 'quincunxlaw10.ZpolyReduces'. -/
def zpolyReducesCard : Claim7 := { stood := { row := zpolyReducesRow, standIns := [], harness := (true, "d4ff7ad6acd4352485e8d65fb498108488792ccf4b36279512d911bf308e3fb4"), looks := false }, kinds := [], alts := [], laidByText := true, laidKinds := [.data], laidTests := true, laidLooks := .later }
def ZpolyReducesCardSaid : Prop := Claim7.holds Tryz.pinned (.plain (OpenSpec.ofChange zpolyReducesSpec)) zpolyReducesCard

/-- THE SECOND FORM's CARD OF 'quincunxlaw10.ZpolyReckons'. -/
def zpolyReckonsUptoCard : Claim7 := { stood := { row := zpolyReckonsUptoRow, standIns := [], harness := (true, "d4ff7ad6acd4352485e8d65fb498108488792ccf4b36279512d911bf308e3fb4"), looks := false }, kinds := [], alts := [], laidByText := true, laidKinds := [.data], laidTests := true, laidLooks := .later }
def ZpolyReckonsUptoCardSaid : Prop := Claim7.holds Tryz.pinned (.plain (OpenSpec.upto zpolyReckonsSpec)) zpolyReckonsUptoCard

/-- THE SECOND FORM's CARD OF 'quincunxlaw10.ZpolyPseudo'. -/
def zpolyPseudoUptoCard : Claim7 := { stood := { row := zpolyPseudoUptoRow, standIns := [], harness := (true, "d4ff7ad6acd4352485e8d65fb498108488792ccf4b36279512d911bf308e3fb4"), looks := false }, kinds := [], alts := [], laidByText := true, laidKinds := [.data], laidTests := true, laidLooks := .later }
def ZpolyPseudoUptoCardSaid : Prop := Claim7.holds Tryz.pinned (.plain (OpenSpec.upto zpolyPseudoSpec)) zpolyPseudoUptoCard

/-- THE SECOND FORM's CARD OF 'quincunxlaw10.ZpolyExact'. -/
def zpolyExactUptoCard : Claim7 := { stood := { row := zpolyExactUptoRow, standIns := [], harness := (true, "d4ff7ad6acd4352485e8d65fb498108488792ccf4b36279512d911bf308e3fb4"), looks := false }, kinds := [], alts := [], laidByText := true, laidKinds := [.data], laidTests := true, laidLooks := .later }
def ZpolyExactUptoCardSaid : Prop := Claim7.holds Tryz.pinned (.plain (OpenSpec.upto zpolyExactSpec)) zpolyExactUptoCard

/-- THE SECOND FORM's CARD OF 'quincunxlaw10.ZpolyContent'. -/
def zpolyContentUptoCard : Claim7 := { stood := { row := zpolyContentUptoRow, standIns := [], harness := (true, "d4ff7ad6acd4352485e8d65fb498108488792ccf4b36279512d911bf308e3fb4"), looks := false }, kinds := [], alts := [], laidByText := true, laidKinds := [.data], laidTests := true, laidLooks := .later }
def ZpolyContentUptoCardSaid : Prop := Claim7.holds Tryz.pinned (.plain (OpenSpec.upto zpolyContentSpec)) zpolyContentUptoCard

/-- THE SECOND FORM's CARD OF 'quincunxlaw10.ZpolyGcd'. -/
def zpolyGcdUptoCard : Claim7 := { stood := { row := zpolyGcdUptoRow, standIns := [], harness := (true, "d4ff7ad6acd4352485e8d65fb498108488792ccf4b36279512d911bf308e3fb4"), looks := false }, kinds := [], alts := [], laidByText := true, laidKinds := [.data], laidTests := true, laidLooks := .later }
def ZpolyGcdUptoCardSaid : Prop := Claim7.holds Tryz.pinned (.plain (OpenSpec.upto zpolyGcdSpec)) zpolyGcdUptoCard

/-- THE SECOND FORM's CARD OF 'quincunxlaw10.ZpolyReduces'. -/
def zpolyReducesUptoCard : Claim7 := { stood := { row := zpolyReducesUptoRow, standIns := [], harness := (true, "d4ff7ad6acd4352485e8d65fb498108488792ccf4b36279512d911bf308e3fb4"), looks := false }, kinds := [], alts := [], laidByText := true, laidKinds := [.data], laidTests := true, laidLooks := .later }
def ZpolyReducesUptoCardSaid : Prop := Claim7.holds Tryz.pinned (.plain (OpenSpec.upto zpolyReducesSpec)) zpolyReducesUptoCard
end Rows
end Go.Proofs.YtddbhhedjipjkaaGreatDoor
