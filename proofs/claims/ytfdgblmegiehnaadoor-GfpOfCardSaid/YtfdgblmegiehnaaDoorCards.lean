/-
  DERIVED. GIVEN WITH THE SEED: THE CARDS: each row of YtfdgblmegiehnaaDoorRows.lean that lists a variable, with what it lists TIED to the program's text (the seventh form; the later family's looks); each row that meets fmt, with fmt's text TOLD by the authors' own Lean function (tested against real Go, not proved from fmt's source: count such statements apart). THE CARD IS WHAT COUNTS. Prove the row's statement (the work); the ties are given (YtfdgblmegiehnaaDoorTie.lean); close each card by the builder's one call (the guide's Derived/Test/ToyasCard.lean, 'card_holds'). Laid BY PROGRAM, IN A SANDBOX (cutbox-door.mjs). By AI agents, Wed Nov 11 2026. No macro, syntax, notation, axiom, sorry.
-/
import Derived.Test.YtfdgblmegiehnaaDoorRows
import GoSem.ClaimSeven
namespace Go.Proofs.YtfdgblmegiehnaaDoor
namespace Rows

/-- THE TIED CARD OF 'quincunxlaw08.GfpReckons'. -/
def gfpReckonsCard : Claim7 := { stood := { row := gfpReckonsRow, standIns := [], harness := (true, "f697f625057e12b01887dd9b16c4bdf144b775831568d4734e6fb8dcdeecd2ad"), looks := false }, kinds := [], alts := [], laidByText := true, laidKinds := [.data], laidTests := true, laidLooks := .later }
def GfpReckonsCardSaid : Prop := Claim7.holds Tryd.pinned (.plain (OpenSpec.ofChange gfpReckonsSpec)) gfpReckonsCard

/-- THE TIED CARD OF 'quincunxlaw08.GfpInverse'. -/
def gfpInverseCard : Claim7 := { stood := { row := gfpInverseRow, standIns := [], harness := (true, "f697f625057e12b01887dd9b16c4bdf144b775831568d4734e6fb8dcdeecd2ad"), looks := false }, kinds := [], alts := [], laidByText := true, laidKinds := [.data], laidTests := true, laidLooks := .later }
def GfpInverseCardSaid : Prop := Claim7.holds Tryd.pinned (.plain (OpenSpec.ofChange gfpInverseSpec)) gfpInverseCard

/-- THE TIED CARD OF 'quincunxlaw08.GfpPowers'. -/
def gfpPowersCard : Claim7 := { stood := { row := gfpPowersRow, standIns := [], harness := (true, "f697f625057e12b01887dd9b16c4bdf144b775831568d4734e6fb8dcdeecd2ad"), looks := false }, kinds := [], alts := [], laidByText := true, laidKinds := [.data], laidTests := true, laidLooks := .later }
def GfpPowersCardSaid : Prop := Claim7.holds Tryd.pinned (.plain (OpenSpec.ofChange gfpPowersSpec)) gfpPowersCard

/-- THE TIED CARD OF 'quincunxlaw08.GfpOf'. -/
def gfpOfCard : Claim7 := { stood := { row := gfpOfRow, standIns := [], harness := (true, "f697f625057e12b01887dd9b16c4bdf144b775831568d4734e6fb8dcdeecd2ad"), looks := false }, kinds := [], alts := [], laidByText := true, laidKinds := [.data], laidTests := true, laidLooks := .later }
def GfpOfCardSaid : Prop := Claim7.holds Tryd.pinned (.plain (OpenSpec.ofChange gfpOfSpec)) gfpOfCard

/-- THE TIED CARD OF 'quincunxlaw08.GfpNew'. -/
def gfpNewCard : Claim7 := { stood := { row := gfpNewRow, standIns := [], harness := (true, "f697f625057e12b01887dd9b16c4bdf144b775831568d4734e6fb8dcdeecd2ad"), looks := false }, kinds := [], alts := [], laidByText := true, laidKinds := [.data], laidTests := true, laidLooks := .later }
def GfpNewCardSaid : Prop := Claim7.holds Tryd.pinned (.plain (OpenSpec.ofChange gfpNewSpec)) gfpNewCard

/-- THE TIED CARD OF 'quincunxlaw08.GfpField'. -/
def gfpFieldCard : Claim7 := { stood := { row := gfpFieldRow, standIns := [], harness := (true, "f697f625057e12b01887dd9b16c4bdf144b775831568d4734e6fb8dcdeecd2ad"), looks := false }, kinds := [], alts := [], laidByText := true, laidKinds := [.data], laidTests := true, laidLooks := .later }
def GfpFieldCardSaid : Prop := Claim7.holds Tryd.pinned (.plain (OpenSpec.ofChange gfpFieldSpec)) gfpFieldCard

/-- THE SECOND FORM's CARD OF 'quincunxlaw08.GfpReckons'. -/
def gfpReckonsUptoCard : Claim7 := { stood := { row := gfpReckonsUptoRow, standIns := [], harness := (true, "f697f625057e12b01887dd9b16c4bdf144b775831568d4734e6fb8dcdeecd2ad"), looks := false }, kinds := [], alts := [], laidByText := true, laidKinds := [.data], laidTests := true, laidLooks := .later }
def GfpReckonsUptoCardSaid : Prop := Claim7.holds Tryd.pinned (.plain (OpenSpec.upto gfpReckonsSpec)) gfpReckonsUptoCard

/-- THE SECOND FORM's CARD OF 'quincunxlaw08.GfpInverse'. -/
def gfpInverseUptoCard : Claim7 := { stood := { row := gfpInverseUptoRow, standIns := [], harness := (true, "f697f625057e12b01887dd9b16c4bdf144b775831568d4734e6fb8dcdeecd2ad"), looks := false }, kinds := [], alts := [], laidByText := true, laidKinds := [.data], laidTests := true, laidLooks := .later }
def GfpInverseUptoCardSaid : Prop := Claim7.holds Tryd.pinned (.plain (OpenSpec.upto gfpInverseSpec)) gfpInverseUptoCard

/-- THE SECOND FORM's CARD OF 'quincunxlaw08.GfpPowers'. -/
def gfpPowersUptoCard : Claim7 := { stood := { row := gfpPowersUptoRow, standIns := [], harness := (true, "f697f625057e12b01887dd9b16c4bdf144b775831568d4734e6fb8dcdeecd2ad"), looks := false }, kinds := [], alts := [], laidByText := true, laidKinds := [.data], laidTests := true, laidLooks := .later }
def GfpPowersUptoCardSaid : Prop := Claim7.holds Tryd.pinned (.plain (OpenSpec.upto gfpPowersSpec)) gfpPowersUptoCard

/-- THE SECOND FORM's CARD OF 'quincunxlaw08.GfpOf'. -/
def gfpOfUptoCard : Claim7 := { stood := { row := gfpOfUptoRow, standIns := [], harness := (true, "f697f625057e12b01887dd9b16c4bdf144b775831568d4734e6fb8dcdeecd2ad"), looks := false }, kinds := [], alts := [], laidByText := true, laidKinds := [.data], laidTests := true, laidLooks := .later }
def GfpOfUptoCardSaid : Prop := Claim7.holds Tryd.pinned (.plain (OpenSpec.upto gfpOfSpec)) gfpOfUptoCard

/-- THE SECOND FORM's CARD OF 'quincunxlaw08.GfpNew'. -/
def gfpNewUptoCard : Claim7 := { stood := { row := gfpNewUptoRow, standIns := [], harness := (true, "f697f625057e12b01887dd9b16c4bdf144b775831568d4734e6fb8dcdeecd2ad"), looks := false }, kinds := [], alts := [], laidByText := true, laidKinds := [.data], laidTests := true, laidLooks := .later }
def GfpNewUptoCardSaid : Prop := Claim7.holds Tryd.pinned (.plain (OpenSpec.upto gfpNewSpec)) gfpNewUptoCard

/-- THE SECOND FORM's CARD OF 'quincunxlaw08.GfpField'. -/
def gfpFieldUptoCard : Claim7 := { stood := { row := gfpFieldUptoRow, standIns := [], harness := (true, "f697f625057e12b01887dd9b16c4bdf144b775831568d4734e6fb8dcdeecd2ad"), looks := false }, kinds := [], alts := [], laidByText := true, laidKinds := [.data], laidTests := true, laidLooks := .later }
def GfpFieldUptoCardSaid : Prop := Claim7.holds Tryd.pinned (.plain (OpenSpec.upto gfpFieldSpec)) gfpFieldUptoCard
end Rows
end Go.Proofs.YtfdgblmegiehnaaDoor
