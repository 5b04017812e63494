/-
  DERIVED. GIVEN WITH THE SEED: THE CARDS: each row of YthigedcpiglmnaaDoorRows.lean that lists a variable, with what it lists TIED to the program's text (the seventh form; the later family's looks); each row that meets fmt, with fmt's text TOLD by the authors' own Lean function (tested against real Go, not proved from fmt's source: count such statements apart). THE CARD IS WHAT COUNTS. Prove the row's statement (the work); the ties are given (YthigedcpiglmnaaDoorTie.lean); close each card by the builder's one call (the guide's Derived/Test/ToyasCard.lean, 'card_holds'). Laid BY PROGRAM, IN A SANDBOX (cutbox-door.mjs). By AI agents, Wed Nov 11 2026. No macro, syntax, notation, axiom, sorry.
-/
import Derived.Test.YthigedcpiglmnaaDoorRows
import GoSem.ClaimSeven
namespace Go.Proofs.YthigedcpiglmnaaDoor
namespace Rows

/-- THE TIED CARD OF 'quincunxlaw09.PolyReckons'. -/
def polyReckonsCard : Claim7 := { stood := { row := polyReckonsRow, standIns := [], harness := (true, "de2276312cf0d4747d36622c1cf7e9315ee2885788b2985a72fde41b67942a6b"), looks := false }, kinds := [], alts := [], laidByText := true, laidKinds := [.data], laidTests := true, laidLooks := .later }
def PolyReckonsCardSaid : Prop := Claim7.holds Tryd.pinned (.plain (OpenSpec.ofChange polyReckonsSpec)) polyReckonsCard

/-- THE TIED CARD OF 'quincunxlaw09.PolyDivides'. -/
def polyDividesCard : Claim7 := { stood := { row := polyDividesRow, standIns := [], harness := (true, "de2276312cf0d4747d36622c1cf7e9315ee2885788b2985a72fde41b67942a6b"), looks := false }, kinds := [], alts := [], laidByText := true, laidKinds := [.data], laidTests := true, laidLooks := .later }
def PolyDividesCardSaid : Prop := Claim7.holds Tryd.pinned (.plain (OpenSpec.ofChange polyDividesSpec)) polyDividesCard

/-- THE TIED CARD OF 'quincunxlaw09.PolyXgcd'. -/
def polyXgcdCard : Claim7 := { stood := { row := polyXgcdRow, standIns := [], harness := (true, "de2276312cf0d4747d36622c1cf7e9315ee2885788b2985a72fde41b67942a6b"), looks := false }, kinds := [], alts := [], laidByText := true, laidKinds := [.data], laidTests := true, laidLooks := .later }
def PolyXgcdCardSaid : Prop := Claim7.holds Tryd.pinned (.plain (OpenSpec.ofChange polyXgcdSpec)) polyXgcdCard

/-- THE TIED CARD OF 'quincunxlaw09.PolyLcm'. -/
def polyLcmCard : Claim7 := { stood := { row := polyLcmRow, standIns := [], harness := (true, "de2276312cf0d4747d36622c1cf7e9315ee2885788b2985a72fde41b67942a6b"), looks := false }, kinds := [], alts := [], laidByText := true, laidKinds := [.data], laidTests := true, laidLooks := .later }
def PolyLcmCardSaid : Prop := Claim7.holds Tryd.pinned (.plain (OpenSpec.ofChange polyLcmSpec)) polyLcmCard

/-- THE TIED CARD OF 'quincunxlaw09.PolyPowers'. -/
def polyPowersCard : Claim7 := { stood := { row := polyPowersRow, standIns := [], harness := (true, "de2276312cf0d4747d36622c1cf7e9315ee2885788b2985a72fde41b67942a6b"), looks := false }, kinds := [], alts := [], laidByText := true, laidKinds := [.data], laidTests := true, laidLooks := .later }
def PolyPowersCardSaid : Prop := Claim7.holds Tryd.pinned (.plain (OpenSpec.ofChange polyPowersSpec)) polyPowersCard

/-- THE TIED CARD OF 'quincunxlaw09.PolyPrimes'. -/
def polyPrimesCard : Claim7 := { stood := { row := polyPrimesRow, standIns := [], harness := (true, "de2276312cf0d4747d36622c1cf7e9315ee2885788b2985a72fde41b67942a6b"), looks := false }, kinds := [], alts := [], laidByText := true, laidKinds := [.data], laidTests := true, laidLooks := .later }
def PolyPrimesCardSaid : Prop := Claim7.holds Tryd.pinned (.plain (OpenSpec.ofChange polyPrimesSpec)) polyPrimesCard

/-- THE TIED CARD OF 'quincunxlaw09.PolyDerives'. -/
def polyDerivesCard : Claim7 := { stood := { row := polyDerivesRow, standIns := [], harness := (true, "de2276312cf0d4747d36622c1cf7e9315ee2885788b2985a72fde41b67942a6b"), looks := false }, kinds := [], alts := [], laidByText := true, laidKinds := [.data], laidTests := true, laidLooks := .later }
def PolyDerivesCardSaid : Prop := Claim7.holds Tryd.pinned (.plain (OpenSpec.ofChange polyDerivesSpec)) polyDerivesCard

/-- THE SECOND FORM's CARD OF 'quincunxlaw09.PolyReckons'. -/
def polyReckonsUptoCard : Claim7 := { stood := { row := polyReckonsUptoRow, standIns := [], harness := (true, "de2276312cf0d4747d36622c1cf7e9315ee2885788b2985a72fde41b67942a6b"), looks := false }, kinds := [], alts := [], laidByText := true, laidKinds := [.data], laidTests := true, laidLooks := .later }
def PolyReckonsUptoCardSaid : Prop := Claim7.holds Tryd.pinned (.plain (OpenSpec.upto polyReckonsSpec)) polyReckonsUptoCard

/-- THE SECOND FORM's CARD OF 'quincunxlaw09.PolyDivides'. -/
def polyDividesUptoCard : Claim7 := { stood := { row := polyDividesUptoRow, standIns := [], harness := (true, "de2276312cf0d4747d36622c1cf7e9315ee2885788b2985a72fde41b67942a6b"), looks := false }, kinds := [], alts := [], laidByText := true, laidKinds := [.data], laidTests := true, laidLooks := .later }
def PolyDividesUptoCardSaid : Prop := Claim7.holds Tryd.pinned (.plain (OpenSpec.upto polyDividesSpec)) polyDividesUptoCard

/-- THE SECOND FORM's CARD OF 'quincunxlaw09.PolyXgcd'. -/
def polyXgcdUptoCard : Claim7 := { stood := { row := polyXgcdUptoRow, standIns := [], harness := (true, "de2276312cf0d4747d36622c1cf7e9315ee2885788b2985a72fde41b67942a6b"), looks := false }, kinds := [], alts := [], laidByText := true, laidKinds := [.data], laidTests := true, laidLooks := .later }
def PolyXgcdUptoCardSaid : Prop := Claim7.holds Tryd.pinned (.plain (OpenSpec.upto polyXgcdSpec)) polyXgcdUptoCard

/-- THE SECOND FORM's CARD OF 'quincunxlaw09.PolyLcm'. -/
def polyLcmUptoCard : Claim7 := { stood := { row := polyLcmUptoRow, standIns := [], harness := (true, "de2276312cf0d4747d36622c1cf7e9315ee2885788b2985a72fde41b67942a6b"), looks := false }, kinds := [], alts := [], laidByText := true, laidKinds := [.data], laidTests := true, laidLooks := .later }
def PolyLcmUptoCardSaid : Prop := Claim7.holds Tryd.pinned (.plain (OpenSpec.upto polyLcmSpec)) polyLcmUptoCard

/-- THE SECOND FORM's CARD OF 'quincunxlaw09.PolyPowers'. -/
def polyPowersUptoCard : Claim7 := { stood := { row := polyPowersUptoRow, standIns := [], harness := (true, "de2276312cf0d4747d36622c1cf7e9315ee2885788b2985a72fde41b67942a6b"), looks := false }, kinds := [], alts := [], laidByText := true, laidKinds := [.data], laidTests := true, laidLooks := .later }
def PolyPowersUptoCardSaid : Prop := Claim7.holds Tryd.pinned (.plain (OpenSpec.upto polyPowersSpec)) polyPowersUptoCard

/-- THE SECOND FORM's CARD OF 'quincunxlaw09.PolyPrimes'. -/
def polyPrimesUptoCard : Claim7 := { stood := { row := polyPrimesUptoRow, standIns := [], harness := (true, "de2276312cf0d4747d36622c1cf7e9315ee2885788b2985a72fde41b67942a6b"), looks := false }, kinds := [], alts := [], laidByText := true, laidKinds := [.data], laidTests := true, laidLooks := .later }
def PolyPrimesUptoCardSaid : Prop := Claim7.holds Tryd.pinned (.plain (OpenSpec.upto polyPrimesSpec)) polyPrimesUptoCard

/-- THE SECOND FORM's CARD OF 'quincunxlaw09.PolyDerives'. -/
def polyDerivesUptoCard : Claim7 := { stood := { row := polyDerivesUptoRow, standIns := [], harness := (true, "de2276312cf0d4747d36622c1cf7e9315ee2885788b2985a72fde41b67942a6b"), looks := false }, kinds := [], alts := [], laidByText := true, laidKinds := [.data], laidTests := true, laidLooks := .later }
def PolyDerivesUptoCardSaid : Prop := Claim7.holds Tryd.pinned (.plain (OpenSpec.upto polyDerivesSpec)) polyDerivesUptoCard
end Rows
end Go.Proofs.YthigedcpiglmnaaDoor
