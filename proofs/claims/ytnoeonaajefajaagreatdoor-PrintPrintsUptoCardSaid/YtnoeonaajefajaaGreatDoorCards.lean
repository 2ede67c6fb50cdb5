/-
  DERIVED. GIVEN WITH THE SEED: THE CARDS: each row of YtnoeonaajefajaaGreatDoorRows.lean that lists a variable, with what it lists TIED to the program's text (the seventh form; the later family's looks); each row that meets fmt, with fmt's text TOLD by the authors' own Lean function (tested against real Go, not proved from fmt's source: count such statements apart). THE CARD IS WHAT COUNTS. Prove the row's statement (the work); the ties are given (YtnoeonaajefajaaGreatDoorTie.lean); close each card by the builder's one call (the guide's Derived/Test/ToyasCard.lean, 'card_holds'). Laid BY PROGRAM, IN A SANDBOX (cutbox-door.mjs). By AI agents, Wed Nov 11 2026. No macro, syntax, notation, axiom, sorry.
-/
import Derived.Test.YtnoeonaajefajaaGreatDoorRows
import GoSem.ClaimSeven
namespace Go.Proofs.YtnoeonaajefajaaGreatDoor
namespace Rows

/-- THE TIED CARD OF 'figureheadlaw17.PrintPrints'. -/
def printPrintsCard : Claim7 := { stood := { row := printPrintsRow, standIns := [], harness := (true, "f22ea5141042fd1dfaf16a47e2590fb1cbc202ff3fcfb47e862dc34b8c1ef73f"), looks := true }, kinds := [], alts := [], laidByText := true, laidKinds := [.data, .pinned], laidTests := true, laidLooks := .later }
def PrintPrintsCardSaid : Prop := Claim7.holds Tryz.pinned (.plain (OpenSpec.ofChange printPrintsSpec)) printPrintsCard

/-- THE TIED CARD OF 'figureheadlaw17.PrintFixed'. -/
def printFixedCard : Claim7 := { stood := { row := printFixedRow, standIns := [], harness := (true, "f22ea5141042fd1dfaf16a47e2590fb1cbc202ff3fcfb47e862dc34b8c1ef73f"), looks := true }, kinds := [], alts := [], laidByText := true, laidKinds := [.data, .pinned], laidTests := true, laidLooks := .later }
def PrintFixedCardSaid : Prop := Claim7.holds Tryz.pinned (.plain (OpenSpec.ofChange printFixedSpec)) printFixedCard

/-- THE TIED CARD OF 'figureheadlaw17.PrintGood'. -/
def printGoodCard : Claim7 := { stood := { row := printGoodRow, standIns := [], harness := (true, "f22ea5141042fd1dfaf16a47e2590fb1cbc202ff3fcfb47e862dc34b8c1ef73f"), looks := true }, kinds := [], alts := [], laidByText := true, laidKinds := [.data, .pinned], laidTests := true, laidLooks := .later }
def PrintGoodCardSaid : Prop := Claim7.holds Tryz.pinned (.plain (OpenSpec.ofChange printGoodSpec)) printGoodCard

/-- THE TIED CARD OF 'figureheadlaw17.PrintTurned'. -/
def printTurnedCard : Claim7 := { stood := { row := printTurnedRow, standIns := [], harness := (true, "f22ea5141042fd1dfaf16a47e2590fb1cbc202ff3fcfb47e862dc34b8c1ef73f"), looks := true }, kinds := [], alts := [], laidByText := true, laidKinds := [.data, .pinned], laidTests := true, laidLooks := .later }
def PrintTurnedCardSaid : Prop := Claim7.holds Tryz.pinned (.plain (OpenSpec.ofChange printTurnedSpec)) printTurnedCard

/-- THE TIED CARD OF 'figureheadlaw17.PrintShort'. -/
def printShortCard : Claim7 := { stood := { row := printShortRow, standIns := [], harness := (true, "f22ea5141042fd1dfaf16a47e2590fb1cbc202ff3fcfb47e862dc34b8c1ef73f"), looks := true }, kinds := [], alts := [], laidByText := true, laidKinds := [.data, .pinned], laidTests := true, laidLooks := .later }
def PrintShortCardSaid : Prop := Claim7.holds Tryz.pinned (.plain (OpenSpec.ofChange printShortSpec)) printShortCard

/-- THE TIED CARD OF 'figureheadlaw19.ShapeRounds'. -/
def shapeRoundsCard : Claim7 := { stood := { row := shapeRoundsRow, standIns := [], harness := (true, "f22ea5141042fd1dfaf16a47e2590fb1cbc202ff3fcfb47e862dc34b8c1ef73f"), looks := true }, kinds := [], alts := [], laidByText := true, laidKinds := [.data, .data, .pinned], laidTests := true, laidLooks := .later }
def ShapeRoundsCardSaid : Prop := Claim7.holds Tryz.pinned (.plain (OpenSpec.ofChange shapeRoundsSpec)) shapeRoundsCard

/-- THE TIED CARD OF 'figureheadlaw19.ShapeLays'. -/
def shapeLaysCard : Claim7 := { stood := { row := shapeLaysRow, standIns := [], harness := (true, "f22ea5141042fd1dfaf16a47e2590fb1cbc202ff3fcfb47e862dc34b8c1ef73f"), looks := true }, kinds := [], alts := [], laidByText := true, laidKinds := [.data, .data, .pinned], laidTests := true, laidLooks := .later }
def ShapeLaysCardSaid : Prop := Claim7.holds Tryz.pinned (.plain (OpenSpec.ofChange shapeLaysSpec)) shapeLaysCard

/-- THE TIED CARD OF 'figureheadlaw19.ShapeCounts'. -/
def shapeCountsCard : Claim7 := { stood := { row := shapeCountsRow, standIns := [], harness := (true, "f22ea5141042fd1dfaf16a47e2590fb1cbc202ff3fcfb47e862dc34b8c1ef73f"), looks := true }, kinds := [], alts := [], laidByText := true, laidKinds := [.data, .data, .pinned], laidTests := true, laidLooks := .later }
def ShapeCountsCardSaid : Prop := Claim7.holds Tryz.pinned (.plain (OpenSpec.ofChange shapeCountsSpec)) shapeCountsCard

/-- THE TIED CARD OF 'figureheadlaw19.ShapeValue'. -/
def shapeValueCard : Claim7 := { stood := { row := shapeValueRow, standIns := [], harness := (true, "f22ea5141042fd1dfaf16a47e2590fb1cbc202ff3fcfb47e862dc34b8c1ef73f"), looks := true }, kinds := [], alts := [], laidByText := true, laidKinds := [.data, .data, .pinned], laidTests := true, laidLooks := .later }
def ShapeValueCardSaid : Prop := Claim7.holds Tryz.pinned (.plain (OpenSpec.ofChange shapeValueSpec)) shapeValueCard

/-- THE TIED CARD OF 'figureheadlaw19.ShapeAgain'. -/
def shapeAgainCard : Claim7 := { stood := { row := shapeAgainRow, standIns := [], harness := (true, "f22ea5141042fd1dfaf16a47e2590fb1cbc202ff3fcfb47e862dc34b8c1ef73f"), looks := true }, kinds := [], alts := [], laidByText := true, laidKinds := [.data, .data, .pinned], laidTests := true, laidLooks := .later }
def ShapeAgainCardSaid : Prop := Claim7.holds Tryz.pinned (.plain (OpenSpec.ofChange shapeAgainSpec)) shapeAgainCard

/-- THE TIED CARD OF 'figureheadlaw19.ShapeSigned'. -/
def shapeSignedCard : Claim7 := { stood := { row := shapeSignedRow, standIns := [], harness := (true, "f22ea5141042fd1dfaf16a47e2590fb1cbc202ff3fcfb47e862dc34b8c1ef73f"), looks := true }, kinds := [], alts := [], laidByText := true, laidKinds := [.data, .data, .pinned], laidTests := true, laidLooks := .later }
def ShapeSignedCardSaid : Prop := Claim7.holds Tryz.pinned (.plain (OpenSpec.ofChange shapeSignedSpec)) shapeSignedCard

/-- THE SECOND FORM's CARD OF 'figureheadlaw17.PrintPrints'. -/
def printPrintsUptoCard : Claim7 := { stood := { row := printPrintsUptoRow, standIns := [], harness := (true, "f22ea5141042fd1dfaf16a47e2590fb1cbc202ff3fcfb47e862dc34b8c1ef73f"), looks := true }, kinds := [], alts := [], laidByText := true, laidKinds := [.data, .pinned], laidTests := true, laidLooks := .later }
def PrintPrintsUptoCardSaid : Prop := Claim7.holds Tryz.pinned (.plain (OpenSpec.upto printPrintsSpec)) printPrintsUptoCard

/-- THE SECOND FORM's CARD OF 'figureheadlaw17.PrintFixed'. -/
def printFixedUptoCard : Claim7 := { stood := { row := printFixedUptoRow, standIns := [], harness := (true, "f22ea5141042fd1dfaf16a47e2590fb1cbc202ff3fcfb47e862dc34b8c1ef73f"), looks := true }, kinds := [], alts := [], laidByText := true, laidKinds := [.data, .pinned], laidTests := true, laidLooks := .later }
def PrintFixedUptoCardSaid : Prop := Claim7.holds Tryz.pinned (.plain (OpenSpec.upto printFixedSpec)) printFixedUptoCard

/-- THE SECOND FORM's CARD OF 'figureheadlaw17.PrintGood'. -/
def printGoodUptoCard : Claim7 := { stood := { row := printGoodUptoRow, standIns := [], harness := (true, "f22ea5141042fd1dfaf16a47e2590fb1cbc202ff3fcfb47e862dc34b8c1ef73f"), looks := true }, kinds := [], alts := [], laidByText := true, laidKinds := [.data, .pinned], laidTests := true, laidLooks := .later }
def PrintGoodUptoCardSaid : Prop := Claim7.holds Tryz.pinned (.plain (OpenSpec.upto printGoodSpec)) printGoodUptoCard

/-- THE SECOND FORM's CARD OF 'figureheadlaw17.PrintTurned'. -/
def printTurnedUptoCard : Claim7 := { stood := { row := printTurnedUptoRow, standIns := [], harness := (true, "f22ea5141042fd1dfaf16a47e2590fb1cbc202ff3fcfb47e862dc34b8c1ef73f"), looks := true }, kinds := [], alts := [], laidByText := true, laidKinds := [.data, .pinned], laidTests := true, laidLooks := .later }
def PrintTurnedUptoCardSaid : Prop := Claim7.holds Tryz.pinned (.plain (OpenSpec.upto printTurnedSpec)) printTurnedUptoCard

/-- THE SECOND FORM's CARD OF 'figureheadlaw17.PrintShort'. -/
def printShortUptoCard : Claim7 := { stood := { row := printShortUptoRow, standIns := [], harness := (true, "f22ea5141042fd1dfaf16a47e2590fb1cbc202ff3fcfb47e862dc34b8c1ef73f"), looks := true }, kinds := [], alts := [], laidByText := true, laidKinds := [.data, .pinned], laidTests := true, laidLooks := .later }
def PrintShortUptoCardSaid : Prop := Claim7.holds Tryz.pinned (.plain (OpenSpec.upto printShortSpec)) printShortUptoCard

/-- THE SECOND FORM's CARD OF 'figureheadlaw19.ShapeRounds'. -/
def shapeRoundsUptoCard : Claim7 := { stood := { row := shapeRoundsUptoRow, standIns := [], harness := (true, "f22ea5141042fd1dfaf16a47e2590fb1cbc202ff3fcfb47e862dc34b8c1ef73f"), looks := true }, kinds := [], alts := [], laidByText := true, laidKinds := [.data, .data, .pinned], laidTests := true, laidLooks := .later }
def ShapeRoundsUptoCardSaid : Prop := Claim7.holds Tryz.pinned (.plain (OpenSpec.upto shapeRoundsSpec)) shapeRoundsUptoCard

/-- THE SECOND FORM's CARD OF 'figureheadlaw19.ShapeLays'. -/
def shapeLaysUptoCard : Claim7 := { stood := { row := shapeLaysUptoRow, standIns := [], harness := (true, "f22ea5141042fd1dfaf16a47e2590fb1cbc202ff3fcfb47e862dc34b8c1ef73f"), looks := true }, kinds := [], alts := [], laidByText := true, laidKinds := [.data, .data, .pinned], laidTests := true, laidLooks := .later }
def ShapeLaysUptoCardSaid : Prop := Claim7.holds Tryz.pinned (.plain (OpenSpec.upto shapeLaysSpec)) shapeLaysUptoCard

/-- THE SECOND FORM's CARD OF 'figureheadlaw19.ShapeCounts'. -/
def shapeCountsUptoCard : Claim7 := { stood := { row := shapeCountsUptoRow, standIns := [], harness := (true, "f22ea5141042fd1dfaf16a47e2590fb1cbc202ff3fcfb47e862dc34b8c1ef73f"), looks := true }, kinds := [], alts := [], laidByText := true, laidKinds := [.data, .data, .pinned], laidTests := true, laidLooks := .later }
def ShapeCountsUptoCardSaid : Prop := Claim7.holds Tryz.pinned (.plain (OpenSpec.upto shapeCountsSpec)) shapeCountsUptoCard

/-- THE SECOND FORM's CARD OF 'figureheadlaw19.ShapeValue'. -/
def shapeValueUptoCard : Claim7 := { stood := { row := shapeValueUptoRow, standIns := [], harness := (true, "f22ea5141042fd1dfaf16a47e2590fb1cbc202ff3fcfb47e862dc34b8c1ef73f"), looks := true }, kinds := [], alts := [], laidByText := true, laidKinds := [.data, .data, .pinned], laidTests := true, laidLooks := .later }
def ShapeValueUptoCardSaid : Prop := Claim7.holds Tryz.pinned (.plain (OpenSpec.upto shapeValueSpec)) shapeValueUptoCard

/-- THE SECOND FORM's CARD OF 'figureheadlaw19.ShapeAgain'. -/
def shapeAgainUptoCard : Claim7 := { stood := { row := shapeAgainUptoRow, standIns := [], harness := (true, "f22ea5141042fd1dfaf16a47e2590fb1cbc202ff3fcfb47e862dc34b8c1ef73f"), looks := true }, kinds := [], alts := [], laidByText := true, laidKinds := [.data, .data, .pinned], laidTests := true, laidLooks := .later }
def ShapeAgainUptoCardSaid : Prop := Claim7.holds Tryz.pinned (.plain (OpenSpec.upto shapeAgainSpec)) shapeAgainUptoCard

/-- THE SECOND FORM's CARD OF 'figureheadlaw19.ShapeSigned'. -/
def shapeSignedUptoCard : Claim7 := { stood := { row := shapeSignedUptoRow, standIns := [], harness := (true, "f22ea5141042fd1dfaf16a47e2590fb1cbc202ff3fcfb47e862dc34b8c1ef73f"), looks := true }, kinds := [], alts := [], laidByText := true, laidKinds := [.data, .data, .pinned], laidTests := true, laidLooks := .later }
def ShapeSignedUptoCardSaid : Prop := Claim7.holds Tryz.pinned (.plain (OpenSpec.upto shapeSignedSpec)) shapeSignedUptoCard
end Rows
end Go.Proofs.YtnoeonaajefajaaGreatDoor
