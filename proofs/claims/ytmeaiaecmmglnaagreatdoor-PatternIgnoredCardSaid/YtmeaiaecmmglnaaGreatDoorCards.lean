/-
  DERIVED. GIVEN WITH THE SEED: THE CARDS: each row of YtmeaiaecmmglnaaGreatDoorRows.lean that lists a variable, with what it lists TIED to the program's text (the seventh form; the later family's looks); each row that meets fmt, with fmt's text TOLD by the authors' own Lean function (tested against real Go, not proved from fmt's source: count such statements apart). THE CARD IS WHAT COUNTS. Prove the row's statement (the work); the ties are given (YtmeaiaecmmglnaaGreatDoorTie.lean); close each card by the builder's one call (the guide's Derived/Test/ToyasCard.lean, 'card_holds'). Laid BY PROGRAM, IN A SANDBOX (cutbox-door.mjs). By AI agents, Wed Nov 11 2026. No macro, syntax, notation, axiom, sorry.
-/
import Derived.Test.YtmeaiaecmmglnaaGreatDoorRows
import GoSem.ClaimSeven
namespace Go.Proofs.YtmeaiaecmmglnaaGreatDoor
namespace Rows

/-- THE TIED CARD OF 'figureheadlaw16.PatternCompiles'. -/
def patternCompilesCard : Claim7 := { stood := { row := patternCompilesRow, standIns := [], harness := (true, "96d6986e61ea5881bedccfaa058d5238b1b4e4475dc64df1844e63c4cf50e4fe"), looks := true }, kinds := [], alts := [], laidByText := true, laidKinds := [.data, .pinned], laidTests := true, laidLooks := .later }
def PatternCompilesCardSaid : Prop := Claim7.holds Tryz.pinned (.plain (OpenSpec.ofChange patternCompilesSpec)) patternCompilesCard

/-- THE TIED CARD OF 'figureheadlaw16.PatternNegs'. -/
def patternNegsCard : Claim7 := { stood := { row := patternNegsRow, standIns := [], harness := (true, "96d6986e61ea5881bedccfaa058d5238b1b4e4475dc64df1844e63c4cf50e4fe"), looks := true }, kinds := [], alts := [], laidByText := true, laidKinds := [.data, .pinned], laidTests := true, laidLooks := .later }
def PatternNegsCardSaid : Prop := Claim7.holds Tryz.pinned (.plain (OpenSpec.ofChange patternNegsSpec)) patternNegsCard

/-- THE TIED CARD OF 'figureheadlaw16.PatternIgnored'. -/
def patternIgnoredCard : Claim7 := { stood := { row := patternIgnoredRow, standIns := [], harness := (true, "96d6986e61ea5881bedccfaa058d5238b1b4e4475dc64df1844e63c4cf50e4fe"), looks := true }, kinds := [], alts := [], laidByText := true, laidKinds := [.data, .pinned], laidTests := true, laidLooks := .later }
def PatternIgnoredCardSaid : Prop := Claim7.holds Tryz.pinned (.plain (OpenSpec.ofChange patternIgnoredSpec)) patternIgnoredCard

/-- THE TIED CARD OF 'figureheadlaw16.PatternPads'. -/
def patternPadsCard : Claim7 := { stood := { row := patternPadsRow, standIns := [], harness := (true, "96d6986e61ea5881bedccfaa058d5238b1b4e4475dc64df1844e63c4cf50e4fe"), looks := true }, kinds := [], alts := [], laidByText := true, laidKinds := [.data, .pinned], laidTests := true, laidLooks := .later }
def PatternPadsCardSaid : Prop := Claim7.holds Tryz.pinned (.plain (OpenSpec.ofChange patternPadsSpec)) patternPadsCard

/-- THE SECOND FORM's CARD OF 'figureheadlaw16.PatternCompiles'. -/
def patternCompilesUptoCard : Claim7 := { stood := { row := patternCompilesUptoRow, standIns := [], harness := (true, "96d6986e61ea5881bedccfaa058d5238b1b4e4475dc64df1844e63c4cf50e4fe"), looks := true }, kinds := [], alts := [], laidByText := true, laidKinds := [.data, .pinned], laidTests := true, laidLooks := .later }
def PatternCompilesUptoCardSaid : Prop := Claim7.holds Tryz.pinned (.plain (OpenSpec.upto patternCompilesSpec)) patternCompilesUptoCard

/-- THE SECOND FORM's CARD OF 'figureheadlaw16.PatternNegs'. -/
def patternNegsUptoCard : Claim7 := { stood := { row := patternNegsUptoRow, standIns := [], harness := (true, "96d6986e61ea5881bedccfaa058d5238b1b4e4475dc64df1844e63c4cf50e4fe"), looks := true }, kinds := [], alts := [], laidByText := true, laidKinds := [.data, .pinned], laidTests := true, laidLooks := .later }
def PatternNegsUptoCardSaid : Prop := Claim7.holds Tryz.pinned (.plain (OpenSpec.upto patternNegsSpec)) patternNegsUptoCard

/-- THE SECOND FORM's CARD OF 'figureheadlaw16.PatternIgnored'. -/
def patternIgnoredUptoCard : Claim7 := { stood := { row := patternIgnoredUptoRow, standIns := [], harness := (true, "96d6986e61ea5881bedccfaa058d5238b1b4e4475dc64df1844e63c4cf50e4fe"), looks := true }, kinds := [], alts := [], laidByText := true, laidKinds := [.data, .pinned], laidTests := true, laidLooks := .later }
def PatternIgnoredUptoCardSaid : Prop := Claim7.holds Tryz.pinned (.plain (OpenSpec.upto patternIgnoredSpec)) patternIgnoredUptoCard

/-- THE SECOND FORM's CARD OF 'figureheadlaw16.PatternPads'. -/
def patternPadsUptoCard : Claim7 := { stood := { row := patternPadsUptoRow, standIns := [], harness := (true, "96d6986e61ea5881bedccfaa058d5238b1b4e4475dc64df1844e63c4cf50e4fe"), looks := true }, kinds := [], alts := [], laidByText := true, laidKinds := [.data, .pinned], laidTests := true, laidLooks := .later }
def PatternPadsUptoCardSaid : Prop := Claim7.holds Tryz.pinned (.plain (OpenSpec.upto patternPadsSpec)) patternPadsUptoCard
end Rows
end Go.Proofs.YtmeaiaecmmglnaaGreatDoor
