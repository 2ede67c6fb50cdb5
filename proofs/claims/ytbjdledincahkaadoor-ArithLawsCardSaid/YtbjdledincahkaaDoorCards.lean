/-
  DERIVED. GIVEN WITH THE SEED: THE CARDS: each row of YtbjdledincahkaaDoorRows.lean that lists a variable, with what it lists TIED to the program's text (the seventh form; the later family's looks); each row that meets fmt, with fmt's text TOLD by the authors' own Lean function (tested against real Go, not proved from fmt's source: count such statements apart). THE CARD IS WHAT COUNTS. Prove the row's statement (the work); the ties are given (YtbjdledincahkaaDoorTie.lean); close each card by the builder's one call (the guide's Derived/Test/ToyasCard.lean, 'card_holds'). Laid BY PROGRAM, IN A SANDBOX (cutbox-door.mjs). By AI agents, Wed Nov 11 2026. No macro, syntax, notation, axiom, sorry.
-/
import Derived.Test.YtbjdledincahkaaDoorRows
import GoSem.ClaimSeven
namespace Go.Proofs.YtbjdledincahkaaDoor
namespace Rows

/-- THE TIED CARD OF 'figureheadlaw06.ArithAdds'. -/
def arithAddsCard : Claim7 := { stood := { row := arithAddsRow, standIns := [], harness := (true, "5c037032642822e1d9d3c7a5a3af1ea713a4aeb35c3441603fc0660a16b07de4"), looks := false }, kinds := [], alts := [], laidByText := true, laidKinds := [.data, .data, .pinned], laidTests := true, laidLooks := .later }
def ArithAddsCardSaid : Prop := Claim7.holds Tryd.pinned (.plain (OpenSpec.ofChange arithAddsSpec)) arithAddsCard

/-- THE TIED CARD OF 'figureheadlaw06.ArithMuls'. -/
def arithMulsCard : Claim7 := { stood := { row := arithMulsRow, standIns := [], harness := (true, "5c037032642822e1d9d3c7a5a3af1ea713a4aeb35c3441603fc0660a16b07de4"), looks := false }, kinds := [], alts := [], laidByText := true, laidKinds := [.data, .data, .pinned], laidTests := true, laidLooks := .later }
def ArithMulsCardSaid : Prop := Claim7.holds Tryd.pinned (.plain (OpenSpec.ofChange arithMulsSpec)) arithMulsCard

/-- THE TIED CARD OF 'figureheadlaw06.ArithLaws'. -/
def arithLawsCard : Claim7 := { stood := { row := arithLawsRow, standIns := [], harness := (true, "5c037032642822e1d9d3c7a5a3af1ea713a4aeb35c3441603fc0660a16b07de4"), looks := false }, kinds := [], alts := [], laidByText := true, laidKinds := [.data, .data, .pinned], laidTests := true, laidLooks := .later }
def ArithLawsCardSaid : Prop := Claim7.holds Tryd.pinned (.plain (OpenSpec.ofChange arithLawsSpec)) arithLawsCard

/-- THE TIED CARD OF 'figureheadlaw06.ArithOrders'. -/
def arithOrdersCard : Claim7 := { stood := { row := arithOrdersRow, standIns := [], harness := (true, "5c037032642822e1d9d3c7a5a3af1ea713a4aeb35c3441603fc0660a16b07de4"), looks := false }, kinds := [], alts := [], laidByText := true, laidKinds := [.data, .data, .pinned], laidTests := true, laidLooks := .later }
def ArithOrdersCardSaid : Prop := Claim7.holds Tryd.pinned (.plain (OpenSpec.ofChange arithOrdersSpec)) arithOrdersCard

/-- THE TIED CARD OF 'figureheadlaw06.ArithSigns'. -/
def arithSignsCard : Claim7 := { stood := { row := arithSignsRow, standIns := [], harness := (true, "5c037032642822e1d9d3c7a5a3af1ea713a4aeb35c3441603fc0660a16b07de4"), looks := false }, kinds := [], alts := [], laidByText := true, laidKinds := [.data, .data, .pinned], laidTests := true, laidLooks := .later }
def ArithSignsCardSaid : Prop := Claim7.holds Tryd.pinned (.plain (OpenSpec.ofChange arithSignsSpec)) arithSignsCard

/-- THE SECOND FORM's CARD OF 'figureheadlaw06.ArithAdds'. -/
def arithAddsUptoCard : Claim7 := { stood := { row := arithAddsUptoRow, standIns := [], harness := (true, "5c037032642822e1d9d3c7a5a3af1ea713a4aeb35c3441603fc0660a16b07de4"), looks := false }, kinds := [], alts := [], laidByText := true, laidKinds := [.data, .data, .pinned], laidTests := true, laidLooks := .later }
def ArithAddsUptoCardSaid : Prop := Claim7.holds Tryd.pinned (.plain (OpenSpec.upto arithAddsSpec)) arithAddsUptoCard

/-- THE SECOND FORM's CARD OF 'figureheadlaw06.ArithMuls'. -/
def arithMulsUptoCard : Claim7 := { stood := { row := arithMulsUptoRow, standIns := [], harness := (true, "5c037032642822e1d9d3c7a5a3af1ea713a4aeb35c3441603fc0660a16b07de4"), looks := false }, kinds := [], alts := [], laidByText := true, laidKinds := [.data, .data, .pinned], laidTests := true, laidLooks := .later }
def ArithMulsUptoCardSaid : Prop := Claim7.holds Tryd.pinned (.plain (OpenSpec.upto arithMulsSpec)) arithMulsUptoCard

/-- THE SECOND FORM's CARD OF 'figureheadlaw06.ArithLaws'. -/
def arithLawsUptoCard : Claim7 := { stood := { row := arithLawsUptoRow, standIns := [], harness := (true, "5c037032642822e1d9d3c7a5a3af1ea713a4aeb35c3441603fc0660a16b07de4"), looks := false }, kinds := [], alts := [], laidByText := true, laidKinds := [.data, .data, .pinned], laidTests := true, laidLooks := .later }
def ArithLawsUptoCardSaid : Prop := Claim7.holds Tryd.pinned (.plain (OpenSpec.upto arithLawsSpec)) arithLawsUptoCard

/-- THE SECOND FORM's CARD OF 'figureheadlaw06.ArithOrders'. -/
def arithOrdersUptoCard : Claim7 := { stood := { row := arithOrdersUptoRow, standIns := [], harness := (true, "5c037032642822e1d9d3c7a5a3af1ea713a4aeb35c3441603fc0660a16b07de4"), looks := false }, kinds := [], alts := [], laidByText := true, laidKinds := [.data, .data, .pinned], laidTests := true, laidLooks := .later }
def ArithOrdersUptoCardSaid : Prop := Claim7.holds Tryd.pinned (.plain (OpenSpec.upto arithOrdersSpec)) arithOrdersUptoCard

/-- THE SECOND FORM's CARD OF 'figureheadlaw06.ArithSigns'. -/
def arithSignsUptoCard : Claim7 := { stood := { row := arithSignsUptoRow, standIns := [], harness := (true, "5c037032642822e1d9d3c7a5a3af1ea713a4aeb35c3441603fc0660a16b07de4"), looks := false }, kinds := [], alts := [], laidByText := true, laidKinds := [.data, .data, .pinned], laidTests := true, laidLooks := .later }
def ArithSignsUptoCardSaid : Prop := Claim7.holds Tryd.pinned (.plain (OpenSpec.upto arithSignsSpec)) arithSignsUptoCard
end Rows
end Go.Proofs.YtbjdledincahkaaDoor
