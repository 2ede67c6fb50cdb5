/-
  DERIVED. GIVEN WITH THE SEED: THE CARDS: each row of YtogipbgfnjbakaaDoorRows.lean that lists a variable, with what it lists TIED to the program's text (the seventh form; the later family's looks); each row that meets fmt, with fmt's text TOLD by the authors' own Lean function (tested against real Go, not proved from fmt's source: count such statements apart). THE CARD IS WHAT COUNTS. Prove the row's statement (the work); the ties are given (YtogipbgfnjbakaaDoorTie.lean); close each card by the builder's one call (the guide's Derived/Test/ToyasCard.lean, 'card_holds'). Laid BY PROGRAM, IN A SANDBOX (cutbox-door.mjs). By AI agents, Wed Nov 11 2026. No macro, syntax, notation, axiom, sorry.
-/
import Derived.Test.YtogipbgfnjbakaaDoorRows
import GoSem.ClaimSeven
namespace Go.Proofs.YtogipbgfnjbakaaDoor
namespace Rows

/-- THE TIED CARD OF 'figureheadlaw15.NumberBack'. -/
def numberBackCard : Claim7 := { stood := { row := numberBackRow, standIns := [], harness := (true, "37a2a2f5a1ad10ed1adc4fdc1a8ab69b0ff698bb9a1249708dff4339c5cf843d"), looks := false }, kinds := [], alts := [], laidByText := true, laidKinds := [.data, .pinned], laidTests := true, laidLooks := .later }
def NumberBackCardSaid : Prop := Claim7.holds Tryd.pinned (.plain (OpenSpec.ofChange numberBackSpec)) numberBackCard

/-- THE TIED CARD OF 'figureheadlaw15.NumberFields'. -/
def numberFieldsCard : Claim7 := { stood := { row := numberFieldsRow, standIns := [], harness := (true, "37a2a2f5a1ad10ed1adc4fdc1a8ab69b0ff698bb9a1249708dff4339c5cf843d"), looks := false }, kinds := [], alts := [], laidByText := true, laidKinds := [.data, .pinned], laidTests := true, laidLooks := .later }
def NumberFieldsCardSaid : Prop := Claim7.holds Tryd.pinned (.plain (OpenSpec.ofChange numberFieldsSpec)) numberFieldsCard

/-- THE TIED CARD OF 'figureheadlaw15.NumberBounds'. -/
def numberBoundsCard : Claim7 := { stood := { row := numberBoundsRow, standIns := [], harness := (true, "37a2a2f5a1ad10ed1adc4fdc1a8ab69b0ff698bb9a1249708dff4339c5cf843d"), looks := false }, kinds := [], alts := [], laidByText := true, laidKinds := [.data, .pinned], laidTests := true, laidLooks := .later }
def NumberBoundsCardSaid : Prop := Claim7.holds Tryd.pinned (.plain (OpenSpec.ofChange numberBoundsSpec)) numberBoundsCard

/-- THE TIED CARD OF 'figureheadlaw15.NumberMore'. -/
def numberMoreCard : Claim7 := { stood := { row := numberMoreRow, standIns := [], harness := (true, "37a2a2f5a1ad10ed1adc4fdc1a8ab69b0ff698bb9a1249708dff4339c5cf843d"), looks := false }, kinds := [], alts := [], laidByText := true, laidKinds := [.data, .pinned], laidTests := true, laidLooks := .later }
def NumberMoreCardSaid : Prop := Claim7.holds Tryd.pinned (.plain (OpenSpec.ofChange numberMoreSpec)) numberMoreCard

/-- THE SECOND FORM's CARD OF 'figureheadlaw15.NumberBack'. -/
def numberBackUptoCard : Claim7 := { stood := { row := numberBackUptoRow, standIns := [], harness := (true, "37a2a2f5a1ad10ed1adc4fdc1a8ab69b0ff698bb9a1249708dff4339c5cf843d"), looks := false }, kinds := [], alts := [], laidByText := true, laidKinds := [.data, .pinned], laidTests := true, laidLooks := .later }
def NumberBackUptoCardSaid : Prop := Claim7.holds Tryd.pinned (.plain (OpenSpec.upto numberBackSpec)) numberBackUptoCard

/-- THE SECOND FORM's CARD OF 'figureheadlaw15.NumberFields'. -/
def numberFieldsUptoCard : Claim7 := { stood := { row := numberFieldsUptoRow, standIns := [], harness := (true, "37a2a2f5a1ad10ed1adc4fdc1a8ab69b0ff698bb9a1249708dff4339c5cf843d"), looks := false }, kinds := [], alts := [], laidByText := true, laidKinds := [.data, .pinned], laidTests := true, laidLooks := .later }
def NumberFieldsUptoCardSaid : Prop := Claim7.holds Tryd.pinned (.plain (OpenSpec.upto numberFieldsSpec)) numberFieldsUptoCard

/-- THE SECOND FORM's CARD OF 'figureheadlaw15.NumberBounds'. -/
def numberBoundsUptoCard : Claim7 := { stood := { row := numberBoundsUptoRow, standIns := [], harness := (true, "37a2a2f5a1ad10ed1adc4fdc1a8ab69b0ff698bb9a1249708dff4339c5cf843d"), looks := false }, kinds := [], alts := [], laidByText := true, laidKinds := [.data, .pinned], laidTests := true, laidLooks := .later }
def NumberBoundsUptoCardSaid : Prop := Claim7.holds Tryd.pinned (.plain (OpenSpec.upto numberBoundsSpec)) numberBoundsUptoCard

/-- THE SECOND FORM's CARD OF 'figureheadlaw15.NumberMore'. -/
def numberMoreUptoCard : Claim7 := { stood := { row := numberMoreUptoRow, standIns := [], harness := (true, "37a2a2f5a1ad10ed1adc4fdc1a8ab69b0ff698bb9a1249708dff4339c5cf843d"), looks := false }, kinds := [], alts := [], laidByText := true, laidKinds := [.data, .pinned], laidTests := true, laidLooks := .later }
def NumberMoreUptoCardSaid : Prop := Claim7.holds Tryd.pinned (.plain (OpenSpec.upto numberMoreSpec)) numberMoreUptoCard
end Rows
end Go.Proofs.YtogipbgfnjbakaaDoor
