/-
  DERIVED. GIVEN WITH THE SEED: THE CARDS: each row of YtijalgngcbifgaaDoorRows.lean that lists a variable, with what it lists TIED to the program's text (the seventh form; the later family's looks); each row that meets fmt, with fmt's text TOLD by the authors' own Lean function (tested against real Go, not proved from fmt's source: count such statements apart). THE CARD IS WHAT COUNTS. Prove the row's statement (the work); the ties are given (YtijalgngcbifgaaDoorTie.lean); close each card by the builder's one call (the guide's Derived/Test/ToyasCard.lean, 'card_holds'). Laid BY PROGRAM, IN A SANDBOX (cutbox-door.mjs). By AI agents, Wed Nov 11 2026. No macro, syntax, notation, axiom, sorry.
-/
import Derived.Test.YtijalgngcbifgaaDoorRows
import GoSem.ClaimSeven
namespace Go.Proofs.YtijalgngcbifgaaDoor
namespace Rows

/-- THE TIED CARD OF 'figureheadlaw05.DecGood'. -/
def decGoodCard : Claim7 := { stood := { row := decGoodRow, standIns := [], harness := (true, "5e0aef912f1816fa71a0757ebb0efd19fdcc6d76a80220d51c343122df9257ce"), looks := false }, kinds := [], alts := [], laidByText := true, laidKinds := [.data, .data, .pinned], laidTests := true, laidLooks := .later }
def DecGoodCardSaid : Prop := Claim7.holds Tryd.pinned (.plain (OpenSpec.ofChange decGoodSpec)) decGoodCard

/-- THE TIED CARD OF 'figureheadlaw05.DecDigits'. -/
def decDigitsCard : Claim7 := { stood := { row := decDigitsRow, standIns := [], harness := (true, "5e0aef912f1816fa71a0757ebb0efd19fdcc6d76a80220d51c343122df9257ce"), looks := false }, kinds := [], alts := [], laidByText := true, laidKinds := [.data, .data, .pinned], laidTests := true, laidLooks := .later }
def DecDigitsCardSaid : Prop := Claim7.holds Tryd.pinned (.plain (OpenSpec.ofChange decDigitsSpec)) decDigitsCard

/-- THE TIED CARD OF 'figureheadlaw05.DecOrders'. -/
def decOrdersCard : Claim7 := { stood := { row := decOrdersRow, standIns := [], harness := (true, "5e0aef912f1816fa71a0757ebb0efd19fdcc6d76a80220d51c343122df9257ce"), looks := false }, kinds := [], alts := [], laidByText := true, laidKinds := [.data, .data, .pinned], laidTests := true, laidLooks := .later }
def DecOrdersCardSaid : Prop := Claim7.holds Tryd.pinned (.plain (OpenSpec.ofChange decOrdersSpec)) decOrdersCard

/-- THE TIED CARD OF 'figureheadlaw05.DecRanges'. -/
def decRangesCard : Claim7 := { stood := { row := decRangesRow, standIns := [], harness := (true, "5e0aef912f1816fa71a0757ebb0efd19fdcc6d76a80220d51c343122df9257ce"), looks := false }, kinds := [], alts := [], laidByText := true, laidKinds := [.data, .data, .pinned], laidTests := true, laidLooks := .later }
def DecRangesCardSaid : Prop := Claim7.holds Tryd.pinned (.plain (OpenSpec.ofChange decRangesSpec)) decRangesCard

/-- THE TIED CARD OF 'figureheadlaw05.DecAlike'. -/
def decAlikeCard : Claim7 := { stood := { row := decAlikeRow, standIns := [], harness := (true, "5e0aef912f1816fa71a0757ebb0efd19fdcc6d76a80220d51c343122df9257ce"), looks := false }, kinds := [], alts := [], laidByText := true, laidKinds := [.data, .data, .pinned], laidTests := true, laidLooks := .later }
def DecAlikeCardSaid : Prop := Claim7.holds Tryd.pinned (.plain (OpenSpec.ofChange decAlikeSpec)) decAlikeCard

/-- THE TIED CARD OF 'figureheadlaw05.DecThree'. -/
def decThreeCard : Claim7 := { stood := { row := decThreeRow, standIns := [], harness := (true, "5e0aef912f1816fa71a0757ebb0efd19fdcc6d76a80220d51c343122df9257ce"), looks := false }, kinds := [], alts := [], laidByText := true, laidKinds := [.data, .data, .pinned], laidTests := true, laidLooks := .later }
def DecThreeCardSaid : Prop := Claim7.holds Tryd.pinned (.plain (OpenSpec.ofChange decThreeSpec)) decThreeCard

/-- THE TIED CARD OF 'figureheadlaw05.DecPlaces'. -/
def decPlacesCard : Claim7 := { stood := { row := decPlacesRow, standIns := [], harness := (true, "5e0aef912f1816fa71a0757ebb0efd19fdcc6d76a80220d51c343122df9257ce"), looks := false }, kinds := [], alts := [], laidByText := true, laidKinds := [.data, .data, .pinned], laidTests := true, laidLooks := .later }
def DecPlacesCardSaid : Prop := Claim7.holds Tryd.pinned (.plain (OpenSpec.ofChange decPlacesSpec)) decPlacesCard

/-- THE SECOND FORM's CARD OF 'figureheadlaw05.DecGood'. -/
def decGoodUptoCard : Claim7 := { stood := { row := decGoodUptoRow, standIns := [], harness := (true, "5e0aef912f1816fa71a0757ebb0efd19fdcc6d76a80220d51c343122df9257ce"), looks := false }, kinds := [], alts := [], laidByText := true, laidKinds := [.data, .data, .pinned], laidTests := true, laidLooks := .later }
def DecGoodUptoCardSaid : Prop := Claim7.holds Tryd.pinned (.plain (OpenSpec.upto decGoodSpec)) decGoodUptoCard

/-- THE SECOND FORM's CARD OF 'figureheadlaw05.DecDigits'. -/
def decDigitsUptoCard : Claim7 := { stood := { row := decDigitsUptoRow, standIns := [], harness := (true, "5e0aef912f1816fa71a0757ebb0efd19fdcc6d76a80220d51c343122df9257ce"), looks := false }, kinds := [], alts := [], laidByText := true, laidKinds := [.data, .data, .pinned], laidTests := true, laidLooks := .later }
def DecDigitsUptoCardSaid : Prop := Claim7.holds Tryd.pinned (.plain (OpenSpec.upto decDigitsSpec)) decDigitsUptoCard

/-- THE SECOND FORM's CARD OF 'figureheadlaw05.DecOrders'. -/
def decOrdersUptoCard : Claim7 := { stood := { row := decOrdersUptoRow, standIns := [], harness := (true, "5e0aef912f1816fa71a0757ebb0efd19fdcc6d76a80220d51c343122df9257ce"), looks := false }, kinds := [], alts := [], laidByText := true, laidKinds := [.data, .data, .pinned], laidTests := true, laidLooks := .later }
def DecOrdersUptoCardSaid : Prop := Claim7.holds Tryd.pinned (.plain (OpenSpec.upto decOrdersSpec)) decOrdersUptoCard

/-- THE SECOND FORM's CARD OF 'figureheadlaw05.DecRanges'. -/
def decRangesUptoCard : Claim7 := { stood := { row := decRangesUptoRow, standIns := [], harness := (true, "5e0aef912f1816fa71a0757ebb0efd19fdcc6d76a80220d51c343122df9257ce"), looks := false }, kinds := [], alts := [], laidByText := true, laidKinds := [.data, .data, .pinned], laidTests := true, laidLooks := .later }
def DecRangesUptoCardSaid : Prop := Claim7.holds Tryd.pinned (.plain (OpenSpec.upto decRangesSpec)) decRangesUptoCard

/-- THE SECOND FORM's CARD OF 'figureheadlaw05.DecAlike'. -/
def decAlikeUptoCard : Claim7 := { stood := { row := decAlikeUptoRow, standIns := [], harness := (true, "5e0aef912f1816fa71a0757ebb0efd19fdcc6d76a80220d51c343122df9257ce"), looks := false }, kinds := [], alts := [], laidByText := true, laidKinds := [.data, .data, .pinned], laidTests := true, laidLooks := .later }
def DecAlikeUptoCardSaid : Prop := Claim7.holds Tryd.pinned (.plain (OpenSpec.upto decAlikeSpec)) decAlikeUptoCard

/-- THE SECOND FORM's CARD OF 'figureheadlaw05.DecThree'. -/
def decThreeUptoCard : Claim7 := { stood := { row := decThreeUptoRow, standIns := [], harness := (true, "5e0aef912f1816fa71a0757ebb0efd19fdcc6d76a80220d51c343122df9257ce"), looks := false }, kinds := [], alts := [], laidByText := true, laidKinds := [.data, .data, .pinned], laidTests := true, laidLooks := .later }
def DecThreeUptoCardSaid : Prop := Claim7.holds Tryd.pinned (.plain (OpenSpec.upto decThreeSpec)) decThreeUptoCard

/-- THE SECOND FORM's CARD OF 'figureheadlaw05.DecPlaces'. -/
def decPlacesUptoCard : Claim7 := { stood := { row := decPlacesUptoRow, standIns := [], harness := (true, "5e0aef912f1816fa71a0757ebb0efd19fdcc6d76a80220d51c343122df9257ce"), looks := false }, kinds := [], alts := [], laidByText := true, laidKinds := [.data, .data, .pinned], laidTests := true, laidLooks := .later }
def DecPlacesUptoCardSaid : Prop := Claim7.holds Tryd.pinned (.plain (OpenSpec.upto decPlacesSpec)) decPlacesUptoCard
end Rows
end Go.Proofs.YtijalgngcbifgaaDoor
