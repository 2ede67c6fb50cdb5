/-
  DERIVED. GIVEN WITH THE SEED: THE CARDS: each row of YtkfjombeaidimaaDoorRows.lean that lists a variable, with what it lists TIED to the program's text (the seventh form; the later family's looks); each row that meets fmt, with fmt's text TOLD by the authors' own Lean function (tested against real Go, not proved from fmt's source: count such statements apart). THE CARD IS WHAT COUNTS. Prove the row's statement (the work); the ties are given (YtkfjombeaidimaaDoorTie.lean); close each card by the builder's one call (the guide's Derived/Test/ToyasCard.lean, 'card_holds'). Laid BY PROGRAM, IN A SANDBOX (cutbox-door.mjs). By AI agents, Wed Nov 11 2026. No macro, syntax, notation, axiom, sorry.
-/
import Derived.Test.YtkfjombeaidimaaDoorRows
import GoSem.ClaimSeven
namespace Go.Proofs.YtkfjombeaidimaaDoor
namespace Rows

/-- THE TIED CARD OF 'figureheadlaw09.SigRounds'. -/
def sigRoundsCard : Claim7 := { stood := { row := sigRoundsRow, standIns := [], harness := (true, "7e8141bfa06f6b7e52b03b8a39af9991f07d1f9f4d5ecd72dc02917843105608"), looks := false }, kinds := [], alts := [], laidByText := true, laidKinds := [.data, .data, .pinned], laidTests := true, laidLooks := .later }
def SigRoundsCardSaid : Prop := Claim7.holds Tryd.pinned (.plain (OpenSpec.ofChange sigRoundsSpec)) sigRoundsCard

/-- THE TIED CARD OF 'figureheadlaw09.SigCounts'. -/
def sigCountsCard : Claim7 := { stood := { row := sigCountsRow, standIns := [], harness := (true, "7e8141bfa06f6b7e52b03b8a39af9991f07d1f9f4d5ecd72dc02917843105608"), looks := false }, kinds := [], alts := [], laidByText := true, laidKinds := [.data, .data, .pinned], laidTests := true, laidLooks := .later }
def SigCountsCardSaid : Prop := Claim7.holds Tryd.pinned (.plain (OpenSpec.ofChange sigCountsSpec)) sigCountsCard

/-- THE TIED CARD OF 'figureheadlaw09.SigOrders'. -/
def sigOrdersCard : Claim7 := { stood := { row := sigOrdersRow, standIns := [], harness := (true, "7e8141bfa06f6b7e52b03b8a39af9991f07d1f9f4d5ecd72dc02917843105608"), looks := false }, kinds := [], alts := [], laidByText := true, laidKinds := [.data, .data, .pinned], laidTests := true, laidLooks := .later }
def SigOrdersCardSaid : Prop := Claim7.holds Tryd.pinned (.plain (OpenSpec.ofChange sigOrdersSpec)) sigOrdersCard

/-- THE TIED CARD OF 'figureheadlaw09.SigScales'. -/
def sigScalesCard : Claim7 := { stood := { row := sigScalesRow, standIns := [], harness := (true, "7e8141bfa06f6b7e52b03b8a39af9991f07d1f9f4d5ecd72dc02917843105608"), looks := false }, kinds := [], alts := [], laidByText := true, laidKinds := [.data, .data, .pinned], laidTests := true, laidLooks := .later }
def SigScalesCardSaid : Prop := Claim7.holds Tryd.pinned (.plain (OpenSpec.ofChange sigScalesSpec)) sigScalesCard

/-- THE TIED CARD OF 'figureheadlaw09.SigEnough'. -/
def sigEnoughCard : Claim7 := { stood := { row := sigEnoughRow, standIns := [], harness := (true, "7e8141bfa06f6b7e52b03b8a39af9991f07d1f9f4d5ecd72dc02917843105608"), looks := false }, kinds := [], alts := [], laidByText := true, laidKinds := [.data, .data, .pinned], laidTests := true, laidLooks := .later }
def SigEnoughCardSaid : Prop := Claim7.holds Tryd.pinned (.plain (OpenSpec.ofChange sigEnoughSpec)) sigEnoughCard

/-- THE SECOND FORM's CARD OF 'figureheadlaw09.SigRounds'. -/
def sigRoundsUptoCard : Claim7 := { stood := { row := sigRoundsUptoRow, standIns := [], harness := (true, "7e8141bfa06f6b7e52b03b8a39af9991f07d1f9f4d5ecd72dc02917843105608"), looks := false }, kinds := [], alts := [], laidByText := true, laidKinds := [.data, .data, .pinned], laidTests := true, laidLooks := .later }
def SigRoundsUptoCardSaid : Prop := Claim7.holds Tryd.pinned (.plain (OpenSpec.upto sigRoundsSpec)) sigRoundsUptoCard

/-- THE SECOND FORM's CARD OF 'figureheadlaw09.SigCounts'. -/
def sigCountsUptoCard : Claim7 := { stood := { row := sigCountsUptoRow, standIns := [], harness := (true, "7e8141bfa06f6b7e52b03b8a39af9991f07d1f9f4d5ecd72dc02917843105608"), looks := false }, kinds := [], alts := [], laidByText := true, laidKinds := [.data, .data, .pinned], laidTests := true, laidLooks := .later }
def SigCountsUptoCardSaid : Prop := Claim7.holds Tryd.pinned (.plain (OpenSpec.upto sigCountsSpec)) sigCountsUptoCard

/-- THE SECOND FORM's CARD OF 'figureheadlaw09.SigOrders'. -/
def sigOrdersUptoCard : Claim7 := { stood := { row := sigOrdersUptoRow, standIns := [], harness := (true, "7e8141bfa06f6b7e52b03b8a39af9991f07d1f9f4d5ecd72dc02917843105608"), looks := false }, kinds := [], alts := [], laidByText := true, laidKinds := [.data, .data, .pinned], laidTests := true, laidLooks := .later }
def SigOrdersUptoCardSaid : Prop := Claim7.holds Tryd.pinned (.plain (OpenSpec.upto sigOrdersSpec)) sigOrdersUptoCard

/-- THE SECOND FORM's CARD OF 'figureheadlaw09.SigScales'. -/
def sigScalesUptoCard : Claim7 := { stood := { row := sigScalesUptoRow, standIns := [], harness := (true, "7e8141bfa06f6b7e52b03b8a39af9991f07d1f9f4d5ecd72dc02917843105608"), looks := false }, kinds := [], alts := [], laidByText := true, laidKinds := [.data, .data, .pinned], laidTests := true, laidLooks := .later }
def SigScalesUptoCardSaid : Prop := Claim7.holds Tryd.pinned (.plain (OpenSpec.upto sigScalesSpec)) sigScalesUptoCard

/-- THE SECOND FORM's CARD OF 'figureheadlaw09.SigEnough'. -/
def sigEnoughUptoCard : Claim7 := { stood := { row := sigEnoughUptoRow, standIns := [], harness := (true, "7e8141bfa06f6b7e52b03b8a39af9991f07d1f9f4d5ecd72dc02917843105608"), looks := false }, kinds := [], alts := [], laidByText := true, laidKinds := [.data, .data, .pinned], laidTests := true, laidLooks := .later }
def SigEnoughUptoCardSaid : Prop := Claim7.holds Tryd.pinned (.plain (OpenSpec.upto sigEnoughSpec)) sigEnoughUptoCard
end Rows
end Go.Proofs.YtkfjombeaidimaaDoor
