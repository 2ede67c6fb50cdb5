/-
  NARROWER THAN 'FOR EVERY INPUT', by the rows' own cells (each row's printed sentence says how): SigRounds: laid · SigCounts: laid · SigOrders: laid · SigScales: laid · SigEnough: laid.
  DERIVED. THE GIVEN ROWS OF THIS SEAT. 5 by the template 'for every input the law returns true; each argument reads behind the call as it read before'; 0 by the template 'total and deterministic' (their statements: YtkfjombeaidimaaDoorTotals.lean).
  GIVEN WITH THE SEED: the statements are not yours to turn. If you find one false, say at which input.
  Laid BY PROGRAM, IN A SANDBOX (cutbox-rows.mjs): the forced cells as the released guide's own fill.sh prints them over the translation 619d6482e7aa0708… (all of the seat's roots in one cut). By AI agents, Wed Nov 11 2026. No macro, syntax, notation, axiom, sorry.
-/
import Derived.Test.YtkfjombeaidimaaDoorChecked
import GoSem.PinnedTables
import GoSem.Claim
import GoSem.ClaimJoined
import GoSem.ClaimMapViews
import Derived.JoinedTies
import Derived.KernelRfl
namespace Go.Proofs.YtkfjombeaidimaaDoor
/- THE CELL 'sum', in the pinned program and in every row, IS THE sha256 OF THE DUMP (.gsa) THAT YtkfjombeaidimaaDoorProg.lean LOADS. Nothing in Lean hashes anything: it is a label: what it is worth is what the hold of that sum in a sandbox is worth. -/
noncomputable def Tryd.pinned : Pinned := { name := "ytkfjombeaidimaadoor", sum := "619d6482e7aa070860bf636b0038e8780b9d5939a74fc1032e1b8eaf3d91db06", checked := Tryd.checked }
namespace Rows
def none {H : Type} : Left H := { results := [], args := [] }

/- WHAT THE LISTED PACKAGE-LEVEL VARIABLES READ AS WHEN THE CALL BEGINS. Each datum BY PROGRAM (the guide's laid-datum.mjs) off the statement by which the dump's own 'gosem.cut.vars' lays the variable. In a bare row this is a premise. The card (YtkfjombeaidimaaDoorCards.lean) ties it to the program's text. -/
def laid_unicode_utf8_acceptRanges {H : Type} : DataW H := .agg [.agg [.lit (.int .u8 128), .lit (.int .u8 191)], .agg [.lit (.int .u8 160), .lit (.int .u8 191)], .agg [.lit (.int .u8 128), .lit (.int .u8 159)], .agg [.lit (.int .u8 144), .lit (.int .u8 191)], .agg [.lit (.int .u8 128), .lit (.int .u8 143)], .agg [.lit (.int .u8 0), .lit (.int .u8 0)], .agg [.lit (.int .u8 0), .lit (.int .u8 0)], .agg [.lit (.int .u8 0), .lit (.int .u8 0)], .agg [.lit (.int .u8 0), .lit (.int .u8 0)], .agg [.lit (.int .u8 0), .lit (.int .u8 0)], .agg [.lit (.int .u8 0), .lit (.int .u8 0)], .agg [.lit (.int .u8 0), .lit (.int .u8 0)], .agg [.lit (.int .u8 0), .lit (.int .u8 0)], .agg [.lit (.int .u8 0), .lit (.int .u8 0)], .agg [.lit (.int .u8 0), .lit (.int .u8 0)], .agg [.lit (.int .u8 0), .lit (.int .u8 0)]]
def laid_figurehead_ten_powers {H : Type} : DataW H := .agg [.lit (.int .u32 1), .lit (.int .u32 10), .lit (.int .u32 100), .lit (.int .u32 1000), .lit (.int .u32 10000), .lit (.int .u32 100000), .lit (.int .u32 1000000), .lit (.int .u32 10000000), .lit (.int .u32 100000000)]
/-- One of Go's own tables, pinned by name: the form's constant. -/
def laid_unicode_utf8_first : DataW Unit := Go.Pinned.utf8First

/-- 'figureheadlaw09.SigRounds': WHATEVER THE INPUT: true; the input reads as it did. -/
def sigRoundsSpec : ChangeSpec := { name := "sigRounds", fn := fun _ => fun
  | [d1, d2, d3] => { results := [.lit (.bool true)], args := [d1, d2, d3] }
  | _ => none }
def sigRoundsRow : OpenClaim := { program := "ytkfjombeaidimaadoor", sum := "619d6482e7aa070860bf636b0038e8780b9d5939a74fc1032e1b8eaf3d91db06", func := "figurehead/figureheadlaw09.SigRounds", spec := "sigRounds", inPlace := ["internal/bytealg.IndexByteString", "internal/bytealg.IndexString"], unfollowed := true, recurses := true, named := ["figurehead/ten.powers", "unicode/utf8.first", "unicode/utf8.acceptRanges", "internal/bytealg.MaxLen"], apart := false, laid := [("unicode/utf8.acceptRanges", laid_unicode_utf8_acceptRanges), ("figurehead/ten.powers", laid_figurehead_ten_powers), ("unicode/utf8.first", laid_unicode_utf8_first)] }
def SigRoundsSaid : Prop := sigRoundsRow.holds Tryd.pinned (OpenSpec.ofChange sigRoundsSpec)

/-- ITS FALSE NEIGHBOUR: 'it returns false'. Refute it at one input. -/
def sigRoundsWrong : ChangeSpec := { name := "sigRounds", fn := fun _ => fun
  | [d1, d2, d3] => { results := [.lit (.bool false)], args := [d1, d2, d3] }
  | _ => none }
def SigRoundsWrongFalsely : Prop := sigRoundsRow.holds Tryd.pinned (OpenSpec.ofChange sigRoundsWrong)

/-- 'figureheadlaw09.SigCounts': WHATEVER THE INPUT: true; the input reads as it did. -/
def sigCountsSpec : ChangeSpec := { name := "sigCounts", fn := fun _ => fun
  | [d1, d2] => { results := [.lit (.bool true)], args := [d1, d2] }
  | _ => none }
def sigCountsRow : OpenClaim := { program := "ytkfjombeaidimaadoor", sum := "619d6482e7aa070860bf636b0038e8780b9d5939a74fc1032e1b8eaf3d91db06", func := "figurehead/figureheadlaw09.SigCounts", spec := "sigCounts", inPlace := ["internal/bytealg.IndexByteString", "internal/bytealg.IndexString"], unfollowed := true, recurses := true, named := ["figurehead/ten.powers", "unicode/utf8.first", "unicode/utf8.acceptRanges", "internal/bytealg.MaxLen"], apart := false, laid := [("unicode/utf8.acceptRanges", laid_unicode_utf8_acceptRanges), ("figurehead/ten.powers", laid_figurehead_ten_powers), ("unicode/utf8.first", laid_unicode_utf8_first)] }
def SigCountsSaid : Prop := sigCountsRow.holds Tryd.pinned (OpenSpec.ofChange sigCountsSpec)

/-- ITS FALSE NEIGHBOUR: 'it returns false'. Refute it at one input. -/
def sigCountsWrong : ChangeSpec := { name := "sigCounts", fn := fun _ => fun
  | [d1, d2] => { results := [.lit (.bool false)], args := [d1, d2] }
  | _ => none }
def SigCountsWrongFalsely : Prop := sigCountsRow.holds Tryd.pinned (OpenSpec.ofChange sigCountsWrong)

/-- 'figureheadlaw09.SigOrders': WHATEVER THE INPUT: true; the input reads as it did. -/
def sigOrdersSpec : ChangeSpec := { name := "sigOrders", fn := fun _ => fun
  | [d1, d2, d3, d4] => { results := [.lit (.bool true)], args := [d1, d2, d3, d4] }
  | _ => none }
def sigOrdersRow : OpenClaim := { program := "ytkfjombeaidimaadoor", sum := "619d6482e7aa070860bf636b0038e8780b9d5939a74fc1032e1b8eaf3d91db06", func := "figurehead/figureheadlaw09.SigOrders", spec := "sigOrders", inPlace := ["internal/bytealg.IndexByteString", "internal/bytealg.IndexString"], unfollowed := true, recurses := true, named := ["figurehead/ten.powers", "unicode/utf8.first", "unicode/utf8.acceptRanges", "internal/bytealg.MaxLen"], apart := false, laid := [("unicode/utf8.acceptRanges", laid_unicode_utf8_acceptRanges), ("figurehead/ten.powers", laid_figurehead_ten_powers), ("unicode/utf8.first", laid_unicode_utf8_first)] }
def SigOrdersSaid : Prop := sigOrdersRow.holds Tryd.pinned (OpenSpec.ofChange sigOrdersSpec)

/-- ITS FALSE NEIGHBOUR: 'it returns false'. Refute it at one input. -/
def sigOrdersWrong : ChangeSpec := { name := "sigOrders", fn := fun _ => fun
  | [d1, d2, d3, d4] => { results := [.lit (.bool false)], args := [d1, d2, d3, d4] }
  | _ => none }
def SigOrdersWrongFalsely : Prop := sigOrdersRow.holds Tryd.pinned (OpenSpec.ofChange sigOrdersWrong)

/-- 'figureheadlaw09.SigScales': WHATEVER THE INPUT: true; the input reads as it did. -/
def sigScalesSpec : ChangeSpec := { name := "sigScales", fn := fun _ => fun
  | [d1, d2, d3, d4] => { results := [.lit (.bool true)], args := [d1, d2, d3, d4] }
  | _ => none }
def sigScalesRow : OpenClaim := { program := "ytkfjombeaidimaadoor", sum := "619d6482e7aa070860bf636b0038e8780b9d5939a74fc1032e1b8eaf3d91db06", func := "figurehead/figureheadlaw09.SigScales", spec := "sigScales", inPlace := ["internal/bytealg.IndexByteString", "internal/bytealg.IndexString"], unfollowed := true, recurses := true, named := ["figurehead/ten.powers", "unicode/utf8.first", "unicode/utf8.acceptRanges", "internal/bytealg.MaxLen"], apart := false, laid := [("unicode/utf8.acceptRanges", laid_unicode_utf8_acceptRanges), ("figurehead/ten.powers", laid_figurehead_ten_powers), ("unicode/utf8.first", laid_unicode_utf8_first)] }
def SigScalesSaid : Prop := sigScalesRow.holds Tryd.pinned (OpenSpec.ofChange sigScalesSpec)

/-- ITS FALSE NEIGHBOUR: 'it returns false'. Refute it at one input. -/
def sigScalesWrong : ChangeSpec := { name := "sigScales", fn := fun _ => fun
  | [d1, d2, d3, d4] => { results := [.lit (.bool false)], args := [d1, d2, d3, d4] }
  | _ => none }
def SigScalesWrongFalsely : Prop := sigScalesRow.holds Tryd.pinned (OpenSpec.ofChange sigScalesWrong)

/-- 'figureheadlaw09.SigEnough': WHATEVER THE INPUT: true; the input reads as it did. -/
def sigEnoughSpec : ChangeSpec := { name := "sigEnough", fn := fun _ => fun
  | [d1, d2, d3] => { results := [.lit (.bool true)], args := [d1, d2, d3] }
  | _ => none }
def sigEnoughRow : OpenClaim := { program := "ytkfjombeaidimaadoor", sum := "619d6482e7aa070860bf636b0038e8780b9d5939a74fc1032e1b8eaf3d91db06", func := "figurehead/figureheadlaw09.SigEnough", spec := "sigEnough", inPlace := ["internal/bytealg.IndexByteString", "internal/bytealg.IndexString"], unfollowed := true, recurses := true, named := ["figurehead/ten.powers", "unicode/utf8.first", "unicode/utf8.acceptRanges", "internal/bytealg.MaxLen"], apart := false, laid := [("unicode/utf8.acceptRanges", laid_unicode_utf8_acceptRanges), ("figurehead/ten.powers", laid_figurehead_ten_powers), ("unicode/utf8.first", laid_unicode_utf8_first)] }
def SigEnoughSaid : Prop := sigEnoughRow.holds Tryd.pinned (OpenSpec.ofChange sigEnoughSpec)

/-- ITS FALSE NEIGHBOUR: 'it returns false'. Refute it at one input. -/
def sigEnoughWrong : ChangeSpec := { name := "sigEnough", fn := fun _ => fun
  | [d1, d2, d3] => { results := [.lit (.bool false)], args := [d1, d2, d3] }
  | _ => none }
def SigEnoughWrongFalsely : Prop := sigEnoughRow.holds Tryd.pinned (OpenSpec.ofChange sigEnoughWrong)

/- THE SECOND FORM. 'bulk': how many values and letters a reading holds, each counted each time it is reached (what is shared counts as often as it is met; a slice's spare places count too). A statement '..UptoSaid' is the law's where the arguments, and the package variables that the reading takes, are together of bulk at most 1048576: NARROWER than '..Said'. Prove '..Said' where nothing that the law and all that it calls make is longer than what came in: it says more and counts as full. Else prove '..UptoSaid'. A law counts once. -/
mutual
def uptoBulk {H : Type} : DataW H → Nat
  | .lit (.string bytes) => bytes.length + 1
  | .lit _ => 1
  | .nil => 1
  | .ptr d => uptoBulk d + 1
  | .slice elems spare => uptoBulkAll elems + uptoBulkAll spare + 1
  | .agg parts => uptoBulkAll parts + 1
  | .iface _ d => uptoBulk d + 1
  | .map entries => uptoBulkEntries entries + 1
  | .held _ => 1
def uptoBulkAll {H : Type} : List (DataW H) → Nat
  | [] => 0
  | d :: r => uptoBulk d + uptoBulkAll r
def uptoBulkEntries {H : Type} : List (Lit × DataW H) → Nat
  | [] => 0
  | x :: r => uptoBulkEntry x + uptoBulkEntries r
def uptoBulkEntry {H : Type} : Lit × DataW H → Nat
  | (.string bytes, d) => bytes.length + uptoBulk d + 1
  | (_, d) => uptoBulk d + 1
 end
def uptoSmall : (H : Type) → List (DataW H) → Bool := fun _ ds => decide (uptoBulkAll ds ≤ 1048576)
def OpenSpec.upto (s : _root_.Go.ChangeSpec) : _root_.Go.OpenSpec := { _root_.Go.OpenSpec.ofChange s with cond := some uptoSmall }

/-- 'figureheadlaw09.SigRounds', WHERE WHAT IT READS IS OF BULK AT MOST 1048576: true; the input reads as it did. -/
def sigRoundsUptoRow : OpenClaim := { program := "ytkfjombeaidimaadoor", sum := "619d6482e7aa070860bf636b0038e8780b9d5939a74fc1032e1b8eaf3d91db06", func := "figurehead/figureheadlaw09.SigRounds", spec := "sigRounds", inPlace := ["internal/bytealg.IndexByteString", "internal/bytealg.IndexString"], unfollowed := true, recurses := true, named := ["figurehead/ten.powers", "unicode/utf8.first", "unicode/utf8.acceptRanges", "internal/bytealg.MaxLen"], apart := false, laid := [("unicode/utf8.acceptRanges", laid_unicode_utf8_acceptRanges), ("figurehead/ten.powers", laid_figurehead_ten_powers), ("unicode/utf8.first", laid_unicode_utf8_first)], narrowed := true }
def SigRoundsUptoSaid : Prop := sigRoundsUptoRow.holds Tryd.pinned (OpenSpec.upto sigRoundsSpec)

/-- 'figureheadlaw09.SigCounts', WHERE WHAT IT READS IS OF BULK AT MOST 1048576: true; the input reads as it did. -/
def sigCountsUptoRow : OpenClaim := { program := "ytkfjombeaidimaadoor", sum := "619d6482e7aa070860bf636b0038e8780b9d5939a74fc1032e1b8eaf3d91db06", func := "figurehead/figureheadlaw09.SigCounts", spec := "sigCounts", inPlace := ["internal/bytealg.IndexByteString", "internal/bytealg.IndexString"], unfollowed := true, recurses := true, named := ["figurehead/ten.powers", "unicode/utf8.first", "unicode/utf8.acceptRanges", "internal/bytealg.MaxLen"], apart := false, laid := [("unicode/utf8.acceptRanges", laid_unicode_utf8_acceptRanges), ("figurehead/ten.powers", laid_figurehead_ten_powers), ("unicode/utf8.first", laid_unicode_utf8_first)], narrowed := true }
def SigCountsUptoSaid : Prop := sigCountsUptoRow.holds Tryd.pinned (OpenSpec.upto sigCountsSpec)

/-- 'figureheadlaw09.SigOrders', WHERE WHAT IT READS IS OF BULK AT MOST 1048576: true; the input reads as it did. -/
def sigOrdersUptoRow : OpenClaim := { program := "ytkfjombeaidimaadoor", sum := "619d6482e7aa070860bf636b0038e8780b9d5939a74fc1032e1b8eaf3d91db06", func := "figurehead/figureheadlaw09.SigOrders", spec := "sigOrders", inPlace := ["internal/bytealg.IndexByteString", "internal/bytealg.IndexString"], unfollowed := true, recurses := true, named := ["figurehead/ten.powers", "unicode/utf8.first", "unicode/utf8.acceptRanges", "internal/bytealg.MaxLen"], apart := false, laid := [("unicode/utf8.acceptRanges", laid_unicode_utf8_acceptRanges), ("figurehead/ten.powers", laid_figurehead_ten_powers), ("unicode/utf8.first", laid_unicode_utf8_first)], narrowed := true }
def SigOrdersUptoSaid : Prop := sigOrdersUptoRow.holds Tryd.pinned (OpenSpec.upto sigOrdersSpec)

/-- 'figureheadlaw09.SigScales', WHERE WHAT IT READS IS OF BULK AT MOST 1048576: true; the input reads as it did. -/
def sigScalesUptoRow : OpenClaim := { program := "ytkfjombeaidimaadoor", sum := "619d6482e7aa070860bf636b0038e8780b9d5939a74fc1032e1b8eaf3d91db06", func := "figurehead/figureheadlaw09.SigScales", spec := "sigScales", inPlace := ["internal/bytealg.IndexByteString", "internal/bytealg.IndexString"], unfollowed := true, recurses := true, named := ["figurehead/ten.powers", "unicode/utf8.first", "unicode/utf8.acceptRanges", "internal/bytealg.MaxLen"], apart := false, laid := [("unicode/utf8.acceptRanges", laid_unicode_utf8_acceptRanges), ("figurehead/ten.powers", laid_figurehead_ten_powers), ("unicode/utf8.first", laid_unicode_utf8_first)], narrowed := true }
def SigScalesUptoSaid : Prop := sigScalesUptoRow.holds Tryd.pinned (OpenSpec.upto sigScalesSpec)

/-- 'figureheadlaw09.SigEnough', WHERE WHAT IT READS IS OF BULK AT MOST 1048576: true; the input reads as it did. -/
def sigEnoughUptoRow : OpenClaim := { program := "ytkfjombeaidimaadoor", sum := "619d6482e7aa070860bf636b0038e8780b9d5939a74fc1032e1b8eaf3d91db06", func := "figurehead/figureheadlaw09.SigEnough", spec := "sigEnough", inPlace := ["internal/bytealg.IndexByteString", "internal/bytealg.IndexString"], unfollowed := true, recurses := true, named := ["figurehead/ten.powers", "unicode/utf8.first", "unicode/utf8.acceptRanges", "internal/bytealg.MaxLen"], apart := false, laid := [("unicode/utf8.acceptRanges", laid_unicode_utf8_acceptRanges), ("figurehead/ten.powers", laid_figurehead_ten_powers), ("unicode/utf8.first", laid_unicode_utf8_first)], narrowed := true }
def SigEnoughUptoSaid : Prop := sigEnoughUptoRow.holds Tryd.pinned (OpenSpec.upto sigEnoughSpec)

end Rows
end Go.Proofs.YtkfjombeaidimaaDoor
