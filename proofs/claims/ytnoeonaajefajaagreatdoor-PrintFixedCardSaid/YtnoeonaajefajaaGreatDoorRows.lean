/-
  NARROWER THAN 'FOR EVERY INPUT', by the rows' own cells (each row's printed sentence says how): PrintPrints: laid · PrintFixed: laid · PrintGood: laid · PrintTurned: laid · PrintShort: laid · ShapeRounds: laid · ShapeLays: laid · ShapeCounts: laid · ShapeValue: laid · ShapeAgain: laid · ShapeSigned: laid.
  DERIVED. THE GIVEN ROWS OF THIS SEAT. 11 by the template 'for every input the law returns true; each argument reads behind the call as it read before'; 0 by the template 'total and deterministic' (their statements: YtnoeonaajefajaaGreatDoorTotals.lean).
  GIVEN WITH THE SEED: the statements are not yours to turn. If you find one false, say at which input.
  Laid BY PROGRAM, IN A SANDBOX (cutbox-rows.mjs): the forced cells as the released guide's own fill.sh prints them over the translation 24e13acf5806cbab… (all of the seat's roots in one cut). By AI agents, Wed Nov 11 2026. No macro, syntax, notation, axiom, sorry.
-/
import Derived.Test.YtnoeonaajefajaaGreatDoorChecked
import GoSem.PinnedTables
import GoSem.Claim
import GoSem.ClaimJoined
import GoSem.ClaimMapViews
import Derived.JoinedTies
import Derived.KernelRfl
namespace Go.Proofs.YtnoeonaajefajaaGreatDoor
/- THE CELL 'sum', in the pinned program and in every row, IS THE sha256 OF THE DUMP (.gsa) THAT YtnoeonaajefajaaGreatDoorProg.lean LOADS. Nothing in Lean hashes anything: it is a label: what it is worth is what the hold of that sum in a sandbox is worth. -/
noncomputable def Tryz.pinned : Pinned := { name := "ytnoeonaajefajaagreatdoor", sum := "24e13acf5806cbab4a59feef68bac87b36b9348e4076976612427bc763c841f4", checked := Tryz.checked }
namespace Rows
def none {H : Type} : Left H := { results := [], args := [] }

/- WHAT THE LISTED PACKAGE-LEVEL VARIABLES READ AS WHEN THE CALL BEGINS. Each datum BY PROGRAM (the guide's laid-datum.mjs) off the statement by which the dump's own 'gosem.cut.vars' lays the variable. In a bare row this is a premise. The card (YtnoeonaajefajaaGreatDoorCards.lean) ties it to the program's text. -/
def laid_unicode_utf8_acceptRanges {H : Type} : DataW H := .agg [.agg [.lit (.int .u8 128), .lit (.int .u8 191)], .agg [.lit (.int .u8 160), .lit (.int .u8 191)], .agg [.lit (.int .u8 128), .lit (.int .u8 159)], .agg [.lit (.int .u8 144), .lit (.int .u8 191)], .agg [.lit (.int .u8 128), .lit (.int .u8 143)], .agg [.lit (.int .u8 0), .lit (.int .u8 0)], .agg [.lit (.int .u8 0), .lit (.int .u8 0)], .agg [.lit (.int .u8 0), .lit (.int .u8 0)], .agg [.lit (.int .u8 0), .lit (.int .u8 0)], .agg [.lit (.int .u8 0), .lit (.int .u8 0)], .agg [.lit (.int .u8 0), .lit (.int .u8 0)], .agg [.lit (.int .u8 0), .lit (.int .u8 0)], .agg [.lit (.int .u8 0), .lit (.int .u8 0)], .agg [.lit (.int .u8 0), .lit (.int .u8 0)], .agg [.lit (.int .u8 0), .lit (.int .u8 0)], .agg [.lit (.int .u8 0), .lit (.int .u8 0)]]
/-- One of Go's own tables, pinned by name: the form's constant. -/
def laid_unicode_utf8_first : DataW Unit := Go.Pinned.utf8First
def laid_figurehead_ten_powers {H : Type} : DataW H := .agg [.lit (.int .u32 1), .lit (.int .u32 10), .lit (.int .u32 100), .lit (.int .u32 1000), .lit (.int .u32 10000), .lit (.int .u32 100000), .lit (.int .u32 1000000), .lit (.int .u32 10000000), .lit (.int .u32 100000000)]

/-- 'figureheadlaw17.PrintPrints': WHATEVER THE INPUT: true; the input reads as it did. -/
def printPrintsSpec : ChangeSpec := { name := "printPrints", fn := fun _ => fun
  | [d] => { results := [.lit (.bool true)], args := [d] }
  | _ => none }
def printPrintsRow : OpenClaim := { program := "ytnoeonaajefajaagreatdoor", sum := "24e13acf5806cbab4a59feef68bac87b36b9348e4076976612427bc763c841f4", func := "figurehead/figureheadlaw17.PrintPrints", spec := "printPrints", inPlace := ["internal/bytealg.IndexByteString", "internal/bytealg.IndexString", "internal/abi.NoEscape", "internal/bytealg.CountString", "internal/bytealg.MakeNoZero"], unfollowed := true, recurses := true, named := ["internal/bytealg.MaxLen", "unicode/utf8.first", "unicode/utf8.acceptRanges"], apart := false, laid := [("unicode/utf8.acceptRanges", laid_unicode_utf8_acceptRanges), ("unicode/utf8.first", laid_unicode_utf8_first)] }
def PrintPrintsSaid : Prop := printPrintsRow.holds Tryz.pinned (OpenSpec.ofChange printPrintsSpec)

/-- ITS FALSE NEIGHBOUR: 'it returns false'. Refute it at one input. -/
def printPrintsWrong : ChangeSpec := { name := "printPrints", fn := fun _ => fun
  | [d] => { results := [.lit (.bool false)], args := [d] }
  | _ => none }
def PrintPrintsWrongFalsely : Prop := printPrintsRow.holds Tryz.pinned (OpenSpec.ofChange printPrintsWrong)

/-- 'figureheadlaw17.PrintFixed': WHATEVER THE INPUT: true; the input reads as it did. -/
def printFixedSpec : ChangeSpec := { name := "printFixed", fn := fun _ => fun
  | [d] => { results := [.lit (.bool true)], args := [d] }
  | _ => none }
def printFixedRow : OpenClaim := { program := "ytnoeonaajefajaagreatdoor", sum := "24e13acf5806cbab4a59feef68bac87b36b9348e4076976612427bc763c841f4", func := "figurehead/figureheadlaw17.PrintFixed", spec := "printFixed", inPlace := ["internal/bytealg.IndexByteString", "internal/bytealg.IndexString", "internal/abi.NoEscape", "internal/bytealg.CountString", "internal/bytealg.MakeNoZero"], unfollowed := true, recurses := true, named := ["internal/bytealg.MaxLen", "unicode/utf8.first", "unicode/utf8.acceptRanges"], apart := false, laid := [("unicode/utf8.acceptRanges", laid_unicode_utf8_acceptRanges), ("unicode/utf8.first", laid_unicode_utf8_first)] }
def PrintFixedSaid : Prop := printFixedRow.holds Tryz.pinned (OpenSpec.ofChange printFixedSpec)

/-- ITS FALSE NEIGHBOUR: 'it returns false'. Refute it at one input. -/
def printFixedWrong : ChangeSpec := { name := "printFixed", fn := fun _ => fun
  | [d] => { results := [.lit (.bool false)], args := [d] }
  | _ => none }
def PrintFixedWrongFalsely : Prop := printFixedRow.holds Tryz.pinned (OpenSpec.ofChange printFixedWrong)

/-- 'figureheadlaw17.PrintGood': WHATEVER THE INPUT: true; the input reads as it did. -/
def printGoodSpec : ChangeSpec := { name := "printGood", fn := fun _ => fun
  | [d] => { results := [.lit (.bool true)], args := [d] }
  | _ => none }
def printGoodRow : OpenClaim := { program := "ytnoeonaajefajaagreatdoor", sum := "24e13acf5806cbab4a59feef68bac87b36b9348e4076976612427bc763c841f4", func := "figurehead/figureheadlaw17.PrintGood", spec := "printGood", inPlace := ["internal/bytealg.IndexByteString", "internal/bytealg.IndexString", "internal/abi.NoEscape", "internal/bytealg.CountString", "internal/bytealg.MakeNoZero"], unfollowed := true, recurses := true, named := ["internal/bytealg.MaxLen", "unicode/utf8.first", "unicode/utf8.acceptRanges"], apart := false, laid := [("unicode/utf8.acceptRanges", laid_unicode_utf8_acceptRanges), ("unicode/utf8.first", laid_unicode_utf8_first)] }
def PrintGoodSaid : Prop := printGoodRow.holds Tryz.pinned (OpenSpec.ofChange printGoodSpec)

/-- ITS FALSE NEIGHBOUR: 'it returns false'. Refute it at one input. -/
def printGoodWrong : ChangeSpec := { name := "printGood", fn := fun _ => fun
  | [d] => { results := [.lit (.bool false)], args := [d] }
  | _ => none }
def PrintGoodWrongFalsely : Prop := printGoodRow.holds Tryz.pinned (OpenSpec.ofChange printGoodWrong)

/-- 'figureheadlaw17.PrintTurned': WHATEVER THE INPUT: true; the input reads as it did. -/
def printTurnedSpec : ChangeSpec := { name := "printTurned", fn := fun _ => fun
  | [d1, d2, d3] => { results := [.lit (.bool true)], args := [d1, d2, d3] }
  | _ => none }
def printTurnedRow : OpenClaim := { program := "ytnoeonaajefajaagreatdoor", sum := "24e13acf5806cbab4a59feef68bac87b36b9348e4076976612427bc763c841f4", func := "figurehead/figureheadlaw17.PrintTurned", spec := "printTurned", inPlace := ["internal/bytealg.IndexByteString", "internal/bytealg.IndexString", "internal/abi.NoEscape", "internal/bytealg.CountString", "internal/bytealg.MakeNoZero"], unfollowed := true, recurses := true, named := ["internal/bytealg.MaxLen", "unicode/utf8.first", "unicode/utf8.acceptRanges"], apart := false, laid := [("unicode/utf8.acceptRanges", laid_unicode_utf8_acceptRanges), ("unicode/utf8.first", laid_unicode_utf8_first)] }
def PrintTurnedSaid : Prop := printTurnedRow.holds Tryz.pinned (OpenSpec.ofChange printTurnedSpec)

/-- ITS FALSE NEIGHBOUR: 'it returns false'. Refute it at one input. -/
def printTurnedWrong : ChangeSpec := { name := "printTurned", fn := fun _ => fun
  | [d1, d2, d3] => { results := [.lit (.bool false)], args := [d1, d2, d3] }
  | _ => none }
def PrintTurnedWrongFalsely : Prop := printTurnedRow.holds Tryz.pinned (OpenSpec.ofChange printTurnedWrong)

/-- 'figureheadlaw17.PrintShort': WHATEVER THE INPUT: true; the input reads as it did. -/
def printShortSpec : ChangeSpec := { name := "printShort", fn := fun _ => fun
  | [d] => { results := [.lit (.bool true)], args := [d] }
  | _ => none }
def printShortRow : OpenClaim := { program := "ytnoeonaajefajaagreatdoor", sum := "24e13acf5806cbab4a59feef68bac87b36b9348e4076976612427bc763c841f4", func := "figurehead/figureheadlaw17.PrintShort", spec := "printShort", inPlace := ["internal/bytealg.IndexByteString", "internal/bytealg.IndexString", "internal/abi.NoEscape", "internal/bytealg.CountString", "internal/bytealg.MakeNoZero"], unfollowed := true, recurses := true, named := ["internal/bytealg.MaxLen", "unicode/utf8.first", "unicode/utf8.acceptRanges"], apart := false, laid := [("unicode/utf8.acceptRanges", laid_unicode_utf8_acceptRanges), ("unicode/utf8.first", laid_unicode_utf8_first)] }
def PrintShortSaid : Prop := printShortRow.holds Tryz.pinned (OpenSpec.ofChange printShortSpec)

/-- ITS FALSE NEIGHBOUR: 'it returns false'. Refute it at one input. -/
def printShortWrong : ChangeSpec := { name := "printShort", fn := fun _ => fun
  | [d] => { results := [.lit (.bool false)], args := [d] }
  | _ => none }
def PrintShortWrongFalsely : Prop := printShortRow.holds Tryz.pinned (OpenSpec.ofChange printShortWrong)

/-- 'figureheadlaw19.ShapeRounds': WHATEVER THE INPUT: true; the input reads as it did. -/
def shapeRoundsSpec : ChangeSpec := { name := "shapeRounds", fn := fun _ => fun
  | [d1, d2, d3] => { results := [.lit (.bool true)], args := [d1, d2, d3] }
  | _ => none }
def shapeRoundsRow : OpenClaim := { program := "ytnoeonaajefajaagreatdoor", sum := "24e13acf5806cbab4a59feef68bac87b36b9348e4076976612427bc763c841f4", func := "figurehead/figureheadlaw19.ShapeRounds", spec := "shapeRounds", inPlace := ["internal/bytealg.IndexByteString", "internal/bytealg.IndexString", "internal/abi.NoEscape", "internal/bytealg.MakeNoZero", "internal/bytealg.CountString"], unfollowed := true, recurses := true, named := ["figurehead/ten.powers", "unicode/utf8.first", "unicode/utf8.acceptRanges", "internal/bytealg.MaxLen"], apart := false, laid := [("unicode/utf8.acceptRanges", laid_unicode_utf8_acceptRanges), ("figurehead/ten.powers", laid_figurehead_ten_powers), ("unicode/utf8.first", laid_unicode_utf8_first)] }
def ShapeRoundsSaid : Prop := shapeRoundsRow.holds Tryz.pinned (OpenSpec.ofChange shapeRoundsSpec)

/-- ITS FALSE NEIGHBOUR: 'it returns false'. Refute it at one input. -/
def shapeRoundsWrong : ChangeSpec := { name := "shapeRounds", fn := fun _ => fun
  | [d1, d2, d3] => { results := [.lit (.bool false)], args := [d1, d2, d3] }
  | _ => none }
def ShapeRoundsWrongFalsely : Prop := shapeRoundsRow.holds Tryz.pinned (OpenSpec.ofChange shapeRoundsWrong)

/-- 'figureheadlaw19.ShapeLays': WHATEVER THE INPUT: true; the input reads as it did. -/
def shapeLaysSpec : ChangeSpec := { name := "shapeLays", fn := fun _ => fun
  | [d1, d2, d3] => { results := [.lit (.bool true)], args := [d1, d2, d3] }
  | _ => none }
def shapeLaysRow : OpenClaim := { program := "ytnoeonaajefajaagreatdoor", sum := "24e13acf5806cbab4a59feef68bac87b36b9348e4076976612427bc763c841f4", func := "figurehead/figureheadlaw19.ShapeLays", spec := "shapeLays", inPlace := ["internal/bytealg.IndexByteString", "internal/bytealg.IndexString", "internal/abi.NoEscape", "internal/bytealg.MakeNoZero", "internal/bytealg.CountString"], unfollowed := true, recurses := true, named := ["figurehead/ten.powers", "unicode/utf8.first", "unicode/utf8.acceptRanges", "internal/bytealg.MaxLen"], apart := false, laid := [("unicode/utf8.acceptRanges", laid_unicode_utf8_acceptRanges), ("figurehead/ten.powers", laid_figurehead_ten_powers), ("unicode/utf8.first", laid_unicode_utf8_first)] }
def ShapeLaysSaid : Prop := shapeLaysRow.holds Tryz.pinned (OpenSpec.ofChange shapeLaysSpec)

/-- ITS FALSE NEIGHBOUR: 'it returns false'. Refute it at one input. -/
def shapeLaysWrong : ChangeSpec := { name := "shapeLays", fn := fun _ => fun
  | [d1, d2, d3] => { results := [.lit (.bool false)], args := [d1, d2, d3] }
  | _ => none }
def ShapeLaysWrongFalsely : Prop := shapeLaysRow.holds Tryz.pinned (OpenSpec.ofChange shapeLaysWrong)

/-- 'figureheadlaw19.ShapeCounts': WHATEVER THE INPUT: true; the input reads as it did. -/
def shapeCountsSpec : ChangeSpec := { name := "shapeCounts", fn := fun _ => fun
  | [d] => { results := [.lit (.bool true)], args := [d] }
  | _ => none }
def shapeCountsRow : OpenClaim := { program := "ytnoeonaajefajaagreatdoor", sum := "24e13acf5806cbab4a59feef68bac87b36b9348e4076976612427bc763c841f4", func := "figurehead/figureheadlaw19.ShapeCounts", spec := "shapeCounts", inPlace := ["internal/bytealg.IndexByteString", "internal/bytealg.IndexString", "internal/abi.NoEscape", "internal/bytealg.MakeNoZero", "internal/bytealg.CountString"], unfollowed := true, recurses := true, named := ["figurehead/ten.powers", "unicode/utf8.first", "unicode/utf8.acceptRanges", "internal/bytealg.MaxLen"], apart := false, laid := [("unicode/utf8.acceptRanges", laid_unicode_utf8_acceptRanges), ("figurehead/ten.powers", laid_figurehead_ten_powers), ("unicode/utf8.first", laid_unicode_utf8_first)] }
def ShapeCountsSaid : Prop := shapeCountsRow.holds Tryz.pinned (OpenSpec.ofChange shapeCountsSpec)

/-- ITS FALSE NEIGHBOUR: 'it returns false'. Refute it at one input. -/
def shapeCountsWrong : ChangeSpec := { name := "shapeCounts", fn := fun _ => fun
  | [d] => { results := [.lit (.bool false)], args := [d] }
  | _ => none }
def ShapeCountsWrongFalsely : Prop := shapeCountsRow.holds Tryz.pinned (OpenSpec.ofChange shapeCountsWrong)

/-- 'figureheadlaw19.ShapeValue': WHATEVER THE INPUT: true; the input reads as it did. -/
def shapeValueSpec : ChangeSpec := { name := "shapeValue", fn := fun _ => fun
  | [d1, d2, d3] => { results := [.lit (.bool true)], args := [d1, d2, d3] }
  | _ => none }
def shapeValueRow : OpenClaim := { program := "ytnoeonaajefajaagreatdoor", sum := "24e13acf5806cbab4a59feef68bac87b36b9348e4076976612427bc763c841f4", func := "figurehead/figureheadlaw19.ShapeValue", spec := "shapeValue", inPlace := ["internal/bytealg.IndexByteString", "internal/bytealg.IndexString", "internal/abi.NoEscape", "internal/bytealg.MakeNoZero", "internal/bytealg.CountString"], unfollowed := true, recurses := true, named := ["figurehead/ten.powers", "unicode/utf8.first", "unicode/utf8.acceptRanges", "internal/bytealg.MaxLen"], apart := false, laid := [("unicode/utf8.acceptRanges", laid_unicode_utf8_acceptRanges), ("figurehead/ten.powers", laid_figurehead_ten_powers), ("unicode/utf8.first", laid_unicode_utf8_first)] }
def ShapeValueSaid : Prop := shapeValueRow.holds Tryz.pinned (OpenSpec.ofChange shapeValueSpec)

/-- ITS FALSE NEIGHBOUR: 'it returns false'. Refute it at one input. -/
def shapeValueWrong : ChangeSpec := { name := "shapeValue", fn := fun _ => fun
  | [d1, d2, d3] => { results := [.lit (.bool false)], args := [d1, d2, d3] }
  | _ => none }
def ShapeValueWrongFalsely : Prop := shapeValueRow.holds Tryz.pinned (OpenSpec.ofChange shapeValueWrong)

/-- 'figureheadlaw19.ShapeAgain': WHATEVER THE INPUT: true; the input reads as it did. -/
def shapeAgainSpec : ChangeSpec := { name := "shapeAgain", fn := fun _ => fun
  | [d1, d2, d3, d4] => { results := [.lit (.bool true)], args := [d1, d2, d3, d4] }
  | _ => none }
def shapeAgainRow : OpenClaim := { program := "ytnoeonaajefajaagreatdoor", sum := "24e13acf5806cbab4a59feef68bac87b36b9348e4076976612427bc763c841f4", func := "figurehead/figureheadlaw19.ShapeAgain", spec := "shapeAgain", inPlace := ["internal/bytealg.IndexByteString", "internal/bytealg.IndexString", "internal/abi.NoEscape", "internal/bytealg.MakeNoZero", "internal/bytealg.CountString"], unfollowed := true, recurses := true, named := ["figurehead/ten.powers", "unicode/utf8.first", "unicode/utf8.acceptRanges", "internal/bytealg.MaxLen"], apart := false, laid := [("unicode/utf8.acceptRanges", laid_unicode_utf8_acceptRanges), ("figurehead/ten.powers", laid_figurehead_ten_powers), ("unicode/utf8.first", laid_unicode_utf8_first)] }
def ShapeAgainSaid : Prop := shapeAgainRow.holds Tryz.pinned (OpenSpec.ofChange shapeAgainSpec)

/-- ITS FALSE NEIGHBOUR: 'it returns false'. Refute it at one input. -/
def shapeAgainWrong : ChangeSpec := { name := "shapeAgain", fn := fun _ => fun
  | [d1, d2, d3, d4] => { results := [.lit (.bool false)], args := [d1, d2, d3, d4] }
  | _ => none }
def ShapeAgainWrongFalsely : Prop := shapeAgainRow.holds Tryz.pinned (OpenSpec.ofChange shapeAgainWrong)

/-- 'figureheadlaw19.ShapeSigned': WHATEVER THE INPUT: true; the input reads as it did. -/
def shapeSignedSpec : ChangeSpec := { name := "shapeSigned", fn := fun _ => fun
  | [d1, d2, d3] => { results := [.lit (.bool true)], args := [d1, d2, d3] }
  | _ => none }
def shapeSignedRow : OpenClaim := { program := "ytnoeonaajefajaagreatdoor", sum := "24e13acf5806cbab4a59feef68bac87b36b9348e4076976612427bc763c841f4", func := "figurehead/figureheadlaw19.ShapeSigned", spec := "shapeSigned", inPlace := ["internal/bytealg.IndexByteString", "internal/bytealg.IndexString", "internal/abi.NoEscape", "internal/bytealg.MakeNoZero", "internal/bytealg.CountString"], unfollowed := true, recurses := true, named := ["figurehead/ten.powers", "unicode/utf8.first", "unicode/utf8.acceptRanges", "internal/bytealg.MaxLen"], apart := false, laid := [("unicode/utf8.acceptRanges", laid_unicode_utf8_acceptRanges), ("figurehead/ten.powers", laid_figurehead_ten_powers), ("unicode/utf8.first", laid_unicode_utf8_first)] }
def ShapeSignedSaid : Prop := shapeSignedRow.holds Tryz.pinned (OpenSpec.ofChange shapeSignedSpec)

/-- ITS FALSE NEIGHBOUR: 'it returns false'. Refute it at one input. -/
def shapeSignedWrong : ChangeSpec := { name := "shapeSigned", fn := fun _ => fun
  | [d1, d2, d3] => { results := [.lit (.bool false)], args := [d1, d2, d3] }
  | _ => none }
def ShapeSignedWrongFalsely : Prop := shapeSignedRow.holds Tryz.pinned (OpenSpec.ofChange shapeSignedWrong)

/- THE SECOND FORM. 'bulk': how many values and letters a reading holds, each counted each time it is reached (what is shared counts as often as it is met; a slice's spare places count too). A statement '..UptoSaid' is the law's where the arguments, and the package variables that the reading takes, are together of bulk at most 1048576: NARROWER than '..Said'. Prove '..Said' where nothing that the law and all that it calls make is longer than what came in: it says more and counts as full. Else prove '..UptoSaid'. A law counts once. -/
mutual
def uptoBulk {H : Type} : DataW H → Nat
  | .lit (.string bytes) => bytes.length + 1
  | .lit _ => 1
  | .nil => 1
  | .ptr d => uptoBulk d + 1
  | .slice elems spare => uptoBulkAll elems + uptoBulkAll spare + 1
  | .agg parts => uptoBulkAll parts + 1
  | .iface _ d => uptoBulk d + 1
  | .map entries => uptoBulkEntries entries + 1
  | .held _ => 1
def uptoBulkAll {H : Type} : List (DataW H) → Nat
  | [] => 0
  | d :: r => uptoBulk d + uptoBulkAll r
def uptoBulkEntries {H : Type} : List (Lit × DataW H) → Nat
  | [] => 0
  | x :: r => uptoBulkEntry x + uptoBulkEntries r
def uptoBulkEntry {H : Type} : Lit × DataW H → Nat
  | (.string bytes, d) => bytes.length + uptoBulk d + 1
  | (_, d) => uptoBulk d + 1
 end
def uptoSmall : (H : Type) → List (DataW H) → Bool := fun _ ds => decide (uptoBulkAll ds ≤ 1048576)
def OpenSpec.upto (s : _root_.Go.ChangeSpec) : _root_.Go.OpenSpec := { _root_.Go.OpenSpec.ofChange s with cond := some uptoSmall }

/-- 'figureheadlaw17.PrintPrints', WHERE WHAT IT READS IS OF BULK AT MOST 1048576: true; the input reads as it did. -/
def printPrintsUptoRow : OpenClaim := { program := "ytnoeonaajefajaagreatdoor", sum := "24e13acf5806cbab4a59feef68bac87b36b9348e4076976612427bc763c841f4", func := "figurehead/figureheadlaw17.PrintPrints", spec := "printPrints", inPlace := ["internal/bytealg.IndexByteString", "internal/bytealg.IndexString", "internal/abi.NoEscape", "internal/bytealg.CountString", "internal/bytealg.MakeNoZero"], unfollowed := true, recurses := true, named := ["internal/bytealg.MaxLen", "unicode/utf8.first", "unicode/utf8.acceptRanges"], apart := false, laid := [("unicode/utf8.acceptRanges", laid_unicode_utf8_acceptRanges), ("unicode/utf8.first", laid_unicode_utf8_first)], narrowed := true }
def PrintPrintsUptoSaid : Prop := printPrintsUptoRow.holds Tryz.pinned (OpenSpec.upto printPrintsSpec)

/-- 'figureheadlaw17.PrintFixed', WHERE WHAT IT READS IS OF BULK AT MOST 1048576: true; the input reads as it did. -/
def printFixedUptoRow : OpenClaim := { program := "ytnoeonaajefajaagreatdoor", sum := "24e13acf5806cbab4a59feef68bac87b36b9348e4076976612427bc763c841f4", func := "figurehead/figureheadlaw17.PrintFixed", spec := "printFixed", inPlace := ["internal/bytealg.IndexByteString", "internal/bytealg.IndexString", "internal/abi.NoEscape", "internal/bytealg.CountString", "internal/bytealg.MakeNoZero"], unfollowed := true, recurses := true, named := ["internal/bytealg.MaxLen", "unicode/utf8.first", "unicode/utf8.acceptRanges"], apart := false, laid := [("unicode/utf8.acceptRanges", laid_unicode_utf8_acceptRanges), ("unicode/utf8.first", laid_unicode_utf8_first)], narrowed := true }
def PrintFixedUptoSaid : Prop := printFixedUptoRow.holds Tryz.pinned (OpenSpec.upto printFixedSpec)

/-- 'figureheadlaw17.PrintGood', WHERE WHAT IT READS IS OF BULK AT MOST 1048576: true; the input reads as it did. -/
def printGoodUptoRow : OpenClaim := { program := "ytnoeonaajefajaagreatdoor", sum := "24e13acf5806cbab4a59feef68bac87b36b9348e4076976612427bc763c841f4", func := "figurehead/figureheadlaw17.PrintGood", spec := "printGood", inPlace := ["internal/bytealg.IndexByteString", "internal/bytealg.IndexString", "internal/abi.NoEscape", "internal/bytealg.CountString", "internal/bytealg.MakeNoZero"], unfollowed := true, recurses := true, named := ["internal/bytealg.MaxLen", "unicode/utf8.first", "unicode/utf8.acceptRanges"], apart := false, laid := [("unicode/utf8.acceptRanges", laid_unicode_utf8_acceptRanges), ("unicode/utf8.first", laid_unicode_utf8_first)], narrowed := true }
def PrintGoodUptoSaid : Prop := printGoodUptoRow.holds Tryz.pinned (OpenSpec.upto printGoodSpec)

/-- 'figureheadlaw17.PrintTurned', WHERE WHAT IT READS IS OF BULK AT MOST 1048576: true; the input reads as it did. -/
def printTurnedUptoRow : OpenClaim := { program := "ytnoeonaajefajaagreatdoor", sum := "24e13acf5806cbab4a59feef68bac87b36b9348e4076976612427bc763c841f4", func := "figurehead/figureheadlaw17.PrintTurned", spec := "printTurned", inPlace := ["internal/bytealg.IndexByteString", "internal/bytealg.IndexString", "internal/abi.NoEscape", "internal/bytealg.CountString", "internal/bytealg.MakeNoZero"], unfollowed := true, recurses := true, named := ["internal/bytealg.MaxLen", "unicode/utf8.first", "unicode/utf8.acceptRanges"], apart := false, laid := [("unicode/utf8.acceptRanges", laid_unicode_utf8_acceptRanges), ("unicode/utf8.first", laid_unicode_utf8_first)], narrowed := true }
def PrintTurnedUptoSaid : Prop := printTurnedUptoRow.holds Tryz.pinned (OpenSpec.upto printTurnedSpec)

/-- 'figureheadlaw17.PrintShort', WHERE WHAT IT READS IS OF BULK AT MOST 1048576: true; the input reads as it did. -/
def printShortUptoRow : OpenClaim := { program := "ytnoeonaajefajaagreatdoor", sum := "24e13acf5806cbab4a59feef68bac87b36b9348e4076976612427bc763c841f4", func := "figurehead/figureheadlaw17.PrintShort", spec := "printShort", inPlace := ["internal/bytealg.IndexByteString", "internal/bytealg.IndexString", "internal/abi.NoEscape", "internal/bytealg.CountString", "internal/bytealg.MakeNoZero"], unfollowed := true, recurses := true, named := ["internal/bytealg.MaxLen", "unicode/utf8.first", "unicode/utf8.acceptRanges"], apart := false, laid := [("unicode/utf8.acceptRanges", laid_unicode_utf8_acceptRanges), ("unicode/utf8.first", laid_unicode_utf8_first)], narrowed := true }
def PrintShortUptoSaid : Prop := printShortUptoRow.holds Tryz.pinned (OpenSpec.upto printShortSpec)

/-- 'figureheadlaw19.ShapeRounds', WHERE WHAT IT READS IS OF BULK AT MOST 1048576: true; the input reads as it did. -/
def shapeRoundsUptoRow : OpenClaim := { program := "ytnoeonaajefajaagreatdoor", sum := "24e13acf5806cbab4a59feef68bac87b36b9348e4076976612427bc763c841f4", func := "figurehead/figureheadlaw19.ShapeRounds", spec := "shapeRounds", inPlace := ["internal/bytealg.IndexByteString", "internal/bytealg.IndexString", "internal/abi.NoEscape", "internal/bytealg.MakeNoZero", "internal/bytealg.CountString"], unfollowed := true, recurses := true, named := ["figurehead/ten.powers", "unicode/utf8.first", "unicode/utf8.acceptRanges", "internal/bytealg.MaxLen"], apart := false, laid := [("unicode/utf8.acceptRanges", laid_unicode_utf8_acceptRanges), ("figurehead/ten.powers", laid_figurehead_ten_powers), ("unicode/utf8.first", laid_unicode_utf8_first)], narrowed := true }
def ShapeRoundsUptoSaid : Prop := shapeRoundsUptoRow.holds Tryz.pinned (OpenSpec.upto shapeRoundsSpec)

/-- 'figureheadlaw19.ShapeLays', WHERE WHAT IT READS IS OF BULK AT MOST 1048576: true; the input reads as it did. -/
def shapeLaysUptoRow : OpenClaim := { program := "ytnoeonaajefajaagreatdoor", sum := "24e13acf5806cbab4a59feef68bac87b36b9348e4076976612427bc763c841f4", func := "figurehead/figureheadlaw19.ShapeLays", spec := "shapeLays", inPlace := ["internal/bytealg.IndexByteString", "internal/bytealg.IndexString", "internal/abi.NoEscape", "internal/bytealg.MakeNoZero", "internal/bytealg.CountString"], unfollowed := true, recurses := true, named := ["figurehead/ten.powers", "unicode/utf8.first", "unicode/utf8.acceptRanges", "internal/bytealg.MaxLen"], apart := false, laid := [("unicode/utf8.acceptRanges", laid_unicode_utf8_acceptRanges), ("figurehead/ten.powers", laid_figurehead_ten_powers), ("unicode/utf8.first", laid_unicode_utf8_first)], narrowed := true }
def ShapeLaysUptoSaid : Prop := shapeLaysUptoRow.holds Tryz.pinned (OpenSpec.upto shapeLaysSpec)

/-- 'figureheadlaw19.ShapeCounts', WHERE WHAT IT READS IS OF BULK AT MOST 1048576: true; the input reads as it did. -/
def shapeCountsUptoRow : OpenClaim := { program := "ytnoeonaajefajaagreatdoor", sum := "24e13acf5806cbab4a59feef68bac87b36b9348e4076976612427bc763c841f4", func := "figurehead/figureheadlaw19.ShapeCounts", spec := "shapeCounts", inPlace := ["internal/bytealg.IndexByteString", "internal/bytealg.IndexString", "internal/abi.NoEscape", "internal/bytealg.MakeNoZero", "internal/bytealg.CountString"], unfollowed := true, recurses := true, named := ["figurehead/ten.powers", "unicode/utf8.first", "unicode/utf8.acceptRanges", "internal/bytealg.MaxLen"], apart := false, laid := [("unicode/utf8.acceptRanges", laid_unicode_utf8_acceptRanges), ("figurehead/ten.powers", laid_figurehead_ten_powers), ("unicode/utf8.first", laid_unicode_utf8_first)], narrowed := true }
def ShapeCountsUptoSaid : Prop := shapeCountsUptoRow.holds Tryz.pinned (OpenSpec.upto shapeCountsSpec)

/-- 'figureheadlaw19.ShapeValue', WHERE WHAT IT READS IS OF BULK AT MOST 1048576: true; the input reads as it did. -/
def shapeValueUptoRow : OpenClaim := { program := "ytnoeonaajefajaagreatdoor", sum := "24e13acf5806cbab4a59feef68bac87b36b9348e4076976612427bc763c841f4", func := "figurehead/figureheadlaw19.ShapeValue", spec := "shapeValue", inPlace := ["internal/bytealg.IndexByteString", "internal/bytealg.IndexString", "internal/abi.NoEscape", "internal/bytealg.MakeNoZero", "internal/bytealg.CountString"], unfollowed := true, recurses := true, named := ["figurehead/ten.powers", "unicode/utf8.first", "unicode/utf8.acceptRanges", "internal/bytealg.MaxLen"], apart := false, laid := [("unicode/utf8.acceptRanges", laid_unicode_utf8_acceptRanges), ("figurehead/ten.powers", laid_figurehead_ten_powers), ("unicode/utf8.first", laid_unicode_utf8_first)], narrowed := true }
def ShapeValueUptoSaid : Prop := shapeValueUptoRow.holds Tryz.pinned (OpenSpec.upto shapeValueSpec)

/-- 'figureheadlaw19.ShapeAgain', WHERE WHAT IT READS IS OF BULK AT MOST 1048576: true; the input reads as it did. -/
def shapeAgainUptoRow : OpenClaim := { program := "ytnoeonaajefajaagreatdoor", sum := "24e13acf5806cbab4a59feef68bac87b36b9348e4076976612427bc763c841f4", func := "figurehead/figureheadlaw19.ShapeAgain", spec := "shapeAgain", inPlace := ["internal/bytealg.IndexByteString", "internal/bytealg.IndexString", "internal/abi.NoEscape", "internal/bytealg.MakeNoZero", "internal/bytealg.CountString"], unfollowed := true, recurses := true, named := ["figurehead/ten.powers", "unicode/utf8.first", "unicode/utf8.acceptRanges", "internal/bytealg.MaxLen"], apart := false, laid := [("unicode/utf8.acceptRanges", laid_unicode_utf8_acceptRanges), ("figurehead/ten.powers", laid_figurehead_ten_powers), ("unicode/utf8.first", laid_unicode_utf8_first)], narrowed := true }
def ShapeAgainUptoSaid : Prop := shapeAgainUptoRow.holds Tryz.pinned (OpenSpec.upto shapeAgainSpec)

/-- 'figureheadlaw19.ShapeSigned', WHERE WHAT IT READS IS OF BULK AT MOST 1048576: true; the input reads as it did. -/
def shapeSignedUptoRow : OpenClaim := { program := "ytnoeonaajefajaagreatdoor", sum := "24e13acf5806cbab4a59feef68bac87b36b9348e4076976612427bc763c841f4", func := "figurehead/figureheadlaw19.ShapeSigned", spec := "shapeSigned", inPlace := ["internal/bytealg.IndexByteString", "internal/bytealg.IndexString", "internal/abi.NoEscape", "internal/bytealg.MakeNoZero", "internal/bytealg.CountString"], unfollowed := true, recurses := true, named := ["figurehead/ten.powers", "unicode/utf8.first", "unicode/utf8.acceptRanges", "internal/bytealg.MaxLen"], apart := false, laid := [("unicode/utf8.acceptRanges", laid_unicode_utf8_acceptRanges), ("figurehead/ten.powers", laid_figurehead_ten_powers), ("unicode/utf8.first", laid_unicode_utf8_first)], narrowed := true }
def ShapeSignedUptoSaid : Prop := shapeSignedUptoRow.holds Tryz.pinned (OpenSpec.upto shapeSignedSpec)

end Rows
end Go.Proofs.YtnoeonaajefajaaGreatDoor
