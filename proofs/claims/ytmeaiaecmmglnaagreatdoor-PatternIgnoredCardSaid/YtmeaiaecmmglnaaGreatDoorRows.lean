/-
  NARROWER THAN 'FOR EVERY INPUT', by the rows' own cells (each row's printed sentence says how): PatternCompiles: laid · PatternNegs: laid · PatternIgnored: laid · PatternPads: laid.
  DERIVED. THE GIVEN ROWS OF THIS SEAT. 4 by the template 'for every input the law returns true; each argument reads behind the call as it read before'; 0 by the template 'total and deterministic' (their statements: YtmeaiaecmmglnaaGreatDoorTotals.lean).
  GIVEN WITH THE SEED: the statements are not yours to turn. If you find one false, say at which input.
  Laid BY PROGRAM, IN A SANDBOX (cutbox-rows.mjs): the forced cells as the released guide's own fill.sh prints them over the translation 3ca216a210d0131d… (all of the seat's roots in one cut). By AI agents, Wed Nov 11 2026. No macro, syntax, notation, axiom, sorry.
-/
import Derived.Test.YtmeaiaecmmglnaaGreatDoorChecked
import GoSem.PinnedTables
import GoSem.Claim
import GoSem.ClaimJoined
import GoSem.ClaimMapViews
import Derived.JoinedTies
import Derived.KernelRfl
namespace Go.Proofs.YtmeaiaecmmglnaaGreatDoor
/- THE CELL 'sum', in the pinned program and in every row, IS THE sha256 OF THE DUMP (.gsa) THAT YtmeaiaecmmglnaaGreatDoorProg.lean LOADS. Nothing in Lean hashes anything: it is a label: what it is worth is what the hold of that sum in a sandbox is worth. -/
noncomputable def Tryz.pinned : Pinned := { name := "ytmeaiaecmmglnaagreatdoor", sum := "3ca216a210d0131dea7af479e039936a162f506200a87792815306a2ff1b0859", checked := Tryz.checked }
namespace Rows
def none {H : Type} : Left H := { results := [], args := [] }

/- WHAT THE LISTED PACKAGE-LEVEL VARIABLES READ AS WHEN THE CALL BEGINS. Each datum BY PROGRAM (the guide's laid-datum.mjs) off the statement by which the dump's own 'gosem.cut.vars' lays the variable. In a bare row this is a premise. The card (YtmeaiaecmmglnaaGreatDoorCards.lean) ties it to the program's text. -/
def laid_unicode_utf8_acceptRanges {H : Type} : DataW H := .agg [.agg [.lit (.int .u8 128), .lit (.int .u8 191)], .agg [.lit (.int .u8 160), .lit (.int .u8 191)], .agg [.lit (.int .u8 128), .lit (.int .u8 159)], .agg [.lit (.int .u8 144), .lit (.int .u8 191)], .agg [.lit (.int .u8 128), .lit (.int .u8 143)], .agg [.lit (.int .u8 0), .lit (.int .u8 0)], .agg [.lit (.int .u8 0), .lit (.int .u8 0)], .agg [.lit (.int .u8 0), .lit (.int .u8 0)], .agg [.lit (.int .u8 0), .lit (.int .u8 0)], .agg [.lit (.int .u8 0), .lit (.int .u8 0)], .agg [.lit (.int .u8 0), .lit (.int .u8 0)], .agg [.lit (.int .u8 0), .lit (.int .u8 0)], .agg [.lit (.int .u8 0), .lit (.int .u8 0)], .agg [.lit (.int .u8 0), .lit (.int .u8 0)], .agg [.lit (.int .u8 0), .lit (.int .u8 0)], .agg [.lit (.int .u8 0), .lit (.int .u8 0)]]
/-- One of Go's own tables, pinned by name: the form's constant. -/
def laid_unicode_utf8_first : DataW Unit := Go.Pinned.utf8First

/-- 'figureheadlaw16.PatternCompiles': WHATEVER THE INPUT: true; the input reads as it did. -/
def patternCompilesSpec : ChangeSpec := { name := "patternCompiles", fn := fun _ => fun
  | [d] => { results := [.lit (.bool true)], args := [d] }
  | _ => none }
def patternCompilesRow : OpenClaim := { program := "ytmeaiaecmmglnaagreatdoor", sum := "3ca216a210d0131dea7af479e039936a162f506200a87792815306a2ff1b0859", func := "figurehead/figureheadlaw16.PatternCompiles", spec := "patternCompiles", inPlace := ["internal/bytealg.IndexByteString", "internal/bytealg.IndexString", "internal/abi.NoEscape", "internal/bytealg.CountString", "internal/bytealg.MakeNoZero"], unfollowed := true, recurses := true, named := ["internal/bytealg.MaxLen", "unicode/utf8.first", "unicode/utf8.acceptRanges"], apart := false, laid := [("unicode/utf8.acceptRanges", laid_unicode_utf8_acceptRanges), ("unicode/utf8.first", laid_unicode_utf8_first)] }
def PatternCompilesSaid : Prop := patternCompilesRow.holds Tryz.pinned (OpenSpec.ofChange patternCompilesSpec)

/-- ITS FALSE NEIGHBOUR: 'it returns false'. Refute it at one input. -/
def patternCompilesWrong : ChangeSpec := { name := "patternCompiles", fn := fun _ => fun
  | [d] => { results := [.lit (.bool false)], args := [d] }
  | _ => none }
def PatternCompilesWrongFalsely : Prop := patternCompilesRow.holds Tryz.pinned (OpenSpec.ofChange patternCompilesWrong)

/-- 'figureheadlaw16.PatternNegs': WHATEVER THE INPUT: true; the input reads as it did. -/
def patternNegsSpec : ChangeSpec := { name := "patternNegs", fn := fun _ => fun
  | [d1, d2, d3] => { results := [.lit (.bool true)], args := [d1, d2, d3] }
  | _ => none }
def patternNegsRow : OpenClaim := { program := "ytmeaiaecmmglnaagreatdoor", sum := "3ca216a210d0131dea7af479e039936a162f506200a87792815306a2ff1b0859", func := "figurehead/figureheadlaw16.PatternNegs", spec := "patternNegs", inPlace := ["internal/bytealg.IndexByteString", "internal/bytealg.IndexString", "internal/abi.NoEscape", "internal/bytealg.CountString", "internal/bytealg.MakeNoZero"], unfollowed := true, recurses := true, named := ["internal/bytealg.MaxLen", "unicode/utf8.first", "unicode/utf8.acceptRanges"], apart := false, laid := [("unicode/utf8.acceptRanges", laid_unicode_utf8_acceptRanges), ("unicode/utf8.first", laid_unicode_utf8_first)] }
def PatternNegsSaid : Prop := patternNegsRow.holds Tryz.pinned (OpenSpec.ofChange patternNegsSpec)

/-- ITS FALSE NEIGHBOUR: 'it returns false'. Refute it at one input. -/
def patternNegsWrong : ChangeSpec := { name := "patternNegs", fn := fun _ => fun
  | [d1, d2, d3] => { results := [.lit (.bool false)], args := [d1, d2, d3] }
  | _ => none }
def PatternNegsWrongFalsely : Prop := patternNegsRow.holds Tryz.pinned (OpenSpec.ofChange patternNegsWrong)

/-- 'figureheadlaw16.PatternIgnored': WHATEVER THE INPUT: true; the input reads as it did. -/
def patternIgnoredSpec : ChangeSpec := { name := "patternIgnored", fn := fun _ => fun
  | [d1, d2, d3, d4] => { results := [.lit (.bool true)], args := [d1, d2, d3, d4] }
  | _ => none }
def patternIgnoredRow : OpenClaim := { program := "ytmeaiaecmmglnaagreatdoor", sum := "3ca216a210d0131dea7af479e039936a162f506200a87792815306a2ff1b0859", func := "figurehead/figureheadlaw16.PatternIgnored", spec := "patternIgnored", inPlace := ["internal/bytealg.IndexByteString", "internal/bytealg.IndexString", "internal/abi.NoEscape", "internal/bytealg.CountString", "internal/bytealg.MakeNoZero"], unfollowed := true, recurses := true, named := ["internal/bytealg.MaxLen", "unicode/utf8.first", "unicode/utf8.acceptRanges"], apart := false, laid := [("unicode/utf8.acceptRanges", laid_unicode_utf8_acceptRanges), ("unicode/utf8.first", laid_unicode_utf8_first)] }
def PatternIgnoredSaid : Prop := patternIgnoredRow.holds Tryz.pinned (OpenSpec.ofChange patternIgnoredSpec)

/-- ITS FALSE NEIGHBOUR: 'it returns false'. Refute it at one input. -/
def patternIgnoredWrong : ChangeSpec := { name := "patternIgnored", fn := fun _ => fun
  | [d1, d2, d3, d4] => { results := [.lit (.bool false)], args := [d1, d2, d3, d4] }
  | _ => none }
def PatternIgnoredWrongFalsely : Prop := patternIgnoredRow.holds Tryz.pinned (OpenSpec.ofChange patternIgnoredWrong)

/-- 'figureheadlaw16.PatternPads': WHATEVER THE INPUT: true; the input reads as it did. -/
def patternPadsSpec : ChangeSpec := { name := "patternPads", fn := fun _ => fun
  | [d1, d2, d3, d4] => { results := [.lit (.bool true)], args := [d1, d2, d3, d4] }
  | _ => none }
def patternPadsRow : OpenClaim := { program := "ytmeaiaecmmglnaagreatdoor", sum := "3ca216a210d0131dea7af479e039936a162f506200a87792815306a2ff1b0859", func := "figurehead/figureheadlaw16.PatternPads", spec := "patternPads", inPlace := ["internal/bytealg.IndexByteString", "internal/bytealg.IndexString", "internal/abi.NoEscape", "internal/bytealg.CountString", "internal/bytealg.MakeNoZero"], unfollowed := true, recurses := true, named := ["internal/bytealg.MaxLen", "unicode/utf8.first", "unicode/utf8.acceptRanges"], apart := false, laid := [("unicode/utf8.acceptRanges", laid_unicode_utf8_acceptRanges), ("unicode/utf8.first", laid_unicode_utf8_first)] }
def PatternPadsSaid : Prop := patternPadsRow.holds Tryz.pinned (OpenSpec.ofChange patternPadsSpec)

/-- ITS FALSE NEIGHBOUR: 'it returns false'. Refute it at one input. -/
def patternPadsWrong : ChangeSpec := { name := "patternPads", fn := fun _ => fun
  | [d1, d2, d3, d4] => { results := [.lit (.bool false)], args := [d1, d2, d3, d4] }
  | _ => none }
def PatternPadsWrongFalsely : Prop := patternPadsRow.holds Tryz.pinned (OpenSpec.ofChange patternPadsWrong)

/- THE SECOND FORM. 'bulk': how many values and letters a reading holds, each counted each time it is reached (what is shared counts as often as it is met; a slice's spare places count too). A statement '..UptoSaid' is the law's where the arguments, and the package variables that the reading takes, are together of bulk at most 1048576: NARROWER than '..Said'. Prove '..Said' where nothing that the law and all that it calls make is longer than what came in: it says more and counts as full. Else prove '..UptoSaid'. A law counts once. -/
mutual
def uptoBulk {H : Type} : DataW H → Nat
  | .lit (.string bytes) => bytes.length + 1
  | .lit _ => 1
  | .nil => 1
  | .ptr d => uptoBulk d + 1
  | .slice elems spare => uptoBulkAll elems + uptoBulkAll spare + 1
  | .agg parts => uptoBulkAll parts + 1
  | .iface _ d => uptoBulk d + 1
  | .map entries => uptoBulkEntries entries + 1
  | .held _ => 1
def uptoBulkAll {H : Type} : List (DataW H) → Nat
  | [] => 0
  | d :: r => uptoBulk d + uptoBulkAll r
def uptoBulkEntries {H : Type} : List (Lit × DataW H) → Nat
  | [] => 0
  | x :: r => uptoBulkEntry x + uptoBulkEntries r
def uptoBulkEntry {H : Type} : Lit × DataW H → Nat
  | (.string bytes, d) => bytes.length + uptoBulk d + 1
  | (_, d) => uptoBulk d + 1
 end
def uptoSmall : (H : Type) → List (DataW H) → Bool := fun _ ds => decide (uptoBulkAll ds ≤ 1048576)
def OpenSpec.upto (s : _root_.Go.ChangeSpec) : _root_.Go.OpenSpec := { _root_.Go.OpenSpec.ofChange s with cond := some uptoSmall }

/-- 'figureheadlaw16.PatternCompiles', WHERE WHAT IT READS IS OF BULK AT MOST 1048576: true; the input reads as it did. -/
def patternCompilesUptoRow : OpenClaim := { program := "ytmeaiaecmmglnaagreatdoor", sum := "3ca216a210d0131dea7af479e039936a162f506200a87792815306a2ff1b0859", func := "figurehead/figureheadlaw16.PatternCompiles", spec := "patternCompiles", inPlace := ["internal/bytealg.IndexByteString", "internal/bytealg.IndexString", "internal/abi.NoEscape", "internal/bytealg.CountString", "internal/bytealg.MakeNoZero"], unfollowed := true, recurses := true, named := ["internal/bytealg.MaxLen", "unicode/utf8.first", "unicode/utf8.acceptRanges"], apart := false, laid := [("unicode/utf8.acceptRanges", laid_unicode_utf8_acceptRanges), ("unicode/utf8.first", laid_unicode_utf8_first)], narrowed := true }
def PatternCompilesUptoSaid : Prop := patternCompilesUptoRow.holds Tryz.pinned (OpenSpec.upto patternCompilesSpec)

/-- 'figureheadlaw16.PatternNegs', WHERE WHAT IT READS IS OF BULK AT MOST 1048576: true; the input reads as it did. -/
def patternNegsUptoRow : OpenClaim := { program := "ytmeaiaecmmglnaagreatdoor", sum := "3ca216a210d0131dea7af479e039936a162f506200a87792815306a2ff1b0859", func := "figurehead/figureheadlaw16.PatternNegs", spec := "patternNegs", inPlace := ["internal/bytealg.IndexByteString", "internal/bytealg.IndexString", "internal/abi.NoEscape", "internal/bytealg.CountString", "internal/bytealg.MakeNoZero"], unfollowed := true, recurses := true, named := ["internal/bytealg.MaxLen", "unicode/utf8.first", "unicode/utf8.acceptRanges"], apart := false, laid := [("unicode/utf8.acceptRanges", laid_unicode_utf8_acceptRanges), ("unicode/utf8.first", laid_unicode_utf8_first)], narrowed := true }
def PatternNegsUptoSaid : Prop := patternNegsUptoRow.holds Tryz.pinned (OpenSpec.upto patternNegsSpec)

/-- 'figureheadlaw16.PatternIgnored', WHERE WHAT IT READS IS OF BULK AT MOST 1048576: true; the input reads as it did. -/
def patternIgnoredUptoRow : OpenClaim := { program := "ytmeaiaecmmglnaagreatdoor", sum := "3ca216a210d0131dea7af479e039936a162f506200a87792815306a2ff1b0859", func := "figurehead/figureheadlaw16.PatternIgnored", spec := "patternIgnored", inPlace := ["internal/bytealg.IndexByteString", "internal/bytealg.IndexString", "internal/abi.NoEscape", "internal/bytealg.CountString", "internal/bytealg.MakeNoZero"], unfollowed := true, recurses := true, named := ["internal/bytealg.MaxLen", "unicode/utf8.first", "unicode/utf8.acceptRanges"], apart := false, laid := [("unicode/utf8.acceptRanges", laid_unicode_utf8_acceptRanges), ("unicode/utf8.first", laid_unicode_utf8_first)], narrowed := true }
def PatternIgnoredUptoSaid : Prop := patternIgnoredUptoRow.holds Tryz.pinned (OpenSpec.upto patternIgnoredSpec)

/-- 'figureheadlaw16.PatternPads', WHERE WHAT IT READS IS OF BULK AT MOST 1048576: true; the input reads as it did. -/
def patternPadsUptoRow : OpenClaim := { program := "ytmeaiaecmmglnaagreatdoor", sum := "3ca216a210d0131dea7af479e039936a162f506200a87792815306a2ff1b0859", func := "figurehead/figureheadlaw16.PatternPads", spec := "patternPads", inPlace := ["internal/bytealg.IndexByteString", "internal/bytealg.IndexString", "internal/abi.NoEscape", "internal/bytealg.CountString", "internal/bytealg.MakeNoZero"], unfollowed := true, recurses := true, named := ["internal/bytealg.MaxLen", "unicode/utf8.first", "unicode/utf8.acceptRanges"], apart := false, laid := [("unicode/utf8.acceptRanges", laid_unicode_utf8_acceptRanges), ("unicode/utf8.first", laid_unicode_utf8_first)], narrowed := true }
def PatternPadsUptoSaid : Prop := patternPadsUptoRow.holds Tryz.pinned (OpenSpec.upto patternPadsSpec)

end Rows
end Go.Proofs.YtmeaiaecmmglnaaGreatDoor
