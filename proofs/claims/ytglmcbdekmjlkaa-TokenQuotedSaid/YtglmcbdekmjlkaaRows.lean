/-
  No cell of these rows narrows 'for every input' (looked for: loops, veiled, ifaces, maps, wideKeys, modest, calm, conditions, laid).
  DERIVED. THE GIVEN ROWS OF THIS SEAT. 5 by the template 'for every input the law returns true; each argument reads behind the call as it read before'; 0 by the template 'total and deterministic' (their statements: YtglmcbdekmjlkaaTotals.lean).
  GIVEN WITH THE SEED: the statements are not yours to turn. If you find one false, say at which input.
  Laid BY PROGRAM, IN A SANDBOX (cutbox-rows.mjs): the forced cells as the released guide's own fill.sh prints them over the translation 84d09b2e1325670c… (all of the seat's roots in one cut). By AI agents, Wed Nov 11 2026. No macro, syntax, notation, axiom, sorry.
-/
import Derived.Test.YtglmcbdekmjlkaaChecked
import GoSem.Claim
import GoSem.ClaimJoined
import GoSem.ClaimMapViews
import Derived.JoinedTies
import Derived.KernelRfl
namespace Go.Proofs.Ytglmcbdekmjlkaa
/- THE CELL 'sum', in the pinned program and in every row, IS THE sha256 OF THE DUMP (.gsa) THAT YtglmcbdekmjlkaaProg.lean LOADS. Nothing in Lean hashes anything: it is a label: what it is worth is what the hold of that sum in a sandbox is worth. -/
noncomputable def Try.pinned : Pinned := { name := "ytglmcbdekmjlkaa", sum := "84d09b2e1325670c60af76cffd7de8665b9f88f396829b645e022bca09d64749", checked := Try.checked }
namespace Rows
def none {H : Type} : Left H := { results := [], args := [] }

/-- 'figureheadlaw13.TokenScans': WHATEVER THE INPUT: true; the input reads as it did. -/
def tokenScansSpec : ChangeSpec := { name := "tokenScans", fn := fun _ => fun
  | [d] => { results := [.lit (.bool true)], args := [d] }
  | _ => none }
def tokenScansRow : OpenClaim := { program := "ytglmcbdekmjlkaa", sum := "84d09b2e1325670c60af76cffd7de8665b9f88f396829b645e022bca09d64749", func := "figurehead/figureheadlaw13.TokenScans", spec := "tokenScans", unfollowed := true, recurses := true, apart := false }
def TokenScansSaid : Prop := tokenScansRow.holds Try.pinned (OpenSpec.ofChange tokenScansSpec)

/-- ITS FALSE NEIGHBOUR: 'it returns false'. Refute it at one input. -/
def tokenScansWrong : ChangeSpec := { name := "tokenScans", fn := fun _ => fun
  | [d] => { results := [.lit (.bool false)], args := [d] }
  | _ => none }
def TokenScansWrongFalsely : Prop := tokenScansRow.holds Try.pinned (OpenSpec.ofChange tokenScansWrong)

/-- 'figureheadlaw13.TokenPrints': WHATEVER THE INPUT: true; the input reads as it did. -/
def tokenPrintsSpec : ChangeSpec := { name := "tokenPrints", fn := fun _ => fun
  | [d] => { results := [.lit (.bool true)], args := [d] }
  | _ => none }
def tokenPrintsRow : OpenClaim := { program := "ytglmcbdekmjlkaa", sum := "84d09b2e1325670c60af76cffd7de8665b9f88f396829b645e022bca09d64749", func := "figurehead/figureheadlaw13.TokenPrints", spec := "tokenPrints", unfollowed := true, recurses := true, apart := false }
def TokenPrintsSaid : Prop := tokenPrintsRow.holds Try.pinned (OpenSpec.ofChange tokenPrintsSpec)

/-- ITS FALSE NEIGHBOUR: 'it returns false'. Refute it at one input. -/
def tokenPrintsWrong : ChangeSpec := { name := "tokenPrints", fn := fun _ => fun
  | [d] => { results := [.lit (.bool false)], args := [d] }
  | _ => none }
def TokenPrintsWrongFalsely : Prop := tokenPrintsRow.holds Try.pinned (OpenSpec.ofChange tokenPrintsWrong)

/-- 'figureheadlaw13.TokenFixed': WHATEVER THE INPUT: true; the input reads as it did. -/
def tokenFixedSpec : ChangeSpec := { name := "tokenFixed", fn := fun _ => fun
  | [d] => { results := [.lit (.bool true)], args := [d] }
  | _ => none }
def tokenFixedRow : OpenClaim := { program := "ytglmcbdekmjlkaa", sum := "84d09b2e1325670c60af76cffd7de8665b9f88f396829b645e022bca09d64749", func := "figurehead/figureheadlaw13.TokenFixed", spec := "tokenFixed", unfollowed := true, recurses := true, apart := false }
def TokenFixedSaid : Prop := tokenFixedRow.holds Try.pinned (OpenSpec.ofChange tokenFixedSpec)

/-- ITS FALSE NEIGHBOUR: 'it returns false'. Refute it at one input. -/
def tokenFixedWrong : ChangeSpec := { name := "tokenFixed", fn := fun _ => fun
  | [d] => { results := [.lit (.bool false)], args := [d] }
  | _ => none }
def TokenFixedWrongFalsely : Prop := tokenFixedRow.holds Try.pinned (OpenSpec.ofChange tokenFixedWrong)

/-- 'figureheadlaw13.TokenQuoted': WHATEVER THE INPUT: true; the input reads as it did. -/
def tokenQuotedSpec : ChangeSpec := { name := "tokenQuoted", fn := fun _ => fun
  | [d] => { results := [.lit (.bool true)], args := [d] }
  | _ => none }
def tokenQuotedRow : OpenClaim := { program := "ytglmcbdekmjlkaa", sum := "84d09b2e1325670c60af76cffd7de8665b9f88f396829b645e022bca09d64749", func := "figurehead/figureheadlaw13.TokenQuoted", spec := "tokenQuoted", unfollowed := true, recurses := true, apart := false }
def TokenQuotedSaid : Prop := tokenQuotedRow.holds Try.pinned (OpenSpec.ofChange tokenQuotedSpec)

/-- ITS FALSE NEIGHBOUR: 'it returns false'. Refute it at one input. -/
def tokenQuotedWrong : ChangeSpec := { name := "tokenQuoted", fn := fun _ => fun
  | [d] => { results := [.lit (.bool false)], args := [d] }
  | _ => none }
def TokenQuotedWrongFalsely : Prop := tokenQuotedRow.holds Try.pinned (OpenSpec.ofChange tokenQuotedWrong)

/-- 'figureheadlaw13.TokenPlain': WHATEVER THE INPUT: true; the input reads as it did. -/
def tokenPlainSpec : ChangeSpec := { name := "tokenPlain", fn := fun _ => fun
  | [d] => { results := [.lit (.bool true)], args := [d] }
  | _ => none }
def tokenPlainRow : OpenClaim := { program := "ytglmcbdekmjlkaa", sum := "84d09b2e1325670c60af76cffd7de8665b9f88f396829b645e022bca09d64749", func := "figurehead/figureheadlaw13.TokenPlain", spec := "tokenPlain", unfollowed := true, recurses := true, apart := false }
def TokenPlainSaid : Prop := tokenPlainRow.holds Try.pinned (OpenSpec.ofChange tokenPlainSpec)

/-- ITS FALSE NEIGHBOUR: 'it returns false'. Refute it at one input. -/
def tokenPlainWrong : ChangeSpec := { name := "tokenPlain", fn := fun _ => fun
  | [d] => { results := [.lit (.bool false)], args := [d] }
  | _ => none }
def TokenPlainWrongFalsely : Prop := tokenPlainRow.holds Try.pinned (OpenSpec.ofChange tokenPlainWrong)

/- THE SECOND FORM. 'bulk': how many values and letters a reading holds, each counted each time it is reached (what is shared counts as often as it is met; a slice's spare places count too). A statement '..UptoSaid' is the law's where the arguments, and the package variables that the reading takes, are together of bulk at most 1048576: NARROWER than '..Said'. Prove '..Said' where nothing that the law and all that it calls make is longer than what came in: it says more and counts as full. Else prove '..UptoSaid'. A law counts once. -/
mutual
def uptoBulk {H : Type} : DataW H → Nat
  | .lit (.string bytes) => bytes.length + 1
  | .lit _ => 1
  | .nil => 1
  | .ptr d => uptoBulk d + 1
  | .slice elems spare => uptoBulkAll elems + uptoBulkAll spare + 1
  | .agg parts => uptoBulkAll parts + 1
  | .iface _ d => uptoBulk d + 1
  | .map entries => uptoBulkEntries entries + 1
  | .held _ => 1
def uptoBulkAll {H : Type} : List (DataW H) → Nat
  | [] => 0
  | d :: r => uptoBulk d + uptoBulkAll r
def uptoBulkEntries {H : Type} : List (Lit × DataW H) → Nat
  | [] => 0
  | x :: r => uptoBulkEntry x + uptoBulkEntries r
def uptoBulkEntry {H : Type} : Lit × DataW H → Nat
  | (.string bytes, d) => bytes.length + uptoBulk d + 1
  | (_, d) => uptoBulk d + 1
 end
def uptoSmall : (H : Type) → List (DataW H) → Bool := fun _ ds => decide (uptoBulkAll ds ≤ 1048576)
def OpenSpec.upto (s : _root_.Go.ChangeSpec) : _root_.Go.OpenSpec := { _root_.Go.OpenSpec.ofChange s with cond := some uptoSmall }

/-- 'figureheadlaw13.TokenScans', WHERE WHAT IT READS IS OF BULK AT MOST 1048576: true; the input reads as it did. -/
def tokenScansUptoRow : OpenClaim := { program := "ytglmcbdekmjlkaa", sum := "84d09b2e1325670c60af76cffd7de8665b9f88f396829b645e022bca09d64749", func := "figurehead/figureheadlaw13.TokenScans", spec := "tokenScans", unfollowed := true, recurses := true, apart := false, narrowed := true }
def TokenScansUptoSaid : Prop := tokenScansUptoRow.holds Try.pinned (OpenSpec.upto tokenScansSpec)

/-- 'figureheadlaw13.TokenPrints', WHERE WHAT IT READS IS OF BULK AT MOST 1048576: true; the input reads as it did. -/
def tokenPrintsUptoRow : OpenClaim := { program := "ytglmcbdekmjlkaa", sum := "84d09b2e1325670c60af76cffd7de8665b9f88f396829b645e022bca09d64749", func := "figurehead/figureheadlaw13.TokenPrints", spec := "tokenPrints", unfollowed := true, recurses := true, apart := false, narrowed := true }
def TokenPrintsUptoSaid : Prop := tokenPrintsUptoRow.holds Try.pinned (OpenSpec.upto tokenPrintsSpec)

/-- 'figureheadlaw13.TokenFixed', WHERE WHAT IT READS IS OF BULK AT MOST 1048576: true; the input reads as it did. -/
def tokenFixedUptoRow : OpenClaim := { program := "ytglmcbdekmjlkaa", sum := "84d09b2e1325670c60af76cffd7de8665b9f88f396829b645e022bca09d64749", func := "figurehead/figureheadlaw13.TokenFixed", spec := "tokenFixed", unfollowed := true, recurses := true, apart := false, narrowed := true }
def TokenFixedUptoSaid : Prop := tokenFixedUptoRow.holds Try.pinned (OpenSpec.upto tokenFixedSpec)

/-- 'figureheadlaw13.TokenQuoted', WHERE WHAT IT READS IS OF BULK AT MOST 1048576: true; the input reads as it did. -/
def tokenQuotedUptoRow : OpenClaim := { program := "ytglmcbdekmjlkaa", sum := "84d09b2e1325670c60af76cffd7de8665b9f88f396829b645e022bca09d64749", func := "figurehead/figureheadlaw13.TokenQuoted", spec := "tokenQuoted", unfollowed := true, recurses := true, apart := false, narrowed := true }
def TokenQuotedUptoSaid : Prop := tokenQuotedUptoRow.holds Try.pinned (OpenSpec.upto tokenQuotedSpec)

/-- 'figureheadlaw13.TokenPlain', WHERE WHAT IT READS IS OF BULK AT MOST 1048576: true; the input reads as it did. -/
def tokenPlainUptoRow : OpenClaim := { program := "ytglmcbdekmjlkaa", sum := "84d09b2e1325670c60af76cffd7de8665b9f88f396829b645e022bca09d64749", func := "figurehead/figureheadlaw13.TokenPlain", spec := "tokenPlain", unfollowed := true, recurses := true, apart := false, narrowed := true }
def TokenPlainUptoSaid : Prop := tokenPlainUptoRow.holds Try.pinned (OpenSpec.upto tokenPlainSpec)

end Rows
end Go.Proofs.Ytglmcbdekmjlkaa
