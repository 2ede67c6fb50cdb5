/-
  No cell of these rows narrows 'for every input' (looked for: loops, veiled, ifaces, maps, wideKeys, modest, calm, conditions, laid).
  DERIVED. THE GIVEN ROWS OF THIS SEAT. 4 by the template 'for every input the law returns true; each argument reads behind the call as it read before'; 0 by the template 'total and deterministic' (their statements: YtiflkkmeloclfaaTotals.lean).
  GIVEN WITH THE SEED: the statements are not yours to turn. If you find one false, say at which input.
  Laid BY PROGRAM, IN A SANDBOX (cutbox-rows.mjs): the forced cells as the released guide's own fill.sh prints them over the translation ec7bd7b5f456c0a0… (all of the seat's roots in one cut). By AI agents, Wed Nov 11 2026. No macro, syntax, notation, axiom, sorry.
-/
import Derived.Test.YtiflkkmeloclfaaChecked
import GoSem.Claim
import GoSem.ClaimJoined
import GoSem.ClaimMapViews
import Derived.JoinedTies
import Derived.KernelRfl
namespace Go.Proofs.Ytiflkkmeloclfaa
/- THE CELL 'sum', in the pinned program and in every row, IS THE sha256 OF THE DUMP (.gsa) THAT YtiflkkmeloclfaaProg.lean LOADS. Nothing in Lean hashes anything: it is a label: what it is worth is what the hold of that sum in a sandbox is worth. -/
noncomputable def Try.pinned : Pinned := { name := "ytiflkkmeloclfaa", sum := "ec7bd7b5f456c0a01bbebc8a6e2f81b52a2ce746b60a8c1e6d165e7a760a0ec3", checked := Try.checked }
namespace Rows
def none {H : Type} : Left H := { results := [], args := [] }

/-- 'figureheadlaw20.GroupSplits': WHATEVER THE INPUT: true; the input reads as it did. -/
def groupSplitsSpec : ChangeSpec := { name := "groupSplits", fn := fun _ => fun
  | [d1, d2, d3] => { results := [.lit (.bool true)], args := [d1, d2, d3] }
  | _ => none }
def groupSplitsRow : OpenClaim := { program := "ytiflkkmeloclfaa", sum := "ec7bd7b5f456c0a01bbebc8a6e2f81b52a2ce746b60a8c1e6d165e7a760a0ec3", func := "figurehead/figureheadlaw20.GroupSplits", spec := "groupSplits", inPlace := ["internal/abi.NoEscape"], apart := false }
def GroupSplitsSaid : Prop := groupSplitsRow.holds Try.pinned (OpenSpec.ofChange groupSplitsSpec)

/-- ITS FALSE NEIGHBOUR: 'it returns false'. Refute it at one input. -/
def groupSplitsWrong : ChangeSpec := { name := "groupSplits", fn := fun _ => fun
  | [d1, d2, d3] => { results := [.lit (.bool false)], args := [d1, d2, d3] }
  | _ => none }
def GroupSplitsWrongFalsely : Prop := groupSplitsRow.holds Try.pinned (OpenSpec.ofChange groupSplitsWrong)

/-- 'figureheadlaw20.GroupSizes': WHATEVER THE INPUT: true; the input reads as it did. -/
def groupSizesSpec : ChangeSpec := { name := "groupSizes", fn := fun _ => fun
  | [d1, d2, d3] => { results := [.lit (.bool true)], args := [d1, d2, d3] }
  | _ => none }
def groupSizesRow : OpenClaim := { program := "ytiflkkmeloclfaa", sum := "ec7bd7b5f456c0a01bbebc8a6e2f81b52a2ce746b60a8c1e6d165e7a760a0ec3", func := "figurehead/figureheadlaw20.GroupSizes", spec := "groupSizes", inPlace := ["internal/abi.NoEscape"], apart := false }
def GroupSizesSaid : Prop := groupSizesRow.holds Try.pinned (OpenSpec.ofChange groupSizesSpec)

/-- ITS FALSE NEIGHBOUR: 'it returns false'. Refute it at one input. -/
def groupSizesWrong : ChangeSpec := { name := "groupSizes", fn := fun _ => fun
  | [d1, d2, d3] => { results := [.lit (.bool false)], args := [d1, d2, d3] }
  | _ => none }
def GroupSizesWrongFalsely : Prop := groupSizesRow.holds Try.pinned (OpenSpec.ofChange groupSizesWrong)

/-- 'figureheadlaw20.GroupJoins': WHATEVER THE INPUT: true; the input reads as it did. -/
def groupJoinsSpec : ChangeSpec := { name := "groupJoins", fn := fun _ => fun
  | [d1, d2] => { results := [.lit (.bool true)], args := [d1, d2] }
  | _ => none }
def groupJoinsRow : OpenClaim := { program := "ytiflkkmeloclfaa", sum := "ec7bd7b5f456c0a01bbebc8a6e2f81b52a2ce746b60a8c1e6d165e7a760a0ec3", func := "figurehead/figureheadlaw20.GroupJoins", spec := "groupJoins", inPlace := ["internal/abi.NoEscape"], apart := false }
def GroupJoinsSaid : Prop := groupJoinsRow.holds Try.pinned (OpenSpec.ofChange groupJoinsSpec)

/-- ITS FALSE NEIGHBOUR: 'it returns false'. Refute it at one input. -/
def groupJoinsWrong : ChangeSpec := { name := "groupJoins", fn := fun _ => fun
  | [d1, d2] => { results := [.lit (.bool false)], args := [d1, d2] }
  | _ => none }
def GroupJoinsWrongFalsely : Prop := groupJoinsRow.holds Try.pinned (OpenSpec.ofChange groupJoinsWrong)

/-- 'figureheadlaw20.GroupMore': WHATEVER THE INPUT: true; the input reads as it did. -/
def groupMoreSpec : ChangeSpec := { name := "groupMore", fn := fun _ => fun
  | [d1, d2, d3, d4] => { results := [.lit (.bool true)], args := [d1, d2, d3, d4] }
  | _ => none }
def groupMoreRow : OpenClaim := { program := "ytiflkkmeloclfaa", sum := "ec7bd7b5f456c0a01bbebc8a6e2f81b52a2ce746b60a8c1e6d165e7a760a0ec3", func := "figurehead/figureheadlaw20.GroupMore", spec := "groupMore", inPlace := ["internal/abi.NoEscape"], apart := false }
def GroupMoreSaid : Prop := groupMoreRow.holds Try.pinned (OpenSpec.ofChange groupMoreSpec)

/-- ITS FALSE NEIGHBOUR: 'it returns false'. Refute it at one input. -/
def groupMoreWrong : ChangeSpec := { name := "groupMore", fn := fun _ => fun
  | [d1, d2, d3, d4] => { results := [.lit (.bool false)], args := [d1, d2, d3, d4] }
  | _ => none }
def GroupMoreWrongFalsely : Prop := groupMoreRow.holds Try.pinned (OpenSpec.ofChange groupMoreWrong)

/- THE SECOND FORM. 'bulk': how many values and letters a reading holds, each counted each time it is reached (what is shared counts as often as it is met; a slice's spare places count too). A statement '..UptoSaid' is the law's where the arguments, and the package variables that the reading takes, are together of bulk at most 1048576: NARROWER than '..Said'. Prove '..Said' where nothing that the law and all that it calls make is longer than what came in: it says more and counts as full. Else prove '..UptoSaid'. A law counts once. -/
mutual
def uptoBulk {H : Type} : DataW H → Nat
  | .lit (.string bytes) => bytes.length + 1
  | .lit _ => 1
  | .nil => 1
  | .ptr d => uptoBulk d + 1
  | .slice elems spare => uptoBulkAll elems + uptoBulkAll spare + 1
  | .agg parts => uptoBulkAll parts + 1
  | .iface _ d => uptoBulk d + 1
  | .map entries => uptoBulkEntries entries + 1
  | .held _ => 1
def uptoBulkAll {H : Type} : List (DataW H) → Nat
  | [] => 0
  | d :: r => uptoBulk d + uptoBulkAll r
def uptoBulkEntries {H : Type} : List (Lit × DataW H) → Nat
  | [] => 0
  | x :: r => uptoBulkEntry x + uptoBulkEntries r
def uptoBulkEntry {H : Type} : Lit × DataW H → Nat
  | (.string bytes, d) => bytes.length + uptoBulk d + 1
  | (_, d) => uptoBulk d + 1
 end
def uptoSmall : (H : Type) → List (DataW H) → Bool := fun _ ds => decide (uptoBulkAll ds ≤ 1048576)
def OpenSpec.upto (s : _root_.Go.ChangeSpec) : _root_.Go.OpenSpec := { _root_.Go.OpenSpec.ofChange s with cond := some uptoSmall }

/-- 'figureheadlaw20.GroupSplits', WHERE WHAT IT READS IS OF BULK AT MOST 1048576: true; the input reads as it did. -/
def groupSplitsUptoRow : OpenClaim := { program := "ytiflkkmeloclfaa", sum := "ec7bd7b5f456c0a01bbebc8a6e2f81b52a2ce746b60a8c1e6d165e7a760a0ec3", func := "figurehead/figureheadlaw20.GroupSplits", spec := "groupSplits", inPlace := ["internal/abi.NoEscape"], apart := false, narrowed := true }
def GroupSplitsUptoSaid : Prop := groupSplitsUptoRow.holds Try.pinned (OpenSpec.upto groupSplitsSpec)

/-- 'figureheadlaw20.GroupSizes', WHERE WHAT IT READS IS OF BULK AT MOST 1048576: true; the input reads as it did. -/
def groupSizesUptoRow : OpenClaim := { program := "ytiflkkmeloclfaa", sum := "ec7bd7b5f456c0a01bbebc8a6e2f81b52a2ce746b60a8c1e6d165e7a760a0ec3", func := "figurehead/figureheadlaw20.GroupSizes", spec := "groupSizes", inPlace := ["internal/abi.NoEscape"], apart := false, narrowed := true }
def GroupSizesUptoSaid : Prop := groupSizesUptoRow.holds Try.pinned (OpenSpec.upto groupSizesSpec)

/-- 'figureheadlaw20.GroupJoins', WHERE WHAT IT READS IS OF BULK AT MOST 1048576: true; the input reads as it did. -/
def groupJoinsUptoRow : OpenClaim := { program := "ytiflkkmeloclfaa", sum := "ec7bd7b5f456c0a01bbebc8a6e2f81b52a2ce746b60a8c1e6d165e7a760a0ec3", func := "figurehead/figureheadlaw20.GroupJoins", spec := "groupJoins", inPlace := ["internal/abi.NoEscape"], apart := false, narrowed := true }
def GroupJoinsUptoSaid : Prop := groupJoinsUptoRow.holds Try.pinned (OpenSpec.upto groupJoinsSpec)

/-- 'figureheadlaw20.GroupMore', WHERE WHAT IT READS IS OF BULK AT MOST 1048576: true; the input reads as it did. -/
def groupMoreUptoRow : OpenClaim := { program := "ytiflkkmeloclfaa", sum := "ec7bd7b5f456c0a01bbebc8a6e2f81b52a2ce746b60a8c1e6d165e7a760a0ec3", func := "figurehead/figureheadlaw20.GroupMore", spec := "groupMore", inPlace := ["internal/abi.NoEscape"], apart := false, narrowed := true }
def GroupMoreUptoSaid : Prop := groupMoreUptoRow.holds Try.pinned (OpenSpec.upto groupMoreSpec)

end Rows
end Go.Proofs.Ytiflkkmeloclfaa
