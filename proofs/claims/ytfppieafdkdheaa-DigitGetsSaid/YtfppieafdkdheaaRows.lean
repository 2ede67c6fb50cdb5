/-
  No cell of these rows narrows 'for every input' (looked for: loops, veiled, ifaces, maps, wideKeys, modest, calm, conditions, laid).
  DERIVED. THE GIVEN ROWS OF THIS SEAT. 5 by the template 'for every input the law returns true; each argument reads behind the call as it read before'; 0 by the template 'total and deterministic' (their statements: YtfppieafdkdheaaTotals.lean).
  GIVEN WITH THE SEED: the statements are not yours to turn. If you find one false, say at which input.
  Laid BY PROGRAM, IN A SANDBOX (cutbox-rows.mjs): the forced cells as the released guide's own fill.sh prints them over the translation b4b683ff774882f0… (all of the seat's roots in one cut). By AI agents, Wed Nov 11 2026. No macro, syntax, notation, axiom, sorry.
-/
import Derived.Test.YtfppieafdkdheaaChecked
import GoSem.Claim
import GoSem.ClaimJoined
import GoSem.ClaimMapViews
import Derived.JoinedTies
import Derived.KernelRfl
namespace Go.Proofs.Ytfppieafdkdheaa
/- THE CELL 'sum', in the pinned program and in every row, IS THE sha256 OF THE DUMP (.gsa) THAT YtfppieafdkdheaaProg.lean LOADS. Nothing in Lean hashes anything: it is a label: what it is worth is what the hold of that sum in a sandbox is worth. -/
noncomputable def Try.pinned : Pinned := { name := "ytfppieafdkdheaa", sum := "b4b683ff774882f080008ae1e9238d0b01051807c1d3a76f1d2055743ac67d82", checked := Try.checked }
namespace Rows
def none {H : Type} : Left H := { results := [], args := [] }

/-- 'figureheadlaw12.DigitSystems': WHATEVER THE INPUT: true; the input reads as it did. -/
def digitSystemsSpec : ChangeSpec := { name := "digitSystems", fn := fun _ => fun
  | [d1, d2] => { results := [.lit (.bool true)], args := [d1, d2] }
  | _ => none }
def digitSystemsRow : OpenClaim := { program := "ytfppieafdkdheaa", sum := "b4b683ff774882f080008ae1e9238d0b01051807c1d3a76f1d2055743ac67d82", func := "figurehead/figureheadlaw12.DigitSystems", spec := "digitSystems", apart := false }
def DigitSystemsSaid : Prop := digitSystemsRow.holds Try.pinned (OpenSpec.ofChange digitSystemsSpec)

/-- ITS FALSE NEIGHBOUR: 'it returns false'. Refute it at one input. -/
def digitSystemsWrong : ChangeSpec := { name := "digitSystems", fn := fun _ => fun
  | [d1, d2] => { results := [.lit (.bool false)], args := [d1, d2] }
  | _ => none }
def DigitSystemsWrongFalsely : Prop := digitSystemsRow.holds Try.pinned (OpenSpec.ofChange digitSystemsWrong)

/-- 'figureheadlaw12.DigitPuts': WHATEVER THE INPUT: true; the input reads as it did. -/
def digitPutsSpec : ChangeSpec := { name := "digitPuts", fn := fun _ => fun
  | [d1, d2] => { results := [.lit (.bool true)], args := [d1, d2] }
  | _ => none }
def digitPutsRow : OpenClaim := { program := "ytfppieafdkdheaa", sum := "b4b683ff774882f080008ae1e9238d0b01051807c1d3a76f1d2055743ac67d82", func := "figurehead/figureheadlaw12.DigitPuts", spec := "digitPuts", apart := false }
def DigitPutsSaid : Prop := digitPutsRow.holds Try.pinned (OpenSpec.ofChange digitPutsSpec)

/-- ITS FALSE NEIGHBOUR: 'it returns false'. Refute it at one input. -/
def digitPutsWrong : ChangeSpec := { name := "digitPuts", fn := fun _ => fun
  | [d1, d2] => { results := [.lit (.bool false)], args := [d1, d2] }
  | _ => none }
def DigitPutsWrongFalsely : Prop := digitPutsRow.holds Try.pinned (OpenSpec.ofChange digitPutsWrong)

/-- 'figureheadlaw12.DigitGets': WHATEVER THE INPUT: true; the input reads as it did. -/
def digitGetsSpec : ChangeSpec := { name := "digitGets", fn := fun _ => fun
  | [d1, d2] => { results := [.lit (.bool true)], args := [d1, d2] }
  | _ => none }
def digitGetsRow : OpenClaim := { program := "ytfppieafdkdheaa", sum := "b4b683ff774882f080008ae1e9238d0b01051807c1d3a76f1d2055743ac67d82", func := "figurehead/figureheadlaw12.DigitGets", spec := "digitGets", apart := false }
def DigitGetsSaid : Prop := digitGetsRow.holds Try.pinned (OpenSpec.ofChange digitGetsSpec)

/-- ITS FALSE NEIGHBOUR: 'it returns false'. Refute it at one input. -/
def digitGetsWrong : ChangeSpec := { name := "digitGets", fn := fun _ => fun
  | [d1, d2] => { results := [.lit (.bool false)], args := [d1, d2] }
  | _ => none }
def DigitGetsWrongFalsely : Prop := digitGetsRow.holds Try.pinned (OpenSpec.ofChange digitGetsWrong)

/-- 'figureheadlaw12.DigitMixed': WHATEVER THE INPUT: true; the input reads as it did. -/
def digitMixedSpec : ChangeSpec := { name := "digitMixed", fn := fun _ => fun
  | [d1, d2, d3, d4] => { results := [.lit (.bool true)], args := [d1, d2, d3, d4] }
  | _ => none }
def digitMixedRow : OpenClaim := { program := "ytfppieafdkdheaa", sum := "b4b683ff774882f080008ae1e9238d0b01051807c1d3a76f1d2055743ac67d82", func := "figurehead/figureheadlaw12.DigitMixed", spec := "digitMixed", apart := false }
def DigitMixedSaid : Prop := digitMixedRow.holds Try.pinned (OpenSpec.ofChange digitMixedSpec)

/-- ITS FALSE NEIGHBOUR: 'it returns false'. Refute it at one input. -/
def digitMixedWrong : ChangeSpec := { name := "digitMixed", fn := fun _ => fun
  | [d1, d2, d3, d4] => { results := [.lit (.bool false)], args := [d1, d2, d3, d4] }
  | _ => none }
def DigitMixedWrongFalsely : Prop := digitMixedRow.holds Try.pinned (OpenSpec.ofChange digitMixedWrong)

/-- 'figureheadlaw12.DigitJoins': WHATEVER THE INPUT: true; the input reads as it did. -/
def digitJoinsSpec : ChangeSpec := { name := "digitJoins", fn := fun _ => fun
  | [d1, d2, d3, d4] => { results := [.lit (.bool true)], args := [d1, d2, d3, d4] }
  | _ => none }
def digitJoinsRow : OpenClaim := { program := "ytfppieafdkdheaa", sum := "b4b683ff774882f080008ae1e9238d0b01051807c1d3a76f1d2055743ac67d82", func := "figurehead/figureheadlaw12.DigitJoins", spec := "digitJoins", apart := false }
def DigitJoinsSaid : Prop := digitJoinsRow.holds Try.pinned (OpenSpec.ofChange digitJoinsSpec)

/-- ITS FALSE NEIGHBOUR: 'it returns false'. Refute it at one input. -/
def digitJoinsWrong : ChangeSpec := { name := "digitJoins", fn := fun _ => fun
  | [d1, d2, d3, d4] => { results := [.lit (.bool false)], args := [d1, d2, d3, d4] }
  | _ => none }
def DigitJoinsWrongFalsely : Prop := digitJoinsRow.holds Try.pinned (OpenSpec.ofChange digitJoinsWrong)

/- THE SECOND FORM. 'bulk': how many values and letters a reading holds, each counted each time it is reached (what is shared counts as often as it is met; a slice's spare places count too). A statement '..UptoSaid' is the law's where the arguments, and the package variables that the reading takes, are together of bulk at most 1048576: NARROWER than '..Said'. Prove '..Said' where nothing that the law and all that it calls make is longer than what came in: it says more and counts as full. Else prove '..UptoSaid'. A law counts once. -/
mutual
def uptoBulk {H : Type} : DataW H → Nat
  | .lit (.string bytes) => bytes.length + 1
  | .lit _ => 1
  | .nil => 1
  | .ptr d => uptoBulk d + 1
  | .slice elems spare => uptoBulkAll elems + uptoBulkAll spare + 1
  | .agg parts => uptoBulkAll parts + 1
  | .iface _ d => uptoBulk d + 1
  | .map entries => uptoBulkEntries entries + 1
  | .held _ => 1
def uptoBulkAll {H : Type} : List (DataW H) → Nat
  | [] => 0
  | d :: r => uptoBulk d + uptoBulkAll r
def uptoBulkEntries {H : Type} : List (Lit × DataW H) → Nat
  | [] => 0
  | x :: r => uptoBulkEntry x + uptoBulkEntries r
def uptoBulkEntry {H : Type} : Lit × DataW H → Nat
  | (.string bytes, d) => bytes.length + uptoBulk d + 1
  | (_, d) => uptoBulk d + 1
 end
def uptoSmall : (H : Type) → List (DataW H) → Bool := fun _ ds => decide (uptoBulkAll ds ≤ 1048576)
def OpenSpec.upto (s : _root_.Go.ChangeSpec) : _root_.Go.OpenSpec := { _root_.Go.OpenSpec.ofChange s with cond := some uptoSmall }

/-- 'figureheadlaw12.DigitSystems', WHERE WHAT IT READS IS OF BULK AT MOST 1048576: true; the input reads as it did. -/
def digitSystemsUptoRow : OpenClaim := { program := "ytfppieafdkdheaa", sum := "b4b683ff774882f080008ae1e9238d0b01051807c1d3a76f1d2055743ac67d82", func := "figurehead/figureheadlaw12.DigitSystems", spec := "digitSystems", apart := false, narrowed := true }
def DigitSystemsUptoSaid : Prop := digitSystemsUptoRow.holds Try.pinned (OpenSpec.upto digitSystemsSpec)

/-- 'figureheadlaw12.DigitPuts', WHERE WHAT IT READS IS OF BULK AT MOST 1048576: true; the input reads as it did. -/
def digitPutsUptoRow : OpenClaim := { program := "ytfppieafdkdheaa", sum := "b4b683ff774882f080008ae1e9238d0b01051807c1d3a76f1d2055743ac67d82", func := "figurehead/figureheadlaw12.DigitPuts", spec := "digitPuts", apart := false, narrowed := true }
def DigitPutsUptoSaid : Prop := digitPutsUptoRow.holds Try.pinned (OpenSpec.upto digitPutsSpec)

/-- 'figureheadlaw12.DigitGets', WHERE WHAT IT READS IS OF BULK AT MOST 1048576: true; the input reads as it did. -/
def digitGetsUptoRow : OpenClaim := { program := "ytfppieafdkdheaa", sum := "b4b683ff774882f080008ae1e9238d0b01051807c1d3a76f1d2055743ac67d82", func := "figurehead/figureheadlaw12.DigitGets", spec := "digitGets", apart := false, narrowed := true }
def DigitGetsUptoSaid : Prop := digitGetsUptoRow.holds Try.pinned (OpenSpec.upto digitGetsSpec)

/-- 'figureheadlaw12.DigitMixed', WHERE WHAT IT READS IS OF BULK AT MOST 1048576: true; the input reads as it did. -/
def digitMixedUptoRow : OpenClaim := { program := "ytfppieafdkdheaa", sum := "b4b683ff774882f080008ae1e9238d0b01051807c1d3a76f1d2055743ac67d82", func := "figurehead/figureheadlaw12.DigitMixed", spec := "digitMixed", apart := false, narrowed := true }
def DigitMixedUptoSaid : Prop := digitMixedUptoRow.holds Try.pinned (OpenSpec.upto digitMixedSpec)

/-- 'figureheadlaw12.DigitJoins', WHERE WHAT IT READS IS OF BULK AT MOST 1048576: true; the input reads as it did. -/
def digitJoinsUptoRow : OpenClaim := { program := "ytfppieafdkdheaa", sum := "b4b683ff774882f080008ae1e9238d0b01051807c1d3a76f1d2055743ac67d82", func := "figurehead/figureheadlaw12.DigitJoins", spec := "digitJoins", apart := false, narrowed := true }
def DigitJoinsUptoSaid : Prop := digitJoinsUptoRow.holds Try.pinned (OpenSpec.upto digitJoinsSpec)

end Rows
end Go.Proofs.Ytfppieafdkdheaa
