/-
  No cell of these rows narrows 'for every input' (looked for: loops, veiled, ifaces, maps, wideKeys, modest, calm, conditions, laid).
  DERIVED. THE GIVEN ROWS OF THIS SEAT. 5 by the template 'for every input the law returns true; each argument reads behind the call as it read before'; 0 by the template 'total and deterministic' (their statements: YtbmgdheljnbmpaaTotals.lean).
  GIVEN WITH THE SEED: the statements are not yours to turn. If you find one false, say at which input.
  Laid BY PROGRAM, IN A SANDBOX (cutbox-rows.mjs): the forced cells as the released guide's own fill.sh prints them over the translation a12a252227418fc3… (all of the seat's roots in one cut). By AI agents, Wed Nov 11 2026. No macro, syntax, notation, axiom, sorry.
-/
import Derived.Test.YtbmgdheljnbmpaaChecked
import GoSem.Claim
import GoSem.ClaimJoined
import GoSem.ClaimMapViews
import Derived.JoinedTies
import Derived.KernelRfl
namespace Go.Proofs.Ytbmgdheljnbmpaa
/- THE CELL 'sum', in the pinned program and in every row, IS THE sha256 OF THE DUMP (.gsa) THAT YtbmgdheljnbmpaaProg.lean LOADS. Nothing in Lean hashes anything: it is a label: what it is worth is what the hold of that sum in a sandbox is worth. -/
noncomputable def Try.pinned : Pinned := { name := "ytbmgdheljnbmpaa", sum := "a12a252227418fc3b7834bf33929c87cfacc512b64c3f1a3dc20f149ad253b8b", checked := Try.checked }
namespace Rows
def none {H : Type} : Left H := { results := [], args := [] }

/-- 'figureheadlaw14.AffixItems': WHATEVER THE INPUT: true; the input reads as it did. -/
def affixItemsSpec : ChangeSpec := { name := "affixItems", fn := fun _ => fun
  | [d] => { results := [.lit (.bool true)], args := [d] }
  | _ => none }
def affixItemsRow : OpenClaim := { program := "ytbmgdheljnbmpaa", sum := "a12a252227418fc3b7834bf33929c87cfacc512b64c3f1a3dc20f149ad253b8b", func := "figurehead/figureheadlaw14.AffixItems", spec := "affixItems", unfollowed := true, recurses := true, apart := false }
def AffixItemsSaid : Prop := affixItemsRow.holds Try.pinned (OpenSpec.ofChange affixItemsSpec)

/-- ITS FALSE NEIGHBOUR: 'it returns false'. Refute it at one input. -/
def affixItemsWrong : ChangeSpec := { name := "affixItems", fn := fun _ => fun
  | [d] => { results := [.lit (.bool false)], args := [d] }
  | _ => none }
def AffixItemsWrongFalsely : Prop := affixItemsRow.holds Try.pinned (OpenSpec.ofChange affixItemsWrong)

/-- 'figureheadlaw14.AffixTokens': WHATEVER THE INPUT: true; the input reads as it did. -/
def affixTokensSpec : ChangeSpec := { name := "affixTokens", fn := fun _ => fun
  | [d] => { results := [.lit (.bool true)], args := [d] }
  | _ => none }
def affixTokensRow : OpenClaim := { program := "ytbmgdheljnbmpaa", sum := "a12a252227418fc3b7834bf33929c87cfacc512b64c3f1a3dc20f149ad253b8b", func := "figurehead/figureheadlaw14.AffixTokens", spec := "affixTokens", unfollowed := true, recurses := true, apart := false }
def AffixTokensSaid : Prop := affixTokensRow.holds Try.pinned (OpenSpec.ofChange affixTokensSpec)

/-- ITS FALSE NEIGHBOUR: 'it returns false'. Refute it at one input. -/
def affixTokensWrong : ChangeSpec := { name := "affixTokens", fn := fun _ => fun
  | [d] => { results := [.lit (.bool false)], args := [d] }
  | _ => none }
def AffixTokensWrongFalsely : Prop := affixTokensRow.holds Try.pinned (OpenSpec.ofChange affixTokensWrong)

/-- 'figureheadlaw14.AffixBack': WHATEVER THE INPUT: true; the input reads as it did. -/
def affixBackSpec : ChangeSpec := { name := "affixBack", fn := fun _ => fun
  | [d] => { results := [.lit (.bool true)], args := [d] }
  | _ => none }
def affixBackRow : OpenClaim := { program := "ytbmgdheljnbmpaa", sum := "a12a252227418fc3b7834bf33929c87cfacc512b64c3f1a3dc20f149ad253b8b", func := "figurehead/figureheadlaw14.AffixBack", spec := "affixBack", unfollowed := true, recurses := true, apart := false }
def AffixBackSaid : Prop := affixBackRow.holds Try.pinned (OpenSpec.ofChange affixBackSpec)

/-- ITS FALSE NEIGHBOUR: 'it returns false'. Refute it at one input. -/
def affixBackWrong : ChangeSpec := { name := "affixBack", fn := fun _ => fun
  | [d] => { results := [.lit (.bool false)], args := [d] }
  | _ => none }
def AffixBackWrongFalsely : Prop := affixBackRow.holds Try.pinned (OpenSpec.ofChange affixBackWrong)

/-- 'figureheadlaw14.AffixNeeds': WHATEVER THE INPUT: true; the input reads as it did. -/
def affixNeedsSpec : ChangeSpec := { name := "affixNeeds", fn := fun _ => fun
  | [d] => { results := [.lit (.bool true)], args := [d] }
  | _ => none }
def affixNeedsRow : OpenClaim := { program := "ytbmgdheljnbmpaa", sum := "a12a252227418fc3b7834bf33929c87cfacc512b64c3f1a3dc20f149ad253b8b", func := "figurehead/figureheadlaw14.AffixNeeds", spec := "affixNeeds", unfollowed := true, recurses := true, apart := false }
def AffixNeedsSaid : Prop := affixNeedsRow.holds Try.pinned (OpenSpec.ofChange affixNeedsSpec)

/-- ITS FALSE NEIGHBOUR: 'it returns false'. Refute it at one input. -/
def affixNeedsWrong : ChangeSpec := { name := "affixNeeds", fn := fun _ => fun
  | [d] => { results := [.lit (.bool false)], args := [d] }
  | _ => none }
def AffixNeedsWrongFalsely : Prop := affixNeedsRow.holds Try.pinned (OpenSpec.ofChange affixNeedsWrong)

/-- 'figureheadlaw14.AffixMarks': WHATEVER THE INPUT: true; the input reads as it did. -/
def affixMarksSpec : ChangeSpec := { name := "affixMarks", fn := fun _ => fun
  | [d1, d2] => { results := [.lit (.bool true)], args := [d1, d2] }
  | _ => none }
def affixMarksRow : OpenClaim := { program := "ytbmgdheljnbmpaa", sum := "a12a252227418fc3b7834bf33929c87cfacc512b64c3f1a3dc20f149ad253b8b", func := "figurehead/figureheadlaw14.AffixMarks", spec := "affixMarks", unfollowed := true, recurses := true, apart := false }
def AffixMarksSaid : Prop := affixMarksRow.holds Try.pinned (OpenSpec.ofChange affixMarksSpec)

/-- ITS FALSE NEIGHBOUR: 'it returns false'. Refute it at one input. -/
def affixMarksWrong : ChangeSpec := { name := "affixMarks", fn := fun _ => fun
  | [d1, d2] => { results := [.lit (.bool false)], args := [d1, d2] }
  | _ => none }
def AffixMarksWrongFalsely : Prop := affixMarksRow.holds Try.pinned (OpenSpec.ofChange affixMarksWrong)

/- THE SECOND FORM. 'bulk': how many values and letters a reading holds, each counted each time it is reached (what is shared counts as often as it is met; a slice's spare places count too). A statement '..UptoSaid' is the law's where the arguments, and the package variables that the reading takes, are together of bulk at most 1048576: NARROWER than '..Said'. Prove '..Said' where nothing that the law and all that it calls make is longer than what came in: it says more and counts as full. Else prove '..UptoSaid'. A law counts once. -/
mutual
def uptoBulk {H : Type} : DataW H → Nat
  | .lit (.string bytes) => bytes.length + 1
  | .lit _ => 1
  | .nil => 1
  | .ptr d => uptoBulk d + 1
  | .slice elems spare => uptoBulkAll elems + uptoBulkAll spare + 1
  | .agg parts => uptoBulkAll parts + 1
  | .iface _ d => uptoBulk d + 1
  | .map entries => uptoBulkEntries entries + 1
  | .held _ => 1
def uptoBulkAll {H : Type} : List (DataW H) → Nat
  | [] => 0
  | d :: r => uptoBulk d + uptoBulkAll r
def uptoBulkEntries {H : Type} : List (Lit × DataW H) → Nat
  | [] => 0
  | x :: r => uptoBulkEntry x + uptoBulkEntries r
def uptoBulkEntry {H : Type} : Lit × DataW H → Nat
  | (.string bytes, d) => bytes.length + uptoBulk d + 1
  | (_, d) => uptoBulk d + 1
 end
def uptoSmall : (H : Type) → List (DataW H) → Bool := fun _ ds => decide (uptoBulkAll ds ≤ 1048576)
def OpenSpec.upto (s : _root_.Go.ChangeSpec) : _root_.Go.OpenSpec := { _root_.Go.OpenSpec.ofChange s with cond := some uptoSmall }

/-- 'figureheadlaw14.AffixItems', WHERE WHAT IT READS IS OF BULK AT MOST 1048576: true; the input reads as it did. -/
def affixItemsUptoRow : OpenClaim := { program := "ytbmgdheljnbmpaa", sum := "a12a252227418fc3b7834bf33929c87cfacc512b64c3f1a3dc20f149ad253b8b", func := "figurehead/figureheadlaw14.AffixItems", spec := "affixItems", unfollowed := true, recurses := true, apart := false, narrowed := true }
def AffixItemsUptoSaid : Prop := affixItemsUptoRow.holds Try.pinned (OpenSpec.upto affixItemsSpec)

/-- 'figureheadlaw14.AffixTokens', WHERE WHAT IT READS IS OF BULK AT MOST 1048576: true; the input reads as it did. -/
def affixTokensUptoRow : OpenClaim := { program := "ytbmgdheljnbmpaa", sum := "a12a252227418fc3b7834bf33929c87cfacc512b64c3f1a3dc20f149ad253b8b", func := "figurehead/figureheadlaw14.AffixTokens", spec := "affixTokens", unfollowed := true, recurses := true, apart := false, narrowed := true }
def AffixTokensUptoSaid : Prop := affixTokensUptoRow.holds Try.pinned (OpenSpec.upto affixTokensSpec)

/-- 'figureheadlaw14.AffixBack', WHERE WHAT IT READS IS OF BULK AT MOST 1048576: true; the input reads as it did. -/
def affixBackUptoRow : OpenClaim := { program := "ytbmgdheljnbmpaa", sum := "a12a252227418fc3b7834bf33929c87cfacc512b64c3f1a3dc20f149ad253b8b", func := "figurehead/figureheadlaw14.AffixBack", spec := "affixBack", unfollowed := true, recurses := true, apart := false, narrowed := true }
def AffixBackUptoSaid : Prop := affixBackUptoRow.holds Try.pinned (OpenSpec.upto affixBackSpec)

/-- 'figureheadlaw14.AffixNeeds', WHERE WHAT IT READS IS OF BULK AT MOST 1048576: true; the input reads as it did. -/
def affixNeedsUptoRow : OpenClaim := { program := "ytbmgdheljnbmpaa", sum := "a12a252227418fc3b7834bf33929c87cfacc512b64c3f1a3dc20f149ad253b8b", func := "figurehead/figureheadlaw14.AffixNeeds", spec := "affixNeeds", unfollowed := true, recurses := true, apart := false, narrowed := true }
def AffixNeedsUptoSaid : Prop := affixNeedsUptoRow.holds Try.pinned (OpenSpec.upto affixNeedsSpec)

/-- 'figureheadlaw14.AffixMarks', WHERE WHAT IT READS IS OF BULK AT MOST 1048576: true; the input reads as it did. -/
def affixMarksUptoRow : OpenClaim := { program := "ytbmgdheljnbmpaa", sum := "a12a252227418fc3b7834bf33929c87cfacc512b64c3f1a3dc20f149ad253b8b", func := "figurehead/figureheadlaw14.AffixMarks", spec := "affixMarks", unfollowed := true, recurses := true, apart := false, narrowed := true }
def AffixMarksUptoSaid : Prop := affixMarksUptoRow.holds Try.pinned (OpenSpec.upto affixMarksSpec)

end Rows
end Go.Proofs.Ytbmgdheljnbmpaa
