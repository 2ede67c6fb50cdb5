/-
  UE: the contracts of the document's Runes and Text, and of answers.
-/
import Derived.Test.YtbmgdheljnbmpaaUD
set_option maxRecDepth 100000
namespace Go.Proofs.Ytbmgdheljnbmpaa
open Go.RowKit
theorem nats_take_succ (zs : List Int) (k : Nat) (hk : k < zs.length) : nats (zs.take (k + 1)) = nats (zs.take k) ++ [(zs.getD k 0).toNat] := by
  rw [nats, List.take_succ_eq_append_getElem hk, List.map_append, List.getD, List.getElem?_eq_getElem hk]
  rfl
theorem all_take {zs : List Int} (h : zs.all isZ = true) (k : Nat) : (zs.take k).all isZ = true := List.all_eq_true.2 fun z hz => List.all_eq_true.1 h z (List.mem_of_mem_take hz)
end Go.Proofs.Ytbmgdheljnbmpaa
