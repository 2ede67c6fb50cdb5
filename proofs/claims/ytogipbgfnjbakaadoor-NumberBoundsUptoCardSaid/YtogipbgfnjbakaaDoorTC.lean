/-
  TC: token's contracts: point, place, tell, take, keep, inQuotes.
-/
import Derived.Laws.Cover4
import Derived.Handy
import Derived.Test.YtogipbgfnjbakaaDoorTB
import Derived.Test.YtogipbgfnjbakaaDoorUC
set_option maxRecDepth 100000
namespace Go.Proofs.YtogipbgfnjbakaaDoor
open Go.RowKit
/-- A token as a value. -/
def tokG (t : Tok) : Value := .agg #[.int .i32 t.1, .bool t.2.1, .int .i64 t.2.2]
theorem take_getD_succ (zs : List Int) {k : Nat} (h : k < zs.length) : zs.take (k + 1) = zs.take k ++ [zs.getD k 0] := by
  rw [List.take_succ_eq_append_getElem h, List.getD, List.getElem?_eq_getElem h]; rfl
end Go.Proofs.YtogipbgfnjbakaaDoor
