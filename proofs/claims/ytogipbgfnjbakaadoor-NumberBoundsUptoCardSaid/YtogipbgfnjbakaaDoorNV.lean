/-
  NV: the document's SameFields, SamePattern of alike ones; answers.
-/
import Derived.Test.YtogipbgfnjbakaaDoorNU
set_option maxRecDepth 100000
namespace Go.Proofs.YtogipbgfnjbakaaDoor
open Go.RowKit
set_option maxHeartbeats 2000000 in
theorem sameF_c (x0 x1 x2 x3 x4 y0 y1 y2 u0 u1 u2 u3 u4 v0 v1 v2 : Value) (a5 a6 a7 a8 a9 a10 a11 a12 a15 : Int) (a13 : ByteArray) (a14 a16 : Bool) (w : World) :
    Calls Tryd.prog 12 #[.agg #[x0, x1, x2, x3, x4, .int .i64 a5, .int .i64 a6, .int .i64 a7, .int .i64 a8, .int .i64 a9, .int .i64 a10, .int .i64 a11, .int .i64 a12, .string a13, .bool a14, .int .i64 a15, .bool a16, y0, y1, y2],
      .agg #[u0, u1, u2, u3, u4, .int .i64 a5, .int .i64 a6, .int .i64 a7, .int .i64 a8, .int .i64 a9, .int .i64 a10, .int .i64 a11, .int .i64 a12, .string a13, .bool a14, .int .i64 a15, .bool a16, v0, v1, v2]] w fun e w' => e = .returned (.bool true) ∧ Below w.heap.size w w' := by
  go_enter Tryd.func12, Tryd.ntmps12
  go_wp2
  go_ret
  exact ⟨rfl, ((Below.refl _ _).alloc (Nat.le_refl _) _).alloc (by simp) _⟩
end Go.Proofs.YtogipbgfnjbakaaDoor
