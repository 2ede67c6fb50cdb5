/-
  Rf8D: the document's Round.
-/
import Derived.Test.YtonanpnacoegcaaDoorRf8B
import Derived.Test.YtonanpnacoegcaaDoorRf8C
set_option maxRecDepth 100000
namespace Go.Proofs.YtonanpnacoegcaaDoor
open Go.RowKit
theorem ref5Round_c (B : Nat) (m : Int) (n : Bool) (s t : ByteArray) (e t0 : Int) (N S X W : Nat) (k p : Int) (w : World) (h : DA B s e N) (hst : DA 0 t t0 S) (hS : S ≠ 0) (hk : min e p = k)
    (hX : N * 10 ^ (e - k).toNat = X) (hW : S * 10 ^ (p - k).toNat = W) (hB : B ≤ 30000) (hp1 : -30000 ≤ p) (hp2 : p ≤ 30000) (hx : (decs X).length ≤ 4950) (hw : (decs W).length ≤ 4950) (hP : Pw w) :
    Calls Tryd.prog 12 #[.int .i64 m, .agg #[.bool n, .string s, .int .i64 e], .string t, .int .i64 p] w fun r w' => r = .returned (rndV m n X W k) ∧ Below w.heap.size w w' := by
  by_cases hpe : p < e
  · exact ref5Round_lt_c B m n s t e t0 N S X W k p w h hst hS hk hX hW hB hp1 hp2 hx hw hP hpe
  · exact ref5Round_ge_c B m n s t e t0 N S X W k p w h hst hS hk hX hW hB hp1 hp2 hx hw hP hpe
end Go.Proofs.YtonanpnacoegcaaDoor
