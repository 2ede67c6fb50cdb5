/-
  YG: the sizes of good symbols' texts.
-/
import Derived.Test.YtljgpdghpkpffaaVG
import Derived.Test.YtljgpdghpkpffaaYF
set_option maxRecDepth 100000
namespace Go.Proofs.Ytljgpdghpkpffaa
open Go.RowKit
theorem tx5_8 (d g mi pl pc pm cu e : ByteArray) : ∀ j, j < 5 → tx5 mi pl pc pm cu j = tx8 d g mi pl pc pm cu e (j + 2) := by
  intro j hj
  obtain rfl | rfl | rfl | rfl | rfl : j = 0 ∨ j = 1 ∨ j = 2 ∨ j = 3 ∨ j = 4 := by omega
  all_goals rfl
theorem good_tx5 {z : Int} {d g mi pl pc pm cu e : ByteArray} (h : goodS z (tx8 d g mi pl pc pm cu e) = true) : ∀ j, j < 5 → (tx5 mi pl pc pm cu j).size ≤ 1000 := by
  intro j hj
  rw [tx5_8 d g mi pl pc pm cu e j hj]
  have := (goodT_iff.1 ((goodS_iff.1 h).1 (j + 2) (by omega))).2.1
  omega
end Go.Proofs.Ytljgpdghpkpffaa
