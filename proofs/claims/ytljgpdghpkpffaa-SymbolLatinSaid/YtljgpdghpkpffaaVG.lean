/-
  VG: answers of layer 14.
-/
import Derived.Test.YtljgpdghpkpffaaTJ
import Derived.Test.YtljgpdghpkpffaaVF
set_option maxRecDepth 100000
namespace Go.Proofs.Ytljgpdghpkpffaa
open Go.RowKit
end Go.Proofs.Ytljgpdghpkpffaa
