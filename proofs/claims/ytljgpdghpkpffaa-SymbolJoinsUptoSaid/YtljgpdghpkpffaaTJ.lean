/-
  TJ: answers of layer 13.
-/
import Derived.Test.YtljgpdghpkpffaaTI
set_option maxRecDepth 100000
namespace Go.Proofs.Ytljgpdghpkpffaa
open Go.RowKit
end Go.Proofs.Ytljgpdghpkpffaa
