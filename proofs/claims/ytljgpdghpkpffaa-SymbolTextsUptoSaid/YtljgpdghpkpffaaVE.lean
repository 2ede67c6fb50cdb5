/-
  VE: the document's Items and Tokens; answers of layer 14.
-/
import Derived.Test.YtljgpdghpkpffaaVD
set_option maxRecDepth 100000
namespace Go.Proofs.Ytljgpdghpkpffaa
open Go.RowKit
end Go.Proofs.Ytljgpdghpkpffaa
