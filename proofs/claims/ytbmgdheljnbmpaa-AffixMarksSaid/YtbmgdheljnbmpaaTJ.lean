/-
  TJ: answers of layer 13.
-/
import Derived.Test.YtbmgdheljnbmpaaTI
set_option maxRecDepth 100000
namespace Go.Proofs.Ytbmgdheljnbmpaa
open Go.RowKit
end Go.Proofs.Ytbmgdheljnbmpaa
