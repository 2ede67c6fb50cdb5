/-
  UD: the contract of the document's First.
-/
import Derived.Test.YtbmgdheljnbmpaaUC
import Derived.Test.YtbmgdheljnbmpaaMV
import Derived.IntWalk
set_option maxRecDepth 100000
namespace Go.Proofs.Ytbmgdheljnbmpaa
open Go.RowKit
end Go.Proofs.Ytbmgdheljnbmpaa
