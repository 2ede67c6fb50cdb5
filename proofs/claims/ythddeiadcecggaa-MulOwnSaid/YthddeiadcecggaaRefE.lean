import Derived.Test.YthddeiadcecggaaRefD
namespace Go.Proofs.Ythddeiadcecggaa
open Go.RowKit
end Go.Proofs.Ythddeiadcecggaa
