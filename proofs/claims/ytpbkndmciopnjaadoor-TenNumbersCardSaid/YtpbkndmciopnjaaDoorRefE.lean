import Derived.Test.YtpbkndmciopnjaaDoorRefD
namespace Go.Proofs.YtpbkndmciopnjaaDoor
open Go.RowKit
end Go.Proofs.YtpbkndmciopnjaaDoor
