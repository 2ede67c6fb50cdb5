import Derived.Test.YtpbkndmciopnjaaDoorDiv2
import Derived.Test.YtpbkndmciopnjaaDoorDivMath2
namespace Go.Proofs.YtpbkndmciopnjaaDoor
open Go.RowKit
end Go.Proofs.YtpbkndmciopnjaaDoor
