import Derived.Test.YtpbkndmciopnjaaDoorRefB
namespace Go.Proofs.YtpbkndmciopnjaaDoor
open Go.RowKit
theorem rev_take_succ (xs : List Nat) (k : Nat) (hk : k < xs.length) : xs.reverse.take (k + 1) = xs.reverse.take k ++ [xs.getD (xs.length - 1 - k) 0] := by
  rw [List.take_succ_eq_append_getElem (by simpa using hk)]
  simp [List.getD, List.getElem?_eq_getElem (show xs.length - 1 - k < xs.length by omega)]
end Go.Proofs.YtpbkndmciopnjaaDoor
