import Derived.Test.YtpbkndmciopnjaaDoorDiv4
import Derived.Test.YtpbkndmciopnjaaDoorAns1
namespace Go.Proofs.YtpbkndmciopnjaaDoor
open Go.RowKit
theorem all_good {xs : List Nat} (h : ∀ x ∈ xs, x < 1000000000) : (xs.all fun x => decide (x ≤ 999999999)) = true := by
  rw [List.all_eq_true]
  intro x hx
  have := h x hx
  simp
  omega
theorem ownS_nil (w : World) (base : Nat) : OwnS w base none 0 0 [] := ⟨World.ownsRow_nil _ _ _ _, by omega, by simp⟩
end Go.Proofs.YtpbkndmciopnjaaDoor
