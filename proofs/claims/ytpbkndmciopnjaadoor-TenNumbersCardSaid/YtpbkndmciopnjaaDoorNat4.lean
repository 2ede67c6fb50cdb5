import Derived.Test.YtpbkndmciopnjaaDoorNat3
namespace Go.Proofs.YtpbkndmciopnjaaDoor
open Go.RowKit
/-- A round of subtracting. -/
theorem sub_step (b p v P Q X Y br l br' : Nat) (hv : v + Q = P + p * br) (h : X + b * br' = l + Y + br) : v + p * l + (Q + p * Y) = (P + p * X) + p * b * br' := by
  have h1 : p * (X + b * br') = p * (l + Y + br) := by rw [h]
  simp only [Nat.mul_add, ← Nat.mul_assoc] at h1
  omega
theorem sub_last (z y x p br : Nat) (h1 : z + y = x + p * br) (h2 : z < p) (h3 : y ≤ x) (h4 : br ≤ 1) : z = x - y := by
  rcases Nat.eq_zero_or_pos br with h | h
  · subst h; omega
  · obtain rfl : br = 1 := by omega
    omega
end Go.Proofs.YtpbkndmciopnjaaDoor
