import Derived.Test.YtpbkndmciopnjaaDoorNat2
namespace Go.Proofs.YtpbkndmciopnjaaDoor
open Go.RowKit
/-- One figure written at place i. -/
theorem val_take_set (b : Nat) (ys : List Nat) (i x : Nat) (h : i < ys.length) : val b ((ys.set i x).take (i + 1)) = val b (ys.take i) + b ^ i * x := by
  rw [val_take_succ]
  simp [List.getD, h, List.take_set_of_le]
theorem u32s_set (ys : List Nat) (i x : Nat) : u32s (ys.set i x) = (u32s ys).set i (.int .u32 (x : Int)) := by simp [u32s, List.map_set]
/-- A round of adding. -/
theorem add_step (b p v P Q X Y cr l cr' : Nat) (hv : v + p * cr = P + Q) (h : X + Y + cr = l + b * cr') : v + p * l + p * b * cr' = (P + p * X) + (Q + p * Y) := by
  have h1 : p * (X + Y + cr) = p * (l + b * cr') := by rw [h]
  simp only [Nat.mul_add, ← Nat.mul_assoc] at h1
  omega
end Go.Proofs.YtpbkndmciopnjaaDoor
