/-
  Plain facts on products of figures.
-/
import Derived.Test.YtpbkndmciopnjaaDoorDig
namespace Go.Proofs.YtpbkndmciopnjaaDoor
theorem val_set (b : Nat) (ys : List Nat) (i x : Nat) (h : i < ys.length) : val b (ys.set i x) + b ^ i * ys.getD i 0 = val b ys + b ^ i * x := by
  induction ys generalizing i with
  | nil => simp at h
  | cons y r ih =>
    cases i with
    | zero => simp [val]; omega
    | succ i =>
      have := ih i (by simpa using h)
      have h2 : b * (val b (r.set i x) + b ^ i * r.getD i 0) = b * (val b r + b ^ i * x) := by rw [this]
      simp only [Nat.mul_add, ← Nat.mul_assoc] at h2
      simp only [List.set_cons_succ, val, List.getD_cons_succ, Nat.pow_succ, Nat.mul_comm (b ^ i) b]
      omega
theorem getD_set (ys : List Nat) (i x j : Nat) : (ys.set i x).getD j 0 = if j = i ∧ i < ys.length then x else ys.getD j 0 := by
  rw [List.getD, List.getD, List.getElem?_set]
  by_cases h : i = j
  · subst h
    by_cases h2 : i < ys.length
    · simp [h2]
    · simp [h2]
  · rw [if_neg h, if_neg (by omega)]
theorem getD_set_ne (ys : List Nat) (i x j : Nat) (h : j ≠ i) : (ys.set i x).getD j 0 = ys.getD j 0 := by rw [getD_set, if_neg (by omega)]
/-- A round of adding a row times a limb. -/
theorem row_step (B o k V0 y x z c l c' v v' T : Nat) (hs : v' + B ^ (o + k) * z = v + B ^ (o + k) * l) (hv : v + B ^ (o + k) * c = V0 + B ^ o * (y * T)) (ht : x * y + z + c = l + B * c') :
    v' + B ^ (o + (k + 1)) * c' = V0 + B ^ o * (y * (T + B ^ k * x)) := by
  have h1 : B ^ (o + k) * (x * y + z + c) = B ^ (o + k) * (l + B * c') := by rw [ht]
  have h2 : B ^ (o + (k + 1)) * c' = B ^ (o + k) * (B * c') := by rw [← Nat.add_assoc, Nat.pow_succ, Nat.mul_assoc]
  have h3 : B ^ o * (y * (B ^ k * x)) = B ^ (o + k) * (x * y) := by rw [Nat.pow_add, Nat.mul_comm x y, Nat.mul_left_comm y, Nat.mul_assoc]
  rw [h2, Nat.mul_add y, Nat.mul_add (B ^ o), h3]
  simp only [Nat.mul_add] at h1
  omega
/-- The limb behind the row takes what is carried. -/
theorem row_end (B o m V0 y z c v v' T : Nat) (hs : v' + B ^ (o + m) * z = v + B ^ (o + m) * (z + c)) (hv : v + B ^ (o + m) * c = V0 + B ^ o * (y * T)) : v' = V0 + B ^ o * (y * T) := by
  rw [Nat.mul_add] at hs
  omega
/-- One product of digits more. -/
theorem cell_step (p z x v v' P : Nat) (hs : v' + p * z = v + p * (z + x)) (hv : v = P) : v' = P + p * x := by
  rw [Nat.mul_add] at hs
  omega
/-- A round of carrying. -/
theorem carry_step (p v z c d c' T : Nat) (hv : v + p * c = T) (h : z + c = d + 10 * c') : v + p * d + p * 10 * c' = T + p * z := by
  have h1 : p * (z + c) = p * (d + 10 * c') := by rw [h]
  simp only [Nat.mul_add, ← Nat.mul_assoc] at h1
  omega
theorem no_carry (p v c T : Nat) (hv : v + p * c = T) (h : T < p) : v = T := by
  rcases Nat.eq_zero_or_pos c with h0 | h0
  · subst h0; simpa using hv
  · have : p * 1 ≤ p * c := Nat.mul_le_mul_left p h0
    omega
theorem mul_lt_pow {a b i j : Nat} (ha : a < 10 ^ i) (hb : b < 10 ^ j) : a * b < 10 ^ (i + j) := by
  rw [Nat.pow_add]
  exact Nat.mul_lt_mul'' ha hb
theorem val_replicate (b n : Nat) : val b (List.replicate n 0) = 0 := by
  induction n with
  | zero => rfl
  | succ n ih => rw [List.replicate_succ]; simp [val, ih]
theorem getD_replicate (n j : Nat) : (List.replicate n 0).getD j 0 = 0 := by
  rw [List.getD, List.getElem?_replicate]; split <;> rfl
theorem small_lt {a k y z : Nat} (ha : a < 10 ^ k) (hy : y < 1000000000) (hz : z < 1000000000) : a * y + z < 10 ^ (k + 10) := by
  have h1 : a * y < 10 ^ (k + 9) := mul_lt_pow ha (show y < 10 ^ 9 from hy)
  have h2 : z < 10 ^ (k + 9) := Nat.lt_of_lt_of_le (show z < 10 ^ 9 from hz) (Nat.pow_le_pow_right (by omega) (by omega))
  exact sum_lt h1 h2
theorem sum_lt2 {a b i j : Nat} (ha : a < 10 ^ i) (hb : b < 10 ^ j) : a + b < 10 ^ (i + j + 1) :=
  sum_lt (Nat.lt_of_lt_of_le ha (Nat.pow_le_pow_right (by omega) (by omega))) (Nat.lt_of_lt_of_le hb (Nat.pow_le_pow_right (by omega) (by omega)))
end Go.Proofs.YtpbkndmciopnjaaDoor
