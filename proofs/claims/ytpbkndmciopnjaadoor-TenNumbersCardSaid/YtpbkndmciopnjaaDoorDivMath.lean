/-
  Plain facts on quotients of figures.
-/
import Derived.Test.YtpbkndmciopnjaaDoorMulMath
namespace Go.Proofs.YtpbkndmciopnjaaDoor
/-- One figure of a short division: what is left so far, and the quotient's figures so far. -/
def dstep (xs : List Nat) (y : Nat) (s : Nat × List Nat) (i : Nat) : Nat × List Nat :=
  ((s.1 * 1000000000 + xs.getD i 0) % y, s.2.set i ((s.1 * 1000000000 + xs.getD i 0) / y))
def drun (xs : List Nat) (y n : Nat) (is : List Nat) : Nat × List Nat := is.foldl (dstep xs y) (0, List.replicate n 0)
theorem drun_snoc (xs : List Nat) (y n : Nat) (is : List Nat) (i : Nat) : drun xs y n (is ++ [i]) = dstep xs y (drun xs y n is) i := by simp [drun]
theorem drun_ind (xs : List Nat) (y n : Nat) (P : Nat × List Nat → Prop) (h0 : P (0, List.replicate n 0)) (hs : ∀ s i, P s → P (dstep xs y s i)) (is : List Nat) : P (drun xs y n is) := by
  unfold drun
  generalize ((0, List.replicate n 0) : Nat × List Nat) = s at h0
  induction is generalizing s with
  | nil => exact h0
  | cons i r ih => exact ih _ (hs s i h0)
theorem drun_lt (xs : List Nat) (y n : Nat) (hy : 0 < y) (is : List Nat) : (drun xs y n is).1 < y :=
  drun_ind xs y n (fun s => s.1 < y) hy (fun _ _ _ => Nat.mod_lt _ hy) is
theorem drun_length (xs : List Nat) (y n : Nat) (is : List Nat) : (drun xs y n is).2.length = n :=
  drun_ind xs y n (fun s => s.2.length = n) (by simp) (fun s i h => by simpa [dstep] using h) is
/-- The places from above. -/
def downTo (n k : Nat) : List Nat := (List.range k).map fun j => n - 1 - j
theorem downTo_succ (n k : Nat) : downTo n (k + 1) = downTo n k ++ [n - 1 - k] := by simp [downTo, List.range_succ]
theorem quo_lt {y r x : Nat} (hy : 0 < y) (hr : r < y) (hx : x < 1000000000) : (r * 1000000000 + x) / y < 1000000000 := by
  rw [Nat.div_lt_iff_lt_mul hy]
  have : (r + 1) * 1000000000 ≤ y * 1000000000 := Nat.mul_le_mul_right _ hr
  omega
theorem drun_down (xs : List Nat) (y n : Nat) (hy : 0 < y) (hx : ∀ x ∈ xs, x < 1000000000) (hl : xs.length = n) (k : Nat) (hk : k ≤ n) :
    (∀ z ∈ (drun xs y n (downTo n k)).2, z < 1000000000) ∧ (∀ j, j < n - k → (drun xs y n (downTo n k)).2.getD j 0 = 0) ∧
      val 1000000000 xs = y * val 1000000000 (drun xs y n (downTo n k)).2 + 1000000000 ^ (n - k) * (drun xs y n (downTo n k)).1 + val 1000000000 (xs.take (n - k)) := by
  induction k with
  | zero =>
    refine ⟨?_, ?_, ?_⟩
    · intro z hz; simp [drun, downTo] at hz; omega
    · intro j _; simp only [drun, downTo, List.range_zero, List.map_nil, List.foldl_nil]; exact getD_replicate n j
    · simp only [drun, downTo, List.range_zero, List.map_nil, List.foldl_nil, val_replicate, Nat.mul_zero, Nat.sub_zero, Nat.zero_add]
      rw [List.take_of_length_le (by omega)]
  | succ k ih =>
    obtain ⟨h1, h2, h3⟩ := ih (by omega)
    rw [downTo_succ, drun_snoc]
    have hlen := drun_length xs y n (downTo n k)
    have hr := drun_lt xs y n hy (downTo n k)
    generalize drun xs y n (downTo n k) = s at *
    have hi : n - k = (n - 1 - k) + 1 := by omega
    have hX := getD_lt 1000000000 (by omega) xs hx (n - 1 - k)
    have hq := quo_lt hy hr hX
    have hv := val_take_succ 1000000000 xs (n - 1 - k)
    have hset := val_set 1000000000 s.2 (n - 1 - k) ((s.1 * 1000000000 + xs.getD (n - 1 - k) 0) / y) (by omega)
    rw [h2 (n - 1 - k) (by omega), Nat.mul_zero, Nat.add_zero] at hset
    have hn' : n - (k + 1) = n - 1 - k := by omega
    refine ⟨?_, ?_, ?_⟩
    · intro z hz
      rcases List.mem_or_eq_of_mem_set hz with hz | hz
      · exact h1 z hz
      · rw [hz]; exact hq
    · intro j hj
      simp only [dstep]
      rw [getD_set_ne _ _ _ _ (by omega)]
      exact h2 j (by omega)
    · simp only [dstep]
      rw [hn']
      rw [hi, hv, Nat.pow_succ] at h3
      generalize xs.getD (n - 1 - k) 0 = X at *
      have hm := Nat.div_add_mod (s.1 * 1000000000 + X) y
      generalize (s.1 * 1000000000 + X) / y = Q at *
      generalize (s.1 * 1000000000 + X) % y = R at *
      rw [hset, Nat.mul_add]
      have e : 1000000000 ^ (n - 1 - k) * (y * Q + R) = 1000000000 ^ (n - 1 - k) * (s.1 * 1000000000 + X) := by rw [hm]
      rw [Nat.mul_add, Nat.mul_add, Nat.mul_left_comm, Nat.mul_comm s.1, ← Nat.mul_assoc _ 1000000000] at e
      omega
/-- A short division, whole. -/
theorem drun_all (xs : List Nat) (y n : Nat) (hy : 0 < y) (hx : ∀ x ∈ xs, x < 1000000000) (hl : xs.length = n) :
    (∀ z ∈ (drun xs y n (downTo n n)).2, z < 1000000000) ∧ val 1000000000 (drun xs y n (downTo n n)).2 = val 1000000000 xs / y ∧ (drun xs y n (downTo n n)).1 = val 1000000000 xs % y := by
  obtain ⟨h1, _, h3⟩ := drun_down xs y n hy hx hl n (Nat.le_refl _)
  have hr := drun_lt xs y n hy (downTo n n)
  rw [Nat.sub_self, Nat.pow_zero, Nat.one_mul, List.take_zero] at h3
  simp only [val, Nat.add_zero] at h3
  generalize drun xs y n (downTo n n) = s at *
  refine ⟨h1, ?_, ?_⟩
  · rw [h3, Nat.mul_add_div hy, Nat.div_eq_of_lt hr, Nat.add_zero]
  · rw [h3, Nat.mul_add_mod, Nat.mod_eq_of_lt hr]
end Go.Proofs.YtpbkndmciopnjaaDoor
