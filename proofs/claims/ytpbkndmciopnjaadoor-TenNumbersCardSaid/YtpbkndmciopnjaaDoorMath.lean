/-
  Plain facts on numbers written in a base: limbs (base 10^9) and digits (base 10), the least first.
-/
namespace Go.Proofs.YtpbkndmciopnjaaDoor

/-- The value of figures, the least first. -/
def val (b : Nat) : List Nat → Nat
  | [] => 0
  | x :: r => x + b * val b r

/-- The figures of a number, the least first, none at the end that is 0. -/
def digs (b n : Nat) : List Nat :=
  if _h : 2 ≤ b ∧ n ≠ 0 then (n % b) :: digs b (n / b) else []
termination_by n
decreasing_by exact Nat.div_lt_self (by omega) (by omega)

theorem digs_zero (b : Nat) : digs b 0 = [] := by rw [digs]; simp
theorem digs_pos {b n : Nat} (hb : 2 ≤ b) (hn : n ≠ 0) : digs b n = (n % b) :: digs b (n / b) := by rw [digs]; rw [dif_pos ⟨hb, hn⟩]

/-- How many figures count. -/
def tz : List Nat → Nat
  | [] => 0
  | x :: r => if tz r = 0 ∧ x = 0 then 0 else tz r + 1

theorem tz_le (xs : List Nat) : tz xs ≤ xs.length := by
  induction xs with
  | nil => simp [tz]
  | cons x r ih => simp only [tz]; split <;> simp <;> omega
theorem tz_last (xs : List Nat) (h : 0 < tz xs) : xs.getD (tz xs - 1) 0 ≠ 0 := by
  induction xs with
  | nil => simp [tz] at h
  | cons x r ih =>
    simp only [tz] at h ⊢
    split at h
    · omega
    · rename_i hc
      rw [if_neg hc]
      by_cases h0 : tz r = 0
      · have : x ≠ 0 := fun e => hc ⟨h0, e⟩
        simpa [h0] using this
      · have := ih (by omega)
        obtain ⟨m, hm⟩ : ∃ m, tz r = m + 1 := ⟨tz r - 1, by omega⟩
        rw [hm] at this ⊢
        simpa using this
theorem tz_above (xs : List Nat) (j : Nat) (h : tz xs ≤ j) : xs.getD j 0 = 0 := by
  induction xs generalizing j with
  | nil => simp
  | cons x r ih =>
    simp only [tz] at h
    split at h
    · rename_i hc
      cases j with
      | zero => simpa using hc.2
      | succ j => simpa using ih j (by omega)
    · cases j with
      | zero => omega
      | succ j => simpa using ih j (by omega)
/-- What a loop from the end finds. -/
theorem tz_eq (xs : List Nat) (k : Nat) (h1 : ∀ j, k ≤ j → xs.getD j 0 = 0) (h2 : 0 < k → xs.getD (k - 1) 0 ≠ 0) : tz xs = k := by
  rcases Nat.lt_trichotomy (tz xs) k with h | h | h
  · exact absurd (tz_above xs (k - 1) (by omega)) (h2 (by omega))
  · exact h
  · exact absurd (h1 (tz xs - 1) (by omega)) (tz_last xs (by omega))

def trim (xs : List Nat) : List Nat := xs.take (tz xs)
theorem trim_length (xs : List Nat) : (trim xs).length = tz xs := by rw [trim, List.length_take]; exact Nat.min_eq_left (tz_le xs)

theorem val_zero_of_tz (b : Nat) (xs : List Nat) (h : tz xs = 0) : val b xs = 0 := by
  induction xs with
  | nil => rfl
  | cons x r ih =>
    simp only [tz] at h
    split at h
    · rename_i hc; simp [val, ih hc.1, hc.2]
    · omega
theorem val_pos_of_tz (b : Nat) (hb : 2 ≤ b) (xs : List Nat) (h : tz xs ≠ 0) : val b xs ≠ 0 := by
  induction xs with
  | nil => simp [tz] at h
  | cons x r ih =>
    simp only [tz] at h
    split at h
    · omega
    · rename_i hc
      simp only [val]
      by_cases h0 : tz r = 0
      · have : x ≠ 0 := fun e => hc ⟨h0, e⟩
        omega
      · have h1 := ih h0
        have : 0 < b * val b r := Nat.mul_pos (by omega) (by omega)
        omega

/-- Figures without noughts at the end are the value's. -/
theorem trim_eq_digs (b : Nat) (hb : 2 ≤ b) (xs : List Nat) (h : ∀ x ∈ xs, x < b) : trim xs = digs b (val b xs) := by
  induction xs with
  | nil => simp [trim, tz, val, digs_zero]
  | cons x r ih =>
    have hx : x < b := h x (by simp)
    have hr : ∀ y ∈ r, y < b := fun y hy => h y (by simp [hy])
    by_cases hc : tz r = 0 ∧ x = 0
    · have : val b (x :: r) = 0 := by simp [val, hc.2, val_zero_of_tz b r hc.1]
      rw [this, digs_zero]; simp [trim, tz, hc]
    · have hz : tz (x :: r) = tz r + 1 := by simp [tz, hc]
      have hv : val b (x :: r) ≠ 0 := val_pos_of_tz b hb _ (by omega)
      rw [digs_pos hb hv]
      have h1 : val b (x :: r) % b = x := by simp [val, Nat.add_mul_mod_self_left, Nat.mod_eq_of_lt hx]
      have h2 : val b (x :: r) / b = val b r := by
        simp only [val]; rw [Nat.add_mul_div_left _ _ (by omega), Nat.div_eq_of_lt hx]; omega
      rw [h1, h2, ← ih hr]
      simp [trim, hz]

theorem val_digs (b : Nat) (hb : 2 ≤ b) (n : Nat) : val b (digs b n) = n := by
  induction n using Nat.strongRecOn with
  | _ n ih =>
    by_cases hn : n = 0
    · subst hn; simp [digs_zero, val]
    · rw [digs_pos hb hn]
      simp only [val]
      rw [ih (n / b) (Nat.div_lt_self (by omega) (by omega))]
      exact Nat.mod_add_div n b
theorem digs_lt (b : Nat) (hb : 2 ≤ b) (n : Nat) : ∀ x ∈ digs b n, x < b := by
  induction n using Nat.strongRecOn with
  | _ n ih =>
    by_cases hn : n = 0
    · subst hn; simp [digs_zero]
    · rw [digs_pos hb hn]
      intro x hx
      rcases List.mem_cons.1 hx with rfl | hx
      · exact Nat.mod_lt _ (by omega)
      · exact ih (n / b) (Nat.div_lt_self (by omega) (by omega)) x hx
theorem digs_length_zero (b : Nat) (hb : 2 ≤ b) (n : Nat) : (digs b n).length = 0 ↔ n = 0 := by
  constructor
  · intro h
    have : digs b n = [] := List.length_eq_zero_iff.1 h
    have h2 := val_digs b hb n
    rw [this] at h2; simpa [val] using h2.symm
  · rintro rfl; simp [digs_zero]
theorem digs_inj (b : Nat) (hb : 2 ≤ b) {m n : Nat} (h : digs b m = digs b n) : m = n := by
  rw [← val_digs b hb m, ← val_digs b hb n, h]
theorem tz_digs (b : Nat) (hb : 2 ≤ b) (n : Nat) : tz (digs b n) = (digs b n).length := by
  have h := trim_eq_digs b hb (digs b n) (digs_lt b hb n)
  rw [val_digs b hb] at h
  have := congrArg List.length h
  rwa [trim_length] at this
theorem trim_digs (b : Nat) (hb : 2 ≤ b) (n : Nat) : trim (digs b n) = digs b n := by
  rw [trim, tz_digs b hb, List.take_length]

theorem val_append (b : Nat) (xs ys : List Nat) : val b (xs ++ ys) = val b xs + b ^ xs.length * val b ys := by
  induction xs with
  | nil => simp [val]
  | cons x r ih =>
    simp only [List.cons_append, val, ih, List.length_cons, Nat.mul_add, Nat.pow_succ]
    rw [← Nat.mul_assoc, Nat.mul_comm (b ^ r.length) b]
    omega
theorem val_lt (b : Nat) (xs : List Nat) (h : ∀ x ∈ xs, x < b) : val b xs < b ^ xs.length := by
  induction xs with
  | nil => simp [val]
  | cons x r ih =>
    have hx : x < b := h x (by simp)
    have hr := ih fun y hy => h y (by simp [hy])
    simp only [val, List.length_cons, Nat.pow_succ]
    have : b * (val b r + 1) ≤ b * b ^ r.length := Nat.mul_le_mul_left b hr
    rw [Nat.mul_comm (b ^ r.length) b]
    rw [Nat.mul_add] at this
    omega
/-- One figure more; behind the last one they are 0. -/
theorem val_take_succ (b : Nat) (xs : List Nat) (i : Nat) : val b (xs.take (i + 1)) = val b (xs.take i) + b ^ i * xs.getD i 0 := by
  by_cases h : i < xs.length
  · rw [List.take_succ_eq_append_getElem h, val_append]
    simp [val, List.length_take, Nat.min_eq_left (Nat.le_of_lt h), List.getD, List.getElem?_eq_getElem h]
  · rw [List.take_of_length_le (by omega), List.take_of_length_le (by omega)]
    simp [List.getD, List.getElem?_eq_none (Nat.not_lt.1 h)]
theorem val_take_all (b : Nat) (xs : List Nat) (i : Nat) (h : tz xs ≤ i) : val b (xs.take i) = val b xs := by
  rcases Nat.lt_or_ge i xs.length with hl | hl
  · conv => rhs; rw [← List.take_append_drop i xs]
    rw [val_append]
    have : val b (xs.drop i) = 0 := by
      apply val_zero_of_tz
      apply tz_eq _ 0
      · intro j _
        have := tz_above xs (i + j) (by omega)
        simpa [List.getD, List.getElem?_drop] using this
      · omega
    rw [this]; simp
  · rw [List.take_of_length_le hl]
theorem val_trim (b : Nat) (xs : List Nat) : val b (trim xs) = val b xs := val_take_all b xs _ (Nat.le_refl _)

theorem getD_lt (b : Nat) (hb : 0 < b) (xs : List Nat) (h : ∀ x ∈ xs, x < b) (i : Nat) : xs.getD i 0 < b := by
  by_cases hi : i < xs.length
  · simp [List.getD, List.getElem?_eq_getElem hi]; exact h _ (List.getElem_mem hi)
  · simp [List.getD, List.getElem?_eq_none (Nat.not_lt.1 hi)]; exact hb

theorem val_congr (b : Nat) (xs ys : List Nat) (h : ∀ j, xs.getD j 0 = ys.getD j 0) : val b xs = val b ys := by
  have key : ∀ n, val b (xs.take n) = val b (ys.take n) := by
    intro n
    induction n with
    | zero => simp
    | succ n ih => rw [val_take_succ, val_take_succ, ih, h n]
  have := key (max xs.length ys.length)
  rwa [List.take_of_length_le (by omega), List.take_of_length_le (by omega)] at this
/-- The first figure from above that differs decides. -/
theorem val_lt_of (b : Nat) (hb : 0 < b) (xs ys : List Nat) (hx : ∀ x ∈ xs, x < b) (i : Nat)
    (h : ∀ j, i < j → xs.getD j 0 = ys.getD j 0) (hi : xs.getD i 0 < ys.getD i 0) : val b xs < val b ys := by
  have key : ∀ m, val b (xs.take (i + 1 + m)) < val b (ys.take (i + 1 + m)) := by
    intro m
    induction m with
    | zero =>
      rw [Nat.add_zero, val_take_succ, val_take_succ]
      have h1 : val b (xs.take i) < b ^ i := by
        refine Nat.lt_of_lt_of_le (val_lt b _ fun x hx' => hx x (List.mem_of_mem_take hx')) ?_
        exact Nat.pow_le_pow_right hb (by simp; omega)
      have h2 : b ^ i * (xs.getD i 0 + 1) ≤ b ^ i * ys.getD i 0 := Nat.mul_le_mul_left _ hi
      rw [Nat.mul_add] at h2
      omega
    | succ m ih =>
      rw [← Nat.add_assoc, val_take_succ, val_take_succ, h (i + 1 + m) (by omega)]
      omega
  have := key (max xs.length ys.length)
  rwa [List.take_of_length_le (by omega), List.take_of_length_le (by omega)] at this
theorem val_lt_of_tz (b : Nat) (hb : 2 ≤ b) (xs ys : List Nat) (hx : ∀ x ∈ xs, x < b) (h : tz xs < tz ys) : val b xs < val b ys := by
  apply val_lt_of b (by omega) xs ys hx (tz ys - 1)
  · intro j hj
    rw [tz_above xs j (by omega), tz_above ys j (by omega)]
  · rw [tz_above xs _ (by omega)]
    have := tz_last ys (by omega)
    omega
end Go.Proofs.YtpbkndmciopnjaaDoor
