/-
  Plain facts on long division.
-/
import Derived.Test.YtpbkndmciopnjaaDoorDivMath
namespace Go.Proofs.YtpbkndmciopnjaaDoor
theorem val_drop {xs : List Nat} (h : ∀ x ∈ xs, x < 1000000000) (k : Nat) : val 1000000000 (xs.drop k) = val 1000000000 xs / 1000000000 ^ k := by
  rcases Nat.lt_or_ge k xs.length with hl | hl
  · have e := val_append 1000000000 (xs.take k) (xs.drop k)
    rw [List.take_append_drop, List.length_take, Nat.min_eq_left (Nat.le_of_lt hl)] at e
    have h1 := val_lt 1000000000 (xs.take k) fun x hx => h x (List.mem_of_mem_take hx)
    rw [List.length_take, Nat.min_eq_left (Nat.le_of_lt hl)] at h1
    rw [e, Nat.add_mul_div_left _ _ (Nat.pow_pos (by omega)), Nat.div_eq_of_lt h1, Nat.zero_add]
  · rw [List.drop_eq_nil_of_le hl]
    have h1 := val_lt 1000000000 xs h
    have h2 : 1000000000 ^ xs.length ≤ 1000000000 ^ k := Nat.pow_le_pow_right (by omega) hl
    rw [Nat.div_eq_of_lt (Nat.lt_of_lt_of_le h1 h2)]
    rfl
theorem val_drop_succ {xs : List Nat} {k : Nat} (hk : k < xs.length) : val 1000000000 (xs.drop k) = val 1000000000 (xs.drop (k + 1)) * 1000000000 + xs.getD k 0 := by
  rw [List.drop_eq_getElem_cons hk]
  simp only [val, List.getD, List.getElem?_eq_getElem hk, Option.getD_some]
  omega
/-- Numbers of n limbs, the last one not 0. -/
theorem pow_le_val {ys : List Nat} {n : Nat} (hl : ys.length = n) (hn : 0 < n) (h0 : ys.getD (n - 1) 0 ≠ 0) (h : ∀ y ∈ ys, y < 1000000000) : 1000000000 ^ (n - 1) ≤ val 1000000000 ys := by
  have h1 := val_drop_succ (xs := ys) (k := n - 1) (by omega)
  rw [val_drop h] at h1
  have h2 : 1 ≤ val 1000000000 ys / 1000000000 ^ (n - 1) := by omega
  have := (Nat.le_div_iff_mul_le (Nat.pow_pos (by omega : 0 < 1000000000))).1 h2
  omega
theorem digs_pow_le {v m : Nat} (hm : (digs 1000000000 v).length = m) (h : 0 < m) : 1000000000 ^ (m - 1) ≤ v := by
  have h0 := tz_last (digs 1000000000 v) (by rw [tz_digs 1000000000 (by omega)]; omega)
  rw [tz_digs 1000000000 (by omega), hm] at h0
  have := pow_le_val hm h h0 (digs_lt 1000000000 (by omega) v)
  rwa [val_digs 1000000000 (by omega)] at this
theorem digs_len_pos {v k : Nat} (h : 1000000000 ^ k ≤ v) : k < (digs 1000000000 v).length := by
  rcases Nat.lt_or_ge k (digs 1000000000 v).length with hl | hl
  · exact hl
  · have h1 := val_lt 1000000000 (digs 1000000000 v) (digs_lt 1000000000 (by omega) v)
    rw [val_digs 1000000000 (by omega)] at h1
    have h2 : 1000000000 ^ (digs 1000000000 v).length ≤ 1000000000 ^ k := Nat.pow_le_pow_right (by omega) hl
    omega
theorem digs_len_mono {u v : Nat} (h : u ≤ v) : (digs 1000000000 u).length ≤ (digs 1000000000 v).length := by
  rcases Nat.eq_zero_or_pos (digs 1000000000 u).length with h0 | h0
  · omega
  · have := digs_pow_le rfl h0
    have := digs_len_pos (Nat.le_trans this h)
    omega
/-- The guess by the last limb is never too small. -/
theorem guess_ge {a b L k : Nat} (hL : L * 1000000000 ^ k ≤ b) (hL0 : 0 < L) (ha : a < 1000000000 * b) : a / b ≤ min (a / 1000000000 ^ k / L) 999999999 := by
  have hp : 0 < 1000000000 ^ k := Nat.pow_pos (by omega)
  have hb : 0 < b := Nat.lt_of_lt_of_le (Nat.mul_pos hL0 hp) hL
  apply Nat.le_min.2
  constructor
  · rw [Nat.le_div_iff_mul_le hL0, Nat.le_div_iff_mul_le hp, Nat.mul_assoc]
    exact Nat.le_trans (Nat.mul_le_mul_left _ hL) (Nat.div_mul_le_self a b)
  · have : a / b < 1000000000 := by rw [Nat.div_lt_iff_lt_mul hb]; omega
    omega
/-- One limb of a long division. -/
theorem long_step {A y V R T X p P : Nat} (h : A = y * V + p * 1000000000 * R + (P + p * X)) (hT : T = R * 1000000000 + X) :
    A = y * (V + p * (T / y)) + p * (T % y) + P := by
  have hm := Nat.div_add_mod T y
  generalize T / y = Q at *
  generalize T % y = Z at *
  have e : p * (y * Q + Z) = p * (R * 1000000000 + X) := by rw [hm, hT]
  rw [Nat.mul_add, Nat.mul_add, Nat.mul_left_comm, Nat.mul_comm R, ← Nat.mul_assoc _ 1000000000] at e
  rw [Nat.mul_add]
  omega
theorem digs_len9' {v k : Nat} (h : v < 1000000000 ^ k) : (digs 1000000000 v).length ≤ k := by
  rcases Nat.lt_or_ge k (digs 1000000000 v).length with hl | hl
  · have h1 := digs_pow_le (v := v) rfl (by omega)
    have h2 : 1000000000 ^ k ≤ 1000000000 ^ ((digs 1000000000 v).length - 1) := Nat.pow_le_pow_right (by omega) (by omega)
    omega
  · exact hl
theorem step_lt {R y X : Nat} (h : R < y) (hx : X < 1000000000) : R * 1000000000 + X < 1000000000 * y := by
  have : (R + 1) * 1000000000 ≤ y * 1000000000 := Nat.mul_le_mul_right _ h
  omega
end Go.Proofs.YtpbkndmciopnjaaDoor
