/-
  SgM: plain facts on rounding to digits: bounds, order, the number of digits.
-/
import Derived.Test.YtonanpnacoegcaaDoorRdM
set_option maxRecDepth 100000
namespace Go.Proofs.YtonanpnacoegcaaDoor
open Go.RowKit
theorem pow_mod_pow {i j : Nat} (h : i ≤ j) : 10 ^ j % 10 ^ i = 0 := by
  obtain ⟨k, rfl⟩ : ∃ k, j = i + k := ⟨j - i, by omega⟩
  rw [Nat.pow_add]
  exact Nat.mul_mod_right _ _
/-- Rounded to n of its digits a number has as many, or is the next power of ten. -/
theorem sig_ge {X n : Nat} (m : Int) (neg : Bool) (hX : X ≠ 0) (hn : 1 ≤ n) (hnL : n ≤ (decs X).length) :
    10 ^ ((decs X).length - 1) ≤ rndN m neg X (10 ^ ((decs X).length - n)) := by
  have h := rndN_mono m neg (pow_pos10 ((decs X).length - n)) (decs_ge hX)
  rwa [rndN_mult (pow_mod_pow (by omega))] at h
theorem sig_le {X n : Nat} (m : Int) (neg : Bool) (hn : 1 ≤ n) :
    rndN m neg X (10 ^ ((decs X).length - n)) ≤ 10 ^ (decs X).length := by
  have h := rndN_mono m neg (pow_pos10 ((decs X).length - n)) (Nat.le_of_lt (lt_pow_decs X))
  rwa [rndN_mult (pow_mod_pow (by omega))] at h
/-- The order stays, even where one has a digit more. -/
theorem sig_mono {X Y n : Nat} (m : Int) (neg : Bool) (hX : X ≠ 0) (hn : 1 ≤ n) (hnX : n ≤ (decs X).length) (h : X ≤ Y) :
    rndN m neg X (10 ^ ((decs X).length - n)) ≤ rndN m neg Y (10 ^ ((decs Y).length - n)) := by
  have hl := decs_length_le h
  rcases Nat.lt_or_ge (decs X).length (decs Y).length with h1 | h1
  · have h2 := sig_le (X := X) (n := n) m neg hn
    have h3 := sig_ge (X := Y) (n := n) m neg (by omega) hn (by omega)
    have h4 : 10 ^ (decs X).length ≤ 10 ^ ((decs Y).length - 1) := Nat.pow_le_pow_right (by omega) (by omega)
    omega
  · have h2 : (decs Y).length = (decs X).length := by omega
    rw [h2]
    exact rndN_mono m neg (pow_pos10 _) h
theorem nq_len_of {c j n : Nat} (h : c < 10 ^ n) : (decs (nq (c * 10 ^ j))).length ≤ n := by
  by_cases h0 : c = 0
  · subst h0; rw [Nat.zero_mul, nq_zero, decs_zero]; simp
  · rw [(nq_mul h0 j).1]
    exact decs_len (Nat.lt_of_le_of_lt (nq_le c) h)
/-- It has no more digits than these. -/
theorem sig_count {X n : Nat} (m : Int) (neg : Bool) (hn : 1 ≤ n) (hnL : n ≤ (decs X).length) :
    (decs (nq (rndN m neg X (10 ^ ((decs X).length - n))))).length ≤ n := by
  have h1 := sig_le (X := X) (n := n) m neg hn
  obtain ⟨c, hc⟩ := Nat.dvd_of_mod_eq_zero (rndN_mod m neg X (10 ^ ((decs X).length - n)))
  rw [hc] at h1 ⊢
  rw [Nat.mul_comm]
  rcases Nat.lt_or_ge c (10 ^ n) with h2 | h2
  · exact nq_len_of h2
  · have e : 10 ^ (decs X).length = 10 ^ ((decs X).length - n) * 10 ^ n := by rw [← Nat.pow_add]; congr 1; omega
    rw [e] at h1
    have h3 : c ≤ 10 ^ n := Nat.le_of_mul_le_mul_left h1 (pow_pos10 _)
    have h4 : c = 1 * 10 ^ n := by omega
    rw [h4, Nat.mul_assoc, ← Nat.pow_add]
    refine Nat.le_trans (nq_len_of (n := 1) (by omega)) hn
/-- Rounded again to as many digits it stays. -/
theorem sig_again {X n : Nat} (m m' : Int) (neg neg' : Bool) (hX : X ≠ 0) (hn : 1 ≤ n) (hnL : n ≤ (decs X).length) :
    rndN m' neg' (rndN m neg X (10 ^ ((decs X).length - n))) (10 ^ ((decs (rndN m neg X (10 ^ ((decs X).length - n)))).length - n)) = rndN m neg X (10 ^ ((decs X).length - n)) := by
  have h1 := sig_le (X := X) (n := n) m neg hn
  have h2 := sig_ge (X := X) (n := n) m neg hX hn hnL
  have hmod := rndN_mod m neg X (10 ^ ((decs X).length - n))
  have hL := decs_pos hX
  generalize rndN m neg X (10 ^ ((decs X).length - n)) = R at *
  refine rndN_mult ?_
  rcases Nat.lt_or_ge R (10 ^ (decs X).length) with h3 | h3
  · have h4 := decs_len h3
    exact Nat.mod_eq_zero_of_dvd (Nat.dvd_trans (Nat.pow_dvd_pow 10 (by omega)) (Nat.dvd_of_mod_eq_zero hmod))
  · obtain rfl : R = 10 ^ (decs X).length := by omega
    have h4 : (decs (10 ^ (decs X).length)).length ≤ (decs X).length + 1 := decs_len (Nat.pow_lt_pow_right (by omega) (by omega))
    exact pow_mod_pow (by omega)
/-- Its first digit's place. -/
theorem sig_len {X n : Nat} (m : Int) (neg : Bool) (hX : X ≠ 0) (hn : 1 ≤ n) (hnL : n ≤ (decs X).length) :
    (decs X).length ≤ (decs (rndN m neg X (10 ^ ((decs X).length - n)))).length ∧ (decs (rndN m neg X (10 ^ ((decs X).length - n)))).length ≤ (decs X).length + 1 := by
  have h1 := sig_le (X := X) (n := n) m neg hn
  have h2 := sig_ge (X := X) (n := n) m neg hX hn hnL
  have h3 := decs_pos hX
  refine ⟨?_, decs_len (Nat.lt_of_le_of_lt h1 (Nat.pow_lt_pow_right (by omega) (by omega)))⟩
  have h4 := (pow_le_iff _ _).1 h2
  omega
end Go.Proofs.YtonanpnacoegcaaDoor
