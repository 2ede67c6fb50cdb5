/-
  RdM: plain facts on rounding: near, in order, again, turned, scaled.
-/
import Derived.Test.YtonanpnacoegcaaDoorKH
set_option maxRecDepth 100000
namespace Go.Proofs.YtonanpnacoegcaaDoor
open Go.RowKit
/-- A number of small steps, W of them a great one, rounded; what is a multiple stays. -/
def rndN (m : Int) (neg : Bool) (X W : Nat) : Nat := if X % W = 0 then X else roundN m neg X W
theorem rndN_mult {m : Int} {neg : Bool} {X W : Nat} (h : X % W = 0) : rndN m neg X W = X := by rw [rndN, if_pos h]
theorem rndN_zero (m : Int) (neg : Bool) (W : Nat) : rndN m neg 0 W = 0 := rndN_mult (Nat.zero_mod W)
/-- It is one of both multiples about it. -/
theorem rndN_cases (m : Int) (neg : Bool) (X W : Nat) : (X % W = 0 ∧ rndN m neg X W = X) ∨ (X % W ≠ 0 ∧ upN m neg X W = true ∧ rndN m neg X W = (X / W + 1) * W) ∨ (X % W ≠ 0 ∧ upN m neg X W = false ∧ rndN m neg X W = X / W * W) := by
  by_cases h : X % W = 0
  · exact .inl ⟨h, rndN_mult h⟩
  · right
    rw [rndN, if_neg h, roundN]
    rcases hu : upN m neg X W with _ | _
    · exact .inr ⟨h, rfl, by simp⟩
    · exact .inl ⟨h, rfl, by simp⟩
theorem rndN_mod (m : Int) (neg : Bool) (X W : Nat) : rndN m neg X W % W = 0 := by
  rcases rndN_cases m neg X W with ⟨h, e⟩ | ⟨_, _, e⟩ | ⟨_, _, e⟩
  · rw [e, h]
  · rw [e]; exact Nat.mul_mod_left _ _
  · rw [e]; exact Nat.mul_mod_left _ _
theorem div_step (X W : Nat) : X = X / W * W + X % W := by have := Nat.div_add_mod X W; rw [Nat.mul_comm] at this; omega
/-- Less than a step off. -/
theorem rndN_near (m : Int) (neg : Bool) (X W : Nat) (hW : 0 < W) : rndN m neg X W < X + W ∧ X < rndN m neg X W + W := by
  have h1 := div_step X W
  have h2 := Nat.mod_lt X hW
  rcases rndN_cases m neg X W with ⟨h, e⟩ | ⟨h, _, e⟩ | ⟨h, _, e⟩
  · omega
  · rw [e, Nat.add_mul, Nat.one_mul]; omega
  · rw [e]; omega
/-- By halves at most half a step. -/
theorem rndN_half {m : Int} (hm : m = 4 ∨ m = 5 ∨ m = 6) (neg : Bool) (X W : Nat) (hW : 0 < W) : 2 * rndN m neg X W ≤ 2 * X + W ∧ 2 * X ≤ 2 * rndN m neg X W + W := by
  have h1 := div_step X W
  have h2 := Nat.mod_lt X hW
  rcases rndN_cases m neg X W with ⟨h, e⟩ | ⟨h, hu, e⟩ | ⟨h, hu, e⟩
  · omega
  · have h3 : W ≤ 2 * (X % W) := by
      rcases cmpZ_cases ((2 * (X % W) : Nat) : Int) (W : Int) with h4 | h4 | h4
      · exfalso
        unfold upN upB at hu
        rw [h4.2] at hu
        rcases hm with rfl | rfl | rfl <;> simp at hu
      · omega
      · omega
    rw [e, Nat.add_mul, Nat.one_mul]; omega
  · have h3 : 2 * (X % W) ≤ W := by
      rcases cmpZ_cases ((2 * (X % W) : Nat) : Int) (W : Int) with h4 | h4 | h4
      · omega
      · omega
      · exfalso
        unfold upN upB at hu
        rw [h4.2] at hu
        rcases hm with rfl | rfl | rfl <;> simp at hu
    rw [e]; omega
theorem rndN_ge_of_up {m : Int} {neg : Bool} (h : ∀ odd half, upB m neg odd half = true) (X W : Nat) (hW : 0 < W) : X ≤ rndN m neg X W := by
  have h1 := div_step X W
  have h2 := Nat.mod_lt X hW
  rcases rndN_cases m neg X W with ⟨_, e⟩ | ⟨_, _, e⟩ | ⟨_, hu, _⟩
  · omega
  · rw [e, Nat.add_mul, Nat.one_mul]; omega
  · rw [upN, h] at hu; cases hu
theorem rndN_le_of_down {m : Int} {neg : Bool} (h : ∀ odd half, upB m neg odd half = false) (X W : Nat) : rndN m neg X W ≤ X := by
  have h1 := div_step X W
  rcases rndN_cases m neg X W with ⟨_, e⟩ | ⟨_, hu, _⟩ | ⟨_, _, e⟩
  · omega
  · rw [upN, h] at hu; cases hu
  · omega
/-- Ceiling is never below, Floor never above. -/
theorem rnd_ceil (neg : Bool) (X W : Nat) (hW : 0 < W) : sv neg X ≤ sv neg (rndN 0 neg X W) := by
  cases neg
  · have := rndN_ge_of_up (m := 0) (neg := false) (fun _ _ => rfl) X W hW
    simp only [sv, Bool.false_eq_true, if_false]; omega
  · have := rndN_le_of_down (m := 0) (neg := true) (fun _ _ => rfl) X W
    simp only [sv, if_true]; omega
theorem rnd_floor (neg : Bool) (X W : Nat) (hW : 0 < W) : sv neg (rndN 1 neg X W) ≤ sv neg X := by
  cases neg
  · have := rndN_le_of_down (m := 1) (neg := false) (fun _ _ => rfl) X W
    simp only [sv, Bool.false_eq_true, if_false]; omega
  · have := rndN_ge_of_up (m := 1) (neg := true) (fun _ _ => rfl) X W hW
    simp only [sv, if_true]; omega
theorem upB_mono (m : Int) (neg odd : Bool) {h h' : Int} (hh : h ≤ h') (hu : upB m neg odd h = true) : upB m neg odd h' = true := by
  unfold upB at hu ⊢
  by_cases h0 : m = 0
  · rw [if_pos h0] at hu ⊢; exact hu
  rw [if_neg h0] at hu ⊢
  by_cases h1 : m = 1
  · rw [if_pos h1] at hu ⊢; exact hu
  rw [if_neg h1] at hu ⊢
  by_cases h2 : m = 2
  · rw [if_pos h2]
  rw [if_neg h2] at hu ⊢
  by_cases h4 : m = 4
  · rw [if_pos h4] at hu ⊢
    simp only [Bool.or_eq_true, Bool.and_eq_true, decide_eq_true_eq] at hu ⊢
    rcases hu with hu | ⟨hu, ho⟩
    · left; omega
    · by_cases h5 : h' = 0
      · exact .inr ⟨h5, ho⟩
      · left; omega
  rw [if_neg h4] at hu ⊢
  by_cases h5 : m = 5
  · rw [if_pos h5] at hu ⊢
    simp only [decide_eq_true_eq] at hu ⊢; omega
  rw [if_neg h5] at hu ⊢
  by_cases h6 : m = 6
  · rw [if_pos h6] at hu ⊢
    simp only [decide_eq_true_eq] at hu ⊢; omega
  rw [if_neg h6] at hu
  cases hu
theorem cmpZ_mono {a b c : Int} (h : a ≤ b) : cmpZ a c ≤ cmpZ b c := by rcases cmpZ_cases a c with h1 | h1 | h1 <;> rcases cmpZ_cases b c with h2 | h2 | h2 <;> omega
/-- Without their signs: rounding never turns the order. -/
theorem rndN_mono (m : Int) (neg : Bool) {X Y W : Nat} (hW : 0 < W) (h : X ≤ Y) : rndN m neg X W ≤ rndN m neg Y W := by
  have hx := div_step X W
  have hy := div_step Y W
  have mx := Nat.mod_lt X hW
  have hq : X / W ≤ Y / W := Nat.div_le_div_right h
  rcases Nat.lt_or_ge (X / W) (Y / W) with hlt | hge
  · have h1 : (X / W + 1) * W ≤ Y / W * W := Nat.mul_le_mul_right _ hlt
    have h2 : rndN m neg X W ≤ (X / W + 1) * W := by
      rcases rndN_cases m neg X W with ⟨_, e⟩ | ⟨_, _, e⟩ | ⟨_, _, e⟩
      · rw [e, Nat.add_mul, Nat.one_mul]; omega
      · omega
      · rw [e]; exact Nat.mul_le_mul_right _ (by omega)
    have h3 : Y / W * W ≤ rndN m neg Y W := by
      rcases rndN_cases m neg Y W with ⟨_, e⟩ | ⟨_, _, e⟩ | ⟨_, _, e⟩
      · omega
      · rw [e]; exact Nat.mul_le_mul_right _ (by omega)
      · omega
    omega
  · have hqq : X / W = Y / W := by omega
    have hr : X % W ≤ Y % W := by rw [hqq] at hx; omega
    rcases rndN_cases m neg X W with ⟨h0, e⟩ | ⟨h0, hu, e⟩ | ⟨h0, hu, e⟩
    · rcases rndN_cases m neg Y W with ⟨_, e'⟩ | ⟨_, _, e'⟩ | ⟨_, _, e'⟩
      · omega
      · rw [e', ← hqq, Nat.add_mul]; omega
      · rw [e', ← hqq]; omega
    · have hu2 : upN m neg Y W = true := by
        unfold upN at hu ⊢
        rw [hqq] at hu
        exact upB_mono m neg _ (cmpZ_mono (by omega)) hu
      rcases rndN_cases m neg Y W with ⟨h1, _⟩ | ⟨_, _, e'⟩ | ⟨_, hu', _⟩
      · omega
      · rw [e, e', hqq]; exact Nat.le_refl _
      · rw [hu2] at hu'; cases hu'
    · rcases rndN_cases m neg Y W with ⟨_, e'⟩ | ⟨_, _, e'⟩ | ⟨_, _, e'⟩
      · rw [e, e', hqq]; omega
      · rw [e, e', hqq]; exact Nat.mul_le_mul_right _ (by omega)
      · rw [e, e', hqq]; exact Nat.le_refl _
/-- With their signs: .. -/
theorem rnd_mono (m : Int) {n k : Bool} {X Y W : Nat} (hW : 0 < W) (h : sv n X ≤ sv k Y) : sv n (rndN m n X W) ≤ sv k (rndN m k Y W) := by
  cases n <;> cases k
  · have h1 : X ≤ Y := by simp [sv] at h; omega
    have := rndN_mono m false hW h1
    simp only [sv, Bool.false_eq_true, if_false]; omega
  · have h1 : X = 0 ∧ Y = 0 := by simp [sv] at h; omega
    rw [h1.1, h1.2, rndN_zero, rndN_zero]; simp [sv]
  · simp only [sv, Bool.false_eq_true, if_false, if_true]; omega
  · have h1 : Y ≤ X := by simp [sv] at h; omega
    have := rndN_mono m true hW h1
    simp only [sv, if_true]; omega
/-- The way that is it with the other sign. -/
def turnM (m : Int) : Int := if m = 0 then 1 else if m = 1 then 0 else m
theorem upB_turn (m : Int) (neg odd : Bool) (half : Int) : upB (turnM m) (!neg) odd half = upB m neg odd half := by
  unfold turnM
  by_cases h0 : m = 0
  · subst h0; simp [upB]
  · rw [if_neg h0]
    by_cases h1 : m = 1
    · subst h1; simp [upB]
    · rw [if_neg h1]; simp [upB, h0, h1]
theorem rndN_turn (m : Int) (neg : Bool) (X W : Nat) : rndN (turnM m) (!neg) X W = rndN m neg X W := by
  unfold rndN roundN upN
  rw [upB_turn]
/-- Both times one number: the same. -/
theorem rndN_scale (m : Int) (neg : Bool) (X W k : Nat) (hk : 0 < k) : rndN m neg (X * k) (W * k) = rndN m neg X W * k := by
  have h1 : X * k / (W * k) = X / W := Nat.mul_div_mul_right _ _ hk
  have h2 : X * k % (W * k) = X % W * k := Nat.mul_mod_mul_right _ _ _
  have h3 : upN m neg (X * k) (W * k) = upN m neg X W := by
    unfold upN
    rw [h1, h2, show ((2 * (X % W * k) : Nat) : Int) = ((2 * (X % W) : Nat) : Int) * (k : Int) by push_cast; rw [Int.mul_assoc], show ((W * k : Nat) : Int) = (W : Int) * (k : Int) by push_cast; rfl, cmpZ_mul _ _ k hk]
  unfold rndN roundN
  rw [h1, h2, h3]
  by_cases h : X % W = 0
  · rw [if_pos h, if_pos (by rw [h, Nat.zero_mul])]
  · rw [if_neg h, if_neg (by have := Nat.mul_pos (Nat.pos_of_ne_zero h) hk; omega), Nat.mul_assoc]
/-- Rounded again, at that place or a finer one, it stays. -/
theorem rndN_again (m m' : Int) (neg neg' : Bool) (X W V : Nat) (h : W % V = 0) : rndN m' neg' (rndN m neg X W) V = rndN m neg X W := by
  refine rndN_mult ?_
  have h1 := rndN_mod m neg X W
  obtain ⟨a, ha⟩ := Nat.dvd_of_mod_eq_zero h1
  obtain ⟨b, hb⟩ := Nat.dvd_of_mod_eq_zero h
  rw [ha, hb, Nat.mul_assoc]
  exact Nat.mul_mod_right _ _
end Go.Proofs.YtonanpnacoegcaaDoor
