/-
  KI: RdM, SgM, P8M, Rf8.
-/
import Derived.Test.YtekanlcfgfllcaaDoorKH
import Derived.Test.YtekanlcfgfllcaaDoorMd7
/- RdM -/
/-
  RdM: plain facts on rounding: near, in order, again, turned, scaled.
-/
set_option maxRecDepth 100000
namespace Go.Proofs.YtekanlcfgfllcaaDoor
open Go.RowKit
/-- A number of small steps, W of them a great one, rounded; what is a multiple stays. -/
def rndN (m : Int) (neg : Bool) (X W : Nat) : Nat := if X % W = 0 then X else roundN m neg X W
theorem rndN_mult {m : Int} {neg : Bool} {X W : Nat} (h : X % W = 0) : rndN m neg X W = X := by rw [rndN, if_pos h]
theorem rndN_zero (m : Int) (neg : Bool) (W : Nat) : rndN m neg 0 W = 0 := rndN_mult (Nat.zero_mod W)
/-- It is one of both multiples about it. -/
theorem rndN_cases (m : Int) (neg : Bool) (X W : Nat) : (X % W = 0 ∧ rndN m neg X W = X) ∨ (X % W ≠ 0 ∧ upN m neg X W = true ∧ rndN m neg X W = (X / W + 1) * W) ∨ (X % W ≠ 0 ∧ upN m neg X W = false ∧ rndN m neg X W = X / W * W) := by
  by_cases h : X % W = 0
  · exact .inl ⟨h, rndN_mult h⟩
  · right
    rw [rndN, if_neg h, roundN]
    rcases hu : upN m neg X W with _ | _
    · exact .inr ⟨h, rfl, by simp⟩
    · exact .inl ⟨h, rfl, by simp⟩
theorem rndN_mod (m : Int) (neg : Bool) (X W : Nat) : rndN m neg X W % W = 0 := by
  rcases rndN_cases m neg X W with ⟨h, e⟩ | ⟨_, _, e⟩ | ⟨_, _, e⟩
  · rw [e, h]
  · rw [e]; exact Nat.mul_mod_left _ _
  · rw [e]; exact Nat.mul_mod_left _ _
theorem div_step (X W : Nat) : X = X / W * W + X % W := by have := Nat.div_add_mod X W; rw [Nat.mul_comm] at this; omega
/-- Less than a step off. -/
theorem rndN_near (m : Int) (neg : Bool) (X W : Nat) (hW : 0 < W) : rndN m neg X W < X + W ∧ X < rndN m neg X W + W := by
  have h1 := div_step X W
  have h2 := Nat.mod_lt X hW
  rcases rndN_cases m neg X W with ⟨h, e⟩ | ⟨h, _, e⟩ | ⟨h, _, e⟩
  · omega
  · rw [e, Nat.add_mul, Nat.one_mul]; omega
  · rw [e]; omega
/-- By halves at most half a step. -/
theorem rndN_half {m : Int} (hm : m = 4 ∨ m = 5 ∨ m = 6) (neg : Bool) (X W : Nat) (hW : 0 < W) : 2 * rndN m neg X W ≤ 2 * X + W ∧ 2 * X ≤ 2 * rndN m neg X W + W := by
  have h1 := div_step X W
  have h2 := Nat.mod_lt X hW
  rcases rndN_cases m neg X W with ⟨h, e⟩ | ⟨h, hu, e⟩ | ⟨h, hu, e⟩
  · omega
  · have h3 : W ≤ 2 * (X % W) := by
      rcases cmpZ_cases ((2 * (X % W) : Nat) : Int) (W : Int) with h4 | h4 | h4
      · exfalso
        unfold upN upB at hu
        rw [h4.2] at hu
        rcases hm with rfl | rfl | rfl <;> simp at hu
      · omega
      · omega
    rw [e, Nat.add_mul, Nat.one_mul]; omega
  · have h3 : 2 * (X % W) ≤ W := by
      rcases cmpZ_cases ((2 * (X % W) : Nat) : Int) (W : Int) with h4 | h4 | h4
      · omega
      · omega
      · exfalso
        unfold upN upB at hu
        rw [h4.2] at hu
        rcases hm with rfl | rfl | rfl <;> simp at hu
    rw [e]; omega
theorem rndN_ge_of_up {m : Int} {neg : Bool} (h : ∀ odd half, upB m neg odd half = true) (X W : Nat) (hW : 0 < W) : X ≤ rndN m neg X W := by
  have h1 := div_step X W
  have h2 := Nat.mod_lt X hW
  rcases rndN_cases m neg X W with ⟨_, e⟩ | ⟨_, _, e⟩ | ⟨_, hu, _⟩
  · omega
  · rw [e, Nat.add_mul, Nat.one_mul]; omega
  · rw [upN, h] at hu; cases hu
theorem rndN_le_of_down {m : Int} {neg : Bool} (h : ∀ odd half, upB m neg odd half = false) (X W : Nat) : rndN m neg X W ≤ X := by
  have h1 := div_step X W
  rcases rndN_cases m neg X W with ⟨_, e⟩ | ⟨_, hu, _⟩ | ⟨_, _, e⟩
  · omega
  · rw [upN, h] at hu; cases hu
  · omega
/-- Ceiling is never below, Floor never above. -/
theorem rnd_ceil (neg : Bool) (X W : Nat) (hW : 0 < W) : sv neg X ≤ sv neg (rndN 0 neg X W) := by
  cases neg
  · have := rndN_ge_of_up (m := 0) (neg := false) (fun _ _ => rfl) X W hW
    simp only [sv, Bool.false_eq_true, if_false]; omega
  · have := rndN_le_of_down (m := 0) (neg := true) (fun _ _ => rfl) X W
    simp only [sv, if_true]; omega
theorem rnd_floor (neg : Bool) (X W : Nat) (hW : 0 < W) : sv neg (rndN 1 neg X W) ≤ sv neg X := by
  cases neg
  · have := rndN_le_of_down (m := 1) (neg := false) (fun _ _ => rfl) X W
    simp only [sv, Bool.false_eq_true, if_false]; omega
  · have := rndN_ge_of_up (m := 1) (neg := true) (fun _ _ => rfl) X W hW
    simp only [sv, if_true]; omega
theorem upB_mono (m : Int) (neg odd : Bool) {h h' : Int} (hh : h ≤ h') (hu : upB m neg odd h = true) : upB m neg odd h' = true := by
  unfold upB at hu ⊢
  by_cases h0 : m = 0
  · rw [if_pos h0] at hu ⊢; exact hu
  rw [if_neg h0] at hu ⊢
  by_cases h1 : m = 1
  · rw [if_pos h1] at hu ⊢; exact hu
  rw [if_neg h1] at hu ⊢
  by_cases h2 : m = 2
  · rw [if_pos h2]
  rw [if_neg h2] at hu ⊢
  by_cases h4 : m = 4
  · rw [if_pos h4] at hu ⊢
    simp only [Bool.or_eq_true, Bool.and_eq_true, decide_eq_true_eq] at hu ⊢
    rcases hu with hu | ⟨hu, ho⟩
    · left; omega
    · by_cases h5 : h' = 0
      · exact .inr ⟨h5, ho⟩
      · left; omega
  rw [if_neg h4] at hu ⊢
  by_cases h5 : m = 5
  · rw [if_pos h5] at hu ⊢
    simp only [decide_eq_true_eq] at hu ⊢; omega
  rw [if_neg h5] at hu ⊢
  by_cases h6 : m = 6
  · rw [if_pos h6] at hu ⊢
    simp only [decide_eq_true_eq] at hu ⊢; omega
  rw [if_neg h6] at hu
  cases hu
theorem cmpZ_mono {a b c : Int} (h : a ≤ b) : cmpZ a c ≤ cmpZ b c := by rcases cmpZ_cases a c with h1 | h1 | h1 <;> rcases cmpZ_cases b c with h2 | h2 | h2 <;> omega
/-- Without their signs: rounding never turns the order. -/
theorem rndN_mono (m : Int) (neg : Bool) {X Y W : Nat} (hW : 0 < W) (h : X ≤ Y) : rndN m neg X W ≤ rndN m neg Y W := by
  have hx := div_step X W
  have hy := div_step Y W
  have mx := Nat.mod_lt X hW
  have hq : X / W ≤ Y / W := Nat.div_le_div_right h
  rcases Nat.lt_or_ge (X / W) (Y / W) with hlt | hge
  · have h1 : (X / W + 1) * W ≤ Y / W * W := Nat.mul_le_mul_right _ hlt
    have h2 : rndN m neg X W ≤ (X / W + 1) * W := by
      rcases rndN_cases m neg X W with ⟨_, e⟩ | ⟨_, _, e⟩ | ⟨_, _, e⟩
      · rw [e, Nat.add_mul, Nat.one_mul]; omega
      · omega
      · rw [e]; exact Nat.mul_le_mul_right _ (by omega)
    have h3 : Y / W * W ≤ rndN m neg Y W := by
      rcases rndN_cases m neg Y W with ⟨_, e⟩ | ⟨_, _, e⟩ | ⟨_, _, e⟩
      · omega
      · rw [e]; exact Nat.mul_le_mul_right _ (by omega)
      · omega
    omega
  · have hqq : X / W = Y / W := by omega
    have hr : X % W ≤ Y % W := by rw [hqq] at hx; omega
    rcases rndN_cases m neg X W with ⟨h0, e⟩ | ⟨h0, hu, e⟩ | ⟨h0, hu, e⟩
    · rcases rndN_cases m neg Y W with ⟨_, e'⟩ | ⟨_, _, e'⟩ | ⟨_, _, e'⟩
      · omega
      · rw [e', ← hqq, Nat.add_mul]; omega
      · rw [e', ← hqq]; omega
    · have hu2 : upN m neg Y W = true := by
        unfold upN at hu ⊢
        rw [hqq] at hu
        exact upB_mono m neg _ (cmpZ_mono (by omega)) hu
      rcases rndN_cases m neg Y W with ⟨h1, _⟩ | ⟨_, _, e'⟩ | ⟨_, hu', _⟩
      · omega
      · rw [e, e', hqq]; exact Nat.le_refl _
      · rw [hu2] at hu'; cases hu'
    · rcases rndN_cases m neg Y W with ⟨_, e'⟩ | ⟨_, _, e'⟩ | ⟨_, _, e'⟩
      · rw [e, e', hqq]; omega
      · rw [e, e', hqq]; exact Nat.mul_le_mul_right _ (by omega)
      · rw [e, e', hqq]; exact Nat.le_refl _
/-- With their signs: .. -/
theorem rnd_mono (m : Int) {n k : Bool} {X Y W : Nat} (hW : 0 < W) (h : sv n X ≤ sv k Y) : sv n (rndN m n X W) ≤ sv k (rndN m k Y W) := by
  cases n <;> cases k
  · have h1 : X ≤ Y := by simp [sv] at h; omega
    have := rndN_mono m false hW h1
    simp only [sv, Bool.false_eq_true, if_false]; omega
  · have h1 : X = 0 ∧ Y = 0 := by simp [sv] at h; omega
    rw [h1.1, h1.2, rndN_zero, rndN_zero]; simp [sv]
  · simp only [sv, Bool.false_eq_true, if_false, if_true]; omega
  · have h1 : Y ≤ X := by simp [sv] at h; omega
    have := rndN_mono m true hW h1
    simp only [sv, if_true]; omega
/-- The way that is it with the other sign. -/
def turnM (m : Int) : Int := if m = 0 then 1 else if m = 1 then 0 else m
theorem upB_turn (m : Int) (neg odd : Bool) (half : Int) : upB (turnM m) (!neg) odd half = upB m neg odd half := by
  unfold turnM
  by_cases h0 : m = 0
  · subst h0; simp [upB]
  · rw [if_neg h0]
    by_cases h1 : m = 1
    · subst h1; simp [upB]
    · rw [if_neg h1]; simp [upB, h0, h1]
theorem rndN_turn (m : Int) (neg : Bool) (X W : Nat) : rndN (turnM m) (!neg) X W = rndN m neg X W := by
  unfold rndN roundN upN
  rw [upB_turn]
/-- Both times one number: the same. -/
theorem rndN_scale (m : Int) (neg : Bool) (X W k : Nat) (hk : 0 < k) : rndN m neg (X * k) (W * k) = rndN m neg X W * k := by
  have h1 : X * k / (W * k) = X / W := Nat.mul_div_mul_right _ _ hk
  have h2 : X * k % (W * k) = X % W * k := Nat.mul_mod_mul_right _ _ _
  have h3 : upN m neg (X * k) (W * k) = upN m neg X W := by
    unfold upN
    rw [h1, h2, show ((2 * (X % W * k) : Nat) : Int) = ((2 * (X % W) : Nat) : Int) * (k : Int) by push_cast; rw [Int.mul_assoc], show ((W * k : Nat) : Int) = (W : Int) * (k : Int) by push_cast; rfl, cmpZ_mul _ _ k hk]
  unfold rndN roundN
  rw [h1, h2, h3]
  by_cases h : X % W = 0
  · rw [if_pos h, if_pos (by rw [h, Nat.zero_mul])]
  · rw [if_neg h, if_neg (by have := Nat.mul_pos (Nat.pos_of_ne_zero h) hk; omega), Nat.mul_assoc]
/-- Rounded again, at that place or a finer one, it stays. -/
theorem rndN_again (m m' : Int) (neg neg' : Bool) (X W V : Nat) (h : W % V = 0) : rndN m' neg' (rndN m neg X W) V = rndN m neg X W := by
  refine rndN_mult ?_
  have h1 := rndN_mod m neg X W
  obtain ⟨a, ha⟩ := Nat.dvd_of_mod_eq_zero h1
  obtain ⟨b, hb⟩ := Nat.dvd_of_mod_eq_zero h
  rw [ha, hb, Nat.mul_assoc]
  exact Nat.mul_mod_right _ _
end Go.Proofs.YtekanlcfgfllcaaDoor
/- SgM -/
/-
  SgM: plain facts on rounding to digits: bounds, order, the number of digits.
-/
set_option maxRecDepth 100000
namespace Go.Proofs.YtekanlcfgfllcaaDoor
open Go.RowKit
theorem pow_mod_pow {i j : Nat} (h : i ≤ j) : 10 ^ j % 10 ^ i = 0 := by
  obtain ⟨k, rfl⟩ : ∃ k, j = i + k := ⟨j - i, by omega⟩
  rw [Nat.pow_add]
  exact Nat.mul_mod_right _ _
/-- Rounded to n of its digits a number has as many, or is the next power of ten. -/
theorem sig_ge {X n : Nat} (m : Int) (neg : Bool) (hX : X ≠ 0) (hn : 1 ≤ n) (hnL : n ≤ (decs X).length) :
    10 ^ ((decs X).length - 1) ≤ rndN m neg X (10 ^ ((decs X).length - n)) := by
  have h := rndN_mono m neg (pow_pos10 ((decs X).length - n)) (decs_ge hX)
  rwa [rndN_mult (pow_mod_pow (by omega))] at h
theorem sig_le {X n : Nat} (m : Int) (neg : Bool) (hn : 1 ≤ n) :
    rndN m neg X (10 ^ ((decs X).length - n)) ≤ 10 ^ (decs X).length := by
  have h := rndN_mono m neg (pow_pos10 ((decs X).length - n)) (Nat.le_of_lt (lt_pow_decs X))
  rwa [rndN_mult (pow_mod_pow (by omega))] at h
/-- The order stays, even where one has a digit more. -/
theorem sig_mono {X Y n : Nat} (m : Int) (neg : Bool) (hX : X ≠ 0) (hn : 1 ≤ n) (hnX : n ≤ (decs X).length) (h : X ≤ Y) :
    rndN m neg X (10 ^ ((decs X).length - n)) ≤ rndN m neg Y (10 ^ ((decs Y).length - n)) := by
  have hl := decs_length_le h
  rcases Nat.lt_or_ge (decs X).length (decs Y).length with h1 | h1
  · have h2 := sig_le (X := X) (n := n) m neg hn
    have h3 := sig_ge (X := Y) (n := n) m neg (by omega) hn (by omega)
    have h4 : 10 ^ (decs X).length ≤ 10 ^ ((decs Y).length - 1) := Nat.pow_le_pow_right (by omega) (by omega)
    omega
  · have h2 : (decs Y).length = (decs X).length := by omega
    rw [h2]
    exact rndN_mono m neg (pow_pos10 _) h
theorem nq_len_of {c j n : Nat} (h : c < 10 ^ n) : (decs (nq (c * 10 ^ j))).length ≤ n := by
  by_cases h0 : c = 0
  · subst h0; rw [Nat.zero_mul, nq_zero, decs_zero]; simp
  · rw [(nq_mul h0 j).1]
    exact decs_len (Nat.lt_of_le_of_lt (nq_le c) h)
/-- It has no more digits than these. -/
theorem sig_count {X n : Nat} (m : Int) (neg : Bool) (hn : 1 ≤ n) (hnL : n ≤ (decs X).length) :
    (decs (nq (rndN m neg X (10 ^ ((decs X).length - n))))).length ≤ n := by
  have h1 := sig_le (X := X) (n := n) m neg hn
  obtain ⟨c, hc⟩ := Nat.dvd_of_mod_eq_zero (rndN_mod m neg X (10 ^ ((decs X).length - n)))
  rw [hc] at h1 ⊢
  rw [Nat.mul_comm]
  rcases Nat.lt_or_ge c (10 ^ n) with h2 | h2
  · exact nq_len_of h2
  · have e : 10 ^ (decs X).length = 10 ^ ((decs X).length - n) * 10 ^ n := by rw [← Nat.pow_add]; congr 1; omega
    rw [e] at h1
    have h3 : c ≤ 10 ^ n := Nat.le_of_mul_le_mul_left h1 (pow_pos10 _)
    have h4 : c = 1 * 10 ^ n := by omega
    rw [h4, Nat.mul_assoc, ← Nat.pow_add]
    refine Nat.le_trans (nq_len_of (n := 1) (by omega)) hn
/-- Rounded again to as many digits it stays. -/
theorem sig_again {X n : Nat} (m m' : Int) (neg neg' : Bool) (hX : X ≠ 0) (hn : 1 ≤ n) (hnL : n ≤ (decs X).length) :
    rndN m' neg' (rndN m neg X (10 ^ ((decs X).length - n))) (10 ^ ((decs (rndN m neg X (10 ^ ((decs X).length - n)))).length - n)) = rndN m neg X (10 ^ ((decs X).length - n)) := by
  have h1 := sig_le (X := X) (n := n) m neg hn
  have h2 := sig_ge (X := X) (n := n) m neg hX hn hnL
  have hmod := rndN_mod m neg X (10 ^ ((decs X).length - n))
  have hL := decs_pos hX
  generalize rndN m neg X (10 ^ ((decs X).length - n)) = R at *
  refine rndN_mult ?_
  rcases Nat.lt_or_ge R (10 ^ (decs X).length) with h3 | h3
  · have h4 := decs_len h3
    exact Nat.mod_eq_zero_of_dvd (Nat.dvd_trans (Nat.pow_dvd_pow 10 (by omega)) (Nat.dvd_of_mod_eq_zero hmod))
  · obtain rfl : R = 10 ^ (decs X).length := by omega
    have h4 : (decs (10 ^ (decs X).length)).length ≤ (decs X).length + 1 := decs_len (Nat.pow_lt_pow_right (by omega) (by omega))
    exact pow_mod_pow (by omega)
/-- Its first digit's place. -/
theorem sig_len {X n : Nat} (m : Int) (neg : Bool) (hX : X ≠ 0) (hn : 1 ≤ n) (hnL : n ≤ (decs X).length) :
    (decs X).length ≤ (decs (rndN m neg X (10 ^ ((decs X).length - n)))).length ∧ (decs (rndN m neg X (10 ^ ((decs X).length - n)))).length ≤ (decs X).length + 1 := by
  have h1 := sig_le (X := X) (n := n) m neg hn
  have h2 := sig_ge (X := X) (n := n) m neg hX hn hnL
  have h3 := decs_pos hX
  refine ⟨?_, decs_len (Nat.lt_of_le_of_lt h1 (Nat.pow_lt_pow_right (by omega) (by omega)))⟩
  have h4 := (pow_le_iff _ _).1 h2
  omega
end Go.Proofs.YtekanlcfgfllcaaDoor
/- P8M -/
/-
  P8M: plain facts of layer 8: decimals without their signs by value, halves by the digit below a place.
-/
namespace Go.Proofs.YtekanlcfgfllcaaDoor
open Go.RowKit
theorem awayB_eq (m : Int) (n o : Bool) (h : Int) : awayB m n o h = upB m n o h := rfl
/-- A decimal that may be handed in: without its sign so many steps of ten to the power k. -/
structure DU (k : Int) (s : ByteArray) (e : Int) (X : Nat) : Prop where
  ex : ∃ N, DA 20000 s e N ∧ N * 10 ^ (e - k).toNat = X
  le : k ≤ e
  lo : -15000 ≤ k
  len : (decs X).length ≤ 4900
theorem DU.dv {k : Int} {s : ByteArray} {e : Int} {X : Nat} (h : DU k s e X) (n : Bool) : DV k n s e (sv n X) := by
  obtain ⟨⟨N, hd, hv⟩, h1, h2, h3⟩ := h
  exact ⟨⟨N, hd.mono (by omega), by rw [atE, hv]⟩, h1, by omega, by rw [sv_natAbs]; exact h3⟩
theorem DU.z {k : Int} {X : Nat} (h1 : -15000 ≤ k) (h2 : k ≤ 0) (h3 : (decs X).length ≤ 4900) : DU k (nstr X) (nexp X k) X := by
  have hd := DA.of_num (B := 15000) (N := X) (e := k) (by omega) (by omega) (by omega)
  obtain ⟨-, h4, -, -⟩ := DV.z (Z := (X : Int)) (k := k) (by omega) h2 (by simpa using h3)
  simp only [zexp, Int.natAbs_natCast] at h4
  refine ⟨⟨_, hd, ?_⟩, h4, h1, h3⟩
  have := atE_norm false X k k (Int.le_refl _)
  rw [atE, atE] at this
  have := congrArg Int.natAbs this
  rw [sv_natAbs, sv_natAbs, Int.sub_self] at this
  simpa using this
theorem n_scale (X j : Nat) (k : Int) : nstr (X * 10 ^ j) = nstr X ∧ nexp (X * 10 ^ j) k = nexp X (k + j) := ⟨nstr_mul X j, nexp_mul X j k⟩
/-- The same decimal, counted in finer steps. -/
theorem n_finer {X Y j : Nat} {k k' : Int} (h : Y = X * 10 ^ j) (hk : k' + j = k) : nstr Y = nstr X ∧ nexp Y k' = nexp X k := by
  subst h hk; exact n_scale X j k'
theorem DU.norm {k : Int} {s : ByteArray} {e : Int} {X : Nat} (h : DU k s e X) : ∃ N, DA 20000 s e N ∧ N * 10 ^ (e - k).toNat = X ∧ nstr N = nstr X ∧ nexp N e = nexp X k := by
  obtain ⟨⟨N, hd, hv⟩, h1, h2, h3⟩ := h
  have := n_finer (k := e) (k' := k) hv.symm (by omega)
  exact ⟨N, hd, hv, this.1.symm, this.2.symm⟩
theorem DU.of_fine {m : Nat} {s : ByteArray} {e k : Int} (h : fineD m s e = true) (hm : m ≤ 1000) (hk : k ≤ e) (hk2 : -1000 ≤ k) : ∃ X, DU k s e X ∧ (decs X).length ≤ m + (e - k).toNat := by
  obtain ⟨⟨⟨N, hd, hv⟩, h1, h2, h3⟩, h4⟩ := DV.of_fine (n := false) h hm hk hk2
  rw [atE, sv_natAbs] at h3 h4
  exact ⟨_, ⟨⟨dval (bdigs s), (DA.of_good (fineD_good h).1).mono (by omega), rfl⟩, hk, by omega, h3⟩, h4⟩
/-- What stands below a place, held against half a step, by the digit there. -/
theorem half_digit {Q D : Nat} (hQ : Q % 10 ≠ 0) (hD : 1 ≤ D) :
    cmpZ ((2 * (Q % 10 ^ D) : Nat) : Int) ((10 ^ D : Nat) : Int) = if Q / 10 ^ (D - 1) % 10 = 5 ∧ 1 < D then 1 else cmpZ ((Q / 10 ^ (D - 1) % 10 : Nat) : Int) 5 := by
  obtain ⟨j, rfl⟩ : ∃ j, D = j + 1 := ⟨D - 1, by omega⟩
  rw [Nat.add_sub_cancel]
  have h1 : Q % 10 ^ (j + 1) = 10 ^ j * (Q / 10 ^ j % 10) + Q % 10 ^ j := by rw [Nat.pow_succ, Nat.mod_mul, Nat.add_comm]
  have h2 : 10 ^ (j + 1) = 10 * 10 ^ j := by rw [Nat.pow_succ, Nat.mul_comm]
  have h3 : Q % 10 ^ j < 10 ^ j := Nat.mod_lt _ (pow_pos10 j)
  have h5 : 1 < j + 1 → 0 < Q % 10 ^ j := by
    intro hj
    obtain ⟨i, rfl⟩ : ∃ i, j = i + 1 := ⟨j - 1, by omega⟩
    have : Q % 10 ^ (i + 1) % 10 = Q % 10 := Nat.mod_mod_of_dvd _ ⟨10 ^ i, by rw [Nat.pow_succ, Nat.mul_comm]⟩
    omega
  have h6 : j = 0 → Q % 10 ^ j = 0 := by rintro rfl; simp [Nat.mod_one]
  have h7 : j = 0 → 10 ^ j = 1 := by rintro rfl; rfl
  rw [h1, h2]
  have h8 : Q / 10 ^ j % 10 < 10 := Nat.mod_lt _ (by omega)
  generalize Q / 10 ^ j % 10 = d at *
  generalize Q % 10 ^ j = r at *
  generalize 10 ^ j = p at *
  clear h1 h2 hQ
  by_cases hd : d = 5 ∧ 1 < j + 1
  · rw [if_pos hd]
    obtain ⟨rfl, hj⟩ := hd
    have := h5 hj
    exact cmpZ_gt (by omega)
  · rw [if_neg hd]
    rcases Nat.lt_trichotomy d 5 with h9 | h9 | h9
    · rw [cmpZ_lt (a := (d : Int)) (by omega)]
      refine cmpZ_lt ?_
      have : p * d ≤ p * 4 := Nat.mul_le_mul_left p (by omega)
      omega
    · subst h9
      have hj : j = 0 := by omega
      rw [h6 hj, h7 hj]; rfl
    · rw [cmpZ_gt (a := (d : Int)) (by omega)]
      refine cmpZ_gt ?_
      have h10 : p * 6 ≤ p * d := Nat.mul_le_mul_left p (by omega)
      have : 0 < p := by omega
      omega
/-- Whether a step goes into a value, by the exponent of the value as it should be. -/
theorem fits_iff (X j : Nat) : X % 10 ^ j = 0 ↔ X = 0 ∨ j ≤ tz10 X := by
  by_cases h0 : X = 0
  · subst h0; simp
  · obtain ⟨h1, h2⟩ := nq_spec X
    have h2 := h2 h0
    constructor
    · intro h
      right
      rcases Nat.lt_or_ge (tz10 X) j with hlt | hge
      · exfalso
        obtain ⟨i, rfl⟩ : ∃ i, j = tz10 X + 1 + i := ⟨j - tz10 X - 1, by omega⟩
        obtain ⟨c, hc⟩ := Nat.dvd_of_mod_eq_zero h
        apply h2
        have h3 : nq X * 10 ^ tz10 X = (10 * (10 ^ i * c)) * 10 ^ tz10 X := by
          rw [h1]
          conv => lhs; rw [hc]
          rw [Nat.pow_add, Nat.pow_succ]
          simp only [Nat.mul_assoc, Nat.mul_comm, Nat.mul_left_comm]
        rw [Nat.eq_of_mul_eq_mul_right (pow_pos10 _) h3]
        exact Nat.mul_mod_right _ _
      · exact hge
    · rintro (h | h)
      · exact absurd h h0
      · rw [← h1]
        exact Nat.mod_eq_zero_of_dvd (Nat.dvd_trans (Nat.pow_dvd_pow 10 h) ⟨nq X, Nat.mul_comm _ _⟩)
end Go.Proofs.YtekanlcfgfllcaaDoor
/- Rf8 -/
/-
  Rf8: the document's Round, to any step.
-/
set_option maxRecDepth 100000
namespace Go.Proofs.YtekanlcfgfllcaaDoor
open Go.RowKit
/-- What rounding answers: X small steps of ten to the power k, W of them the step. -/
def rndV (m : Int) (n : Bool) (X W : Nat) (k : Int) : Value :=
  if m = 7 ∧ X % W ≠ 0 then .tuple #[.agg #[.bool false, .string ⟨#[]⟩, .int .i64 0], .int .i64 11]
  else .tuple #[.agg #[.bool n, .string (nstr (rndN m n X W)), .int .i64 (nexp (rndN m n X W) k)], .int .i64 0]
theorem rndV_mult {m : Int} {n : Bool} {X W : Nat} {k : Int} (h : X % W = 0) : rndV m n X W k = .tuple #[.agg #[.bool n, .string (nstr X), .int .i64 (nexp X k)], .int .i64 0] := by
  rw [rndV, if_neg (fun hh => hh.2 h), rndN_mult h]
theorem rndV_no {n : Bool} {X W : Nat} {k : Int} (h : X % W ≠ 0) : rndV 7 n X W k = .tuple #[.agg #[.bool false, .string ⟨#[]⟩, .int .i64 0], .int .i64 11] := by
  rw [rndV, if_pos ⟨rfl, h⟩]
theorem rndV_of {m : Int} {n : Bool} {X W : Nat} {k : Int} (h : m ≠ 7) : rndV m n X W k = .tuple #[.agg #[.bool n, .string (nstr (rndN m n X W)), .int .i64 (nexp (rndN m n X W) k)], .int .i64 0] := by
  rw [rndV, if_neg (fun hh => h hh.1)]
theorem rndV_up {m : Int} {n : Bool} {X W : Nat} {k : Int} (h : m ≠ 7) (hx : X % W ≠ 0) (q : Nat) (hq : X / W + (if upN m n X W then 1 else 0) = q) :
    rndV m n X W k = .tuple #[.agg #[.bool n, .string (nstr (q * W)), .int .i64 (nexp (q * W) k)], .int .i64 0] := by
  rw [rndV_of h, rndN, if_neg hx, roundN, hq]
/-- Counted in finer steps it is the same. -/
theorem rndV_finer (m : Int) (n : Bool) (X W j : Nat) (k : Int) : rndV m n (X * 10 ^ j) (W * 10 ^ j) k = rndV m n X W (k + j) := by
  have h1 : X * 10 ^ j % (W * 10 ^ j) = X % W * 10 ^ j := Nat.mul_mod_mul_right _ _ _
  have h2 := pow_pos10 j
  unfold rndV
  rw [h1, rndN_scale m n X W _ h2, (n_scale _ _ k).1, (n_scale _ _ k).2]
  by_cases h : m = 7 ∧ X % W ≠ 0
  · rw [if_pos h, if_pos ⟨h.1, by have := Nat.mul_pos (Nat.pos_of_ne_zero h.2) h2; omega⟩]
  · rw [if_neg h, if_neg (fun hh => h ⟨hh.1, fun h3 => hh.2 (by rw [h3, Nat.zero_mul])⟩)]
theorem Kept4.res {w0 w : World} {L : List (Nat × Value × Value × Value)} {g : Nat} (h : Kept4 w0 L g w) : cellR g w := by
  obtain ⟨x, y, z, hb⟩ := h.2.1
  exact cellR_of hb
theorem zeros_v (z : Int) (j : Nat) (w : World) (hz : z = (j : Int)) (hj : j ≤ 100000) :
    Calls Tryd.prog 32 #[.int .i64 z] w fun r w' => r = .returned (.string (strD (List.replicate j 0))) ∧ Below w.heap.size w w' := by
  subst hz
  refine (zeros_c j w (by omega)).mono ?_
  rintro r w' ⟨s, rfl, hs, hb⟩
  exact ⟨by rw [hs.eq_strD], hb⟩
theorem strD_one : strD (decs 1) = ⟨#[49]⟩ := by rw [decs_snoc (by omega), decs_zero]; rfl
theorem plus_one (X : Nat) (w : World) (hx : (decs X).length ≤ 10000) :
    Calls Tryd.prog 36 #[.string (strD (decs X)), .string ⟨#[49]⟩] w fun r w' => r = .returned (.string (strD (decs (X + 1)))) ∧ Below w.heap.size w w' := by
  have := plus_n X 1 w hx (by rw [decs_snoc (by omega), decs_zero]; decide)
  rwa [strD_one] at this
theorem less_v (X Y : Nat) (v : Bool) (w : World) (hv : decide (X < Y) = v) :
    Calls Tryd.prog 37 #[.string (strD (decs X)), .string (strD (decs Y))] w fun r w' => r = .returned (.bool v) ∧ w = w' := by
  subst hv; exact less_c _ _ X Y w (isD_decs X) (isD_decs Y)
end Go.Proofs.YtekanlcfgfllcaaDoor
