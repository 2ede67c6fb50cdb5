/-
  ArM: plain facts on sums and products of decimals: a decimal as it should be, from a whole number of steps; rounding by dividing.
-/
import Derived.Test.YtbjdledincahkaaDoorKG
namespace Go.Proofs.YtbjdledincahkaaDoor
open Go.RowKit
theorem nq_mul {N : Nat} (h : N ≠ 0) (k : Nat) : nq (N * 10 ^ k) = nq N ∧ tz10 (N * 10 ^ k) = tz10 N + k := by
  have h0 : N * 10 ^ k ≠ 0 := by have := mul_pow_pos (k := k) h; omega
  have h1 := nq_spec N
  have h2 := nq_spec (N * 10 ^ k)
  refine norm_unique (h2.2 h0) (h1.2 h) ?_
  rw [h2.1, Nat.pow_add, ← Nat.mul_assoc, h1.1]
theorem nstr_mul (N k : Nat) : nstr (N * 10 ^ k) = nstr N := by
  by_cases h : N = 0
  · subst h; rw [Nat.zero_mul]
  · rw [nstr, (nq_mul h k).1, nstr]
theorem nexp_mul (N k : Nat) (e : Int) : nexp (N * 10 ^ k) e = nexp N (e + k) := by
  by_cases h : N = 0
  · subst h; rw [Nat.zero_mul]; simp [nexp]
  · have h0 : N * 10 ^ k ≠ 0 := by have := mul_pow_pos (k := k) h; omega
    rw [nexp, nexp, if_neg h0, if_neg h, (nq_mul h k).2]
    omega
/-- As it should be: so many steps of ten to the power e. -/
def zneg (Z : Int) : Bool := decide (Z < 0)
def zstr (Z : Int) : ByteArray := nstr Z.natAbs
def zexp (Z : Int) (e : Int) : Int := nexp Z.natAbs e
theorem sv_natAbs (n : Bool) (N : Nat) : (sv n N).natAbs = N := by cases n <;> simp [sv]
theorem sv_add (n : Bool) (X Y : Nat) : sv n X + sv n Y = sv n (X + Y) := by cases n <;> simp [sv] <;> omega
theorem zneg_sv (n : Bool) (N : Nat) (h : N ≠ 0) : zneg (sv n N) = n := by
  cases n
  · simp [zneg, sv]
  · simp [zneg, sv]; omega
theorem zneg_zero : zneg 0 = false := rfl
theorem zstr_sv (n : Bool) (N : Nat) : zstr (sv n N) = nstr N := by rw [zstr, sv_natAbs]
theorem zexp_sv (n : Bool) (N : Nat) (e : Int) : zexp (sv n N) e = nexp N e := by rw [zexp, sv_natAbs]
theorem mul_pow_cast (Z : Int) (k : Nat) : (Z * (10 ^ k : Nat)).natAbs = Z.natAbs * 10 ^ k := by rw [Int.natAbs_mul]; simp
theorem zneg_mul (Z : Int) (k : Nat) : zneg (Z * (10 ^ k : Nat)) = zneg Z := by
  have hp := pow_pos10 k
  unfold zneg
  rw [decide_eq_decide]
  constructor
  · intro h
    rcases Int.lt_or_le Z 0 with h1 | h1
    · exact h1
    · exfalso
      have := Int.mul_nonneg h1 (show (0 : Int) ≤ ((10 ^ k : Nat) : Int) by omega)
      omega
  · intro h
    exact Int.mul_neg_of_neg_of_pos h (by omega)
/-- Counted in finer steps it is the same decimal. -/
theorem z_scale (Z : Int) (k : Nat) (e : Int) : zneg (Z * (10 ^ k : Nat)) = zneg Z ∧ zstr (Z * (10 ^ k : Nat)) = zstr Z ∧ zexp (Z * (10 ^ k : Nat)) e = zexp Z (e + k) := by
  refine ⟨zneg_mul Z k, ?_, ?_⟩
  · rw [zstr, zstr, mul_pow_cast, nstr_mul]
  · rw [zexp, zexp, mul_pow_cast, nexp_mul]
/-- The sign of a decimal that is 0 is none. -/
def pneg (n : Bool) (N : Nat) : Bool := if N = 0 then false else n
theorem pneg_sv (n : Bool) (N : Nat) : pneg n N = zneg (sv n N) := by
  unfold pneg
  split
  · rename_i h; subst h; rw [sv_zero]; rfl
  · rename_i h; rw [zneg_sv n N h]
theorem sv_sub_lt {n m : Bool} {X Y : Nat} (hnm : n ≠ m) (h : X < Y) : sv n X + sv m Y = sv m (Y - X) := by cases n <;> cases m <;> simp [sv] at hnm ⊢ <;> omega
theorem sv_sub_ge {n m : Bool} {X Y : Nat} (hnm : n ≠ m) (h : Y ≤ X) : sv n X + sv m Y = sv n (X - Y) := by cases n <;> cases m <;> simp [sv] at hnm ⊢ <;> omega
theorem sv_mul2 (n m : Bool) (X Y : Nat) : sv n X * sv m Y = sv (n != m) (X * Y) := by cases n <;> cases m <;> simp [sv, Int.neg_mul, Int.mul_neg]
/-- Which way's answer is the one that is farther from 0. -/
def upB (m : Int) (neg odd : Bool) (half : Int) : Bool :=
  if m = 0 then !neg else if m = 1 then neg else if m = 2 then true else if m = 4 then decide (0 < half) || (decide (half = 0) && odd) else if m = 5 then decide (0 ≤ half) else if m = 6 then decide (0 < half) else false
/-- What a number of small steps is rounded to, W of them being one great step. -/
def upN (m : Int) (neg : Bool) (X W : Nat) : Bool := upB m neg (decide (X / W % 2 = 1)) (cmpZ ((2 * (X % W) : Nat) : Int) (W : Int))
def roundN (m : Int) (neg : Bool) (X W : Nat) : Nat := (X / W + if upN m neg X W then 1 else 0) * W
/-- A value counted in steps of ten to the power m. -/
def atE (n : Bool) (N : Nat) (e m : Int) : Int := sv n (N * 10 ^ (e - m).toNat)
theorem atE_zero (n : Bool) (e m : Int) : atE n 0 e m = 0 := by rw [atE, Nat.zero_mul, sv_zero]
theorem cmpV_atE (na : Bool) (a : Nat) (ea : Int) (nb : Bool) (b : Nat) (eb : Int) (m : Int) (h1 : m ≤ ea) (h2 : m ≤ eb) : cmpV na a ea nb b eb = cmpZ (atE na a ea m) (atE nb b eb m) := cmpV_at na a ea nb b eb m h1 h2
theorem atE_finer (n : Bool) (N : Nat) (e m : Int) (k : Nat) (h : m ≤ e) : atE n N e (m - k) = atE n N e m * (10 ^ k : Nat) := by
  rw [atE, atE, show (e - (m - k)).toNat = (e - m).toNat + k by omega, Nat.pow_add, ← Nat.mul_assoc, sv_mul]
theorem atE_norm (n : Bool) (N : Nat) (e m : Int) (h : m ≤ e) : atE n (nq N) (nexp N e) m = atE n N e m := by
  by_cases h0 : N = 0
  · subst h0; rw [nq_zero, atE_zero, atE_zero]
  · rw [atE, atE, nexp, if_neg h0]
    congr 1
    have h1 := (nq_spec N).1
    conv => rhs; rw [show N * 10 ^ (e - m).toNat = nq N * 10 ^ tz10 N * 10 ^ (e - m).toNat by rw [h1]]
    rw [show (e + tz10 N - m).toNat = tz10 N + (e - m).toNat by omega, Nat.pow_add, Nat.mul_assoc]
theorem sv_zneg (Z : Int) : sv (zneg Z) Z.natAbs = Z := by
  unfold zneg sv
  rcases Int.lt_or_le Z 0 with h | h
  · rw [decide_eq_true h, if_pos rfl]; omega
  · rw [decide_eq_false (by omega), if_neg (by simp)]; omega
theorem atE_z (Z : Int) (e m : Int) (h : m ≤ e) : atE (zneg Z) (nq Z.natAbs) (zexp Z e) m = Z * (10 ^ (e - m).toNat : Nat) := by
  rw [zexp, atE_norm _ _ _ _ h, atE, sv_mul, sv_zneg]
/-- The decimal does not hang on the steps in which it was counted. -/
theorem z_same {Z Z' : Int} {m m' : Int} (k : Nat) (hm : m = m' + k) (h : Z' = Z * (10 ^ k : Nat)) : zneg Z' = zneg Z ∧ zstr Z' = zstr Z ∧ zexp Z' m' = zexp Z m := by
  have := z_scale Z k m'
  rw [h, hm]; exact this
theorem z_neg (Z : Int) : zstr (-Z) = zstr Z ∧ ∀ e, zexp (-Z) e = zexp Z e := ⟨by rw [zstr, zstr, Int.natAbs_neg], fun e => by rw [zexp, zexp, Int.natAbs_neg]⟩
theorem zneg_neg {Z : Int} (h : Z ≠ 0) : zneg (-Z) = !zneg Z := by
  unfold zneg
  rcases Int.lt_or_gt_of_ne h with h1 | h1
  · rw [decide_eq_true h1, decide_eq_false (by omega)]; rfl
  · rw [decide_eq_false (show ¬ Z < 0 by omega), decide_eq_true (by omega)]; rfl
theorem zstr_is0 (Z : Int) : ((zstr Z).toList == [48]) = decide (Z = 0) := by
  rw [zstr, nstr_is0, decide_eq_decide]; omega
theorem DA.of_num {B : Nat} {N : Nat} {e : Int} (h : (decs N).length ≤ 4990) (h1 : -(B : Int) ≤ e) (h2 : e ≤ (B : Int)) : DA (B + 5000) (nstr N) (nexp N e) (nq N) := by
  have h3 := tz_len N
  have h4 := nstr_size N
  refine ⟨⟨_, isD_nstr N, by rw [dval_orZero', dval_decs]⟩, nstr_pos N, by omega, ?_, ?_⟩
  · unfold nexp; split <;> omega
  · unfold nexp; split <;> omega
theorem DA.of_z {B : Nat} {Z : Int} {e : Int} (h : (decs Z.natAbs).length ≤ 4990) (h1 : -(B : Int) ≤ e) (h2 : e ≤ (B : Int)) : DA (B + 5000) (zstr Z) (zexp Z e) (nq Z.natAbs) := DA.of_num h h1 h2
theorem natAbs_add_lt {A C : Int} {k : Nat} (h1 : A.natAbs < 10 ^ k) (h2 : C.natAbs < 10 ^ k) : (A + C).natAbs < 10 ^ (k + 1) := by
  rw [Nat.pow_succ]; omega
theorem atE_lt {n : Bool} {N : Nat} {e m : Int} {i k : Nat} (h : N < 10 ^ i) (hk : (e - m).toNat ≤ k) : (atE n N e m).natAbs < 10 ^ (i + k) := by
  rw [atE, sv_natAbs, Nat.pow_add]
  exact Nat.lt_of_lt_of_le (Nat.mul_lt_mul_of_pos_right h (pow_pos10 _)) (Nat.mul_le_mul_left _ (Nat.pow_le_pow_right (by omega) hk))
end Go.Proofs.YtbjdledincahkaaDoor
