/-
  KG: DecM, Dec1, Dec2, Dec3, Dec4, Dec5, Dec6, Dec7, Dec8.
-/
import Derived.Deep.RegionHeld3
import Derived.IntWalk
import Derived.Test.YtekanlcfgfllcaaDoorKA
import Derived.Test.YtekanlcfgfllcaaDoorKF
/- DecM -/
/-
  DecM: plain facts on decimals (layer 5): digits without noughts at the end, places, the order of values.
-/
set_option maxRecDepth 100000
namespace Go.Proofs.YtekanlcfgfllcaaDoor
open Go.RowKit
theorem val_getD (b : Nat) (hb : 0 < b) (xs : List Nat) (h : ∀ x ∈ xs, x < b) (k : Nat) : xs.getD k 0 = val b xs / b ^ k % b := by
  induction xs generalizing k with
  | nil => simp [val]
  | cons x r ih =>
    have hx := h x (by simp)
    have ih' := fun k => ih (fun y hy => h y (by simp [hy])) k
    rcases k with _ | k
    · simp [val, Nat.mod_eq_of_lt hx]
    · have e := ih' k
      rw [show (x :: r).getD (k + 1) 0 = r.getD k 0 from rfl, e, val, Nat.pow_succ, Nat.mul_comm (b ^ k) b, ← Nat.div_div_eq_div_mul, Nat.add_mul_div_left _ _ hb, Nat.div_eq_of_lt hx, Nat.zero_add]
theorem digs_getD (n k : Nat) : (digs 10 n).getD k 0 = n / 10 ^ k % 10 := by
  rw [val_getD 10 (by omega) _ (digs_lt 10 (by omega) n), val_digs 10 (by omega)]
/-- The digit at the k-th place from the right. -/
theorem rev_digit (ds : List Nat) (h : ∀ d ∈ ds, d < 10) (k : Nat) (hk : k < ds.length) : ds.getD (ds.length - 1 - k) 0 = dval ds / 10 ^ k % 10 := by
  have e := val_getD 10 (by omega) ds.reverse (fun x hx => h x (List.mem_reverse.1 hx)) k
  rw [← show dval ds = val 10 ds.reverse from rfl] at e
  rw [← e, List.getD, List.getD, List.getElem?_reverse hk]
/-- The number of noughts at the end. -/
def tz10 (n : Nat) : Nat := if h : n ≠ 0 ∧ n % 10 = 0 then tz10 (n / 10) + 1 else 0
termination_by n
decreasing_by omega
theorem tz10_zero : tz10 0 = 0 := by rw [tz10]; simp
theorem tz10_step {n : Nat} (h0 : n ≠ 0) (h : n % 10 = 0) : tz10 n = tz10 (n / 10) + 1 := by rw [tz10, dif_pos ⟨h0, h⟩]
theorem tz10_none {n : Nat} (h : n % 10 ≠ 0) : tz10 n = 0 := by rw [tz10, dif_neg (fun hh => h hh.2)]
/-- Without the noughts at the end. -/
def nq (n : Nat) : Nat := n / 10 ^ tz10 n
theorem nq_zero : nq 0 = 0 := by simp [nq]
theorem nq_step {n : Nat} (h0 : n ≠ 0) (h : n % 10 = 0) : nq n = nq (n / 10) := by
  rw [nq, tz10_step h0 h, Nat.pow_succ, Nat.mul_comm, ← Nat.div_div_eq_div_mul, nq]
theorem nq_none {n : Nat} (h : n % 10 ≠ 0) : nq n = n := by rw [nq, tz10_none h]; simp
theorem nq_spec (n : Nat) : nq n * 10 ^ tz10 n = n ∧ (n ≠ 0 → nq n % 10 ≠ 0) := by
  induction n using Nat.strongRecOn with
  | _ n ih =>
    by_cases h0 : n = 0
    · subst h0; simp [nq_zero]
    · by_cases h : n % 10 = 0
      · obtain ⟨h1, h2⟩ := ih (n / 10) (by omega)
        refine ⟨?_, fun _ => ?_⟩
        · rw [nq_step h0 h, tz10_step h0 h, Nat.pow_succ, ← Nat.mul_assoc, h1]; omega
        · rw [nq_step h0 h]; exact h2 (by omega)
      · rw [nq_none h, tz10_none h]
        exact ⟨by simp, fun _ => h⟩
theorem nq_pos {n : Nat} (h : n ≠ 0) : nq n ≠ 0 := fun e => (nq_spec n).2 h (by rw [e])
theorem nq_le (n : Nat) : nq n ≤ n := Nat.div_le_self _ _
/-- Without noughts at the end. -/
def stripE (ds : List Nat) : List Nat := (stripZ ds.reverse).reverse
theorem stripE_snoc0 (ds : List Nat) : stripE (ds ++ [0]) = stripE ds := by simp [stripE, stripZ]
theorem stripE_snoc {d : Nat} (ds : List Nat) (h : d ≠ 0) : stripE (ds ++ [d]) = ds ++ [d] := by simp [stripE, stripZ, h]
theorem decs_snoc {n : Nat} (h : n ≠ 0) : decs n = decs (n / 10) ++ [n % 10] := by rw [decs, digs_pos (by omega) h]; simp [decs]
theorem stripE_decs (n : Nat) : stripE (decs n) = decs (nq n) := by
  induction n using Nat.strongRecOn with
  | _ n ih =>
    by_cases h0 : n = 0
    · subst h0; simp [nq_zero, decs_zero, stripE, stripZ]
    · by_cases h : n % 10 = 0
      · rw [nq_step h0 h, ← ih (n / 10) (by omega), decs_snoc h0, h, stripE_snoc0]
      · rw [nq_none h, decs_snoc h0, stripE_snoc _ h]
theorem decs_len_tz {n : Nat} (h0 : n ≠ 0) : (decs n).length = (decs (nq n)).length + tz10 n := by
  induction n using Nat.strongRecOn with
  | _ n ih =>
    by_cases h : n % 10 = 0
    · rw [decs_snoc h0, nq_step h0 h, tz10_step h0 h, List.length_append, ih (n / 10) (by omega) (by omega)]; simp; omega
    · rw [nq_none h, tz10_none h]; simp
/-- The exponent of a decimal as it should be. -/
def nexp (n : Nat) (e : Int) : Int := if n = 0 then 0 else e + tz10 n
/-- The place of the first digit. -/
def dtop (n : Nat) (e : Int) : Int := if n = 0 then 0 else e + (decs n).length - 1
/-- A decimal's digit at a place. -/
def digAt (n : Nat) (e p : Int) : Nat := if p < e then 0 else n / 10 ^ (p - e).toNat % 10
theorem digAt_lt (n : Nat) (e p : Int) : digAt n e p < 10 := by unfold digAt; split <;> omega
theorem decs_pos {n : Nat} (h : n ≠ 0) : 0 < (decs n).length := by
  rcases Nat.eq_zero_or_pos (decs n).length with hh | hh
  · exact absurd ((decs_length_zero n).1 hh) h
  · exact hh
theorem decs_ge {n : Nat} (h : n ≠ 0) : 10 ^ ((decs n).length - 1) ≤ n := by
  rw [pow_le_iff]; have := decs_pos h; omega
theorem decs_nz {n : Nat} (h : n ≠ 0) : decs n ≠ [] := fun e => by have := decs_pos h; rw [e] at this; simp at this
/-- The first digit's place, from the digits as they should be. -/
theorem top_norm {n : Nat} (h : n ≠ 0) (e : Int) : nexp n e + (decs (nq n)).length - 1 = dtop n e := by
  rw [nexp, dtop, if_neg h, if_neg h, decs_len_tz h]; omega
theorem digAt_below (n : Nat) (e p : Int) (h : p < nexp n e) : digAt n e p = 0 := by
  unfold digAt
  split
  · rfl
  · rename_i hp
    by_cases h0 : n = 0
    · subst h0; simp
    · rw [nexp, if_neg h0] at h
      have h1 := (nq_spec n).1
      obtain ⟨k, hk⟩ : ∃ k : Nat, k = (p - e).toNat := ⟨_, rfl⟩
      obtain ⟨j, hj⟩ : ∃ j : Nat, tz10 n = k + 1 + j := ⟨tz10 n - k - 1, by omega⟩
      rw [← hk, ← h1, hj, show nq n * 10 ^ (k + 1 + j) = 10 ^ k * (10 * (nq n * 10 ^ j)) by rw [Nat.pow_add, Nat.pow_succ]; simp only [Nat.mul_assoc, Nat.mul_comm, Nat.mul_left_comm],
        Nat.mul_div_cancel_left _ (pow_pos10 k)]
      omega
theorem digAt_above (n : Nat) (e p : Int) (h0 : n ≠ 0) (h : dtop n e < p) : digAt n e p = 0 := by
  rw [dtop, if_neg h0] at h
  have h1 := decs_pos h0
  unfold digAt
  rw [if_neg (by omega)]
  have h2 := lt_pow_decs n
  have h3 : 10 ^ (decs n).length ≤ 10 ^ (p - e).toNat := Nat.pow_le_pow_right (by omega) (by omega)
  rw [Nat.div_eq_of_lt (by omega)]
theorem digAt_norm (n : Nat) (e p : Int) (h0 : n ≠ 0) (h1 : nexp n e ≤ p) (h2 : p ≤ dtop n e) :
    (decs (nq n)).getD (dtop n e - p).toNat 0 = digAt n e p := by
  have hq := top_norm h0 e
  have hne : nexp n e = e + tz10 n := by rw [nexp, if_neg h0]
  have hp := decs_pos (nq_pos h0)
  obtain ⟨k, hk⟩ : ∃ k : Nat, k = (p - nexp n e).toNat := ⟨_, rfl⟩
  have e1 := rev_digit (decs (nq n)) (decs_lt _) k (by omega)
  rw [dval_decs] at e1
  rw [show (dtop n e - p).toNat = (decs (nq n)).length - 1 - k by omega, e1, digAt, if_neg (by omega), show (p - e).toNat = tz10 n + k by omega, Nat.pow_add, ← Nat.div_div_eq_div_mul]
  rfl
theorem digAt_zero (e p : Int) : digAt 0 e p = 0 := by unfold digAt; split <;> simp
theorem digAt_top {n : Nat} (h0 : n ≠ 0) (e : Int) : 0 < digAt n e (dtop n e) := by
  have h1 := decs_ge h0
  have h2 := lt_pow_decs n
  have h3 := decs_pos h0
  rw [digAt, dtop, if_neg h0, if_neg (by omega), show (e + ((decs n).length : Int) - 1 - e).toNat = (decs n).length - 1 by omega]
  obtain ⟨L, hL⟩ : ∃ L, (decs n).length = L + 1 := ⟨(decs n).length - 1, by omega⟩
  rw [hL] at h1 h2 ⊢
  rw [Nat.add_sub_cancel] at h1 ⊢
  rw [Nat.pow_succ] at h2
  have h4 : 1 ≤ n / 10 ^ L := (Nat.le_div_iff_mul_le (pow_pos10 L)).2 (by omega)
  have h5 : n / 10 ^ L < 10 := (Nat.div_lt_iff_lt_mul (pow_pos10 L)).2 (by omega)
  omega
theorem digAt_shift (n : Nat) (e p k : Int) : digAt n (e + k) (p + k) = digAt n e p := by
  unfold digAt
  rw [show (p + k - (e + k)) = p - e by omega]
  by_cases h : p < e
  · rw [if_pos h, if_pos (by omega)]
  · rw [if_neg h, if_neg (by omega)]
theorem dtop_shift {n : Nat} (h : n ≠ 0) (e k : Int) : dtop n (e + k) = dtop n e + k := by rw [dtop, dtop, if_neg h, if_neg h]; omega
/-! The order of values. -/
/-- Which of two is more. -/
def cmpZ (a b : Int) : Int := if a < b then -1 else if b < a then 1 else 0
theorem cmpZ_lt {a b : Int} (h : a < b) : cmpZ a b = -1 := by simp [cmpZ, h]
theorem cmpZ_gt {a b : Int} (h : b < a) : cmpZ a b = 1 := by rw [cmpZ, if_neg (by omega), if_pos h]
theorem cmpZ_eq {a b : Int} (h : a = b) : cmpZ a b = 0 := by rw [cmpZ, if_neg (by omega), if_neg (by omega)]
theorem cmpZ_cases (a b : Int) : (a < b ∧ cmpZ a b = -1) ∨ (a = b ∧ cmpZ a b = 0) ∨ (b < a ∧ cmpZ a b = 1) := by
  rcases Int.lt_trichotomy a b with h | h | h
  · exact .inl ⟨h, cmpZ_lt h⟩
  · exact .inr (.inl ⟨h, cmpZ_eq h⟩)
  · exact .inr (.inr ⟨h, cmpZ_gt h⟩)
theorem cmpZ_bound (a b : Int) : -1 ≤ cmpZ a b ∧ cmpZ a b ≤ 1 := by rcases cmpZ_cases a b with h | h | h <;> omega
theorem cmpZ_turn (a b : Int) : cmpZ b a = -cmpZ a b := by rcases cmpZ_cases a b with h | h | h <;> rcases cmpZ_cases b a with h' | h' | h' <;> omega
theorem cmpZ_neg (a b : Int) : cmpZ (-a) (-b) = cmpZ b a := by rcases cmpZ_cases (-a) (-b) with h | h | h <;> rcases cmpZ_cases b a with h' | h' | h' <;> omega
theorem cmpZ_iff {a b c d : Int} (h1 : a < b ↔ c < d) (h2 : b < a ↔ d < c) : cmpZ a b = cmpZ c d := by
  rcases cmpZ_cases a b with h | h | h <;> rcases cmpZ_cases c d with h' | h' | h' <;> omega
theorem cmpZ_mul (a b : Int) (k : Nat) (hk : 0 < k) : cmpZ (a * k) (b * k) = cmpZ a b := by
  have hk' : (0 : Int) < (k : Int) := by omega
  exact cmpZ_iff ⟨fun h => Int.lt_of_mul_lt_mul_right h (by omega), fun h => Int.mul_lt_mul_of_pos_right h hk'⟩
    ⟨fun h => Int.lt_of_mul_lt_mul_right h (by omega), fun h => Int.mul_lt_mul_of_pos_right h hk'⟩
/-- A number with its sign. -/
def sv (neg : Bool) (n : Nat) : Int := if neg then -(n : Int) else n
theorem sv_mul (neg : Bool) (n k : Nat) : sv neg (n * k) = sv neg n * k := by cases neg <;> simp [sv, Int.neg_mul]
theorem sv_zero (n : Bool) : sv n 0 = 0 := by cases n <;> simp [sv]
/-- Which of two values is more. -/
def cmpV (na : Bool) (a : Nat) (ea : Int) (nb : Bool) (b : Nat) (eb : Int) : Int :=
  cmpZ (sv na (a * 10 ^ (ea - min ea eb).toNat)) (sv nb (b * 10 ^ (eb - min ea eb).toNat))
theorem cmpV_bound (na : Bool) (a : Nat) (ea : Int) (nb : Bool) (b : Nat) (eb : Int) : -1 ≤ cmpV na a ea nb b eb ∧ cmpV na a ea nb b eb ≤ 1 := cmpZ_bound _ _
/-- .. counted in places of any exponent that is above neither. -/
theorem cmpV_at (na : Bool) (a : Nat) (ea : Int) (nb : Bool) (b : Nat) (eb : Int) (m : Int) (h1 : m ≤ ea) (h2 : m ≤ eb) :
    cmpV na a ea nb b eb = cmpZ (sv na (a * 10 ^ (ea - m).toNat)) (sv nb (b * 10 ^ (eb - m).toNat)) := by
  obtain ⟨k, hk⟩ : ∃ k : Nat, k = (min ea eb - m).toNat := ⟨_, rfl⟩
  rw [show (ea - m).toNat = (ea - min ea eb).toNat + k by omega, show (eb - m).toNat = (eb - min ea eb).toNat + k by omega, Nat.pow_add, Nat.pow_add, ← Nat.mul_assoc, ← Nat.mul_assoc,
    sv_mul na (a * _) (10 ^ k), sv_mul nb (b * _) (10 ^ k), cmpZ_mul _ _ _ (pow_pos10 k)]
  rfl
theorem cmpV_turn (na : Bool) (a : Nat) (ea : Int) (nb : Bool) (b : Nat) (eb : Int) : cmpV nb b eb na a ea = -cmpV na a ea nb b eb := by
  rw [cmpV_at nb b eb na a ea (min ea eb) (by omega) (by omega), cmpZ_turn]; rfl
theorem cmpV_shift (na : Bool) (a : Nat) (ea : Int) (nb : Bool) (b : Nat) (eb k : Int) : cmpV na a (ea + k) nb b (eb + k) = cmpV na a ea nb b eb := by
  rw [cmpV_at na a (ea + k) nb b (eb + k) (min ea eb + k) (by omega) (by omega), show ea + k - (min ea eb + k) = ea - min ea eb by omega, show eb + k - (min ea eb + k) = eb - min ea eb by omega]
  rfl
theorem cmpV_three {na nb nc : Bool} {a b c : Nat} {ea eb ec : Int} (h1 : cmpV na a ea nb b eb ≤ 0) (h2 : cmpV nb b eb nc c ec ≤ 0) :
    cmpV na a ea nc c ec ≤ 0 ∧ (cmpV na a ea nc c ec = 0 → cmpV na a ea nb b eb = 0 ∧ cmpV nb b eb nc c ec = 0) := by
  have e1 := cmpV_at na a ea nb b eb (min ea (min eb ec)) (by omega) (by omega)
  have e2 := cmpV_at nb b eb nc c ec (min ea (min eb ec)) (by omega) (by omega)
  have e3 := cmpV_at na a ea nc c ec (min ea (min eb ec)) (by omega) (by omega)
  generalize sv na (a * 10 ^ (ea - min ea (min eb ec)).toNat) = A at *
  generalize sv nb (b * 10 ^ (eb - min ea (min eb ec)).toNat) = B at *
  generalize sv nc (c * 10 ^ (ec - min ea (min eb ec)).toNat) = C at *
  rcases cmpZ_cases A B with h | h | h <;> rcases cmpZ_cases B C with h' | h' | h' <;> rcases cmpZ_cases A C with h'' | h'' | h'' <;> omega
/-- The sign of a value. -/
def sgn (neg : Bool) (n : Nat) : Int := if n = 0 then 0 else if neg then -1 else 1
theorem sgn_zero (neg : Bool) : sgn neg 0 = 0 := by simp [sgn]
theorem sgn_of {neg : Bool} {n : Nat} (h : n ≠ 0) : sgn neg n = if neg then -1 else 1 := by rw [sgn, if_neg h]
/-- The order of texts of digits, of any lengths. -/
def lexc : List Nat → List Nat → Int
  | [], [] => 0
  | [], _ :: _ => -1
  | _ :: _, [] => 1
  | a :: x, b :: y => if a < b then -1 else if b < a then 1 else lexc x y
theorem mul_pow_pos {a k : Nat} (h : a ≠ 0) : 0 < a * 10 ^ k := Nat.mul_pos (by omega) (pow_pos10 k)
/-- Texts whose last digit is none 0, as what stands behind a point. -/
theorem lexc_val (ds es : List Nat) (hd : ∀ d ∈ ds, d < 10) (he : ∀ d ∈ es, d < 10) (ld : ds.reverse.head? ≠ some 0) (le : es.reverse.head? ≠ some 0) :
    lexc ds es = cmpZ ((dval ds * 10 ^ es.length : Nat) : Int) ((dval es * 10 ^ ds.length : Nat) : Int) := by
  have nz : ∀ (xs : List Nat), xs ≠ [] → xs.reverse.head? ≠ some 0 → 0 < dval xs := by
    intro xs hn hl
    rcases hr : xs.reverse with _ | ⟨x, r⟩
    · exact absurd (by simpa using hr) hn
    · rw [hr] at hl
      simp only [List.head?_cons, ne_eq, Option.some.injEq] at hl
      unfold dval
      rw [hr, val]
      omega
  induction ds generalizing es with
  | nil =>
    rcases es with _ | ⟨b, y⟩
    · simp [lexc, dval_nil, cmpZ]
    · have := nz (b :: y) (by simp) le
      rw [lexc, cmpZ_lt (by simp only [dval_nil, Nat.zero_mul, List.length_nil, Nat.pow_zero, Nat.mul_one]; omega)]
  | cons a x ih =>
    rcases es with _ | ⟨b, y⟩
    · have := nz (a :: x) (by simp) ld
      rw [lexc, cmpZ_gt (by simp only [dval_nil, Nat.zero_mul, List.length_nil, Nat.pow_zero, Nat.mul_one]; omega)]
    · have hx := dval_lt x fun d h => hd d (by simp [h])
      have hy := dval_lt y fun d h => he d (by simp [h])
      have last : ∀ (c : Nat) (z : List Nat), (c :: z).reverse.head? ≠ some 0 → z.reverse.head? ≠ some 0 := by
        intro c z h
        rcases hr : z.reverse with _ | ⟨u, v⟩
        · simp
        · rw [List.reverse_cons, hr] at h
          simpa using h
      have ih' := ih y (fun d h => hd d (by simp [h])) (fun d h => he d (by simp [h])) (last a x ld) (last b y le)
      have ea : dval (a :: x) * 10 ^ (b :: y).length = (dval x * 10 ^ y.length) * 10 + 10 ^ (x.length + y.length + 1) * a := by
        rw [dval_cons, List.length_cons, Nat.add_mul, Nat.pow_succ, Nat.pow_succ, Nat.pow_add]
        simp only [Nat.mul_assoc, Nat.mul_comm, Nat.mul_left_comm]
      have eb : dval (b :: y) * 10 ^ (a :: x).length = (dval y * 10 ^ x.length) * 10 + 10 ^ (x.length + y.length + 1) * b := by
        rw [dval_cons, List.length_cons, Nat.add_mul, Nat.pow_succ, Nat.pow_succ, Nat.pow_add]
        simp only [Nat.mul_assoc, Nat.mul_comm, Nat.mul_left_comm]
      have k1 : dval x * 10 ^ y.length * 10 < 10 ^ (x.length + y.length + 1) := by
        rw [Nat.pow_succ, Nat.pow_add]
        exact Nat.mul_lt_mul_of_pos_right (Nat.mul_lt_mul_of_pos_right hx (pow_pos10 _)) (by omega)
      have k2 : dval y * 10 ^ x.length * 10 < 10 ^ (x.length + y.length + 1) := by
        rw [Nat.pow_succ, Nat.pow_add, Nat.mul_comm (10 ^ x.length)]
        exact Nat.mul_lt_mul_of_pos_right (Nat.mul_lt_mul_of_pos_right hy (pow_pos10 _)) (by omega)
      rw [ea, eb, lexc]
      generalize 10 ^ (x.length + y.length + 1) = P at *
      rcases Nat.lt_trichotomy a b with h | h | h
      · have h3 : P * (a + 1) ≤ P * b := Nat.mul_le_mul_left _ h
        rw [Nat.mul_add] at h3
        rw [if_pos h, cmpZ_lt (by omega)]
      · subst h
        rw [if_neg (by omega), if_neg (by omega), ih']
        exact cmpZ_iff (by omega) (by omega)
      · have h3 : P * (b + 1) ≤ P * a := Nat.mul_le_mul_left _ h
        rw [Nat.mul_add] at h3
        rw [if_neg (by omega), if_pos h, cmpZ_gt (by omega)]
theorem decs_last {q : Nat} (h : q % 10 ≠ 0) : (decs q).reverse.head? ≠ some 0 := by
  rw [decs_snoc (show q ≠ 0 by omega)]
  simp
  exact h
/-- What the order of two is without their signs, when they are as they should be. -/
def sizeC (a : Nat) (ea : Int) (b : Nat) (eb : Int) : Int :=
  if dtop a ea = dtop b eb then lexc (decs (nq a)) (decs (nq b)) else cmpZ (dtop a ea) (dtop b eb)
theorem sizeC_eq {a b : Nat} (ha : a ≠ 0) (hb : b ≠ 0) (ea eb : Int) : sizeC a ea b eb = cmpV false a ea false b eb := by
  obtain ⟨m, hm⟩ : ∃ m, m = min ea eb := ⟨_, rfl⟩
  rw [cmpV_at false a ea false b eb m (by omega) (by omega)]
  obtain ⟨i, hi⟩ : ∃ i, i = (ea - m).toNat := ⟨_, rfl⟩
  obtain ⟨j, hj⟩ : ∃ j, j = (eb - m).toNat := ⟨_, rfl⟩
  rw [← hi, ← hj]
  have ga := decs_ge ha
  have gb := decs_ge hb
  have la := lt_pow_decs a
  have lb := lt_pow_decs b
  have pa := decs_pos ha
  have pb := decs_pos hb
  have ta : dtop a ea = m + i + (decs a).length - 1 := by rw [dtop, if_neg ha]; omega
  have tb : dtop b eb = m + j + (decs b).length - 1 := by rw [dtop, if_neg hb]; omega
  simp only [sv, if_false, Bool.false_eq_true]
  have key : ∀ (x y u v k l : Nat), x < 10 ^ k → 10 ^ (l - 1) ≤ y → 0 < l → k + u < l + v → x * 10 ^ u < y * 10 ^ v := by
    intro x y u v k l h1 h2 h3 h4
    have e1 : x * 10 ^ u < 10 ^ k * 10 ^ u := Nat.mul_lt_mul_of_pos_right h1 (pow_pos10 u)
    have e2 : 10 ^ (l - 1) * 10 ^ v ≤ y * 10 ^ v := Nat.mul_le_mul_right _ h2
    have e3 : 10 ^ k * 10 ^ u ≤ 10 ^ (l - 1) * 10 ^ v := by
      rw [← Nat.pow_add, ← Nat.pow_add]
      exact Nat.pow_le_pow_right (by omega) (by omega)
    omega
  unfold sizeC
  by_cases ht : dtop a ea = dtop b eb
  · rw [if_pos ht]
    have qa := nq_spec a
    have qb := nq_spec b
    have wa := decs_len_tz ha
    have wb := decs_len_tz hb
    rw [lexc_val _ _ (decs_lt _) (decs_lt _) (decs_last (qa.2 ha)) (decs_last (qb.2 hb)), dval_decs, dval_decs]
    have s1 := cmpZ_mul ((nq a * 10 ^ (decs (nq b)).length : Nat) : Int) ((nq b * 10 ^ (decs (nq a)).length : Nat) : Int) (10 ^ (tz10 a + i + (decs (nq a)).length)) (pow_pos10 _)
    have s2 := cmpZ_mul ((a * 10 ^ i : Nat) : Int) ((b * 10 ^ j : Nat) : Int) (10 ^ ((decs (nq a)).length + (decs (nq b)).length)) (pow_pos10 _)
    rw [← s1, ← s2]
    have f1 : nq a * 10 ^ (decs (nq b)).length * 10 ^ (tz10 a + i + (decs (nq a)).length) = a * 10 ^ i * 10 ^ ((decs (nq a)).length + (decs (nq b)).length) := by
      rw [show a * 10 ^ i = nq a * 10 ^ tz10 a * 10 ^ i by rw [qa.1]]
      simp only [Nat.pow_add, Nat.mul_assoc, Nat.mul_comm, Nat.mul_left_comm]
    have f2 : nq b * 10 ^ (decs (nq a)).length * 10 ^ (tz10 a + i + (decs (nq a)).length) = b * 10 ^ j * 10 ^ ((decs (nq a)).length + (decs (nq b)).length) := by
      rw [show tz10 a + i + (decs (nq a)).length = tz10 b + j + (decs (nq b)).length by omega]
      rw [show b * 10 ^ j = nq b * 10 ^ tz10 b * 10 ^ j by rw [qb.1]]
      simp only [Nat.pow_add, Nat.mul_assoc, Nat.mul_comm, Nat.mul_left_comm]
    rw [← Int.natCast_mul, ← Int.natCast_mul, ← Int.natCast_mul, ← Int.natCast_mul, f1, f2]
  · rw [if_neg ht]
    rcases Int.lt_or_gt_of_ne ht with h | h
    · have := key a b i j _ _ la gb pb (by omega)
      rw [cmpZ_lt h, cmpZ_lt (by omega)]
    · have := key b a j i _ _ lb ga pa (by omega)
      rw [cmpZ_gt h, cmpZ_gt (by omega)]
/-- What Cmp answers. -/
def cmpD (na : Bool) (a : Nat) (ea : Int) (nb : Bool) (b : Nat) (eb : Int) : Int :=
  if sgn na a = sgn nb b then sgn na a * sizeC a ea b eb else cmpZ (sgn na a) (sgn nb b)
theorem cmpD_eq (na : Bool) (a : Nat) (ea : Int) (nb : Bool) (b : Nat) (eb : Int) : cmpD na a ea nb b eb = cmpV na a ea nb b eb := by
  unfold cmpD
  by_cases ha : a = 0
  · subst ha
    rw [sgn_zero]
    by_cases hb : b = 0
    · subst hb; simp [sgn_zero, cmpV, sv, cmpZ]
    · have hp := mul_pow_pos (k := (eb - min ea eb).toNat) hb
      rw [sgn_of hb, cmpV, Nat.zero_mul, sv_zero]
      generalize b * 10 ^ (eb - min ea eb).toNat = Y at *
      cases nb
      · rw [if_neg (by simp), cmpZ_lt (by simp), cmpZ_lt (by simp only [sv, Bool.false_eq_true, if_false]; omega)]
      · rw [if_neg (by simp), cmpZ_gt (by simp), cmpZ_gt (by simp only [sv, if_true]; omega)]
  · by_cases hb : b = 0
    · subst hb
      have hp := mul_pow_pos (k := (ea - min ea eb).toNat) ha
      rw [sgn_zero, sgn_of ha, cmpV, Nat.zero_mul, sv_zero]
      generalize a * 10 ^ (ea - min ea eb).toNat = X at *
      cases na
      · rw [if_neg (by simp), cmpZ_gt (by simp), cmpZ_gt (by simp only [sv, Bool.false_eq_true, if_false]; omega)]
      · rw [if_neg (by simp), cmpZ_lt (by simp), cmpZ_lt (by simp only [sv, if_true]; omega)]
    · have h1 := mul_pow_pos (k := (ea - min ea eb).toNat) ha
      have h2 := mul_pow_pos (k := (eb - min ea eb).toNat) hb
      rw [sgn_of ha, sgn_of hb, sizeC_eq ha hb, cmpV, cmpV]
      generalize a * 10 ^ (ea - min ea eb).toNat = X at *
      generalize b * 10 ^ (eb - min ea eb).toNat = Y at *
      cases na <;> cases nb
      · rw [if_pos rfl]; simp
      · rw [if_neg (by simp), cmpZ_gt (by simp), cmpZ_gt (by simp only [sv, Bool.false_eq_true, if_false, if_true]; omega)]
      · rw [if_neg (by simp), cmpZ_lt (by simp), cmpZ_lt (by simp only [sv, Bool.false_eq_true, if_false, if_true]; omega)]
      · rw [if_pos rfl]
        simp only [sv, if_true, if_false, Bool.false_eq_true]
        rw [cmpZ_neg, cmpZ_turn]
        omega
/-- One value and one sign: one decimal, as it should be. -/
theorem norm_unique {p q i j : Nat} (hp : p % 10 ≠ 0) (hq : q % 10 ≠ 0) (h : p * 10 ^ i = q * 10 ^ j) : p = q ∧ i = j := by
  have half : ∀ {p q i j : Nat}, p % 10 ≠ 0 → p * 10 ^ i = q * 10 ^ j → ¬ i < j := by
    intro p q i j hp h hij
    obtain ⟨k, rfl⟩ : ∃ k, j = i + (k + 1) := ⟨j - i - 1, by omega⟩
    rw [Nat.pow_add, Nat.mul_comm (10 ^ i), ← Nat.mul_assoc] at h
    have := Nat.eq_of_mul_eq_mul_right (pow_pos10 i) h
    rw [Nat.pow_succ, ← Nat.mul_assoc] at this
    omega
  have e : i = j := by
    have := half hp h
    have := half hq h.symm
    omega
  subst e
  exact ⟨Nat.eq_of_mul_eq_mul_right (pow_pos10 i) h, rfl⟩
theorem sv_inj {n : Bool} {a b : Nat} (h : sv n a = sv n b) : a = b := by cases n <;> simp [sv] at h <;> omega
theorem cmpV_zero_iff {n : Bool} {a b : Nat} {ea eb : Int} : cmpV n a ea n b eb = 0 ↔ nq a = nq b ∧ nexp a ea = nexp b eb := by
  obtain ⟨m, hm⟩ : ∃ m, m = min ea eb := ⟨_, rfl⟩
  rw [cmpV_at n a ea n b eb m (by omega) (by omega)]
  obtain ⟨i, hi⟩ : ∃ i, i = (ea - m).toNat := ⟨_, rfl⟩
  obtain ⟨j, hj⟩ : ∃ j, j = (eb - m).toNat := ⟨_, rfl⟩
  rw [← hi, ← hj]
  have e0 : cmpZ (sv n (a * 10 ^ i)) (sv n (b * 10 ^ j)) = 0 ↔ a * 10 ^ i = b * 10 ^ j := by
    constructor
    · intro h
      rcases cmpZ_cases (sv n (a * 10 ^ i)) (sv n (b * 10 ^ j)) with h' | h' | h'
      · omega
      · exact sv_inj h'.1
      · omega
    · intro h; rw [h]; exact cmpZ_eq rfl
  rw [e0]
  by_cases ha : a = 0
  · subst ha
    rw [nq_zero, nexp, if_pos rfl]
    constructor
    · intro h
      have hb : b = 0 := by
        rcases Nat.eq_zero_or_pos b with hb | hb
        · exact hb
        · have := mul_pow_pos (k := j) (show b ≠ 0 by omega); omega
      subst hb
      simp [nq_zero, nexp]
    · rintro ⟨h1, -⟩
      have hb : b = 0 := by
        rcases Nat.eq_zero_or_pos b with hb | hb
        · exact hb
        · exact absurd h1.symm (nq_pos (by omega))
      subst hb; simp
  · by_cases hb : b = 0
    · subst hb
      rw [nq_zero]
      constructor
      · intro h; have := mul_pow_pos (k := i) ha; omega
      · rintro ⟨h1, -⟩; exact absurd h1 (nq_pos ha)
    · have qa := nq_spec a
      have qb := nq_spec b
      rw [nexp, nexp, if_neg ha, if_neg hb]
      have e1 : a * 10 ^ i = nq a * 10 ^ (tz10 a + i) := by rw [Nat.pow_add, ← Nat.mul_assoc, qa.1]
      have e2 : b * 10 ^ j = nq b * 10 ^ (tz10 b + j) := by rw [Nat.pow_add, ← Nat.mul_assoc, qb.1]
      rw [e1, e2]
      constructor
      · intro h
        have := norm_unique (qa.2 ha) (qb.2 hb) h
        exact ⟨this.1, by omega⟩
      · rintro ⟨h1, h2⟩
        rw [h1, show tz10 a + i = tz10 b + j by omega]
theorem nq_nq (n : Nat) : nq (nq n) = nq n := by
  by_cases h : n = 0
  · subst h; simp [nq_zero]
  · exact nq_none ((nq_spec n).2 h)
theorem nexp_nq (n : Nat) (e : Int) : nexp (nq n) (nexp n e) = nexp n e := by
  by_cases h : n = 0
  · subst h; simp [nq_zero, nexp]
  · have h1 := nq_pos h
    rw [nexp, if_neg h1, tz10_none ((nq_spec n).2 h)]; omega
/-- A decimal as it should be is worth as much. -/
theorem cmpV_norm (n : Bool) (a : Nat) (e : Int) : cmpV n a e n (nq a) (nexp a e) = 0 := by
  rw [cmpV_zero_iff, nq_nq, nexp_nq]; exact ⟨rfl, rfl⟩
end Go.Proofs.YtekanlcfgfllcaaDoor
/- Dec1 -/
/-
  Dec1: texts of digits as values; strings.TrimRight at "0"; cmp.Compare of texts; a decimal that is handed in; dec.Coef, dec.first, dec.Zero, dec.sign.
-/
namespace Go.Proofs.YtekanlcfgfllcaaDoor
open Go.RowKit
/-- The text of digits. -/
def strD (ds : List Nat) : ByteArray := ⟨(ds.map (fun d => UInt8.ofNat (48 + d))).toArray⟩
theorem isD_strD {ds : List Nat} (h : ∀ d ∈ ds, d < 10) : IsD (strD ds) ds := by
  refine ⟨?_, h⟩
  simp only [strD, List.map_map]
  refine List.map_congr_left fun d hd => ?_
  have := h d hd
  simp only [Function.comp, UInt8.toNat_ofNat']
  omega
theorem IsD.eq_strD {s : ByteArray} {ds : List Nat} (h : IsD s ds) : s = strD ds := IsD.ext h (isD_strD h.2)
theorem orZero_lt {ds : List Nat} (h : ∀ d ∈ ds, d < 10) : ∀ d ∈ orZero ds, d < 10 := by
  unfold orZero
  split
  · simp
  · exact h
/-- The digits of a number, as they should be. -/
def nstr (n : Nat) : ByteArray := strD (orZero (decs (nq n)))
theorem isD_nstr (n : Nat) : IsD (nstr n) (orZero (decs (nq n))) := isD_strD (orZero_lt (decs_lt _))
theorem nstr_pos (n : Nat) : 0 < (nstr n).size := by
  rw [(isD_nstr n).size]
  unfold orZero
  split
  · simp
  · rename_i h; exact Nat.pos_of_ne_zero fun e => h (List.eq_nil_of_length_eq_zero e)
theorem IsD.isEmpty_false {s : ByteArray} {ds : List Nat} (h : IsD s ds) (hp : 0 < s.size) : s.toList.isEmpty = false := by
  cases hh : s.toList with
  | nil =>
    have h1 := h.list
    rw [hh] at h1
    have h2 := h.size
    simp at h1
    rw [h1] at h2
    simp only [List.length_nil] at h2
    omega
  | cons => rfl
set_option maxHeartbeats 800000 in
theorem trimRightByte_c (s : ByteArray) (ds : List Nat) (w : World) (h : IsD s ds) (hs : s.size ≤ 1000000000000) :
    Calls Tryd.prog 68 #[.string s, .int .u8 48] w fun e w' => e = .returned (.string (strD (stripE ds))) ∧ w = w' := by
  have H := Lib.hid h
  clear h
  go_enter Tryd.func68, Tryd.ntmps68
  go_wp2
  go_loop [0] (fun v => ∃ (t : ByteArray) (es : List Nat), v = .string t ∧ IsD t es ∧ stripE es = stripE ds ∧ t.size ≤ 1000000000000) (fun v => strLen v)
  case atStart => exact ⟨s, ds, rfl, H.out, rfl, hs⟩
  case round =>
    obtain ⟨t, es, rfl, ht0, hz0, htl⟩ := hrel
    have HZ := Lib.hid hz0
    have HT := Lib.hid ht0
    rcases List.eq_nil_or_concat es with rfl | ⟨r, d, rfl⟩
    · have hsz : t.size = 0 := ht0.size
      clear ht0 hz0
      go_wp2
      go_ret
      refine ⟨?_, rfl⟩
      rw [← HZ.out, HT.out.eq_strD]; rfl
    · have hsz : t.size = r.length + 1 := by rw [ht0.size]; simp
      have hpos : 0 < t.size := by omega
      have hpos1 : 1 ≤ t.size := by omega
      have hlt : t.size - 1 < t.size := by omega
      have hb := ht0.at_ hlt
      have hd0 : (r.concat d).getD (t.size - 1) 0 = d := by
        rw [hsz]; simp [List.getD]
      rw [hd0] at hb
      have HSZ := Lib.hid hsz
      have HB := Lib.hid hb
      clear ht0 hz0 hsz hb hd0
      by_cases hd : d = 0
      · have hd1 : (((t[t.size - 1].toNat : Nat) : Int) == 48) = true := by have := HB.out; simp; omega
        go_wp2
        go_round
        case rel =>
          refine ⟨_, r, rfl, ?_, ?_, ?_⟩
          · have h1 := HT.out.cut 0 (t.size - 1)
            rw [HSZ.out, Nat.add_sub_cancel, List.drop_zero, List.concat_eq_append, List.take_left] at h1
            rw [HSZ.out, Nat.add_sub_cancel]
            exact h1
          · rw [← HZ.out, hd, List.concat_eq_append, stripE_snoc0]
          · simp; omega
        case measure => simp [strLen]; omega
      · have hd1 : (((t[t.size - 1].toNat : Nat) : Int) == 48) = false := by have := HB.out; simp; omega
        go_wp2
        go_ret
        refine ⟨?_, rfl⟩
        rw [← HZ.out, List.concat_eq_append, stripE_snoc _ hd, ← List.concat_eq_append]
        exact congrArg (fun x => Ending.returned (.string x)) HT.out.eq_strD
set_option maxHeartbeats 800000 in
set_option maxRecDepth 100000 in
theorem trimRight_c (s : ByteArray) (ds : List Nat) (w : World) (h : IsD s ds) (hp : 0 < s.size) (hs : s.size ≤ 1000000000000) :
    Calls Tryd.prog 51 #[.string s, .string ⟨#[48]⟩] w fun e w' => e = .returned (.string (strD (stripE ds))) ∧ w = w' := by
  have hb2 := h.isEmpty_false hp
  have hb1 : (!s.toList.isEmpty) = true := by rw [hb2]; rfl
  have HCT := Lib.hid (trimRightByte_c s ds w h hs)
  clear h
  go_enter Tryd.func51, Tryd.ntmps51
  go_wp2_with (go_at_call 68; refine HCT.out.mono ?_; rintro e w' ⟨rfl, rfl⟩)
  go_ret
  exact ⟨rfl, rfl⟩
theorem bytesLess_lexc (l m : List UInt8) (ds es : List Nat) (hl : l.map UInt8.toNat = ds.map (fun d => 48 + d)) (hm : m.map UInt8.toNat = es.map (fun d => 48 + d))
    (hd : ∀ d ∈ ds, d < 10) (he : ∀ d ∈ es, d < 10) : Op.bytesLess l m = decide (lexc ds es < 0) := by
  induction ds generalizing l m es with
  | nil =>
    obtain rfl : l = [] := by simpa using hl
    rcases es with _ | ⟨e, q⟩
    · obtain rfl : m = [] := by simpa using hm
      rfl
    · rcases m with _ | ⟨b, m⟩
      · simp at hm
      · simp [Op.bytesLess, lexc]
  | cons d r ih =>
    rcases l with _ | ⟨a, l⟩
    · simp at hl
    rcases es with _ | ⟨e, q⟩
    · obtain rfl : m = [] := by simpa using hm
      simp [Op.bytesLess, lexc]
    rcases m with _ | ⟨b, m⟩
    · simp at hm
    simp only [List.map_cons, List.cons.injEq] at hl hm
    have ih' := ih l m q hl.2 hm.2 (fun x hx => hd x (by simp [hx])) (fun x hx => he x (by simp [hx]))
    have ea : (a < b) ↔ d < e := by rw [UInt8.lt_iff_toNat_lt, hl.1, hm.1]; omega
    have eb : (a == b) = decide (d = e) := by
      rw [Bool.eq_iff_iff]
      simp only [beq_iff_eq, decide_eq_true_eq]
      rw [← UInt8.toNat_inj, hl.1, hm.1]; omega
    simp only [Op.bytesLess, ih', eb, lexc]
    rcases Nat.lt_trichotomy d e with h | h | h
    · simp [ea.2 h, h]
    · subst h
      have : ¬ a < b := fun hh => by have := ea.1 hh; omega
      simp [this]
    · have h5 : ¬ a < b := fun hh => by have := ea.1 hh; omega
      have h6 : ¬ d = e := by omega
      have h7 : ¬ d < e := by omega
      simp [h5, h6, h7, h]
theorem lexc_turn (ds es : List Nat) : lexc es ds = -lexc ds es := by
  induction ds generalizing es with
  | nil => cases es <;> simp [lexc]
  | cons a x ih =>
    rcases es with _ | ⟨b, y⟩
    · simp [lexc]
    · simp only [lexc, ih y]
      rcases Nat.lt_trichotomy a b with h | h | h
      · rw [if_neg (by omega), if_pos h, if_pos h]; rfl
      · subst h; simp
      · rw [if_pos h, if_neg (by omega), if_pos h]
theorem lexc_cases (ds es : List Nat) : lexc ds es = -1 ∨ lexc ds es = 0 ∨ lexc ds es = 1 := by
  induction ds generalizing es with
  | nil => cases es <;> simp [lexc]
  | cons a x ih =>
    rcases es with _ | ⟨b, y⟩
    · simp [lexc]
    · simp only [lexc]
      split
      · simp
      · split
        · simp
        · exact ih y
theorem lexc_self (ds : List Nat) : lexc ds ds = 0 := by
  induction ds with
  | nil => rfl
  | cons a x ih => simp [lexc, ih]
theorem lexc_zero {ds es : List Nat} (h : lexc ds es = 0) : ds = es := by
  induction ds generalizing es with
  | nil => cases es <;> simp [lexc] at h ⊢
  | cons a x ih =>
    rcases es with _ | ⟨b, y⟩
    · simp [lexc] at h
    · simp only [lexc] at h
      split at h
      · omega
      · split at h
        · omega
        · obtain rfl : a = b := by omega
          rw [ih h]
/-- A decimal that may be handed in: its digits, its exponent (B: a bound), its coefficient. -/
structure DA (B : Nat) (s : ByteArray) (e : Int) (N : Nat) : Prop where
  isD : ∃ ds, IsD s ds ∧ dval ds = N
  pos : 0 < s.size
  len : s.size ≤ 5000
  lo : -(B : Int) ≤ e
  hi : e ≤ (B : Int)
theorem DA.declen {B : Nat} {s : ByteArray} {e : Int} {N : Nat} (h : DA B s e N) : (decs N).length ≤ 5000 := by
  obtain ⟨ds, hd, rfl⟩ := h.isD
  have := decs_dval_length ds hd.2
  have := hd.size
  have := h.len
  omega
theorem nq_len (n : Nat) : (decs (nq n)).length ≤ (decs n).length := decs_length_le (nq_le n)
theorem tz_len (n : Nat) : tz10 n ≤ (decs n).length := by
  by_cases h : n = 0
  · subst h; simp [tz10_zero]
  · have := decs_len_tz h; omega
theorem nstr_size (n : Nat) : (nstr n).size ≤ (decs n).length + 1 := by
  rw [(isD_nstr n).size]
  have := nq_len n
  unfold orZero
  split <;> simp <;> omega
theorem dval_orZero' (ds : List Nat) : dval (orZero ds) = dval ds := by cases ds <;> rfl
theorem DA.norm {B : Nat} {s : ByteArray} {e : Int} {N : Nat} (h : DA B s e N) : DA (B + 5000) (nstr N) (nexp N e) (nq N) := by
  have h1 := h.declen
  refine ⟨⟨_, isD_nstr N, by rw [dval_orZero', dval_decs]⟩, nstr_pos N, ?_, ?_, ?_⟩
  · rw [(isD_nstr N).size]
    have := nq_len N
    unfold orZero
    split <;> simp <;> omega
  · have := h.lo
    have := tz_len N
    unfold nexp; split <;> omega
  · have := h.hi
    have := tz_len N
    unfold nexp; split <;> omega
theorem DA.mono {B B' : Nat} {s : ByteArray} {e : Int} {N : Nat} (h : DA B s e N) (hB : B ≤ B') : DA B' s e N :=
  ⟨h.isD, h.pos, h.len, by have := h.lo; omega, by have := h.hi; omega⟩
set_option maxHeartbeats 800000 in
set_option maxRecDepth 100000 in
theorem decCoef_c (B : Nat) (n : Bool) (s : ByteArray) (e : Int) (N : Nat) (w : World) (h : DA B s e N) (hP : Pw w) :
    Calls Tryd.prog 22 #[.agg #[.bool n, .string s, .int .i64 e]] w fun r w' => ∃ A m c, r = .returned (.slice A m c) ∧ OwnS w' w.heap.size A m c (digs 1000000000 N) ∧ Below w.heap.size w w' := by
  obtain ⟨ds, hd, hv⟩ := h.isD
  have hb0 := (Below.refl w.heap.size w).alloc (Nat.le_refl _) (.cells #[.bool n, .string s, .int .i64 e] 23)
  have CN := tenNumber_ok s ds (w.alloc (.cells #[.bool n, .string s, .int .i64 e] 23)) hd (Nat.le_trans h.len (by omega)) h.pos (hP.below hb0)
  rw [hv] at CN
  have HCN := Lib.hid CN
  have HB0 := Lib.hid hb0
  clear CN h hP hb0 hd hv
  go_enter Tryd.func22, Tryd.ntmps22
  go_wp2_with (go_at_call 46; refine HCN.out.mono ?_; rintro r w1 ⟨A, m, c, rfl, ho, hb⟩; have HO := Lib.hid ho; have HB := Lib.hid hb; clear ho hb HCN)
  go_ret
  exact ⟨A, m, c, rfl, HO.out.weaken HB0.out.size, HB0.out.trans (HB.out.mono HB0.out.size)⟩
theorem zero_len {N m : Nat} (h : (digs 1000000000 N).length = m) : ((m : Int) == 0) = decide (N = 0) := by
  have := digs_length_zero 1000000000 (by omega) N
  rw [h] at this
  rw [Bool.eq_iff_iff]
  simp only [beq_iff_eq, decide_eq_true_eq]
  omega
set_option maxHeartbeats 800000 in
set_option maxRecDepth 100000 in
theorem decZero_c (B : Nat) (n : Bool) (s : ByteArray) (e : Int) (N : Nat) (w : World) (h : DA B s e N) (hP : Pw w) :
    Calls Tryd.prog 62 #[.agg #[.bool n, .string s, .int .i64 e]] w fun r w' => r = .returned (.bool (decide (N = 0))) ∧ Below w.heap.size w w' := by
  have hb0 := (Below.refl w.heap.size w).alloc (Nat.le_refl _) (.cells #[.bool n, .string s, .int .i64 e] 23)
  have HCN := Lib.hid (decCoef_c B n s e N (w.alloc (.cells #[.bool n, .string s, .int .i64 e] 23)) h (hP.below hb0))
  have HB0 := Lib.hid hb0
  clear h hP hb0
  go_enter Tryd.func62, Tryd.ntmps62
  go_wp2_with (go_at_call 22; refine HCN.out.mono ?_; rintro r w1 ⟨A, m, c, rfl, ho, hb⟩; have hm := zero_len ho.len; have HB := Lib.hid hb; clear ho hb HCN)
  go_ret
  exact ⟨rfl, HB0.out.trans (HB.out.mono HB0.out.size)⟩
set_option maxHeartbeats 800000 in
set_option maxRecDepth 100000 in
theorem decFirst_c (n : Bool) (s : ByteArray) (e : Int) (w : World) (hs : s.size ≤ 1000000) (h1 : -1000000000000 ≤ e) (h2 : e ≤ 1000000000000) :
    Calls Tryd.prog 86 #[.agg #[.bool n, .string s, .int .i64 e]] w fun r w' => r = .returned (.int .i64 (e + (s.size : Int) - 1)) ∧ Below w.heap.size w w' := by
  go_enter Tryd.func86, Tryd.ntmps86
  go_wp2
  go_ret
  exact ⟨rfl, (Below.refl w.heap.size w).alloc (Nat.le_refl _) _⟩
end Go.Proofs.YtekanlcfgfllcaaDoor
/- Dec2 -/
/-
  Dec2: dec.Norm, dec.sign, dec.cmpSizes.
-/
namespace Go.Proofs.YtekanlcfgfllcaaDoor
open Go.RowKit
theorem strD_nil : strD [] = ⟨#[]⟩ := rfl
theorem strD_size (ds : List Nat) : (strD ds).size = ds.length := by simp [strD, ByteArray.size]
/-- A block of three cells, as it reads. -/
def Box3 (W : World) (g : Nat) (x y z : Value) : Prop :=
  W.cell? ⟨g, 0, none⟩ = some x ∧ W.cell? ⟨g, 1, none⟩ = some y ∧ W.cell? ⟨g, 2, none⟩ = some z ∧ W.frozen? ⟨g, 0, none⟩ = false ∧ W.frozen? ⟨g, 1, none⟩ = false ∧ W.frozen? ⟨g, 2, none⟩ = false ∧ g < W.heap.size
theorem Box3.new (w : World) (x y z : Value) (t : TypeId) : Box3 (w.alloc (.cells #[x, y, z] t)) w.heap.size x y z := by
  refine ⟨?_, ?_, ?_, ?_, ?_, ?_, ?_⟩ <;> first | go_simp | simp
theorem Box3.below {B : Nat} {W W' : World} {g : Nat} {x y z : Value} (h : Box3 W g x y z) (hb : Below B W W') (hg : g < B) : Box3 W' g x y z := by
  obtain ⟨c0, c1, c2, f0, f1, f2, hz⟩ := h
  exact ⟨(hb.cell (p := ⟨g, 0, none⟩) hg).trans c0, (hb.cell (p := ⟨g, 1, none⟩) hg).trans c1, (hb.cell (p := ⟨g, 2, none⟩) hg).trans c2,
    (hb.frozen (p := ⟨g, 0, none⟩) hg).trans f0, (hb.frozen (p := ⟨g, 1, none⟩) hg).trans f1, (hb.frozen (p := ⟨g, 2, none⟩) hg).trans f2, Nat.lt_of_lt_of_le hz hb.size⟩
theorem Box3.keep {W W' : World} {g : Nat} {x y z : Value} (h : Box3 W g x y z) (hb : Below W.heap.size W W') : Box3 W' g x y z := h.below hb h.2.2.2.2.2.2
theorem Box3.alloc {W : World} {g : Nat} {x y z : Value} (h : Box3 W g x y z) (o : Obj) : Box3 (W.alloc o) g x y z := h.keep ((Below.refl _ _).alloc (Nat.le_refl _) o)
theorem Box3.drew {W : World} {g : Nat} {x y z : Value} (h : Box3 W g x y z) : Box3 W.drew g x y z := h
theorem nstr_zero : nstr 0 = ⟨#[48]⟩ := by rw [nstr, nq_zero, decs_zero]; rfl
theorem orZero_of {ds : List Nat} (h : ds ≠ []) : orZero ds = ds := by simp [orZero, h]
theorem nstr_of {N : Nat} (h : N ≠ 0) : nstr N = strD (decs (nq N)) := by rw [nstr, orZero_of (decs_nz (nq_pos h))]
theorem trimRight_zero (s : ByteArray) (w : World) (h : IsD s (orZero (decs 0))) :
    Calls Tryd.prog 51 #[.string s, .string ⟨#[48]⟩] w fun e w' => e = .returned (.string ⟨#[]⟩) ∧ w = w' := by
  have h1 := h.size
  rw [decs_zero] at h h1
  exact trimRight_c s _ w h (by rw [h1]; decide) (by rw [h1]; decide)
theorem trimRight_pos (s : ByteArray) (N : Nat) (w : World) (hN : N ≠ 0) (h : IsD s (orZero (decs N))) (hs : s.size ≤ 1000000000000) :
    Calls Tryd.prog 51 #[.string s, .string ⟨#[48]⟩] w fun e w' => e = .returned (.string (nstr N)) ∧ w = w' := by
  have h1 := h.size
  have h2 := decs_pos hN
  rw [orZero_of (decs_nz hN)] at h h1
  have h3 := trimRight_c s _ w h (by omega) hs
  rw [stripE_decs, ← nstr_of hN] at h3
  exact h3
theorem nexp_len {N : Nat} (h : N ≠ 0) (e : Int) (L : Nat) (hL : L = (orZero (decs N)).length) : e + (L : Int) - ((nstr N).size : Int) = nexp N e := by
  have h1 := decs_len_tz h
  rw [hL, nexp, if_neg h, nstr_of h, strD_size, orZero_of (decs_nz h)]
  omega
set_option maxHeartbeats 1600000 in
set_option maxRecDepth 100000 in
theorem decNorm_c (B : Nat) (n : Bool) (s : ByteArray) (e : Int) (N : Nat) (w : World) (h : DA B s e N) (hB : B ≤ 1000000) (hP : Pw w) :
    Calls Tryd.prog 23 #[.agg #[.bool n, .string s, .int .i64 e]] w fun r w' => r = .returned (.agg #[.bool n, .string (nstr N), .int .i64 (nexp N e)]) ∧ Below w.heap.size w w' := by
  have hb0 := ((Below.refl w.heap.size w).alloc (Nat.le_refl _) (.cells #[.bool n, .string s, .int .i64 e] 23)).alloc (by simp) (.cells #[.bool false, .string ⟨#[]⟩, .int .i64 0] 23)
  have HCN := Lib.hid (decCoef_c B n s e N _ h (hP.below hb0))
  have P := Lib.hid (hP.below hb0)
  have hlo := h.lo
  have hhi := h.hi
  have hdl := h.declen
  have X1 := Lib.hid ((Box3.new w (.bool n) (.string s) (.int .i64 e) 23).alloc (.cells #[.bool false, .string ⟨#[]⟩, .int .i64 0] 23))
  have X2 := Lib.hid (show Box3 _ (w.heap.size + 1) _ _ _ from by have := Box3.new (w.alloc (.cells #[.bool n, .string s, .int .i64 e] 23)) (.bool false) (.string ⟨#[]⟩) (.int .i64 0) 23; rwa [World.size_alloc] at this)
  have HB0 := Lib.hid hb0
  clear h hP hb0
  have hds := nstr_size N
  by_cases hN : N = 0
  · subst hN
    rw [nstr_zero, show nexp 0 e = 0 by simp [nexp]]
    clear hdl hds
    go_enter Tryd.func23, Tryd.ntmps23
    go_wp2_with fail
    refine HCN.out.mono ?_
    rintro r w1 ⟨A, m, c, rfl, ho, hb⟩
    have hm : m = 0 := by rw [← ho.len, digs_zero]; rfl
    have CD := tenDigits_c A m c _ w1 ho.limbs (digs_lt 1000000000 (by omega) 0) (by omega) (P.out.below hb)
    rw [val_digs 1000000000 (by omega)] at CD
    have HCD := Lib.hid CD
    replace X1 := Lib.hid (X1.out.keep hb)
    replace X2 := Lib.hid (X2.out.keep hb)
    have HB1 := Lib.hid (HB0.out.trans (hb.mono HB0.out.size))
    clear ho hm CD P HCN hb HB0
    go_wp2_with fail
    refine HCD.out.mono ?_
    rintro r w2 ⟨s2, rfl, hs2, hb⟩
    have CT := fun w => trimRight_zero s2 w hs2
    have HCT := Lib.hid CT
    obtain ⟨c0, c1, c2, -, -, -, -⟩ := X1.out.keep hb
    obtain ⟨d0, d1, d2, f0, f1, f2, hz⟩ := X2.out.keep hb
    have HB2 := Lib.hid (HB1.out.trans (hb.mono HB1.out.size))
    clear CT hs2 HCD X1 X2 HB1 hb
    go_wp2_with (go_at_call 51; refine (HCT.out _).mono ?_; rintro r w' ⟨rfl, rfl⟩)
    exact bodyPost_ret (v := .agg #[.bool n, .string ⟨#[48]⟩, .int .i64 0]) (by simp [results, Tryd.results23, go_sem, d0, d1, d2]) rfl
      ⟨rfl, ((HB2.out.setCell (by simp) _).setCell (by simp) _).setCell (by simp) _⟩
  · have EN := fun L hL => nexp_len hN e L hL
    have HEN := Lib.hid EN
    have hnp : (nstr N).toList.isEmpty = false := (isD_nstr N).isEmpty_false (nstr_pos N)
    have hnp2 : (!(nstr N).toList.isEmpty) = true := by rw [hnp]; rfl
    clear EN
    go_enter Tryd.func23, Tryd.ntmps23
    go_wp2_with fail
    refine HCN.out.mono ?_
    rintro r w1 ⟨A, m, c, rfl, ho, hb⟩
    have hm : m ≤ 5000 := by rw [← ho.len]; exact Nat.le_trans (digs_len9 (lt_pow_decs N)) hdl
    have CD := tenDigits_c A m c _ w1 ho.limbs (digs_lt 1000000000 (by omega) N) (by omega) (P.out.below hb)
    rw [val_digs 1000000000 (by omega)] at CD
    have HCD := Lib.hid CD
    replace X1 := Lib.hid (X1.out.keep hb)
    replace X2 := Lib.hid (X2.out.keep hb)
    have HB1 := Lib.hid (HB0.out.trans (hb.mono HB0.out.size))
    clear ho hm CD P HCN hb HB0
    go_wp2_with fail
    refine HCD.out.mono ?_
    rintro r w2 ⟨s2, rfl, hs2, hb⟩
    have hsz := hs2.size
    rw [orZero_of (decs_nz hN)] at hsz
    have hs2l : s2.size ≤ 5000 := by omega
    have HE := Lib.hid (HEN.out s2.size hs2.size)
    have HCT := Lib.hid (fun w => trimRight_pos s2 N w hN hs2 (by omega))
    obtain ⟨c0, c1, c2, -, -, -, -⟩ := X1.out.keep hb
    obtain ⟨d0, d1, d2, f0, f1, f2, hz⟩ := X2.out.keep hb
    have HB2 := Lib.hid (HB1.out.trans (hb.mono HB1.out.size))
    clear hs2 HCD X1 X2 HB1 hb hsz HEN
    go_wp2_with (go_at_call 51; refine (HCT.out _).mono ?_; rintro r w' ⟨rfl, rfl⟩)
    rw [HE.out]
    exact bodyPost_ret (v := .agg #[.bool n, .string (nstr N), .int .i64 (nexp N e)]) (by simp [results, Tryd.results23, go_sem, d0, d1, d2]) rfl
      ⟨rfl, ((HB2.out.setCell (by simp) _).setCell (by simp) _).setCell (by simp) _⟩
/-- Three cells of a block, each listed. -/
def cellsOf3 : List (Nat × Value × Value × Value) → World → Prop
  | [], _ => True
  | t :: r, w => (w.cell? ⟨t.1, 0, none⟩ = some t.2.1 ∧ w.cell? ⟨t.1, 1, none⟩ = some t.2.2.1 ∧ w.cell? ⟨t.1, 2, none⟩ = some t.2.2.2) ∧ cellsOf3 r w
/-- What is held in a region: the table of powers, what was there ahead of the call, the blocks of the list. -/
def Kept3 (w0 : World) (L : List (Nat × Value × Value × Value)) (w : World) : Prop := Pw w ∧ Below w0.heap.size w0 w ∧ ∀ t ∈ L, Box3 w t.1 t.2.1 t.2.2.1 t.2.2.2
def Sd (w0 : World) (L : List (Nat × Value × Value × Value)) (w : World) : Prop := cellsOf3 L w ∧ Hid (Kept3 w0 L w)
theorem Sd.of {w0 w : World} {L : List (Nat × Value × Value × Value)} (h : Kept3 w0 L w) : Sd w0 L w := by
  refine ⟨?_, Lib.hid h⟩
  have hx := h.2.2
  clear h
  induction L with
  | nil => trivial
  | cons t r ih =>
    have h1 := hx t (by simp)
    exact ⟨⟨h1.1, h1.2.1, h1.2.2.1⟩, ih fun u hu => hx u (by simp [hu])⟩
theorem Kept3.keep {w0 w w' : World} {L : List (Nat × Value × Value × Value)} (h : Kept3 w0 L w) (hb : Below w.heap.size w w') : Kept3 w0 L w' :=
  ⟨h.1.below hb, h.2.1.trans (hb.mono h.2.1.size), fun t ht => (h.2.2 t ht).keep hb⟩
theorem Sd.keep {w0 w w' : World} {L : List (Nat × Value × Value × Value)} (h : Sd w0 L w) (hb : Below w.heap.size w w') : Sd w0 L w' := .of (h.2.out.keep hb)
theorem Sd.pw {w0 w : World} {L : List (Nat × Value × Value × Value)} (h : Sd w0 L w) : Pw w := h.2.out.1
theorem Sd.bel {w0 w : World} {L : List (Nat × Value × Value × Value)} (h : Sd w0 L w) : Below w0.heap.size w0 w := h.2.out.2.1
theorem Kept3.drew {w0 w : World} {L : List (Nat × Value × Value × Value)} (h : Kept3 w0 L w) : Kept3 w0 L w.drew := ⟨h.1, h.2.1.drew, h.2.2⟩
theorem top_all (N : Nat) (e : Int) : nexp N e + ((nstr N).size : Int) - 1 = dtop N e := by
  by_cases h : N = 0
  · subst h; rw [nstr_zero]; rfl
  · rw [nstr_of h, strD_size, top_norm h]
/-- What cmpSizes answers. -/
def sizeD (a : Nat) (ea : Int) (b : Nat) (eb : Int) : Int :=
  if dtop a ea = dtop b eb then lexc (orZero (decs (nq a))) (orZero (decs (nq b))) else cmpZ (dtop a ea) (dtop b eb)
theorem sizeD_eq {a b : Nat} (ha : a ≠ 0) (hb : b ≠ 0) (ea eb : Int) : sizeD a ea b eb = sizeC a ea b eb := by
  unfold sizeD sizeC
  rw [orZero_of (decs_nz (nq_pos ha)), orZero_of (decs_nz (nq_pos hb))]
theorem sizeD_bound (a : Nat) (ea : Int) (b : Nat) (eb : Int) : -1 ≤ sizeD a ea b eb ∧ sizeD a ea b eb ≤ 1 := by
  unfold sizeD
  split
  · rcases lexc_cases (orZero (decs (nq a))) (orZero (decs (nq b))) with h | h | h <;> omega
  · exact cmpZ_bound _ _
theorem decFirst_n (B : Nat) (n : Bool) (s : ByteArray) (e : Int) (a : Nat) (w : World) (h : DA B s e a) (hB : B ≤ 1000000) :
    Calls Tryd.prog 86 #[.agg #[.bool n, .string (nstr a), .int .i64 (nexp a e)]] w fun r w' => r = .returned (.int .i64 (dtop a e)) ∧ Below w.heap.size w w' := by
  have g := h.norm
  have h1 := g.len
  have h2 := g.lo
  have h3 := g.hi
  rw [← top_all a e]
  exact decFirst_c n (nstr a) (nexp a e) w (by omega) (by omega) (by omega)
theorem compareZ_c (x y : Int) (w : World) :
    Calls Tryd.prog 53 #[.int .i64 x, .int .i64 y] w fun e w' => e = .returned (.int .i64 (cmpZ x y)) ∧ w = w' := compareInt_c x y w
theorem kept_two (w : World) (x1 y1 z1 x2 y2 z2 : Value) (t : TypeId) (hP : Pw w) :
    Kept3 w [(w.heap.size, x1, y1, z1), (w.heap.size + 1, x2, y2, z2)] ((w.alloc (.cells #[x1, y1, z1] t)).alloc (.cells #[x2, y2, z2] t)) := by
  have hb0 := ((Below.refl w.heap.size w).alloc (Nat.le_refl _) (.cells #[x1, y1, z1] t)).alloc (by simp) (.cells #[x2, y2, z2] t)
  refine ⟨hP.below hb0, hb0, ?_⟩
  intro u hu
  simp only [List.mem_cons, List.not_mem_nil, or_false] at hu
  rcases hu with rfl | rfl
  · exact (Box3.new w x1 y1 z1 t).alloc _
  · have := Box3.new (w.alloc (.cells #[x1, y1, z1] t)) x2 y2 z2 t
    rwa [World.size_alloc] at this
theorem kept_one (w : World) (x1 y1 z1 : Value) (t : TypeId) (hP : Pw w) : Kept3 w [(w.heap.size, x1, y1, z1)] (w.alloc (.cells #[x1, y1, z1] t)) := by
  have hb0 := (Below.refl w.heap.size w).alloc (Nat.le_refl _) (.cells #[x1, y1, z1] t)
  refine ⟨hP.below hb0, hb0, ?_⟩
  intro u hu
  simp only [List.mem_cons, List.not_mem_nil, or_false] at hu
  subst hu
  exact Box3.new w x1 y1 z1 t
theorem sgn_bound (n : Bool) (a : Nat) : -1 ≤ sgn n a ∧ sgn n a ≤ 1 := by unfold sgn; split <;> (try split) <;> omega
theorem cmpV_of_eq {n m : Bool} {a b : Nat} (e f : Int) (h : sgn n a = sgn m b) : sgn n a * sizeD a e b f = cmpV n a e m b f := by
  rw [← cmpD_eq, cmpD, if_pos h]
  by_cases ha : a = 0
  · subst ha; rw [sgn_zero]; simp
  · by_cases hb : b = 0
    · subst hb
      rw [sgn_zero, sgn_of ha] at h
      cases n <;> simp at h
    · rw [sizeD_eq ha hb]
theorem cmpV_of_ne {n m : Bool} {a b : Nat} (e f : Int) (h : sgn n a ≠ sgn m b) : cmpZ (sgn n a) (sgn m b) = cmpV n a e m b f := by rw [← cmpD_eq, cmpD, if_neg h]
theorem mul_bound {x y : Int} (h1 : -1 ≤ x) (h2 : x ≤ 1) (h3 : -1 ≤ y) (h4 : y ≤ 1) : -1 ≤ x * y ∧ x * y ≤ 1 := by
  obtain rfl | rfl | rfl : x = -1 ∨ x = 0 ∨ x = 1 := by omega
  all_goals omega
end Go.Proofs.YtekanlcfgfllcaaDoor
/- Dec3 -/
/-
  Dec3: dec.Top, dec.Digit, dec.Ranged, dec.Good.
-/
namespace Go.Proofs.YtekanlcfgfllcaaDoor
open Go.RowKit
theorem Kept3.one {w0 w : World} {g : Nat} {x y z : Value} (h : Kept3 w0 [(g, x, y, z)] w) : Box3 w g x y z := h.2.2 (g, x, y, z) (by simp)
/-- A block of three cells is written over. -/
theorem Kept3.store {w0 w : World} {g : Nat} {x y z : Value} (h : Kept3 w0 [(g, x, y, z)] w) (hg : w0.heap.size ≤ g) (hp : 0 < g) (x' y' z' : Value) :
    Kept3 w0 [(g, x', y', z')] (((w.setCell ⟨g, 0, none⟩ x').setCell ⟨g, 1, none⟩ y').setCell ⟨g, 2, none⟩ z') := by
  obtain ⟨c0, c1, c2, f0, f1, f2, hz⟩ := h.one
  obtain ⟨hP, hb, -⟩ := h
  have hb' := ((hb.setCell (p := ⟨g, 0, none⟩) hg x').setCell (p := ⟨g, 1, none⟩) hg y').setCell (p := ⟨g, 2, none⟩) hg z'
  have hb2 : Below g w _ := (((Below.refl g w).setCell (p := ⟨g, 0, none⟩) (Nat.le_refl _) x').setCell (p := ⟨g, 1, none⟩) (Nat.le_refl _) y').setCell (p := ⟨g, 2, none⟩) (Nat.le_refl _) z'
  refine ⟨hP.below' hb2 hp, hb', ?_⟩
  intro u hu
  simp only [List.mem_cons, List.not_mem_nil, or_false] at hu
  subst hu
  refine ⟨?_, ?_, ?_, ?_, ?_, ?_, ?_⟩
  all_goals clear hb hb' hb2
  · go_simp
  · go_simp
  · go_simp
  · go_simp
  · go_simp
  · go_simp
  · simpa using hz
theorem norm_store {w w1 : World} (hP : Pw w) {x y z : Value} (h : Kept3 w [(w.heap.size, x, y, z)] w1) (x' y' z' : Value) :
    Kept3 w [(w.heap.size, x', y', z')] (((w1.setCell ⟨w.heap.size, 0, none⟩ x').setCell ⟨w.heap.size, 1, none⟩ y').setCell ⟨w.heap.size, 2, none⟩ z') := h.store (Nat.le_refl _) hP.blk x' y' z'
/-- Is it in range? -/
def rangedB (N : Nat) (e : Int) : Bool := decide (-300 ≤ nexp N e) && decide (dtop N e < 300)
theorem norm_digit (N : Nat) (e p : Int) (h1 : nexp N e ≤ p) (h2 : p ≤ dtop N e) :
    ∃ k : Nat, dtop N e - p = (k : Int) ∧ k < (nstr N).size ∧ ∀ h : k < (nstr N).size, (nstr N)[k].toNat = 48 + digAt N e p := by
  have ht := top_all N e
  refine ⟨(dtop N e - p).toNat, by omega, by omega, fun h => ?_⟩
  rw [(isD_nstr N).at_ h]
  by_cases h0 : N = 0
  · subst h0
    rw [digAt_zero, nq_zero, decs_zero]
    rw [nstr_zero] at h
    have : (dtop 0 e - p).toNat = 0 := by
      have h3 : (⟨#[48]⟩ : ByteArray).size = 1 := rfl
      rw [h3] at h
      omega
    rw [this]; rfl
  · rw [orZero_of (decs_nz (nq_pos h0)), digAt_norm N e p h0 h1 h2]
theorem h0_bounds {B : Nat} {s : ByteArray} {e : Int} {N : Nat} (h : DA B s e N) : -(B + 5000 : Int) ≤ nexp N e ∧ nexp N e ≤ (B + 5000 : Int) ∧ (nstr N).size ≤ 5000 := by
  have g := h.norm
  have h1 := g.len
  have h2 := g.lo
  have h3 := g.hi
  omega
set_option maxHeartbeats 800000 in
set_option maxRecDepth 100000 in
theorem decDigit_c (B : Nat) (n : Bool) (s : ByteArray) (e : Int) (N : Nat) (p : Int) (w : World) (h : DA B s e N) (hB : B ≤ 1000000) (hP : Pw w) :
    Calls Tryd.prog 64 #[.agg #[.bool n, .string s, .int .i64 e], .int .i64 p] w fun r w' => r = .returned (.int .i64 (digAt N e p)) ∧ Below w.heap.size w w' := by
  have HF := Lib.hid h
  have HPW := Lib.hid hP
  have HK := Lib.hid (kept_one w (.bool n) (.string s) (.int .i64 e) 23 hP)
  clear h hP
  by_cases hx : p < nexp N e
  · have HR := Lib.hid (digAt_below N e p hx)
    go_enter Tryd.func64, Tryd.ntmps64
    go_wp2_with fail
    refine (decNorm_c _ _ _ _ _ _ HF.out hB HK.out.1).mono ?_
    rintro r w1 ⟨rfl, hb⟩
    have hk := HK.out.keep hb
    obtain ⟨c0, c1, c2, f0, f1, f2, hz⟩ := hk.one
    replace HK := Lib.hid (norm_store HPW.out hk (.bool n) (.string (nstr N)) (.int .i64 (nexp N e)))
    clear hk hb
    go_wp2_with fail
    refine (decFirst_n _ _ _ _ _ _ HF.out hB).mono ?_
    rintro r w2 ⟨rfl, hb⟩
    clear c0 c1 c2 f0 f1 f2 hz
    have hk := HK.out.keep hb
    obtain ⟨c0, c1, c2, -, -, -, -⟩ := hk.one
    replace HK := Lib.hid hk
    clear hb hk
    go_wp2
    go_ret
    exact ⟨ret_int (by rw [HR.out]; rfl), HK.out.2.1⟩
  · by_cases hy : dtop N e < p
    · have HR := Lib.hid (show digAt N e p = 0 by
        by_cases h0 : N = 0
        · subst h0; exact digAt_zero e p
        · exact digAt_above N e p h0 hy)
      go_enter Tryd.func64, Tryd.ntmps64
      go_wp2_with fail
      refine (decNorm_c _ _ _ _ _ _ HF.out hB HK.out.1).mono ?_
      rintro r w1 ⟨rfl, hb⟩
      have hk := HK.out.keep hb
      obtain ⟨c0, c1, c2, f0, f1, f2, hz⟩ := hk.one
      replace HK := Lib.hid (norm_store HPW.out hk (.bool n) (.string (nstr N)) (.int .i64 (nexp N e)))
      clear hk hb
      go_wp2_with fail
      refine (decFirst_n _ _ _ _ _ _ HF.out hB).mono ?_
      rintro r w2 ⟨rfl, hb⟩
      clear c0 c1 c2 f0 f1 f2 hz
      have hk := HK.out.keep hb
      obtain ⟨c0, c1, c2, -, -, -, -⟩ := hk.one
      replace HK := Lib.hid hk
      clear hb hk
      go_wp2
      go_ret
      exact ⟨ret_int (by rw [HR.out]; rfl), HK.out.2.1⟩
    · obtain ⟨k, hk, hks, hkb⟩ := norm_digit N e p (by omega) (by omega)
      have hD := digAt_lt N e p
      have hb1 := hkb hks
      have HB1 := Lib.hid (show (((nstr N)[k].toNat : Nat) : Int) - 48 = (digAt N e p : Int) by omega)
      have hlo : (48 : Int) ≤ (((nstr N)[k].toNat : Nat) : Int) := by omega
      have hhi : (((nstr N)[k].toNat : Nat) : Int) < 58 := by omega
      have g := h0_bounds HF.out
      clear hb1 hkb
      go_enter Tryd.func64, Tryd.ntmps64
      go_wp2_with fail
      refine (decNorm_c _ _ _ _ _ _ HF.out hB HK.out.1).mono ?_
      rintro r w1 ⟨rfl, hb⟩
      have hk1 := HK.out.keep hb
      obtain ⟨c0, c1, c2, f0, f1, f2, hz⟩ := hk1.one
      replace HK := Lib.hid (norm_store HPW.out hk1 (.bool n) (.string (nstr N)) (.int .i64 (nexp N e)))
      clear hk1 hb
      go_wp2_with fail
      refine (decFirst_n _ _ _ _ _ _ HF.out hB).mono ?_
      rintro r w2 ⟨rfl, hb⟩
      clear c0 c1 c2 f0 f1 f2 hz
      have hk1 := HK.out.keep hb
      obtain ⟨c0, c1, c2, -, -, -, -⟩ := hk1.one
      replace HK := Lib.hid hk1
      clear hb hk1
      go_wp2
      go_ret
      exact ⟨ret_int HB1.out, HK.out.2.1⟩
end Go.Proofs.YtekanlcfgfllcaaDoor
/- Dec4 -/
/-
  Dec4: dec.Good; of the answers by definition: Digits, Good, Norm, Zero, Top, At, Cmp, Ranged.
-/
namespace Go.Proofs.YtekanlcfgfllcaaDoor
open Go.RowKit
/-- Are the first k bytes digits? -/
def okD (s : ByteArray) (k : Nat) : Bool := (s.data.toList.take k).all digB
theorem okD_succ (s : ByteArray) (k : Nat) (h : k < s.size) : okD s (k + 1) = (okD s k && digB s[k]) := by
  have h' : k < s.data.toList.length := by simpa using h
  unfold okD
  rw [List.take_succ_eq_append_getElem h', List.all_append]
  simp
  rfl
theorem okD_full (s : ByteArray) : okD s s.size = s.data.toList.all digB := by
  unfold okD
  rw [List.take_of_length_le (by simp)]
theorem okD_no {s : ByteArray} {k : Nat} (hk : k < s.size) (h : digB s[k] = false) : s.data.toList.all digB = false := by
  rw [List.all_eq_false]
  refine ⟨s.data.toList[k]'(by simpa using hk), List.getElem_mem _, ?_⟩
  rw [Bool.not_eq_true]
  exact h
/-- Only digits, and some? -/
def allD (s : ByteArray) : Bool := decide (0 < s.size) && s.data.toList.all digB
theorem allD_true {s : ByteArray} (h : allD s = true) : 0 < s.size ∧ ∀ j (h : j < s.size), digB s[j] = true := by
  simp only [allD, Bool.and_eq_true, decide_eq_true_eq] at h
  exact ⟨h.1, fun j hj => List.all_eq_true.1 h.2 _ (List.getElem_mem (l := s.data.toList) (by simpa using hj))⟩
theorem allD_false {s : ByteArray} (h : allD s = false) : s.size = 0 ∨ ∃ j, ∃ h : j < s.size, digB s[j] = false := by
  simp only [allD, Bool.and_eq_false_iff, decide_eq_false_iff_not] at h
  rcases h with h | h
  · left; omega
  · right
    obtain ⟨b, hb, hf⟩ := List.all_eq_false.1 h
    obtain ⟨j, hj, rfl⟩ := List.mem_iff_getElem.1 hb
    exact ⟨j, by simpa using hj, by simp only [Bool.not_eq_true] at hf; exact hf⟩
theorem isD_of_all {s : ByteArray} (h : ∀ j (h : j < s.size), digB s[j] = true) : IsD s (bdigs s) := by
  refine ⟨?_, bdigs_lt h⟩
  apply List.ext_getElem
  · simp [bdigs]
  · intro j h1 h2
    have hj : j < s.size := by simpa using h1
    have := digB_true (h j hj)
    simp only [bdigs, List.getElem_map]
    change (s[j]).toNat = 48 + ((s[j]).toNat - 48)
    omega
/-- May it be handed in? -/
def goodB (s : ByteArray) (e : Int) : Bool := allD s && (decide (s.size ≤ 1000) && (decide (-1000 ≤ e) && decide (e ≤ 1000)))
theorem DA.of_good {s : ByteArray} {e : Int} (h : goodB s e = true) : DA 1000 s e (dval (bdigs s)) := by
  simp only [goodB, Bool.and_eq_true, decide_eq_true_eq] at h
  obtain ⟨h1, h2, h3, h4⟩ := h
  obtain ⟨h5, h6⟩ := allD_true h1
  exact ⟨⟨_, isD_of_all h6, rfl⟩, h5, by omega, by omega, by omega⟩
theorem good_big {s : ByteArray} {e : Int} (h : ¬ s.size ≤ 1000) : goodB s e = false := by simp [goodB, h]
theorem good_lo {s : ByteArray} {e : Int} (h : e < -1000) : goodB s e = false := by
  have : ¬ -1000 ≤ e := by omega
  simp [goodB, this]
theorem good_hi {s : ByteArray} {e : Int} (h : 1000 < e) : goodB s e = false := by
  have : ¬ e ≤ 1000 := by omega
  simp [goodB, this]
theorem good_in {s : ByteArray} {e : Int} (h1 : s.size ≤ 1000) (h2 : -1000 ≤ e) (h3 : e ≤ 1000) : goodB s e = allD s := by simp [goodB, h1, h2, h3]
set_option maxHeartbeats 800000 in
set_option maxRecDepth 100000 in
theorem refDigits_c (s : ByteArray) (w : World) (hs : s.size ≤ maxLen) :
    Calls Tryd.prog 45 #[.string s] w fun r w' => r = .returned (.bool (allD s)) ∧ w = w' := by
  unfold maxLen at hs
  have hend : okD s s.size = true → (!s.toList.isEmpty) = allD s := by
    intro h
    rw [okD_full] at h
    rw [allD, h, Bool.and_true, ByteArray.toList_eq]
    rcases hl : s.data.toList with _ | ⟨x, l⟩
    · have : s.size = 0 := by have h3 : s.size = s.data.toList.length := rfl; rw [h3, hl]; rfl
      simp [this]
    · have : s.size = l.length + 1 := by have h3 : s.size = s.data.toList.length := rfl; rw [h3, hl]; rfl
      simp [this]
  have HE := Lib.hid hend
  clear hend
  go_enter Tryd.func45, Tryd.ntmps45
  go_wp2
  go_loop [3] (fun i => ∃ k : Nat, k ≤ s.size ∧ i = .int .i64 (k : Int) ∧ okD s k = true) (fun i => s.size - (intOf i).toNat)
  case atStart => exact ⟨0, Nat.zero_le _, rfl, rfl⟩
  case round =>
    obtain ⟨k, hk, rfl, hok⟩ := hrel
    have HOK := Lib.hid hok
    clear hok
    by_cases hlt : k < s.size
    · have hsucc := Lib.hid (okD_succ s k hlt)
      rcases hdb : digB s[k] with _ | _
      · have HN := Lib.hid (okD_no hlt hdb)
        rcases digB_false hdb with h1 | h1
        · have h2 : ((s[k].toNat : Nat) : Int) < 48 := by omega
          clear hdb
          go_wp2
          go_ret
          exact ⟨ret_bool (by rw [allD, HN.out, Bool.and_false]), rfl⟩
        · have h2 : ¬ ((s[k].toNat : Nat) : Int) < 48 := by omega
          have h3 : (57 : Int) < ((s[k].toNat : Nat) : Int) := by omega
          clear hdb
          go_wp2
          go_ret
          exact ⟨ret_bool (by rw [allD, HN.out, Bool.and_false]), rfl⟩
      · have HDB := Lib.hid hdb
        have h1 := digB_true hdb
        have h2 : ¬ ((s[k].toNat : Nat) : Int) < 48 := by omega
        have h3 : ¬ (57 : Int) < ((s[k].toNat : Nat) : Int) := by omega
        clear hdb
        go_wp2
        go_round
        case rel => exact ⟨k + 1, by omega, by go_num, by rw [hsucc.out, HOK.out, HDB.out]; rfl⟩
        case measure => simp [intOf]; omega
    · obtain rfl : k = s.size := by omega
      have HE2 := Lib.hid (HE.out HOK.out)
      go_wp2
      go_ret
      exact ⟨ret_bool HE2.out, rfl⟩
end Go.Proofs.YtekanlcfgfllcaaDoor
/- Dec5 -/
/-
  Dec5: of the answers by definition: Good, Norm, Zero, Top, At, Ranged.
-/
namespace Go.Proofs.YtekanlcfgfllcaaDoor
open Go.RowKit
set_option maxHeartbeats 800000 in
set_option maxRecDepth 100000 in
theorem ref5Good_c (n : Bool) (s : ByteArray) (e : Int) (w : World) (hs : s.size ≤ maxLen) (hP : Pw w) :
    Calls Tryd.prog 17 #[.agg #[.bool n, .string s, .int .i64 e]] w fun r w' => r = .returned (.bool (goodB s e)) ∧ Below w.heap.size w w' := by
  have HK := Lib.hid (kept_one w (.bool n) (.string s) (.int .i64 e) 23 hP)
  have HC := Lib.hid (fun w => refDigits_c s w hs)
  unfold maxLen at hs
  clear hP
  rcases hA : allD s with _ | _
  · have hg : goodB s e = false := by simp [goodB, hA]
    rw [hA] at HC
    rw [hg]
    clear hA hg
    go_enter Tryd.func17, Tryd.ntmps17
    go_wp2_with fail
    refine (HC.out _).mono ?_
    rintro r w1 ⟨rfl, rfl⟩
    go_wp2
    go_ret
    exact ⟨rfl, HK.out.2.1⟩
  · rw [hA] at HC
    by_cases h1 : s.size ≤ 1000
    · have h1i : (s.size : Int) ≤ 1000 := by omega
      by_cases h2 : e < -1000
      · rw [good_lo h2]
        go_enter Tryd.func17, Tryd.ntmps17
        go_wp2_with fail
        refine (HC.out _).mono ?_
        rintro r w1 ⟨rfl, rfl⟩
        go_wp2
        go_ret
        exact ⟨rfl, HK.out.2.1⟩
      · by_cases h3 : 1000 < e
        · rw [good_hi h3]
          have h3' : decide (e ≤ 1000) = false := decide_eq_false (by omega)
          go_enter Tryd.func17, Tryd.ntmps17
          go_wp2_with fail
          refine (HC.out _).mono ?_
          rintro r w1 ⟨rfl, rfl⟩
          go_wp2
          go_ret
          exact ⟨rfl, HK.out.2.1⟩
        · rw [good_in h1 (by omega) (by omega), hA]
          have h3' : e ≤ 1000 := by omega
          have h2' : -1000 ≤ e := by omega
          clear hA
          go_enter Tryd.func17, Tryd.ntmps17
          go_wp2_with fail
          refine (HC.out _).mono ?_
          rintro r w1 ⟨rfl, rfl⟩
          go_wp2
          go_ret
          exact ⟨rfl, HK.out.2.1⟩
    · rw [good_big h1]
      have h1i : ¬ (s.size : Int) ≤ 1000 := by omega
      clear h1 hA
      go_enter Tryd.func17, Tryd.ntmps17
      go_wp2_with fail
      refine (HC.out _).mono ?_
      rintro r w1 ⟨rfl, rfl⟩
      go_wp2
      go_ret
      exact ⟨rfl, HK.out.2.1⟩
theorem strip_n {B : Nat} {s : ByteArray} {e : Int} {N : Nat} (h : DA B s e N) (w : World) :
    Calls Tryd.prog 31 #[.string s] w fun r w' => r = .returned (.string (strD (decs N))) ∧ w = w' := by
  obtain ⟨ds, hd, hv⟩ := h.isD
  have := h.len
  refine (strip_c s ds w hd (by omega)).mono ?_
  rintro r w' ⟨s', rfl, hs', rfl⟩
  rw [hv] at hs'
  exact ⟨by rw [hs'.eq_strD], rfl⟩
theorem strip_zero {B : Nat} {s : ByteArray} {e : Int} (h : DA B s e 0) (w : World) :
    Calls Tryd.prog 31 #[.string s] w fun r w' => r = .returned (.string ⟨#[]⟩) ∧ w = w' := by
  have := strip_n h w
  rwa [decs_zero] at this
theorem isD_decs (N : Nat) : IsD (strD (decs N)) (decs N) := isD_strD (decs_lt N)
theorem strD_nonempty {N : Nat} (h : N ≠ 0) : (strD (decs N)).toList.isEmpty = false :=
  (isD_decs N).isEmpty_false (by rw [strD_size]; exact decs_pos h)
theorem decs_mul_pow {N : Nat} (h : N ≠ 0) (j : Nat) : decs N ++ List.replicate j 0 = decs (N * 10 ^ j) := by
  have h1 := stripZ_eq (decs N ++ List.replicate j 0) (fun d hd => by
    rcases List.mem_append.1 hd with hd | hd
    · exact decs_lt N d hd
    · rw [List.eq_of_mem_replicate hd]; omega)
  rw [dval_append, dval_decs, List.length_replicate, show dval (List.replicate j 0) = 0 by rw [dval, List.reverse_replicate]; exact val_replicate 10 j, Nat.add_zero] at h1
  rw [← h1]
  have h2 := stripZ_eq (decs N) (decs_lt N)
  rw [dval_decs] at h2
  rcases hd : decs N with _ | ⟨d, r⟩
  · exact absurd hd (decs_nz h)
  · rw [hd] at h2
    by_cases h0 : d = 0
    · exfalso
      have h3 := congrArg List.length h2
      subst h0
      have h4 : (stripZ (0 :: r)).length ≤ r.length := by
        rw [stripZ, List.dropWhile_cons_of_pos (by simp)]
        exact (List.dropWhile_sublist _).length_le
      rw [h3] at h4
      simp only [List.length_cons] at h4
      omega
    · simp [stripZ, h0]
set_option maxHeartbeats 800000 in
set_option maxRecDepth 100000 in
theorem ref5At_c (B : Nat) (n : Bool) (s : ByteArray) (e k : Int) (j : Nat) (N : Nat) (w : World) (h : DA B s e N) (hB : B ≤ 1000000) (hk : -1000000 ≤ k) (hj : e - k = (j : Int)) (hP : Pw w) :
    Calls Tryd.prog 34 #[.agg #[.bool n, .string s, .int .i64 e], .int .i64 k] w fun r w' => r = .returned (.string (strD (decs (N * 10 ^ j)))) ∧ Below w.heap.size w w' := by
  have HK := Lib.hid (kept_one w (.bool n) (.string s) (.int .i64 e) 23 hP)
  by_cases hN : N = 0
  · subst hN
    rw [Nat.zero_mul, decs_zero, strD_nil]
    have HC := Lib.hid (strip_zero h)
    clear h hP hj
    go_enter Tryd.func34, Tryd.ntmps34
    go_wp2_with fail
    refine (HC.out _).mono ?_
    rintro r w1 ⟨rfl, rfl⟩
    go_wp2
    go_ret
    exact ⟨rfl, HK.out.2.1⟩
  · have HC := Lib.hid (strip_n h)
    have hne := strD_nonempty hN
    have hl := h.declen
    have hlo := h.lo
    have hhi := h.hi
    have hsz := strD_size (decs N)
    have hlen : (strD (decs N)).size ≤ 5000 := by omega
    have hj2 : j ≤ 2000000 := by omega
    have HZ := Lib.hid (fun w => zeros_c j w (by omega))
    have HD := Lib.hid (decs_mul_pow hN j)
    obtain ⟨c0, c1, c2, -, -, -, -⟩ := HK.out.one
    clear h hP hsz
    go_enter Tryd.func34, Tryd.ntmps34
    go_wp2_with fail
    refine (HC.out _).mono ?_
    rintro r w1 ⟨rfl, rfl⟩
    go_wp2_with fail
    refine (HZ.out _).mono ?_
    rintro r w2 ⟨s2, rfl, hs2, hb⟩
    have hs2l : s2.size ≤ 2000000 := by rw [hs2.size, List.length_replicate]; exact hj2
    have ha := (isD_decs N).append hs2
    rw [HD.out] at ha
    have HA := Lib.hid ha.eq_strD
    replace HK := Lib.hid (HK.out.keep hb)
    clear hb hs2 ha c0 c1 c2
    go_wp2
    go_ret
    exact ⟨by rw [← HA.out]; rfl, HK.out.2.1⟩
theorem nq_nexp_step {M N : Nat} {e k : Int} (hM : M ≠ 0) (h : M % 10 = 0) (hN : N ≠ 0) (hq : nq M = nq N) (hk : k + tz10 M = nexp N e) : M / 10 ≠ 0 ∧ nq (M / 10) = nq N ∧ k + 1 + tz10 (M / 10) = nexp N e := by
  refine ⟨by omega, by rw [← nq_step hM h, hq], ?_⟩
  rw [tz10_step hM h] at hk
  omega
set_option maxHeartbeats 1600000 in
set_option maxRecDepth 100000 in
theorem ref5Norm_c (B : Nat) (n : Bool) (s : ByteArray) (e : Int) (N : Nat) (w : World) (h : DA B s e N) (hB : B ≤ 1000000) (_hP : Pw w) :
    Calls Tryd.prog 35 #[.agg #[.bool n, .string s, .int .i64 e]] w fun r w' => r = .returned (.agg #[.bool n, .string (nstr N), .int .i64 (nexp N e)]) ∧ Below w.heap.size w w' := by
  by_cases hN : N = 0
  · subst hN
    rw [nstr_zero, show nexp 0 e = 0 by simp [nexp]]
    have HC := Lib.hid (strip_zero h)
    clear h
    go_enter Tryd.func35, Tryd.ntmps35
    go_wp2_with fail
    refine (HC.out _).mono ?_
    rintro r w1 ⟨rfl, rfl⟩
    go_wp2
    exact bodyPost_ret (v := .agg #[.bool n, .string ⟨#[48]⟩, .int .i64 0]) (by simp [results, Tryd.results35, go_sem]) rfl
      ⟨rfl, ((Below.refl w.heap.size w).alloc (Nat.le_refl _) _).alloc (by simp) _⟩
  · have HC := Lib.hid (strip_n h)
    have hne := strD_nonempty hN
    have hl := h.declen
    have hlo := h.lo
    have hhi := h.hi
    have hN0 := Lib.hid hN
    have HTZ := Lib.hid (show nexp N e = e + tz10 N by rw [nexp, if_neg hN])
    have htl := tz_len N
    clear h hN
    go_enter Tryd.func35, Tryd.ntmps35
    go_wp2_with fail
    refine (HC.out _).mono ?_
    rintro r w1 ⟨rfl, rfl⟩
    go_wp2
    go_loop [3, 4] (fun v i => ∃ (M : Nat) (k : Int), v = .string (strD (decs M)) ∧ i = .int .i64 k ∧ M ≠ 0 ∧ nq M = nq N ∧ k + tz10 M = nexp N e ∧ e ≤ k ∧ (decs M).length ≤ 5000) (fun v _ => strLen v)
    case atStart => exact ⟨N, e, rfl, rfl, hN0.out, rfl, HTZ.out.symm, Int.le_refl _, hl⟩
    case round =>
      obtain ⟨M, k, rfl, rfl, hM, hq, hk, hek, hml⟩ := hrel
      have hmp := decs_pos hM
      have hsz := strD_size (decs M)
      have hpos : 0 < (strD (decs M)).size := by omega
      have hpos1 : 1 ≤ (strD (decs M)).size := by omega
      have hlt : (strD (decs M)).size - 1 < (strD (decs M)).size := by omega
      have hle5 : (strD (decs M)).size ≤ 5000 := by omega
      have hk2 : k ≤ 1005000 := by have := HTZ.out; omega
      have hb := (isD_decs M).at_ hlt
      have hd0 : (decs M).getD ((strD (decs M)).size - 1) 0 = M % 10 := by
        have h1 := rev_digit (decs M) (decs_lt M) 0 hmp
        rw [dval_decs, Nat.sub_zero, Nat.pow_zero, Nat.div_one] at h1
        rw [hsz, h1]
      rw [hd0] at hb
      have HQ := Lib.hid hq
      have HKE := Lib.hid hk
      have HSZ := Lib.hid hsz
      have HB := Lib.hid hb
      have HM := Lib.hid hM
      clear hq hk hsz hb hd0 hM
      by_cases hd : M % 10 = 0
      · have hd1 : ((((strD (decs M))[(strD (decs M)).size - 1].toNat : Nat) : Int) == 48) = true := by have := HB.out; simp; omega
        have HD := Lib.hid hd
        clear hd
        go_wp2
        go_round
        case rel =>
          obtain ⟨h1, h2, h3⟩ := nq_nexp_step HM.out HD.out hN0.out HQ.out HKE.out
          refine ⟨M / 10, k + 1, ?_, rfl, h1, h2, h3, by omega, ?_⟩
          · have h5 : (strD (decs M)).size - 1 = (decs (M / 10)).length := by rw [HSZ.out, decs_snoc HM.out]; simp
            have h6 : List.take (decs (M / 10)).length (decs M) = decs (M / 10) := by rw [decs_snoc HM.out, List.take_left]
            have h4 := (isD_decs M).cut 0 (decs (M / 10)).length
            rw [h6, List.drop_zero] at h4
            rw [h5]
            exact congrArg Value.string h4.eq_strD
          · have := decs_length_le (Nat.div_le_self M 10); omega
        case measure => simp [strLen]; omega
      · have hd1 : ((((strD (decs M))[(strD (decs M)).size - 1].toNat : Nat) : Int) == 48) = false := by have := HB.out; simp; omega
        have HR := Lib.hid (show strD (decs M) = nstr N ∧ k = nexp N e by
          have h1 := HKE.out
          rw [tz10_none hd] at h1
          have h2 := HQ.out
          rw [nq_none hd] at h2
          exact ⟨by rw [h2, nstr_of hN0.out], by omega⟩)
        clear hd
        go_wp2
        exact bodyPost_ret (v := .agg #[.bool n, .string (strD (decs M)), .int .i64 k]) (by simp [results, Tryd.results35, go_sem]) rfl
          ⟨by rw [HR.out.1, HR.out.2], ((Below.refl w.heap.size w).alloc (Nat.le_refl _) _).alloc (by simp) _⟩
theorem nstr_is0 (N : Nat) : ((nstr N).toList == [48]) = decide (N = 0) := by
  by_cases h : N = 0
  · subst h
    rw [nstr_zero, ByteArray.toList_eq]; rfl
  · have hq := nq_pos h
    have hl := (isD_nstr N).list
    rw [orZero_of (decs_nz hq)] at hl
    rw [decide_eq_false h, beq_eq_false_iff_ne]
    intro e
    rw [e] at hl
    have h1 : decs (nq N) = [0] := by
      rcases hd : decs (nq N) with _ | ⟨d, r⟩
      · rw [hd] at hl; simp at hl
      · rw [hd] at hl
        simp only [List.map_cons, List.map_nil, List.cons.injEq] at hl
        rcases r with _ | ⟨x, y⟩
        · have h2 : d = 0 := by have h3 := hl.1; have h4 : (48 : UInt8).toNat = 48 := rfl; omega
          rw [h2]
        · simp at hl
    have h2 := dval_decs (nq N)
    rw [h1] at h2
    exact hq h2.symm
end Go.Proofs.YtekanlcfgfllcaaDoor
/- Dec6 -/
/-
  Dec6: Cmp by definition.
-/
namespace Go.Proofs.YtekanlcfgfllcaaDoor
open Go.RowKit
theorem strD_empty (X : Nat) : (strD (decs X)).toList.isEmpty = decide (X = 0) := by
  by_cases h : X = 0
  · subst h; rw [decs_zero, strD_nil, ByteArray.toList_eq]; rfl
  · rw [strD_nonempty h, decide_eq_false h]
theorem strD_ne {X Y : Nat} (h : X ≠ Y) : ((strD (decs X)).toList == (strD (decs Y)).toList) = false := by
  rw [beq_eq_false_iff_ne]
  intro e
  have h1 : strD (decs X) = strD (decs Y) := by
    rw [ByteArray.toList_eq, ByteArray.toList_eq] at e
    generalize strD (decs X) = s at *
    generalize strD (decs Y) = t at *
    cases s; cases t; simp at e; rw [e]
  have h2 := isD_decs X
  rw [h1] at h2
  have h3 := h2.inj (isD_decs Y)
  apply h
  rw [← dval_decs X, h3, dval_decs]
theorem cmpZ_ft {X Y : Nat} (h : X ≠ 0 ∨ Y ≠ 0) : cmpZ (sv false X) (sv true Y) = 1 := cmpZ_gt (by simp only [sv, Bool.false_eq_true, if_false, if_true]; omega)
theorem cmpZ_tf {X Y : Nat} (h : X ≠ 0 ∨ Y ≠ 0) : cmpZ (sv true X) (sv false Y) = -1 := cmpZ_lt (by simp only [sv, Bool.false_eq_true, if_false, if_true]; omega)
theorem cmpZ_ff_lt {X Y : Nat} (h : X < Y) : cmpZ (sv false X) (sv false Y) = -1 := cmpZ_lt (by simp only [sv, Bool.false_eq_true, if_false]; omega)
theorem cmpZ_ff_gt {X Y : Nat} (h : Y < X) : cmpZ (sv false X) (sv false Y) = 1 := cmpZ_gt (by simp only [sv, Bool.false_eq_true, if_false]; omega)
theorem cmpZ_tt_lt {X Y : Nat} (h : X < Y) : cmpZ (sv true X) (sv true Y) = 1 := cmpZ_gt (by simp only [sv, if_true]; omega)
theorem cmpZ_tt_gt {X Y : Nat} (h : Y < X) : cmpZ (sv true X) (sv true Y) = -1 := cmpZ_lt (by simp only [sv, if_true]; omega)
theorem less_t (X Y : Nat) (h : X < Y) (w : World) : Calls Tryd.prog 37 #[.string (strD (decs X)), .string (strD (decs Y))] w fun e w' => e = .returned (.bool true) ∧ w = w' := by
  have := less_c _ _ X Y w (isD_decs X) (isD_decs Y)
  rwa [decide_eq_true h] at this
theorem less_f (X Y : Nat) (h : Y < X) (w : World) : Calls Tryd.prog 37 #[.string (strD (decs X)), .string (strD (decs Y))] w fun e w' => e = .returned (.bool false) ∧ w = w' := by
  have := less_c _ _ X Y w (isD_decs X) (isD_decs Y)
  rwa [decide_eq_false (show ¬ X < Y by omega)] at this
set_option maxHeartbeats 4000000 in
set_option maxRecDepth 100000 in
theorem ref5Cmp_c (B : Nat) (n m : Bool) (s t : ByteArray) (e f : Int) (a b : Nat) (w : World) (h : DA B s e a) (h' : DA B t f b) (hB : B ≤ 1000000) (hP : Pw w) :
    Calls Tryd.prog 15 #[.agg #[.bool n, .string s, .int .i64 e], .agg #[.bool m, .string t, .int .i64 f]] w fun r w' => r = .returned (.int .i64 (cmpV n a e m b f)) ∧ Below w.heap.size w w' := by
  have HF := Lib.hid h
  have HF' := Lib.hid h'
  have hS0 : Sd w [(w.heap.size, .bool n, .string s, .int .i64 e), (w.heap.size + 1, .bool m, .string t, .int .i64 f)] _ := .of (Kept3.drew (kept_two w (.bool n) (.string s) (.int .i64 e) (.bool m) (.string t) (.int .i64 f) 23 hP))
  have hlo := h.lo
  have hlo' := h'.lo
  clear h h' hP
  by_cases hfe : f < e
  · obtain ⟨i, hi⟩ : ∃ i : Nat, e - f = (i : Int) := ⟨(e - f).toNat, by omega⟩
    obtain ⟨j, hj⟩ : ∃ j : Nat, f - f = (j : Int) := ⟨0, by omega⟩
    have HV := Lib.hid (cmpV_at n a e m b f f (by omega) (by omega))
    rw [show (e - f).toNat = i by omega, show (f - f).toNat = j by omega] at HV
    replace hi := Lib.hid hi
    replace hj := Lib.hid hj
    have hkb : -1000000 ≤ f := by omega
    go_enter Tryd.func15, Tryd.ntmps15
    go_wp2
    go_region_held3 (fun w' => ((w'.cell? ⟨w.heap.size, 0, none⟩ = some (.bool n) ∧ w'.cell? ⟨w.heap.size, 1, none⟩ = some (.string s) ∧ w'.cell? ⟨w.heap.size, 2, none⟩ = some (.int .i64 e)) ∧ (w'.cell? ⟨w.heap.size + 1, 0, none⟩ = some (.bool m) ∧ w'.cell? ⟨w.heap.size + 1, 1, none⟩ = some (.string t) ∧ w'.cell? ⟨w.heap.size + 1, 2, none⟩ = some (.int .i64 f)) ∧ True) ∧ Hid (Kept3 w [(w.heap.size, .bool n, .string s, .int .i64 e), (w.heap.size + 1, .bool m, .string t, .int .i64 f)] w')) (assumption) ((go_at_call 34; refine (ref5At_c _ _ _ _ _ _ _ _ (by first | exact HF.out | exact HF'.out) hB hkb (by first | exact hi.out | exact hj.out) (Sd.pw (w0 := w) (L := [(w.heap.size, .bool n, .string s, .int .i64 e), (w.heap.size + 1, .bool m, .string t, .int .i64 f)]) (by assumption))).mono ?_; rintro r w1 ⟨rfl, hb⟩; have hS := Sd.keep (w0 := w) (L := [(w.heap.size, .bool n, .string s, .int .i64 e), (w.heap.size + 1, .bool m, .string t, .int .i64 f)]) (by assumption) hb; clear hb))
    rename_i hHeld
    obtain ⟨⟨⟨c0, c1, c2⟩, ⟨d0, d1, d2⟩, -⟩, HK⟩ := hS
    clear hHeld
    have hx := strD_empty (a * 10 ^ i)
    have hy := strD_empty (b * 10 ^ j)
    generalize a * 10 ^ i = X at *
    generalize b * 10 ^ j = Y at *
    by_cases hX : X = 0
    · by_cases hY : Y = 0
      · subst hX hY
        have HC := Lib.hid (show cmpZ (sv n 0) (sv m 0) = 0 by rw [sv_zero, sv_zero]; rfl)
        rw [decide_eq_true rfl] at hx hy
        go_wp2
        go_ret
        exact ⟨ret_int (by rw [HV.out, HC.out]), HK.out.2.1⟩
      · have hz : X ≠ 0 ∨ Y ≠ 0 := .inr hY
        rw [decide_eq_true hX] at hx
        rw [decide_eq_false hY] at hy
        clear hX hY
        by_cases hnm : n = m
        · rcases Nat.lt_trichotomy X Y with h | h | h
          · have hne := strD_ne (show X ≠ Y by omega)
            have HL := Lib.hid (less_t X Y h)
            cases n
            · obtain rfl : m = false := hnm.symm
              have HC := Lib.hid (cmpZ_ff_lt h)
              clear h hnm
              go_wp2
              have hw2 : Sd w [(w.heap.size, .bool false, .string s, .int .i64 e), (w.heap.size + 1, .bool false, .string t, .int .i64 f)] w1.drew := .of HK.out.drew
              clear c0 c1 c2 d0 d1 d2
              go_region_held3 (fun w' => ((w'.cell? ⟨w.heap.size, 0, none⟩ = some (.bool false) ∧ w'.cell? ⟨w.heap.size, 1, none⟩ = some (.string s) ∧ w'.cell? ⟨w.heap.size, 2, none⟩ = some (.int .i64 e)) ∧ (w'.cell? ⟨w.heap.size + 1, 0, none⟩ = some (.bool false) ∧ w'.cell? ⟨w.heap.size + 1, 1, none⟩ = some (.string t) ∧ w'.cell? ⟨w.heap.size + 1, 2, none⟩ = some (.int .i64 f)) ∧ True) ∧ Hid (Kept3 w [(w.heap.size, .bool false, .string s, .int .i64 e), (w.heap.size + 1, .bool false, .string t, .int .i64 f)] w')) (assumption) ((go_at_call 37; refine (HL.out _).mono ?_; rintro r w1 ⟨rfl, rfl⟩))
              rename_i hHeld
              clear hHeld
              go_wp2
              go_ret
              exact ⟨ret_int (by rw [HV.out, HC.out]), HK.out.2.1.drew⟩
            · obtain rfl : m = true := hnm.symm
              have HC := Lib.hid (cmpZ_tt_lt h)
              clear h hnm
              go_wp2
              have hw2 : Sd w [(w.heap.size, .bool true, .string s, .int .i64 e), (w.heap.size + 1, .bool true, .string t, .int .i64 f)] w1.drew := .of HK.out.drew
              clear c0 c1 c2 d0 d1 d2
              go_region_held3 (fun w' => ((w'.cell? ⟨w.heap.size, 0, none⟩ = some (.bool true) ∧ w'.cell? ⟨w.heap.size, 1, none⟩ = some (.string s) ∧ w'.cell? ⟨w.heap.size, 2, none⟩ = some (.int .i64 e)) ∧ (w'.cell? ⟨w.heap.size + 1, 0, none⟩ = some (.bool true) ∧ w'.cell? ⟨w.heap.size + 1, 1, none⟩ = some (.string t) ∧ w'.cell? ⟨w.heap.size + 1, 2, none⟩ = some (.int .i64 f)) ∧ True) ∧ Hid (Kept3 w [(w.heap.size, .bool true, .string s, .int .i64 e), (w.heap.size + 1, .bool true, .string t, .int .i64 f)] w')) (assumption) ((go_at_call 37; refine (HL.out _).mono ?_; rintro r w1 ⟨rfl, rfl⟩))
              rename_i hHeld
              clear hHeld
              go_wp2
              go_ret
              exact ⟨ret_int (by rw [HV.out, HC.out]), HK.out.2.1.drew⟩
          · subst h
            subst hnm
            have HC := Lib.hid (cmpZ_eq (rfl : sv n X = sv n X))
            go_wp2
            go_ret
            exact ⟨ret_int (by rw [HV.out, HC.out]), HK.out.2.1⟩
          · have hne := strD_ne (show X ≠ Y by omega)
            have HL := Lib.hid (less_f X Y h)
            cases n
            · obtain rfl : m = false := hnm.symm
              have HC := Lib.hid (cmpZ_ff_gt h)
              clear h hnm
              go_wp2
              have hw2 : Sd w [(w.heap.size, .bool false, .string s, .int .i64 e), (w.heap.size + 1, .bool false, .string t, .int .i64 f)] w1.drew := .of HK.out.drew
              clear c0 c1 c2 d0 d1 d2
              go_region_held3 (fun w' => ((w'.cell? ⟨w.heap.size, 0, none⟩ = some (.bool false) ∧ w'.cell? ⟨w.heap.size, 1, none⟩ = some (.string s) ∧ w'.cell? ⟨w.heap.size, 2, none⟩ = some (.int .i64 e)) ∧ (w'.cell? ⟨w.heap.size + 1, 0, none⟩ = some (.bool false) ∧ w'.cell? ⟨w.heap.size + 1, 1, none⟩ = some (.string t) ∧ w'.cell? ⟨w.heap.size + 1, 2, none⟩ = some (.int .i64 f)) ∧ True) ∧ Hid (Kept3 w [(w.heap.size, .bool false, .string s, .int .i64 e), (w.heap.size + 1, .bool false, .string t, .int .i64 f)] w')) (assumption) ((go_at_call 37; refine (HL.out _).mono ?_; rintro r w1 ⟨rfl, rfl⟩))
              rename_i hHeld
              clear hHeld
              go_wp2
              go_ret
              exact ⟨ret_int (by rw [HV.out, HC.out]), HK.out.2.1.drew⟩
            · obtain rfl : m = true := hnm.symm
              have HC := Lib.hid (cmpZ_tt_gt h)
              clear h hnm
              go_wp2
              have hw2 : Sd w [(w.heap.size, .bool true, .string s, .int .i64 e), (w.heap.size + 1, .bool true, .string t, .int .i64 f)] w1.drew := .of HK.out.drew
              clear c0 c1 c2 d0 d1 d2
              go_region_held3 (fun w' => ((w'.cell? ⟨w.heap.size, 0, none⟩ = some (.bool true) ∧ w'.cell? ⟨w.heap.size, 1, none⟩ = some (.string s) ∧ w'.cell? ⟨w.heap.size, 2, none⟩ = some (.int .i64 e)) ∧ (w'.cell? ⟨w.heap.size + 1, 0, none⟩ = some (.bool true) ∧ w'.cell? ⟨w.heap.size + 1, 1, none⟩ = some (.string t) ∧ w'.cell? ⟨w.heap.size + 1, 2, none⟩ = some (.int .i64 f)) ∧ True) ∧ Hid (Kept3 w [(w.heap.size, .bool true, .string s, .int .i64 e), (w.heap.size + 1, .bool true, .string t, .int .i64 f)] w')) (assumption) ((go_at_call 37; refine (HL.out _).mono ?_; rintro r w1 ⟨rfl, rfl⟩))
              rename_i hHeld
              clear hHeld
              go_wp2
              go_ret
              exact ⟨ret_int (by rw [HV.out, HC.out]), HK.out.2.1.drew⟩
        · cases n
          · obtain rfl : m = true := by cases m <;> simp_all
            have HC := Lib.hid (cmpZ_ft hz)
            clear hz hnm
            go_wp2
            go_ret
            exact ⟨ret_int (by rw [HV.out, HC.out]), HK.out.2.1⟩
          · obtain rfl : m = false := by cases m <;> simp_all
            have HC := Lib.hid (cmpZ_tf hz)
            clear hz hnm
            go_wp2
            go_ret
            exact ⟨ret_int (by rw [HV.out, HC.out]), HK.out.2.1⟩
    · have hz : X ≠ 0 ∨ Y ≠ 0 := .inl hX
      rw [decide_eq_false hX] at hx
      clear hX hy
      by_cases hnm : n = m
      · rcases Nat.lt_trichotomy X Y with h | h | h
        · have hne := strD_ne (show X ≠ Y by omega)
          have HL := Lib.hid (less_t X Y h)
          cases n
          · obtain rfl : m = false := hnm.symm
            have HC := Lib.hid (cmpZ_ff_lt h)
            clear h hnm
            go_wp2
            have hw2 : Sd w [(w.heap.size, .bool false, .string s, .int .i64 e), (w.heap.size + 1, .bool false, .string t, .int .i64 f)] w1.drew := .of HK.out.drew
            clear c0 c1 c2 d0 d1 d2
            go_region_held3 (fun w' => ((w'.cell? ⟨w.heap.size, 0, none⟩ = some (.bool false) ∧ w'.cell? ⟨w.heap.size, 1, none⟩ = some (.string s) ∧ w'.cell? ⟨w.heap.size, 2, none⟩ = some (.int .i64 e)) ∧ (w'.cell? ⟨w.heap.size + 1, 0, none⟩ = some (.bool false) ∧ w'.cell? ⟨w.heap.size + 1, 1, none⟩ = some (.string t) ∧ w'.cell? ⟨w.heap.size + 1, 2, none⟩ = some (.int .i64 f)) ∧ True) ∧ Hid (Kept3 w [(w.heap.size, .bool false, .string s, .int .i64 e), (w.heap.size + 1, .bool false, .string t, .int .i64 f)] w')) (assumption) ((go_at_call 37; refine (HL.out _).mono ?_; rintro r w1 ⟨rfl, rfl⟩))
            rename_i hHeld
            clear hHeld
            go_wp2
            go_ret
            exact ⟨ret_int (by rw [HV.out, HC.out]), HK.out.2.1.drew⟩
          · obtain rfl : m = true := hnm.symm
            have HC := Lib.hid (cmpZ_tt_lt h)
            clear h hnm
            go_wp2
            have hw2 : Sd w [(w.heap.size, .bool true, .string s, .int .i64 e), (w.heap.size + 1, .bool true, .string t, .int .i64 f)] w1.drew := .of HK.out.drew
            clear c0 c1 c2 d0 d1 d2
            go_region_held3 (fun w' => ((w'.cell? ⟨w.heap.size, 0, none⟩ = some (.bool true) ∧ w'.cell? ⟨w.heap.size, 1, none⟩ = some (.string s) ∧ w'.cell? ⟨w.heap.size, 2, none⟩ = some (.int .i64 e)) ∧ (w'.cell? ⟨w.heap.size + 1, 0, none⟩ = some (.bool true) ∧ w'.cell? ⟨w.heap.size + 1, 1, none⟩ = some (.string t) ∧ w'.cell? ⟨w.heap.size + 1, 2, none⟩ = some (.int .i64 f)) ∧ True) ∧ Hid (Kept3 w [(w.heap.size, .bool true, .string s, .int .i64 e), (w.heap.size + 1, .bool true, .string t, .int .i64 f)] w')) (assumption) ((go_at_call 37; refine (HL.out _).mono ?_; rintro r w1 ⟨rfl, rfl⟩))
            rename_i hHeld
            clear hHeld
            go_wp2
            go_ret
            exact ⟨ret_int (by rw [HV.out, HC.out]), HK.out.2.1.drew⟩
        · subst h
          subst hnm
          have HC := Lib.hid (cmpZ_eq (rfl : sv n X = sv n X))
          go_wp2
          go_ret
          exact ⟨ret_int (by rw [HV.out, HC.out]), HK.out.2.1⟩
        · have hne := strD_ne (show X ≠ Y by omega)
          have HL := Lib.hid (less_f X Y h)
          cases n
          · obtain rfl : m = false := hnm.symm
            have HC := Lib.hid (cmpZ_ff_gt h)
            clear h hnm
            go_wp2
            have hw2 : Sd w [(w.heap.size, .bool false, .string s, .int .i64 e), (w.heap.size + 1, .bool false, .string t, .int .i64 f)] w1.drew := .of HK.out.drew
            clear c0 c1 c2 d0 d1 d2
            go_region_held3 (fun w' => ((w'.cell? ⟨w.heap.size, 0, none⟩ = some (.bool false) ∧ w'.cell? ⟨w.heap.size, 1, none⟩ = some (.string s) ∧ w'.cell? ⟨w.heap.size, 2, none⟩ = some (.int .i64 e)) ∧ (w'.cell? ⟨w.heap.size + 1, 0, none⟩ = some (.bool false) ∧ w'.cell? ⟨w.heap.size + 1, 1, none⟩ = some (.string t) ∧ w'.cell? ⟨w.heap.size + 1, 2, none⟩ = some (.int .i64 f)) ∧ True) ∧ Hid (Kept3 w [(w.heap.size, .bool false, .string s, .int .i64 e), (w.heap.size + 1, .bool false, .string t, .int .i64 f)] w')) (assumption) ((go_at_call 37; refine (HL.out _).mono ?_; rintro r w1 ⟨rfl, rfl⟩))
            rename_i hHeld
            clear hHeld
            go_wp2
            go_ret
            exact ⟨ret_int (by rw [HV.out, HC.out]), HK.out.2.1.drew⟩
          · obtain rfl : m = true := hnm.symm
            have HC := Lib.hid (cmpZ_tt_gt h)
            clear h hnm
            go_wp2
            have hw2 : Sd w [(w.heap.size, .bool true, .string s, .int .i64 e), (w.heap.size + 1, .bool true, .string t, .int .i64 f)] w1.drew := .of HK.out.drew
            clear c0 c1 c2 d0 d1 d2
            go_region_held3 (fun w' => ((w'.cell? ⟨w.heap.size, 0, none⟩ = some (.bool true) ∧ w'.cell? ⟨w.heap.size, 1, none⟩ = some (.string s) ∧ w'.cell? ⟨w.heap.size, 2, none⟩ = some (.int .i64 e)) ∧ (w'.cell? ⟨w.heap.size + 1, 0, none⟩ = some (.bool true) ∧ w'.cell? ⟨w.heap.size + 1, 1, none⟩ = some (.string t) ∧ w'.cell? ⟨w.heap.size + 1, 2, none⟩ = some (.int .i64 f)) ∧ True) ∧ Hid (Kept3 w [(w.heap.size, .bool true, .string s, .int .i64 e), (w.heap.size + 1, .bool true, .string t, .int .i64 f)] w')) (assumption) ((go_at_call 37; refine (HL.out _).mono ?_; rintro r w1 ⟨rfl, rfl⟩))
            rename_i hHeld
            clear hHeld
            go_wp2
            go_ret
            exact ⟨ret_int (by rw [HV.out, HC.out]), HK.out.2.1.drew⟩
      · cases n
        · obtain rfl : m = true := by cases m <;> simp_all
          have HC := Lib.hid (cmpZ_ft hz)
          clear hz hnm
          go_wp2
          go_ret
          exact ⟨ret_int (by rw [HV.out, HC.out]), HK.out.2.1⟩
        · obtain rfl : m = false := by cases m <;> simp_all
          have HC := Lib.hid (cmpZ_tf hz)
          clear hz hnm
          go_wp2
          go_ret
          exact ⟨ret_int (by rw [HV.out, HC.out]), HK.out.2.1⟩
  · obtain ⟨i, hi⟩ : ∃ i : Nat, e - e = (i : Int) := ⟨0, by omega⟩
    obtain ⟨j, hj⟩ : ∃ j : Nat, f - e = (j : Int) := ⟨(f - e).toNat, by omega⟩
    have HV := Lib.hid (cmpV_at n a e m b f e (by omega) (by omega))
    rw [show (e - e).toNat = i by omega, show (f - e).toNat = j by omega] at HV
    replace hi := Lib.hid hi
    replace hj := Lib.hid hj
    have hkb : -1000000 ≤ e := by omega
    go_enter Tryd.func15, Tryd.ntmps15
    go_wp2
    go_region_held3 (fun w' => ((w'.cell? ⟨w.heap.size, 0, none⟩ = some (.bool n) ∧ w'.cell? ⟨w.heap.size, 1, none⟩ = some (.string s) ∧ w'.cell? ⟨w.heap.size, 2, none⟩ = some (.int .i64 e)) ∧ (w'.cell? ⟨w.heap.size + 1, 0, none⟩ = some (.bool m) ∧ w'.cell? ⟨w.heap.size + 1, 1, none⟩ = some (.string t) ∧ w'.cell? ⟨w.heap.size + 1, 2, none⟩ = some (.int .i64 f)) ∧ True) ∧ Hid (Kept3 w [(w.heap.size, .bool n, .string s, .int .i64 e), (w.heap.size + 1, .bool m, .string t, .int .i64 f)] w')) (assumption) ((go_at_call 34; refine (ref5At_c _ _ _ _ _ _ _ _ (by first | exact HF.out | exact HF'.out) hB hkb (by first | exact hi.out | exact hj.out) (Sd.pw (w0 := w) (L := [(w.heap.size, .bool n, .string s, .int .i64 e), (w.heap.size + 1, .bool m, .string t, .int .i64 f)]) (by assumption))).mono ?_; rintro r w1 ⟨rfl, hb⟩; have hS := Sd.keep (w0 := w) (L := [(w.heap.size, .bool n, .string s, .int .i64 e), (w.heap.size + 1, .bool m, .string t, .int .i64 f)]) (by assumption) hb; clear hb))
    rename_i hHeld
    obtain ⟨⟨⟨c0, c1, c2⟩, ⟨d0, d1, d2⟩, -⟩, HK⟩ := hS
    clear hHeld
    have hx := strD_empty (a * 10 ^ i)
    have hy := strD_empty (b * 10 ^ j)
    generalize a * 10 ^ i = X at *
    generalize b * 10 ^ j = Y at *
    by_cases hX : X = 0
    · by_cases hY : Y = 0
      · subst hX hY
        have HC := Lib.hid (show cmpZ (sv n 0) (sv m 0) = 0 by rw [sv_zero, sv_zero]; rfl)
        rw [decide_eq_true rfl] at hx hy
        go_wp2
        go_ret
        exact ⟨ret_int (by rw [HV.out, HC.out]), HK.out.2.1⟩
      · have hz : X ≠ 0 ∨ Y ≠ 0 := .inr hY
        rw [decide_eq_true hX] at hx
        rw [decide_eq_false hY] at hy
        clear hX hY
        by_cases hnm : n = m
        · rcases Nat.lt_trichotomy X Y with h | h | h
          · have hne := strD_ne (show X ≠ Y by omega)
            have HL := Lib.hid (less_t X Y h)
            cases n
            · obtain rfl : m = false := hnm.symm
              have HC := Lib.hid (cmpZ_ff_lt h)
              clear h hnm
              go_wp2
              have hw2 : Sd w [(w.heap.size, .bool false, .string s, .int .i64 e), (w.heap.size + 1, .bool false, .string t, .int .i64 f)] w1.drew := .of HK.out.drew
              clear c0 c1 c2 d0 d1 d2
              go_region_held3 (fun w' => ((w'.cell? ⟨w.heap.size, 0, none⟩ = some (.bool false) ∧ w'.cell? ⟨w.heap.size, 1, none⟩ = some (.string s) ∧ w'.cell? ⟨w.heap.size, 2, none⟩ = some (.int .i64 e)) ∧ (w'.cell? ⟨w.heap.size + 1, 0, none⟩ = some (.bool false) ∧ w'.cell? ⟨w.heap.size + 1, 1, none⟩ = some (.string t) ∧ w'.cell? ⟨w.heap.size + 1, 2, none⟩ = some (.int .i64 f)) ∧ True) ∧ Hid (Kept3 w [(w.heap.size, .bool false, .string s, .int .i64 e), (w.heap.size + 1, .bool false, .string t, .int .i64 f)] w')) (assumption) ((go_at_call 37; refine (HL.out _).mono ?_; rintro r w1 ⟨rfl, rfl⟩))
              rename_i hHeld
              clear hHeld
              go_wp2
              go_ret
              exact ⟨ret_int (by rw [HV.out, HC.out]), HK.out.2.1.drew⟩
            · obtain rfl : m = true := hnm.symm
              have HC := Lib.hid (cmpZ_tt_lt h)
              clear h hnm
              go_wp2
              have hw2 : Sd w [(w.heap.size, .bool true, .string s, .int .i64 e), (w.heap.size + 1, .bool true, .string t, .int .i64 f)] w1.drew := .of HK.out.drew
              clear c0 c1 c2 d0 d1 d2
              go_region_held3 (fun w' => ((w'.cell? ⟨w.heap.size, 0, none⟩ = some (.bool true) ∧ w'.cell? ⟨w.heap.size, 1, none⟩ = some (.string s) ∧ w'.cell? ⟨w.heap.size, 2, none⟩ = some (.int .i64 e)) ∧ (w'.cell? ⟨w.heap.size + 1, 0, none⟩ = some (.bool true) ∧ w'.cell? ⟨w.heap.size + 1, 1, none⟩ = some (.string t) ∧ w'.cell? ⟨w.heap.size + 1, 2, none⟩ = some (.int .i64 f)) ∧ True) ∧ Hid (Kept3 w [(w.heap.size, .bool true, .string s, .int .i64 e), (w.heap.size + 1, .bool true, .string t, .int .i64 f)] w')) (assumption) ((go_at_call 37; refine (HL.out _).mono ?_; rintro r w1 ⟨rfl, rfl⟩))
              rename_i hHeld
              clear hHeld
              go_wp2
              go_ret
              exact ⟨ret_int (by rw [HV.out, HC.out]), HK.out.2.1.drew⟩
          · subst h
            subst hnm
            have HC := Lib.hid (cmpZ_eq (rfl : sv n X = sv n X))
            go_wp2
            go_ret
            exact ⟨ret_int (by rw [HV.out, HC.out]), HK.out.2.1⟩
          · have hne := strD_ne (show X ≠ Y by omega)
            have HL := Lib.hid (less_f X Y h)
            cases n
            · obtain rfl : m = false := hnm.symm
              have HC := Lib.hid (cmpZ_ff_gt h)
              clear h hnm
              go_wp2
              have hw2 : Sd w [(w.heap.size, .bool false, .string s, .int .i64 e), (w.heap.size + 1, .bool false, .string t, .int .i64 f)] w1.drew := .of HK.out.drew
              clear c0 c1 c2 d0 d1 d2
              go_region_held3 (fun w' => ((w'.cell? ⟨w.heap.size, 0, none⟩ = some (.bool false) ∧ w'.cell? ⟨w.heap.size, 1, none⟩ = some (.string s) ∧ w'.cell? ⟨w.heap.size, 2, none⟩ = some (.int .i64 e)) ∧ (w'.cell? ⟨w.heap.size + 1, 0, none⟩ = some (.bool false) ∧ w'.cell? ⟨w.heap.size + 1, 1, none⟩ = some (.string t) ∧ w'.cell? ⟨w.heap.size + 1, 2, none⟩ = some (.int .i64 f)) ∧ True) ∧ Hid (Kept3 w [(w.heap.size, .bool false, .string s, .int .i64 e), (w.heap.size + 1, .bool false, .string t, .int .i64 f)] w')) (assumption) ((go_at_call 37; refine (HL.out _).mono ?_; rintro r w1 ⟨rfl, rfl⟩))
              rename_i hHeld
              clear hHeld
              go_wp2
              go_ret
              exact ⟨ret_int (by rw [HV.out, HC.out]), HK.out.2.1.drew⟩
            · obtain rfl : m = true := hnm.symm
              have HC := Lib.hid (cmpZ_tt_gt h)
              clear h hnm
              go_wp2
              have hw2 : Sd w [(w.heap.size, .bool true, .string s, .int .i64 e), (w.heap.size + 1, .bool true, .string t, .int .i64 f)] w1.drew := .of HK.out.drew
              clear c0 c1 c2 d0 d1 d2
              go_region_held3 (fun w' => ((w'.cell? ⟨w.heap.size, 0, none⟩ = some (.bool true) ∧ w'.cell? ⟨w.heap.size, 1, none⟩ = some (.string s) ∧ w'.cell? ⟨w.heap.size, 2, none⟩ = some (.int .i64 e)) ∧ (w'.cell? ⟨w.heap.size + 1, 0, none⟩ = some (.bool true) ∧ w'.cell? ⟨w.heap.size + 1, 1, none⟩ = some (.string t) ∧ w'.cell? ⟨w.heap.size + 1, 2, none⟩ = some (.int .i64 f)) ∧ True) ∧ Hid (Kept3 w [(w.heap.size, .bool true, .string s, .int .i64 e), (w.heap.size + 1, .bool true, .string t, .int .i64 f)] w')) (assumption) ((go_at_call 37; refine (HL.out _).mono ?_; rintro r w1 ⟨rfl, rfl⟩))
              rename_i hHeld
              clear hHeld
              go_wp2
              go_ret
              exact ⟨ret_int (by rw [HV.out, HC.out]), HK.out.2.1.drew⟩
        · cases n
          · obtain rfl : m = true := by cases m <;> simp_all
            have HC := Lib.hid (cmpZ_ft hz)
            clear hz hnm
            go_wp2
            go_ret
            exact ⟨ret_int (by rw [HV.out, HC.out]), HK.out.2.1⟩
          · obtain rfl : m = false := by cases m <;> simp_all
            have HC := Lib.hid (cmpZ_tf hz)
            clear hz hnm
            go_wp2
            go_ret
            exact ⟨ret_int (by rw [HV.out, HC.out]), HK.out.2.1⟩
    · have hz : X ≠ 0 ∨ Y ≠ 0 := .inl hX
      rw [decide_eq_false hX] at hx
      clear hX hy
      by_cases hnm : n = m
      · rcases Nat.lt_trichotomy X Y with h | h | h
        · have hne := strD_ne (show X ≠ Y by omega)
          have HL := Lib.hid (less_t X Y h)
          cases n
          · obtain rfl : m = false := hnm.symm
            have HC := Lib.hid (cmpZ_ff_lt h)
            clear h hnm
            go_wp2
            have hw2 : Sd w [(w.heap.size, .bool false, .string s, .int .i64 e), (w.heap.size + 1, .bool false, .string t, .int .i64 f)] w1.drew := .of HK.out.drew
            clear c0 c1 c2 d0 d1 d2
            go_region_held3 (fun w' => ((w'.cell? ⟨w.heap.size, 0, none⟩ = some (.bool false) ∧ w'.cell? ⟨w.heap.size, 1, none⟩ = some (.string s) ∧ w'.cell? ⟨w.heap.size, 2, none⟩ = some (.int .i64 e)) ∧ (w'.cell? ⟨w.heap.size + 1, 0, none⟩ = some (.bool false) ∧ w'.cell? ⟨w.heap.size + 1, 1, none⟩ = some (.string t) ∧ w'.cell? ⟨w.heap.size + 1, 2, none⟩ = some (.int .i64 f)) ∧ True) ∧ Hid (Kept3 w [(w.heap.size, .bool false, .string s, .int .i64 e), (w.heap.size + 1, .bool false, .string t, .int .i64 f)] w')) (assumption) ((go_at_call 37; refine (HL.out _).mono ?_; rintro r w1 ⟨rfl, rfl⟩))
            rename_i hHeld
            clear hHeld
            go_wp2
            go_ret
            exact ⟨ret_int (by rw [HV.out, HC.out]), HK.out.2.1.drew⟩
          · obtain rfl : m = true := hnm.symm
            have HC := Lib.hid (cmpZ_tt_lt h)
            clear h hnm
            go_wp2
            have hw2 : Sd w [(w.heap.size, .bool true, .string s, .int .i64 e), (w.heap.size + 1, .bool true, .string t, .int .i64 f)] w1.drew := .of HK.out.drew
            clear c0 c1 c2 d0 d1 d2
            go_region_held3 (fun w' => ((w'.cell? ⟨w.heap.size, 0, none⟩ = some (.bool true) ∧ w'.cell? ⟨w.heap.size, 1, none⟩ = some (.string s) ∧ w'.cell? ⟨w.heap.size, 2, none⟩ = some (.int .i64 e)) ∧ (w'.cell? ⟨w.heap.size + 1, 0, none⟩ = some (.bool true) ∧ w'.cell? ⟨w.heap.size + 1, 1, none⟩ = some (.string t) ∧ w'.cell? ⟨w.heap.size + 1, 2, none⟩ = some (.int .i64 f)) ∧ True) ∧ Hid (Kept3 w [(w.heap.size, .bool true, .string s, .int .i64 e), (w.heap.size + 1, .bool true, .string t, .int .i64 f)] w')) (assumption) ((go_at_call 37; refine (HL.out _).mono ?_; rintro r w1 ⟨rfl, rfl⟩))
            rename_i hHeld
            clear hHeld
            go_wp2
            go_ret
            exact ⟨ret_int (by rw [HV.out, HC.out]), HK.out.2.1.drew⟩
        · subst h
          subst hnm
          have HC := Lib.hid (cmpZ_eq (rfl : sv n X = sv n X))
          go_wp2
          go_ret
          exact ⟨ret_int (by rw [HV.out, HC.out]), HK.out.2.1⟩
        · have hne := strD_ne (show X ≠ Y by omega)
          have HL := Lib.hid (less_f X Y h)
          cases n
          · obtain rfl : m = false := hnm.symm
            have HC := Lib.hid (cmpZ_ff_gt h)
            clear h hnm
            go_wp2
            have hw2 : Sd w [(w.heap.size, .bool false, .string s, .int .i64 e), (w.heap.size + 1, .bool false, .string t, .int .i64 f)] w1.drew := .of HK.out.drew
            clear c0 c1 c2 d0 d1 d2
            go_region_held3 (fun w' => ((w'.cell? ⟨w.heap.size, 0, none⟩ = some (.bool false) ∧ w'.cell? ⟨w.heap.size, 1, none⟩ = some (.string s) ∧ w'.cell? ⟨w.heap.size, 2, none⟩ = some (.int .i64 e)) ∧ (w'.cell? ⟨w.heap.size + 1, 0, none⟩ = some (.bool false) ∧ w'.cell? ⟨w.heap.size + 1, 1, none⟩ = some (.string t) ∧ w'.cell? ⟨w.heap.size + 1, 2, none⟩ = some (.int .i64 f)) ∧ True) ∧ Hid (Kept3 w [(w.heap.size, .bool false, .string s, .int .i64 e), (w.heap.size + 1, .bool false, .string t, .int .i64 f)] w')) (assumption) ((go_at_call 37; refine (HL.out _).mono ?_; rintro r w1 ⟨rfl, rfl⟩))
            rename_i hHeld
            clear hHeld
            go_wp2
            go_ret
            exact ⟨ret_int (by rw [HV.out, HC.out]), HK.out.2.1.drew⟩
          · obtain rfl : m = true := hnm.symm
            have HC := Lib.hid (cmpZ_tt_gt h)
            clear h hnm
            go_wp2
            have hw2 : Sd w [(w.heap.size, .bool true, .string s, .int .i64 e), (w.heap.size + 1, .bool true, .string t, .int .i64 f)] w1.drew := .of HK.out.drew
            clear c0 c1 c2 d0 d1 d2
            go_region_held3 (fun w' => ((w'.cell? ⟨w.heap.size, 0, none⟩ = some (.bool true) ∧ w'.cell? ⟨w.heap.size, 1, none⟩ = some (.string s) ∧ w'.cell? ⟨w.heap.size, 2, none⟩ = some (.int .i64 e)) ∧ (w'.cell? ⟨w.heap.size + 1, 0, none⟩ = some (.bool true) ∧ w'.cell? ⟨w.heap.size + 1, 1, none⟩ = some (.string t) ∧ w'.cell? ⟨w.heap.size + 1, 2, none⟩ = some (.int .i64 f)) ∧ True) ∧ Hid (Kept3 w [(w.heap.size, .bool true, .string s, .int .i64 e), (w.heap.size + 1, .bool true, .string t, .int .i64 f)] w')) (assumption) ((go_at_call 37; refine (HL.out _).mono ?_; rintro r w1 ⟨rfl, rfl⟩))
            rename_i hHeld
            clear hHeld
            go_wp2
            go_ret
            exact ⟨ret_int (by rw [HV.out, HC.out]), HK.out.2.1.drew⟩
      · cases n
        · obtain rfl : m = true := by cases m <;> simp_all
          have HC := Lib.hid (cmpZ_ft hz)
          clear hz hnm
          go_wp2
          go_ret
          exact ⟨ret_int (by rw [HV.out, HC.out]), HK.out.2.1⟩
        · obtain rfl : m = false := by cases m <;> simp_all
          have HC := Lib.hid (cmpZ_tf hz)
          clear hz hnm
          go_wp2
          go_ret
          exact ⟨ret_int (by rw [HV.out, HC.out]), HK.out.2.1⟩
end Go.Proofs.YtekanlcfgfllcaaDoor
/- Dec7 -/
/-
  Dec7: the law's own example.
-/
namespace Go.Proofs.YtekanlcfgfllcaaDoor
open Go.RowKit
theorem ex_isD : IsD ⟨#[48, 49, 50, 48]⟩ [0, 1, 2, 0] := ⟨rfl, by decide⟩
theorem ex_da : DA 1000 ⟨#[48, 49, 50, 48]⟩ 2 120 := ⟨⟨_, ex_isD, rfl⟩, by decide, by decide, by omega, by omega⟩
theorem ex_one : DA 1000 ⟨#[49]⟩ 0 1 := ⟨⟨[1], ⟨rfl, by decide⟩, rfl⟩, by decide, by decide, by omega, by omega⟩
theorem ex_tz : tz10 120 = 1 := by rw [tz10_step (by omega) rfl, tz10_none (by omega)]
theorem ex_nq : nq 120 = 12 := by rw [nq, ex_tz]
theorem ex_decs12 : decs 12 = [1, 2] := by
  rw [decs_snoc (by omega), decs_snoc (show 12 / 10 ≠ 0 by omega), decs_zero]; rfl
theorem ex_decs120 : (decs 120).length = 3 := by
  rw [decs_snoc (by omega), decs_snoc (show 120 / 10 ≠ 0 by omega), decs_snoc (show 120 / 10 / 10 ≠ 0 by omega), decs_zero]; rfl
theorem ex_nstr : nstr 120 = ⟨#[49, 50]⟩ := by rw [nstr, ex_nq, ex_decs12]; rfl
theorem ex_nexp : nexp 120 2 = 3 := by rw [nexp, if_neg (by omega), ex_tz]; rfl
theorem ex_top : dtop 120 2 = 4 := by rw [dtop, if_neg (by omega), ex_decs120]; rfl
theorem ex_digit : (digAt 120 2 3 : Int) = 2 := rfl
theorem ex_ranged : rangedB 120 2 = true := by rw [rangedB, ex_nexp, ex_top]; rfl
theorem ex_good : goodB ⟨#[48, 49, 50, 48]⟩ 2 = true := by decide
theorem ex_cmp : cmpV false 120 2 false 1 0 = 1 := by decide
end Go.Proofs.YtekanlcfgfllcaaDoor
/- Dec8 -/
/-
  Dec8: what the laws' walks want besides.
-/
namespace Go.Proofs.YtekanlcfgfllcaaDoor
open Go.RowKit
section
variable {P : Program} {ops : Array Oper} {Q : Exit → Act → World → Prop} {md : Region.Mode} {S : World → Prop}
theorem drop_at {i : Nat} {oi : Oper} {r : List Oper} (hi : ops.toList.drop i = oi :: r) : ops[i]? = some oi := by
  rw [← Array.getElem?_toList, ← Nat.add_zero i, ← List.getElem?_drop, hi]; rfl
/-- An operation is taken first, and is handed over written out. -/
theorem take_at (i : Nat) {oi : Oper} {r : List Oper} {v : Value} {fuel : Nat} {listed : Array Bool} {a : Act} {w : World} (hi : ops.toList.drop i = oi :: r)
    (hs : Region.noSelect ops = true) (hf : Region.free md ops listed i = true) (hr : (Region.ready md ops listed).contains i = true)
    (hQ : ∀ c a w, Q (.panic c) (a.put oi.dst v) w → Q (.panic c) a w) (hw : Region.wanted oi (yielded ops a.tmps) = true) (hy : ∀ w, S w → (execOp a.eval oi).run P w = .ok (.value v) w) (hS : S w)
    (h : wpAnyH P md ops Q S fuel (listed.setIfInBounds i true) (a.put oi.dst v) w) : wpAnyH P md ops Q S (fuel + 1) listed a w :=
  wpAnyH_take (drop_at hi) hs hf hr hQ (.inl ⟨hw, hy⟩) hS h
/-- One that is not wanted. -/
theorem skip_at (i : Nat) {oi : Oper} {r : List Oper} {fuel : Nat} {listed : Array Bool} {a : Act} {w : World} (hi : ops.toList.drop i = oi :: r)
    (hs : Region.noSelect ops = true) (hf : Region.free md ops listed i = true) (hr : (Region.ready md ops listed).contains i = true)
    (hQ : ∀ c a w, Q (.panic c) (a.put oi.dst undef) w → Q (.panic c) a w) (hw : Region.wanted oi (yielded ops a.tmps) = false) (hS : S w)
    (h : wpAnyH P md ops Q S fuel (listed.setIfInBounds i true) (a.put oi.dst undef) w) : wpAnyH P md ops Q S (fuel + 1) listed a w :=
  wpAnyH_take (drop_at hi) hs hf hr hQ (.inr ⟨hw, rfl⟩) hS h
/-- One alone may come up. -/
theorem step_at (i : Nat) {o : Oper} {r : List Oper} {fuel : Nat} {listed : Array Bool} {a : Act} {w : World} (hr : Region.ready md ops listed = [i]) (ho : ops.toList.drop i = o :: r) (hw : Region.wanted o (yielded ops a.tmps) = true)
    (h : ∀ K' : Act → World → Prop, Shut (∀ a w, S w → (S w → wpAnyH P md ops Q S fuel (listed.setIfInBounds i true) a w) → K' a w) → Oper.wp P o a w K' Q) : wpAnyH P md ops Q S (fuel + 1) listed a w :=
  wpAnyH_ready hr (by simp) (AllReadyH.cons (drop_at ho) (fun K hK => by rw [if_pos hw]; exact h K hK) AllReadyH.nil)
end
theorem norm_eq {a b : Nat} {e f : Int} (h : nq a = nq b ∧ nexp a e = nexp b f) : nstr b = nstr a ∧ nexp b f = nexp a e := ⟨by rw [nstr, nstr, h.1], h.2.symm⟩
theorem nstr_inj {a b : Nat} (h : nstr a = nstr b) : nq a = nq b := by
  have h1 := isD_nstr a
  rw [h] at h1
  have h2 := h1.inj (isD_nstr b)
  have h3 := congrArg dval h2
  rwa [dval_orZero', dval_orZero', dval_decs, dval_decs] at h3
theorem norm_ne {n m : Bool} {a b : Nat} {e f : Int} (h : ¬ (n = m ∧ nq a = nq b ∧ nexp a e = nexp b f)) : ¬ (n = m ∧ nstr a = nstr b ∧ nexp a e = nexp b f) :=
  fun ⟨h1, h2, h3⟩ => h ⟨h1, nstr_inj h2, h3⟩
theorem toList_inj {s t : ByteArray} (h : s.toList = t.toList) : s = t := by
  rw [ByteArray.toList_eq, ByteArray.toList_eq] at h
  cases s; cases t; simp at h; rw [h]
/-- The copies of two decimals, each in a box of its own. -/
def PlMid (w0 : World) (A B X Y : Value × Value × Value) (vx vy : Value) (W : World) : Prop :=
  ∃ gx gy : Nat, vx = .pointer (some ⟨gx, 0, none⟩) ∧ vy = .pointer (some ⟨gy, 0, none⟩) ∧ gx ≠ gy ∧ w0.heap.size + 1 < gx ∧ w0.heap.size + 1 < gy ∧ Kept3 w0 [(w0.heap.size, A), (w0.heap.size + 1, B), (gx, X), (gy, Y)] W
theorem plMid_1 {w0 W : World} {A B : Value × Value × Value} (h : Kept3 w0 [(w0.heap.size, A), (w0.heap.size + 1, B)] W) (x1 y1 z1 x2 y2 z2 : Value) (t : TypeId) :
    PlMid w0 A B (x1, y1, z1) (x2, y2, z2) (.pointer (some ⟨W.heap.size, 0, none⟩)) (.pointer (some ⟨W.heap.size + 1, 0, none⟩)) ((W.alloc (.cells #[x1, y1, z1] t)).alloc (.cells #[x2, y2, z2] t)).drew := by
  have hz := (h.2.2 (w0.heap.size + 1, B) (by simp)).2.2.2.2.2.2
  simp only at hz
  have hk := h.keep (((Below.refl W.heap.size W).alloc (Nat.le_refl _) (.cells #[x1, y1, z1] t)).alloc (by simp) (.cells #[x2, y2, z2] t))
  refine ⟨_, _, rfl, rfl, by omega, hz, by omega, Kept3.drew ⟨hk.1, hk.2.1, ?_⟩⟩
  intro u hu
  simp only [List.mem_cons, List.not_mem_nil, or_false] at hu
  rcases hu with rfl | rfl | rfl | rfl
  · exact hk.2.2 (w0.heap.size, A) (by simp)
  · exact hk.2.2 (w0.heap.size + 1, B) (by simp)
  · exact (Box3.new W x1 y1 z1 t).alloc _
  · have := Box3.new (W.alloc (.cells #[x1, y1, z1] t)) x2 y2 z2 t
    rwa [World.size_alloc] at this
theorem plMid_2 {w0 W : World} {A B : Value × Value × Value} (h : Kept3 w0 [(w0.heap.size, A), (w0.heap.size + 1, B)] W) (x1 y1 z1 x2 y2 z2 : Value) (t : TypeId) :
    PlMid w0 A B (x1, y1, z1) (x2, y2, z2) (.pointer (some ⟨W.heap.size + 1, 0, none⟩)) (.pointer (some ⟨W.heap.size, 0, none⟩)) ((W.alloc (.cells #[x2, y2, z2] t)).alloc (.cells #[x1, y1, z1] t)).drew := by
  obtain ⟨gx, gy, e1, e2, hne, hgx, hgy, hk⟩ := plMid_1 h x2 y2 z2 x1 y1 z1 t
  refine ⟨gy, gx, e2, e1, fun e => hne e.symm, hgy, hgx, hk.1, hk.2.1, ?_⟩
  intro u hu
  refine hk.2.2 u ?_
  simp only [List.mem_cons, List.not_mem_nil, or_false] at hu ⊢
  rcases hu with rfl | rfl | rfl | rfl <;> simp
theorem Box3.other {W : World} {g g' k : Nat} {x y z : Value} (h : Box3 W g x y z) (hg : g ≠ g') (u : Value) : Box3 (W.setCell ⟨g', k, none⟩ u) g x y z := by
  obtain ⟨c0, c1, c2, f0, f1, f2, hz⟩ := h
  refine ⟨?_, ?_, ?_, ?_, ?_, ?_, ?_⟩
  · rw [World.cell?_setCell_far _ _ _ _ (by simp; omega)]; exact c0
  · rw [World.cell?_setCell_far _ _ _ _ (by simp; omega)]; exact c1
  · rw [World.cell?_setCell_far _ _ _ _ (by simp; omega)]; exact c2
  · go_simp
  · go_simp
  · go_simp
  · simpa using hz
theorem Box3.set2 {W : World} {g : Nat} {x y z : Value} (h : Box3 W g x y z) (u : Value) : Box3 (W.setCell ⟨g, 2, none⟩ u) g x y u := by
  obtain ⟨c0, c1, c2, f0, f1, f2, hz⟩ := h
  refine ⟨?_, ?_, ?_, ?_, ?_, ?_, ?_⟩
  · go_simp
  · go_simp
  · go_simp
  · go_simp
  · go_simp
  · go_simp
  · simpa using hz
/-- The copies with other exponents. -/
def PlEnd (w0 : World) (L : List (Nat × Value × Value × Value)) (v v' : Value) (W : World) : Prop := v = v' ∧ Kept3 w0 L W
theorem plEnd_of {w0 W : World} {A B : Value × Value × Value} {gx gy : Nat} {x1 y1 z1 x2 y2 z2 : Value} (hp : 0 < w0.heap.size) (hne : gx ≠ gy) (hgx : w0.heap.size + 1 < gx) (hgy : w0.heap.size + 1 < gy)
    (h : Kept3 w0 [(w0.heap.size, A), (w0.heap.size + 1, B), (gx, x1, y1, z1), (gy, x2, y2, z2)] W) (Z1 Z2 v : Value) :
    PlEnd w0 [(w0.heap.size, A), (w0.heap.size + 1, B), (gx, x1, y1, Z1), (gy, x2, y2, Z2)] v v ((W.setCell ⟨gx, 2, none⟩ Z1).setCell ⟨gy, 2, none⟩ Z2) := by
  have b1 : Below w0.heap.size w0 _ := (h.2.1.setCell (p := ⟨gx, 2, none⟩) (by simp; omega) Z1).setCell (p := ⟨gy, 2, none⟩) (by simp; omega) Z2
  have b2 : Below w0.heap.size W _ := ((Below.refl w0.heap.size W).setCell (p := ⟨gx, 2, none⟩) (by simp; omega) Z1).setCell (p := ⟨gy, 2, none⟩) (by simp; omega) Z2
  refine ⟨rfl, h.1.below' b2 hp, b1, ?_⟩
  intro u hu
  simp only [List.mem_cons, List.not_mem_nil, or_false] at hu
  rcases hu with rfl | rfl | rfl | rfl
  · exact ((h.2.2 (w0.heap.size, A) (by simp)).other (by simp; omega) _).other (by simp; omega) _
  · exact ((h.2.2 (w0.heap.size + 1, B) (by simp)).other (by simp; omega) _).other (by simp; omega) _
  · exact ((h.2.2 (gx, x1, y1, z1) (by simp)).set2 _).other (by simp; omega) _
  · exact ((h.2.2 (gy, x2, y2, z2) (by simp)).other (by simp; omega) _).set2 _
theorem PlEnd.drew {w0 W : World} {L : List (Nat × Value × Value × Value)} {v v' : Value} (h : PlEnd w0 L v v' W) : PlEnd w0 L v v' W.drew := ⟨h.1, h.2.drew⟩
theorem DA.shift {s : ByteArray} {e k : Int} {N : Nat} (h : DA 1000 s e N) (h1 : -128 ≤ k) (h2 : k ≤ 127) : DA 2000 s (e + k) N :=
  ⟨h.isD, h.pos, h.len, by have := h.lo; omega, by have := h.hi; omega⟩
theorem i8_of_wf {n : Int} (h : (Lit.int .i8 n).wf = true) : -128 ≤ n ∧ n ≤ 127 := by
  have e1 : IntKind.i8.min = -128 := rfl
  have e2 : IntKind.i8.max = 127 := rfl
  simp only [Lit.wf, Bool.and_eq_true, decide_eq_true_eq] at h
  omega
theorem i16_of_wf {n : Int} (h : (Lit.int .i16 n).wf = true) : -32768 ≤ n ∧ n ≤ 32767 := by
  have e1 : IntKind.i16.min = -32768 := rfl
  have e2 : IntKind.i16.max = 32767 := rfl
  simp only [Lit.wf, Bool.and_eq_true, decide_eq_true_eq] at h
  omega
theorem rangedB_norm (N : Nat) (e : Int) : rangedB (nq N) (nexp N e) = rangedB N e := by
  unfold rangedB
  rw [nexp_nq]
  by_cases h : N = 0
  · subst h; rw [nq_zero]; rfl
  · have h1 := top_norm h e
    have h2 := top_norm (nq_pos h) (nexp N e)
    rw [nexp_nq, nq_nq] at h2
    rw [← h1, h2]
theorem decNorm_v (B : Nat) (n : Bool) (s : ByteArray) (e : Int) (N : Nat) (S : ByteArray) (E : Int) (w : World) (h : DA B s e N) (hv : nstr N = S ∧ nexp N e = E) (hB : B ≤ 1000000) (hP : Pw w) :
    Calls Tryd.prog 23 #[.agg #[.bool n, .string s, .int .i64 e]] w fun r w' => r = .returned (.agg #[.bool n, .string S, .int .i64 E]) ∧ Below w.heap.size w w' := by
  obtain ⟨rfl, rfl⟩ := hv; exact decNorm_c B n s e N w h hB hP
theorem norm_norm (N : Nat) (e : Int) : nstr (nq N) = nstr N ∧ nexp (nq N) (nexp N e) = nexp N e := ⟨by rw [nstr, nq_nq, nstr], nexp_nq N e⟩
theorem ref5Cmp_v (B : Nat) (n m : Bool) (s t : ByteArray) (e f : Int) (a b : Nat) (v : Int) (w : World) (h : DA B s e a) (h' : DA B t f b) (hv : cmpV n a e m b f = v) (hB : B ≤ 1000000) (hP : Pw w) :
    Calls Tryd.prog 15 #[.agg #[.bool n, .string s, .int .i64 e], .agg #[.bool m, .string t, .int .i64 f]] w fun r w' => r = .returned (.int .i64 v) ∧ Below w.heap.size w w' := by
  subst hv; exact ref5Cmp_c B n m s t e f a b w h h' hB hP
theorem decDigit_v (B : Nat) (n : Bool) (s : ByteArray) (e : Int) (N : Nat) (p v : Int) (w : World) (h : DA B s e N) (hv : (digAt N e p : Int) = v) (hB : B ≤ 1000000) (hP : Pw w) :
    Calls Tryd.prog 64 #[.agg #[.bool n, .string s, .int .i64 e], .int .i64 p] w fun r w' => r = .returned (.int .i64 v) ∧ Below w.heap.size w w' := by
  subst hv; exact decDigit_c B n s e N p w h hB hP
theorem decZero_v (B : Nat) (n : Bool) (s : ByteArray) (e : Int) (N : Nat) (v : Bool) (w : World) (h : DA B s e N) (hv : decide (N = 0) = v) (hP : Pw w) :
    Calls Tryd.prog 62 #[.agg #[.bool n, .string s, .int .i64 e]] w fun r w' => r = .returned (.bool v) ∧ Below w.heap.size w w' := by
  subst hv; exact decZero_c B n s e N w h hP
theorem want_in {B : Nat} {s : ByteArray} {e p : Int} {N : Nat} (h : DA B s e N) (h1 : e ≤ p) (h2 : p < e + (s.size : Int)) :
    ∃ k : Nat, (s.size : Int) - 1 - (p - e) = (k : Int) ∧ ∃ hk : k < s.size, s[k].toNat = 48 + digAt N e p := by
  obtain ⟨ds, hd, rfl⟩ := h.isD
  have hs := hd.size
  refine ⟨s.size - 1 - (p - e).toNat, by omega, by omega, ?_⟩
  rw [hd.at_, hs, rev_digit ds hd.2 _ (by omega), digAt, if_neg (by omega)]
theorem want_out {B : Nat} {s : ByteArray} {e p : Int} {N : Nat} (h : DA B s e N) (h1 : ¬ (e ≤ p ∧ p < e + (s.size : Int))) : digAt N e p = 0 := by
  obtain ⟨ds, hd, rfl⟩ := h.isD
  have hs := hd.size
  unfold digAt
  by_cases h2 : p < e
  · rw [if_pos h2]
  · rw [if_neg h2]
    have h3 := dval_lt ds hd.2
    have h4 : 10 ^ ds.length ≤ 10 ^ (p - e).toNat := Nat.pow_le_pow_right (by omega) (by omega)
    rw [Nat.div_eq_of_lt (by omega)]
theorem kept_three (w : World) (x1 y1 z1 x2 y2 z2 x3 y3 z3 : Value) (t : TypeId) (hP : Pw w) :
    Kept3 w [(w.heap.size, x1, y1, z1), (w.heap.size + 1, x2, y2, z2), (w.heap.size + 2, x3, y3, z3)] (((w.alloc (.cells #[x1, y1, z1] t)).alloc (.cells #[x2, y2, z2] t)).alloc (.cells #[x3, y3, z3] t)) := by
  have h2 := kept_two w x1 y1 z1 x2 y2 z2 t hP
  have hb : Below ((w.alloc (.cells #[x1, y1, z1] t)).alloc (.cells #[x2, y2, z2] t)).heap.size ((w.alloc (.cells #[x1, y1, z1] t)).alloc (.cells #[x2, y2, z2] t)) _ := (Below.refl _ _).alloc (Nat.le_refl _) (.cells #[x3, y3, z3] t)
  have hk := h2.keep hb
  refine ⟨hk.1, hk.2.1, ?_⟩
  intro u hu
  simp only [List.mem_cons, List.not_mem_nil, or_false] at hu
  rcases hu with rfl | rfl | rfl
  · exact hk.2.2 _ (by simp)
  · exact hk.2.2 (w.heap.size + 1, x2, y2, z2) (by simp)
  · have := Box3.new ((w.alloc (.cells #[x1, y1, z1] t)).alloc (.cells #[x2, y2, z2] t)) x3 y3 z3 t
    simp only [World.size_alloc] at this
    exact this
end Go.Proofs.YtekanlcfgfllcaaDoor
