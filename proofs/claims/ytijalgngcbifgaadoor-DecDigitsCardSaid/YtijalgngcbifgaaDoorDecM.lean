/-
  DecM: plain facts on decimals (layer 5): digits without noughts at the end, places, the order of values.
-/
import Derived.Test.YtijalgngcbifgaaDoorKA
namespace Go.Proofs.YtijalgngcbifgaaDoor
open Go.RowKit
theorem val_getD (b : Nat) (hb : 0 < b) (xs : List Nat) (h : ∀ x ∈ xs, x < b) (k : Nat) : xs.getD k 0 = val b xs / b ^ k % b := by
  induction xs generalizing k with
  | nil => simp [val]
  | cons x r ih =>
    have hx := h x (by simp)
    have ih' := fun k => ih (fun y hy => h y (by simp [hy])) k
    rcases k with _ | k
    · simp [val, Nat.mod_eq_of_lt hx]
    · have e := ih' k
      rw [show (x :: r).getD (k + 1) 0 = r.getD k 0 from rfl, e, val, Nat.pow_succ, Nat.mul_comm (b ^ k) b, ← Nat.div_div_eq_div_mul, Nat.add_mul_div_left _ _ hb, Nat.div_eq_of_lt hx, Nat.zero_add]
theorem digs_getD (n k : Nat) : (digs 10 n).getD k 0 = n / 10 ^ k % 10 := by
  rw [val_getD 10 (by omega) _ (digs_lt 10 (by omega) n), val_digs 10 (by omega)]
/-- The digit at the k-th place from the right. -/
theorem rev_digit (ds : List Nat) (h : ∀ d ∈ ds, d < 10) (k : Nat) (hk : k < ds.length) : ds.getD (ds.length - 1 - k) 0 = dval ds / 10 ^ k % 10 := by
  have e := val_getD 10 (by omega) ds.reverse (fun x hx => h x (List.mem_reverse.1 hx)) k
  rw [← show dval ds = val 10 ds.reverse from rfl] at e
  rw [← e, List.getD, List.getD, List.getElem?_reverse hk]
/-- The number of noughts at the end. -/
def tz10 (n : Nat) : Nat := if h : n ≠ 0 ∧ n % 10 = 0 then tz10 (n / 10) + 1 else 0
termination_by n
decreasing_by omega
theorem tz10_zero : tz10 0 = 0 := by rw [tz10]; simp
theorem tz10_step {n : Nat} (h0 : n ≠ 0) (h : n % 10 = 0) : tz10 n = tz10 (n / 10) + 1 := by rw [tz10, dif_pos ⟨h0, h⟩]
theorem tz10_none {n : Nat} (h : n % 10 ≠ 0) : tz10 n = 0 := by rw [tz10, dif_neg (fun hh => h hh.2)]
/-- Without the noughts at the end. -/
def nq (n : Nat) : Nat := n / 10 ^ tz10 n
theorem nq_zero : nq 0 = 0 := by simp [nq]
theorem nq_step {n : Nat} (h0 : n ≠ 0) (h : n % 10 = 0) : nq n = nq (n / 10) := by
  rw [nq, tz10_step h0 h, Nat.pow_succ, Nat.mul_comm, ← Nat.div_div_eq_div_mul, nq]
theorem nq_none {n : Nat} (h : n % 10 ≠ 0) : nq n = n := by rw [nq, tz10_none h]; simp
theorem nq_spec (n : Nat) : nq n * 10 ^ tz10 n = n ∧ (n ≠ 0 → nq n % 10 ≠ 0) := by
  induction n using Nat.strongRecOn with
  | _ n ih =>
    by_cases h0 : n = 0
    · subst h0; simp [nq_zero]
    · by_cases h : n % 10 = 0
      · obtain ⟨h1, h2⟩ := ih (n / 10) (by omega)
        refine ⟨?_, fun _ => ?_⟩
        · rw [nq_step h0 h, tz10_step h0 h, Nat.pow_succ, ← Nat.mul_assoc, h1]; omega
        · rw [nq_step h0 h]; exact h2 (by omega)
      · rw [nq_none h, tz10_none h]
        exact ⟨by simp, fun _ => h⟩
theorem nq_pos {n : Nat} (h : n ≠ 0) : nq n ≠ 0 := fun e => (nq_spec n).2 h (by rw [e])
theorem nq_le (n : Nat) : nq n ≤ n := Nat.div_le_self _ _
/-- Without noughts at the end. -/
def stripE (ds : List Nat) : List Nat := (stripZ ds.reverse).reverse
theorem stripE_snoc0 (ds : List Nat) : stripE (ds ++ [0]) = stripE ds := by simp [stripE, stripZ]
theorem stripE_snoc {d : Nat} (ds : List Nat) (h : d ≠ 0) : stripE (ds ++ [d]) = ds ++ [d] := by simp [stripE, stripZ, h]
theorem decs_snoc {n : Nat} (h : n ≠ 0) : decs n = decs (n / 10) ++ [n % 10] := by rw [decs, digs_pos (by omega) h]; simp [decs]
theorem stripE_decs (n : Nat) : stripE (decs n) = decs (nq n) := by
  induction n using Nat.strongRecOn with
  | _ n ih =>
    by_cases h0 : n = 0
    · subst h0; simp [nq_zero, decs_zero, stripE, stripZ]
    · by_cases h : n % 10 = 0
      · rw [nq_step h0 h, ← ih (n / 10) (by omega), decs_snoc h0, h, stripE_snoc0]
      · rw [nq_none h, decs_snoc h0, stripE_snoc _ h]
theorem decs_len_tz {n : Nat} (h0 : n ≠ 0) : (decs n).length = (decs (nq n)).length + tz10 n := by
  induction n using Nat.strongRecOn with
  | _ n ih =>
    by_cases h : n % 10 = 0
    · rw [decs_snoc h0, nq_step h0 h, tz10_step h0 h, List.length_append, ih (n / 10) (by omega) (by omega)]; simp; omega
    · rw [nq_none h, tz10_none h]; simp
/-- The exponent of a decimal as it should be. -/
def nexp (n : Nat) (e : Int) : Int := if n = 0 then 0 else e + tz10 n
/-- The place of the first digit. -/
def dtop (n : Nat) (e : Int) : Int := if n = 0 then 0 else e + (decs n).length - 1
/-- A decimal's digit at a place. -/
def digAt (n : Nat) (e p : Int) : Nat := if p < e then 0 else n / 10 ^ (p - e).toNat % 10
theorem digAt_lt (n : Nat) (e p : Int) : digAt n e p < 10 := by unfold digAt; split <;> omega
theorem decs_pos {n : Nat} (h : n ≠ 0) : 0 < (decs n).length := by
  rcases Nat.eq_zero_or_pos (decs n).length with hh | hh
  · exact absurd ((decs_length_zero n).1 hh) h
  · exact hh
theorem decs_ge {n : Nat} (h : n ≠ 0) : 10 ^ ((decs n).length - 1) ≤ n := by
  rw [pow_le_iff]; have := decs_pos h; omega
theorem decs_nz {n : Nat} (h : n ≠ 0) : decs n ≠ [] := fun e => by have := decs_pos h; rw [e] at this; simp at this
/-- The first digit's place, from the digits as they should be. -/
theorem top_norm {n : Nat} (h : n ≠ 0) (e : Int) : nexp n e + (decs (nq n)).length - 1 = dtop n e := by
  rw [nexp, dtop, if_neg h, if_neg h, decs_len_tz h]; omega
theorem digAt_below (n : Nat) (e p : Int) (h : p < nexp n e) : digAt n e p = 0 := by
  unfold digAt
  split
  · rfl
  · rename_i hp
    by_cases h0 : n = 0
    · subst h0; simp
    · rw [nexp, if_neg h0] at h
      have h1 := (nq_spec n).1
      obtain ⟨k, hk⟩ : ∃ k : Nat, k = (p - e).toNat := ⟨_, rfl⟩
      obtain ⟨j, hj⟩ : ∃ j : Nat, tz10 n = k + 1 + j := ⟨tz10 n - k - 1, by omega⟩
      rw [← hk, ← h1, hj, show nq n * 10 ^ (k + 1 + j) = 10 ^ k * (10 * (nq n * 10 ^ j)) by rw [Nat.pow_add, Nat.pow_succ]; simp only [Nat.mul_assoc, Nat.mul_comm, Nat.mul_left_comm],
        Nat.mul_div_cancel_left _ (pow_pos10 k)]
      omega
theorem digAt_above (n : Nat) (e p : Int) (h0 : n ≠ 0) (h : dtop n e < p) : digAt n e p = 0 := by
  rw [dtop, if_neg h0] at h
  have h1 := decs_pos h0
  unfold digAt
  rw [if_neg (by omega)]
  have h2 := lt_pow_decs n
  have h3 : 10 ^ (decs n).length ≤ 10 ^ (p - e).toNat := Nat.pow_le_pow_right (by omega) (by omega)
  rw [Nat.div_eq_of_lt (by omega)]
theorem digAt_norm (n : Nat) (e p : Int) (h0 : n ≠ 0) (h1 : nexp n e ≤ p) (h2 : p ≤ dtop n e) :
    (decs (nq n)).getD (dtop n e - p).toNat 0 = digAt n e p := by
  have hq := top_norm h0 e
  have hne : nexp n e = e + tz10 n := by rw [nexp, if_neg h0]
  have hp := decs_pos (nq_pos h0)
  obtain ⟨k, hk⟩ : ∃ k : Nat, k = (p - nexp n e).toNat := ⟨_, rfl⟩
  have e1 := rev_digit (decs (nq n)) (decs_lt _) k (by omega)
  rw [dval_decs] at e1
  rw [show (dtop n e - p).toNat = (decs (nq n)).length - 1 - k by omega, e1, digAt, if_neg (by omega), show (p - e).toNat = tz10 n + k by omega, Nat.pow_add, ← Nat.div_div_eq_div_mul]
  rfl
theorem digAt_zero (e p : Int) : digAt 0 e p = 0 := by unfold digAt; split <;> simp
theorem digAt_top {n : Nat} (h0 : n ≠ 0) (e : Int) : 0 < digAt n e (dtop n e) := by
  have h1 := decs_ge h0
  have h2 := lt_pow_decs n
  have h3 := decs_pos h0
  rw [digAt, dtop, if_neg h0, if_neg (by omega), show (e + ((decs n).length : Int) - 1 - e).toNat = (decs n).length - 1 by omega]
  obtain ⟨L, hL⟩ : ∃ L, (decs n).length = L + 1 := ⟨(decs n).length - 1, by omega⟩
  rw [hL] at h1 h2 ⊢
  rw [Nat.add_sub_cancel] at h1 ⊢
  rw [Nat.pow_succ] at h2
  have h4 : 1 ≤ n / 10 ^ L := (Nat.le_div_iff_mul_le (pow_pos10 L)).2 (by omega)
  have h5 : n / 10 ^ L < 10 := (Nat.div_lt_iff_lt_mul (pow_pos10 L)).2 (by omega)
  omega
theorem digAt_shift (n : Nat) (e p k : Int) : digAt n (e + k) (p + k) = digAt n e p := by
  unfold digAt
  rw [show (p + k - (e + k)) = p - e by omega]
  by_cases h : p < e
  · rw [if_pos h, if_pos (by omega)]
  · rw [if_neg h, if_neg (by omega)]
theorem dtop_shift {n : Nat} (h : n ≠ 0) (e k : Int) : dtop n (e + k) = dtop n e + k := by rw [dtop, dtop, if_neg h, if_neg h]; omega
/-! The order of values. -/
/-- Which of two is more. -/
def cmpZ (a b : Int) : Int := if a < b then -1 else if b < a then 1 else 0
theorem cmpZ_lt {a b : Int} (h : a < b) : cmpZ a b = -1 := by simp [cmpZ, h]
theorem cmpZ_gt {a b : Int} (h : b < a) : cmpZ a b = 1 := by rw [cmpZ, if_neg (by omega), if_pos h]
theorem cmpZ_eq {a b : Int} (h : a = b) : cmpZ a b = 0 := by rw [cmpZ, if_neg (by omega), if_neg (by omega)]
theorem cmpZ_cases (a b : Int) : (a < b ∧ cmpZ a b = -1) ∨ (a = b ∧ cmpZ a b = 0) ∨ (b < a ∧ cmpZ a b = 1) := by
  rcases Int.lt_trichotomy a b with h | h | h
  · exact .inl ⟨h, cmpZ_lt h⟩
  · exact .inr (.inl ⟨h, cmpZ_eq h⟩)
  · exact .inr (.inr ⟨h, cmpZ_gt h⟩)
theorem cmpZ_bound (a b : Int) : -1 ≤ cmpZ a b ∧ cmpZ a b ≤ 1 := by rcases cmpZ_cases a b with h | h | h <;> omega
theorem cmpZ_turn (a b : Int) : cmpZ b a = -cmpZ a b := by rcases cmpZ_cases a b with h | h | h <;> rcases cmpZ_cases b a with h' | h' | h' <;> omega
theorem cmpZ_neg (a b : Int) : cmpZ (-a) (-b) = cmpZ b a := by rcases cmpZ_cases (-a) (-b) with h | h | h <;> rcases cmpZ_cases b a with h' | h' | h' <;> omega
theorem cmpZ_iff {a b c d : Int} (h1 : a < b ↔ c < d) (h2 : b < a ↔ d < c) : cmpZ a b = cmpZ c d := by
  rcases cmpZ_cases a b with h | h | h <;> rcases cmpZ_cases c d with h' | h' | h' <;> omega
theorem cmpZ_mul (a b : Int) (k : Nat) (hk : 0 < k) : cmpZ (a * k) (b * k) = cmpZ a b := by
  have hk' : (0 : Int) < (k : Int) := by omega
  exact cmpZ_iff ⟨fun h => Int.lt_of_mul_lt_mul_right h (by omega), fun h => Int.mul_lt_mul_of_pos_right h hk'⟩
    ⟨fun h => Int.lt_of_mul_lt_mul_right h (by omega), fun h => Int.mul_lt_mul_of_pos_right h hk'⟩
/-- A number with its sign. -/
def sv (neg : Bool) (n : Nat) : Int := if neg then -(n : Int) else n
theorem sv_mul (neg : Bool) (n k : Nat) : sv neg (n * k) = sv neg n * k := by cases neg <;> simp [sv, Int.neg_mul]
theorem sv_zero (n : Bool) : sv n 0 = 0 := by cases n <;> simp [sv]
/-- Which of two values is more. -/
def cmpV (na : Bool) (a : Nat) (ea : Int) (nb : Bool) (b : Nat) (eb : Int) : Int :=
  cmpZ (sv na (a * 10 ^ (ea - min ea eb).toNat)) (sv nb (b * 10 ^ (eb - min ea eb).toNat))
theorem cmpV_bound (na : Bool) (a : Nat) (ea : Int) (nb : Bool) (b : Nat) (eb : Int) : -1 ≤ cmpV na a ea nb b eb ∧ cmpV na a ea nb b eb ≤ 1 := cmpZ_bound _ _
/-- .. counted in places of any exponent that is above neither. -/
theorem cmpV_at (na : Bool) (a : Nat) (ea : Int) (nb : Bool) (b : Nat) (eb : Int) (m : Int) (h1 : m ≤ ea) (h2 : m ≤ eb) :
    cmpV na a ea nb b eb = cmpZ (sv na (a * 10 ^ (ea - m).toNat)) (sv nb (b * 10 ^ (eb - m).toNat)) := by
  obtain ⟨k, hk⟩ : ∃ k : Nat, k = (min ea eb - m).toNat := ⟨_, rfl⟩
  rw [show (ea - m).toNat = (ea - min ea eb).toNat + k by omega, show (eb - m).toNat = (eb - min ea eb).toNat + k by omega, Nat.pow_add, Nat.pow_add, ← Nat.mul_assoc, ← Nat.mul_assoc,
    sv_mul na (a * _) (10 ^ k), sv_mul nb (b * _) (10 ^ k), cmpZ_mul _ _ _ (pow_pos10 k)]
  rfl
theorem cmpV_turn (na : Bool) (a : Nat) (ea : Int) (nb : Bool) (b : Nat) (eb : Int) : cmpV nb b eb na a ea = -cmpV na a ea nb b eb := by
  rw [cmpV_at nb b eb na a ea (min ea eb) (by omega) (by omega), cmpZ_turn]; rfl
theorem cmpV_shift (na : Bool) (a : Nat) (ea : Int) (nb : Bool) (b : Nat) (eb k : Int) : cmpV na a (ea + k) nb b (eb + k) = cmpV na a ea nb b eb := by
  rw [cmpV_at na a (ea + k) nb b (eb + k) (min ea eb + k) (by omega) (by omega), show ea + k - (min ea eb + k) = ea - min ea eb by omega, show eb + k - (min ea eb + k) = eb - min ea eb by omega]
  rfl
theorem cmpV_three {na nb nc : Bool} {a b c : Nat} {ea eb ec : Int} (h1 : cmpV na a ea nb b eb ≤ 0) (h2 : cmpV nb b eb nc c ec ≤ 0) :
    cmpV na a ea nc c ec ≤ 0 ∧ (cmpV na a ea nc c ec = 0 → cmpV na a ea nb b eb = 0 ∧ cmpV nb b eb nc c ec = 0) := by
  have e1 := cmpV_at na a ea nb b eb (min ea (min eb ec)) (by omega) (by omega)
  have e2 := cmpV_at nb b eb nc c ec (min ea (min eb ec)) (by omega) (by omega)
  have e3 := cmpV_at na a ea nc c ec (min ea (min eb ec)) (by omega) (by omega)
  generalize sv na (a * 10 ^ (ea - min ea (min eb ec)).toNat) = A at *
  generalize sv nb (b * 10 ^ (eb - min ea (min eb ec)).toNat) = B at *
  generalize sv nc (c * 10 ^ (ec - min ea (min eb ec)).toNat) = C at *
  rcases cmpZ_cases A B with h | h | h <;> rcases cmpZ_cases B C with h' | h' | h' <;> rcases cmpZ_cases A C with h'' | h'' | h'' <;> omega
/-- The sign of a value. -/
def sgn (neg : Bool) (n : Nat) : Int := if n = 0 then 0 else if neg then -1 else 1
theorem sgn_zero (neg : Bool) : sgn neg 0 = 0 := by simp [sgn]
theorem sgn_of {neg : Bool} {n : Nat} (h : n ≠ 0) : sgn neg n = if neg then -1 else 1 := by rw [sgn, if_neg h]
/-- The order of texts of digits, of any lengths. -/
def lexc : List Nat → List Nat → Int
  | [], [] => 0
  | [], _ :: _ => -1
  | _ :: _, [] => 1
  | a :: x, b :: y => if a < b then -1 else if b < a then 1 else lexc x y
theorem mul_pow_pos {a k : Nat} (h : a ≠ 0) : 0 < a * 10 ^ k := Nat.mul_pos (by omega) (pow_pos10 k)
/-- Texts whose last digit is none 0, as what stands behind a point. -/
theorem lexc_val (ds es : List Nat) (hd : ∀ d ∈ ds, d < 10) (he : ∀ d ∈ es, d < 10) (ld : ds.reverse.head? ≠ some 0) (le : es.reverse.head? ≠ some 0) :
    lexc ds es = cmpZ ((dval ds * 10 ^ es.length : Nat) : Int) ((dval es * 10 ^ ds.length : Nat) : Int) := by
  have nz : ∀ (xs : List Nat), xs ≠ [] → xs.reverse.head? ≠ some 0 → 0 < dval xs := by
    intro xs hn hl
    rcases hr : xs.reverse with _ | ⟨x, r⟩
    · exact absurd (by simpa using hr) hn
    · rw [hr] at hl
      simp only [List.head?_cons, ne_eq, Option.some.injEq] at hl
      unfold dval
      rw [hr, val]
      omega
  induction ds generalizing es with
  | nil =>
    rcases es with _ | ⟨b, y⟩
    · simp [lexc, dval_nil, cmpZ]
    · have := nz (b :: y) (by simp) le
      rw [lexc, cmpZ_lt (by simp only [dval_nil, Nat.zero_mul, List.length_nil, Nat.pow_zero, Nat.mul_one]; omega)]
  | cons a x ih =>
    rcases es with _ | ⟨b, y⟩
    · have := nz (a :: x) (by simp) ld
      rw [lexc, cmpZ_gt (by simp only [dval_nil, Nat.zero_mul, List.length_nil, Nat.pow_zero, Nat.mul_one]; omega)]
    · have hx := dval_lt x fun d h => hd d (by simp [h])
      have hy := dval_lt y fun d h => he d (by simp [h])
      have last : ∀ (c : Nat) (z : List Nat), (c :: z).reverse.head? ≠ some 0 → z.reverse.head? ≠ some 0 := by
        intro c z h
        rcases hr : z.reverse with _ | ⟨u, v⟩
        · simp
        · rw [List.reverse_cons, hr] at h
          simpa using h
      have ih' := ih y (fun d h => hd d (by simp [h])) (fun d h => he d (by simp [h])) (last a x ld) (last b y le)
      have ea : dval (a :: x) * 10 ^ (b :: y).length = (dval x * 10 ^ y.length) * 10 + 10 ^ (x.length + y.length + 1) * a := by
        rw [dval_cons, List.length_cons, Nat.add_mul, Nat.pow_succ, Nat.pow_succ, Nat.pow_add]
        simp only [Nat.mul_assoc, Nat.mul_comm, Nat.mul_left_comm]
      have eb : dval (b :: y) * 10 ^ (a :: x).length = (dval y * 10 ^ x.length) * 10 + 10 ^ (x.length + y.length + 1) * b := by
        rw [dval_cons, List.length_cons, Nat.add_mul, Nat.pow_succ, Nat.pow_succ, Nat.pow_add]
        simp only [Nat.mul_assoc, Nat.mul_comm, Nat.mul_left_comm]
      have k1 : dval x * 10 ^ y.length * 10 < 10 ^ (x.length + y.length + 1) := by
        rw [Nat.pow_succ, Nat.pow_add]
        exact Nat.mul_lt_mul_of_pos_right (Nat.mul_lt_mul_of_pos_right hx (pow_pos10 _)) (by omega)
      have k2 : dval y * 10 ^ x.length * 10 < 10 ^ (x.length + y.length + 1) := by
        rw [Nat.pow_succ, Nat.pow_add, Nat.mul_comm (10 ^ x.length)]
        exact Nat.mul_lt_mul_of_pos_right (Nat.mul_lt_mul_of_pos_right hy (pow_pos10 _)) (by omega)
      rw [ea, eb, lexc]
      generalize 10 ^ (x.length + y.length + 1) = P at *
      rcases Nat.lt_trichotomy a b with h | h | h
      · have h3 : P * (a + 1) ≤ P * b := Nat.mul_le_mul_left _ h
        rw [Nat.mul_add] at h3
        rw [if_pos h, cmpZ_lt (by omega)]
      · subst h
        rw [if_neg (by omega), if_neg (by omega), ih']
        exact cmpZ_iff (by omega) (by omega)
      · have h3 : P * (b + 1) ≤ P * a := Nat.mul_le_mul_left _ h
        rw [Nat.mul_add] at h3
        rw [if_neg (by omega), if_pos h, cmpZ_gt (by omega)]
theorem decs_last {q : Nat} (h : q % 10 ≠ 0) : (decs q).reverse.head? ≠ some 0 := by
  rw [decs_snoc (show q ≠ 0 by omega)]
  simp
  exact h
/-- What the order of two is without their signs, when they are as they should be. -/
def sizeC (a : Nat) (ea : Int) (b : Nat) (eb : Int) : Int :=
  if dtop a ea = dtop b eb then lexc (decs (nq a)) (decs (nq b)) else cmpZ (dtop a ea) (dtop b eb)
theorem sizeC_eq {a b : Nat} (ha : a ≠ 0) (hb : b ≠ 0) (ea eb : Int) : sizeC a ea b eb = cmpV false a ea false b eb := by
  obtain ⟨m, hm⟩ : ∃ m, m = min ea eb := ⟨_, rfl⟩
  rw [cmpV_at false a ea false b eb m (by omega) (by omega)]
  obtain ⟨i, hi⟩ : ∃ i, i = (ea - m).toNat := ⟨_, rfl⟩
  obtain ⟨j, hj⟩ : ∃ j, j = (eb - m).toNat := ⟨_, rfl⟩
  rw [← hi, ← hj]
  have ga := decs_ge ha
  have gb := decs_ge hb
  have la := lt_pow_decs a
  have lb := lt_pow_decs b
  have pa := decs_pos ha
  have pb := decs_pos hb
  have ta : dtop a ea = m + i + (decs a).length - 1 := by rw [dtop, if_neg ha]; omega
  have tb : dtop b eb = m + j + (decs b).length - 1 := by rw [dtop, if_neg hb]; omega
  simp only [sv, if_false, Bool.false_eq_true]
  have key : ∀ (x y u v k l : Nat), x < 10 ^ k → 10 ^ (l - 1) ≤ y → 0 < l → k + u < l + v → x * 10 ^ u < y * 10 ^ v := by
    intro x y u v k l h1 h2 h3 h4
    have e1 : x * 10 ^ u < 10 ^ k * 10 ^ u := Nat.mul_lt_mul_of_pos_right h1 (pow_pos10 u)
    have e2 : 10 ^ (l - 1) * 10 ^ v ≤ y * 10 ^ v := Nat.mul_le_mul_right _ h2
    have e3 : 10 ^ k * 10 ^ u ≤ 10 ^ (l - 1) * 10 ^ v := by
      rw [← Nat.pow_add, ← Nat.pow_add]
      exact Nat.pow_le_pow_right (by omega) (by omega)
    omega
  unfold sizeC
  by_cases ht : dtop a ea = dtop b eb
  · rw [if_pos ht]
    have qa := nq_spec a
    have qb := nq_spec b
    have wa := decs_len_tz ha
    have wb := decs_len_tz hb
    rw [lexc_val _ _ (decs_lt _) (decs_lt _) (decs_last (qa.2 ha)) (decs_last (qb.2 hb)), dval_decs, dval_decs]
    have s1 := cmpZ_mul ((nq a * 10 ^ (decs (nq b)).length : Nat) : Int) ((nq b * 10 ^ (decs (nq a)).length : Nat) : Int) (10 ^ (tz10 a + i + (decs (nq a)).length)) (pow_pos10 _)
    have s2 := cmpZ_mul ((a * 10 ^ i : Nat) : Int) ((b * 10 ^ j : Nat) : Int) (10 ^ ((decs (nq a)).length + (decs (nq b)).length)) (pow_pos10 _)
    rw [← s1, ← s2]
    have f1 : nq a * 10 ^ (decs (nq b)).length * 10 ^ (tz10 a + i + (decs (nq a)).length) = a * 10 ^ i * 10 ^ ((decs (nq a)).length + (decs (nq b)).length) := by
      rw [show a * 10 ^ i = nq a * 10 ^ tz10 a * 10 ^ i by rw [qa.1]]
      simp only [Nat.pow_add, Nat.mul_assoc, Nat.mul_comm, Nat.mul_left_comm]
    have f2 : nq b * 10 ^ (decs (nq a)).length * 10 ^ (tz10 a + i + (decs (nq a)).length) = b * 10 ^ j * 10 ^ ((decs (nq a)).length + (decs (nq b)).length) := by
      rw [show tz10 a + i + (decs (nq a)).length = tz10 b + j + (decs (nq b)).length by omega]
      rw [show b * 10 ^ j = nq b * 10 ^ tz10 b * 10 ^ j by rw [qb.1]]
      simp only [Nat.pow_add, Nat.mul_assoc, Nat.mul_comm, Nat.mul_left_comm]
    rw [← Int.natCast_mul, ← Int.natCast_mul, ← Int.natCast_mul, ← Int.natCast_mul, f1, f2]
  · rw [if_neg ht]
    rcases Int.lt_or_gt_of_ne ht with h | h
    · have := key a b i j _ _ la gb pb (by omega)
      rw [cmpZ_lt h, cmpZ_lt (by omega)]
    · have := key b a j i _ _ lb ga pa (by omega)
      rw [cmpZ_gt h, cmpZ_gt (by omega)]
/-- What Cmp answers. -/
def cmpD (na : Bool) (a : Nat) (ea : Int) (nb : Bool) (b : Nat) (eb : Int) : Int :=
  if sgn na a = sgn nb b then sgn na a * sizeC a ea b eb else cmpZ (sgn na a) (sgn nb b)
theorem cmpD_eq (na : Bool) (a : Nat) (ea : Int) (nb : Bool) (b : Nat) (eb : Int) : cmpD na a ea nb b eb = cmpV na a ea nb b eb := by
  unfold cmpD
  by_cases ha : a = 0
  · subst ha
    rw [sgn_zero]
    by_cases hb : b = 0
    · subst hb; simp [sgn_zero, cmpV, sv, cmpZ]
    · have hp := mul_pow_pos (k := (eb - min ea eb).toNat) hb
      rw [sgn_of hb, cmpV, Nat.zero_mul, sv_zero]
      generalize b * 10 ^ (eb - min ea eb).toNat = Y at *
      cases nb
      · rw [if_neg (by simp), cmpZ_lt (by simp), cmpZ_lt (by simp only [sv, Bool.false_eq_true, if_false]; omega)]
      · rw [if_neg (by simp), cmpZ_gt (by simp), cmpZ_gt (by simp only [sv, if_true]; omega)]
  · by_cases hb : b = 0
    · subst hb
      have hp := mul_pow_pos (k := (ea - min ea eb).toNat) ha
      rw [sgn_zero, sgn_of ha, cmpV, Nat.zero_mul, sv_zero]
      generalize a * 10 ^ (ea - min ea eb).toNat = X at *
      cases na
      · rw [if_neg (by simp), cmpZ_gt (by simp), cmpZ_gt (by simp only [sv, Bool.false_eq_true, if_false]; omega)]
      · rw [if_neg (by simp), cmpZ_lt (by simp), cmpZ_lt (by simp only [sv, if_true]; omega)]
    · have h1 := mul_pow_pos (k := (ea - min ea eb).toNat) ha
      have h2 := mul_pow_pos (k := (eb - min ea eb).toNat) hb
      rw [sgn_of ha, sgn_of hb, sizeC_eq ha hb, cmpV, cmpV]
      generalize a * 10 ^ (ea - min ea eb).toNat = X at *
      generalize b * 10 ^ (eb - min ea eb).toNat = Y at *
      cases na <;> cases nb
      · rw [if_pos rfl]; simp
      · rw [if_neg (by simp), cmpZ_gt (by simp), cmpZ_gt (by simp only [sv, Bool.false_eq_true, if_false, if_true]; omega)]
      · rw [if_neg (by simp), cmpZ_lt (by simp), cmpZ_lt (by simp only [sv, Bool.false_eq_true, if_false, if_true]; omega)]
      · rw [if_pos rfl]
        simp only [sv, if_true, if_false, Bool.false_eq_true]
        rw [cmpZ_neg, cmpZ_turn]
        omega
/-- One value and one sign: one decimal, as it should be. -/
theorem norm_unique {p q i j : Nat} (hp : p % 10 ≠ 0) (hq : q % 10 ≠ 0) (h : p * 10 ^ i = q * 10 ^ j) : p = q ∧ i = j := by
  have half : ∀ {p q i j : Nat}, p % 10 ≠ 0 → p * 10 ^ i = q * 10 ^ j → ¬ i < j := by
    intro p q i j hp h hij
    obtain ⟨k, rfl⟩ : ∃ k, j = i + (k + 1) := ⟨j - i - 1, by omega⟩
    rw [Nat.pow_add, Nat.mul_comm (10 ^ i), ← Nat.mul_assoc] at h
    have := Nat.eq_of_mul_eq_mul_right (pow_pos10 i) h
    rw [Nat.pow_succ, ← Nat.mul_assoc] at this
    omega
  have e : i = j := by
    have := half hp h
    have := half hq h.symm
    omega
  subst e
  exact ⟨Nat.eq_of_mul_eq_mul_right (pow_pos10 i) h, rfl⟩
theorem sv_inj {n : Bool} {a b : Nat} (h : sv n a = sv n b) : a = b := by cases n <;> simp [sv] at h <;> omega
theorem cmpV_zero_iff {n : Bool} {a b : Nat} {ea eb : Int} : cmpV n a ea n b eb = 0 ↔ nq a = nq b ∧ nexp a ea = nexp b eb := by
  obtain ⟨m, hm⟩ : ∃ m, m = min ea eb := ⟨_, rfl⟩
  rw [cmpV_at n a ea n b eb m (by omega) (by omega)]
  obtain ⟨i, hi⟩ : ∃ i, i = (ea - m).toNat := ⟨_, rfl⟩
  obtain ⟨j, hj⟩ : ∃ j, j = (eb - m).toNat := ⟨_, rfl⟩
  rw [← hi, ← hj]
  have e0 : cmpZ (sv n (a * 10 ^ i)) (sv n (b * 10 ^ j)) = 0 ↔ a * 10 ^ i = b * 10 ^ j := by
    constructor
    · intro h
      rcases cmpZ_cases (sv n (a * 10 ^ i)) (sv n (b * 10 ^ j)) with h' | h' | h'
      · omega
      · exact sv_inj h'.1
      · omega
    · intro h; rw [h]; exact cmpZ_eq rfl
  rw [e0]
  by_cases ha : a = 0
  · subst ha
    rw [nq_zero, nexp, if_pos rfl]
    constructor
    · intro h
      have hb : b = 0 := by
        rcases Nat.eq_zero_or_pos b with hb | hb
        · exact hb
        · have := mul_pow_pos (k := j) (show b ≠ 0 by omega); omega
      subst hb
      simp [nq_zero, nexp]
    · rintro ⟨h1, -⟩
      have hb : b = 0 := by
        rcases Nat.eq_zero_or_pos b with hb | hb
        · exact hb
        · exact absurd h1.symm (nq_pos (by omega))
      subst hb; simp
  · by_cases hb : b = 0
    · subst hb
      rw [nq_zero]
      constructor
      · intro h; have := mul_pow_pos (k := i) ha; omega
      · rintro ⟨h1, -⟩; exact absurd h1 (nq_pos ha)
    · have qa := nq_spec a
      have qb := nq_spec b
      rw [nexp, nexp, if_neg ha, if_neg hb]
      have e1 : a * 10 ^ i = nq a * 10 ^ (tz10 a + i) := by rw [Nat.pow_add, ← Nat.mul_assoc, qa.1]
      have e2 : b * 10 ^ j = nq b * 10 ^ (tz10 b + j) := by rw [Nat.pow_add, ← Nat.mul_assoc, qb.1]
      rw [e1, e2]
      constructor
      · intro h
        have := norm_unique (qa.2 ha) (qb.2 hb) h
        exact ⟨this.1, by omega⟩
      · rintro ⟨h1, h2⟩
        rw [h1, show tz10 a + i = tz10 b + j by omega]
theorem nq_nq (n : Nat) : nq (nq n) = nq n := by
  by_cases h : n = 0
  · subst h; simp [nq_zero]
  · exact nq_none ((nq_spec n).2 h)
theorem nexp_nq (n : Nat) (e : Int) : nexp (nq n) (nexp n e) = nexp n e := by
  by_cases h : n = 0
  · subst h; simp [nq_zero, nexp]
  · have h1 := nq_pos h
    rw [nexp, if_neg h1, tz10_none ((nq_spec n).2 h)]; omega
/-- A decimal as it should be is worth as much. -/
theorem cmpV_norm (n : Bool) (a : Nat) (e : Int) : cmpV n a e n (nq a) (nexp a e) = 0 := by
  rw [cmpV_zero_iff, nq_nq, nexp_nq]; exact ⟨rfl, rfl⟩
end Go.Proofs.YtijalgngcbifgaaDoor
