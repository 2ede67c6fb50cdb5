/-
  Plain facts for layer 4: limbs as nine digits each, digits into limbs, powers of ten.
-/
import Derived.Test.YtpbkndmciopnjaaDoorDig
import Derived.Test.YtpbkndmciopnjaaDoorMulMath
import Derived.Test.YtpbkndmciopnjaaDoorDivMath
import Derived.Test.YtpbkndmciopnjaaDoorDivMath2
namespace Go.Proofs.YtpbkndmciopnjaaDoor

theorem dval_append (ds es : List Nat) : dval (ds ++ es) = dval ds * 10 ^ es.length + dval es := by
  simp only [dval, List.reverse_append, val_append, List.length_reverse]
  rw [Nat.mul_comm, Nat.add_comm]
theorem dval_nil : dval [] = 0 := rfl
/-- The first k of a limb's nine digits. -/
def nineK (x k : Nat) : List Nat := (List.range k).map fun i => x / 10 ^ (8 - i) % 10
theorem nineK_succ (x k : Nat) : nineK x (k + 1) = nineK x k ++ [x / 10 ^ (8 - k) % 10] := by simp [nineK, List.range_succ]
theorem nineK_length (x k : Nat) : (nineK x k).length = k := by simp [nineK]
theorem nineK_lt (x k : Nat) : ∀ d ∈ nineK x k, d < 10 := by
  intro d hd
  obtain ⟨i, _, rfl⟩ := List.mem_map.1 hd
  exact Nat.mod_lt _ (by omega)
theorem nineK_val (x k : Nat) (hx : x < 1000000000) (hk : k ≤ 9) : dval (nineK x k) = x / 10 ^ (9 - k) := by
  induction k with
  | zero => exact (Nat.div_eq_of_lt hx).symm
  | succ k ih =>
    have h9 : 9 - k = (8 - k) + 1 := by omega
    have h8 : 9 - (k + 1) = 8 - k := by omega
    rw [nineK_succ, dval_snoc, ih (by omega), h9, h8, Nat.pow_succ, ← Nat.div_div_eq_div_mul]
    have := Nat.mod_add_div (x / 10 ^ (8 - k)) 10
    omega
/-- The digits of limbs, in the order of their places. -/
def limbDs (ys is : List Nat) : List Nat := is.flatMap fun i => nineK (ys.getD i 0) 9
theorem limbDs_snoc (ys is : List Nat) (i : Nat) : limbDs ys (is ++ [i]) = limbDs ys is ++ nineK (ys.getD i 0) 9 := by simp [limbDs]
theorem limbDs_length (ys is : List Nat) : (limbDs ys is).length = 9 * is.length := by
  induction is with
  | nil => rfl
  | cons i r ih =>
    have e : limbDs ys (i :: r) = nineK (ys.getD i 0) 9 ++ limbDs ys r := by simp [limbDs]
    rw [e, List.length_append, nineK_length, ih, List.length_cons]
    omega
theorem limbDs_lt (ys is : List Nat) : ∀ d ∈ limbDs ys is, d < 10 := by
  intro d hd
  obtain ⟨i, _, h⟩ := List.mem_flatMap.1 hd
  exact nineK_lt _ _ d h
theorem limbDs_down (ys : List Nat) (n : Nat) (hl : ys.length = n) (h : ∀ x ∈ ys, x < 1000000000) (k : Nat) (hk : k ≤ n) : dval (limbDs ys (downTo n k)) = val 1000000000 (ys.drop (n - k)) := by
  induction k with
  | zero => rw [Nat.sub_zero, List.drop_eq_nil_of_le (by omega)]; rfl
  | succ k ih =>
    have hj : n - 1 - k < ys.length := by omega
    rw [downTo_succ, limbDs_snoc, dval_append, nineK_length, ih (by omega), nineK_val _ _ (getD_lt _ (by omega) ys h _) (by omega),
      show n - (k + 1) = n - 1 - k by omega, val_drop_succ hj, show n - 1 - k + 1 = n - k by omega]
    simp
theorem limbDs_all (ys : List Nat) (n : Nat) (hl : ys.length = n) (h : ∀ x ∈ ys, x < 1000000000) : dval (limbDs ys (downTo n n)) = val 1000000000 ys := by
  rw [limbDs_down ys n hl h n (Nat.le_refl _), Nat.sub_self, List.drop_zero]
/-- How many powers of ten a number reaches. -/
theorem pow_le_iff (x k : Nat) : 10 ^ k ≤ x ↔ k < (decs x).length := by
  constructor
  · intro h
    rcases Nat.lt_or_ge k (decs x).length with h' | h'
    · exact h'
    · have h1 := lt_pow_decs x
      have h2 : 10 ^ (decs x).length ≤ 10 ^ k := Nat.pow_le_pow_right (by omega) h'
      omega
  · intro h
    rcases Nat.lt_or_ge x (10 ^ k) with h' | h'
    · have := decs_len h'; omega
    · exact h'
theorem decs_len_shift (V x : Nat) (hV : V ≠ 0) (hx : x < 1000000000) : (decs (V * 1000000000 + x)).length = (decs V).length + 9 := by
  have hL : 0 < (decs V).length := by
    rcases Nat.eq_zero_or_pos (decs V).length with h | h
    · exact absurd ((decs_length_zero V).1 h) hV
    · exact h
  have h1 := lt_pow_decs V
  have h2 := (pow_le_iff V ((decs V).length - 1)).2 (by omega)
  generalize (decs V).length = L at *
  have h3 : (decs (V * 1000000000 + x)).length ≤ L + 9 := by
    apply decs_len
    have e : 10 ^ (L + 9) = 10 ^ L * 1000000000 := Nat.pow_add 10 L 9
    rw [e]
    generalize 10 ^ L = T at *
    omega
  have h4 : L + 8 < (decs (V * 1000000000 + x)).length := by
    have e : 10 ^ (L - 1 + 9) = 10 ^ (L - 1) * 1000000000 := Nat.pow_add 10 (L - 1) 9
    rw [← pow_le_iff, show L + 8 = (L - 1) + 9 by omega, e]
    generalize 10 ^ (L - 1) = T at *
    omega
  omega
/-- What a round of counting digits makes. -/
def lstep (ys : List Nat) (n i : Nat) : Nat := if n = 0 then (decs (ys.getD i 0)).length else n + 9
def lrun (ys is : List Nat) : Nat := is.foldl (lstep ys) 0
theorem lrun_snoc (ys is : List Nat) (i : Nat) : lrun ys (is ++ [i]) = lstep ys (lrun ys is) i := by simp [lrun]
theorem lrun_le (ys : List Nat) (h : ∀ x ∈ ys, x < 1000000000) (is : List Nat) : lrun ys is ≤ 9 * is.length := by
  have key : ∀ (is : List Nat) (n m : Nat), n ≤ m → is.foldl (lstep ys) n ≤ m + 9 * is.length := by
    intro is
    induction is with
    | nil => intro n m hn; simpa using hn
    | cons i r ih =>
      intro n m hn
      rw [List.foldl_cons]
      refine Nat.le_trans (ih _ (m + 9) ?_) (by simp only [List.length_cons]; omega)
      unfold lstep
      split
      · have : (decs (ys.getD i 0)).length ≤ 9 := decs_len (getD_lt 1000000000 (by omega) ys h i)
        omega
      · omega
  have := key is 0 0 (Nat.le_refl _)
  simpa [lrun] using this
theorem lrun_down (ys : List Nat) (n : Nat) (hl : ys.length = n) (h : ∀ x ∈ ys, x < 1000000000) (k : Nat) (hk : k ≤ n) : lrun ys (downTo n k) = (decs (val 1000000000 (ys.drop (n - k)))).length := by
  induction k with
  | zero => rw [Nat.sub_zero, List.drop_eq_nil_of_le (by omega)]; simp [downTo, lrun, val, decs_zero]
  | succ k ih =>
    have hj : n - 1 - k < ys.length := by omega
    rw [downTo_succ, lrun_snoc, ih (by omega), show n - (k + 1) = n - 1 - k by omega, val_drop_succ hj, show n - 1 - k + 1 = n - k by omega]
    unfold lstep
    have hx := getD_lt 1000000000 (by omega) ys h (n - 1 - k)
    by_cases hz : val 1000000000 (ys.drop (n - k)) = 0
    · rw [if_pos ((decs_length_zero _).2 hz), hz]; simp
    · rw [if_neg (fun h0 => hz ((decs_length_zero _).1 h0)), decs_len_shift _ _ hz hx]
theorem lrun_all (ys : List Nat) (n : Nat) (hl : ys.length = n) (h : ∀ x ∈ ys, x < 1000000000) : lrun ys (downTo n n) = (decs (val 1000000000 ys)).length := by
  rw [lrun_down ys n hl h n (Nat.le_refl _), Nat.sub_self, List.drop_zero]
/-- Digits in their places, the least first: the first k of ds, 0 else. -/
def placed (ds : List Nat) (k : Nat) : List Nat := List.replicate (ds.length - k) 0 ++ (ds.take k).reverse
theorem placed_length (ds : List Nat) (k : Nat) (hk : k ≤ ds.length) : (placed ds k).length = ds.length := by simp [placed]; omega
theorem placed_all (ds : List Nat) : placed ds ds.length = ds.reverse := by simp [placed]
theorem placed_succ (ds : List Nat) (k : Nat) (hk : k < ds.length) :
    placed ds (k + 1) = (placed ds k).set (ds.length - 1 - k) (ds.getD k 0) ∧ (placed ds k).getD (ds.length - 1 - k) 0 = 0 := by
  have e : ds.length - k = (ds.length - 1 - k) + 1 := by omega
  have e2 : ds.length - (k + 1) = ds.length - 1 - k := by omega
  unfold placed
  rw [e2, e]
  generalize ds.length - 1 - k = m
  rw [take_snoc_getD ds k hk, List.reverse_append, List.replicate_succ', List.append_assoc]
  constructor
  · rw [List.set_append_right _ _ (by simp)]
    simp
  · rw [List.getD, List.getElem?_append_right (by simp)]
    simp
/-- The nine digits at place 9q, as a limb. -/
def chunk (es : List Nat) (q : Nat) : Nat := val 10 ((es.drop (9 * q)).take 9)
def chunks (es : List Nat) (N : Nat) : List Nat := (List.range N).map (chunk es)
theorem chunks_length (es : List Nat) (N : Nat) : (chunks es N).length = N := by simp [chunks]
theorem chunks_getD (es : List Nat) (N q : Nat) (hq : q < N) : (chunks es N).getD q 0 = chunk es q := by
  simp [chunks, List.getD, hq]
theorem chunk_lt (es : List Nat) (h : ∀ d ∈ es, d < 10) (q : Nat) : chunk es q < 1000000000 := by
  have h1 := val_lt 10 ((es.drop (9 * q)).take 9) (fun d hd => h d (List.mem_of_mem_drop (List.mem_of_mem_take hd)))
  refine Nat.lt_of_lt_of_le h1 ?_
  exact Nat.pow_le_pow_right (n := 10) (j := 9) (by omega) (by rw [List.length_take]; omega)
theorem chunks_lt (es : List Nat) (h : ∀ d ∈ es, d < 10) (N : Nat) : ∀ x ∈ chunks es N, x < 1000000000 := by
  intro x hx
  obtain ⟨q, _, rfl⟩ := List.mem_map.1 hx
  exact chunk_lt es h q
theorem val_nil (b : Nat) : val b [] = 0 := rfl
theorem chunks_val (N : Nat) : ∀ es : List Nat, es.length ≤ 9 * N → val 1000000000 (chunks es N) = val 10 es := by
  induction N with
  | zero => intro es h; have : es = [] := List.eq_nil_of_length_eq_zero (by omega); subst this; rfl
  | succ N ih =>
    intro es h
    have e : chunks es (N + 1) = chunk es 0 :: chunks (es.drop 9) N := by
      simp only [chunks, List.range_succ_eq_map, List.map_cons, List.map_map]
      congr 1
      refine List.map_congr_left fun q _ => ?_
      simp only [Function.comp, chunk, List.drop_drop]
      rw [show 9 * Nat.succ q = 9 + 9 * q by omega]
    rw [e, val, ih (es.drop 9) (by rw [List.length_drop]; omega)]
    have e2 := val_append 10 (es.take 9) (es.drop 9)
    rw [List.take_append_drop] at e2
    have e3 : chunk es 0 = val 10 (es.take 9) := by simp [chunk]
    rw [e2, e3]
    rcases Nat.le_total 9 es.length with h9 | h9
    · rw [List.length_take, Nat.min_eq_left h9]
    · rw [List.drop_eq_nil_of_le h9, val_nil]; simp
theorem chunk_set (es : List Nat) (p d : Nat) (hp : p < es.length) (h0 : es.getD p 0 = 0) (q : Nat) :
    chunk (es.set p d) q = if q = p / 9 then chunk es q + 10 ^ (p % 9) * d else chunk es q := by
  unfold chunk
  by_cases hlt : p < 9 * q
  · rw [if_neg (by omega), List.drop_set_of_lt hlt]
  · rw [List.drop_set, if_neg hlt, List.take_set]
    by_cases hq : q = p / 9
    · rw [if_pos hq]
      have hm : p - 9 * q = p % 9 := by omega
      rw [hm]
      have hl : p % 9 < ((es.drop (9 * q)).take 9).length := by simp; omega
      have hv := val_set 10 ((es.drop (9 * q)).take 9) (p % 9) d hl
      have hz : ((es.drop (9 * q)).take 9).getD (p % 9) 0 = 0 := by
        rw [List.getD, List.getElem?_take, if_pos (by omega), List.getElem?_drop, show 9 * q + p % 9 = p by omega]
        exact h0
      rw [hz, Nat.mul_zero, Nat.add_zero] at hv
      exact hv
    · rw [if_neg hq, List.set_eq_of_length_le (by simp; omega)]
theorem chunks_set (es : List Nat) (p d N : Nat) (hp : p < es.length) (h0 : es.getD p 0 = 0) :
    chunks (es.set p d) N = (chunks es N).set (p / 9) (chunk es (p / 9) + 10 ^ (p % 9) * d) := by
  apply List.ext_getElem
  · simp [chunks]
  · intro q h1 h2
    simp only [chunks, List.getElem_map, List.getElem_range, List.getElem_set]
    rw [chunk_set es p d hp h0 q]
    by_cases hq : q = p / 9
    · rw [if_pos hq, if_pos hq.symm, hq]
    · rw [if_neg hq, if_neg (fun h => hq h.symm)]
theorem chunks_zero (n N : Nat) : chunks (List.replicate n 0) N = List.replicate N 0 := by
  rw [List.eq_replicate_iff]
  refine ⟨chunks_length _ _, fun x hx => ?_⟩
  obtain ⟨q, _, rfl⟩ := List.mem_map.1 hx
  simp only [chunk, List.drop_replicate, List.take_replicate]
  exact val_replicate 10 _
theorem placed_zero (ds : List Nat) : placed ds 0 = List.replicate ds.length 0 := by simp [placed]
theorem placed_lt (ds : List Nat) (k : Nat) (h : ∀ j, j < k → ds.getD j 0 < 10) : ∀ d ∈ placed ds k, d < 10 := by
  intro d hd
  rcases List.mem_append.1 hd with hd | hd
  · rw [List.eq_of_mem_replicate hd]; omega
  · obtain ⟨j, hj, rfl⟩ := List.mem_iff_getElem.1 (List.mem_reverse.1 hd)
    have hj' : j < k ∧ j < ds.length := by rw [List.length_take] at hj; omega
    have := h j hj'.1
    rw [List.getD, List.getElem?_eq_getElem hj'.2] at this
    simpa using this
/-- Powers of ten. -/
theorem pow_split (k : Nat) : 10 ^ k = 1000000000 ^ (k / 9) * 10 ^ (k % 9) := by
  rw [show (1000000000 : Nat) = 10 ^ 9 from rfl, ← Nat.pow_mul, ← Nat.pow_add, Nat.div_add_mod]
theorem pow_lt9 (k : Nat) (h : k < 9) : 10 ^ k < 1000000000 := Nat.pow_lt_pow_right (m := k) (n := 9) (by omega) h
theorem pow_pos10 (k : Nat) : 0 < 10 ^ k := Nat.pow_pos (by omega)
theorem shift_val (V k : Nat) : val 1000000000 (List.replicate (k / 9) 0 ++ digs 1000000000 (V * 10 ^ (k % 9) + 0)) = V * 10 ^ k := by
  rw [val_append, val_replicate, val_digs _ (by omega), List.length_replicate, pow_split k, Nat.add_zero, Nat.zero_add, Nat.mul_left_comm]
theorem cut_q (V k : Nat) : V / 1000000000 ^ (k / 9) / 10 ^ (k % 9) = V / 10 ^ k := by rw [Nat.div_div_eq_div_mul, ← pow_split]
theorem cut_r {xs : List Nat} (h : ∀ x ∈ xs, x < 1000000000) (k : Nat) (hk : k / 9 < xs.length) :
    val 1000000000 (xs.take (k / 9) ++ [val 1000000000 (xs.drop (k / 9)) % 10 ^ (k % 9)]) = val 1000000000 xs % 10 ^ k := by
  have hl : (xs.take (k / 9)).length = k / 9 := by rw [List.length_take]; omega
  have h1 : val 1000000000 (xs.take (k / 9)) = val 1000000000 xs % 1000000000 ^ (k / 9) := by
    have e := val_append 1000000000 (xs.take (k / 9)) (xs.drop (k / 9))
    rw [List.take_append_drop, hl] at e
    rw [e, Nat.add_mul_mod_self_left]
    refine (Nat.mod_eq_of_lt ?_).symm
    have := val_lt 1000000000 (xs.take (k / 9)) (fun x hx => h x (List.mem_of_mem_take hx))
    rwa [hl] at this
  rw [val_append, hl, h1, val_drop h, pow_split k, Nat.mod_mul]
  simp [val]
theorem cut_big {xs : List Nat} (h : ∀ x ∈ xs, x < 1000000000) (k : Nat) (hk : xs.length ≤ k / 9) : val 1000000000 xs < 10 ^ k := by
  refine Nat.lt_of_lt_of_le (limbs_lt h (Nat.le_refl _)) (Nat.pow_le_pow_right (by omega) (by omega))
end Go.Proofs.YtpbkndmciopnjaaDoor
