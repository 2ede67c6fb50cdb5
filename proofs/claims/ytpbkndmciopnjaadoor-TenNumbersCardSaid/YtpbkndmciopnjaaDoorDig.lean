/-
  Digits as text, plainly: the greatest digit first.
-/
import Derived.Test.YtpbkndmciopnjaaDoorBase
import Derived.Test.YtpbkndmciopnjaaDoorMath
namespace Go.Proofs.YtpbkndmciopnjaaDoor

/-- The text s is the digits ds. -/
def IsD (s : ByteArray) (ds : List Nat) : Prop := s.data.toList.map UInt8.toNat = ds.map (fun d => 48 + d) ∧ ∀ d ∈ ds, d < 10

/-- The value of digits, the greatest first; a number's digits, the greatest first. -/
def dval (ds : List Nat) : Nat := val 10 ds.reverse
def decs (n : Nat) : List Nat := (digs 10 n).reverse

section
variable {s t : ByteArray} {ds es : List Nat}
theorem IsD.size (h : IsD s ds) : s.size = ds.length := by
  have := congrArg List.length h.1
  simp only [List.length_map, Array.length_toList] at this
  exact this
theorem IsD.at_ (h : IsD s ds) {k : Nat} (hk : k < s.size) : s[k].toNat = 48 + ds.getD k 0 := by
  have hd : k < ds.length := by rw [← h.size]; exact hk
  have h1 := congrArg (fun l => l[k]?) h.1
  simp only [List.getElem?_map] at h1
  rw [List.getElem?_eq_getElem (by rw [Array.length_toList]; exact hk), List.getElem?_eq_getElem hd] at h1
  simp at h1
  rw [List.getD, List.getElem?_eq_getElem hd]
  simp
  rw [← h1]
  rfl
theorem IsD.list (h : IsD s ds) : s.toList.map UInt8.toNat = ds.map (fun d => 48 + d) := by rw [ByteArray.toList_eq]; exact h.1
theorem IsD.nil : IsD ⟨#[]⟩ [] := ⟨rfl, by simp⟩
theorem IsD.append (h : IsD s ds) (h' : IsD t es) : IsD (s ++ t) (ds ++ es) := by
  refine ⟨?_, fun d hd => ?_⟩
  · have e : (s ++ t).data.toList = s.data.toList ++ t.data.toList := by simp [ByteArray.data_append]
    rw [e, List.map_append, List.map_append, h.1, h'.1]
  · rcases List.mem_append.1 hd with hd | hd
    · exact h.2 d hd
    · exact h'.2 d hd
theorem IsD.of_list {l : List UInt8} (h : l.map UInt8.toNat = ds.map (fun d => 48 + d)) (hd : ∀ d ∈ ds, d < 10) : IsD ⟨l.toArray⟩ ds := ⟨h, hd⟩
theorem IsD.ext (h : IsD s ds) (h' : IsD t ds) : s = t := by
  have e : s.data.toList.map UInt8.toNat = t.data.toList.map UInt8.toNat := h.1.trans h'.1.symm
  have e2 : s.data.toList = t.data.toList := by
    refine List.map_inj_right (fun a b hab => ?_) |>.1 e
    exact UInt8.toNat_inj.1 hab
  cases s; cases t
  simp at e2
  rw [e2]
theorem IsD.inj (h : IsD s ds) (h' : IsD s es) : ds = es := by
  have e : ds.map (fun d => 48 + d) = es.map (fun d => 48 + d) := h.1.symm.trans h'.1
  exact (List.map_inj_right (fun a b hab => by omega)).1 e
theorem IsD.cut (h : IsD s ds) (i j : Nat) : IsD (s.extract i j) ((ds.take j).drop i) := by
  refine ⟨?_, fun d hd => h.2 d (List.mem_of_mem_take (List.mem_of_mem_drop hd))⟩
  have e : (s.extract i j).data.toList = (s.data.toList.take j).drop i := by
    simp [ByteArray.data_extract, Array.toList_extract, List.drop_take]
  rw [e, List.map_drop, List.map_take, h.1, List.map_drop, List.map_take]
end

theorem IsD.byte {v : Int} {d : Nat} (h : v = 48 + (d : Int)) (hd : d < 10) : IsD (byteStr v) [d] := by
  refine ⟨?_, by simpa using hd⟩
  have e : (UInt8.ofNat v.toNat).toNat = 48 + d := by rw [UInt8.toNat_ofNat']; omega
  simp only [byteStr, List.map_cons, List.map_nil, e]
def stripZ (ds : List Nat) : List Nat := ds.dropWhile (· == 0)
theorem stripZ_eq (ds : List Nat) (h : ∀ d ∈ ds, d < 10) : stripZ ds = decs (dval ds) := by
  induction ds with
  | nil => simp [stripZ, decs, dval, val, digs_zero]
  | cons d r ih =>
    by_cases hd : d = 0
    · subst hd
      have h1 : dval (0 :: r) = dval r := by simp [dval, val_append, val]
      rw [h1, ← ih fun x hx => h x (by simp [hx])]
      simp [stripZ]
    · have h1 : stripZ (d :: r) = d :: r := by simp [stripZ, hd]
      rw [h1]
      have hall : ∀ x ∈ (d :: r).reverse, x < 10 := fun x hx => h x (List.mem_reverse.1 hx)
      have h2 := trim_eq_digs 10 (by omega) _ hall
      have h3 : tz (d :: r).reverse = (d :: r).reverse.length := by
        apply tz_eq
        · intro j hj
          rw [List.getD, List.getElem?_eq_none hj]; rfl
        · intro _
          simpa [List.getD] using hd
      rw [trim, h3, List.take_length] at h2
      rw [decs, dval, ← h2, List.reverse_reverse]
theorem dval_decs (n : Nat) : dval (decs n) = n := by simp [dval, decs, val_digs 10 (by omega)]
theorem decs_lt (n : Nat) : ∀ d ∈ decs n, d < 10 := fun d hd => digs_lt 10 (by omega) n d (List.mem_reverse.1 hd)
theorem decs_dval_length (ds : List Nat) (h : ∀ d ∈ ds, d < 10) : (decs (dval ds)).length ≤ ds.length := by
  rw [← stripZ_eq ds h]; exact (List.dropWhile_sublist _).length_le
theorem stripZ_drop (ds : List Nat) (k : Nat) (h : ∀ j, j < k → ds.getD j 0 = 0) (hk : k < ds.length → ds.getD k 0 ≠ 0) : stripZ ds = ds.drop k := by
  induction k generalizing ds with
  | zero =>
    cases ds with
    | nil => rfl
    | cons d r =>
      have : d ≠ 0 := by simpa [List.getD] using hk (by simp)
      simp [stripZ, this]
  | succ k ih =>
    cases ds with
    | nil => rfl
    | cons d r =>
      have h0 : d = 0 := by simpa [List.getD] using h 0 (by omega)
      subst h0
      have := ih r (fun j hj => by simpa [List.getD] using h (j + 1) (by omega)) (fun hj => by simpa [List.getD] using hk (by simpa using hj))
      simpa [stripZ] using this
theorem dval_cons (d : Nat) (r : List Nat) : dval (d :: r) = dval r + 10 ^ r.length * d := by simp [dval, val_append, val]
theorem dval_lt (ds : List Nat) (h : ∀ d ∈ ds, d < 10) : dval ds < 10 ^ ds.length := by
  have := val_lt 10 ds.reverse fun x hx => h x (List.mem_reverse.1 hx)
  simpa [dval] using this
theorem bytesLess_digits (l m : List UInt8) (ds es : List Nat) (hl : l.map UInt8.toNat = ds.map (fun d => 48 + d)) (hm : m.map UInt8.toNat = es.map (fun d => 48 + d))
    (hd : ∀ d ∈ ds, d < 10) (he : ∀ d ∈ es, d < 10) (hlen : ds.length = es.length) : Op.bytesLess l m = decide (dval ds < dval es) := by
  induction ds generalizing l m es with
  | nil =>
    obtain rfl : es = [] := List.eq_nil_of_length_eq_zero (by simpa using hlen.symm)
    obtain rfl : m = [] := by simpa using hm
    cases l <;> simp [Op.bytesLess]
  | cons d r ih =>
    rcases es with _ | ⟨e, q⟩
    · simp at hlen
    rcases l with _ | ⟨a, l⟩
    · simp at hl
    rcases m with _ | ⟨b, m⟩
    · simp at hm
    simp only [List.map_cons, List.cons.injEq] at hl hm
    simp only [List.length_cons, Nat.add_right_cancel_iff] at hlen
    have ih' := ih l m q hl.2 hm.2 (fun x hx => hd x (by simp [hx])) (fun x hx => he x (by simp [hx])) hlen
    have h1 := dval_lt r (fun x hx => hd x (by simp [hx]))
    have h2 := dval_lt q (fun x hx => he x (by simp [hx]))
    simp only [Op.bytesLess, dval_cons, ih']
    rw [hlen] at h1 ⊢
    have ea : (a < b) ↔ d < e := by rw [UInt8.lt_iff_toNat_lt, hl.1, hm.1]; omega
    have eb : (a == b) = decide (d = e) := by
      rw [Bool.eq_iff_iff]
      simp only [beq_iff_eq, decide_eq_true_eq]
      rw [← UInt8.toNat_inj, hl.1, hm.1]; omega
    rw [eb]
    rcases Nat.lt_trichotomy d e with h | h | h
    · have h3 : 10 ^ q.length * (d + 1) ≤ 10 ^ q.length * e := Nat.mul_le_mul_left _ h
      rw [Nat.mul_add] at h3
      have : dval r + 10 ^ q.length * d < dval q + 10 ^ q.length * e := by omega
      simp [ea.2 h, this]
    · subst h
      have : ¬ a < b := fun hh => by have := ea.1 hh; omega
      simp [this]
    · have h3 : 10 ^ q.length * (e + 1) ≤ 10 ^ q.length * d := Nat.mul_le_mul_left _ h
      rw [Nat.mul_add] at h3
      have h4 : ¬ dval r + 10 ^ q.length * d < dval q + 10 ^ q.length * e := by omega
      have h5 : ¬ a < b := fun hh => by have := ea.1 hh; omega
      have h6 : ¬ d = e := by omega
      simp [h4, h5, h6]
theorem digs_drop (b : Nat) (hb : 2 ≤ b) (n k : Nat) : (digs b n).drop k = digs b (n / b ^ k) := by
  induction k generalizing n with
  | zero => simp
  | succ k ih =>
    by_cases hn : n = 0
    · subst hn; simp [digs_zero]
    · rw [digs_pos hb hn, List.drop_succ_cons, ih, Nat.div_div_eq_div_mul, Nat.pow_succ, Nat.mul_comm b]
theorem val_digs_take (b : Nat) (hb : 2 ≤ b) (n k : Nat) : val b ((digs b n).take k) = n % b ^ k := by
  induction k generalizing n with
  | zero => simp [val, Nat.mod_one]
  | succ k ih =>
    by_cases hn : n = 0
    · subst hn; simp [digs_zero, val]
    · rw [digs_pos hb hn, List.take_succ_cons]
      simp only [val, ih]
      rw [Nat.pow_succ, Nat.mul_comm (b ^ k) b, Nat.mod_mul]
theorem decs_take (n : Nat) (k : Nat) : (decs n).take ((decs n).length - k) = decs (n / 10 ^ k) := by
  rw [decs, List.take_reverse, List.length_reverse, decs, ← digs_drop 10 (by omega) n k]
  rcases Nat.le_total k (digs 10 n).length with h | h
  · rw [Nat.sub_sub_self h]
  · rw [Nat.sub_eq_zero_of_le h, Nat.sub_zero, List.drop_eq_nil_of_le (Nat.le_refl _), List.drop_eq_nil_of_le h]
theorem decs_drop (n : Nat) (k : Nat) : dval ((decs n).drop ((decs n).length - k)) = n % 10 ^ k := by
  rw [decs, List.drop_reverse, List.length_reverse, dval, List.reverse_reverse, ← val_digs_take 10 (by omega) n k]
  rcases Nat.le_total k (digs 10 n).length with h | h
  · rw [Nat.sub_sub_self h]
  · rw [Nat.sub_eq_zero_of_le h, Nat.sub_zero, List.take_of_length_le (Nat.le_refl _), List.take_of_length_le h]
theorem dval_snoc (ds : List Nat) (d : Nat) : dval (ds ++ [d]) = dval ds * 10 + d := by
  simp only [dval, List.reverse_append, List.reverse_cons, List.reverse_nil, List.nil_append, List.singleton_append, val]
  omega
theorem take_snoc_getD (ds : List Nat) (k : Nat) (h : k < ds.length) : ds.take (k + 1) = ds.take k ++ [ds.getD k 0] := by
  rw [List.take_succ_eq_append_getElem h]
  simp [List.getD, List.getElem?_eq_getElem h]
theorem decs_zero : decs 0 = [] := by simp [decs, digs_zero]
theorem decs_length_zero (n : Nat) : (decs n).length = 0 ↔ n = 0 := by
  rw [decs, List.length_reverse]; exact digs_length_zero 10 (by omega) n
theorem decs_length_lt {a b : Nat} (h : (decs a).length < (decs b).length) : a < b := by
  simp only [decs, List.length_reverse] at h
  have := val_lt_of_tz 10 (by omega) (digs 10 a) (digs 10 b) (digs_lt 10 (by omega) a) (by rw [tz_digs 10 (by omega), tz_digs 10 (by omega)]; exact h)
  rwa [val_digs 10 (by omega), val_digs 10 (by omega)] at this
theorem decs_len {n k : Nat} (h : n < 10 ^ k) : (decs n).length ≤ k := by
  have h1 := digs_drop 10 (by omega) n k
  rw [Nat.div_eq_of_lt h, digs_zero] at h1
  have h2 := congrArg List.length h1
  rw [List.length_drop, List.length_nil] at h2
  rw [decs, List.length_reverse]
  omega
theorem lt_pow_decs (n : Nat) : n < 10 ^ (decs n).length := by
  have h := dval_lt (decs n) (decs_lt n)
  rwa [dval_decs] at h
theorem limbs_lt {xs : List Nat} (h : ∀ x ∈ xs, x < 1000000000) {m : Nat} (hm : xs.length ≤ m) : val 1000000000 xs < 10 ^ (9 * m) := by
  have h1 := val_lt 1000000000 xs h
  rw [show (1000000000 : Nat) = 10 ^ 9 from rfl, ← Nat.pow_mul] at h1
  exact Nat.lt_of_lt_of_le h1 (Nat.pow_le_pow_right (by omega) (by omega))
theorem limbs_len {xs : List Nat} (h : ∀ x ∈ xs, x < 1000000000) {m : Nat} (hm : xs.length ≤ m) : (decs (val 1000000000 xs)).length ≤ 9 * m := decs_len (limbs_lt h hm)
theorem sum_lt {a b k : Nat} (ha : a < 10 ^ k) (hb : b < 10 ^ k) : a + b < 10 ^ (k + 1) := by
  rw [Nat.pow_succ]; omega
theorem decs_length_le {a b : Nat} (h : b ≤ a) : (decs b).length ≤ (decs a).length := decs_len (Nat.lt_of_le_of_lt h (lt_pow_decs a))
theorem digs_len9 {n k : Nat} (h : n < 10 ^ k) : (digs 1000000000 n).length ≤ k := by
  have h0 : n < 1000000000 ^ k := Nat.lt_of_lt_of_le h (Nat.pow_le_pow_left (by omega) k)
  have h1 := digs_drop 1000000000 (by omega) n k
  rw [Nat.div_eq_of_lt h0, digs_zero] at h1
  have h2 := congrArg List.length h1
  rw [List.length_drop, List.length_nil] at h2
  omega
end Go.Proofs.YtpbkndmciopnjaaDoor
