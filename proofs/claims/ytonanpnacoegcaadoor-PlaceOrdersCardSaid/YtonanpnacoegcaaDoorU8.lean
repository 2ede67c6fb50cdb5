/-
  U8: layer 8's contracts for decimals counted in small steps.
-/
import Derived.Test.YtonanpnacoegcaaDoorGd8
import Derived.Test.YtonanpnacoegcaaDoorAn8
import Derived.Test.YtonanpnacoegcaaDoorRf8D
set_option maxRecDepth 100000
namespace Go.Proofs.YtonanpnacoegcaaDoor
open Go.RowKit
theorem DU.len_of {k : Int} {s : ByteArray} {e : Int} {X N : Nat} (h : DU k s e X) (hX : N * 10 ^ (e - k).toNat = X) : (decs N).length ≤ 4900 := by
  have h1 := decs_length_le (show N ≤ X by rw [← hX]; exact Nat.le_mul_of_pos_right _ (pow_pos10 _))
  have := h.len
  omega
theorem placeRound_u {m : Int} {n : Bool} {s : ByteArray} {e k p : Int} {X W : Nat} {v : Value} {w : World} (hm : isWay m = true) (h : DU k s e X) (hkp : k ≤ p) (hp : p ≤ 15000) (hW : 10 ^ (p - k).toNat = W) (hv : rndV m n X W k = v) (hP : Pw w) :
    Calls Tryd.prog 11 #[.int .i64 m, .agg #[.bool n, .string s, .int .i64 e], .int .i64 p] w fun r w' => r = .returned v ∧ Below w.heap.size w w' := by
  obtain ⟨N, hd, hX, -, -⟩ := h.norm
  have hl := h.len_of hX
  have := h.lo
  subst hv
  exact placeRound_c 20000 m n s e N X W k p w hm hd h.le hkp hX hW (by omega) (by omega) (by omega) (by omega) hP
theorem placeFits_u {n : Bool} {s : ByteArray} {e k p : Int} {X W : Nat} {v : Bool} {w : World} (h : DU k s e X) (hkp : k ≤ p) (hW : 10 ^ (p - k).toNat = W) (hv : decide (X % W = 0) = v) (hP : Pw w) :
    Calls Tryd.prog 13 #[.agg #[.bool n, .string s, .int .i64 e], .int .i64 p] w fun r w' => r = .returned (.bool v) ∧ Below w.heap.size w w' := by
  obtain ⟨N, hd, hX, -, -⟩ := h.norm
  have := placeFits_c 20000 n s e N p w hd (by omega) hP
  rwa [fitsB_iff h.le hkp hX, hW, hv] at this
theorem ref5Round_u {m : Int} {n : Bool} {s t : ByteArray} {e t0 k p : Int} {X S W : Nat} {v : Value} {w : World} (h : DU k s e X) (hst : DA 0 t t0 S) (hS : S ≠ 0) (hkp : k ≤ p) (hp : p ≤ 15000) (hW : S * 10 ^ (p - k).toNat = W) (hw : (decs W).length ≤ 4900) (hv : rndV m n X W k = v) (hP : Pw w) :
    Calls Tryd.prog 12 #[.int .i64 m, .agg #[.bool n, .string s, .int .i64 e], .string t, .int .i64 p] w fun r w' => r = .returned v ∧ Below w.heap.size w w' := by
  obtain ⟨N, hd, hX, -, -⟩ := h.norm
  have hlo := h.lo
  have hle := h.le
  have hl := h.len
  obtain ⟨k0, hk0⟩ : ∃ k0, min e p = k0 := ⟨_, rfl⟩
  have e1 : X = N * 10 ^ (e - k0).toNat * 10 ^ (k0 - k).toNat := by rw [← hX, Nat.mul_assoc, ← Nat.pow_add]; congr 2; omega
  have e2 : W = S * 10 ^ (p - k0).toNat * 10 ^ (k0 - k).toNat := by rw [← hW, Nat.mul_assoc, ← Nat.pow_add]; congr 2; omega
  have l1 := decs_length_le (show N * 10 ^ (e - k0).toNat ≤ X by rw [e1]; exact Nat.le_mul_of_pos_right _ (pow_pos10 _))
  have l2 := decs_length_le (show S * 10 ^ (p - k0).toNat ≤ W by rw [e2]; exact Nat.le_mul_of_pos_right _ (pow_pos10 _))
  have := ref5Round_c 20000 m n s t e t0 N S _ _ k0 p w hd hst hS hk0 rfl rfl (by omega) (by omega) (by omega) (by omega) (by omega) hP
  rw [e1, e2, rndV_finer, show k + ((k0 - k).toNat : Int) = k0 by omega] at hv
  rwa [hv] at this
theorem da_one : DA 0 ⟨#[49]⟩ 0 1 := ⟨⟨[1], ⟨rfl, by decide⟩, rfl⟩, by decide, by decide, by omega, by omega⟩
theorem ref5Norm_u {n : Bool} {s : ByteArray} {e k : Int} {X : Nat} {S : ByteArray} {E : Int} {w : World} (h : DU k s e X) (hv : nstr X = S ∧ nexp X k = E) (hP : Pw w) :
    Calls Tryd.prog 14 #[.agg #[.bool n, .string s, .int .i64 e]] w fun r w' => r = .returned (.agg #[.bool n, .string S, .int .i64 E]) ∧ Below w.heap.size w w' := by
  obtain ⟨N, hd, -, h1, h2⟩ := h.norm
  rw [← hv.1, ← hv.2, ← h1, ← h2]
  exact ref5Norm_c 20000 n s e N w hd (by omega) hP
/-- What rounding answers is one decimal, or a fault. -/
theorem rndV_shape (m : Int) (n : Bool) (X W : Nat) (k : Int) : ∃ n' s' e' c, rndV m n X W k = .tuple #[.agg #[.bool n', .string s', .int .i64 e'], .int .i64 c] := by
  unfold rndV
  split
  · exact ⟨_, _, _, _, rfl⟩
  · exact ⟨_, _, _, _, rfl⟩
theorem fits_exp {X : Nat} {k p : Int} (hX : X ≠ 0) (hkp : k ≤ p) : X % 10 ^ (p - k).toNat = 0 ↔ p ≤ nexp X k := by
  rw [fits_iff, nexp_of hX]
  constructor
  · rintro (h | h)
    · exact absurd h hX
    · omega
  · intro h
    exact .inr (by omega)
theorem rnd_len (m : Int) (n : Bool) {X W L : Nat} (hX : (decs X).length ≤ L) (hW : (decs W).length ≤ L) (hW0 : 0 < W) : (decs (rndN m n X W)).length ≤ L + 1 := by
  have h1 := (rndN_near m n X W hW0).1
  have h2 := decs_add hX hW
  have h3 := decs_length_le (Nat.le_of_lt h1)
  omega
theorem pow_len (j : Nat) : (decs (10 ^ j)).length ≤ j + 1 := decs_len (Nat.pow_lt_pow_right (by omega) (by omega))
theorem sv_ne {n : Bool} {X Y : Nat} (h : X ≠ Y) : sv n X ≠ sv n Y := fun hh => h (sv_inj hh)
theorem cmpZ_ne {a b : Int} (h : a ≠ b) : cmpZ a b ≠ 0 := by rcases cmpZ_cases a b with hh | hh | hh <;> omega
theorem DU.up {k : Int} {s : ByteArray} {e : Int} {X : Nat} (h : DU k s e X) (u : Nat) (he : e + u ≤ 20000) (hl : (decs (X * 10 ^ u)).length ≤ 4900) : DU k s (e + u) (X * 10 ^ u) := by
  obtain ⟨⟨N, hd, hv⟩, h1, h2, -⟩ := h
  refine ⟨⟨N, ⟨hd.isD, hd.pos, hd.len, by have := hd.lo; omega, by omega⟩, ?_⟩, by omega, h2, hl⟩
  rw [← hv, Nat.mul_assoc, ← Nat.pow_add]
  congr 2
  omega
theorem nexp_nq_up (R u : Nat) (k : Int) : nexp (nq R) (nexp R k + u) = nexp R (k + u) := by
  by_cases h : R = 0
  · subst h; rw [nq_zero]; simp [nexp]
  · rw [nexp_of (nq_pos h), nexp_of h, nexp_of h, tz10_none ((nq_spec R).2 h)]; omega
/-- A rounded value's exponent made greater: as it should be. -/
theorem ref5Norm_up {n : Bool} {k : Int} {R u : Nat} {w : World} (hl : (decs R).length ≤ 4900) (h1 : -10000 ≤ k) (h2 : k ≤ 5000) (hu : u ≤ 5000) (hP : Pw w) :
    Calls Tryd.prog 14 #[.agg #[.bool n, .string (nstr R), .int .i64 (nexp R k + u)]] w fun r w' => r = .returned (.agg #[.bool n, .string (nstr R), .int .i64 (nexp R (k + u))]) ∧ Below w.heap.size w w' := by
  have hd := DA.of_num (B := 10000) (N := R) (e := k) (by omega) (by omega) (by omega)
  have hd2 : DA 20000 (nstr R) (nexp R k + u) (nq R) := ⟨hd.isD, hd.pos, hd.len, by have := hd.lo; omega, by have := hd.hi; omega⟩
  have := ref5Norm_c 20000 n _ _ _ w hd2 (by omega) hP
  rwa [nexp_nq_up, (norm_norm R k).1] at this
theorem nexp_bound (R : Nat) (k : Int) (hl : (decs R).length ≤ 4900) (h1 : -10000 ≤ k) (h2 : k ≤ 5000) : -15000 ≤ nexp R k ∧ nexp R k ≤ 15000 := by
  have := tz_len R
  unfold nexp
  split <;> omega
/-- One decimal of one digit, counted in small steps. -/
theorem DU.one {k a : Int} {s : ByteArray} {S W : Nat} (h : DA 0 s 0 S) (hk : k ≤ a) (hlo : -15000 ≤ k) (hhi : a ≤ 15000) (hW : S * 10 ^ (a - k).toNat = W) (hl : (decs W).length ≤ 4900) : DU k s a W :=
  ⟨⟨S, ⟨h.isD, h.pos, h.len, by omega, by omega⟩, hW⟩, hk, hlo, hl⟩
theorem da_five : DA 0 ⟨#[53]⟩ 0 5 := ⟨⟨[5], ⟨rfl, by decide⟩, rfl⟩, by decide, by decide, by omega, by omega⟩
/-- How far what is rounded is off. -/
theorem rnd_off (m : Int) (n : Bool) (X W : Nat) (hW : 0 < W) : (sv n (rndN m n X W) - sv n X).natAbs < W := by
  obtain ⟨h1, h2⟩ := rndN_near m n X W hW
  cases n <;> simp only [sv, if_true, Bool.false_eq_true, if_false] <;> omega
theorem rnd_half {m : Int} (hm : m = 4 ∨ m = 5 ∨ m = 6) (n : Bool) (X W : Nat) (hW : 0 < W) : 2 * (sv n (rndN m n X W) - sv n X).natAbs ≤ W := by
  obtain ⟨h1, h2⟩ := rndN_half hm n X W hW
  cases n <;> simp only [sv, if_true, Bool.false_eq_true, if_false] <;> omega
/-- Behind a region that makes one box. -/
def OneMid (w0 : World) (L : List (Nat × Value × Value × Value)) (X : Value × Value × Value) (v : Value) (W : World) : Prop :=
  ∃ g, v = .pointer (some ⟨g, 0, none⟩) ∧ Kept3 w0 (L ++ [(g, X)]) W
theorem oneMid_of {w0 W : World} {L : List (Nat × Value × Value × Value)} {x0 x1 x2 : Value} {g : Nat} (hk : Sd w0 L W) (hx : Box3 W g x0 x1 x2) : OneMid w0 L (x0, x1, x2) (.pointer (some ⟨g, 0, none⟩)) W :=
  ⟨g, rfl, hk.2.out.1, hk.2.out.2.1, fun u hu => by
    rcases List.mem_append.1 hu with hu | hu
    · exact hk.2.out.2.2 u hu
    · simp only [List.mem_cons, List.not_mem_nil, or_false] at hu
      subst hu
      exact hx⟩
/-- A box among others whose third cell is written. -/
theorem Kept3.set2 {w0 w : World} {L1 L2 : List (Nat × Value × Value × Value)} {g : Nat} {x y z : Value} (h : Kept3 w0 (L1 ++ (g, x, y, z) :: L2) w) (hg : w0.heap.size ≤ g) (hp : 0 < g) (hne : ∀ t ∈ L1 ++ L2, t.1 ≠ g) (u : Value) :
    Kept3 w0 (L1 ++ (g, x, y, u) :: L2) (w.setCell ⟨g, 2, none⟩ u) := by
  have hb2 : Below g w _ := (Below.refl g w).setCell (p := ⟨g, 2, none⟩) (Nat.le_refl _) u
  refine ⟨h.1.below' hb2 hp, h.2.1.setCell (p := ⟨g, 2, none⟩) hg u, fun t ht => ?_⟩
  rcases List.mem_append.1 ht with ht | ht
  · exact (h.2.2 t (List.mem_append.2 (.inl ht))).other (hne t (List.mem_append.2 (.inl ht))) u
  · rcases List.mem_cons.1 ht with rfl | ht
    · exact (h.2.2 (g, x, y, z) (by simp)).set2 u
    · exact (h.2.2 t (List.mem_append.2 (.inr (List.mem_cons.2 (.inr ht))))).other (hne t (List.mem_append.2 (.inr ht))) u
end Go.Proofs.YtonanpnacoegcaaDoor
