/-
  P8M: plain facts of layer 8: decimals without their signs by value, halves by the digit below a place.
-/
import Derived.Test.YtonanpnacoegcaaDoorRdM
import Derived.Test.YtonanpnacoegcaaDoorMd7
namespace Go.Proofs.YtonanpnacoegcaaDoor
open Go.RowKit
theorem awayB_eq (m : Int) (n o : Bool) (h : Int) : awayB m n o h = upB m n o h := rfl
/-- A decimal that may be handed in: without its sign so many steps of ten to the power k. -/
structure DU (k : Int) (s : ByteArray) (e : Int) (X : Nat) : Prop where
  ex : ∃ N, DA 20000 s e N ∧ N * 10 ^ (e - k).toNat = X
  le : k ≤ e
  lo : -15000 ≤ k
  len : (decs X).length ≤ 4900
theorem DU.dv {k : Int} {s : ByteArray} {e : Int} {X : Nat} (h : DU k s e X) (n : Bool) : DV k n s e (sv n X) := by
  obtain ⟨⟨N, hd, hv⟩, h1, h2, h3⟩ := h
  exact ⟨⟨N, hd.mono (by omega), by rw [atE, hv]⟩, h1, by omega, by rw [sv_natAbs]; exact h3⟩
theorem DU.z {k : Int} {X : Nat} (h1 : -15000 ≤ k) (h2 : k ≤ 0) (h3 : (decs X).length ≤ 4900) : DU k (nstr X) (nexp X k) X := by
  have hd := DA.of_num (B := 15000) (N := X) (e := k) (by omega) (by omega) (by omega)
  obtain ⟨-, h4, -, -⟩ := DV.z (Z := (X : Int)) (k := k) (by omega) h2 (by simpa using h3)
  simp only [zexp, Int.natAbs_natCast] at h4
  refine ⟨⟨_, hd, ?_⟩, h4, h1, h3⟩
  have := atE_norm false X k k (Int.le_refl _)
  rw [atE, atE] at this
  have := congrArg Int.natAbs this
  rw [sv_natAbs, sv_natAbs, Int.sub_self] at this
  simpa using this
theorem n_scale (X j : Nat) (k : Int) : nstr (X * 10 ^ j) = nstr X ∧ nexp (X * 10 ^ j) k = nexp X (k + j) := ⟨nstr_mul X j, nexp_mul X j k⟩
/-- The same decimal, counted in finer steps. -/
theorem n_finer {X Y j : Nat} {k k' : Int} (h : Y = X * 10 ^ j) (hk : k' + j = k) : nstr Y = nstr X ∧ nexp Y k' = nexp X k := by
  subst h hk; exact n_scale X j k'
theorem DU.norm {k : Int} {s : ByteArray} {e : Int} {X : Nat} (h : DU k s e X) : ∃ N, DA 20000 s e N ∧ N * 10 ^ (e - k).toNat = X ∧ nstr N = nstr X ∧ nexp N e = nexp X k := by
  obtain ⟨⟨N, hd, hv⟩, h1, h2, h3⟩ := h
  have := n_finer (k := e) (k' := k) hv.symm (by omega)
  exact ⟨N, hd, hv, this.1.symm, this.2.symm⟩
theorem DU.of_fine {m : Nat} {s : ByteArray} {e k : Int} (h : fineD m s e = true) (hm : m ≤ 1000) (hk : k ≤ e) (hk2 : -1000 ≤ k) : ∃ X, DU k s e X ∧ (decs X).length ≤ m + (e - k).toNat := by
  obtain ⟨⟨⟨N, hd, hv⟩, h1, h2, h3⟩, h4⟩ := DV.of_fine (n := false) h hm hk hk2
  rw [atE, sv_natAbs] at h3 h4
  exact ⟨_, ⟨⟨dval (bdigs s), (DA.of_good (fineD_good h).1).mono (by omega), rfl⟩, hk, by omega, h3⟩, h4⟩
/-- What stands below a place, held against half a step, by the digit there. -/
theorem half_digit {Q D : Nat} (hQ : Q % 10 ≠ 0) (hD : 1 ≤ D) :
    cmpZ ((2 * (Q % 10 ^ D) : Nat) : Int) ((10 ^ D : Nat) : Int) = if Q / 10 ^ (D - 1) % 10 = 5 ∧ 1 < D then 1 else cmpZ ((Q / 10 ^ (D - 1) % 10 : Nat) : Int) 5 := by
  obtain ⟨j, rfl⟩ : ∃ j, D = j + 1 := ⟨D - 1, by omega⟩
  rw [Nat.add_sub_cancel]
  have h1 : Q % 10 ^ (j + 1) = 10 ^ j * (Q / 10 ^ j % 10) + Q % 10 ^ j := by rw [Nat.pow_succ, Nat.mod_mul, Nat.add_comm]
  have h2 : 10 ^ (j + 1) = 10 * 10 ^ j := by rw [Nat.pow_succ, Nat.mul_comm]
  have h3 : Q % 10 ^ j < 10 ^ j := Nat.mod_lt _ (pow_pos10 j)
  have h5 : 1 < j + 1 → 0 < Q % 10 ^ j := by
    intro hj
    obtain ⟨i, rfl⟩ : ∃ i, j = i + 1 := ⟨j - 1, by omega⟩
    have : Q % 10 ^ (i + 1) % 10 = Q % 10 := Nat.mod_mod_of_dvd _ ⟨10 ^ i, by rw [Nat.pow_succ, Nat.mul_comm]⟩
    omega
  have h6 : j = 0 → Q % 10 ^ j = 0 := by rintro rfl; simp [Nat.mod_one]
  have h7 : j = 0 → 10 ^ j = 1 := by rintro rfl; rfl
  rw [h1, h2]
  have h8 : Q / 10 ^ j % 10 < 10 := Nat.mod_lt _ (by omega)
  generalize Q / 10 ^ j % 10 = d at *
  generalize Q % 10 ^ j = r at *
  generalize 10 ^ j = p at *
  clear h1 h2 hQ
  by_cases hd : d = 5 ∧ 1 < j + 1
  · rw [if_pos hd]
    obtain ⟨rfl, hj⟩ := hd
    have := h5 hj
    exact cmpZ_gt (by omega)
  · rw [if_neg hd]
    rcases Nat.lt_trichotomy d 5 with h9 | h9 | h9
    · rw [cmpZ_lt (a := (d : Int)) (by omega)]
      refine cmpZ_lt ?_
      have : p * d ≤ p * 4 := Nat.mul_le_mul_left p (by omega)
      omega
    · subst h9
      have hj : j = 0 := by omega
      rw [h6 hj, h7 hj]; rfl
    · rw [cmpZ_gt (a := (d : Int)) (by omega)]
      refine cmpZ_gt ?_
      have h10 : p * 6 ≤ p * d := Nat.mul_le_mul_left p (by omega)
      have : 0 < p := by omega
      omega
/-- Whether a step goes into a value, by the exponent of the value as it should be. -/
theorem fits_iff (X j : Nat) : X % 10 ^ j = 0 ↔ X = 0 ∨ j ≤ tz10 X := by
  by_cases h0 : X = 0
  · subst h0; simp
  · obtain ⟨h1, h2⟩ := nq_spec X
    have h2 := h2 h0
    constructor
    · intro h
      right
      rcases Nat.lt_or_ge (tz10 X) j with hlt | hge
      · exfalso
        obtain ⟨i, rfl⟩ : ∃ i, j = tz10 X + 1 + i := ⟨j - tz10 X - 1, by omega⟩
        obtain ⟨c, hc⟩ := Nat.dvd_of_mod_eq_zero h
        apply h2
        have h3 : nq X * 10 ^ tz10 X = (10 * (10 ^ i * c)) * 10 ^ tz10 X := by
          rw [h1]
          conv => lhs; rw [hc]
          rw [Nat.pow_add, Nat.pow_succ]
          simp only [Nat.mul_assoc, Nat.mul_comm, Nat.mul_left_comm]
        rw [Nat.eq_of_mul_eq_mul_right (pow_pos10 _) h3]
        exact Nat.mul_mod_right _ _
      · exact hge
    · rintro (h | h)
      · exact absurd h h0
      · rw [← h1]
        exact Nat.mod_eq_zero_of_dvd (Nat.dvd_trans (Nat.pow_dvd_pow 10 h) ⟨nq X, Nat.mul_comm _ _⟩)
end Go.Proofs.YtonanpnacoegcaaDoor
