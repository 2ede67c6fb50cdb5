/-
  P8R: place.Round by value.
-/
import Derived.Test.YtonanpnacoegcaaDoorP8
import Derived.Test.YtonanpnacoegcaaDoorRf8
set_option maxRecDepth 100000
namespace Go.Proofs.YtonanpnacoegcaaDoor
open Go.RowKit
theorem upN_scale (m : Int) (n : Bool) (X W j : Nat) : upN m n (X * 10 ^ j) (W * 10 ^ j) = upN m n X W := by
  have hk := pow_pos10 j
  have h1 : X * 10 ^ j / (W * 10 ^ j) = X / W := Nat.mul_div_mul_right _ _ hk
  have h2 : X * 10 ^ j % (W * 10 ^ j) = X % W * 10 ^ j := Nat.mul_mod_mul_right _ _ _
  unfold upN
  rw [h1, h2, show ((2 * (X % W * 10 ^ j) : Nat) : Int) = ((2 * (X % W) : Nat) : Int) * ((10 ^ j : Nat) : Int) by push_cast; rw [Int.mul_assoc], show ((W * 10 ^ j : Nat) : Int) = (W : Int) * ((10 ^ j : Nat) : Int) by push_cast; rfl, cmpZ_mul _ _ _ hk]
theorem nexp_of {N : Nat} (h : N ≠ 0) (e : Int) : nexp N e = e + tz10 N := by rw [nexp, if_neg h]
/-- A decimal of few steps fits just if the step goes into it. -/
theorem fitsB_iff {N X : Nat} {e k p : Int} (hke : k ≤ e) (hkp : k ≤ p) (hX : N * 10 ^ (e - k).toNat = X) : fitsB N e p = decide (X % 10 ^ (p - k).toNat = 0) := by
  have h1 := n_finer (k := e) (k' := k) hX.symm (by omega)
  have hz : N = 0 ↔ X = 0 := by
    rw [← hX]
    constructor
    · rintro rfl; simp
    · intro h
      rcases Nat.mul_eq_zero.1 h with h | h
      · exact h
      · have := pow_pos10 (e - k).toNat; omega
  rw [fitsB, Bool.eq_iff_iff]
  simp only [Bool.or_eq_true, decide_eq_true_eq]
  rw [fits_iff, hz, ← h1.2]
  by_cases h0 : X = 0
  · simp [h0]
  · rw [nexp_of h0]
    constructor
    · rintro (h | h)
      · exact .inl h
      · exact .inr (by omega)
    · rintro (h | h)
      · exact .inl h
      · exact .inr (by omega)

attribute [local go_sem] dec_field0 dec_field1 dec_field2 in
set_option maxHeartbeats 1600000 in
set_option maxRecDepth 100000 in
theorem placeRound_no (m : Int) (n : Bool) (s : ByteArray) (e p : Int) (w : World) (hm : isWay m = false) :
    Calls Tryd.prog 11 #[.int .i64 m, .agg #[.bool n, .string s, .int .i64 e], .int .i64 p] w fun r w' => r = .returned (.tuple #[.agg #[.bool false, .string ⟨#[]⟩, .int .i64 0], .int .i64 1]) ∧ Below w.heap.size w w' := by
  have CG := Lib.hid (fun w => modeGood_c m w)
  rw [hm] at CG
  clear hm
  go_enter Tryd.func11, Tryd.ntmps11
  go_wp2_with fail
  refine (CG.out _).mono ?_
  rintro r w1 ⟨rfl, rfl⟩
  go_wp2
  exact bodyPost_ret (v := .tuple #[.agg #[.bool false, .string ⟨#[]⟩, .int .i64 0], .int .i64 1]) (by simp [results, Tryd.results11, go_sem]) rfl ⟨rfl, ((Below.refl _ w).alloc (Nat.le_refl _) _).alloc (by simp) _⟩

attribute [local go_sem] dec_field0 dec_field1 dec_field2 in
set_option maxHeartbeats 4000000 in
set_option maxRecDepth 100000 in
theorem placeRound_c (B : Nat) (m : Int) (n : Bool) (s : ByteArray) (e : Int) (N X W : Nat) (k p : Int) (w : World) (hm : isWay m = true) (h : DA B s e N) (hke : k ≤ e) (hkp : k ≤ p) (hX : N * 10 ^ (e - k).toNat = X) (hW : 10 ^ (p - k).toNat = W)
    (hl : (decs N).length ≤ 4980) (hB : B ≤ 25000) (hp1 : -30000 ≤ p) (hp2 : p ≤ 30000) (hP : Pw w) :
    Calls Tryd.prog 11 #[.int .i64 m, .agg #[.bool n, .string s, .int .i64 e], .int .i64 p] w fun r w' => r = .returned (rndV m n X W k) ∧ Below w.heap.size w w' := by
  have CG := Lib.hid (fun w => modeGood_c m w)
  rw [hm] at CG
  have HF := Lib.hid h
  have hB5 : B ≤ 1000000 := by omega
  have hB6 : B + 5000 ≤ 30000 := by omega
  have hp1b : -30000 ≤ p := hp1
  have hp2b : p ≤ 30000 := hp2
  have HQL := Lib.hid (Nat.le_trans (nq_len N) hl)
  have HFI := Lib.hid (show fitsB N e p = decide (X % W = 0) by rw [← hW]; exact fitsB_iff hke hkp hX)
  have h1 := n_finer (k := e) (k' := k) hX.symm (by omega)
  have HR0 := Lib.hid (show X % W = 0 → rndV m n X W k = .tuple #[.agg #[.bool n, .string (nstr N), .int .i64 (nexp N e)], .int .i64 0] from fun hh => by
    rw [rndV_mult hh, h1.1, h1.2])
  have HR7 := Lib.hid (show m = 7 → X % W ≠ 0 → rndV m n X W k = .tuple #[.agg #[.bool false, .string ⟨#[]⟩, .int .i64 0], .int .i64 11] from fun h1 h2 => by rw [h1]; exact rndV_no h2)
  have HRN := Lib.hid (show ∀ E, nexp N e = E → m ≠ 7 → X % W ≠ 0 → ∃ D T : Nat, p - E = (D : Int) ∧ 1 ≤ D ∧ nq N / 10 ^ D + (if upN m n (nq N) (10 ^ D) then 1 else 0) = T ∧ nq N % 10 ≠ 0 ∧ rndV m n X W k = .tuple #[.agg #[.bool n, .string (nstr T), .int .i64 (nexp T p)], .int .i64 0] from fun E hE h7 hx => by
    have hN : N ≠ 0 := by
      rintro rfl
      rw [Nat.zero_mul] at hX
      apply hx; rw [← hX]; exact Nat.zero_mod W
    have hne : ¬ (p ≤ nexp N e) := by
      intro hh
      have h2 := HFI.out
      rw [decide_eq_false hx, fitsB, decide_eq_false hN, Bool.false_or] at h2
      exact absurd hh (of_decide_eq_false h2)
    have hEe := nexp_of hN e
    obtain ⟨i, hi⟩ : ∃ i : Nat, E - k = (i : Int) := ⟨(E - k).toNat, by omega⟩
    have hXq : nq N * 10 ^ i = X := by
      rw [← hX, show i = tz10 N + (e - k).toNat by omega, Nat.pow_add, ← Nat.mul_assoc, (nq_spec N).1]
    have hWq : 10 ^ (p - E).toNat * 10 ^ i = W := by rw [← hW, ← Nat.pow_add]; congr 1; omega
    refine ⟨(p - E).toNat, _, by omega, by omega, rfl, (nq_spec N).2 hN, ?_⟩
    have hx2 : nq N % 10 ^ (p - E).toNat ≠ 0 := by
      intro hh
      apply hx
      rw [← hXq, ← hWq, Nat.mul_mod_mul_right, hh, Nat.zero_mul]
    rw [← hXq, ← hWq, rndV_finer, rndV_up h7 hx2 _ rfl, nstr_mul, nexp_mul, show k + (i : Int) + ((p - E).toNat : Int) = p by omega])
  have HK := kept4_one w (.bool n) (.string s) (.int .i64 e) (.bool false) (.string ⟨#[]⟩) (.int .i64 0) 23 23 hP
  clear hm h hke hkp hX hW hl hB hp1 hp2 hP h1
  go_enter Tryd.func11, Tryd.ntmps11
  go_wp2_with fail
  refine (CG.out _).mono ?_
  rintro r w1 ⟨rfl, rfl⟩
  go_wp2_with fail
  refine (placeFits_c _ _ _ _ _ _ _ HF.out hB5 HK.1.1).mono ?_
  rintro r w1 ⟨rfl, hb⟩
  replace HK := HK.keep hb
  clear hb
  obtain ⟨c0, c1, c2, -, -, -, -⟩ := HK.1.one
  obtain ⟨d0, d1, d2, f0, f1, f2⟩ := HK.res
  rw [HFI.out]
  by_cases hm : X % W = 0
  · have hdm : decide (X % W = 0) = true := decide_eq_true hm
    rw [hdm]
    have HR := Lib.hid (HR0.out hm)
    clear hm hdm
    go_wp2_with fail
    refine (decNorm_c _ _ _ _ _ _ HF.out hB5 HK.1.1).mono ?_
    rintro r w1 ⟨rfl, hb⟩
    replace HK := HK.keep hb
    clear hb
    clear c0 c1 c2 d0 d1 d2 f0 f1 f2
    obtain ⟨c0, c1, c2, -, -, -, -⟩ := HK.1.one
    obtain ⟨d0, d1, d2, f0, f1, f2⟩ := HK.res
    go_wp2
    exact bodyPost_ret (v := .tuple #[.agg #[.bool n, .string (nstr N), .int .i64 (nexp N e)], .int .i64 0]) (by simp [results, Tryd.results11, go_sem, d0, d1, d2]) rfl
      ⟨by rw [HR.out], (HK.store _ _ _).1.2.1⟩
  · have hdm : decide (X % W = 0) = false := decide_eq_false hm
    rw [hdm]
    clear hdm
    by_cases h7 : m = 7
    · have HR := Lib.hid (HR7.out h7 hm)
      have h7b : (m == 7) = true := by simpa using h7
      clear hm h7
      go_wp2
      exact bodyPost_ret (v := .tuple #[.agg #[.bool false, .string ⟨#[]⟩, .int .i64 0], .int .i64 11]) (by simp [results, Tryd.results11, go_sem, d0, d1, d2]) rfl
        ⟨by rw [HR.out], (HK.store _ _ _).1.2.1⟩
    · obtain ⟨E, hE⟩ : ∃ E, nexp N e = E := ⟨_, rfl⟩
      obtain ⟨D, T, hD, hD0, hT, hq10, hR⟩ := HRN.out E hE h7 hm
      have HR := Lib.hid hR
      have HT := Lib.hid hT
      have HD := Lib.hid hD
      have HE := Lib.hid hE
      have HQ := Lib.hid hq10
      have h7b : (m == 7) = false := by simpa using h7
      clear hm h7 hR hT hD hE hq10
      go_wp2_with fail
      refine (decNorm_c _ _ _ _ _ _ HF.out hB5 HK.1.1).mono ?_
      rintro r w1 ⟨rfl, hb⟩
      replace HK := HK.keep hb
      clear hb
      clear c0 c1 c2 d0 d1 d2 f0 f1 f2
      obtain ⟨c0, c1, c2, -, -, -, -⟩ := HK.1.one
      obtain ⟨d0, d1, d2, f0, f1, f2⟩ := HK.res
      rw [HE.out]
      go_wp2_with fail
      refine (placeNeighbour_c (B + 5000) m n _ E (nq N) D T p _ _ (by have := HF.out.norm; rwa [HE.out] at this) HQ.out HD.out hD0 rfl HT.out HQL.out hB6 hp1b hp2b HK.1.1).mono ?_
      rintro r w1 ⟨rfl, hb⟩
      replace HK := HK.keep hb
      clear hb
      clear c0 c1 c2 d0 d1 d2 f0 f1 f2
      obtain ⟨c0, c1, c2, -, -, -, -⟩ := HK.1.one
      obtain ⟨d0, d1, d2, f0, f1, f2⟩ := HK.res
      go_wp2
      exact bodyPost_ret (v := .tuple #[.agg #[.bool n, .string (nstr T), .int .i64 (nexp T p)], .int .i64 0]) (by simp [results, Tryd.results11, go_sem, d0, d1, d2]) rfl
        ⟨by rw [HR.out], (HK.store _ _ _).1.2.1⟩
end Go.Proofs.YtonanpnacoegcaaDoor
