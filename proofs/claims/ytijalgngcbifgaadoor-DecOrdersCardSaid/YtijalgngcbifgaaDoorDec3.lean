/-
  Dec3: dec.Top, dec.Digit, dec.Ranged, dec.Good.
-/
import Derived.Test.YtijalgngcbifgaaDoorDec2
namespace Go.Proofs.YtijalgngcbifgaaDoor
open Go.RowKit
set_option maxHeartbeats 800000 in
set_option maxRecDepth 100000 in
theorem decTop_c (B : Nat) (n : Bool) (s : ByteArray) (e : Int) (N : Nat) (w : World) (h : DA B s e N) (hB : B ≤ 1000000) (hP : Pw w) :
    Calls Tryd.prog 20 #[.agg #[.bool n, .string s, .int .i64 e]] w fun r w' => r = .returned (.int .i64 (dtop N e)) ∧ Below w.heap.size w w' := by
  have HF := Lib.hid h
  have HK := Lib.hid (kept_one w (.bool n) (.string s) (.int .i64 e) 23 hP)
  clear h hP
  go_enter Tryd.func20, Tryd.ntmps20
  go_wp2_with fail
  refine (decNorm_c _ _ _ _ _ _ HF.out hB HK.out.1).mono ?_
  rintro r w1 ⟨rfl, hb⟩
  replace HK := Lib.hid (HK.out.keep hb)
  clear hb
  go_wp2_with fail
  refine (decFirst_n _ _ _ _ _ _ HF.out hB).mono ?_
  rintro r w2 ⟨rfl, hb⟩
  replace HK := Lib.hid (HK.out.keep hb)
  clear hb
  go_wp2
  go_ret
  exact ⟨rfl, HK.out.2.1⟩
theorem Kept3.one {w0 w : World} {g : Nat} {x y z : Value} (h : Kept3 w0 [(g, x, y, z)] w) : Box3 w g x y z := h.2.2 (g, x, y, z) (by simp)
/-- A block of three cells is written over. -/
theorem Kept3.store {w0 w : World} {g : Nat} {x y z : Value} (h : Kept3 w0 [(g, x, y, z)] w) (hg : w0.heap.size ≤ g) (hp : 0 < g) (x' y' z' : Value) :
    Kept3 w0 [(g, x', y', z')] (((w.setCell ⟨g, 0, none⟩ x').setCell ⟨g, 1, none⟩ y').setCell ⟨g, 2, none⟩ z') := by
  obtain ⟨c0, c1, c2, f0, f1, f2, hz⟩ := h.one
  obtain ⟨hP, hb, -⟩ := h
  have hb' := ((hb.setCell (p := ⟨g, 0, none⟩) hg x').setCell (p := ⟨g, 1, none⟩) hg y').setCell (p := ⟨g, 2, none⟩) hg z'
  have hb2 : Below g w _ := (((Below.refl g w).setCell (p := ⟨g, 0, none⟩) (Nat.le_refl _) x').setCell (p := ⟨g, 1, none⟩) (Nat.le_refl _) y').setCell (p := ⟨g, 2, none⟩) (Nat.le_refl _) z'
  refine ⟨hP.below' hb2 hp, hb', ?_⟩
  intro u hu
  simp only [List.mem_cons, List.not_mem_nil, or_false] at hu
  subst hu
  refine ⟨?_, ?_, ?_, ?_, ?_, ?_, ?_⟩
  all_goals clear hb hb' hb2
  · go_simp
  · go_simp
  · go_simp
  · go_simp
  · go_simp
  · go_simp
  · simpa using hz
theorem norm_store {w w1 : World} (hP : Pw w) {x y z : Value} (h : Kept3 w [(w.heap.size, x, y, z)] w1) (x' y' z' : Value) :
    Kept3 w [(w.heap.size, x', y', z')] (((w1.setCell ⟨w.heap.size, 0, none⟩ x').setCell ⟨w.heap.size, 1, none⟩ y').setCell ⟨w.heap.size, 2, none⟩ z') := h.store (Nat.le_refl _) hP.blk x' y' z'
/-- Is it in range? -/
def rangedB (N : Nat) (e : Int) : Bool := decide (-300 ≤ nexp N e) && decide (dtop N e < 300)
set_option maxHeartbeats 800000 in
set_option maxRecDepth 100000 in
theorem decRanged_c (B : Nat) (n : Bool) (s : ByteArray) (e : Int) (N : Nat) (w : World) (h : DA B s e N) (hB : B ≤ 1000000) (hP : Pw w) :
    Calls Tryd.prog 25 #[.agg #[.bool n, .string s, .int .i64 e]] w fun r w' => r = .returned (.bool (rangedB N e)) ∧ Below w.heap.size w w' := by
  have HF := Lib.hid h
  have HPW := Lib.hid hP
  have HK := Lib.hid (kept_one w (.bool n) (.string s) (.int .i64 e) 23 hP)
  clear h hP
  by_cases hx : -300 ≤ nexp N e
  · have HR := Lib.hid (show rangedB N e = decide (dtop N e < 300) by rw [rangedB, decide_eq_true hx, Bool.true_and])
    go_enter Tryd.func25, Tryd.ntmps25
    go_wp2_with fail
    refine (decNorm_c _ _ _ _ _ _ HF.out hB HK.out.1).mono ?_
    rintro r w1 ⟨rfl, hb⟩
    have hk := HK.out.keep hb
    obtain ⟨c0, c1, c2, f0, f1, f2, hz⟩ := hk.one
    replace HK := Lib.hid (norm_store HPW.out hk (.bool n) (.string (nstr N)) (.int .i64 (nexp N e)))
    clear hk hb
    go_wp2_with fail
    refine (decFirst_n _ _ _ _ _ _ HF.out hB).mono ?_
    rintro r w2 ⟨rfl, hb⟩
    replace HK := Lib.hid (HK.out.keep hb)
    clear hb c0 c1 c2 f0 f1 f2 hz
    go_wp2
    go_ret
    exact ⟨ret_bool HR.out.symm, HK.out.2.1⟩
  · have HR := Lib.hid (show rangedB N e = false by rw [rangedB, decide_eq_false hx, Bool.false_and])
    go_enter Tryd.func25, Tryd.ntmps25
    go_wp2_with fail
    refine (decNorm_c _ _ _ _ _ _ HF.out hB HK.out.1).mono ?_
    rintro r w1 ⟨rfl, hb⟩
    have hk := HK.out.keep hb
    obtain ⟨c0, c1, c2, f0, f1, f2, hz⟩ := hk.one
    replace HK := Lib.hid (norm_store HPW.out hk (.bool n) (.string (nstr N)) (.int .i64 (nexp N e)))
    clear hk hb
    go_wp2
    go_ret
    exact ⟨ret_bool HR.out.symm, HK.out.2.1⟩
theorem norm_digit (N : Nat) (e p : Int) (h1 : nexp N e ≤ p) (h2 : p ≤ dtop N e) :
    ∃ k : Nat, dtop N e - p = (k : Int) ∧ k < (nstr N).size ∧ ∀ h : k < (nstr N).size, (nstr N)[k].toNat = 48 + digAt N e p := by
  have ht := top_all N e
  refine ⟨(dtop N e - p).toNat, by omega, by omega, fun h => ?_⟩
  rw [(isD_nstr N).at_ h]
  by_cases h0 : N = 0
  · subst h0
    rw [digAt_zero, nq_zero, decs_zero]
    rw [nstr_zero] at h
    have : (dtop 0 e - p).toNat = 0 := by
      have h3 : (⟨#[48]⟩ : ByteArray).size = 1 := rfl
      rw [h3] at h
      omega
    rw [this]; rfl
  · rw [orZero_of (decs_nz (nq_pos h0)), digAt_norm N e p h0 h1 h2]
theorem h0_bounds {B : Nat} {s : ByteArray} {e : Int} {N : Nat} (h : DA B s e N) : -(B + 5000 : Int) ≤ nexp N e ∧ nexp N e ≤ (B + 5000 : Int) ∧ (nstr N).size ≤ 5000 := by
  have g := h.norm
  have h1 := g.len
  have h2 := g.lo
  have h3 := g.hi
  omega
set_option maxHeartbeats 800000 in
set_option maxRecDepth 100000 in
theorem decDigit_c (B : Nat) (n : Bool) (s : ByteArray) (e : Int) (N : Nat) (p : Int) (w : World) (h : DA B s e N) (hB : B ≤ 1000000) (hP : Pw w) :
    Calls Tryd.prog 22 #[.agg #[.bool n, .string s, .int .i64 e], .int .i64 p] w fun r w' => r = .returned (.int .i64 (digAt N e p)) ∧ Below w.heap.size w w' := by
  have HF := Lib.hid h
  have HPW := Lib.hid hP
  have HK := Lib.hid (kept_one w (.bool n) (.string s) (.int .i64 e) 23 hP)
  clear h hP
  by_cases hx : p < nexp N e
  · have HR := Lib.hid (digAt_below N e p hx)
    go_enter Tryd.func22, Tryd.ntmps22
    go_wp2_with fail
    refine (decNorm_c _ _ _ _ _ _ HF.out hB HK.out.1).mono ?_
    rintro r w1 ⟨rfl, hb⟩
    have hk := HK.out.keep hb
    obtain ⟨c0, c1, c2, f0, f1, f2, hz⟩ := hk.one
    replace HK := Lib.hid (norm_store HPW.out hk (.bool n) (.string (nstr N)) (.int .i64 (nexp N e)))
    clear hk hb
    go_wp2_with fail
    refine (decFirst_n _ _ _ _ _ _ HF.out hB).mono ?_
    rintro r w2 ⟨rfl, hb⟩
    clear c0 c1 c2 f0 f1 f2 hz
    have hk := HK.out.keep hb
    obtain ⟨c0, c1, c2, -, -, -, -⟩ := hk.one
    replace HK := Lib.hid hk
    clear hb hk
    go_wp2
    go_ret
    exact ⟨ret_int (by rw [HR.out]; rfl), HK.out.2.1⟩
  · by_cases hy : dtop N e < p
    · have HR := Lib.hid (show digAt N e p = 0 by
        by_cases h0 : N = 0
        · subst h0; exact digAt_zero e p
        · exact digAt_above N e p h0 hy)
      go_enter Tryd.func22, Tryd.ntmps22
      go_wp2_with fail
      refine (decNorm_c _ _ _ _ _ _ HF.out hB HK.out.1).mono ?_
      rintro r w1 ⟨rfl, hb⟩
      have hk := HK.out.keep hb
      obtain ⟨c0, c1, c2, f0, f1, f2, hz⟩ := hk.one
      replace HK := Lib.hid (norm_store HPW.out hk (.bool n) (.string (nstr N)) (.int .i64 (nexp N e)))
      clear hk hb
      go_wp2_with fail
      refine (decFirst_n _ _ _ _ _ _ HF.out hB).mono ?_
      rintro r w2 ⟨rfl, hb⟩
      clear c0 c1 c2 f0 f1 f2 hz
      have hk := HK.out.keep hb
      obtain ⟨c0, c1, c2, -, -, -, -⟩ := hk.one
      replace HK := Lib.hid hk
      clear hb hk
      go_wp2
      go_ret
      exact ⟨ret_int (by rw [HR.out]; rfl), HK.out.2.1⟩
    · obtain ⟨k, hk, hks, hkb⟩ := norm_digit N e p (by omega) (by omega)
      have hD := digAt_lt N e p
      have hb1 := hkb hks
      have HB1 := Lib.hid (show (((nstr N)[k].toNat : Nat) : Int) - 48 = (digAt N e p : Int) by omega)
      have hlo : (48 : Int) ≤ (((nstr N)[k].toNat : Nat) : Int) := by omega
      have hhi : (((nstr N)[k].toNat : Nat) : Int) < 58 := by omega
      have g := h0_bounds HF.out
      clear hb1 hkb
      go_enter Tryd.func22, Tryd.ntmps22
      go_wp2_with fail
      refine (decNorm_c _ _ _ _ _ _ HF.out hB HK.out.1).mono ?_
      rintro r w1 ⟨rfl, hb⟩
      have hk1 := HK.out.keep hb
      obtain ⟨c0, c1, c2, f0, f1, f2, hz⟩ := hk1.one
      replace HK := Lib.hid (norm_store HPW.out hk1 (.bool n) (.string (nstr N)) (.int .i64 (nexp N e)))
      clear hk1 hb
      go_wp2_with fail
      refine (decFirst_n _ _ _ _ _ _ HF.out hB).mono ?_
      rintro r w2 ⟨rfl, hb⟩
      clear c0 c1 c2 f0 f1 f2 hz
      have hk1 := HK.out.keep hb
      obtain ⟨c0, c1, c2, -, -, -, -⟩ := hk1.one
      replace HK := Lib.hid hk1
      clear hb hk1
      go_wp2
      go_ret
      exact ⟨ret_int HB1.out, HK.out.2.1⟩
end Go.Proofs.YtijalgngcbifgaaDoor
