/-
  In10: layer 10: Round by value, good, answers.
-/
import Derived.Test.YtekanlcfgfllcaaDoorKK
import Derived.Test.YtekanlcfgfllcaaDoorInA
set_option maxRecDepth 100000
namespace Go.Proofs.YtekanlcfgfllcaaDoor
open Go.RowKit
theorem step_da {t : ByteArray} (h : stepB t = true) : DA 0 t 0 (dval (bdigs t)) ∧ 0 < dval (bdigs t) ∧ (decs (dval (bdigs t))).length ≤ 40 := by
  obtain ⟨h1, h2, h3, h4⟩ := stepB_true h
  have hd := isD_of_all h3
  refine ⟨⟨⟨_, hd, rfl⟩, h2, by omega, by omega, by omega⟩, by omega, ?_⟩
  have := decs_len (dval_lt _ hd.2)
  rw [bdigs_length] at this
  omega
theorem incRound_u {m : Int} {n : Bool} {s : ByteArray} {e : Int} {t : ByteArray} {k p : Int} {X S W : Nat} {v : Value} {w : World} (hm : isWay m = true) (h : DU k s e X) (ht : stepB t = true) (hS : dval (bdigs t) = S) (hts : t.size ≤ maxLen) (hkp : k ≤ p) (hp : p ≤ 15000) (hW : S * 10 ^ (p - k).toNat = W) (hWl : (decs W).length ≤ 4900) (hv : rndV m n X W k = v) (hP : Pw w) :
    Calls Tryd.prog 10 #[.int .i64 m, .agg #[.bool n, .string s, .int .i64 e], .string t, .int .i64 p] w fun r w' => r = .returned (v) ∧ Below w.heap.size w w' := by
  obtain ⟨N, hd, hX, -, -⟩ := h.norm
  have hlo := h.lo
  have hle := h.le
  have hl := h.len
  obtain ⟨l, hl0⟩ : ∃ l, min e p = l := ⟨_, rfl⟩
  have e1 : X = N * 10 ^ (e - l).toNat * 10 ^ (l - k).toNat := by rw [← hX, Nat.mul_assoc, ← Nat.pow_add]; congr 2; omega
  have e2 : W = S * 10 ^ (p - l).toNat * 10 ^ (l - k).toNat := by rw [← hW, Nat.mul_assoc, ← Nat.pow_add]; congr 2; omega
  have hp0 := pow_pos10 (l - k).toNat
  have h1 : (decs (N * 10 ^ (e - l).toNat)).length ≤ 4900 := Nat.le_trans (decs_length_le (by rw [e1]; exact Nat.le_mul_of_pos_right _ hp0)) hl
  have h2 : (decs (S * 10 ^ (p - l).toNat)).length ≤ 4900 := Nat.le_trans (decs_length_le (by rw [e2]; exact Nat.le_mul_of_pos_right _ hp0)) hWl
  have := incRound_c 20000 m n s e t p N S _ _ l w hm hd ht hS hts hl0 rfl rfl h1 h2 (by omega) (by omega) (by omega) hP
  rw [← hv, e1, e2, rndV_finer, show k + ((l - k).toNat : Int) = l by omega]
  exact this
/-- May a decimal and a place be handed in? -/
def g10 (s : ByteArray) (e a : Int) : Bool := goodB s e && (decide (s.size ≤ 60) && (decide (-100 ≤ a) && (decide (a ≤ 100) && (decide (-100 ≤ e) && decide (e ≤ 100)))))
theorem g10_true {s : ByteArray} {e a : Int} (h : g10 s e a = true) : fineD 60 s e = true ∧ -100 ≤ a ∧ a ≤ 100 ∧ -100 ≤ e ∧ e ≤ 100 := by
  simp only [g10, Bool.and_eq_true, decide_eq_true_eq] at h
  obtain ⟨h1, h2, h3, h4, h5, h6⟩ := h
  exact ⟨by simp only [fineD, Bool.and_eq_true, decide_eq_true_eq]; exact ⟨h1, h2⟩, h3, h4, h5, h6⟩

attribute [local go_sem] dec_field0 dec_field1 dec_field2 in
set_option maxHeartbeats 4000000 in
set_option maxRecDepth 100000 in
theorem good10_c (n : Bool) (s : ByteArray) (e a : Int) (w : World) (hs : s.size ≤ maxLen) (hP : Pw w) :
    Calls Tryd.prog 8 #[.agg #[.bool n, .string s, .int .i64 e], .int .i64 a] w fun r w' => r = .returned (.bool (g10 s e a)) ∧ Below w.heap.size w w' := by
  have HG := Lib.hid (fun w hP => ref5Good_c n s e w hs hP)
  have HK := Lib.hid (kept_one w (.bool n) (.string s) (.int .i64 e) 23 hP)
  clear hP
  rcases hg : goodB s e with _ | _
  · have HR := Lib.hid (show g10 s e a = false by simp only [g10, hg]; rfl)
    rw [hg] at HG
    clear hg
    go_enter Tryd.func8, Tryd.ntmps8
    go_wp2_with fail
    refine (HG.out _ HK.out.1).mono ?_
    rintro r w1 ⟨rfl, hb⟩
    replace HK := Lib.hid (HK.out.keep hb)
    clear hb
    obtain ⟨c0, c1, c2, -, -, -, -⟩ := HK.out.one
    go_wp2
    go_ret
    exact ⟨ret_bool (by first | exact HR.out.symm | exact (decide_eq_false (by omega)).trans HR.out.symm | exact (decide_eq_true (by omega)).trans HR.out.symm), HK.out.2.1⟩
  · by_cases h0 : s.size ≤ 60
    · by_cases h1 : -100 ≤ a
      · by_cases h2 : a ≤ 100
        · by_cases h3 : -100 ≤ e
          · by_cases h4 : e ≤ 100
            · have HR := Lib.hid (show g10 s e a = true by simp only [g10, hg, decide_eq_true h0, decide_eq_true h1, decide_eq_true h2, decide_eq_true h3, decide_eq_true h4]; rfl)
              rw [hg] at HG
              clear hg
              go_enter Tryd.func8, Tryd.ntmps8
              go_wp2_with fail
              refine (HG.out _ HK.out.1).mono ?_
              rintro r w1 ⟨rfl, hb⟩
              replace HK := Lib.hid (HK.out.keep hb)
              clear hb
              obtain ⟨c0, c1, c2, -, -, -, -⟩ := HK.out.one
              go_wp2
              go_ret
              exact ⟨ret_bool (by first | exact HR.out.symm | exact (decide_eq_false (by omega)).trans HR.out.symm | exact (decide_eq_true (by omega)).trans HR.out.symm), HK.out.2.1⟩
            · have HR := Lib.hid (show g10 s e a = false by simp only [g10, hg, decide_eq_true h0, decide_eq_true h1, decide_eq_true h2, decide_eq_true h3, decide_eq_false h4]; rfl)
              rw [hg] at HG
              clear hg
              go_enter Tryd.func8, Tryd.ntmps8
              go_wp2_with fail
              refine (HG.out _ HK.out.1).mono ?_
              rintro r w1 ⟨rfl, hb⟩
              replace HK := Lib.hid (HK.out.keep hb)
              clear hb
              obtain ⟨c0, c1, c2, -, -, -, -⟩ := HK.out.one
              go_wp2
              go_ret
              exact ⟨ret_bool (by first | exact HR.out.symm | exact (decide_eq_false (by omega)).trans HR.out.symm | exact (decide_eq_true (by omega)).trans HR.out.symm), HK.out.2.1⟩
          · have HR := Lib.hid (show g10 s e a = false by simp only [g10, hg, decide_eq_true h0, decide_eq_true h1, decide_eq_true h2, decide_eq_false h3]; rfl)
            rw [hg] at HG
            clear hg
            go_enter Tryd.func8, Tryd.ntmps8
            go_wp2_with fail
            refine (HG.out _ HK.out.1).mono ?_
            rintro r w1 ⟨rfl, hb⟩
            replace HK := Lib.hid (HK.out.keep hb)
            clear hb
            obtain ⟨c0, c1, c2, -, -, -, -⟩ := HK.out.one
            go_wp2
            go_ret
            exact ⟨ret_bool (by first | exact HR.out.symm | exact (decide_eq_false (by omega)).trans HR.out.symm | exact (decide_eq_true (by omega)).trans HR.out.symm), HK.out.2.1⟩
        · have HR := Lib.hid (show g10 s e a = false by simp only [g10, hg, decide_eq_true h0, decide_eq_true h1, decide_eq_false h2]; rfl)
          rw [hg] at HG
          clear hg
          go_enter Tryd.func8, Tryd.ntmps8
          go_wp2_with fail
          refine (HG.out _ HK.out.1).mono ?_
          rintro r w1 ⟨rfl, hb⟩
          replace HK := Lib.hid (HK.out.keep hb)
          clear hb
          obtain ⟨c0, c1, c2, -, -, -, -⟩ := HK.out.one
          go_wp2
          go_ret
          exact ⟨ret_bool (by first | exact HR.out.symm | exact (decide_eq_false (by omega)).trans HR.out.symm | exact (decide_eq_true (by omega)).trans HR.out.symm), HK.out.2.1⟩
      · have HR := Lib.hid (show g10 s e a = false by simp only [g10, hg, decide_eq_true h0, decide_eq_false h1]; rfl)
        rw [hg] at HG
        clear hg
        go_enter Tryd.func8, Tryd.ntmps8
        go_wp2_with fail
        refine (HG.out _ HK.out.1).mono ?_
        rintro r w1 ⟨rfl, hb⟩
        replace HK := Lib.hid (HK.out.keep hb)
        clear hb
        obtain ⟨c0, c1, c2, -, -, -, -⟩ := HK.out.one
        go_wp2
        go_ret
        exact ⟨ret_bool (by first | exact HR.out.symm | exact (decide_eq_false (by omega)).trans HR.out.symm | exact (decide_eq_true (by omega)).trans HR.out.symm), HK.out.2.1⟩
    · have HR := Lib.hid (show g10 s e a = false by simp only [g10, hg, decide_eq_false h0]; rfl)
      rw [hg] at HG
      clear hg
      go_enter Tryd.func8, Tryd.ntmps8
      go_wp2_with fail
      refine (HG.out _ HK.out.1).mono ?_
      rintro r w1 ⟨rfl, hb⟩
      replace HK := Lib.hid (HK.out.keep hb)
      clear hb
      obtain ⟨c0, c1, c2, -, -, -, -⟩ := HK.out.one
      go_wp2
      go_ret
      exact ⟨ret_bool (by first | exact HR.out.symm | exact (decide_eq_false (by omega)).trans HR.out.symm | exact (decide_eq_true (by omega)).trans HR.out.symm), HK.out.2.1⟩

/-- A text with noughts behind it; noughts with 1 behind them. -/
def padR (t : ByteArray) : Nat → ByteArray
  | 0 => t
  | i + 1 => padR t i ++ ⟨#[48]⟩
def padL : Nat → ByteArray
  | 0 => ⟨#[49]⟩
  | i + 1 => ⟨#[48]⟩ ++ padL i
theorem padR_isD {t : ByteArray} {ds : List Nat} (h : IsD t ds) (i : Nat) : IsD (padR t i) (ds ++ List.replicate i 0) := by
  induction i with
  | zero => simpa [padR] using h
  | succ i ih => rw [padR, List.replicate_succ', ← List.append_assoc]; exact ih.append isD_zero
theorem padL_isD (i : Nat) : IsD (padL i) (List.replicate i 0 ++ [1]) := by
  induction i with
  | zero => exact ⟨rfl, by simp⟩
  | succ i ih => rw [padL, List.replicate_succ, List.cons_append]; exact isD_zero.append ih
theorem padR_size (t : ByteArray) (i : Nat) : (padR t i).size = t.size + i := by
  induction i with
  | zero => rfl
  | succ i ih => rw [padR, ByteArray.size_append, ih]; rfl
theorem padL_size (i : Nat) : (padL i).size = i + 1 := by
  induction i with
  | zero => rfl
  | succ i ih => rw [padL, ByteArray.size_append, ih]; show 1 + (i + 1) = i + 1 + 1; omega
theorem dval_replicate (i : Nat) : dval (List.replicate i 0) = 0 := by rw [dval, List.reverse_replicate, val_replicate]
theorem isD_step {t : ByteArray} {ds : List Nat} (h : IsD t ds) (h1 : t.size ≤ 40) (h2 : dval ds ≠ 0) : stepB t = true := by
  refine stepB_ne h1 (fun j hj => ?_) (by rw [bdigs_of h]; exact h2)
  have h3 := h.at_ hj
  have h4 := h.2 _ (List.getElem_mem (l := ds) (by rw [← h.size]; exact hj))
  have h5 : ds.getD j 0 = ds[j]'(by rw [← h.size]; exact hj) := by simp [List.getD, List.getElem?_eq_getElem (show j < ds.length by rw [← h.size]; exact hj)]
  rw [h5] at h3
  simp only [digB, Bool.and_eq_true, decide_eq_true_eq]
  omega
theorem padR_step {t : ByteArray} {i : Nat} (h : stepB t = true) (h1 : t.size + i ≤ 40) : stepB (padR t i) = true ∧ dval (bdigs (padR t i)) = dval (bdigs t) * 10 ^ i := by
  obtain ⟨hd, h0⟩ := stepB_dval h
  have hp := padR_isD hd i
  have hv : dval (bdigs t ++ List.replicate i 0) = dval (bdigs t) * 10 ^ i := by rw [dval_append, dval_replicate, List.length_replicate, Nat.add_zero]
  refine ⟨isD_step hp (by rw [padR_size]; exact h1) ?_, by rw [bdigs_of hp, hv]⟩
  rw [hv]
  have := Nat.mul_pos h0 (pow_pos10 i)
  omega
theorem padL_step {i : Nat} (h1 : i ≤ 30) : stepB (padL i) = true ∧ dval (bdigs (padL i)) = 1 := by
  have hp := padL_isD i
  have hv : dval (List.replicate i 0 ++ [1]) = 1 := by rw [dval_append, dval_replicate]; simp [dval, val]
  exact ⟨isD_step hp (by rw [padL_size]; omega) (by rw [hv]; omega), by rw [bdigs_of hp, hv]⟩

theorem da4 : DA 1 ⟨#[52]⟩ (-1) 4 := ⟨⟨[4], ⟨rfl, by decide⟩, rfl⟩, by decide, by decide, by omega, by omega⟩
theorem da4z : DA 0 ⟨#[52]⟩ 0 4 := ⟨⟨[4], ⟨rfl, by decide⟩, rfl⟩, by decide, by decide, by omega, by omega⟩
theorem len40 : (decs 40).length ≤ 2 := decs_len (by omega)
theorem n50 : nstr 50 = ⟨#[53]⟩ ∧ nexp 50 (-2) = -1 := by
  have h : tz10 50 = 1 := by rw [tz10_step (by omega) rfl, tz10_none (by omega)]
  refine ⟨?_, ?_⟩
  · rw [nstr, nq, h, show 50 / 10 ^ 1 = 5 by omega, decs_snoc (by omega), show 5 / 10 = 0 by omega, decs_zero]; rfl
  · rw [nexp_of (by omega), h]; rfl
theorem rnd40 : rndV 5 false 40 25 (-2) = .tuple #[.agg #[.bool false, .string ⟨#[53]⟩, .int .i64 (-1)], .int .i64 0] := by
  have h : rndN 5 false 40 25 = 50 := by decide
  rw [rndV_of (by omega), h, n50.1, n50.2]
theorem du4 : DU (-2) ⟨#[52]⟩ (-1) 40 := ⟨⟨4, da4.mono (by omega), by decide⟩, by omega, by omega, by have := len40; omega⟩
theorem step25 : stepB ⟨#[50, 53]⟩ = true := by decide
theorem step00 : stepB ⟨#[48, 48]⟩ = false := by decide
attribute [local go_sem] dec_field0 dec_field1 dec_field2 in
set_option maxHeartbeats 4000000 in
set_option maxRecDepth 100000 in
theorem answers10_c (w : World) (hP : Pw w) :
    Calls Tryd.prog 9 #[] w fun r w' => r = .returned (.bool true) ∧ Below w.heap.size w w' := by
  have HR := Lib.hid (fun (w : World) (hP : Pw w) => incRound_u (m := 5) (n := false) (p := -2) (S := 25) (W := 25) (w := w) rfl du4 step25 (by decide) (by decide) (by omega) (by omega) (by decide) (by have := decs_len (show 25 < 10 ^ 2 by omega); omega) rnd40 hP)
  have HQ := Lib.hid (fun (w : World) (hP : Pw w) => incRound_no 5 false ⟨#[52]⟩ 0 ⟨#[48, 48]⟩ 0 w (.inl step00) (by decide) hP)
  have HK := Lib.hid (show Kept3 w [] w from ⟨hP, Below.refl _ _, by intro t ht; cases ht⟩)
  clear hP
  go_enter Tryd.func9, Tryd.ntmps9
  go_wp2_with fail
  refine (HR.out _ HK.out.1).mono ?_
  rintro r w1 ⟨rfl, hb⟩
  replace HK := Lib.hid (show Kept3 w [(w1.heap.size, .bool false, .string ⟨#[53]⟩, .int .i64 (-1))] (w1.alloc (.cells #[.bool false, .string ⟨#[53]⟩, .int .i64 (-1)] 23)) from (HK.out.keep hb).grow _ _ _ _)
  clear hb
  obtain ⟨⟨⟨c00, c01, c02⟩, -⟩, -⟩ := Sd.of HK.out
  go_wp2_with fail
  refine (HQ.out _ HK.out.1).mono ?_
  rintro r w2 ⟨rfl, hb⟩
  clear c00 c01 c02
  replace HK := Lib.hid (show Kept3 w [(w1.heap.size, .bool false, .string ⟨#[53]⟩, .int .i64 (-1)), (w2.heap.size, .bool false, .string ⟨#[]⟩, .int .i64 0)] (w2.alloc (.cells #[.bool false, .string ⟨#[]⟩, .int .i64 0] 23)) from (HK.out.keep hb).grow _ _ _ _)
  clear hb
  obtain ⟨⟨⟨c00, c01, c02⟩, ⟨c10, c11, c12⟩, -⟩, -⟩ := Sd.of HK.out
  go_wp2
  go_ret
  exact ⟨rfl, HK.out.2.1⟩
end Go.Proofs.YtekanlcfgfllcaaDoor
