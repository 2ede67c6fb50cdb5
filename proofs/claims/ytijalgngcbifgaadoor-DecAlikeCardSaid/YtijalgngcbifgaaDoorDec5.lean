/-
  Dec5: of the answers by definition: Good, Norm, Zero, Top, At, Ranged.
-/
import Derived.Test.YtijalgngcbifgaaDoorDec4
namespace Go.Proofs.YtijalgngcbifgaaDoor
open Go.RowKit
set_option maxHeartbeats 800000 in
set_option maxRecDepth 100000 in
theorem ref5Good_c (n : Bool) (s : ByteArray) (e : Int) (w : World) (hs : s.size ≤ maxLen) (hP : Pw w) :
    Calls Tryd.prog 10 #[.agg #[.bool n, .string s, .int .i64 e]] w fun r w' => r = .returned (.bool (goodB s e)) ∧ Below w.heap.size w w' := by
  have HK := Lib.hid (kept_one w (.bool n) (.string s) (.int .i64 e) 23 hP)
  have HC := Lib.hid (fun w => refDigits_c s w hs)
  unfold maxLen at hs
  clear hP
  rcases hA : allD s with _ | _
  · have hg : goodB s e = false := by simp [goodB, hA]
    rw [hA] at HC
    rw [hg]
    clear hA hg
    go_enter Tryd.func10, Tryd.ntmps10
    go_wp2_with fail
    refine (HC.out _).mono ?_
    rintro r w1 ⟨rfl, rfl⟩
    go_wp2
    go_ret
    exact ⟨rfl, HK.out.2.1⟩
  · rw [hA] at HC
    by_cases h1 : s.size ≤ 1000
    · have h1i : (s.size : Int) ≤ 1000 := by omega
      by_cases h2 : e < -1000
      · rw [good_lo h2]
        go_enter Tryd.func10, Tryd.ntmps10
        go_wp2_with fail
        refine (HC.out _).mono ?_
        rintro r w1 ⟨rfl, rfl⟩
        go_wp2
        go_ret
        exact ⟨rfl, HK.out.2.1⟩
      · by_cases h3 : 1000 < e
        · rw [good_hi h3]
          have h3' : decide (e ≤ 1000) = false := decide_eq_false (by omega)
          go_enter Tryd.func10, Tryd.ntmps10
          go_wp2_with fail
          refine (HC.out _).mono ?_
          rintro r w1 ⟨rfl, rfl⟩
          go_wp2
          go_ret
          exact ⟨rfl, HK.out.2.1⟩
        · rw [good_in h1 (by omega) (by omega), hA]
          have h3' : e ≤ 1000 := by omega
          have h2' : -1000 ≤ e := by omega
          clear hA
          go_enter Tryd.func10, Tryd.ntmps10
          go_wp2_with fail
          refine (HC.out _).mono ?_
          rintro r w1 ⟨rfl, rfl⟩
          go_wp2
          go_ret
          exact ⟨rfl, HK.out.2.1⟩
    · rw [good_big h1]
      have h1i : ¬ (s.size : Int) ≤ 1000 := by omega
      clear h1 hA
      go_enter Tryd.func10, Tryd.ntmps10
      go_wp2_with fail
      refine (HC.out _).mono ?_
      rintro r w1 ⟨rfl, rfl⟩
      go_wp2
      go_ret
      exact ⟨rfl, HK.out.2.1⟩
theorem strip_n {B : Nat} {s : ByteArray} {e : Int} {N : Nat} (h : DA B s e N) (w : World) :
    Calls Tryd.prog 31 #[.string s] w fun r w' => r = .returned (.string (strD (decs N))) ∧ w = w' := by
  obtain ⟨ds, hd, hv⟩ := h.isD
  have := h.len
  refine (strip_c s ds w hd (by omega)).mono ?_
  rintro r w' ⟨s', rfl, hs', rfl⟩
  rw [hv] at hs'
  exact ⟨by rw [hs'.eq_strD], rfl⟩
theorem strip_zero {B : Nat} {s : ByteArray} {e : Int} (h : DA B s e 0) (w : World) :
    Calls Tryd.prog 31 #[.string s] w fun r w' => r = .returned (.string ⟨#[]⟩) ∧ w = w' := by
  have := strip_n h w
  rwa [decs_zero] at this
theorem isD_decs (N : Nat) : IsD (strD (decs N)) (decs N) := isD_strD (decs_lt N)
theorem strD_nonempty {N : Nat} (h : N ≠ 0) : (strD (decs N)).toList.isEmpty = false :=
  (isD_decs N).isEmpty_false (by rw [strD_size]; exact decs_pos h)
set_option maxHeartbeats 800000 in
set_option maxRecDepth 100000 in
theorem ref5Zero_c (B : Nat) (n : Bool) (s : ByteArray) (e : Int) (N : Nat) (w : World) (h : DA B s e N) (hP : Pw w) :
    Calls Tryd.prog 16 #[.agg #[.bool n, .string s, .int .i64 e]] w fun r w' => r = .returned (.bool (decide (N = 0))) ∧ Below w.heap.size w w' := by
  have HK := Lib.hid (kept_one w (.bool n) (.string s) (.int .i64 e) 23 hP)
  by_cases hN : N = 0
  · subst hN
    have HC := Lib.hid (strip_zero h)
    clear h hP
    go_enter Tryd.func16, Tryd.ntmps16
    go_wp2_with fail
    refine (HC.out _).mono ?_
    rintro r w1 ⟨rfl, rfl⟩
    go_wp2
    go_ret
    exact ⟨rfl, HK.out.2.1⟩
  · rw [decide_eq_false hN]
    have HC := Lib.hid (strip_n h)
    have hne := strD_nonempty hN
    clear h hP
    go_enter Tryd.func16, Tryd.ntmps16
    go_wp2_with fail
    refine (HC.out _).mono ?_
    rintro r w1 ⟨rfl, rfl⟩
    go_wp2
    go_ret
    exact ⟨rfl, HK.out.2.1⟩
set_option maxHeartbeats 800000 in
set_option maxRecDepth 100000 in
theorem ref5Top_c (B : Nat) (n : Bool) (s : ByteArray) (e : Int) (N : Nat) (w : World) (h : DA B s e N) (hB : B ≤ 1000000) (hP : Pw w) :
    Calls Tryd.prog 21 #[.agg #[.bool n, .string s, .int .i64 e]] w fun r w' => r = .returned (.int .i64 (dtop N e)) ∧ Below w.heap.size w w' := by
  have HK := Lib.hid (kept_one w (.bool n) (.string s) (.int .i64 e) 23 hP)
  by_cases hN : N = 0
  · subst hN
    have HC := Lib.hid (strip_zero h)
    clear h hP
    go_enter Tryd.func21, Tryd.ntmps21
    go_wp2_with fail
    refine (HC.out _).mono ?_
    rintro r w1 ⟨rfl, rfl⟩
    go_wp2
    go_ret
    exact ⟨rfl, HK.out.2.1⟩
  · have HC := Lib.hid (strip_n h)
    have hne := strD_nonempty hN
    have hl := h.declen
    have hlo := h.lo
    have hhi := h.hi
    have hsz := strD_size (decs N)
    have hlen : (strD (decs N)).size ≤ 5000 := by omega
    have HE := Lib.hid (show e + ((strD (decs N)).size : Int) - 1 = dtop N e by rw [dtop, if_neg hN, hsz])
    clear h hP hsz
    go_enter Tryd.func21, Tryd.ntmps21
    go_wp2_with fail
    refine (HC.out _).mono ?_
    rintro r w1 ⟨rfl, rfl⟩
    go_wp2
    go_ret
    exact ⟨ret_int HE.out, HK.out.2.1⟩
theorem decs_mul_pow {N : Nat} (h : N ≠ 0) (j : Nat) : decs N ++ List.replicate j 0 = decs (N * 10 ^ j) := by
  have h1 := stripZ_eq (decs N ++ List.replicate j 0) (fun d hd => by
    rcases List.mem_append.1 hd with hd | hd
    · exact decs_lt N d hd
    · rw [List.eq_of_mem_replicate hd]; omega)
  rw [dval_append, dval_decs, List.length_replicate, show dval (List.replicate j 0) = 0 by rw [dval, List.reverse_replicate]; exact val_replicate 10 j, Nat.add_zero] at h1
  rw [← h1]
  have h2 := stripZ_eq (decs N) (decs_lt N)
  rw [dval_decs] at h2
  rcases hd : decs N with _ | ⟨d, r⟩
  · exact absurd hd (decs_nz h)
  · rw [hd] at h2
    by_cases h0 : d = 0
    · exfalso
      have h3 := congrArg List.length h2
      subst h0
      have h4 : (stripZ (0 :: r)).length ≤ r.length := by
        rw [stripZ, List.dropWhile_cons_of_pos (by simp)]
        exact (List.dropWhile_sublist _).length_le
      rw [h3] at h4
      simp only [List.length_cons] at h4
      omega
    · simp [stripZ, h0]
set_option maxHeartbeats 800000 in
set_option maxRecDepth 100000 in
theorem ref5At_c (B : Nat) (n : Bool) (s : ByteArray) (e k : Int) (j : Nat) (N : Nat) (w : World) (h : DA B s e N) (hB : B ≤ 1000000) (hk : -1000000 ≤ k) (hj : e - k = (j : Int)) (hP : Pw w) :
    Calls Tryd.prog 36 #[.agg #[.bool n, .string s, .int .i64 e], .int .i64 k] w fun r w' => r = .returned (.string (strD (decs (N * 10 ^ j)))) ∧ Below w.heap.size w w' := by
  have HK := Lib.hid (kept_one w (.bool n) (.string s) (.int .i64 e) 23 hP)
  by_cases hN : N = 0
  · subst hN
    rw [Nat.zero_mul, decs_zero, strD_nil]
    have HC := Lib.hid (strip_zero h)
    clear h hP hj
    go_enter Tryd.func36, Tryd.ntmps36
    go_wp2_with fail
    refine (HC.out _).mono ?_
    rintro r w1 ⟨rfl, rfl⟩
    go_wp2
    go_ret
    exact ⟨rfl, HK.out.2.1⟩
  · have HC := Lib.hid (strip_n h)
    have hne := strD_nonempty hN
    have hl := h.declen
    have hlo := h.lo
    have hhi := h.hi
    have hsz := strD_size (decs N)
    have hlen : (strD (decs N)).size ≤ 5000 := by omega
    have hj2 : j ≤ 2000000 := by omega
    have HZ := Lib.hid (fun w => zeros_c j w (by omega))
    have HD := Lib.hid (decs_mul_pow hN j)
    obtain ⟨c0, c1, c2, -, -, -, -⟩ := HK.out.one
    clear h hP hsz
    go_enter Tryd.func36, Tryd.ntmps36
    go_wp2_with fail
    refine (HC.out _).mono ?_
    rintro r w1 ⟨rfl, rfl⟩
    go_wp2_with fail
    refine (HZ.out _).mono ?_
    rintro r w2 ⟨s2, rfl, hs2, hb⟩
    have hs2l : s2.size ≤ 2000000 := by rw [hs2.size, List.length_replicate]; exact hj2
    have ha := (isD_decs N).append hs2
    rw [HD.out] at ha
    have HA := Lib.hid ha.eq_strD
    replace HK := Lib.hid (HK.out.keep hb)
    clear hb hs2 ha c0 c1 c2
    go_wp2
    go_ret
    exact ⟨by rw [← HA.out]; rfl, HK.out.2.1⟩
theorem nq_nexp_step {M N : Nat} {e k : Int} (hM : M ≠ 0) (h : M % 10 = 0) (hN : N ≠ 0) (hq : nq M = nq N) (hk : k + tz10 M = nexp N e) : M / 10 ≠ 0 ∧ nq (M / 10) = nq N ∧ k + 1 + tz10 (M / 10) = nexp N e := by
  refine ⟨by omega, by rw [← nq_step hM h, hq], ?_⟩
  rw [tz10_step hM h] at hk
  omega
set_option maxHeartbeats 1600000 in
set_option maxRecDepth 100000 in
theorem ref5Norm_c (B : Nat) (n : Bool) (s : ByteArray) (e : Int) (N : Nat) (w : World) (h : DA B s e N) (hB : B ≤ 1000000) (_hP : Pw w) :
    Calls Tryd.prog 14 #[.agg #[.bool n, .string s, .int .i64 e]] w fun r w' => r = .returned (.agg #[.bool n, .string (nstr N), .int .i64 (nexp N e)]) ∧ Below w.heap.size w w' := by
  by_cases hN : N = 0
  · subst hN
    rw [nstr_zero, show nexp 0 e = 0 by simp [nexp]]
    have HC := Lib.hid (strip_zero h)
    clear h
    go_enter Tryd.func14, Tryd.ntmps14
    go_wp2_with fail
    refine (HC.out _).mono ?_
    rintro r w1 ⟨rfl, rfl⟩
    go_wp2
    exact bodyPost_ret (v := .agg #[.bool n, .string ⟨#[48]⟩, .int .i64 0]) (by simp [results, Tryd.results14, go_sem]) rfl
      ⟨rfl, ((Below.refl w.heap.size w).alloc (Nat.le_refl _) _).alloc (by simp) _⟩
  · have HC := Lib.hid (strip_n h)
    have hne := strD_nonempty hN
    have hl := h.declen
    have hlo := h.lo
    have hhi := h.hi
    have hN0 := Lib.hid hN
    have HTZ := Lib.hid (show nexp N e = e + tz10 N by rw [nexp, if_neg hN])
    have htl := tz_len N
    clear h hN
    go_enter Tryd.func14, Tryd.ntmps14
    go_wp2_with fail
    refine (HC.out _).mono ?_
    rintro r w1 ⟨rfl, rfl⟩
    go_wp2
    go_loop [3, 4] (fun v i => ∃ (M : Nat) (k : Int), v = .string (strD (decs M)) ∧ i = .int .i64 k ∧ M ≠ 0 ∧ nq M = nq N ∧ k + tz10 M = nexp N e ∧ e ≤ k ∧ (decs M).length ≤ 5000) (fun v _ => strLen v)
    case atStart => exact ⟨N, e, rfl, rfl, hN0.out, rfl, HTZ.out.symm, Int.le_refl _, hl⟩
    case round =>
      obtain ⟨M, k, rfl, rfl, hM, hq, hk, hek, hml⟩ := hrel
      have hmp := decs_pos hM
      have hsz := strD_size (decs M)
      have hpos : 0 < (strD (decs M)).size := by omega
      have hpos1 : 1 ≤ (strD (decs M)).size := by omega
      have hlt : (strD (decs M)).size - 1 < (strD (decs M)).size := by omega
      have hle5 : (strD (decs M)).size ≤ 5000 := by omega
      have hk2 : k ≤ 1005000 := by have := HTZ.out; omega
      have hb := (isD_decs M).at_ hlt
      have hd0 : (decs M).getD ((strD (decs M)).size - 1) 0 = M % 10 := by
        have h1 := rev_digit (decs M) (decs_lt M) 0 hmp
        rw [dval_decs, Nat.sub_zero, Nat.pow_zero, Nat.div_one] at h1
        rw [hsz, h1]
      rw [hd0] at hb
      have HQ := Lib.hid hq
      have HKE := Lib.hid hk
      have HSZ := Lib.hid hsz
      have HB := Lib.hid hb
      have HM := Lib.hid hM
      clear hq hk hsz hb hd0 hM
      by_cases hd : M % 10 = 0
      · have hd1 : ((((strD (decs M))[(strD (decs M)).size - 1].toNat : Nat) : Int) == 48) = true := by have := HB.out; simp; omega
        have HD := Lib.hid hd
        clear hd
        go_wp2
        go_round
        case rel =>
          obtain ⟨h1, h2, h3⟩ := nq_nexp_step HM.out HD.out hN0.out HQ.out HKE.out
          refine ⟨M / 10, k + 1, ?_, rfl, h1, h2, h3, by omega, ?_⟩
          · have h5 : (strD (decs M)).size - 1 = (decs (M / 10)).length := by rw [HSZ.out, decs_snoc HM.out]; simp
            have h6 : List.take (decs (M / 10)).length (decs M) = decs (M / 10) := by rw [decs_snoc HM.out, List.take_left]
            have h4 := (isD_decs M).cut 0 (decs (M / 10)).length
            rw [h6, List.drop_zero] at h4
            rw [h5]
            exact congrArg Value.string h4.eq_strD
          · have := decs_length_le (Nat.div_le_self M 10); omega
        case measure => simp [strLen]; omega
      · have hd1 : ((((strD (decs M))[(strD (decs M)).size - 1].toNat : Nat) : Int) == 48) = false := by have := HB.out; simp; omega
        have HR := Lib.hid (show strD (decs M) = nstr N ∧ k = nexp N e by
          have h1 := HKE.out
          rw [tz10_none hd] at h1
          have h2 := HQ.out
          rw [nq_none hd] at h2
          exact ⟨by rw [h2, nstr_of hN0.out], by omega⟩)
        clear hd
        go_wp2
        exact bodyPost_ret (v := .agg #[.bool n, .string (strD (decs M)), .int .i64 k]) (by simp [results, Tryd.results14, go_sem]) rfl
          ⟨by rw [HR.out.1, HR.out.2], ((Below.refl w.heap.size w).alloc (Nat.le_refl _) _).alloc (by simp) _⟩
theorem nstr_is0 (N : Nat) : ((nstr N).toList == [48]) = decide (N = 0) := by
  by_cases h : N = 0
  · subst h
    rw [nstr_zero, ByteArray.toList_eq]; rfl
  · have hq := nq_pos h
    have hl := (isD_nstr N).list
    rw [orZero_of (decs_nz hq)] at hl
    rw [decide_eq_false h, beq_eq_false_iff_ne]
    intro e
    rw [e] at hl
    have h1 : decs (nq N) = [0] := by
      rcases hd : decs (nq N) with _ | ⟨d, r⟩
      · rw [hd] at hl; simp at hl
      · rw [hd] at hl
        simp only [List.map_cons, List.map_nil, List.cons.injEq] at hl
        rcases r with _ | ⟨x, y⟩
        · have h2 : d = 0 := by have h3 := hl.1; have h4 : (48 : UInt8).toNat = 48 := rfl; omega
          rw [h2]
        · simp at hl
    have h2 := dval_decs (nq N)
    rw [h1] at h2
    exact hq h2.symm
set_option maxHeartbeats 1600000 in
set_option maxRecDepth 100000 in
theorem ref5Ranged_c (B : Nat) (n : Bool) (s : ByteArray) (e : Int) (N : Nat) (w : World) (h : DA B s e N) (hB : B ≤ 1000000) (hP : Pw w) :
    Calls Tryd.prog 26 #[.agg #[.bool n, .string s, .int .i64 e]] w fun r w' => r = .returned (.bool (rangedB N e)) ∧ Below w.heap.size w w' := by
  have HK := Lib.hid (kept_one w (.bool n) (.string s) (.int .i64 e) 23 hP)
  have HC := Lib.hid (fun w hP => ref5Norm_c B n s e N w h hB hP)
  have g := h0_bounds h
  have ht := top_all N e
  have hz := nstr_is0 N
  clear h hP
  by_cases hN : N = 0
  · have HR := Lib.hid (show true = rangedB N e by
      rw [rangedB, ← ht, hN, nstr_zero]; rfl)
    rw [decide_eq_true hN] at hz
    clear ht hN
    go_enter Tryd.func26, Tryd.ntmps26
    go_wp2_with fail
    refine (HC.out _ HK.out.1).mono ?_
    rintro r w1 ⟨rfl, hb⟩
    replace HK := Lib.hid (HK.out.2.1.trans (hb.mono HK.out.2.1.size))
    clear hb HC
    go_wp2
    go_ret
    exact ⟨ret_bool HR.out, HK.out.alloc HK.out.size _⟩
  · rw [decide_eq_false hN] at hz
    by_cases hx : -300 ≤ nexp N e
    · have HR := Lib.hid (show decide (nexp N e + ((nstr N).size : Int) ≤ 300) = rangedB N e by
        rw [rangedB, decide_eq_true hx, Bool.true_and, decide_eq_decide]; omega)
      clear ht hN
      go_enter Tryd.func26, Tryd.ntmps26
      go_wp2_with fail
      refine (HC.out _ HK.out.1).mono ?_
      rintro r w1 ⟨rfl, hb⟩
      replace HK := Lib.hid (HK.out.2.1.trans (hb.mono HK.out.2.1.size))
      clear hb HC
      go_wp2
      go_ret
      exact ⟨ret_bool HR.out, HK.out.alloc HK.out.size _⟩
    · have HR := Lib.hid (show false = rangedB N e by rw [rangedB, decide_eq_false hx, Bool.false_and])
      clear ht hN
      go_enter Tryd.func26, Tryd.ntmps26
      go_wp2_with fail
      refine (HC.out _ HK.out.1).mono ?_
      rintro r w1 ⟨rfl, hb⟩
      replace HK := Lib.hid (HK.out.2.1.trans (hb.mono HK.out.2.1.size))
      clear hb HC
      go_wp2
      go_ret
      exact ⟨ret_bool HR.out, HK.out.alloc HK.out.size _⟩
end Go.Proofs.YtijalgngcbifgaaDoor
