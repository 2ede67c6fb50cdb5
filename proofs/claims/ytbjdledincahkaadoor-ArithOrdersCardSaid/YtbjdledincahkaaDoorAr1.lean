/-
  Ar1: arith.lowered, arith.decimal, arith.Add, Sub, Mul, Neg, Abs, Scale.
-/
import Derived.Test.YtbjdledincahkaaDoorArB
namespace Go.Proofs.YtbjdledincahkaaDoor
open Go.RowKit


set_option maxHeartbeats 1600000 in
set_option maxRecDepth 100000 in
theorem lowered_c (B : Nat) (n : Bool) (s : ByteArray) (e : Int) (N : Nat) (low : Int) (j : Nat) (w : World) (h : DA B s e N) (hj : e - low = (j : Int)) (_hlo : -1000000 ≤ low ∧ low ≤ 1000000) (hj2 : j ≤ 65536) (hP : Pw w) :
    Calls Tryd.prog 22 #[.agg #[.bool n, .string s, .int .i64 e], .int .i64 low] w fun r w' => ∃ A m c, r = .returned (.slice A m c) ∧ OwnS w' w.heap.size A m c (digs 1000000000 (N * 10 ^ j)) ∧ Below w.heap.size w w' := by
  have HF := Lib.hid h
  have HK := Lib.hid (kept_one w (.bool n) (.string s) (.int .i64 e) 23 hP)
  have HJ := Lib.hid (show max (e - low) 0 = (j : Int) by omega)
  have hw : IntKind.i64.wrap (e - low) = e - low := IntWalk.i64_in _ (by omega)
  have HM := Lib.hid (fun m (hm : (digs 1000000000 N).length = m) => (show m ≤ 100000000 by have := digs_len_decs h.declen; omega))
  clear h hP hj _hlo
  go_enter Tryd.func22, Tryd.ntmps22
  go_wp2
  have hS : Sd w [(w.heap.size, .bool n, .string s, .int .i64 (e))] _ := .of (HK.out).drew
  go_region_held3 (fun w' => ((w'.cell? ⟨w.heap.size, 0, none⟩ = some (.bool n) ∧ w'.cell? ⟨w.heap.size, 1, none⟩ = some (.string s) ∧ w'.cell? ⟨w.heap.size, 2, none⟩ = some (.int .i64 (e))) ∧ True) ∧ Hid (Kept3 w [(w.heap.size, .bool n, .string s, .int .i64 (e))] w')) (assumption)
    (first
      | (go_at_call 33; refine (decCoef_c _ _ _ _ _ _ HF.out (Sd.pw (w0 := w) (L := [(w.heap.size, .bool n, .string s, .int .i64 (e))]) (by assumption))).mono ?_; rintro r w1 ⟨A, m, c, rfl, ho, hb⟩; have hS := Sd.keep (w0 := w) (L := [(w.heap.size, .bool n, .string s, .int .i64 (e))]) (by assumption) hb; have HO := Lib.hid ho.limbs; have HL := Lib.hid (HM.out _ ho.len); clear ho; clear hb)
      | (go_at_call 38; refine (shift_n A m c N _ j _ HO.out HL.out HJ.out hj2 (Sd.pw (w0 := w) (L := [(w.heap.size, .bool n, .string s, .int .i64 (e))]) (by assumption))).mono ?_; rintro r w1 ⟨A2, m2, c2, rfl, ho2, hb⟩; have hS := Sd.keep (w0 := w) (L := [(w.heap.size, .bool n, .string s, .int .i64 (e))]) (by assumption) hb; have HO2 := Lib.hid (ho2.weaken (Sd.bel (w0 := w) (L := [(w.heap.size, .bool n, .string s, .int .i64 (e))]) (by assumption)).size); clear ho2; clear hb))
  rename_i hHeld
  clear hHeld
  obtain ⟨-, hk⟩ := hS
  clear hw
  go_wp2
  go_ret
  exact ⟨_, _, _, rfl, HO2.out, hk.out.2.1⟩

theorem lowered_v (B : Nat) (n : Bool) (s : ByteArray) (e : Int) (N X : Nat) (low : Int) (j : Nat) (w : World) (h : DA B s e N) (hj : e - low = (j : Int)) (hX : N * 10 ^ j = X) (hlo : -1000000 ≤ low ∧ low ≤ 1000000) (hj2 : j ≤ 65536) (hP : Pw w) :
    Calls Tryd.prog 22 #[.agg #[.bool n, .string s, .int .i64 e], .int .i64 low] w fun r w' => ∃ A m c, r = .returned (.slice A m c) ∧ OwnS w' w.heap.size A m c (digs 1000000000 X) ∧ Below w.heap.size w w' := by
  subst hX; exact lowered_c B n s e N low j w h hj hlo hj2 hP
theorem decs_add {X Y L : Nat} (h1 : (decs X).length ≤ L) (h2 : (decs Y).length ≤ L) : (decs (X + Y)).length ≤ L + 1 := by
  refine decs_len ?_
  have h3 := Nat.lt_of_lt_of_le (lt_pow_decs X) (Nat.pow_le_pow_right (by omega) h1)
  have h4 := Nat.lt_of_lt_of_le (lt_pow_decs Y) (Nat.pow_le_pow_right (by omega) h2)
  rw [Nat.pow_succ]
  omega
theorem decs_mul {X Y L M : Nat} (h1 : (decs X).length ≤ L) (h2 : (decs Y).length ≤ M) : (decs (X * Y)).length ≤ L + M := by
  refine decs_len ?_
  have h3 := Nat.lt_of_lt_of_le (lt_pow_decs X) (Nat.pow_le_pow_right (by omega) h1)
  have h4 := Nat.lt_of_lt_of_le (lt_pow_decs Y) (Nat.pow_le_pow_right (by omega) h2)
  rw [Nat.pow_add]
  exact Nat.mul_lt_mul_of_lt_of_lt h3 h4
theorem pneg_false (N : Nat) : pneg false N = false := by unfold pneg; split <;> rfl
theorem pneg_zero (n : Bool) : pneg n 0 = false := rfl
theorem pneg_of {N : Nat} (n : Bool) (h : N ≠ 0) : pneg n N = n := by rw [pneg, if_neg h]
theorem zero_digs {N : Nat} (h : (digs 1000000000 N).length = 0) : N = 0 := by
  have := List.eq_nil_of_length_eq_zero h
  have h2 := val_digs 1000000000 (by omega) N
  rw [this] at h2
  exact h2.symm
set_option maxHeartbeats 1600000 in
set_option maxRecDepth 100000 in
theorem decimal_c (B : Nat) (n : Bool) (A : Option Addr) (m c : Nat) (N : Nat) (e : Int) (w : World) (h : Limbs w A m (digs 1000000000 N)) (hm : m ≤ 100000000) (hN4 : (decs N).length ≤ 4990) (he1 : -(B : Int) ≤ e) (he2 : e ≤ (B : Int)) (hB : B ≤ 1000000) (hP : Pw w) :
    Calls Tryd.prog 23 #[.bool n, .slice A m c, .int .i64 e] w fun r w' => r = .returned (.agg #[.bool (pneg n N), .string (nstr N), .int .i64 (nexp N e)]) ∧ Below w.heap.size w w' := by
  cases n
  · rw [pneg_false]
    have hb0 := (Below.refl w.heap.size w).alloc (Nat.le_refl _) (.cells #[.bool false, .string ⟨#[]⟩, .int .i64 0] 23)
    have HD := Lib.hid (digits_n A m c _ _ (h.below hb0) hm (hP.below hb0))
    have P := Lib.hid (hP.below hb0)
    have X2 := Lib.hid (Box3.new w (.bool false) (.string ⟨#[]⟩) (.int .i64 0) 23)
    have HB0 := Lib.hid hb0
    have HA := Lib.hid (da_orz hN4 he1 he2)
    clear h hP hb0 hN4 he1 he2
    go_enter Tryd.func23, Tryd.ntmps23
    go_wp2_with fail
    refine HD.out.mono ?_
    rintro r w1 ⟨rfl, hb⟩
    have HN := Lib.hid (fun q => decNorm_c B q _ e _ w1 HA.out hB (P.out.below hb))
    replace X2 := Lib.hid (X2.out.keep hb)
    have HB1 := Lib.hid (HB0.out.trans (hb.mono HB0.out.size))
    clear P HB0 HD hb
    go_wp2_with fail
    refine (HN.out _).mono ?_
    rintro r w2 ⟨rfl, hb⟩
    obtain ⟨d0, d1, d2, f0, f1, f2, hz⟩ := X2.out.keep hb
    have HB2 := Lib.hid (HB1.out.trans (hb.mono HB1.out.size))
    clear X2 HB1 hb HN
    go_wp2
    exact bodyPost_ret (by simp [results, Tryd.results23, go_sem, d0, d1, d2]) rfl
      ⟨rfl, ((HB2.out.setCell (by simp) _).setCell (by simp) _).setCell (by simp) _⟩
  · by_cases hN : N = 0
    · subst hN
      rw [pneg_zero]
      have hm0 : m = 0 := by rw [← h.len, digs_zero]; rfl
      have hb0 := (Below.refl w.heap.size w).alloc (Nat.le_refl _) (.cells #[.bool false, .string ⟨#[]⟩, .int .i64 0] 23)
      have HD := Lib.hid (digits_n A m c _ _ (h.below hb0) hm (hP.below hb0))
      have P := Lib.hid (hP.below hb0)
      have X2 := Lib.hid (Box3.new w (.bool false) (.string ⟨#[]⟩) (.int .i64 0) 23)
      have HB0 := Lib.hid hb0
      have HA := Lib.hid (da_orz hN4 he1 he2)
      clear h hP hb0 hN4 he1 he2
      subst hm0
      go_enter Tryd.func23, Tryd.ntmps23
      go_wp2_with fail
      refine HD.out.mono ?_
      rintro r w1 ⟨rfl, hb⟩
      have HN := Lib.hid (fun q => decNorm_c B q _ e _ w1 HA.out hB (P.out.below hb))
      replace X2 := Lib.hid (X2.out.keep hb)
      have HB1 := Lib.hid (HB0.out.trans (hb.mono HB0.out.size))
      clear P HB0 HD hb
      go_wp2_with fail
      refine (HN.out _).mono ?_
      rintro r w2 ⟨rfl, hb⟩
      obtain ⟨d0, d1, d2, f0, f1, f2, hz⟩ := X2.out.keep hb
      have HB2 := Lib.hid (HB1.out.trans (hb.mono HB1.out.size))
      clear X2 HB1 hb HN
      go_wp2
      exact bodyPost_ret (by simp [results, Tryd.results23, go_sem, d0, d1, d2]) rfl
        ⟨rfl, ((HB2.out.setCell (by simp) _).setCell (by simp) _).setCell (by simp) _⟩
    · rw [pneg_of _ hN]
      have hm0 : 0 < m := by
        rcases Nat.eq_zero_or_pos m with h0 | h0
        · exact absurd (by rw [← zero_digs (h.len.trans h0)]) hN
        · exact h0
      have hm1 : (0 : Int) < (m : Int) := by omega
      have hb0 := (Below.refl w.heap.size w).alloc (Nat.le_refl _) (.cells #[.bool false, .string ⟨#[]⟩, .int .i64 0] 23)
      have HD := Lib.hid (digits_n A m c _ _ (h.below hb0) hm (hP.below hb0))
      have P := Lib.hid (hP.below hb0)
      have X2 := Lib.hid (Box3.new w (.bool false) (.string ⟨#[]⟩) (.int .i64 0) 23)
      have HB0 := Lib.hid hb0
      have HA := Lib.hid (da_orz hN4 he1 he2)
      clear h hP hb0 hN4 he1 he2 hN
      go_enter Tryd.func23, Tryd.ntmps23
      go_wp2_with fail
      refine HD.out.mono ?_
      rintro r w1 ⟨rfl, hb⟩
      have HN := Lib.hid (fun q => decNorm_c B q _ e _ w1 HA.out hB (P.out.below hb))
      replace X2 := Lib.hid (X2.out.keep hb)
      have HB1 := Lib.hid (HB0.out.trans (hb.mono HB0.out.size))
      clear P HB0 HD hb
      go_wp2_with fail
      refine (HN.out _).mono ?_
      rintro r w2 ⟨rfl, hb⟩
      obtain ⟨d0, d1, d2, f0, f1, f2, hz⟩ := X2.out.keep hb
      have HB2 := Lib.hid (HB1.out.trans (hb.mono HB1.out.size))
      clear X2 HB1 hb HN
      go_wp2
      exact bodyPost_ret (by simp [results, Tryd.results23, go_sem, d0, d1, d2]) rfl
        ⟨rfl, ((HB2.out.setCell (by simp) _).setCell (by simp) _).setCell (by simp) _⟩

set_option maxHeartbeats 1600000 in
set_option maxRecDepth 100000 in
theorem neg_c (B : Nat) (n : Bool) (s : ByteArray) (e : Int) (N : Nat) (w : World) (h : DA B s e N) (hB : B ≤ 30000) (hP : Pw w) :
    Calls Tryd.prog 17 #[.agg #[.bool n, .string s, .int .i64 e]] w fun r w' => r = .returned (.agg #[.bool (!n), .string (nstr N), .int .i64 (nexp N e)]) ∧ Below w.heap.size w w' := by
  have HF := Lib.hid h
  have HK := Lib.hid (kept4_one w (.bool (!n)) (.string s) (.int .i64 e) (.bool false) (.string ⟨#[]⟩) (.int .i64 0) 23 23 hP)
  have hB5 : B ≤ 1000000 := by omega
  clear h hP
  go_enter Tryd.func17, Tryd.ntmps17
  go_wp2_with fail
  refine (decNorm_c _ _ _ _ _ _ HF.out hB5 HK.out.1.1).mono ?_
  rintro r w1 ⟨rfl, hb⟩
  have hk := HK.out.keep hb
  obtain ⟨x, y, z, d0, d1, d2, f0, f1, f2, hz⟩ := hk.2.1
  have HK1 := Lib.hid hk
  clear HK hk hb
  go_wp2
  exact bodyPost_ret (by simp [results, Tryd.results17, go_sem, d0, d1, d2]) rfl
    ⟨rfl, ((HK1.out.1.2.1.setCell (by simp) _).setCell (by simp) _).setCell (by simp) _⟩

set_option maxHeartbeats 1600000 in
set_option maxRecDepth 100000 in
theorem abs_c (B : Nat) (n : Bool) (s : ByteArray) (e : Int) (N : Nat) (w : World) (h : DA B s e N) (hB : B ≤ 30000) (hP : Pw w) :
    Calls Tryd.prog 19 #[.agg #[.bool n, .string s, .int .i64 e]] w fun r w' => r = .returned (.agg #[.bool false, .string (nstr N), .int .i64 (nexp N e)]) ∧ Below w.heap.size w w' := by
  have HF := Lib.hid h
  have HK := Lib.hid (kept4_one w (.bool false) (.string s) (.int .i64 e) (.bool false) (.string ⟨#[]⟩) (.int .i64 0) 23 23 hP)
  have hB5 : B ≤ 1000000 := by omega
  clear h hP
  go_enter Tryd.func19, Tryd.ntmps19
  go_wp2_with fail
  refine (decNorm_c _ _ _ _ _ _ HF.out hB5 HK.out.1.1).mono ?_
  rintro r w1 ⟨rfl, hb⟩
  have hk := HK.out.keep hb
  obtain ⟨x, y, z, d0, d1, d2, f0, f1, f2, hz⟩ := hk.2.1
  have HK1 := Lib.hid hk
  clear HK hk hb
  go_wp2
  exact bodyPost_ret (by simp [results, Tryd.results19, go_sem, d0, d1, d2]) rfl
    ⟨rfl, ((HK1.out.1.2.1.setCell (by simp) _).setCell (by simp) _).setCell (by simp) _⟩

set_option maxHeartbeats 1600000 in
set_option maxRecDepth 100000 in
theorem scale_c (B : Nat) (n : Bool) (s : ByteArray) (e : Int) (N : Nat) (k : Int) (hk1 : -10000 ≤ k) (hk2 : k ≤ 10000) (w : World) (h : DA B s e N) (hB : B ≤ 20000) (hP : Pw w) :
    Calls Tryd.prog 21 #[.agg #[.bool n, .string s, .int .i64 e], .int .i64 k] w fun r w' => r = .returned (.agg #[.bool n, .string (nstr N), .int .i64 (nexp N (e + k))]) ∧ Below w.heap.size w w' := by
  have HF := Lib.hid (show DA 30000 s (e + k) N from ⟨h.isD, h.pos, h.len, by have := h.lo; omega, by have := h.hi; omega⟩)
  have HK := Lib.hid (kept4_one w (.bool n) (.string s) (.int .i64 (e + k)) (.bool false) (.string ⟨#[]⟩) (.int .i64 0) 23 23 hP)
  have hlo := h.lo
  have hhi := h.hi
  have hwr : IntKind.i64.wrap (e + k) = e + k := IntWalk.i64_in _ (by omega)
  have hB5 : 30000 ≤ 1000000 := by omega
  clear h hP
  go_enter Tryd.func21, Tryd.ntmps21
  go_wp2_with fail
  refine (decNorm_c _ _ _ _ _ _ HF.out hB5 HK.out.1.1).mono ?_
  rintro r w1 ⟨rfl, hb⟩
  have hk := HK.out.keep hb
  obtain ⟨x, y, z, d0, d1, d2, f0, f1, f2, hz⟩ := hk.2.1
  have HK1 := Lib.hid hk
  clear HK hk hb
  go_wp2
  exact bodyPost_ret (by simp [results, Tryd.results21, go_sem, d0, d1, d2]) rfl
    ⟨rfl, ((HK1.out.1.2.1.setCell (by simp) _).setCell (by simp) _).setCell (by simp) _⟩

end Go.Proofs.YtbjdledincahkaaDoor
