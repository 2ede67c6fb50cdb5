/-
  Rf8B: the document's Round, where the place is below the exponent.
-/
import Derived.Test.YtekanlcfgfllcaaDoorKI
set_option maxRecDepth 100000
namespace Go.Proofs.YtekanlcfgfllcaaDoor
open Go.RowKit
attribute [local go_sem] dec_field0 dec_field1 dec_field2 in
set_option maxHeartbeats 16000000 in
set_option maxRecDepth 100000 in
theorem ref5Round_lt_c (B : Nat) (m : Int) (n : Bool) (s t : ByteArray) (e t0 : Int) (N S X W : Nat) (k p : Int) (w : World) (h : DA B s e N) (hst : DA 0 t t0 S) (hS : S ≠ 0) (hk : min e p = k)
    (hX : N * 10 ^ (e - k).toNat = X) (hW : S * 10 ^ (p - k).toNat = W) (hB : B ≤ 30000) (hp1 : -30000 ≤ p) (hp2 : p ≤ 30000) (hx : (decs X).length ≤ 4950) (hw : (decs W).length ≤ 4950) (hP : Pw w) (hpe : p < e) :
    Calls Tryd.prog 12 #[.int .i64 m, .agg #[.bool n, .string s, .int .i64 e], .string t, .int .i64 p] w fun r w' => r = .returned (rndV m n X W k) ∧ Below w.heap.size w w' := by
  have HF := Lib.hid (h.mono hB)
  have HST := Lib.hid (strip_n hst)
  have HK := kept4_one w (.bool n) (.string s) (.int .i64 e) (.bool false) (.string ⟨#[]⟩) (.int .i64 0) 23 23 hP
  have hlo := h.lo
  have hhi := h.hi
  have hB5 : 30000 ≤ 1000000 := by omega
  have hk1 : -1000000 ≤ k := by omega
  have hk3 : -(30000 : Nat) ≤ k := by omega
  have hk4 : k ≤ (30000 : Nat) := by omega
  have HI := Lib.hid (show e - k = ((e - k).toNat : Int) by omega)
  have HX := Lib.hid hX
  obtain ⟨J, hJ0⟩ : ∃ J : Nat, p - k = (J : Int) := ⟨(p - k).toNat, by omega⟩
  have hJ : J ≤ 100000 := by omega
  have hcat : strD (decs S) ++ strD (List.replicate J 0) = strD (decs W) := by
    have ha := (isD_decs S).append (isD_strD (ds := List.replicate J 0) (by intro d hd; rw [List.eq_of_mem_replicate hd]; omega))
    rw [decs_mul_pow hS J, show J = (p - k).toNat by omega, hW] at ha
    rw [show J = (p - k).toNat by omega]
    exact ha.eq_strD
  have hsz1 : (strD (decs S)).size ≤ 5000 := by rw [strD_size]; exact hst.declen
  have hsz2 : (strD (List.replicate J 0)).size ≤ 100000 := by rw [strD_size, List.length_replicate]; exact hJ
  have hW0 : 0 < W := by rw [← hW]; exact Nat.mul_pos (Nat.pos_of_ne_zero hS) (pow_pos10 _)
  have HXL := Lib.hid (show (decs X).length ≤ 10000 by omega)
  have HWL := Lib.hid (show (decs W).length ≤ 10000 by omega)
  have HR0 := Lib.hid (show X % W = 0 → rndV m n X W k = .tuple #[.agg #[.bool n, .string (nstr N), .int .i64 (nexp N e)], .int .i64 0] from fun hh => by
    have h1 := n_finer (k := e) (k' := k) hX.symm (by omega)
    rw [rndV_mult hh, h1.1, h1.2])
  have HR7 := Lib.hid (show m = 7 → X % W ≠ 0 → rndV m n X W k = .tuple #[.agg #[.bool false, .string ⟨#[]⟩, .int .i64 0], .int .i64 11] from fun h1 h2 => by rw [h1]; exact rndV_no h2)
  have HRN := Lib.hid (fun q (h1 : m ≠ 7) (h2 : X % W ≠ 0) hq => rndV_up (n := n) (k := k) h1 h2 q hq)
  have hQL : (decs (X / W)).length ≤ 4950 := Nat.le_trans (decs_length_le (Nat.div_le_self X W)) hx
  have HQL2 := Lib.hid (Nat.le_trans (decs_add (L := 4950) (X := X / W) (Y := 1) hQL (by rw [decs_snoc (by omega), decs_zero]; decide)) (by omega : 4950 + 1 ≤ 10000))
  have HQL := Lib.hid (Nat.le_trans hQL (by omega : 4950 ≤ 10000))
  have HRL := Lib.hid (show ∀ q, X / W + (if upN m n X W then 1 else 0) = q → (decs (q * W)).length ≤ 4990 from fun q hq => by
    have h1 : q * W ≤ X + W := by
      have h2 := div_step X W
      have h3 : q ≤ X / W + 1 := by rw [← hq]; split <;> omega
      have h4 := Nat.mul_le_mul_right W h3
      rw [Nat.add_mul, Nat.one_mul] at h4
      omega
    have h5 := decs_add hx hw
    have h6 := decs_length_le h1
    omega)
  have HRL2 := Lib.hid (show (decs (X % W)).length ≤ 10000 by have := decs_length_le (Nat.mod_le X W); omega)
  have HOV := Lib.hid (fun w => over_n X W w HXL.out HWL.out hW0)
  have HUP0 := Lib.hid (show ∀ v, cmpZ ((2 * (X % W) : Nat) : Int) (W : Int) = v → upN m n X W = upB m n (decide (X / W % 2 = 1)) v from fun v hv => by rw [← hv]; rfl)
  generalize hR : X % W = R at *
  generalize hQ : X / W = Q at *
  clear hR hQ hQL h hst hS hX hW hB hp1 hp2 hx hw hP hlo hhi
  obtain rfl : p = k := by omega
  clear hk
  go_enter Tryd.func12, Tryd.ntmps12
  go_wp2_with fail
  refine (HST.out _).mono ?_
  rintro r w1 ⟨rfl, rfl⟩
  go_wp2_with fail
  refine (zeros_v _ J _ (by omega) hJ).mono ?_
  rintro r w1 ⟨rfl, hb⟩
  replace HK := HK.keep hb
  clear hb
  obtain ⟨c0, c1, c2, -, -, -, -⟩ := HK.1.one
  obtain ⟨d0, d1, d2, f0, f1, f2⟩ := HK.res
  go_wp2_with fail
  refine (ref5At_v _ _ _ _ _ _ _ _ _ HF.out hB5 hk1 HI.out HX.out HK.1.1).mono ?_
  rintro r w1 ⟨rfl, hb⟩
  replace HK := HK.keep hb
  clear hb
  clear c0 c1 c2 d0 d1 d2 f0 f1 f2
  obtain ⟨c0, c1, c2, -, -, -, -⟩ := HK.1.one
  obtain ⟨d0, d1, d2, f0, f1, f2⟩ := HK.res
  go_wp2_with fail
  refine (HOV.out _).mono ?_
  rintro r w1 ⟨rfl, hb⟩
  replace HK := HK.keep hb
  clear hb
  clear c0 c1 c2 d0 d1 d2 f0 f1 f2
  obtain ⟨c0, c1, c2, -, -, -, -⟩ := HK.1.one
  obtain ⟨d0, d1, d2, f0, f1, f2⟩ := HK.res
  by_cases hm : R = 0
  · have hre : (strD (decs R)).toList.isEmpty = true := by rw [strD_empty]; exact decide_eq_true hm
    have HR := Lib.hid (HR0.out hm)
    clear hm
    go_wp2_with fail
    refine (ref5Norm_c _ _ _ _ _ _ HF.out hB5 HK.1.1).mono ?_
    rintro r w1 ⟨rfl, hb⟩
    replace HK := HK.keep hb
    clear hb
    clear c0 c1 c2 d0 d1 d2 f0 f1 f2
    obtain ⟨c0, c1, c2, -, -, -, -⟩ := HK.1.one
    obtain ⟨d0, d1, d2, f0, f1, f2⟩ := HK.res
    go_wp2
    exact bodyPost_ret (v := .tuple #[.agg #[.bool n, .string (nstr N), .int .i64 (nexp N e)], .int .i64 0]) (by simp [results, Tryd.results12, go_sem, d0, d1, d2]) rfl
      ⟨by rw [HR.out], (HK.store _ _ _).1.2.1⟩
  · have hre : (strD (decs R)).toList.isEmpty = false := by rw [strD_empty]; exact decide_eq_false hm
    by_cases h7 : m = 7
    · have HR := Lib.hid (HR7.out h7 hm)
      have h7b : (m == 7) = true := by simpa using h7
      clear hm h7
      go_wp2
      exact bodyPost_ret (v := .tuple #[.agg #[.bool false, .string ⟨#[]⟩, .int .i64 0], .int .i64 11]) (by simp [results, Tryd.results12, go_sem, d0, d1, d2]) rfl
        ⟨by rw [HR.out], (HK.store _ _ _).1.2.1⟩
    · have HRR := Lib.hid (fun q => HRN.out q h7 hm)
      have h7b : (m == 7) = false := by simpa using h7
      clear hm h7
      go_wp2_with fail
      refine (plus_n R R _ HRL2.out HRL2.out).mono ?_
      rintro r w1 ⟨rfl, hb⟩
      replace HK := HK.keep hb
      clear hb
      clear c0 c1 c2 d0 d1 d2 f0 f1 f2
      obtain ⟨c0, c1, c2, -, -, -, -⟩ := HK.1.one
      obtain ⟨d0, d1, d2, f0, f1, f2⟩ := HK.res
      rcases Nat.lt_trichotomy (R + R) W with hcmp | hcmp | hcmp
      · have HUP := Lib.hid (HUP0.out (-1) (by rw [cmpZ_lt (by omega)]))
        have HL1 := Lib.hid (show decide (R + R < W) = true from decide_eq_true (by omega))
        have HL2 := Lib.hid (show decide (W < R + R) = false from decide_eq_false (by omega))
        clear hcmp
        go_wp2_with fail
        refine (less_v _ _ _ _ HL1.out).mono ?_
        rintro r w1 ⟨rfl, rfl⟩
        go_wp2_with fail
        refine (less_v _ _ _ _ HL2.out).mono ?_
        rintro r w1 ⟨rfl, rfl⟩
        by_cases hQ0 : Q = 0
        · have hsz : (strD (decs Q)).size = 0 := by rw [strD_size, hQ0, decs_zero]; rfl
          have HBO := Lib.hid (show false = decide (Q % 2 = 1) by rw [hQ0]; rfl)
          clear hQ0
          have HUN := Lib.hid (show upN m n X W = upB m n false (-1) by rw [HBO.out]; exact HUP.out)
          rcases hu : upB m n false (-1) with _ | _
          · have HUU := Lib.hid (show awayB m n false (-1) = false by rw [awayB_eq]; exact hu)
            have HR := Lib.hid (show rndV m n X W p = .tuple #[.agg #[.bool n, .string (nstr ((Q) * W)), .int .i64 (nexp ((Q) * W) p)], .int .i64 0] from HRR.out (Q) (by rw [HUN.out, hu]; rfl))
            have HML := Lib.hid (HRL.out (Q) (by rw [HUN.out, hu]; rfl))
            clear hu HUN HBO
            go_wp2_with fail
            refine (ref5Up_c _ _ _ _ _).mono ?_
            rintro r w1 ⟨rfl, rfl⟩
            rw [HUU.out]
            go_wp2
            clear c0 c1 c2 d0 d1 d2 f0 f1 f2
            have HQ1 := Lib.hid (show (decs (Q)).length ≤ 10000 by have := HQL2.out; have := HQL.out; omega)
            have hS : Sd4 w [(w.heap.size, .bool n, .string s, .int .i64 (e))] ((w.heap.size + 1)) _ := .of (HK).drew
            go_region_held3 (fun w' => (((w'.cell? ⟨w.heap.size, 0, none⟩ = some (.bool n) ∧ w'.cell? ⟨w.heap.size, 1, none⟩ = some (.string s) ∧ w'.cell? ⟨w.heap.size, 2, none⟩ = some (.int .i64 (e))) ∧ True) ∧ (w'.cell? ⟨(w.heap.size + 1), 0, none⟩ = some (rd w' ((w.heap.size + 1)) 0) ∧ w'.cell? ⟨(w.heap.size + 1), 1, none⟩ = some (rd w' ((w.heap.size + 1)) 1) ∧ w'.cell? ⟨(w.heap.size + 1), 2, none⟩ = some (rd w' ((w.heap.size + 1)) 2) ∧ w'.frozen? ⟨(w.heap.size + 1), 0, none⟩ = false ∧ w'.frozen? ⟨(w.heap.size + 1), 1, none⟩ = false ∧ w'.frozen? ⟨(w.heap.size + 1), 2, none⟩ = false)) ∧ Hid (Kept4 w [(w.heap.size, .bool n, .string s, .int .i64 (e))] ((w.heap.size + 1)) w')) (first | exact hS | exact Sd4.store (w0 := w) (L := [(w.heap.size, .bool n, .string s, .int .i64 (e))]) (g := (w.heap.size + 1)) hS _ _ _)
              (first
                | (go_at_call 40; refine (times_n (Q) W _ HQ1.out HWL.out).mono ?_; rintro r w1 ⟨rfl, hb⟩; have hS := Sd4.keep (w0 := w) (L := [(w.heap.size, .bool n, .string s, .int .i64 (e))]) (g := (w.heap.size + 1)) (by assumption) hb; clear hb)
                | (go_at_call 39; refine (ref5Make_c 30000 _ _ _ _ HML.out hk3 hk4 (by omega) (Sd4.pw (w0 := w) (L := [(w.heap.size, .bool n, .string s, .int .i64 (e))]) (g := (w.heap.size + 1)) (by assumption))).mono ?_; rintro r w1 ⟨rfl, hb⟩; have hS := Sd4.keep (w0 := w) (L := [(w.heap.size, .bool n, .string s, .int .i64 (e))]) (g := (w.heap.size + 1)) (by assumption) hb; clear hb))
            rename_i hHeld
            clear hHeld
            obtain ⟨⟨-, ⟨d0, d1, d2, f0, f1, f2⟩⟩, hk⟩ := hS
            go_wp2
            exact bodyPost_ret (by simp [results, Tryd.results12, go_sem, d0, d1, d2] <;> rfl) rfl
              ⟨by rw [HR.out], (hk.out.store _ _ _).1.2.1⟩
          · have HUU := Lib.hid (show awayB m n false (-1) = true by rw [awayB_eq]; exact hu)
            have HR := Lib.hid (show rndV m n X W p = .tuple #[.agg #[.bool n, .string (nstr ((Q + 1) * W)), .int .i64 (nexp ((Q + 1) * W) p)], .int .i64 0] from HRR.out (Q + 1) (by rw [HUN.out, hu]; rfl))
            have HML := Lib.hid (HRL.out (Q + 1) (by rw [HUN.out, hu]; rfl))
            clear hu HUN HBO
            go_wp2_with fail
            refine (ref5Up_c _ _ _ _ _).mono ?_
            rintro r w1 ⟨rfl, rfl⟩
            rw [HUU.out]
            go_wp2_with fail
            refine (plus_one Q _ HQL.out).mono ?_
            rintro r w1 ⟨rfl, hb⟩
            replace HK := HK.keep hb
            clear hb
            clear c0 c1 c2 d0 d1 d2 f0 f1 f2
            obtain ⟨c0, c1, c2, -, -, -, -⟩ := HK.1.one
            obtain ⟨d0, d1, d2, f0, f1, f2⟩ := HK.res
            go_wp2
            clear c0 c1 c2 d0 d1 d2 f0 f1 f2
            have HQ1 := Lib.hid (show (decs (Q + 1)).length ≤ 10000 by have := HQL2.out; have := HQL.out; omega)
            have hS : Sd4 w [(w.heap.size, .bool n, .string s, .int .i64 (e))] ((w.heap.size + 1)) _ := .of (HK).drew
            go_region_held3 (fun w' => (((w'.cell? ⟨w.heap.size, 0, none⟩ = some (.bool n) ∧ w'.cell? ⟨w.heap.size, 1, none⟩ = some (.string s) ∧ w'.cell? ⟨w.heap.size, 2, none⟩ = some (.int .i64 (e))) ∧ True) ∧ (w'.cell? ⟨(w.heap.size + 1), 0, none⟩ = some (rd w' ((w.heap.size + 1)) 0) ∧ w'.cell? ⟨(w.heap.size + 1), 1, none⟩ = some (rd w' ((w.heap.size + 1)) 1) ∧ w'.cell? ⟨(w.heap.size + 1), 2, none⟩ = some (rd w' ((w.heap.size + 1)) 2) ∧ w'.frozen? ⟨(w.heap.size + 1), 0, none⟩ = false ∧ w'.frozen? ⟨(w.heap.size + 1), 1, none⟩ = false ∧ w'.frozen? ⟨(w.heap.size + 1), 2, none⟩ = false)) ∧ Hid (Kept4 w [(w.heap.size, .bool n, .string s, .int .i64 (e))] ((w.heap.size + 1)) w')) (first | exact hS | exact Sd4.store (w0 := w) (L := [(w.heap.size, .bool n, .string s, .int .i64 (e))]) (g := (w.heap.size + 1)) hS _ _ _)
              (first
                | (go_at_call 40; refine (times_n (Q + 1) W _ HQ1.out HWL.out).mono ?_; rintro r w1 ⟨rfl, hb⟩; have hS := Sd4.keep (w0 := w) (L := [(w.heap.size, .bool n, .string s, .int .i64 (e))]) (g := (w.heap.size + 1)) (by assumption) hb; clear hb)
                | (go_at_call 39; refine (ref5Make_c 30000 _ _ _ _ HML.out hk3 hk4 (by omega) (Sd4.pw (w0 := w) (L := [(w.heap.size, .bool n, .string s, .int .i64 (e))]) (g := (w.heap.size + 1)) (by assumption))).mono ?_; rintro r w1 ⟨rfl, hb⟩; have hS := Sd4.keep (w0 := w) (L := [(w.heap.size, .bool n, .string s, .int .i64 (e))]) (g := (w.heap.size + 1)) (by assumption) hb; clear hb))
            rename_i hHeld
            clear hHeld
            obtain ⟨⟨-, ⟨d0, d1, d2, f0, f1, f2⟩⟩, hk⟩ := hS
            go_wp2
            exact bodyPost_ret (by simp [results, Tryd.results12, go_sem, d0, d1, d2] <;> rfl) rfl
              ⟨by rw [HR.out], (hk.out.store _ _ _).1.2.1⟩
        · have hsz := strD_size (decs Q)
          have hpos := decs_pos hQ0
          have hpos1 : 0 < (strD (decs Q)).size := by omega
          have hlt : (strD (decs Q)).size - 1 < (strD (decs Q)).size := by omega
          have hle5 : (strD (decs Q)).size ≤ 10000 := by have := HQL.out; omega
          have hbt := (isD_decs Q).at_ hlt
          have hd0 : (decs Q).getD ((strD (decs Q)).size - 1) 0 = Q % 10 := by
            have h1 := rev_digit (decs Q) (decs_lt Q) 0 hpos
            rw [dval_decs, Nat.sub_zero, Nat.pow_zero, Nat.div_one] at h1
            rw [hsz, h1]
          rw [hd0] at hbt
          have hblo : (48 : Int) ≤ (((strD (decs Q))[(strD (decs Q)).size - 1].toNat : Nat) : Int) := by omega
          have hbhi : (((strD (decs Q))[(strD (decs Q)).size - 1].toNat : Nat) : Int) < 58 := by omega
          obtain ⟨r, hr⟩ : ∃ r : Int, ((((strD (decs Q))[(strD (decs Q)).size - 1].toNat : Nat) : Int) - 48) % 2 = r := ⟨_, rfl⟩
          obtain ⟨b, hb2⟩ : ∃ b : Bool, (r == 1) = b := ⟨_, rfl⟩
          have HBO := Lib.hid (show b = decide (Q % 2 = 1) by
            rw [← hb2, ← hr, Bool.eq_iff_iff]
            simp only [beq_iff_eq, decide_eq_true_eq]
            omega)
          clear hsz hpos hbt hd0 hQ0
          have HUN := Lib.hid (show upN m n X W = upB m n b (-1) by rw [HBO.out]; exact HUP.out)
          rcases hu : upB m n b (-1) with _ | _
          · have HUU := Lib.hid (show awayB m n b (-1) = false by rw [awayB_eq]; exact hu)
            have HR := Lib.hid (show rndV m n X W p = .tuple #[.agg #[.bool n, .string (nstr ((Q) * W)), .int .i64 (nexp ((Q) * W) p)], .int .i64 0] from HRR.out (Q) (by rw [HUN.out, hu]; rfl))
            have HML := Lib.hid (HRL.out (Q) (by rw [HUN.out, hu]; rfl))
            clear hu HUN HBO
            go_wp2_with fail
            refine (ref5Up_c _ _ _ _ _).mono ?_
            rintro r w1 ⟨rfl, rfl⟩
            rw [HUU.out]
            go_wp2
            clear c0 c1 c2 d0 d1 d2 f0 f1 f2
            have HQ1 := Lib.hid (show (decs (Q)).length ≤ 10000 by have := HQL2.out; have := HQL.out; omega)
            have hS : Sd4 w [(w.heap.size, .bool n, .string s, .int .i64 (e))] ((w.heap.size + 1)) _ := .of (HK).drew
            go_region_held3 (fun w' => (((w'.cell? ⟨w.heap.size, 0, none⟩ = some (.bool n) ∧ w'.cell? ⟨w.heap.size, 1, none⟩ = some (.string s) ∧ w'.cell? ⟨w.heap.size, 2, none⟩ = some (.int .i64 (e))) ∧ True) ∧ (w'.cell? ⟨(w.heap.size + 1), 0, none⟩ = some (rd w' ((w.heap.size + 1)) 0) ∧ w'.cell? ⟨(w.heap.size + 1), 1, none⟩ = some (rd w' ((w.heap.size + 1)) 1) ∧ w'.cell? ⟨(w.heap.size + 1), 2, none⟩ = some (rd w' ((w.heap.size + 1)) 2) ∧ w'.frozen? ⟨(w.heap.size + 1), 0, none⟩ = false ∧ w'.frozen? ⟨(w.heap.size + 1), 1, none⟩ = false ∧ w'.frozen? ⟨(w.heap.size + 1), 2, none⟩ = false)) ∧ Hid (Kept4 w [(w.heap.size, .bool n, .string s, .int .i64 (e))] ((w.heap.size + 1)) w')) (first | exact hS | exact Sd4.store (w0 := w) (L := [(w.heap.size, .bool n, .string s, .int .i64 (e))]) (g := (w.heap.size + 1)) hS _ _ _)
              (first
                | (go_at_call 40; refine (times_n (Q) W _ HQ1.out HWL.out).mono ?_; rintro r w1 ⟨rfl, hb⟩; have hS := Sd4.keep (w0 := w) (L := [(w.heap.size, .bool n, .string s, .int .i64 (e))]) (g := (w.heap.size + 1)) (by assumption) hb; clear hb)
                | (go_at_call 39; refine (ref5Make_c 30000 _ _ _ _ HML.out hk3 hk4 (by omega) (Sd4.pw (w0 := w) (L := [(w.heap.size, .bool n, .string s, .int .i64 (e))]) (g := (w.heap.size + 1)) (by assumption))).mono ?_; rintro r w1 ⟨rfl, hb⟩; have hS := Sd4.keep (w0 := w) (L := [(w.heap.size, .bool n, .string s, .int .i64 (e))]) (g := (w.heap.size + 1)) (by assumption) hb; clear hb))
            rename_i hHeld
            clear hHeld
            obtain ⟨⟨-, ⟨d0, d1, d2, f0, f1, f2⟩⟩, hk⟩ := hS
            go_wp2
            exact bodyPost_ret (by simp [results, Tryd.results12, go_sem, d0, d1, d2] <;> rfl) rfl
              ⟨by rw [HR.out], (hk.out.store _ _ _).1.2.1⟩
          · have HUU := Lib.hid (show awayB m n b (-1) = true by rw [awayB_eq]; exact hu)
            have HR := Lib.hid (show rndV m n X W p = .tuple #[.agg #[.bool n, .string (nstr ((Q + 1) * W)), .int .i64 (nexp ((Q + 1) * W) p)], .int .i64 0] from HRR.out (Q + 1) (by rw [HUN.out, hu]; rfl))
            have HML := Lib.hid (HRL.out (Q + 1) (by rw [HUN.out, hu]; rfl))
            clear hu HUN HBO
            go_wp2_with fail
            refine (ref5Up_c _ _ _ _ _).mono ?_
            rintro r w1 ⟨rfl, rfl⟩
            rw [HUU.out]
            go_wp2_with fail
            refine (plus_one Q _ HQL.out).mono ?_
            rintro r w1 ⟨rfl, hb⟩
            replace HK := HK.keep hb
            clear hb
            clear c0 c1 c2 d0 d1 d2 f0 f1 f2
            obtain ⟨c0, c1, c2, -, -, -, -⟩ := HK.1.one
            obtain ⟨d0, d1, d2, f0, f1, f2⟩ := HK.res
            go_wp2
            clear c0 c1 c2 d0 d1 d2 f0 f1 f2
            have HQ1 := Lib.hid (show (decs (Q + 1)).length ≤ 10000 by have := HQL2.out; have := HQL.out; omega)
            have hS : Sd4 w [(w.heap.size, .bool n, .string s, .int .i64 (e))] ((w.heap.size + 1)) _ := .of (HK).drew
            go_region_held3 (fun w' => (((w'.cell? ⟨w.heap.size, 0, none⟩ = some (.bool n) ∧ w'.cell? ⟨w.heap.size, 1, none⟩ = some (.string s) ∧ w'.cell? ⟨w.heap.size, 2, none⟩ = some (.int .i64 (e))) ∧ True) ∧ (w'.cell? ⟨(w.heap.size + 1), 0, none⟩ = some (rd w' ((w.heap.size + 1)) 0) ∧ w'.cell? ⟨(w.heap.size + 1), 1, none⟩ = some (rd w' ((w.heap.size + 1)) 1) ∧ w'.cell? ⟨(w.heap.size + 1), 2, none⟩ = some (rd w' ((w.heap.size + 1)) 2) ∧ w'.frozen? ⟨(w.heap.size + 1), 0, none⟩ = false ∧ w'.frozen? ⟨(w.heap.size + 1), 1, none⟩ = false ∧ w'.frozen? ⟨(w.heap.size + 1), 2, none⟩ = false)) ∧ Hid (Kept4 w [(w.heap.size, .bool n, .string s, .int .i64 (e))] ((w.heap.size + 1)) w')) (first | exact hS | exact Sd4.store (w0 := w) (L := [(w.heap.size, .bool n, .string s, .int .i64 (e))]) (g := (w.heap.size + 1)) hS _ _ _)
              (first
                | (go_at_call 40; refine (times_n (Q + 1) W _ HQ1.out HWL.out).mono ?_; rintro r w1 ⟨rfl, hb⟩; have hS := Sd4.keep (w0 := w) (L := [(w.heap.size, .bool n, .string s, .int .i64 (e))]) (g := (w.heap.size + 1)) (by assumption) hb; clear hb)
                | (go_at_call 39; refine (ref5Make_c 30000 _ _ _ _ HML.out hk3 hk4 (by omega) (Sd4.pw (w0 := w) (L := [(w.heap.size, .bool n, .string s, .int .i64 (e))]) (g := (w.heap.size + 1)) (by assumption))).mono ?_; rintro r w1 ⟨rfl, hb⟩; have hS := Sd4.keep (w0 := w) (L := [(w.heap.size, .bool n, .string s, .int .i64 (e))]) (g := (w.heap.size + 1)) (by assumption) hb; clear hb))
            rename_i hHeld
            clear hHeld
            obtain ⟨⟨-, ⟨d0, d1, d2, f0, f1, f2⟩⟩, hk⟩ := hS
            go_wp2
            exact bodyPost_ret (by simp [results, Tryd.results12, go_sem, d0, d1, d2] <;> rfl) rfl
              ⟨by rw [HR.out], (hk.out.store _ _ _).1.2.1⟩
      · have HUP := Lib.hid (HUP0.out (0) (by rw [cmpZ_eq (by omega)]))
        have HL1 := Lib.hid (show decide (R + R < W) = false from decide_eq_false (by omega))
        have HL2 := Lib.hid (show decide (W < R + R) = false from decide_eq_false (by omega))
        clear hcmp
        go_wp2_with fail
        refine (less_v _ _ _ _ HL1.out).mono ?_
        rintro r w1 ⟨rfl, rfl⟩
        go_wp2_with fail
        refine (less_v _ _ _ _ HL2.out).mono ?_
        rintro r w1 ⟨rfl, rfl⟩
        by_cases hQ0 : Q = 0
        · have hsz : (strD (decs Q)).size = 0 := by rw [strD_size, hQ0, decs_zero]; rfl
          have HBO := Lib.hid (show false = decide (Q % 2 = 1) by rw [hQ0]; rfl)
          clear hQ0
          have HUN := Lib.hid (show upN m n X W = upB m n false (0) by rw [HBO.out]; exact HUP.out)
          rcases hu : upB m n false (0) with _ | _
          · have HUU := Lib.hid (show awayB m n false (0) = false by rw [awayB_eq]; exact hu)
            have HR := Lib.hid (show rndV m n X W p = .tuple #[.agg #[.bool n, .string (nstr ((Q) * W)), .int .i64 (nexp ((Q) * W) p)], .int .i64 0] from HRR.out (Q) (by rw [HUN.out, hu]; rfl))
            have HML := Lib.hid (HRL.out (Q) (by rw [HUN.out, hu]; rfl))
            clear hu HUN HBO
            go_wp2_with fail
            refine (ref5Up_c _ _ _ _ _).mono ?_
            rintro r w1 ⟨rfl, rfl⟩
            rw [HUU.out]
            go_wp2
            clear c0 c1 c2 d0 d1 d2 f0 f1 f2
            have HQ1 := Lib.hid (show (decs (Q)).length ≤ 10000 by have := HQL2.out; have := HQL.out; omega)
            have hS : Sd4 w [(w.heap.size, .bool n, .string s, .int .i64 (e))] ((w.heap.size + 1)) _ := .of (HK).drew
            go_region_held3 (fun w' => (((w'.cell? ⟨w.heap.size, 0, none⟩ = some (.bool n) ∧ w'.cell? ⟨w.heap.size, 1, none⟩ = some (.string s) ∧ w'.cell? ⟨w.heap.size, 2, none⟩ = some (.int .i64 (e))) ∧ True) ∧ (w'.cell? ⟨(w.heap.size + 1), 0, none⟩ = some (rd w' ((w.heap.size + 1)) 0) ∧ w'.cell? ⟨(w.heap.size + 1), 1, none⟩ = some (rd w' ((w.heap.size + 1)) 1) ∧ w'.cell? ⟨(w.heap.size + 1), 2, none⟩ = some (rd w' ((w.heap.size + 1)) 2) ∧ w'.frozen? ⟨(w.heap.size + 1), 0, none⟩ = false ∧ w'.frozen? ⟨(w.heap.size + 1), 1, none⟩ = false ∧ w'.frozen? ⟨(w.heap.size + 1), 2, none⟩ = false)) ∧ Hid (Kept4 w [(w.heap.size, .bool n, .string s, .int .i64 (e))] ((w.heap.size + 1)) w')) (first | exact hS | exact Sd4.store (w0 := w) (L := [(w.heap.size, .bool n, .string s, .int .i64 (e))]) (g := (w.heap.size + 1)) hS _ _ _)
              (first
                | (go_at_call 40; refine (times_n (Q) W _ HQ1.out HWL.out).mono ?_; rintro r w1 ⟨rfl, hb⟩; have hS := Sd4.keep (w0 := w) (L := [(w.heap.size, .bool n, .string s, .int .i64 (e))]) (g := (w.heap.size + 1)) (by assumption) hb; clear hb)
                | (go_at_call 39; refine (ref5Make_c 30000 _ _ _ _ HML.out hk3 hk4 (by omega) (Sd4.pw (w0 := w) (L := [(w.heap.size, .bool n, .string s, .int .i64 (e))]) (g := (w.heap.size + 1)) (by assumption))).mono ?_; rintro r w1 ⟨rfl, hb⟩; have hS := Sd4.keep (w0 := w) (L := [(w.heap.size, .bool n, .string s, .int .i64 (e))]) (g := (w.heap.size + 1)) (by assumption) hb; clear hb))
            rename_i hHeld
            clear hHeld
            obtain ⟨⟨-, ⟨d0, d1, d2, f0, f1, f2⟩⟩, hk⟩ := hS
            go_wp2
            exact bodyPost_ret (by simp [results, Tryd.results12, go_sem, d0, d1, d2] <;> rfl) rfl
              ⟨by rw [HR.out], (hk.out.store _ _ _).1.2.1⟩
          · have HUU := Lib.hid (show awayB m n false (0) = true by rw [awayB_eq]; exact hu)
            have HR := Lib.hid (show rndV m n X W p = .tuple #[.agg #[.bool n, .string (nstr ((Q + 1) * W)), .int .i64 (nexp ((Q + 1) * W) p)], .int .i64 0] from HRR.out (Q + 1) (by rw [HUN.out, hu]; rfl))
            have HML := Lib.hid (HRL.out (Q + 1) (by rw [HUN.out, hu]; rfl))
            clear hu HUN HBO
            go_wp2_with fail
            refine (ref5Up_c _ _ _ _ _).mono ?_
            rintro r w1 ⟨rfl, rfl⟩
            rw [HUU.out]
            go_wp2_with fail
            refine (plus_one Q _ HQL.out).mono ?_
            rintro r w1 ⟨rfl, hb⟩
            replace HK := HK.keep hb
            clear hb
            clear c0 c1 c2 d0 d1 d2 f0 f1 f2
            obtain ⟨c0, c1, c2, -, -, -, -⟩ := HK.1.one
            obtain ⟨d0, d1, d2, f0, f1, f2⟩ := HK.res
            go_wp2
            clear c0 c1 c2 d0 d1 d2 f0 f1 f2
            have HQ1 := Lib.hid (show (decs (Q + 1)).length ≤ 10000 by have := HQL2.out; have := HQL.out; omega)
            have hS : Sd4 w [(w.heap.size, .bool n, .string s, .int .i64 (e))] ((w.heap.size + 1)) _ := .of (HK).drew
            go_region_held3 (fun w' => (((w'.cell? ⟨w.heap.size, 0, none⟩ = some (.bool n) ∧ w'.cell? ⟨w.heap.size, 1, none⟩ = some (.string s) ∧ w'.cell? ⟨w.heap.size, 2, none⟩ = some (.int .i64 (e))) ∧ True) ∧ (w'.cell? ⟨(w.heap.size + 1), 0, none⟩ = some (rd w' ((w.heap.size + 1)) 0) ∧ w'.cell? ⟨(w.heap.size + 1), 1, none⟩ = some (rd w' ((w.heap.size + 1)) 1) ∧ w'.cell? ⟨(w.heap.size + 1), 2, none⟩ = some (rd w' ((w.heap.size + 1)) 2) ∧ w'.frozen? ⟨(w.heap.size + 1), 0, none⟩ = false ∧ w'.frozen? ⟨(w.heap.size + 1), 1, none⟩ = false ∧ w'.frozen? ⟨(w.heap.size + 1), 2, none⟩ = false)) ∧ Hid (Kept4 w [(w.heap.size, .bool n, .string s, .int .i64 (e))] ((w.heap.size + 1)) w')) (first | exact hS | exact Sd4.store (w0 := w) (L := [(w.heap.size, .bool n, .string s, .int .i64 (e))]) (g := (w.heap.size + 1)) hS _ _ _)
              (first
                | (go_at_call 40; refine (times_n (Q + 1) W _ HQ1.out HWL.out).mono ?_; rintro r w1 ⟨rfl, hb⟩; have hS := Sd4.keep (w0 := w) (L := [(w.heap.size, .bool n, .string s, .int .i64 (e))]) (g := (w.heap.size + 1)) (by assumption) hb; clear hb)
                | (go_at_call 39; refine (ref5Make_c 30000 _ _ _ _ HML.out hk3 hk4 (by omega) (Sd4.pw (w0 := w) (L := [(w.heap.size, .bool n, .string s, .int .i64 (e))]) (g := (w.heap.size + 1)) (by assumption))).mono ?_; rintro r w1 ⟨rfl, hb⟩; have hS := Sd4.keep (w0 := w) (L := [(w.heap.size, .bool n, .string s, .int .i64 (e))]) (g := (w.heap.size + 1)) (by assumption) hb; clear hb))
            rename_i hHeld
            clear hHeld
            obtain ⟨⟨-, ⟨d0, d1, d2, f0, f1, f2⟩⟩, hk⟩ := hS
            go_wp2
            exact bodyPost_ret (by simp [results, Tryd.results12, go_sem, d0, d1, d2] <;> rfl) rfl
              ⟨by rw [HR.out], (hk.out.store _ _ _).1.2.1⟩
        · have hsz := strD_size (decs Q)
          have hpos := decs_pos hQ0
          have hpos1 : 0 < (strD (decs Q)).size := by omega
          have hlt : (strD (decs Q)).size - 1 < (strD (decs Q)).size := by omega
          have hle5 : (strD (decs Q)).size ≤ 10000 := by have := HQL.out; omega
          have hbt := (isD_decs Q).at_ hlt
          have hd0 : (decs Q).getD ((strD (decs Q)).size - 1) 0 = Q % 10 := by
            have h1 := rev_digit (decs Q) (decs_lt Q) 0 hpos
            rw [dval_decs, Nat.sub_zero, Nat.pow_zero, Nat.div_one] at h1
            rw [hsz, h1]
          rw [hd0] at hbt
          have hblo : (48 : Int) ≤ (((strD (decs Q))[(strD (decs Q)).size - 1].toNat : Nat) : Int) := by omega
          have hbhi : (((strD (decs Q))[(strD (decs Q)).size - 1].toNat : Nat) : Int) < 58 := by omega
          obtain ⟨r, hr⟩ : ∃ r : Int, ((((strD (decs Q))[(strD (decs Q)).size - 1].toNat : Nat) : Int) - 48) % 2 = r := ⟨_, rfl⟩
          obtain ⟨b, hb2⟩ : ∃ b : Bool, (r == 1) = b := ⟨_, rfl⟩
          have HBO := Lib.hid (show b = decide (Q % 2 = 1) by
            rw [← hb2, ← hr, Bool.eq_iff_iff]
            simp only [beq_iff_eq, decide_eq_true_eq]
            omega)
          clear hsz hpos hbt hd0 hQ0
          have HUN := Lib.hid (show upN m n X W = upB m n b (0) by rw [HBO.out]; exact HUP.out)
          rcases hu : upB m n b (0) with _ | _
          · have HUU := Lib.hid (show awayB m n b (0) = false by rw [awayB_eq]; exact hu)
            have HR := Lib.hid (show rndV m n X W p = .tuple #[.agg #[.bool n, .string (nstr ((Q) * W)), .int .i64 (nexp ((Q) * W) p)], .int .i64 0] from HRR.out (Q) (by rw [HUN.out, hu]; rfl))
            have HML := Lib.hid (HRL.out (Q) (by rw [HUN.out, hu]; rfl))
            clear hu HUN HBO
            go_wp2_with fail
            refine (ref5Up_c _ _ _ _ _).mono ?_
            rintro r w1 ⟨rfl, rfl⟩
            rw [HUU.out]
            go_wp2
            clear c0 c1 c2 d0 d1 d2 f0 f1 f2
            have HQ1 := Lib.hid (show (decs (Q)).length ≤ 10000 by have := HQL2.out; have := HQL.out; omega)
            have hS : Sd4 w [(w.heap.size, .bool n, .string s, .int .i64 (e))] ((w.heap.size + 1)) _ := .of (HK).drew
            go_region_held3 (fun w' => (((w'.cell? ⟨w.heap.size, 0, none⟩ = some (.bool n) ∧ w'.cell? ⟨w.heap.size, 1, none⟩ = some (.string s) ∧ w'.cell? ⟨w.heap.size, 2, none⟩ = some (.int .i64 (e))) ∧ True) ∧ (w'.cell? ⟨(w.heap.size + 1), 0, none⟩ = some (rd w' ((w.heap.size + 1)) 0) ∧ w'.cell? ⟨(w.heap.size + 1), 1, none⟩ = some (rd w' ((w.heap.size + 1)) 1) ∧ w'.cell? ⟨(w.heap.size + 1), 2, none⟩ = some (rd w' ((w.heap.size + 1)) 2) ∧ w'.frozen? ⟨(w.heap.size + 1), 0, none⟩ = false ∧ w'.frozen? ⟨(w.heap.size + 1), 1, none⟩ = false ∧ w'.frozen? ⟨(w.heap.size + 1), 2, none⟩ = false)) ∧ Hid (Kept4 w [(w.heap.size, .bool n, .string s, .int .i64 (e))] ((w.heap.size + 1)) w')) (first | exact hS | exact Sd4.store (w0 := w) (L := [(w.heap.size, .bool n, .string s, .int .i64 (e))]) (g := (w.heap.size + 1)) hS _ _ _)
              (first
                | (go_at_call 40; refine (times_n (Q) W _ HQ1.out HWL.out).mono ?_; rintro r w1 ⟨rfl, hb⟩; have hS := Sd4.keep (w0 := w) (L := [(w.heap.size, .bool n, .string s, .int .i64 (e))]) (g := (w.heap.size + 1)) (by assumption) hb; clear hb)
                | (go_at_call 39; refine (ref5Make_c 30000 _ _ _ _ HML.out hk3 hk4 (by omega) (Sd4.pw (w0 := w) (L := [(w.heap.size, .bool n, .string s, .int .i64 (e))]) (g := (w.heap.size + 1)) (by assumption))).mono ?_; rintro r w1 ⟨rfl, hb⟩; have hS := Sd4.keep (w0 := w) (L := [(w.heap.size, .bool n, .string s, .int .i64 (e))]) (g := (w.heap.size + 1)) (by assumption) hb; clear hb))
            rename_i hHeld
            clear hHeld
            obtain ⟨⟨-, ⟨d0, d1, d2, f0, f1, f2⟩⟩, hk⟩ := hS
            go_wp2
            exact bodyPost_ret (by simp [results, Tryd.results12, go_sem, d0, d1, d2] <;> rfl) rfl
              ⟨by rw [HR.out], (hk.out.store _ _ _).1.2.1⟩
          · have HUU := Lib.hid (show awayB m n b (0) = true by rw [awayB_eq]; exact hu)
            have HR := Lib.hid (show rndV m n X W p = .tuple #[.agg #[.bool n, .string (nstr ((Q + 1) * W)), .int .i64 (nexp ((Q + 1) * W) p)], .int .i64 0] from HRR.out (Q + 1) (by rw [HUN.out, hu]; rfl))
            have HML := Lib.hid (HRL.out (Q + 1) (by rw [HUN.out, hu]; rfl))
            clear hu HUN HBO
            go_wp2_with fail
            refine (ref5Up_c _ _ _ _ _).mono ?_
            rintro r w1 ⟨rfl, rfl⟩
            rw [HUU.out]
            go_wp2_with fail
            refine (plus_one Q _ HQL.out).mono ?_
            rintro r w1 ⟨rfl, hb⟩
            replace HK := HK.keep hb
            clear hb
            clear c0 c1 c2 d0 d1 d2 f0 f1 f2
            obtain ⟨c0, c1, c2, -, -, -, -⟩ := HK.1.one
            obtain ⟨d0, d1, d2, f0, f1, f2⟩ := HK.res
            go_wp2
            clear c0 c1 c2 d0 d1 d2 f0 f1 f2
            have HQ1 := Lib.hid (show (decs (Q + 1)).length ≤ 10000 by have := HQL2.out; have := HQL.out; omega)
            have hS : Sd4 w [(w.heap.size, .bool n, .string s, .int .i64 (e))] ((w.heap.size + 1)) _ := .of (HK).drew
            go_region_held3 (fun w' => (((w'.cell? ⟨w.heap.size, 0, none⟩ = some (.bool n) ∧ w'.cell? ⟨w.heap.size, 1, none⟩ = some (.string s) ∧ w'.cell? ⟨w.heap.size, 2, none⟩ = some (.int .i64 (e))) ∧ True) ∧ (w'.cell? ⟨(w.heap.size + 1), 0, none⟩ = some (rd w' ((w.heap.size + 1)) 0) ∧ w'.cell? ⟨(w.heap.size + 1), 1, none⟩ = some (rd w' ((w.heap.size + 1)) 1) ∧ w'.cell? ⟨(w.heap.size + 1), 2, none⟩ = some (rd w' ((w.heap.size + 1)) 2) ∧ w'.frozen? ⟨(w.heap.size + 1), 0, none⟩ = false ∧ w'.frozen? ⟨(w.heap.size + 1), 1, none⟩ = false ∧ w'.frozen? ⟨(w.heap.size + 1), 2, none⟩ = false)) ∧ Hid (Kept4 w [(w.heap.size, .bool n, .string s, .int .i64 (e))] ((w.heap.size + 1)) w')) (first | exact hS | exact Sd4.store (w0 := w) (L := [(w.heap.size, .bool n, .string s, .int .i64 (e))]) (g := (w.heap.size + 1)) hS _ _ _)
              (first
                | (go_at_call 40; refine (times_n (Q + 1) W _ HQ1.out HWL.out).mono ?_; rintro r w1 ⟨rfl, hb⟩; have hS := Sd4.keep (w0 := w) (L := [(w.heap.size, .bool n, .string s, .int .i64 (e))]) (g := (w.heap.size + 1)) (by assumption) hb; clear hb)
                | (go_at_call 39; refine (ref5Make_c 30000 _ _ _ _ HML.out hk3 hk4 (by omega) (Sd4.pw (w0 := w) (L := [(w.heap.size, .bool n, .string s, .int .i64 (e))]) (g := (w.heap.size + 1)) (by assumption))).mono ?_; rintro r w1 ⟨rfl, hb⟩; have hS := Sd4.keep (w0 := w) (L := [(w.heap.size, .bool n, .string s, .int .i64 (e))]) (g := (w.heap.size + 1)) (by assumption) hb; clear hb))
            rename_i hHeld
            clear hHeld
            obtain ⟨⟨-, ⟨d0, d1, d2, f0, f1, f2⟩⟩, hk⟩ := hS
            go_wp2
            exact bodyPost_ret (by simp [results, Tryd.results12, go_sem, d0, d1, d2] <;> rfl) rfl
              ⟨by rw [HR.out], (hk.out.store _ _ _).1.2.1⟩
      · have HUP := Lib.hid (HUP0.out (1) (by rw [cmpZ_gt (by omega)]))
        have HL1 := Lib.hid (show decide (R + R < W) = false from decide_eq_false (by omega))
        have HL2 := Lib.hid (show decide (W < R + R) = true from decide_eq_true (by omega))
        clear hcmp
        go_wp2_with fail
        refine (less_v _ _ _ _ HL1.out).mono ?_
        rintro r w1 ⟨rfl, rfl⟩
        go_wp2_with fail
        refine (less_v _ _ _ _ HL2.out).mono ?_
        rintro r w1 ⟨rfl, rfl⟩
        by_cases hQ0 : Q = 0
        · have hsz : (strD (decs Q)).size = 0 := by rw [strD_size, hQ0, decs_zero]; rfl
          have HBO := Lib.hid (show false = decide (Q % 2 = 1) by rw [hQ0]; rfl)
          clear hQ0
          have HUN := Lib.hid (show upN m n X W = upB m n false (1) by rw [HBO.out]; exact HUP.out)
          rcases hu : upB m n false (1) with _ | _
          · have HUU := Lib.hid (show awayB m n false (1) = false by rw [awayB_eq]; exact hu)
            have HR := Lib.hid (show rndV m n X W p = .tuple #[.agg #[.bool n, .string (nstr ((Q) * W)), .int .i64 (nexp ((Q) * W) p)], .int .i64 0] from HRR.out (Q) (by rw [HUN.out, hu]; rfl))
            have HML := Lib.hid (HRL.out (Q) (by rw [HUN.out, hu]; rfl))
            clear hu HUN HBO
            go_wp2_with fail
            refine (ref5Up_c _ _ _ _ _).mono ?_
            rintro r w1 ⟨rfl, rfl⟩
            rw [HUU.out]
            go_wp2
            clear c0 c1 c2 d0 d1 d2 f0 f1 f2
            have HQ1 := Lib.hid (show (decs (Q)).length ≤ 10000 by have := HQL2.out; have := HQL.out; omega)
            have hS : Sd4 w [(w.heap.size, .bool n, .string s, .int .i64 (e))] ((w.heap.size + 1)) _ := .of (HK).drew
            go_region_held3 (fun w' => (((w'.cell? ⟨w.heap.size, 0, none⟩ = some (.bool n) ∧ w'.cell? ⟨w.heap.size, 1, none⟩ = some (.string s) ∧ w'.cell? ⟨w.heap.size, 2, none⟩ = some (.int .i64 (e))) ∧ True) ∧ (w'.cell? ⟨(w.heap.size + 1), 0, none⟩ = some (rd w' ((w.heap.size + 1)) 0) ∧ w'.cell? ⟨(w.heap.size + 1), 1, none⟩ = some (rd w' ((w.heap.size + 1)) 1) ∧ w'.cell? ⟨(w.heap.size + 1), 2, none⟩ = some (rd w' ((w.heap.size + 1)) 2) ∧ w'.frozen? ⟨(w.heap.size + 1), 0, none⟩ = false ∧ w'.frozen? ⟨(w.heap.size + 1), 1, none⟩ = false ∧ w'.frozen? ⟨(w.heap.size + 1), 2, none⟩ = false)) ∧ Hid (Kept4 w [(w.heap.size, .bool n, .string s, .int .i64 (e))] ((w.heap.size + 1)) w')) (first | exact hS | exact Sd4.store (w0 := w) (L := [(w.heap.size, .bool n, .string s, .int .i64 (e))]) (g := (w.heap.size + 1)) hS _ _ _)
              (first
                | (go_at_call 40; refine (times_n (Q) W _ HQ1.out HWL.out).mono ?_; rintro r w1 ⟨rfl, hb⟩; have hS := Sd4.keep (w0 := w) (L := [(w.heap.size, .bool n, .string s, .int .i64 (e))]) (g := (w.heap.size + 1)) (by assumption) hb; clear hb)
                | (go_at_call 39; refine (ref5Make_c 30000 _ _ _ _ HML.out hk3 hk4 (by omega) (Sd4.pw (w0 := w) (L := [(w.heap.size, .bool n, .string s, .int .i64 (e))]) (g := (w.heap.size + 1)) (by assumption))).mono ?_; rintro r w1 ⟨rfl, hb⟩; have hS := Sd4.keep (w0 := w) (L := [(w.heap.size, .bool n, .string s, .int .i64 (e))]) (g := (w.heap.size + 1)) (by assumption) hb; clear hb))
            rename_i hHeld
            clear hHeld
            obtain ⟨⟨-, ⟨d0, d1, d2, f0, f1, f2⟩⟩, hk⟩ := hS
            go_wp2
            exact bodyPost_ret (by simp [results, Tryd.results12, go_sem, d0, d1, d2] <;> rfl) rfl
              ⟨by rw [HR.out], (hk.out.store _ _ _).1.2.1⟩
          · have HUU := Lib.hid (show awayB m n false (1) = true by rw [awayB_eq]; exact hu)
            have HR := Lib.hid (show rndV m n X W p = .tuple #[.agg #[.bool n, .string (nstr ((Q + 1) * W)), .int .i64 (nexp ((Q + 1) * W) p)], .int .i64 0] from HRR.out (Q + 1) (by rw [HUN.out, hu]; rfl))
            have HML := Lib.hid (HRL.out (Q + 1) (by rw [HUN.out, hu]; rfl))
            clear hu HUN HBO
            go_wp2_with fail
            refine (ref5Up_c _ _ _ _ _).mono ?_
            rintro r w1 ⟨rfl, rfl⟩
            rw [HUU.out]
            go_wp2_with fail
            refine (plus_one Q _ HQL.out).mono ?_
            rintro r w1 ⟨rfl, hb⟩
            replace HK := HK.keep hb
            clear hb
            clear c0 c1 c2 d0 d1 d2 f0 f1 f2
            obtain ⟨c0, c1, c2, -, -, -, -⟩ := HK.1.one
            obtain ⟨d0, d1, d2, f0, f1, f2⟩ := HK.res
            go_wp2
            clear c0 c1 c2 d0 d1 d2 f0 f1 f2
            have HQ1 := Lib.hid (show (decs (Q + 1)).length ≤ 10000 by have := HQL2.out; have := HQL.out; omega)
            have hS : Sd4 w [(w.heap.size, .bool n, .string s, .int .i64 (e))] ((w.heap.size + 1)) _ := .of (HK).drew
            go_region_held3 (fun w' => (((w'.cell? ⟨w.heap.size, 0, none⟩ = some (.bool n) ∧ w'.cell? ⟨w.heap.size, 1, none⟩ = some (.string s) ∧ w'.cell? ⟨w.heap.size, 2, none⟩ = some (.int .i64 (e))) ∧ True) ∧ (w'.cell? ⟨(w.heap.size + 1), 0, none⟩ = some (rd w' ((w.heap.size + 1)) 0) ∧ w'.cell? ⟨(w.heap.size + 1), 1, none⟩ = some (rd w' ((w.heap.size + 1)) 1) ∧ w'.cell? ⟨(w.heap.size + 1), 2, none⟩ = some (rd w' ((w.heap.size + 1)) 2) ∧ w'.frozen? ⟨(w.heap.size + 1), 0, none⟩ = false ∧ w'.frozen? ⟨(w.heap.size + 1), 1, none⟩ = false ∧ w'.frozen? ⟨(w.heap.size + 1), 2, none⟩ = false)) ∧ Hid (Kept4 w [(w.heap.size, .bool n, .string s, .int .i64 (e))] ((w.heap.size + 1)) w')) (first | exact hS | exact Sd4.store (w0 := w) (L := [(w.heap.size, .bool n, .string s, .int .i64 (e))]) (g := (w.heap.size + 1)) hS _ _ _)
              (first
                | (go_at_call 40; refine (times_n (Q + 1) W _ HQ1.out HWL.out).mono ?_; rintro r w1 ⟨rfl, hb⟩; have hS := Sd4.keep (w0 := w) (L := [(w.heap.size, .bool n, .string s, .int .i64 (e))]) (g := (w.heap.size + 1)) (by assumption) hb; clear hb)
                | (go_at_call 39; refine (ref5Make_c 30000 _ _ _ _ HML.out hk3 hk4 (by omega) (Sd4.pw (w0 := w) (L := [(w.heap.size, .bool n, .string s, .int .i64 (e))]) (g := (w.heap.size + 1)) (by assumption))).mono ?_; rintro r w1 ⟨rfl, hb⟩; have hS := Sd4.keep (w0 := w) (L := [(w.heap.size, .bool n, .string s, .int .i64 (e))]) (g := (w.heap.size + 1)) (by assumption) hb; clear hb))
            rename_i hHeld
            clear hHeld
            obtain ⟨⟨-, ⟨d0, d1, d2, f0, f1, f2⟩⟩, hk⟩ := hS
            go_wp2
            exact bodyPost_ret (by simp [results, Tryd.results12, go_sem, d0, d1, d2] <;> rfl) rfl
              ⟨by rw [HR.out], (hk.out.store _ _ _).1.2.1⟩
        · have hsz := strD_size (decs Q)
          have hpos := decs_pos hQ0
          have hpos1 : 0 < (strD (decs Q)).size := by omega
          have hlt : (strD (decs Q)).size - 1 < (strD (decs Q)).size := by omega
          have hle5 : (strD (decs Q)).size ≤ 10000 := by have := HQL.out; omega
          have hbt := (isD_decs Q).at_ hlt
          have hd0 : (decs Q).getD ((strD (decs Q)).size - 1) 0 = Q % 10 := by
            have h1 := rev_digit (decs Q) (decs_lt Q) 0 hpos
            rw [dval_decs, Nat.sub_zero, Nat.pow_zero, Nat.div_one] at h1
            rw [hsz, h1]
          rw [hd0] at hbt
          have hblo : (48 : Int) ≤ (((strD (decs Q))[(strD (decs Q)).size - 1].toNat : Nat) : Int) := by omega
          have hbhi : (((strD (decs Q))[(strD (decs Q)).size - 1].toNat : Nat) : Int) < 58 := by omega
          obtain ⟨r, hr⟩ : ∃ r : Int, ((((strD (decs Q))[(strD (decs Q)).size - 1].toNat : Nat) : Int) - 48) % 2 = r := ⟨_, rfl⟩
          obtain ⟨b, hb2⟩ : ∃ b : Bool, (r == 1) = b := ⟨_, rfl⟩
          have HBO := Lib.hid (show b = decide (Q % 2 = 1) by
            rw [← hb2, ← hr, Bool.eq_iff_iff]
            simp only [beq_iff_eq, decide_eq_true_eq]
            omega)
          clear hsz hpos hbt hd0 hQ0
          have HUN := Lib.hid (show upN m n X W = upB m n b (1) by rw [HBO.out]; exact HUP.out)
          rcases hu : upB m n b (1) with _ | _
          · have HUU := Lib.hid (show awayB m n b (1) = false by rw [awayB_eq]; exact hu)
            have HR := Lib.hid (show rndV m n X W p = .tuple #[.agg #[.bool n, .string (nstr ((Q) * W)), .int .i64 (nexp ((Q) * W) p)], .int .i64 0] from HRR.out (Q) (by rw [HUN.out, hu]; rfl))
            have HML := Lib.hid (HRL.out (Q) (by rw [HUN.out, hu]; rfl))
            clear hu HUN HBO
            go_wp2_with fail
            refine (ref5Up_c _ _ _ _ _).mono ?_
            rintro r w1 ⟨rfl, rfl⟩
            rw [HUU.out]
            go_wp2
            clear c0 c1 c2 d0 d1 d2 f0 f1 f2
            have HQ1 := Lib.hid (show (decs (Q)).length ≤ 10000 by have := HQL2.out; have := HQL.out; omega)
            have hS : Sd4 w [(w.heap.size, .bool n, .string s, .int .i64 (e))] ((w.heap.size + 1)) _ := .of (HK).drew
            go_region_held3 (fun w' => (((w'.cell? ⟨w.heap.size, 0, none⟩ = some (.bool n) ∧ w'.cell? ⟨w.heap.size, 1, none⟩ = some (.string s) ∧ w'.cell? ⟨w.heap.size, 2, none⟩ = some (.int .i64 (e))) ∧ True) ∧ (w'.cell? ⟨(w.heap.size + 1), 0, none⟩ = some (rd w' ((w.heap.size + 1)) 0) ∧ w'.cell? ⟨(w.heap.size + 1), 1, none⟩ = some (rd w' ((w.heap.size + 1)) 1) ∧ w'.cell? ⟨(w.heap.size + 1), 2, none⟩ = some (rd w' ((w.heap.size + 1)) 2) ∧ w'.frozen? ⟨(w.heap.size + 1), 0, none⟩ = false ∧ w'.frozen? ⟨(w.heap.size + 1), 1, none⟩ = false ∧ w'.frozen? ⟨(w.heap.size + 1), 2, none⟩ = false)) ∧ Hid (Kept4 w [(w.heap.size, .bool n, .string s, .int .i64 (e))] ((w.heap.size + 1)) w')) (first | exact hS | exact Sd4.store (w0 := w) (L := [(w.heap.size, .bool n, .string s, .int .i64 (e))]) (g := (w.heap.size + 1)) hS _ _ _)
              (first
                | (go_at_call 40; refine (times_n (Q) W _ HQ1.out HWL.out).mono ?_; rintro r w1 ⟨rfl, hb⟩; have hS := Sd4.keep (w0 := w) (L := [(w.heap.size, .bool n, .string s, .int .i64 (e))]) (g := (w.heap.size + 1)) (by assumption) hb; clear hb)
                | (go_at_call 39; refine (ref5Make_c 30000 _ _ _ _ HML.out hk3 hk4 (by omega) (Sd4.pw (w0 := w) (L := [(w.heap.size, .bool n, .string s, .int .i64 (e))]) (g := (w.heap.size + 1)) (by assumption))).mono ?_; rintro r w1 ⟨rfl, hb⟩; have hS := Sd4.keep (w0 := w) (L := [(w.heap.size, .bool n, .string s, .int .i64 (e))]) (g := (w.heap.size + 1)) (by assumption) hb; clear hb))
            rename_i hHeld
            clear hHeld
            obtain ⟨⟨-, ⟨d0, d1, d2, f0, f1, f2⟩⟩, hk⟩ := hS
            go_wp2
            exact bodyPost_ret (by simp [results, Tryd.results12, go_sem, d0, d1, d2] <;> rfl) rfl
              ⟨by rw [HR.out], (hk.out.store _ _ _).1.2.1⟩
          · have HUU := Lib.hid (show awayB m n b (1) = true by rw [awayB_eq]; exact hu)
            have HR := Lib.hid (show rndV m n X W p = .tuple #[.agg #[.bool n, .string (nstr ((Q + 1) * W)), .int .i64 (nexp ((Q + 1) * W) p)], .int .i64 0] from HRR.out (Q + 1) (by rw [HUN.out, hu]; rfl))
            have HML := Lib.hid (HRL.out (Q + 1) (by rw [HUN.out, hu]; rfl))
            clear hu HUN HBO
            go_wp2_with fail
            refine (ref5Up_c _ _ _ _ _).mono ?_
            rintro r w1 ⟨rfl, rfl⟩
            rw [HUU.out]
            go_wp2_with fail
            refine (plus_one Q _ HQL.out).mono ?_
            rintro r w1 ⟨rfl, hb⟩
            replace HK := HK.keep hb
            clear hb
            clear c0 c1 c2 d0 d1 d2 f0 f1 f2
            obtain ⟨c0, c1, c2, -, -, -, -⟩ := HK.1.one
            obtain ⟨d0, d1, d2, f0, f1, f2⟩ := HK.res
            go_wp2
            clear c0 c1 c2 d0 d1 d2 f0 f1 f2
            have HQ1 := Lib.hid (show (decs (Q + 1)).length ≤ 10000 by have := HQL2.out; have := HQL.out; omega)
            have hS : Sd4 w [(w.heap.size, .bool n, .string s, .int .i64 (e))] ((w.heap.size + 1)) _ := .of (HK).drew
            go_region_held3 (fun w' => (((w'.cell? ⟨w.heap.size, 0, none⟩ = some (.bool n) ∧ w'.cell? ⟨w.heap.size, 1, none⟩ = some (.string s) ∧ w'.cell? ⟨w.heap.size, 2, none⟩ = some (.int .i64 (e))) ∧ True) ∧ (w'.cell? ⟨(w.heap.size + 1), 0, none⟩ = some (rd w' ((w.heap.size + 1)) 0) ∧ w'.cell? ⟨(w.heap.size + 1), 1, none⟩ = some (rd w' ((w.heap.size + 1)) 1) ∧ w'.cell? ⟨(w.heap.size + 1), 2, none⟩ = some (rd w' ((w.heap.size + 1)) 2) ∧ w'.frozen? ⟨(w.heap.size + 1), 0, none⟩ = false ∧ w'.frozen? ⟨(w.heap.size + 1), 1, none⟩ = false ∧ w'.frozen? ⟨(w.heap.size + 1), 2, none⟩ = false)) ∧ Hid (Kept4 w [(w.heap.size, .bool n, .string s, .int .i64 (e))] ((w.heap.size + 1)) w')) (first | exact hS | exact Sd4.store (w0 := w) (L := [(w.heap.size, .bool n, .string s, .int .i64 (e))]) (g := (w.heap.size + 1)) hS _ _ _)
              (first
                | (go_at_call 40; refine (times_n (Q + 1) W _ HQ1.out HWL.out).mono ?_; rintro r w1 ⟨rfl, hb⟩; have hS := Sd4.keep (w0 := w) (L := [(w.heap.size, .bool n, .string s, .int .i64 (e))]) (g := (w.heap.size + 1)) (by assumption) hb; clear hb)
                | (go_at_call 39; refine (ref5Make_c 30000 _ _ _ _ HML.out hk3 hk4 (by omega) (Sd4.pw (w0 := w) (L := [(w.heap.size, .bool n, .string s, .int .i64 (e))]) (g := (w.heap.size + 1)) (by assumption))).mono ?_; rintro r w1 ⟨rfl, hb⟩; have hS := Sd4.keep (w0 := w) (L := [(w.heap.size, .bool n, .string s, .int .i64 (e))]) (g := (w.heap.size + 1)) (by assumption) hb; clear hb))
            rename_i hHeld
            clear hHeld
            obtain ⟨⟨-, ⟨d0, d1, d2, f0, f1, f2⟩⟩, hk⟩ := hS
            go_wp2
            exact bodyPost_ret (by simp [results, Tryd.results12, go_sem, d0, d1, d2] <;> rfl) rfl
              ⟨by rw [HR.out], (hk.out.store _ _ _).1.2.1⟩
end Go.Proofs.YtekanlcfgfllcaaDoor
