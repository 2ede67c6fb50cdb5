/-
  Rf6: the document's answers by value: Plus, Minus, Times, Over; Turn, plain, Make, Sum, Product.
-/
import Derived.Test.YtbjdledincahkaaDoorAr3
namespace Go.Proofs.YtbjdledincahkaaDoor
open Go.RowKit

theorem sizeD_le {X L : Nat} (h : (decs X).length ≤ L) : (strD (decs X)).size ≤ L := by rw [strD_size]; exact h
theorem plus_n (X Y : Nat) (w : World) (hx : (decs X).length ≤ 10000) (hy : (decs Y).length ≤ 10000) :
    Calls Tryd.prog 29 #[.string (strD (decs X)), .string (strD (decs Y))] w fun r w' => r = .returned (.string (strD (decs (X + Y)))) ∧ Below w.heap.size w w' := by
  have := plus_c _ _ _ _ w (isD_decs X) (isD_decs Y) (Nat.le_trans (sizeD_le hx) (by omega)) (Nat.le_trans (sizeD_le hy) (by omega))
  rw [dval_decs, dval_decs] at this
  refine this.mono ?_
  rintro r w' ⟨s, rfl, hs, hb⟩
  exact ⟨by rw [hs.eq_strD], hb⟩
theorem minus_n (X Y : Nat) (w : World) (hx : (decs X).length ≤ 10000) (hle : Y ≤ X) :
    Calls Tryd.prog 31 #[.string (strD (decs X)), .string (strD (decs Y))] w fun r w' => r = .returned (.string (strD (decs (X - Y)))) ∧ Below w.heap.size w w' := by
  have := minus_c _ _ _ _ w (isD_decs X) (isD_decs Y) (Nat.le_trans (sizeD_le hx) (by omega)) (decs_length_le hle) (by rw [dval_decs, dval_decs]; exact hle)
  rw [dval_decs, dval_decs] at this
  refine this.mono ?_
  rintro r w' ⟨s, rfl, hs, hb⟩
  exact ⟨by rw [hs.eq_strD], hb⟩
theorem times_n (X Y : Nat) (w : World) (hx : (decs X).length ≤ 10000) (hy : (decs Y).length ≤ 10000) :
    Calls Tryd.prog 34 #[.string (strD (decs X)), .string (strD (decs Y))] w fun r w' => r = .returned (.string (strD (decs (X * Y)))) ∧ Below w.heap.size w w' := by
  have := times_c _ _ _ _ w (isD_decs X) (isD_decs Y) (Nat.le_trans (sizeD_le hx) (by omega)) (Nat.le_trans (sizeD_le hy) (by omega))
  rw [dval_decs, dval_decs] at this
  refine this.mono ?_
  rintro r w' ⟨s, rfl, hs, hb⟩
  exact ⟨by rw [hs.eq_strD], hb⟩
set_option maxHeartbeats 1600000 in
set_option maxRecDepth 100000 in
theorem ref5Turn_c (n : Bool) (s : ByteArray) (e : Int) (w : World) :
    Calls Tryd.prog 13 #[.agg #[.bool n, .string s, .int .i64 e]] w fun r w' => r = .returned (.agg #[.bool (!n), .string s, .int .i64 e]) ∧ Below w.heap.size w w' := by
  go_enter Tryd.func13, Tryd.ntmps13
  go_wp2
  exact bodyPost_ret (by simp [results, Tryd.results13, go_sem]) rfl ⟨rfl, ((Below.refl _ w).alloc (Nat.le_refl _) _).alloc (by simp) _⟩

set_option maxHeartbeats 1600000 in
set_option maxRecDepth 100000 in
theorem ref5Plain_c (n : Bool) (X : Nat) (e : Int) (w : World) :
    Calls Tryd.prog 27 #[.agg #[.bool n, .string (nstr X), .int .i64 e]] w fun r w' => r = .returned (.agg #[.bool (pneg n X), .string (nstr X), .int .i64 e]) ∧ Below w.heap.size w w' := by
  by_cases hX : X = 0
  · have hq : ((nstr X).toList == [48]) = true := by rw [nstr_is0]; exact decide_eq_true hX
    subst hX
    rw [pneg_zero]
    go_enter Tryd.func27, Tryd.ntmps27
    go_wp2
    exact bodyPost_ret (by simp [results, Tryd.results27, go_sem]) rfl ⟨rfl, ((Below.refl _ w).alloc (Nat.le_refl _) _).alloc (by simp) _⟩
  · have hq : ((nstr X).toList == [48]) = false := by rw [nstr_is0]; exact decide_eq_false hX
    rw [pneg_of _ hX]
    clear hX
    go_enter Tryd.func27, Tryd.ntmps27
    go_wp2
    exact bodyPost_ret (by simp [results, Tryd.results27, go_sem]) rfl ⟨rfl, ((Below.refl _ w).alloc (Nat.le_refl _) _).alloc (by simp) _⟩

theorem da_zero_ahead {B : Nat} {X : Nat} {e : Int} (h : (decs X).length ≤ 4990) (h1 : -(B : Int) ≤ e) (h2 : e ≤ (B : Int)) : DA B (⟨#[48]⟩ ++ strD (decs X)) e X := by
  have hd := isD_zero.append (isD_decs X)
  have hs := hd.size
  have hl : ([0] ++ decs X).length = (decs X).length + 1 := by simp
  refine ⟨⟨_, hd, ?_⟩, by omega, by omega, h1, h2⟩
  rw [dval_append, dval_decs, show dval [0] = 0 by rfl]
  omega
set_option maxHeartbeats 1600000 in
set_option maxRecDepth 100000 in
theorem ref5Make_c (B : Nat) (n : Bool) (X : Nat) (e : Int) (w : World) (h : (decs X).length ≤ 4990) (h1 : -(B : Int) ≤ e) (h2 : e ≤ (B : Int)) (hB : B ≤ 1000000) (hP : Pw w) :
    Calls Tryd.prog 28 #[.bool n, .string (strD (decs X)), .int .i64 e] w fun r w' => r = .returned (.agg #[.bool n, .string (nstr X), .int .i64 (nexp X e)]) ∧ Below w.heap.size w w' := by
  have hb0 := (Below.refl w.heap.size w).alloc (Nat.le_refl _) (.cells #[.bool false, .string ⟨#[]⟩, .int .i64 0] 23)
  have HN := Lib.hid (ref5Norm_c B n _ e X (w.alloc (.cells #[.bool false, .string ⟨#[]⟩, .int .i64 0] 23)) (da_zero_ahead h h1 h2) hB (hP.below hb0))
  have X2 := Lib.hid (Box3.new w (.bool false) (.string ⟨#[]⟩) (.int .i64 0) 23)
  have HB0 := Lib.hid hb0
  have hsz : (strD (decs X)).size ≤ 5000 := Nat.le_trans (sizeD_le h) (by omega)
  have hsz2 : (⟨#[48]⟩ : ByteArray).size ≤ 5000 := by decide
  clear h h1 h2 hB hP hb0
  go_enter Tryd.func28, Tryd.ntmps28
  go_wp2_with fail
  refine HN.out.mono ?_
  rintro r w1 ⟨rfl, hb⟩
  obtain ⟨d0, d1, d2, f0, f1, f2, hz⟩ := X2.out.keep hb
  have HB1 := Lib.hid (HB0.out.trans (hb.mono HB0.out.size))
  clear X2 HB0 hb HN
  go_wp2
  exact bodyPost_ret (by simp [results, Tryd.results28, go_sem, d0, d1, d2]) rfl
    ⟨rfl, ((HB1.out.setCell (by simp) _).setCell (by simp) _).setCell (by simp) _⟩

theorem ref5At_v (B : Nat) (n : Bool) (s : ByteArray) (e k : Int) (j : Nat) (N X : Nat) (w : World) (h : DA B s e N) (hB : B ≤ 1000000) (hk : -1000000 ≤ k) (hj : e - k = (j : Int)) (hX : N * 10 ^ j = X) (hP : Pw w) :
    Calls Tryd.prog 26 #[.agg #[.bool n, .string s, .int .i64 e], .int .i64 k] w fun r w' => r = .returned (.string (strD (decs X))) ∧ Below w.heap.size w w' := by
  subst hX; exact ref5At_c B n s e k j N w h hB hk hj hP
set_option maxHeartbeats 8000000 in
set_option maxRecDepth 100000 in
theorem ref5Sum0_c (B : Nat) (n m : Bool) (s t : ByteArray) (e f : Int) (N M X Y : Nat) (k : Int) (i j : Nat) (w : World) (h : DA B s e N) (h' : DA B t f M) (hk : min e f = k) (hi : e - k = (i : Int)) (hj : f - k = (j : Int)) (hX : N * 10 ^ i = X) (hY : M * 10 ^ j = Y) (hB : B ≤ 30000) (hx : (decs X).length ≤ 4950) (hy : (decs Y).length ≤ 4950) (hP : Pw w) :
    Calls Tryd.prog 11 #[.agg #[.bool n, .string s, .int .i64 e], .agg #[.bool m, .string t, .int .i64 f]] w fun r w' => r = .returned (.agg #[.bool (zneg (sv n X + sv m Y)), .string (zstr (sv n X + sv m Y)), .int .i64 (zexp (sv n X + sv m Y) k)]) ∧ Below w.heap.size w w' := by
  have HF := Lib.hid (h.mono hB)
  have HF' := Lib.hid (h'.mono hB)
  have hi3 : -30000 ≤ k ∧ k ≤ 30000 := by have := h.lo; have := h'.lo; have := h.hi; have := h'.hi; omega
  obtain ⟨hk3, hk4⟩ := hi3
  have hk1 : -1000000 ≤ k := by omega
  have HX := Lib.hid hX
  have HY := Lib.hid hY
  have HI := Lib.hid hi
  have HJ := Lib.hid hj
  clear h h' hX hY hi hj hB
  by_cases hfe : f < e
  · obtain rfl : f = k := by omega
    clear hk
    by_cases hnm : n = m
    · subst hnm
      rw [sv_add, ← pneg_sv, zstr_sv, zexp_sv]
      have HNL := Lib.hid (show (decs (X + Y)).length ≤ 4990 by have := decs_add hx hy; omega)
      have HXL := Lib.hid (show (decs X).length ≤ 10000 by omega)
      have HYL := Lib.hid (show (decs Y).length ≤ 10000 by omega)
      clear hx hy
      have HK := Lib.hid (kept4_two w (.bool n) (.string s) (.int .i64 e) (.bool n) (.string t) (.int .i64 f) (.bool false) (.string ⟨#[]⟩) (.int .i64 0) 23 23 hP)
      clear hP
      go_enter Tryd.func11, Tryd.ntmps11
      go_wp2
      have hS : Sd4 w [(w.heap.size, .bool n, .string s, .int .i64 (e)), (w.heap.size + 1, .bool n, .string t, .int .i64 (f))] (w.heap.size + 1 + 1) _ := .of (HK.out).drew
      go_region_held3 (fun w' => (((w'.cell? ⟨w.heap.size, 0, none⟩ = some (.bool n) ∧ w'.cell? ⟨w.heap.size, 1, none⟩ = some (.string s) ∧ w'.cell? ⟨w.heap.size, 2, none⟩ = some (.int .i64 (e))) ∧ (w'.cell? ⟨w.heap.size + 1, 0, none⟩ = some (.bool n) ∧ w'.cell? ⟨w.heap.size + 1, 1, none⟩ = some (.string t) ∧ w'.cell? ⟨w.heap.size + 1, 2, none⟩ = some (.int .i64 (f))) ∧ True) ∧ (w'.cell? ⟨w.heap.size + 1 + 1, 0, none⟩ = some (rd w' (w.heap.size + 1 + 1) 0) ∧ w'.cell? ⟨w.heap.size + 1 + 1, 1, none⟩ = some (rd w' (w.heap.size + 1 + 1) 1) ∧ w'.cell? ⟨w.heap.size + 1 + 1, 2, none⟩ = some (rd w' (w.heap.size + 1 + 1) 2) ∧ w'.frozen? ⟨w.heap.size + 1 + 1, 0, none⟩ = false ∧ w'.frozen? ⟨w.heap.size + 1 + 1, 1, none⟩ = false ∧ w'.frozen? ⟨w.heap.size + 1 + 1, 2, none⟩ = false)) ∧ Hid (Kept4 w [(w.heap.size, .bool n, .string s, .int .i64 (e)), (w.heap.size + 1, .bool n, .string t, .int .i64 (f))] (w.heap.size + 1 + 1) w')) (first | exact hS | exact Sd4.store (w0 := w) (L := [(w.heap.size, .bool n, .string s, .int .i64 (e)), (w.heap.size + 1, .bool n, .string t, .int .i64 (f))]) (g := w.heap.size + 1 + 1) hS _ _ _)
        (first
          | (go_at_call 26; refine (ref5At_v _ _ _ _ _ _ _ _ _ (by first | exact HF.out | exact HF'.out) (by omega) hk1 (by first | exact HI.out | exact HJ.out) (by first | exact HX.out | exact HY.out) (Sd4.pw (w0 := w) (L := [(w.heap.size, .bool n, .string s, .int .i64 (e)), (w.heap.size + 1, .bool n, .string t, .int .i64 (f))]) (g := w.heap.size + 1 + 1) (by assumption))).mono ?_; rintro r w1 ⟨rfl, hb⟩; have hS := Sd4.keep (w0 := w) (L := [(w.heap.size, .bool n, .string s, .int .i64 (e)), (w.heap.size + 1, .bool n, .string t, .int .i64 (f))]) (g := w.heap.size + 1 + 1) (by assumption) hb; clear hb))
      rename_i hHeld
      clear hHeld
      obtain ⟨⟨⟨⟨c00, c01, c02⟩, ⟨c10, c11, c12⟩, -⟩, ⟨d0, d1, d2, f0, f1, f2⟩⟩, hk⟩ := hS
      have hk2 := hk.out
      go_wp2
      clear c00 c01 c02 c10 c11 c12 d0 d1 d2 f0 f1 f2
      clear hk
      have hS : Sd4 w [(w.heap.size, .bool n, .string s, .int .i64 (e)), (w.heap.size + 1, .bool n, .string t, .int .i64 (f))] (w.heap.size + 1 + 1) _ := .of (hk2).drew
      go_region_held3 (fun w' => (((w'.cell? ⟨w.heap.size, 0, none⟩ = some (.bool n) ∧ w'.cell? ⟨w.heap.size, 1, none⟩ = some (.string s) ∧ w'.cell? ⟨w.heap.size, 2, none⟩ = some (.int .i64 (e))) ∧ (w'.cell? ⟨w.heap.size + 1, 0, none⟩ = some (.bool n) ∧ w'.cell? ⟨w.heap.size + 1, 1, none⟩ = some (.string t) ∧ w'.cell? ⟨w.heap.size + 1, 2, none⟩ = some (.int .i64 (f))) ∧ True) ∧ (w'.cell? ⟨w.heap.size + 1 + 1, 0, none⟩ = some (rd w' (w.heap.size + 1 + 1) 0) ∧ w'.cell? ⟨w.heap.size + 1 + 1, 1, none⟩ = some (rd w' (w.heap.size + 1 + 1) 1) ∧ w'.cell? ⟨w.heap.size + 1 + 1, 2, none⟩ = some (rd w' (w.heap.size + 1 + 1) 2) ∧ w'.frozen? ⟨w.heap.size + 1 + 1, 0, none⟩ = false ∧ w'.frozen? ⟨w.heap.size + 1 + 1, 1, none⟩ = false ∧ w'.frozen? ⟨w.heap.size + 1 + 1, 2, none⟩ = false)) ∧ Hid (Kept4 w [(w.heap.size, .bool n, .string s, .int .i64 (e)), (w.heap.size + 1, .bool n, .string t, .int .i64 (f))] (w.heap.size + 1 + 1) w')) (first | exact hS | exact Sd4.store (w0 := w) (L := [(w.heap.size, .bool n, .string s, .int .i64 (e)), (w.heap.size + 1, .bool n, .string t, .int .i64 (f))]) (g := w.heap.size + 1 + 1) hS _ _ _)
        (first
          | (go_at_call 29; refine (plus_n X Y _ HXL.out HYL.out).mono ?_; rintro r w1 ⟨rfl, hb⟩; have hS := Sd4.keep (w0 := w) (L := [(w.heap.size, .bool n, .string s, .int .i64 (e)), (w.heap.size + 1, .bool n, .string t, .int .i64 (f))]) (g := w.heap.size + 1 + 1) (by assumption) hb; clear hb)
          | (go_at_call 28; refine (ref5Make_c 30000 _ _ _ _ HNL.out (by omega) (by omega) (by omega) (Sd4.pw (w0 := w) (L := [(w.heap.size, .bool n, .string s, .int .i64 (e)), (w.heap.size + 1, .bool n, .string t, .int .i64 (f))]) (g := w.heap.size + 1 + 1) (by assumption))).mono ?_; rintro r w1 ⟨rfl, hb⟩; have hS := Sd4.keep (w0 := w) (L := [(w.heap.size, .bool n, .string s, .int .i64 (e)), (w.heap.size + 1, .bool n, .string t, .int .i64 (f))]) (g := w.heap.size + 1 + 1) (by assumption) hb; clear hb)
          | (go_at_call 27; refine (ref5Plain_c _ _ _ _).mono ?_; rintro r w1 ⟨rfl, hb⟩; have hS := Sd4.keep (w0 := w) (L := [(w.heap.size, .bool n, .string s, .int .i64 (e)), (w.heap.size + 1, .bool n, .string t, .int .i64 (f))]) (g := w.heap.size + 1 + 1) (by assumption) hb; clear hb))
      rename_i hHeld
      clear hHeld
      obtain ⟨⟨-, ⟨d0, d1, d2, f0, f1, f2⟩⟩, hk⟩ := hS
      go_wp2
      exact bodyPost_ret (by simp [results, Tryd.results11, go_sem, d0, d1, d2] <;> rfl) rfl
        ⟨rfl, (hk.out.store _ _ _).1.2.1⟩
    · by_cases hlt : Y ≤ X
      · have hnb : (n == m) = false := by rwa [beq_eq_false_iff_ne]
        rw [sv_sub_ge hnm hlt, ← pneg_sv, zstr_sv, zexp_sv]
        have HNL := Lib.hid (show (decs (X - Y)).length ≤ 4990 by have := decs_length_le (Nat.sub_le X Y); omega)
        have HLT := Lib.hid hlt
        have HLS := Lib.hid (fun w => (less_c (strD (decs X)) (strD (decs Y)) X Y w (isD_decs X) (isD_decs Y)))
        rw [decide_eq_false (by omega)] at HLS
        clear hnm hlt
        have HXL := Lib.hid (show (decs X).length ≤ 10000 by omega)
        have HYL := Lib.hid (show (decs Y).length ≤ 10000 by omega)
        clear hx hy
        have HK := Lib.hid (kept4_two w (.bool n) (.string s) (.int .i64 e) (.bool m) (.string t) (.int .i64 f) (.bool false) (.string ⟨#[]⟩) (.int .i64 0) 23 23 hP)
        clear hP
        go_enter Tryd.func11, Tryd.ntmps11
        go_wp2
        have hS : Sd4 w [(w.heap.size, .bool n, .string s, .int .i64 (e)), (w.heap.size + 1, .bool m, .string t, .int .i64 (f))] (w.heap.size + 1 + 1) _ := .of (HK.out).drew
        go_region_held3 (fun w' => (((w'.cell? ⟨w.heap.size, 0, none⟩ = some (.bool n) ∧ w'.cell? ⟨w.heap.size, 1, none⟩ = some (.string s) ∧ w'.cell? ⟨w.heap.size, 2, none⟩ = some (.int .i64 (e))) ∧ (w'.cell? ⟨w.heap.size + 1, 0, none⟩ = some (.bool m) ∧ w'.cell? ⟨w.heap.size + 1, 1, none⟩ = some (.string t) ∧ w'.cell? ⟨w.heap.size + 1, 2, none⟩ = some (.int .i64 (f))) ∧ True) ∧ (w'.cell? ⟨w.heap.size + 1 + 1, 0, none⟩ = some (rd w' (w.heap.size + 1 + 1) 0) ∧ w'.cell? ⟨w.heap.size + 1 + 1, 1, none⟩ = some (rd w' (w.heap.size + 1 + 1) 1) ∧ w'.cell? ⟨w.heap.size + 1 + 1, 2, none⟩ = some (rd w' (w.heap.size + 1 + 1) 2) ∧ w'.frozen? ⟨w.heap.size + 1 + 1, 0, none⟩ = false ∧ w'.frozen? ⟨w.heap.size + 1 + 1, 1, none⟩ = false ∧ w'.frozen? ⟨w.heap.size + 1 + 1, 2, none⟩ = false)) ∧ Hid (Kept4 w [(w.heap.size, .bool n, .string s, .int .i64 (e)), (w.heap.size + 1, .bool m, .string t, .int .i64 (f))] (w.heap.size + 1 + 1) w')) (first | exact hS | exact Sd4.store (w0 := w) (L := [(w.heap.size, .bool n, .string s, .int .i64 (e)), (w.heap.size + 1, .bool m, .string t, .int .i64 (f))]) (g := w.heap.size + 1 + 1) hS _ _ _)
          (first
            | (go_at_call 26; refine (ref5At_v _ _ _ _ _ _ _ _ _ (by first | exact HF.out | exact HF'.out) (by omega) hk1 (by first | exact HI.out | exact HJ.out) (by first | exact HX.out | exact HY.out) (Sd4.pw (w0 := w) (L := [(w.heap.size, .bool n, .string s, .int .i64 (e)), (w.heap.size + 1, .bool m, .string t, .int .i64 (f))]) (g := w.heap.size + 1 + 1) (by assumption))).mono ?_; rintro r w1 ⟨rfl, hb⟩; have hS := Sd4.keep (w0 := w) (L := [(w.heap.size, .bool n, .string s, .int .i64 (e)), (w.heap.size + 1, .bool m, .string t, .int .i64 (f))]) (g := w.heap.size + 1 + 1) (by assumption) hb; clear hb))
        rename_i hHeld
        clear hHeld
        obtain ⟨⟨⟨⟨c00, c01, c02⟩, ⟨c10, c11, c12⟩, -⟩, ⟨d0, d1, d2, f0, f1, f2⟩⟩, hk⟩ := hS
        have hk2 := hk.out
        go_wp2_with fail
        refine (HLS.out _).mono ?_
        rintro r w5 ⟨rfl, rfl⟩
        go_wp2
        clear c00 c01 c02 c10 c11 c12 d0 d1 d2 f0 f1 f2
        clear hk
        have hS : Sd4 w [(w.heap.size, .bool n, .string s, .int .i64 (e)), (w.heap.size + 1, .bool m, .string t, .int .i64 (f))] (w.heap.size + 1 + 1) _ := .of (hk2).drew
        go_region_held3 (fun w' => (((w'.cell? ⟨w.heap.size, 0, none⟩ = some (.bool n) ∧ w'.cell? ⟨w.heap.size, 1, none⟩ = some (.string s) ∧ w'.cell? ⟨w.heap.size, 2, none⟩ = some (.int .i64 (e))) ∧ (w'.cell? ⟨w.heap.size + 1, 0, none⟩ = some (.bool m) ∧ w'.cell? ⟨w.heap.size + 1, 1, none⟩ = some (.string t) ∧ w'.cell? ⟨w.heap.size + 1, 2, none⟩ = some (.int .i64 (f))) ∧ True) ∧ (w'.cell? ⟨w.heap.size + 1 + 1, 0, none⟩ = some (rd w' (w.heap.size + 1 + 1) 0) ∧ w'.cell? ⟨w.heap.size + 1 + 1, 1, none⟩ = some (rd w' (w.heap.size + 1 + 1) 1) ∧ w'.cell? ⟨w.heap.size + 1 + 1, 2, none⟩ = some (rd w' (w.heap.size + 1 + 1) 2) ∧ w'.frozen? ⟨w.heap.size + 1 + 1, 0, none⟩ = false ∧ w'.frozen? ⟨w.heap.size + 1 + 1, 1, none⟩ = false ∧ w'.frozen? ⟨w.heap.size + 1 + 1, 2, none⟩ = false)) ∧ Hid (Kept4 w [(w.heap.size, .bool n, .string s, .int .i64 (e)), (w.heap.size + 1, .bool m, .string t, .int .i64 (f))] (w.heap.size + 1 + 1) w')) (first | exact hS | exact Sd4.store (w0 := w) (L := [(w.heap.size, .bool n, .string s, .int .i64 (e)), (w.heap.size + 1, .bool m, .string t, .int .i64 (f))]) (g := w.heap.size + 1 + 1) hS _ _ _)
          (first
            | (go_at_call 31; refine (minus_n X Y _ HXL.out HLT.out).mono ?_; rintro r w1 ⟨rfl, hb⟩; have hS := Sd4.keep (w0 := w) (L := [(w.heap.size, .bool n, .string s, .int .i64 (e)), (w.heap.size + 1, .bool m, .string t, .int .i64 (f))]) (g := w.heap.size + 1 + 1) (by assumption) hb; clear hb)
            | (go_at_call 28; refine (ref5Make_c 30000 _ _ _ _ HNL.out (by omega) (by omega) (by omega) (Sd4.pw (w0 := w) (L := [(w.heap.size, .bool n, .string s, .int .i64 (e)), (w.heap.size + 1, .bool m, .string t, .int .i64 (f))]) (g := w.heap.size + 1 + 1) (by assumption))).mono ?_; rintro r w1 ⟨rfl, hb⟩; have hS := Sd4.keep (w0 := w) (L := [(w.heap.size, .bool n, .string s, .int .i64 (e)), (w.heap.size + 1, .bool m, .string t, .int .i64 (f))]) (g := w.heap.size + 1 + 1) (by assumption) hb; clear hb)
            | (go_at_call 27; refine (ref5Plain_c _ _ _ _).mono ?_; rintro r w1 ⟨rfl, hb⟩; have hS := Sd4.keep (w0 := w) (L := [(w.heap.size, .bool n, .string s, .int .i64 (e)), (w.heap.size + 1, .bool m, .string t, .int .i64 (f))]) (g := w.heap.size + 1 + 1) (by assumption) hb; clear hb))
        rename_i hHeld
        clear hHeld
        obtain ⟨⟨-, ⟨d0, d1, d2, f0, f1, f2⟩⟩, hk⟩ := hS
        go_wp2
        exact bodyPost_ret (by simp [results, Tryd.results11, go_sem, d0, d1, d2] <;> rfl) rfl
          ⟨rfl, (hk.out.store _ _ _).1.2.1⟩
      · rw [Nat.not_le] at hlt
        have hnb : (n == m) = false := by rwa [beq_eq_false_iff_ne]
        rw [sv_sub_lt hnm hlt, ← pneg_sv, zstr_sv, zexp_sv]
        have HNL := Lib.hid (show (decs (Y - X)).length ≤ 4990 by have := decs_length_le (Nat.sub_le Y X); omega)
        have HLT := Lib.hid (Nat.le_of_lt hlt)
        have HLS := Lib.hid (fun w => (less_c (strD (decs X)) (strD (decs Y)) X Y w (isD_decs X) (isD_decs Y)))
        rw [decide_eq_true hlt] at HLS
        clear hnm hlt
        have HXL := Lib.hid (show (decs X).length ≤ 10000 by omega)
        have HYL := Lib.hid (show (decs Y).length ≤ 10000 by omega)
        clear hx hy
        have HK := Lib.hid (kept4_two w (.bool n) (.string s) (.int .i64 e) (.bool m) (.string t) (.int .i64 f) (.bool false) (.string ⟨#[]⟩) (.int .i64 0) 23 23 hP)
        clear hP
        go_enter Tryd.func11, Tryd.ntmps11
        go_wp2
        have hS : Sd4 w [(w.heap.size, .bool n, .string s, .int .i64 (e)), (w.heap.size + 1, .bool m, .string t, .int .i64 (f))] (w.heap.size + 1 + 1) _ := .of (HK.out).drew
        go_region_held3 (fun w' => (((w'.cell? ⟨w.heap.size, 0, none⟩ = some (.bool n) ∧ w'.cell? ⟨w.heap.size, 1, none⟩ = some (.string s) ∧ w'.cell? ⟨w.heap.size, 2, none⟩ = some (.int .i64 (e))) ∧ (w'.cell? ⟨w.heap.size + 1, 0, none⟩ = some (.bool m) ∧ w'.cell? ⟨w.heap.size + 1, 1, none⟩ = some (.string t) ∧ w'.cell? ⟨w.heap.size + 1, 2, none⟩ = some (.int .i64 (f))) ∧ True) ∧ (w'.cell? ⟨w.heap.size + 1 + 1, 0, none⟩ = some (rd w' (w.heap.size + 1 + 1) 0) ∧ w'.cell? ⟨w.heap.size + 1 + 1, 1, none⟩ = some (rd w' (w.heap.size + 1 + 1) 1) ∧ w'.cell? ⟨w.heap.size + 1 + 1, 2, none⟩ = some (rd w' (w.heap.size + 1 + 1) 2) ∧ w'.frozen? ⟨w.heap.size + 1 + 1, 0, none⟩ = false ∧ w'.frozen? ⟨w.heap.size + 1 + 1, 1, none⟩ = false ∧ w'.frozen? ⟨w.heap.size + 1 + 1, 2, none⟩ = false)) ∧ Hid (Kept4 w [(w.heap.size, .bool n, .string s, .int .i64 (e)), (w.heap.size + 1, .bool m, .string t, .int .i64 (f))] (w.heap.size + 1 + 1) w')) (first | exact hS | exact Sd4.store (w0 := w) (L := [(w.heap.size, .bool n, .string s, .int .i64 (e)), (w.heap.size + 1, .bool m, .string t, .int .i64 (f))]) (g := w.heap.size + 1 + 1) hS _ _ _)
          (first
            | (go_at_call 26; refine (ref5At_v _ _ _ _ _ _ _ _ _ (by first | exact HF.out | exact HF'.out) (by omega) hk1 (by first | exact HI.out | exact HJ.out) (by first | exact HX.out | exact HY.out) (Sd4.pw (w0 := w) (L := [(w.heap.size, .bool n, .string s, .int .i64 (e)), (w.heap.size + 1, .bool m, .string t, .int .i64 (f))]) (g := w.heap.size + 1 + 1) (by assumption))).mono ?_; rintro r w1 ⟨rfl, hb⟩; have hS := Sd4.keep (w0 := w) (L := [(w.heap.size, .bool n, .string s, .int .i64 (e)), (w.heap.size + 1, .bool m, .string t, .int .i64 (f))]) (g := w.heap.size + 1 + 1) (by assumption) hb; clear hb))
        rename_i hHeld
        clear hHeld
        obtain ⟨⟨⟨⟨c00, c01, c02⟩, ⟨c10, c11, c12⟩, -⟩, ⟨d0, d1, d2, f0, f1, f2⟩⟩, hk⟩ := hS
        have hk2 := hk.out
        go_wp2_with fail
        refine (HLS.out _).mono ?_
        rintro r w5 ⟨rfl, rfl⟩
        go_wp2
        clear c00 c01 c02 c10 c11 c12 d0 d1 d2 f0 f1 f2
        clear hk
        have hS : Sd4 w [(w.heap.size, .bool n, .string s, .int .i64 (e)), (w.heap.size + 1, .bool m, .string t, .int .i64 (f))] (w.heap.size + 1 + 1) _ := .of (hk2).drew
        go_region_held3 (fun w' => (((w'.cell? ⟨w.heap.size, 0, none⟩ = some (.bool n) ∧ w'.cell? ⟨w.heap.size, 1, none⟩ = some (.string s) ∧ w'.cell? ⟨w.heap.size, 2, none⟩ = some (.int .i64 (e))) ∧ (w'.cell? ⟨w.heap.size + 1, 0, none⟩ = some (.bool m) ∧ w'.cell? ⟨w.heap.size + 1, 1, none⟩ = some (.string t) ∧ w'.cell? ⟨w.heap.size + 1, 2, none⟩ = some (.int .i64 (f))) ∧ True) ∧ (w'.cell? ⟨w.heap.size + 1 + 1, 0, none⟩ = some (rd w' (w.heap.size + 1 + 1) 0) ∧ w'.cell? ⟨w.heap.size + 1 + 1, 1, none⟩ = some (rd w' (w.heap.size + 1 + 1) 1) ∧ w'.cell? ⟨w.heap.size + 1 + 1, 2, none⟩ = some (rd w' (w.heap.size + 1 + 1) 2) ∧ w'.frozen? ⟨w.heap.size + 1 + 1, 0, none⟩ = false ∧ w'.frozen? ⟨w.heap.size + 1 + 1, 1, none⟩ = false ∧ w'.frozen? ⟨w.heap.size + 1 + 1, 2, none⟩ = false)) ∧ Hid (Kept4 w [(w.heap.size, .bool n, .string s, .int .i64 (e)), (w.heap.size + 1, .bool m, .string t, .int .i64 (f))] (w.heap.size + 1 + 1) w')) (first | exact hS | exact Sd4.store (w0 := w) (L := [(w.heap.size, .bool n, .string s, .int .i64 (e)), (w.heap.size + 1, .bool m, .string t, .int .i64 (f))]) (g := w.heap.size + 1 + 1) hS _ _ _)
          (first
            | (go_at_call 31; refine (minus_n Y X _ HYL.out HLT.out).mono ?_; rintro r w1 ⟨rfl, hb⟩; have hS := Sd4.keep (w0 := w) (L := [(w.heap.size, .bool n, .string s, .int .i64 (e)), (w.heap.size + 1, .bool m, .string t, .int .i64 (f))]) (g := w.heap.size + 1 + 1) (by assumption) hb; clear hb)
            | (go_at_call 28; refine (ref5Make_c 30000 _ _ _ _ HNL.out (by omega) (by omega) (by omega) (Sd4.pw (w0 := w) (L := [(w.heap.size, .bool n, .string s, .int .i64 (e)), (w.heap.size + 1, .bool m, .string t, .int .i64 (f))]) (g := w.heap.size + 1 + 1) (by assumption))).mono ?_; rintro r w1 ⟨rfl, hb⟩; have hS := Sd4.keep (w0 := w) (L := [(w.heap.size, .bool n, .string s, .int .i64 (e)), (w.heap.size + 1, .bool m, .string t, .int .i64 (f))]) (g := w.heap.size + 1 + 1) (by assumption) hb; clear hb)
            | (go_at_call 27; refine (ref5Plain_c _ _ _ _).mono ?_; rintro r w1 ⟨rfl, hb⟩; have hS := Sd4.keep (w0 := w) (L := [(w.heap.size, .bool n, .string s, .int .i64 (e)), (w.heap.size + 1, .bool m, .string t, .int .i64 (f))]) (g := w.heap.size + 1 + 1) (by assumption) hb; clear hb))
        rename_i hHeld
        clear hHeld
        obtain ⟨⟨-, ⟨d0, d1, d2, f0, f1, f2⟩⟩, hk⟩ := hS
        go_wp2
        exact bodyPost_ret (by simp [results, Tryd.results11, go_sem, d0, d1, d2] <;> rfl) rfl
          ⟨rfl, (hk.out.store _ _ _).1.2.1⟩
  · obtain rfl : e = k := by omega
    clear hk
    by_cases hnm : n = m
    · subst hnm
      rw [sv_add, ← pneg_sv, zstr_sv, zexp_sv]
      have HNL := Lib.hid (show (decs (X + Y)).length ≤ 4990 by have := decs_add hx hy; omega)
      have HXL := Lib.hid (show (decs X).length ≤ 10000 by omega)
      have HYL := Lib.hid (show (decs Y).length ≤ 10000 by omega)
      clear hx hy
      have HK := Lib.hid (kept4_two w (.bool n) (.string s) (.int .i64 e) (.bool n) (.string t) (.int .i64 f) (.bool false) (.string ⟨#[]⟩) (.int .i64 0) 23 23 hP)
      clear hP
      go_enter Tryd.func11, Tryd.ntmps11
      go_wp2
      have hS : Sd4 w [(w.heap.size, .bool n, .string s, .int .i64 (e)), (w.heap.size + 1, .bool n, .string t, .int .i64 (f))] (w.heap.size + 1 + 1) _ := .of (HK.out).drew
      go_region_held3 (fun w' => (((w'.cell? ⟨w.heap.size, 0, none⟩ = some (.bool n) ∧ w'.cell? ⟨w.heap.size, 1, none⟩ = some (.string s) ∧ w'.cell? ⟨w.heap.size, 2, none⟩ = some (.int .i64 (e))) ∧ (w'.cell? ⟨w.heap.size + 1, 0, none⟩ = some (.bool n) ∧ w'.cell? ⟨w.heap.size + 1, 1, none⟩ = some (.string t) ∧ w'.cell? ⟨w.heap.size + 1, 2, none⟩ = some (.int .i64 (f))) ∧ True) ∧ (w'.cell? ⟨w.heap.size + 1 + 1, 0, none⟩ = some (rd w' (w.heap.size + 1 + 1) 0) ∧ w'.cell? ⟨w.heap.size + 1 + 1, 1, none⟩ = some (rd w' (w.heap.size + 1 + 1) 1) ∧ w'.cell? ⟨w.heap.size + 1 + 1, 2, none⟩ = some (rd w' (w.heap.size + 1 + 1) 2) ∧ w'.frozen? ⟨w.heap.size + 1 + 1, 0, none⟩ = false ∧ w'.frozen? ⟨w.heap.size + 1 + 1, 1, none⟩ = false ∧ w'.frozen? ⟨w.heap.size + 1 + 1, 2, none⟩ = false)) ∧ Hid (Kept4 w [(w.heap.size, .bool n, .string s, .int .i64 (e)), (w.heap.size + 1, .bool n, .string t, .int .i64 (f))] (w.heap.size + 1 + 1) w')) (first | exact hS | exact Sd4.store (w0 := w) (L := [(w.heap.size, .bool n, .string s, .int .i64 (e)), (w.heap.size + 1, .bool n, .string t, .int .i64 (f))]) (g := w.heap.size + 1 + 1) hS _ _ _)
        (first
          | (go_at_call 26; refine (ref5At_v _ _ _ _ _ _ _ _ _ (by first | exact HF.out | exact HF'.out) (by omega) hk1 (by first | exact HI.out | exact HJ.out) (by first | exact HX.out | exact HY.out) (Sd4.pw (w0 := w) (L := [(w.heap.size, .bool n, .string s, .int .i64 (e)), (w.heap.size + 1, .bool n, .string t, .int .i64 (f))]) (g := w.heap.size + 1 + 1) (by assumption))).mono ?_; rintro r w1 ⟨rfl, hb⟩; have hS := Sd4.keep (w0 := w) (L := [(w.heap.size, .bool n, .string s, .int .i64 (e)), (w.heap.size + 1, .bool n, .string t, .int .i64 (f))]) (g := w.heap.size + 1 + 1) (by assumption) hb; clear hb))
      rename_i hHeld
      clear hHeld
      obtain ⟨⟨⟨⟨c00, c01, c02⟩, ⟨c10, c11, c12⟩, -⟩, ⟨d0, d1, d2, f0, f1, f2⟩⟩, hk⟩ := hS
      have hk2 := hk.out
      go_wp2
      clear c00 c01 c02 c10 c11 c12 d0 d1 d2 f0 f1 f2
      clear hk
      have hS : Sd4 w [(w.heap.size, .bool n, .string s, .int .i64 (e)), (w.heap.size + 1, .bool n, .string t, .int .i64 (f))] (w.heap.size + 1 + 1) _ := .of (hk2).drew
      go_region_held3 (fun w' => (((w'.cell? ⟨w.heap.size, 0, none⟩ = some (.bool n) ∧ w'.cell? ⟨w.heap.size, 1, none⟩ = some (.string s) ∧ w'.cell? ⟨w.heap.size, 2, none⟩ = some (.int .i64 (e))) ∧ (w'.cell? ⟨w.heap.size + 1, 0, none⟩ = some (.bool n) ∧ w'.cell? ⟨w.heap.size + 1, 1, none⟩ = some (.string t) ∧ w'.cell? ⟨w.heap.size + 1, 2, none⟩ = some (.int .i64 (f))) ∧ True) ∧ (w'.cell? ⟨w.heap.size + 1 + 1, 0, none⟩ = some (rd w' (w.heap.size + 1 + 1) 0) ∧ w'.cell? ⟨w.heap.size + 1 + 1, 1, none⟩ = some (rd w' (w.heap.size + 1 + 1) 1) ∧ w'.cell? ⟨w.heap.size + 1 + 1, 2, none⟩ = some (rd w' (w.heap.size + 1 + 1) 2) ∧ w'.frozen? ⟨w.heap.size + 1 + 1, 0, none⟩ = false ∧ w'.frozen? ⟨w.heap.size + 1 + 1, 1, none⟩ = false ∧ w'.frozen? ⟨w.heap.size + 1 + 1, 2, none⟩ = false)) ∧ Hid (Kept4 w [(w.heap.size, .bool n, .string s, .int .i64 (e)), (w.heap.size + 1, .bool n, .string t, .int .i64 (f))] (w.heap.size + 1 + 1) w')) (first | exact hS | exact Sd4.store (w0 := w) (L := [(w.heap.size, .bool n, .string s, .int .i64 (e)), (w.heap.size + 1, .bool n, .string t, .int .i64 (f))]) (g := w.heap.size + 1 + 1) hS _ _ _)
        (first
          | (go_at_call 29; refine (plus_n X Y _ HXL.out HYL.out).mono ?_; rintro r w1 ⟨rfl, hb⟩; have hS := Sd4.keep (w0 := w) (L := [(w.heap.size, .bool n, .string s, .int .i64 (e)), (w.heap.size + 1, .bool n, .string t, .int .i64 (f))]) (g := w.heap.size + 1 + 1) (by assumption) hb; clear hb)
          | (go_at_call 28; refine (ref5Make_c 30000 _ _ _ _ HNL.out (by omega) (by omega) (by omega) (Sd4.pw (w0 := w) (L := [(w.heap.size, .bool n, .string s, .int .i64 (e)), (w.heap.size + 1, .bool n, .string t, .int .i64 (f))]) (g := w.heap.size + 1 + 1) (by assumption))).mono ?_; rintro r w1 ⟨rfl, hb⟩; have hS := Sd4.keep (w0 := w) (L := [(w.heap.size, .bool n, .string s, .int .i64 (e)), (w.heap.size + 1, .bool n, .string t, .int .i64 (f))]) (g := w.heap.size + 1 + 1) (by assumption) hb; clear hb)
          | (go_at_call 27; refine (ref5Plain_c _ _ _ _).mono ?_; rintro r w1 ⟨rfl, hb⟩; have hS := Sd4.keep (w0 := w) (L := [(w.heap.size, .bool n, .string s, .int .i64 (e)), (w.heap.size + 1, .bool n, .string t, .int .i64 (f))]) (g := w.heap.size + 1 + 1) (by assumption) hb; clear hb))
      rename_i hHeld
      clear hHeld
      obtain ⟨⟨-, ⟨d0, d1, d2, f0, f1, f2⟩⟩, hk⟩ := hS
      go_wp2
      exact bodyPost_ret (by simp [results, Tryd.results11, go_sem, d0, d1, d2] <;> rfl) rfl
        ⟨rfl, (hk.out.store _ _ _).1.2.1⟩
    · by_cases hlt : Y ≤ X
      · have hnb : (n == m) = false := by rwa [beq_eq_false_iff_ne]
        rw [sv_sub_ge hnm hlt, ← pneg_sv, zstr_sv, zexp_sv]
        have HNL := Lib.hid (show (decs (X - Y)).length ≤ 4990 by have := decs_length_le (Nat.sub_le X Y); omega)
        have HLT := Lib.hid hlt
        have HLS := Lib.hid (fun w => (less_c (strD (decs X)) (strD (decs Y)) X Y w (isD_decs X) (isD_decs Y)))
        rw [decide_eq_false (by omega)] at HLS
        clear hnm hlt
        have HXL := Lib.hid (show (decs X).length ≤ 10000 by omega)
        have HYL := Lib.hid (show (decs Y).length ≤ 10000 by omega)
        clear hx hy
        have HK := Lib.hid (kept4_two w (.bool n) (.string s) (.int .i64 e) (.bool m) (.string t) (.int .i64 f) (.bool false) (.string ⟨#[]⟩) (.int .i64 0) 23 23 hP)
        clear hP
        go_enter Tryd.func11, Tryd.ntmps11
        go_wp2
        have hS : Sd4 w [(w.heap.size, .bool n, .string s, .int .i64 (e)), (w.heap.size + 1, .bool m, .string t, .int .i64 (f))] (w.heap.size + 1 + 1) _ := .of (HK.out).drew
        go_region_held3 (fun w' => (((w'.cell? ⟨w.heap.size, 0, none⟩ = some (.bool n) ∧ w'.cell? ⟨w.heap.size, 1, none⟩ = some (.string s) ∧ w'.cell? ⟨w.heap.size, 2, none⟩ = some (.int .i64 (e))) ∧ (w'.cell? ⟨w.heap.size + 1, 0, none⟩ = some (.bool m) ∧ w'.cell? ⟨w.heap.size + 1, 1, none⟩ = some (.string t) ∧ w'.cell? ⟨w.heap.size + 1, 2, none⟩ = some (.int .i64 (f))) ∧ True) ∧ (w'.cell? ⟨w.heap.size + 1 + 1, 0, none⟩ = some (rd w' (w.heap.size + 1 + 1) 0) ∧ w'.cell? ⟨w.heap.size + 1 + 1, 1, none⟩ = some (rd w' (w.heap.size + 1 + 1) 1) ∧ w'.cell? ⟨w.heap.size + 1 + 1, 2, none⟩ = some (rd w' (w.heap.size + 1 + 1) 2) ∧ w'.frozen? ⟨w.heap.size + 1 + 1, 0, none⟩ = false ∧ w'.frozen? ⟨w.heap.size + 1 + 1, 1, none⟩ = false ∧ w'.frozen? ⟨w.heap.size + 1 + 1, 2, none⟩ = false)) ∧ Hid (Kept4 w [(w.heap.size, .bool n, .string s, .int .i64 (e)), (w.heap.size + 1, .bool m, .string t, .int .i64 (f))] (w.heap.size + 1 + 1) w')) (first | exact hS | exact Sd4.store (w0 := w) (L := [(w.heap.size, .bool n, .string s, .int .i64 (e)), (w.heap.size + 1, .bool m, .string t, .int .i64 (f))]) (g := w.heap.size + 1 + 1) hS _ _ _)
          (first
            | (go_at_call 26; refine (ref5At_v _ _ _ _ _ _ _ _ _ (by first | exact HF.out | exact HF'.out) (by omega) hk1 (by first | exact HI.out | exact HJ.out) (by first | exact HX.out | exact HY.out) (Sd4.pw (w0 := w) (L := [(w.heap.size, .bool n, .string s, .int .i64 (e)), (w.heap.size + 1, .bool m, .string t, .int .i64 (f))]) (g := w.heap.size + 1 + 1) (by assumption))).mono ?_; rintro r w1 ⟨rfl, hb⟩; have hS := Sd4.keep (w0 := w) (L := [(w.heap.size, .bool n, .string s, .int .i64 (e)), (w.heap.size + 1, .bool m, .string t, .int .i64 (f))]) (g := w.heap.size + 1 + 1) (by assumption) hb; clear hb))
        rename_i hHeld
        clear hHeld
        obtain ⟨⟨⟨⟨c00, c01, c02⟩, ⟨c10, c11, c12⟩, -⟩, ⟨d0, d1, d2, f0, f1, f2⟩⟩, hk⟩ := hS
        have hk2 := hk.out
        go_wp2_with fail
        refine (HLS.out _).mono ?_
        rintro r w5 ⟨rfl, rfl⟩
        go_wp2
        clear c00 c01 c02 c10 c11 c12 d0 d1 d2 f0 f1 f2
        clear hk
        have hS : Sd4 w [(w.heap.size, .bool n, .string s, .int .i64 (e)), (w.heap.size + 1, .bool m, .string t, .int .i64 (f))] (w.heap.size + 1 + 1) _ := .of (hk2).drew
        go_region_held3 (fun w' => (((w'.cell? ⟨w.heap.size, 0, none⟩ = some (.bool n) ∧ w'.cell? ⟨w.heap.size, 1, none⟩ = some (.string s) ∧ w'.cell? ⟨w.heap.size, 2, none⟩ = some (.int .i64 (e))) ∧ (w'.cell? ⟨w.heap.size + 1, 0, none⟩ = some (.bool m) ∧ w'.cell? ⟨w.heap.size + 1, 1, none⟩ = some (.string t) ∧ w'.cell? ⟨w.heap.size + 1, 2, none⟩ = some (.int .i64 (f))) ∧ True) ∧ (w'.cell? ⟨w.heap.size + 1 + 1, 0, none⟩ = some (rd w' (w.heap.size + 1 + 1) 0) ∧ w'.cell? ⟨w.heap.size + 1 + 1, 1, none⟩ = some (rd w' (w.heap.size + 1 + 1) 1) ∧ w'.cell? ⟨w.heap.size + 1 + 1, 2, none⟩ = some (rd w' (w.heap.size + 1 + 1) 2) ∧ w'.frozen? ⟨w.heap.size + 1 + 1, 0, none⟩ = false ∧ w'.frozen? ⟨w.heap.size + 1 + 1, 1, none⟩ = false ∧ w'.frozen? ⟨w.heap.size + 1 + 1, 2, none⟩ = false)) ∧ Hid (Kept4 w [(w.heap.size, .bool n, .string s, .int .i64 (e)), (w.heap.size + 1, .bool m, .string t, .int .i64 (f))] (w.heap.size + 1 + 1) w')) (first | exact hS | exact Sd4.store (w0 := w) (L := [(w.heap.size, .bool n, .string s, .int .i64 (e)), (w.heap.size + 1, .bool m, .string t, .int .i64 (f))]) (g := w.heap.size + 1 + 1) hS _ _ _)
          (first
            | (go_at_call 31; refine (minus_n X Y _ HXL.out HLT.out).mono ?_; rintro r w1 ⟨rfl, hb⟩; have hS := Sd4.keep (w0 := w) (L := [(w.heap.size, .bool n, .string s, .int .i64 (e)), (w.heap.size + 1, .bool m, .string t, .int .i64 (f))]) (g := w.heap.size + 1 + 1) (by assumption) hb; clear hb)
            | (go_at_call 28; refine (ref5Make_c 30000 _ _ _ _ HNL.out (by omega) (by omega) (by omega) (Sd4.pw (w0 := w) (L := [(w.heap.size, .bool n, .string s, .int .i64 (e)), (w.heap.size + 1, .bool m, .string t, .int .i64 (f))]) (g := w.heap.size + 1 + 1) (by assumption))).mono ?_; rintro r w1 ⟨rfl, hb⟩; have hS := Sd4.keep (w0 := w) (L := [(w.heap.size, .bool n, .string s, .int .i64 (e)), (w.heap.size + 1, .bool m, .string t, .int .i64 (f))]) (g := w.heap.size + 1 + 1) (by assumption) hb; clear hb)
            | (go_at_call 27; refine (ref5Plain_c _ _ _ _).mono ?_; rintro r w1 ⟨rfl, hb⟩; have hS := Sd4.keep (w0 := w) (L := [(w.heap.size, .bool n, .string s, .int .i64 (e)), (w.heap.size + 1, .bool m, .string t, .int .i64 (f))]) (g := w.heap.size + 1 + 1) (by assumption) hb; clear hb))
        rename_i hHeld
        clear hHeld
        obtain ⟨⟨-, ⟨d0, d1, d2, f0, f1, f2⟩⟩, hk⟩ := hS
        go_wp2
        exact bodyPost_ret (by simp [results, Tryd.results11, go_sem, d0, d1, d2] <;> rfl) rfl
          ⟨rfl, (hk.out.store _ _ _).1.2.1⟩
      · rw [Nat.not_le] at hlt
        have hnb : (n == m) = false := by rwa [beq_eq_false_iff_ne]
        rw [sv_sub_lt hnm hlt, ← pneg_sv, zstr_sv, zexp_sv]
        have HNL := Lib.hid (show (decs (Y - X)).length ≤ 4990 by have := decs_length_le (Nat.sub_le Y X); omega)
        have HLT := Lib.hid (Nat.le_of_lt hlt)
        have HLS := Lib.hid (fun w => (less_c (strD (decs X)) (strD (decs Y)) X Y w (isD_decs X) (isD_decs Y)))
        rw [decide_eq_true hlt] at HLS
        clear hnm hlt
        have HXL := Lib.hid (show (decs X).length ≤ 10000 by omega)
        have HYL := Lib.hid (show (decs Y).length ≤ 10000 by omega)
        clear hx hy
        have HK := Lib.hid (kept4_two w (.bool n) (.string s) (.int .i64 e) (.bool m) (.string t) (.int .i64 f) (.bool false) (.string ⟨#[]⟩) (.int .i64 0) 23 23 hP)
        clear hP
        go_enter Tryd.func11, Tryd.ntmps11
        go_wp2
        have hS : Sd4 w [(w.heap.size, .bool n, .string s, .int .i64 (e)), (w.heap.size + 1, .bool m, .string t, .int .i64 (f))] (w.heap.size + 1 + 1) _ := .of (HK.out).drew
        go_region_held3 (fun w' => (((w'.cell? ⟨w.heap.size, 0, none⟩ = some (.bool n) ∧ w'.cell? ⟨w.heap.size, 1, none⟩ = some (.string s) ∧ w'.cell? ⟨w.heap.size, 2, none⟩ = some (.int .i64 (e))) ∧ (w'.cell? ⟨w.heap.size + 1, 0, none⟩ = some (.bool m) ∧ w'.cell? ⟨w.heap.size + 1, 1, none⟩ = some (.string t) ∧ w'.cell? ⟨w.heap.size + 1, 2, none⟩ = some (.int .i64 (f))) ∧ True) ∧ (w'.cell? ⟨w.heap.size + 1 + 1, 0, none⟩ = some (rd w' (w.heap.size + 1 + 1) 0) ∧ w'.cell? ⟨w.heap.size + 1 + 1, 1, none⟩ = some (rd w' (w.heap.size + 1 + 1) 1) ∧ w'.cell? ⟨w.heap.size + 1 + 1, 2, none⟩ = some (rd w' (w.heap.size + 1 + 1) 2) ∧ w'.frozen? ⟨w.heap.size + 1 + 1, 0, none⟩ = false ∧ w'.frozen? ⟨w.heap.size + 1 + 1, 1, none⟩ = false ∧ w'.frozen? ⟨w.heap.size + 1 + 1, 2, none⟩ = false)) ∧ Hid (Kept4 w [(w.heap.size, .bool n, .string s, .int .i64 (e)), (w.heap.size + 1, .bool m, .string t, .int .i64 (f))] (w.heap.size + 1 + 1) w')) (first | exact hS | exact Sd4.store (w0 := w) (L := [(w.heap.size, .bool n, .string s, .int .i64 (e)), (w.heap.size + 1, .bool m, .string t, .int .i64 (f))]) (g := w.heap.size + 1 + 1) hS _ _ _)
          (first
            | (go_at_call 26; refine (ref5At_v _ _ _ _ _ _ _ _ _ (by first | exact HF.out | exact HF'.out) (by omega) hk1 (by first | exact HI.out | exact HJ.out) (by first | exact HX.out | exact HY.out) (Sd4.pw (w0 := w) (L := [(w.heap.size, .bool n, .string s, .int .i64 (e)), (w.heap.size + 1, .bool m, .string t, .int .i64 (f))]) (g := w.heap.size + 1 + 1) (by assumption))).mono ?_; rintro r w1 ⟨rfl, hb⟩; have hS := Sd4.keep (w0 := w) (L := [(w.heap.size, .bool n, .string s, .int .i64 (e)), (w.heap.size + 1, .bool m, .string t, .int .i64 (f))]) (g := w.heap.size + 1 + 1) (by assumption) hb; clear hb))
        rename_i hHeld
        clear hHeld
        obtain ⟨⟨⟨⟨c00, c01, c02⟩, ⟨c10, c11, c12⟩, -⟩, ⟨d0, d1, d2, f0, f1, f2⟩⟩, hk⟩ := hS
        have hk2 := hk.out
        go_wp2_with fail
        refine (HLS.out _).mono ?_
        rintro r w5 ⟨rfl, rfl⟩
        go_wp2
        clear c00 c01 c02 c10 c11 c12 d0 d1 d2 f0 f1 f2
        clear hk
        have hS : Sd4 w [(w.heap.size, .bool n, .string s, .int .i64 (e)), (w.heap.size + 1, .bool m, .string t, .int .i64 (f))] (w.heap.size + 1 + 1) _ := .of (hk2).drew
        go_region_held3 (fun w' => (((w'.cell? ⟨w.heap.size, 0, none⟩ = some (.bool n) ∧ w'.cell? ⟨w.heap.size, 1, none⟩ = some (.string s) ∧ w'.cell? ⟨w.heap.size, 2, none⟩ = some (.int .i64 (e))) ∧ (w'.cell? ⟨w.heap.size + 1, 0, none⟩ = some (.bool m) ∧ w'.cell? ⟨w.heap.size + 1, 1, none⟩ = some (.string t) ∧ w'.cell? ⟨w.heap.size + 1, 2, none⟩ = some (.int .i64 (f))) ∧ True) ∧ (w'.cell? ⟨w.heap.size + 1 + 1, 0, none⟩ = some (rd w' (w.heap.size + 1 + 1) 0) ∧ w'.cell? ⟨w.heap.size + 1 + 1, 1, none⟩ = some (rd w' (w.heap.size + 1 + 1) 1) ∧ w'.cell? ⟨w.heap.size + 1 + 1, 2, none⟩ = some (rd w' (w.heap.size + 1 + 1) 2) ∧ w'.frozen? ⟨w.heap.size + 1 + 1, 0, none⟩ = false ∧ w'.frozen? ⟨w.heap.size + 1 + 1, 1, none⟩ = false ∧ w'.frozen? ⟨w.heap.size + 1 + 1, 2, none⟩ = false)) ∧ Hid (Kept4 w [(w.heap.size, .bool n, .string s, .int .i64 (e)), (w.heap.size + 1, .bool m, .string t, .int .i64 (f))] (w.heap.size + 1 + 1) w')) (first | exact hS | exact Sd4.store (w0 := w) (L := [(w.heap.size, .bool n, .string s, .int .i64 (e)), (w.heap.size + 1, .bool m, .string t, .int .i64 (f))]) (g := w.heap.size + 1 + 1) hS _ _ _)
          (first
            | (go_at_call 31; refine (minus_n Y X _ HYL.out HLT.out).mono ?_; rintro r w1 ⟨rfl, hb⟩; have hS := Sd4.keep (w0 := w) (L := [(w.heap.size, .bool n, .string s, .int .i64 (e)), (w.heap.size + 1, .bool m, .string t, .int .i64 (f))]) (g := w.heap.size + 1 + 1) (by assumption) hb; clear hb)
            | (go_at_call 28; refine (ref5Make_c 30000 _ _ _ _ HNL.out (by omega) (by omega) (by omega) (Sd4.pw (w0 := w) (L := [(w.heap.size, .bool n, .string s, .int .i64 (e)), (w.heap.size + 1, .bool m, .string t, .int .i64 (f))]) (g := w.heap.size + 1 + 1) (by assumption))).mono ?_; rintro r w1 ⟨rfl, hb⟩; have hS := Sd4.keep (w0 := w) (L := [(w.heap.size, .bool n, .string s, .int .i64 (e)), (w.heap.size + 1, .bool m, .string t, .int .i64 (f))]) (g := w.heap.size + 1 + 1) (by assumption) hb; clear hb)
            | (go_at_call 27; refine (ref5Plain_c _ _ _ _).mono ?_; rintro r w1 ⟨rfl, hb⟩; have hS := Sd4.keep (w0 := w) (L := [(w.heap.size, .bool n, .string s, .int .i64 (e)), (w.heap.size + 1, .bool m, .string t, .int .i64 (f))]) (g := w.heap.size + 1 + 1) (by assumption) hb; clear hb))
        rename_i hHeld
        clear hHeld
        obtain ⟨⟨-, ⟨d0, d1, d2, f0, f1, f2⟩⟩, hk⟩ := hS
        go_wp2
        exact bodyPost_ret (by simp [results, Tryd.results11, go_sem, d0, d1, d2] <;> rfl) rfl
          ⟨rfl, (hk.out.store _ _ _).1.2.1⟩

theorem strip_b {B : Nat} {s : ByteArray} {e : Int} {N : Nat} (h : DA B s e N) (w : World) :
    Calls Tryd.prog 35 #[.string s] w fun r w' => r = .returned (.string (strD (decs N))) ∧ Below w.heap.size w w' :=
  (strip_n h w).mono fun r w' hh => ⟨hh.1, by obtain ⟨-, rfl⟩ := hh; exact Below.refl _ _⟩
set_option maxHeartbeats 4000000 in
set_option maxRecDepth 100000 in
theorem ref5Product0_c (B : Nat) (n m : Bool) (s t : ByteArray) (e f : Int) (N M : Nat) (w : World) (h : DA B s e N) (h' : DA B t f M) (hB : B ≤ 30000) (hx : (decs (N * M)).length ≤ 4990) (hP : Pw w) :
    Calls Tryd.prog 15 #[.agg #[.bool n, .string s, .int .i64 e], .agg #[.bool m, .string t, .int .i64 f]] w fun r w' => r = .returned (.agg #[.bool (zneg (sv n N * sv m M)), .string (zstr (sv n N * sv m M)), .int .i64 (zexp (sv n N * sv m M) (e + f))]) ∧ Below w.heap.size w w' := by
  have HF := Lib.hid (h.mono hB)
  have HF' := Lib.hid (h'.mono hB)
  have hi3 : -60000 ≤ e + f ∧ e + f ≤ 60000 := by have := h.lo; have := h'.lo; have := h.hi; have := h'.hi; omega
  have HB1 := Lib.hid hi3.1
  have HB2 := Lib.hid hi3.2
  have hw : IntKind.i64.wrap (e + f) = e + f := IntWalk.i64_in _ (by omega)
  have HXL := Lib.hid (Nat.le_trans h.declen (by omega : 5000 ≤ 10000))
  have HYL := Lib.hid (Nat.le_trans h'.declen (by omega : 5000 ≤ 10000))
  have HNL := Lib.hid hx
  have HK := Lib.hid (kept4_two w (.bool n) (.string s) (.int .i64 e) (.bool m) (.string t) (.int .i64 f) (.bool false) (.string ⟨#[]⟩) (.int .i64 0) 23 23 hP)
  rw [sv_mul2, ← pneg_sv, zstr_sv, zexp_sv]
  clear h h' hx hB hi3 hP
  go_enter Tryd.func15, Tryd.ntmps15
  go_wp2
  have hS : Sd4 w [(w.heap.size, .bool n, .string s, .int .i64 (e)), (w.heap.size + 1, .bool m, .string t, .int .i64 (f))] (w.heap.size + 1 + 1) _ := .of (HK.out).drew
  go_region_held3 (fun w' => (((w'.cell? ⟨w.heap.size, 0, none⟩ = some (.bool n) ∧ w'.cell? ⟨w.heap.size, 1, none⟩ = some (.string s) ∧ w'.cell? ⟨w.heap.size, 2, none⟩ = some (.int .i64 (e))) ∧ (w'.cell? ⟨w.heap.size + 1, 0, none⟩ = some (.bool m) ∧ w'.cell? ⟨w.heap.size + 1, 1, none⟩ = some (.string t) ∧ w'.cell? ⟨w.heap.size + 1, 2, none⟩ = some (.int .i64 (f))) ∧ True) ∧ (w'.cell? ⟨w.heap.size + 1 + 1, 0, none⟩ = some (rd w' (w.heap.size + 1 + 1) 0) ∧ w'.cell? ⟨w.heap.size + 1 + 1, 1, none⟩ = some (rd w' (w.heap.size + 1 + 1) 1) ∧ w'.cell? ⟨w.heap.size + 1 + 1, 2, none⟩ = some (rd w' (w.heap.size + 1 + 1) 2) ∧ w'.frozen? ⟨w.heap.size + 1 + 1, 0, none⟩ = false ∧ w'.frozen? ⟨w.heap.size + 1 + 1, 1, none⟩ = false ∧ w'.frozen? ⟨w.heap.size + 1 + 1, 2, none⟩ = false)) ∧ Hid (Kept4 w [(w.heap.size, .bool n, .string s, .int .i64 (e)), (w.heap.size + 1, .bool m, .string t, .int .i64 (f))] (w.heap.size + 1 + 1) w')) (first | exact hS | exact Sd4.store (w0 := w) (L := [(w.heap.size, .bool n, .string s, .int .i64 (e)), (w.heap.size + 1, .bool m, .string t, .int .i64 (f))]) (g := w.heap.size + 1 + 1) hS _ _ _)
    (first
      | (go_at_call 35; refine (strip_b (by first | exact HF.out | exact HF'.out) _).mono ?_; rintro r w1 ⟨rfl, hb⟩; have hS := Sd4.keep (w0 := w) (L := [(w.heap.size, .bool n, .string s, .int .i64 (e)), (w.heap.size + 1, .bool m, .string t, .int .i64 (f))]) (g := w.heap.size + 1 + 1) (by assumption) hb; clear hb)
      | (go_at_call 34; refine (times_n N M _ HXL.out HYL.out).mono ?_; rintro r w1 ⟨rfl, hb⟩; have hS := Sd4.keep (w0 := w) (L := [(w.heap.size, .bool n, .string s, .int .i64 (e)), (w.heap.size + 1, .bool m, .string t, .int .i64 (f))]) (g := w.heap.size + 1 + 1) (by assumption) hb; clear hb)
      | (go_at_call 28; refine (ref5Make_c 60000 _ _ (e + f) _ HNL.out HB1.out HB2.out (by omega) (Sd4.pw (w0 := w) (L := [(w.heap.size, .bool n, .string s, .int .i64 (e)), (w.heap.size + 1, .bool m, .string t, .int .i64 (f))]) (g := w.heap.size + 1 + 1) (by assumption))).mono ?_; rintro r w1 ⟨rfl, hb⟩; have hS := Sd4.keep (w0 := w) (L := [(w.heap.size, .bool n, .string s, .int .i64 (e)), (w.heap.size + 1, .bool m, .string t, .int .i64 (f))]) (g := w.heap.size + 1 + 1) (by assumption) hb; clear hb)
      | (go_at_call 27; refine (ref5Plain_c _ _ _ _).mono ?_; rintro r w1 ⟨rfl, hb⟩; have hS := Sd4.keep (w0 := w) (L := [(w.heap.size, .bool n, .string s, .int .i64 (e)), (w.heap.size + 1, .bool m, .string t, .int .i64 (f))]) (g := w.heap.size + 1 + 1) (by assumption) hb; clear hb))
  rename_i hHeld
  clear hHeld
  clear hw
  obtain ⟨⟨-, ⟨d0, d1, d2, f0, f1, f2⟩⟩, hk⟩ := hS
  go_wp2
  exact bodyPost_ret (by simp [results, Tryd.results15, go_sem, d0, d1, d2] <;> rfl) rfl
    ⟨rfl, (hk.out.store _ _ _).1.2.1⟩

theorem refSum_d {k : Int} {n m : Bool} {s t : ByteArray} {e f V W Z : Int} {w : World} (h : DV k n s e V) (h' : DV k m t f W) (hZ : V + W = Z) (hP : Pw w) :
    Calls Tryd.prog 11 #[.agg #[.bool n, .string s, .int .i64 e], .agg #[.bool m, .string t, .int .i64 f]] w fun r w' => r = .returned (.agg #[.bool (zneg Z), .string (zstr Z), .int .i64 (zexp Z k)]) ∧ Below w.heap.size w w' := by
  obtain ⟨⟨N, hd, rfl⟩, h1, h2, h3⟩ := h
  obtain ⟨⟨M, hd', rfl⟩, h1', h2', h3'⟩ := h'
  subst hZ
  obtain ⟨p, i, j, hp, hi, hj, hkp, ⟨e1, e2, e3⟩, hi2, hj2⟩ := add_min (n := n) (m := m) (N := N) (M := M) h1 h1'
  have := ref5Sum0_c 30000 n m s t e f N M _ _ p i j w hd hd' hp hi hj rfl rfl (by omega) (by rw [hi2]; exact Nat.le_trans (decs_atE (n := n) hkp (by omega)) (by omega)) (by rw [hj2]; exact Nat.le_trans (decs_atE (n := m) hkp (by omega)) (by omega)) hP
  rwa [e1, e2, e3] at this
theorem refProduct_d {k k' : Int} {n m : Bool} {s t : ByteArray} {e f V W Z K : Int} {w : World} (h : DV k n s e V) (h' : DV k' m t f W) (hZ : V * W = Z) (hK : k + k' = K) (hl : (decs Z.natAbs).length ≤ 4900) (hP : Pw w) :
    Calls Tryd.prog 15 #[.agg #[.bool n, .string s, .int .i64 e], .agg #[.bool m, .string t, .int .i64 f]] w fun r w' => r = .returned (.agg #[.bool (zneg Z), .string (zstr Z), .int .i64 (zexp Z K)]) ∧ Below w.heap.size w w' := by
  obtain ⟨⟨N, hd, rfl⟩, h1, h2, h3⟩ := h
  obtain ⟨⟨M, hd', rfl⟩, h1', h2', h3'⟩ := h'
  subst hZ hK
  obtain ⟨e1, e2, e3⟩ := mul_z (n := n) (m := m) (N := N) (M := M) h1 h1'
  have hnm : (decs (N * M)).length ≤ 4900 := by
    refine Nat.le_trans (decs_length_le ?_) hl
    rw [Int.natAbs_mul, atE, atE, sv_natAbs, sv_natAbs]
    exact Nat.mul_le_mul (Nat.le_mul_of_pos_right _ (pow_pos10 _)) (Nat.le_mul_of_pos_right _ (pow_pos10 _))
  have := ref5Product0_c 30000 n m s t e f N M w hd hd' (by omega) (by omega) hP
  rwa [e1, e2, e3] at this
end Go.Proofs.YtbjdledincahkaaDoor
