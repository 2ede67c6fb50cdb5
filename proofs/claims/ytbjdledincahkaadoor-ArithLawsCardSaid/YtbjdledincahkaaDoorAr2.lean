/-
  Ar2: arith.Add.
-/
import Derived.Test.YtbjdledincahkaaDoorAr1
namespace Go.Proofs.YtbjdledincahkaaDoor
open Go.RowKit

set_option maxHeartbeats 4000000 in
set_option maxRecDepth 100000 in
theorem add0_c (B : Nat) (n m : Bool) (s t : ByteArray) (e f : Int) (N M X Y : Nat) (k : Int) (i j : Nat) (w : World) (h : DA B s e N) (h' : DA B t f M) (hk : min e f = k) (hi : e - k = (i : Int)) (hj : f - k = (j : Int)) (hX : N * 10 ^ i = X) (hY : M * 10 ^ j = Y) (hB : B ≤ 30000) (hx : (decs X).length ≤ 4950) (hy : (decs Y).length ≤ 4950) (hP : Pw w) :
    Calls Tryd.prog 10 #[.agg #[.bool n, .string s, .int .i64 e], .agg #[.bool m, .string t, .int .i64 f]] w fun r w' => r = .returned (.agg #[.bool (zneg (sv n X + sv m Y)), .string (zstr (sv n X + sv m Y)), .int .i64 (zexp (sv n X + sv m Y) k)]) ∧ Below w.heap.size w w' := by
  have HF := Lib.hid (h.mono hB)
  have HF' := Lib.hid (h'.mono hB)
  have hlo : -1000000 ≤ k ∧ k ≤ 1000000 := by have := h.lo; have := h'.lo; have := h.hi; have := h'.hi; omega
  have hi3 : i ≤ 65536 ∧ j ≤ 65536 ∧ -30000 ≤ k ∧ k ≤ 30000 := by have := h.lo; have := h'.lo; have := h.hi; have := h'.hi; omega
  obtain ⟨hi4, hj4, hk3, hk4⟩ := hi3
  have HX := Lib.hid hX
  have HY := Lib.hid hY
  have HI := Lib.hid hi
  have HJ := Lib.hid hj
  have HM1 := Lib.hid (fun m (hm : (digs 1000000000 X).length = m) => (show m ≤ 100000000 by have := digs_len_decs hx; omega))
  have HM2 := Lib.hid (fun m (hm : (digs 1000000000 Y).length = m) => (show m ≤ 100000000 by have := digs_len_decs hy; omega))
  clear h h' hX hY hi hj hB
  by_cases hnm : n = m
  · subst hnm
    rw [sv_add, ← pneg_sv, zstr_sv, zexp_sv]
    have HNL := Lib.hid (show (decs (X + Y)).length ≤ 4990 by have := decs_add hx hy; omega)
    clear hx hy
    have hi2 : i ≤ 65536 := by omega
    have hj2 : j ≤ 65536 := by omega
    have HK := Lib.hid (kept4_two w (.bool n) (.string s) (.int .i64 e) (.bool n) (.string t) (.int .i64 f) (.bool false) (.string ⟨#[]⟩) (.int .i64 0) 23 23 hP)
    clear hP
    go_enter Tryd.func10, Tryd.ntmps10
    go_wp2
    have hS : Sd4 w [(w.heap.size, .bool n, .string s, .int .i64 (e)), (w.heap.size + 1, .bool n, .string t, .int .i64 (f))] (w.heap.size + 1 + 1) _ := .of (HK.out).drew
    go_region_held3 (fun w' => (((w'.cell? ⟨w.heap.size, 0, none⟩ = some (.bool n) ∧ w'.cell? ⟨w.heap.size, 1, none⟩ = some (.string s) ∧ w'.cell? ⟨w.heap.size, 2, none⟩ = some (.int .i64 (e))) ∧ (w'.cell? ⟨w.heap.size + 1, 0, none⟩ = some (.bool n) ∧ w'.cell? ⟨w.heap.size + 1, 1, none⟩ = some (.string t) ∧ w'.cell? ⟨w.heap.size + 1, 2, none⟩ = some (.int .i64 (f))) ∧ True) ∧ (w'.cell? ⟨w.heap.size + 1 + 1, 0, none⟩ = some (rd w' (w.heap.size + 1 + 1) 0) ∧ w'.cell? ⟨w.heap.size + 1 + 1, 1, none⟩ = some (rd w' (w.heap.size + 1 + 1) 1) ∧ w'.cell? ⟨w.heap.size + 1 + 1, 2, none⟩ = some (rd w' (w.heap.size + 1 + 1) 2) ∧ w'.frozen? ⟨w.heap.size + 1 + 1, 0, none⟩ = false ∧ w'.frozen? ⟨w.heap.size + 1 + 1, 1, none⟩ = false ∧ w'.frozen? ⟨w.heap.size + 1 + 1, 2, none⟩ = false)) ∧ Hid (Kept4 w [(w.heap.size, .bool n, .string s, .int .i64 (e)), (w.heap.size + 1, .bool n, .string t, .int .i64 (f))] (w.heap.size + 1 + 1) w')) (first | exact hS | exact Sd4.store (w0 := w) (L := [(w.heap.size, .bool n, .string s, .int .i64 (e)), (w.heap.size + 1, .bool n, .string t, .int .i64 (f))]) (g := w.heap.size + 1 + 1) hS _ _ _)
      (first
        | (go_at_call 22; refine (lowered_v _ _ _ _ _ _ _ _ _ (by first | exact HF.out | exact HF'.out) (by first | exact HI.out | exact HJ.out) (by first | exact HX.out | exact HY.out) hlo (by assumption) (Sd4.pw (w0 := w) (L := [(w.heap.size, .bool n, .string s, .int .i64 (e)), (w.heap.size + 1, .bool n, .string t, .int .i64 (f))]) (g := w.heap.size + 1 + 1) (by assumption))).mono ?_; rintro r w1 ⟨A1, m1, c1, rfl, ho1, hb⟩; have hS := Sd4.keep (w0 := w) (L := [(w.heap.size, .bool n, .string s, .int .i64 (e)), (w.heap.size + 1, .bool n, .string t, .int .i64 (f))]) (g := w.heap.size + 1 + 1) (by assumption) hb; (try (have HO2 := Lib.hid (HO1.out.below hb); have HL2 := HL1; clear HO1 HL1)); have HO1 := Lib.hid ho1.limbs; have HL1 := Lib.hid (show m1 ≤ 100000000 by first | exact HM1.out _ ho1.len | exact HM2.out _ ho1.len); clear ho1; clear hb))
    rename_i hHeld
    clear hHeld
    obtain ⟨⟨⟨⟨c00, c01, c02⟩, ⟨c10, c11, c12⟩, -⟩, ⟨d0, d1, d2, f0, f1, f2⟩⟩, hk⟩ := hS
    go_wp2
    have hk1 := hk.out
    replace HO1 := Lib.hid (HO1.out.below (Below.refl _ _).drew)
    replace HO2 := Lib.hid (HO2.out.below (Below.refl _ _).drew)
    clear c00 c01 c02 c10 c11 c12 d0 d1 d2 f0 f1 f2 hk
    have hS : Sd4 w [(w.heap.size, .bool n, .string s, .int .i64 (e)), (w.heap.size + 1, .bool n, .string t, .int .i64 (f))] (w.heap.size + 1 + 1) _ := .of (hk1).drew
    go_region_held3 (fun w' => (((w'.cell? ⟨w.heap.size, 0, none⟩ = some (.bool n) ∧ w'.cell? ⟨w.heap.size, 1, none⟩ = some (.string s) ∧ w'.cell? ⟨w.heap.size, 2, none⟩ = some (.int .i64 (e))) ∧ (w'.cell? ⟨w.heap.size + 1, 0, none⟩ = some (.bool n) ∧ w'.cell? ⟨w.heap.size + 1, 1, none⟩ = some (.string t) ∧ w'.cell? ⟨w.heap.size + 1, 2, none⟩ = some (.int .i64 (f))) ∧ True) ∧ (w'.cell? ⟨w.heap.size + 1 + 1, 0, none⟩ = some (rd w' (w.heap.size + 1 + 1) 0) ∧ w'.cell? ⟨w.heap.size + 1 + 1, 1, none⟩ = some (rd w' (w.heap.size + 1 + 1) 1) ∧ w'.cell? ⟨w.heap.size + 1 + 1, 2, none⟩ = some (rd w' (w.heap.size + 1 + 1) 2) ∧ w'.frozen? ⟨w.heap.size + 1 + 1, 0, none⟩ = false ∧ w'.frozen? ⟨w.heap.size + 1 + 1, 1, none⟩ = false ∧ w'.frozen? ⟨w.heap.size + 1 + 1, 2, none⟩ = false)) ∧ Hid (Kept4 w [(w.heap.size, .bool n, .string s, .int .i64 (e)), (w.heap.size + 1, .bool n, .string t, .int .i64 (f))] (w.heap.size + 1 + 1) w')) (first | exact hS | exact Sd4.store (w0 := w) (L := [(w.heap.size, .bool n, .string s, .int .i64 (e)), (w.heap.size + 1, .bool n, .string t, .int .i64 (f))]) (g := w.heap.size + 1 + 1) hS _ _ _)
      (first
        | (go_at_call 24; refine (natAdd_n _ _ _ _ _ _ X Y _ HO2.out HO1.out HL2.out HL1.out).mono ?_; rintro r w1 ⟨A3, m3, c3, rfl, ho3, hb⟩; have hS := Sd4.keep (w0 := w) (L := [(w.heap.size, .bool n, .string s, .int .i64 (e)), (w.heap.size + 1, .bool n, .string t, .int .i64 (f))]) (g := w.heap.size + 1 + 1) (by assumption) hb; have HO3 := Lib.hid ho3.limbs; have HL3 := Lib.hid (show m3 ≤ 100000000 by have h1 := digs_len_decs HNL.out; rw [ho3.len] at h1; exact Nat.le_trans h1 (by omega)); clear ho3; clear hb)
        | (go_at_call 23; refine (decimal_c 30000 _ A3 m3 c3 _ k _ HO3.out HL3.out HNL.out (by omega) (by omega) (by omega) (Sd4.pw (w0 := w) (L := [(w.heap.size, .bool n, .string s, .int .i64 (e)), (w.heap.size + 1, .bool n, .string t, .int .i64 (f))]) (g := w.heap.size + 1 + 1) (by assumption))).mono ?_; rintro r w1 ⟨rfl, hb⟩; have hS := Sd4.keep (w0 := w) (L := [(w.heap.size, .bool n, .string s, .int .i64 (e)), (w.heap.size + 1, .bool n, .string t, .int .i64 (f))]) (g := w.heap.size + 1 + 1) (by assumption) hb; clear hb))
    rename_i hHeld
    clear hHeld
    obtain ⟨⟨-, ⟨d0, d1, d2, f0, f1, f2⟩⟩, hk⟩ := hS
    go_wp2
    exact bodyPost_ret (by simp [results, Tryd.results10, go_sem, d0, d1, d2] <;> rfl) rfl
      ⟨rfl, (hk.out.store _ _ _).1.2.1⟩
  · by_cases hlt : Y ≤ X
    · have hnb : (n == m) = false := by rwa [beq_eq_false_iff_ne]
      rw [sv_sub_ge hnm hlt, ← pneg_sv, zstr_sv, zexp_sv]
      have HNL := Lib.hid (show (decs (X - Y)).length ≤ 4990 by have := decs_length_le (Nat.sub_le X Y); omega)
      have HLT := Lib.hid hlt
      clear hnm hlt
      clear hx hy
      have hi2 : i ≤ 65536 := by omega
      have hj2 : j ≤ 65536 := by omega
      have HK := Lib.hid (kept4_two w (.bool n) (.string s) (.int .i64 e) (.bool m) (.string t) (.int .i64 f) (.bool false) (.string ⟨#[]⟩) (.int .i64 0) 23 23 hP)
      clear hP
      go_enter Tryd.func10, Tryd.ntmps10
      go_wp2
      have hS : Sd4 w [(w.heap.size, .bool n, .string s, .int .i64 (e)), (w.heap.size + 1, .bool m, .string t, .int .i64 (f))] (w.heap.size + 1 + 1) _ := .of (HK.out).drew
      go_region_held3 (fun w' => (((w'.cell? ⟨w.heap.size, 0, none⟩ = some (.bool n) ∧ w'.cell? ⟨w.heap.size, 1, none⟩ = some (.string s) ∧ w'.cell? ⟨w.heap.size, 2, none⟩ = some (.int .i64 (e))) ∧ (w'.cell? ⟨w.heap.size + 1, 0, none⟩ = some (.bool m) ∧ w'.cell? ⟨w.heap.size + 1, 1, none⟩ = some (.string t) ∧ w'.cell? ⟨w.heap.size + 1, 2, none⟩ = some (.int .i64 (f))) ∧ True) ∧ (w'.cell? ⟨w.heap.size + 1 + 1, 0, none⟩ = some (rd w' (w.heap.size + 1 + 1) 0) ∧ w'.cell? ⟨w.heap.size + 1 + 1, 1, none⟩ = some (rd w' (w.heap.size + 1 + 1) 1) ∧ w'.cell? ⟨w.heap.size + 1 + 1, 2, none⟩ = some (rd w' (w.heap.size + 1 + 1) 2) ∧ w'.frozen? ⟨w.heap.size + 1 + 1, 0, none⟩ = false ∧ w'.frozen? ⟨w.heap.size + 1 + 1, 1, none⟩ = false ∧ w'.frozen? ⟨w.heap.size + 1 + 1, 2, none⟩ = false)) ∧ Hid (Kept4 w [(w.heap.size, .bool n, .string s, .int .i64 (e)), (w.heap.size + 1, .bool m, .string t, .int .i64 (f))] (w.heap.size + 1 + 1) w')) (first | exact hS | exact Sd4.store (w0 := w) (L := [(w.heap.size, .bool n, .string s, .int .i64 (e)), (w.heap.size + 1, .bool m, .string t, .int .i64 (f))]) (g := w.heap.size + 1 + 1) hS _ _ _)
        (first
          | (go_at_call 22; refine (lowered_v _ _ _ _ _ _ _ _ _ (by first | exact HF.out | exact HF'.out) (by first | exact HI.out | exact HJ.out) (by first | exact HX.out | exact HY.out) hlo (by assumption) (Sd4.pw (w0 := w) (L := [(w.heap.size, .bool n, .string s, .int .i64 (e)), (w.heap.size + 1, .bool m, .string t, .int .i64 (f))]) (g := w.heap.size + 1 + 1) (by assumption))).mono ?_; rintro r w1 ⟨A1, m1, c1, rfl, ho1, hb⟩; have hS := Sd4.keep (w0 := w) (L := [(w.heap.size, .bool n, .string s, .int .i64 (e)), (w.heap.size + 1, .bool m, .string t, .int .i64 (f))]) (g := w.heap.size + 1 + 1) (by assumption) hb; (try (have HO2 := Lib.hid (HO1.out.below hb); have HL2 := HL1; clear HO1 HL1)); have HO1 := Lib.hid ho1.limbs; have HL1 := Lib.hid (show m1 ≤ 100000000 by first | exact HM1.out _ ho1.len | exact HM2.out _ ho1.len); clear ho1; clear hb))
      rename_i hHeld
      clear hHeld
      obtain ⟨⟨⟨⟨c00, c01, c02⟩, ⟨c10, c11, c12⟩, -⟩, ⟨d0, d1, d2, f0, f1, f2⟩⟩, hk⟩ := hS
      go_wp2_with fail
      refine (natSub_ge _ _ _ _ _ _ X Y _ HO2.out HO1.out HLT.out HL2.out).mono ?_
      rintro r w5 ⟨A3, m3, c3, rfl, ho3, hb⟩
      have HO3 := Lib.hid ho3.limbs
      have HL3 := Lib.hid (show m3 ≤ 100000000 by have h1 := digs_len_decs HNL.out; rw [ho3.len] at h1; exact Nat.le_trans h1 (by omega))
      clear ho3
      replace hk := Lib.hid (hk.out.keep hb)
      clear c00 c01 c02 c10 c11 c12 d0 d1 d2 f0 f1 f2
      clear hb
      obtain ⟨⟨⟨⟨c00, c01, c02⟩, ⟨c10, c11, c12⟩, -⟩, ⟨d0, d1, d2, f0, f1, f2⟩⟩, -⟩ := Sd4.of hk.out
      go_wp2_with fail
      refine (decimal_c 30000 _ A3 m3 c3 _ k _ HO3.out HL3.out HNL.out (by omega) (by omega) (by omega) hk.out.1.1).mono ?_
      rintro r w7 ⟨rfl, hb⟩
      replace hk := Lib.hid (hk.out.keep hb)
      clear c00 c01 c02 c10 c11 c12 d0 d1 d2 f0 f1 f2
      clear hb
      obtain ⟨⟨⟨⟨c00, c01, c02⟩, ⟨c10, c11, c12⟩, -⟩, ⟨d0, d1, d2, f0, f1, f2⟩⟩, -⟩ := Sd4.of hk.out
      go_wp2
      exact bodyPost_ret (by simp [results, Tryd.results10, go_sem, d0, d1, d2]) rfl
        ⟨rfl, (hk.out.store _ _ _).1.2.1⟩
    · rw [Nat.not_le] at hlt
      have hnb : (n == m) = false := by rwa [beq_eq_false_iff_ne]
      rw [sv_sub_lt hnm hlt, ← pneg_sv, zstr_sv, zexp_sv]
      have HNL := Lib.hid (show (decs (Y - X)).length ≤ 4990 by have := decs_length_le (Nat.sub_le Y X); omega)
      have HLT := Lib.hid hlt
      clear hnm hlt
      clear hx hy
      have hi2 : i ≤ 65536 := by omega
      have hj2 : j ≤ 65536 := by omega
      have HK := Lib.hid (kept4_two w (.bool n) (.string s) (.int .i64 e) (.bool m) (.string t) (.int .i64 f) (.bool false) (.string ⟨#[]⟩) (.int .i64 0) 23 23 hP)
      clear hP
      go_enter Tryd.func10, Tryd.ntmps10
      go_wp2
      have hS : Sd4 w [(w.heap.size, .bool n, .string s, .int .i64 (e)), (w.heap.size + 1, .bool m, .string t, .int .i64 (f))] (w.heap.size + 1 + 1) _ := .of (HK.out).drew
      go_region_held3 (fun w' => (((w'.cell? ⟨w.heap.size, 0, none⟩ = some (.bool n) ∧ w'.cell? ⟨w.heap.size, 1, none⟩ = some (.string s) ∧ w'.cell? ⟨w.heap.size, 2, none⟩ = some (.int .i64 (e))) ∧ (w'.cell? ⟨w.heap.size + 1, 0, none⟩ = some (.bool m) ∧ w'.cell? ⟨w.heap.size + 1, 1, none⟩ = some (.string t) ∧ w'.cell? ⟨w.heap.size + 1, 2, none⟩ = some (.int .i64 (f))) ∧ True) ∧ (w'.cell? ⟨w.heap.size + 1 + 1, 0, none⟩ = some (rd w' (w.heap.size + 1 + 1) 0) ∧ w'.cell? ⟨w.heap.size + 1 + 1, 1, none⟩ = some (rd w' (w.heap.size + 1 + 1) 1) ∧ w'.cell? ⟨w.heap.size + 1 + 1, 2, none⟩ = some (rd w' (w.heap.size + 1 + 1) 2) ∧ w'.frozen? ⟨w.heap.size + 1 + 1, 0, none⟩ = false ∧ w'.frozen? ⟨w.heap.size + 1 + 1, 1, none⟩ = false ∧ w'.frozen? ⟨w.heap.size + 1 + 1, 2, none⟩ = false)) ∧ Hid (Kept4 w [(w.heap.size, .bool n, .string s, .int .i64 (e)), (w.heap.size + 1, .bool m, .string t, .int .i64 (f))] (w.heap.size + 1 + 1) w')) (first | exact hS | exact Sd4.store (w0 := w) (L := [(w.heap.size, .bool n, .string s, .int .i64 (e)), (w.heap.size + 1, .bool m, .string t, .int .i64 (f))]) (g := w.heap.size + 1 + 1) hS _ _ _)
        (first
          | (go_at_call 22; refine (lowered_v _ _ _ _ _ _ _ _ _ (by first | exact HF.out | exact HF'.out) (by first | exact HI.out | exact HJ.out) (by first | exact HX.out | exact HY.out) hlo (by assumption) (Sd4.pw (w0 := w) (L := [(w.heap.size, .bool n, .string s, .int .i64 (e)), (w.heap.size + 1, .bool m, .string t, .int .i64 (f))]) (g := w.heap.size + 1 + 1) (by assumption))).mono ?_; rintro r w1 ⟨A1, m1, c1, rfl, ho1, hb⟩; have hS := Sd4.keep (w0 := w) (L := [(w.heap.size, .bool n, .string s, .int .i64 (e)), (w.heap.size + 1, .bool m, .string t, .int .i64 (f))]) (g := w.heap.size + 1 + 1) (by assumption) hb; (try (have HO2 := Lib.hid (HO1.out.below hb); have HL2 := HL1; clear HO1 HL1)); have HO1 := Lib.hid ho1.limbs; have HL1 := Lib.hid (show m1 ≤ 100000000 by first | exact HM1.out _ ho1.len | exact HM2.out _ ho1.len); clear ho1; clear hb))
      rename_i hHeld
      clear hHeld
      obtain ⟨⟨⟨⟨c00, c01, c02⟩, ⟨c10, c11, c12⟩, -⟩, ⟨d0, d1, d2, f0, f1, f2⟩⟩, hk⟩ := hS
      go_wp2_with fail
      refine (natSub_lt _ _ _ _ _ _ X Y _ HO2.out HO1.out HLT.out).mono ?_
      rintro r w5 ⟨rfl, hb⟩
      replace HO1 := Lib.hid (HO1.out.below hb)
      replace HO2 := Lib.hid (HO2.out.below hb)
      replace hk := Lib.hid (hk.out.keep hb)
      clear c00 c01 c02 c10 c11 c12 d0 d1 d2 f0 f1 f2
      clear hb
      obtain ⟨⟨⟨⟨c00, c01, c02⟩, ⟨c10, c11, c12⟩, -⟩, ⟨d0, d1, d2, f0, f1, f2⟩⟩, -⟩ := Sd4.of hk.out
      go_wp2_with fail
      refine (natSub_ge _ _ _ _ _ _ Y X _ HO1.out HO2.out (Nat.le_of_lt HLT.out) HL1.out).mono ?_
      rintro r w6 ⟨A3, m3, c3, rfl, ho3, hb⟩
      have HO3 := Lib.hid ho3.limbs
      have HL3 := Lib.hid (show m3 ≤ 100000000 by have h1 := digs_len_decs HNL.out; rw [ho3.len] at h1; exact Nat.le_trans h1 (by omega))
      clear ho3
      replace hk := Lib.hid (hk.out.keep hb)
      clear c00 c01 c02 c10 c11 c12 d0 d1 d2 f0 f1 f2
      clear hb
      obtain ⟨⟨⟨⟨c00, c01, c02⟩, ⟨c10, c11, c12⟩, -⟩, ⟨d0, d1, d2, f0, f1, f2⟩⟩, -⟩ := Sd4.of hk.out
      go_wp2_with fail
      refine (decimal_c 30000 _ A3 m3 c3 _ k _ HO3.out HL3.out HNL.out (by omega) (by omega) (by omega) hk.out.1.1).mono ?_
      rintro r w7 ⟨rfl, hb⟩
      replace hk := Lib.hid (hk.out.keep hb)
      clear c00 c01 c02 c10 c11 c12 d0 d1 d2 f0 f1 f2
      clear hb
      obtain ⟨⟨⟨⟨c00, c01, c02⟩, ⟨c10, c11, c12⟩, -⟩, ⟨d0, d1, d2, f0, f1, f2⟩⟩, -⟩ := Sd4.of hk.out
      go_wp2
      exact bodyPost_ret (by simp [results, Tryd.results10, go_sem, d0, d1, d2]) rfl
        ⟨rfl, (hk.out.store _ _ _).1.2.1⟩

end Go.Proofs.YtbjdledincahkaaDoor
