/-
  Dec6: Cmp by definition.
-/
import Derived.Test.YtijalgngcbifgaaDoorDec5
namespace Go.Proofs.YtijalgngcbifgaaDoor
open Go.RowKit
theorem strD_empty (X : Nat) : (strD (decs X)).toList.isEmpty = decide (X = 0) := by
  by_cases h : X = 0
  · subst h; rw [decs_zero, strD_nil, ByteArray.toList_eq]; rfl
  · rw [strD_nonempty h, decide_eq_false h]
theorem strD_ne {X Y : Nat} (h : X ≠ Y) : ((strD (decs X)).toList == (strD (decs Y)).toList) = false := by
  rw [beq_eq_false_iff_ne]
  intro e
  have h1 : strD (decs X) = strD (decs Y) := by
    rw [ByteArray.toList_eq, ByteArray.toList_eq] at e
    generalize strD (decs X) = s at *
    generalize strD (decs Y) = t at *
    cases s; cases t; simp at e; rw [e]
  have h2 := isD_decs X
  rw [h1] at h2
  have h3 := h2.inj (isD_decs Y)
  apply h
  rw [← dval_decs X, h3, dval_decs]
theorem cmpZ_ft {X Y : Nat} (h : X ≠ 0 ∨ Y ≠ 0) : cmpZ (sv false X) (sv true Y) = 1 := cmpZ_gt (by simp only [sv, Bool.false_eq_true, if_false, if_true]; omega)
theorem cmpZ_tf {X Y : Nat} (h : X ≠ 0 ∨ Y ≠ 0) : cmpZ (sv true X) (sv false Y) = -1 := cmpZ_lt (by simp only [sv, Bool.false_eq_true, if_false, if_true]; omega)
theorem cmpZ_ff_lt {X Y : Nat} (h : X < Y) : cmpZ (sv false X) (sv false Y) = -1 := cmpZ_lt (by simp only [sv, Bool.false_eq_true, if_false]; omega)
theorem cmpZ_ff_gt {X Y : Nat} (h : Y < X) : cmpZ (sv false X) (sv false Y) = 1 := cmpZ_gt (by simp only [sv, Bool.false_eq_true, if_false]; omega)
theorem cmpZ_tt_lt {X Y : Nat} (h : X < Y) : cmpZ (sv true X) (sv true Y) = 1 := cmpZ_gt (by simp only [sv, if_true]; omega)
theorem cmpZ_tt_gt {X Y : Nat} (h : Y < X) : cmpZ (sv true X) (sv true Y) = -1 := cmpZ_lt (by simp only [sv, if_true]; omega)
theorem less_t (X Y : Nat) (h : X < Y) (w : World) : Calls Tryd.prog 37 #[.string (strD (decs X)), .string (strD (decs Y))] w fun e w' => e = .returned (.bool true) ∧ w = w' := by
  have := less_c _ _ X Y w (isD_decs X) (isD_decs Y)
  rwa [decide_eq_true h] at this
theorem less_f (X Y : Nat) (h : Y < X) (w : World) : Calls Tryd.prog 37 #[.string (strD (decs X)), .string (strD (decs Y))] w fun e w' => e = .returned (.bool false) ∧ w = w' := by
  have := less_c _ _ X Y w (isD_decs X) (isD_decs Y)
  rwa [decide_eq_false (show ¬ X < Y by omega)] at this
set_option maxHeartbeats 4000000 in
set_option maxRecDepth 100000 in
theorem ref5Cmp_c (B : Nat) (n m : Bool) (s t : ByteArray) (e f : Int) (a b : Nat) (w : World) (h : DA B s e a) (h' : DA B t f b) (hB : B ≤ 1000000) (hP : Pw w) :
    Calls Tryd.prog 24 #[.agg #[.bool n, .string s, .int .i64 e], .agg #[.bool m, .string t, .int .i64 f]] w fun r w' => r = .returned (.int .i64 (cmpV n a e m b f)) ∧ Below w.heap.size w w' := by
  have HF := Lib.hid h
  have HF' := Lib.hid h'
  have hS0 : Sd w [(w.heap.size, .bool n, .string s, .int .i64 e), (w.heap.size + 1, .bool m, .string t, .int .i64 f)] _ := .of (Kept3.drew (kept_two w (.bool n) (.string s) (.int .i64 e) (.bool m) (.string t) (.int .i64 f) 23 hP))
  have hlo := h.lo
  have hlo' := h'.lo
  clear h h' hP
  by_cases hfe : f < e
  · obtain ⟨i, hi⟩ : ∃ i : Nat, e - f = (i : Int) := ⟨(e - f).toNat, by omega⟩
    obtain ⟨j, hj⟩ : ∃ j : Nat, f - f = (j : Int) := ⟨0, by omega⟩
    have HV := Lib.hid (cmpV_at n a e m b f f (by omega) (by omega))
    rw [show (e - f).toNat = i by omega, show (f - f).toNat = j by omega] at HV
    replace hi := Lib.hid hi
    replace hj := Lib.hid hj
    have hkb : -1000000 ≤ f := by omega
    go_enter Tryd.func24, Tryd.ntmps24
    go_wp2
    go_region_held3 (fun w' => ((w'.cell? ⟨w.heap.size, 0, none⟩ = some (.bool n) ∧ w'.cell? ⟨w.heap.size, 1, none⟩ = some (.string s) ∧ w'.cell? ⟨w.heap.size, 2, none⟩ = some (.int .i64 e)) ∧ (w'.cell? ⟨w.heap.size + 1, 0, none⟩ = some (.bool m) ∧ w'.cell? ⟨w.heap.size + 1, 1, none⟩ = some (.string t) ∧ w'.cell? ⟨w.heap.size + 1, 2, none⟩ = some (.int .i64 f)) ∧ True) ∧ Hid (Kept3 w [(w.heap.size, .bool n, .string s, .int .i64 e), (w.heap.size + 1, .bool m, .string t, .int .i64 f)] w')) (assumption) ((go_at_call 36; refine (ref5At_c _ _ _ _ _ _ _ _ (by first | exact HF.out | exact HF'.out) hB hkb (by first | exact hi.out | exact hj.out) (Sd.pw (w0 := w) (L := [(w.heap.size, .bool n, .string s, .int .i64 e), (w.heap.size + 1, .bool m, .string t, .int .i64 f)]) (by assumption))).mono ?_; rintro r w1 ⟨rfl, hb⟩; have hS := Sd.keep (w0 := w) (L := [(w.heap.size, .bool n, .string s, .int .i64 e), (w.heap.size + 1, .bool m, .string t, .int .i64 f)]) (by assumption) hb; clear hb))
    rename_i hHeld
    obtain ⟨⟨⟨c0, c1, c2⟩, ⟨d0, d1, d2⟩, -⟩, HK⟩ := hS
    clear hHeld
    have hx := strD_empty (a * 10 ^ i)
    have hy := strD_empty (b * 10 ^ j)
    generalize a * 10 ^ i = X at *
    generalize b * 10 ^ j = Y at *
    by_cases hX : X = 0
    · by_cases hY : Y = 0
      · subst hX hY
        have HC := Lib.hid (show cmpZ (sv n 0) (sv m 0) = 0 by rw [sv_zero, sv_zero]; rfl)
        rw [decide_eq_true rfl] at hx hy
        go_wp2
        go_ret
        exact ⟨ret_int (by rw [HV.out, HC.out]), HK.out.2.1⟩
      · have hz : X ≠ 0 ∨ Y ≠ 0 := .inr hY
        rw [decide_eq_true hX] at hx
        rw [decide_eq_false hY] at hy
        clear hX hY
        by_cases hnm : n = m
        · rcases Nat.lt_trichotomy X Y with h | h | h
          · have hne := strD_ne (show X ≠ Y by omega)
            have HL := Lib.hid (less_t X Y h)
            cases n
            · obtain rfl : m = false := hnm.symm
              have HC := Lib.hid (cmpZ_ff_lt h)
              clear h hnm
              go_wp2
              have hw2 : Sd w [(w.heap.size, .bool false, .string s, .int .i64 e), (w.heap.size + 1, .bool false, .string t, .int .i64 f)] w1.drew := .of HK.out.drew
              clear c0 c1 c2 d0 d1 d2
              go_region_held3 (fun w' => ((w'.cell? ⟨w.heap.size, 0, none⟩ = some (.bool false) ∧ w'.cell? ⟨w.heap.size, 1, none⟩ = some (.string s) ∧ w'.cell? ⟨w.heap.size, 2, none⟩ = some (.int .i64 e)) ∧ (w'.cell? ⟨w.heap.size + 1, 0, none⟩ = some (.bool false) ∧ w'.cell? ⟨w.heap.size + 1, 1, none⟩ = some (.string t) ∧ w'.cell? ⟨w.heap.size + 1, 2, none⟩ = some (.int .i64 f)) ∧ True) ∧ Hid (Kept3 w [(w.heap.size, .bool false, .string s, .int .i64 e), (w.heap.size + 1, .bool false, .string t, .int .i64 f)] w')) (assumption) ((go_at_call 37; refine (HL.out _).mono ?_; rintro r w1 ⟨rfl, rfl⟩))
              rename_i hHeld
              clear hHeld
              go_wp2
              go_ret
              exact ⟨ret_int (by rw [HV.out, HC.out]), HK.out.2.1.drew⟩
            · obtain rfl : m = true := hnm.symm
              have HC := Lib.hid (cmpZ_tt_lt h)
              clear h hnm
              go_wp2
              have hw2 : Sd w [(w.heap.size, .bool true, .string s, .int .i64 e), (w.heap.size + 1, .bool true, .string t, .int .i64 f)] w1.drew := .of HK.out.drew
              clear c0 c1 c2 d0 d1 d2
              go_region_held3 (fun w' => ((w'.cell? ⟨w.heap.size, 0, none⟩ = some (.bool true) ∧ w'.cell? ⟨w.heap.size, 1, none⟩ = some (.string s) ∧ w'.cell? ⟨w.heap.size, 2, none⟩ = some (.int .i64 e)) ∧ (w'.cell? ⟨w.heap.size + 1, 0, none⟩ = some (.bool true) ∧ w'.cell? ⟨w.heap.size + 1, 1, none⟩ = some (.string t) ∧ w'.cell? ⟨w.heap.size + 1, 2, none⟩ = some (.int .i64 f)) ∧ True) ∧ Hid (Kept3 w [(w.heap.size, .bool true, .string s, .int .i64 e), (w.heap.size + 1, .bool true, .string t, .int .i64 f)] w')) (assumption) ((go_at_call 37; refine (HL.out _).mono ?_; rintro r w1 ⟨rfl, rfl⟩))
              rename_i hHeld
              clear hHeld
              go_wp2
              go_ret
              exact ⟨ret_int (by rw [HV.out, HC.out]), HK.out.2.1.drew⟩
          · subst h
            subst hnm
            have HC := Lib.hid (cmpZ_eq (rfl : sv n X = sv n X))
            go_wp2
            go_ret
            exact ⟨ret_int (by rw [HV.out, HC.out]), HK.out.2.1⟩
          · have hne := strD_ne (show X ≠ Y by omega)
            have HL := Lib.hid (less_f X Y h)
            cases n
            · obtain rfl : m = false := hnm.symm
              have HC := Lib.hid (cmpZ_ff_gt h)
              clear h hnm
              go_wp2
              have hw2 : Sd w [(w.heap.size, .bool false, .string s, .int .i64 e), (w.heap.size + 1, .bool false, .string t, .int .i64 f)] w1.drew := .of HK.out.drew
              clear c0 c1 c2 d0 d1 d2
              go_region_held3 (fun w' => ((w'.cell? ⟨w.heap.size, 0, none⟩ = some (.bool false) ∧ w'.cell? ⟨w.heap.size, 1, none⟩ = some (.string s) ∧ w'.cell? ⟨w.heap.size, 2, none⟩ = some (.int .i64 e)) ∧ (w'.cell? ⟨w.heap.size + 1, 0, none⟩ = some (.bool false) ∧ w'.cell? ⟨w.heap.size + 1, 1, none⟩ = some (.string t) ∧ w'.cell? ⟨w.heap.size + 1, 2, none⟩ = some (.int .i64 f)) ∧ True) ∧ Hid (Kept3 w [(w.heap.size, .bool false, .string s, .int .i64 e), (w.heap.size + 1, .bool false, .string t, .int .i64 f)] w')) (assumption) ((go_at_call 37; refine (HL.out _).mono ?_; rintro r w1 ⟨rfl, rfl⟩))
              rename_i hHeld
              clear hHeld
              go_wp2
              go_ret
              exact ⟨ret_int (by rw [HV.out, HC.out]), HK.out.2.1.drew⟩
            · obtain rfl : m = true := hnm.symm
              have HC := Lib.hid (cmpZ_tt_gt h)
              clear h hnm
              go_wp2
              have hw2 : Sd w [(w.heap.size, .bool true, .string s, .int .i64 e), (w.heap.size + 1, .bool true, .string t, .int .i64 f)] w1.drew := .of HK.out.drew
              clear c0 c1 c2 d0 d1 d2
              go_region_held3 (fun w' => ((w'.cell? ⟨w.heap.size, 0, none⟩ = some (.bool true) ∧ w'.cell? ⟨w.heap.size, 1, none⟩ = some (.string s) ∧ w'.cell? ⟨w.heap.size, 2, none⟩ = some (.int .i64 e)) ∧ (w'.cell? ⟨w.heap.size + 1, 0, none⟩ = some (.bool true) ∧ w'.cell? ⟨w.heap.size + 1, 1, none⟩ = some (.string t) ∧ w'.cell? ⟨w.heap.size + 1, 2, none⟩ = some (.int .i64 f)) ∧ True) ∧ Hid (Kept3 w [(w.heap.size, .bool true, .string s, .int .i64 e), (w.heap.size + 1, .bool true, .string t, .int .i64 f)] w')) (assumption) ((go_at_call 37; refine (HL.out _).mono ?_; rintro r w1 ⟨rfl, rfl⟩))
              rename_i hHeld
              clear hHeld
              go_wp2
              go_ret
              exact ⟨ret_int (by rw [HV.out, HC.out]), HK.out.2.1.drew⟩
        · cases n
          · obtain rfl : m = true := by cases m <;> simp_all
            have HC := Lib.hid (cmpZ_ft hz)
            clear hz hnm
            go_wp2
            go_ret
            exact ⟨ret_int (by rw [HV.out, HC.out]), HK.out.2.1⟩
          · obtain rfl : m = false := by cases m <;> simp_all
            have HC := Lib.hid (cmpZ_tf hz)
            clear hz hnm
            go_wp2
            go_ret
            exact ⟨ret_int (by rw [HV.out, HC.out]), HK.out.2.1⟩
    · have hz : X ≠ 0 ∨ Y ≠ 0 := .inl hX
      rw [decide_eq_false hX] at hx
      clear hX hy
      by_cases hnm : n = m
      · rcases Nat.lt_trichotomy X Y with h | h | h
        · have hne := strD_ne (show X ≠ Y by omega)
          have HL := Lib.hid (less_t X Y h)
          cases n
          · obtain rfl : m = false := hnm.symm
            have HC := Lib.hid (cmpZ_ff_lt h)
            clear h hnm
            go_wp2
            have hw2 : Sd w [(w.heap.size, .bool false, .string s, .int .i64 e), (w.heap.size + 1, .bool false, .string t, .int .i64 f)] w1.drew := .of HK.out.drew
            clear c0 c1 c2 d0 d1 d2
            go_region_held3 (fun w' => ((w'.cell? ⟨w.heap.size, 0, none⟩ = some (.bool false) ∧ w'.cell? ⟨w.heap.size, 1, none⟩ = some (.string s) ∧ w'.cell? ⟨w.heap.size, 2, none⟩ = some (.int .i64 e)) ∧ (w'.cell? ⟨w.heap.size + 1, 0, none⟩ = some (.bool false) ∧ w'.cell? ⟨w.heap.size + 1, 1, none⟩ = some (.string t) ∧ w'.cell? ⟨w.heap.size + 1, 2, none⟩ = some (.int .i64 f)) ∧ True) ∧ Hid (Kept3 w [(w.heap.size, .bool false, .string s, .int .i64 e), (w.heap.size + 1, .bool false, .string t, .int .i64 f)] w')) (assumption) ((go_at_call 37; refine (HL.out _).mono ?_; rintro r w1 ⟨rfl, rfl⟩))
            rename_i hHeld
            clear hHeld
            go_wp2
            go_ret
            exact ⟨ret_int (by rw [HV.out, HC.out]), HK.out.2.1.drew⟩
          · obtain rfl : m = true := hnm.symm
            have HC := Lib.hid (cmpZ_tt_lt h)
            clear h hnm
            go_wp2
            have hw2 : Sd w [(w.heap.size, .bool true, .string s, .int .i64 e), (w.heap.size + 1, .bool true, .string t, .int .i64 f)] w1.drew := .of HK.out.drew
            clear c0 c1 c2 d0 d1 d2
            go_region_held3 (fun w' => ((w'.cell? ⟨w.heap.size, 0, none⟩ = some (.bool true) ∧ w'.cell? ⟨w.heap.size, 1, none⟩ = some (.string s) ∧ w'.cell? ⟨w.heap.size, 2, none⟩ = some (.int .i64 e)) ∧ (w'.cell? ⟨w.heap.size + 1, 0, none⟩ = some (.bool true) ∧ w'.cell? ⟨w.heap.size + 1, 1, none⟩ = some (.string t) ∧ w'.cell? ⟨w.heap.size + 1, 2, none⟩ = some (.int .i64 f)) ∧ True) ∧ Hid (Kept3 w [(w.heap.size, .bool true, .string s, .int .i64 e), (w.heap.size + 1, .bool true, .string t, .int .i64 f)] w')) (assumption) ((go_at_call 37; refine (HL.out _).mono ?_; rintro r w1 ⟨rfl, rfl⟩))
            rename_i hHeld
            clear hHeld
            go_wp2
            go_ret
            exact ⟨ret_int (by rw [HV.out, HC.out]), HK.out.2.1.drew⟩
        · subst h
          subst hnm
          have HC := Lib.hid (cmpZ_eq (rfl : sv n X = sv n X))
          go_wp2
          go_ret
          exact ⟨ret_int (by rw [HV.out, HC.out]), HK.out.2.1⟩
        · have hne := strD_ne (show X ≠ Y by omega)
          have HL := Lib.hid (less_f X Y h)
          cases n
          · obtain rfl : m = false := hnm.symm
            have HC := Lib.hid (cmpZ_ff_gt h)
            clear h hnm
            go_wp2
            have hw2 : Sd w [(w.heap.size, .bool false, .string s, .int .i64 e), (w.heap.size + 1, .bool false, .string t, .int .i64 f)] w1.drew := .of HK.out.drew
            clear c0 c1 c2 d0 d1 d2
            go_region_held3 (fun w' => ((w'.cell? ⟨w.heap.size, 0, none⟩ = some (.bool false) ∧ w'.cell? ⟨w.heap.size, 1, none⟩ = some (.string s) ∧ w'.cell? ⟨w.heap.size, 2, none⟩ = some (.int .i64 e)) ∧ (w'.cell? ⟨w.heap.size + 1, 0, none⟩ = some (.bool false) ∧ w'.cell? ⟨w.heap.size + 1, 1, none⟩ = some (.string t) ∧ w'.cell? ⟨w.heap.size + 1, 2, none⟩ = some (.int .i64 f)) ∧ True) ∧ Hid (Kept3 w [(w.heap.size, .bool false, .string s, .int .i64 e), (w.heap.size + 1, .bool false, .string t, .int .i64 f)] w')) (assumption) ((go_at_call 37; refine (HL.out _).mono ?_; rintro r w1 ⟨rfl, rfl⟩))
            rename_i hHeld
            clear hHeld
            go_wp2
            go_ret
            exact ⟨ret_int (by rw [HV.out, HC.out]), HK.out.2.1.drew⟩
          · obtain rfl : m = true := hnm.symm
            have HC := Lib.hid (cmpZ_tt_gt h)
            clear h hnm
            go_wp2
            have hw2 : Sd w [(w.heap.size, .bool true, .string s, .int .i64 e), (w.heap.size + 1, .bool true, .string t, .int .i64 f)] w1.drew := .of HK.out.drew
            clear c0 c1 c2 d0 d1 d2
            go_region_held3 (fun w' => ((w'.cell? ⟨w.heap.size, 0, none⟩ = some (.bool true) ∧ w'.cell? ⟨w.heap.size, 1, none⟩ = some (.string s) ∧ w'.cell? ⟨w.heap.size, 2, none⟩ = some (.int .i64 e)) ∧ (w'.cell? ⟨w.heap.size + 1, 0, none⟩ = some (.bool true) ∧ w'.cell? ⟨w.heap.size + 1, 1, none⟩ = some (.string t) ∧ w'.cell? ⟨w.heap.size + 1, 2, none⟩ = some (.int .i64 f)) ∧ True) ∧ Hid (Kept3 w [(w.heap.size, .bool true, .string s, .int .i64 e), (w.heap.size + 1, .bool true, .string t, .int .i64 f)] w')) (assumption) ((go_at_call 37; refine (HL.out _).mono ?_; rintro r w1 ⟨rfl, rfl⟩))
            rename_i hHeld
            clear hHeld
            go_wp2
            go_ret
            exact ⟨ret_int (by rw [HV.out, HC.out]), HK.out.2.1.drew⟩
      · cases n
        · obtain rfl : m = true := by cases m <;> simp_all
          have HC := Lib.hid (cmpZ_ft hz)
          clear hz hnm
          go_wp2
          go_ret
          exact ⟨ret_int (by rw [HV.out, HC.out]), HK.out.2.1⟩
        · obtain rfl : m = false := by cases m <;> simp_all
          have HC := Lib.hid (cmpZ_tf hz)
          clear hz hnm
          go_wp2
          go_ret
          exact ⟨ret_int (by rw [HV.out, HC.out]), HK.out.2.1⟩
  · obtain ⟨i, hi⟩ : ∃ i : Nat, e - e = (i : Int) := ⟨0, by omega⟩
    obtain ⟨j, hj⟩ : ∃ j : Nat, f - e = (j : Int) := ⟨(f - e).toNat, by omega⟩
    have HV := Lib.hid (cmpV_at n a e m b f e (by omega) (by omega))
    rw [show (e - e).toNat = i by omega, show (f - e).toNat = j by omega] at HV
    replace hi := Lib.hid hi
    replace hj := Lib.hid hj
    have hkb : -1000000 ≤ e := by omega
    go_enter Tryd.func24, Tryd.ntmps24
    go_wp2
    go_region_held3 (fun w' => ((w'.cell? ⟨w.heap.size, 0, none⟩ = some (.bool n) ∧ w'.cell? ⟨w.heap.size, 1, none⟩ = some (.string s) ∧ w'.cell? ⟨w.heap.size, 2, none⟩ = some (.int .i64 e)) ∧ (w'.cell? ⟨w.heap.size + 1, 0, none⟩ = some (.bool m) ∧ w'.cell? ⟨w.heap.size + 1, 1, none⟩ = some (.string t) ∧ w'.cell? ⟨w.heap.size + 1, 2, none⟩ = some (.int .i64 f)) ∧ True) ∧ Hid (Kept3 w [(w.heap.size, .bool n, .string s, .int .i64 e), (w.heap.size + 1, .bool m, .string t, .int .i64 f)] w')) (assumption) ((go_at_call 36; refine (ref5At_c _ _ _ _ _ _ _ _ (by first | exact HF.out | exact HF'.out) hB hkb (by first | exact hi.out | exact hj.out) (Sd.pw (w0 := w) (L := [(w.heap.size, .bool n, .string s, .int .i64 e), (w.heap.size + 1, .bool m, .string t, .int .i64 f)]) (by assumption))).mono ?_; rintro r w1 ⟨rfl, hb⟩; have hS := Sd.keep (w0 := w) (L := [(w.heap.size, .bool n, .string s, .int .i64 e), (w.heap.size + 1, .bool m, .string t, .int .i64 f)]) (by assumption) hb; clear hb))
    rename_i hHeld
    obtain ⟨⟨⟨c0, c1, c2⟩, ⟨d0, d1, d2⟩, -⟩, HK⟩ := hS
    clear hHeld
    have hx := strD_empty (a * 10 ^ i)
    have hy := strD_empty (b * 10 ^ j)
    generalize a * 10 ^ i = X at *
    generalize b * 10 ^ j = Y at *
    by_cases hX : X = 0
    · by_cases hY : Y = 0
      · subst hX hY
        have HC := Lib.hid (show cmpZ (sv n 0) (sv m 0) = 0 by rw [sv_zero, sv_zero]; rfl)
        rw [decide_eq_true rfl] at hx hy
        go_wp2
        go_ret
        exact ⟨ret_int (by rw [HV.out, HC.out]), HK.out.2.1⟩
      · have hz : X ≠ 0 ∨ Y ≠ 0 := .inr hY
        rw [decide_eq_true hX] at hx
        rw [decide_eq_false hY] at hy
        clear hX hY
        by_cases hnm : n = m
        · rcases Nat.lt_trichotomy X Y with h | h | h
          · have hne := strD_ne (show X ≠ Y by omega)
            have HL := Lib.hid (less_t X Y h)
            cases n
            · obtain rfl : m = false := hnm.symm
              have HC := Lib.hid (cmpZ_ff_lt h)
              clear h hnm
              go_wp2
              have hw2 : Sd w [(w.heap.size, .bool false, .string s, .int .i64 e), (w.heap.size + 1, .bool false, .string t, .int .i64 f)] w1.drew := .of HK.out.drew
              clear c0 c1 c2 d0 d1 d2
              go_region_held3 (fun w' => ((w'.cell? ⟨w.heap.size, 0, none⟩ = some (.bool false) ∧ w'.cell? ⟨w.heap.size, 1, none⟩ = some (.string s) ∧ w'.cell? ⟨w.heap.size, 2, none⟩ = some (.int .i64 e)) ∧ (w'.cell? ⟨w.heap.size + 1, 0, none⟩ = some (.bool false) ∧ w'.cell? ⟨w.heap.size + 1, 1, none⟩ = some (.string t) ∧ w'.cell? ⟨w.heap.size + 1, 2, none⟩ = some (.int .i64 f)) ∧ True) ∧ Hid (Kept3 w [(w.heap.size, .bool false, .string s, .int .i64 e), (w.heap.size + 1, .bool false, .string t, .int .i64 f)] w')) (assumption) ((go_at_call 37; refine (HL.out _).mono ?_; rintro r w1 ⟨rfl, rfl⟩))
              rename_i hHeld
              clear hHeld
              go_wp2
              go_ret
              exact ⟨ret_int (by rw [HV.out, HC.out]), HK.out.2.1.drew⟩
            · obtain rfl : m = true := hnm.symm
              have HC := Lib.hid (cmpZ_tt_lt h)
              clear h hnm
              go_wp2
              have hw2 : Sd w [(w.heap.size, .bool true, .string s, .int .i64 e), (w.heap.size + 1, .bool true, .string t, .int .i64 f)] w1.drew := .of HK.out.drew
              clear c0 c1 c2 d0 d1 d2
              go_region_held3 (fun w' => ((w'.cell? ⟨w.heap.size, 0, none⟩ = some (.bool true) ∧ w'.cell? ⟨w.heap.size, 1, none⟩ = some (.string s) ∧ w'.cell? ⟨w.heap.size, 2, none⟩ = some (.int .i64 e)) ∧ (w'.cell? ⟨w.heap.size + 1, 0, none⟩ = some (.bool true) ∧ w'.cell? ⟨w.heap.size + 1, 1, none⟩ = some (.string t) ∧ w'.cell? ⟨w.heap.size + 1, 2, none⟩ = some (.int .i64 f)) ∧ True) ∧ Hid (Kept3 w [(w.heap.size, .bool true, .string s, .int .i64 e), (w.heap.size + 1, .bool true, .string t, .int .i64 f)] w')) (assumption) ((go_at_call 37; refine (HL.out _).mono ?_; rintro r w1 ⟨rfl, rfl⟩))
              rename_i hHeld
              clear hHeld
              go_wp2
              go_ret
              exact ⟨ret_int (by rw [HV.out, HC.out]), HK.out.2.1.drew⟩
          · subst h
            subst hnm
            have HC := Lib.hid (cmpZ_eq (rfl : sv n X = sv n X))
            go_wp2
            go_ret
            exact ⟨ret_int (by rw [HV.out, HC.out]), HK.out.2.1⟩
          · have hne := strD_ne (show X ≠ Y by omega)
            have HL := Lib.hid (less_f X Y h)
            cases n
            · obtain rfl : m = false := hnm.symm
              have HC := Lib.hid (cmpZ_ff_gt h)
              clear h hnm
              go_wp2
              have hw2 : Sd w [(w.heap.size, .bool false, .string s, .int .i64 e), (w.heap.size + 1, .bool false, .string t, .int .i64 f)] w1.drew := .of HK.out.drew
              clear c0 c1 c2 d0 d1 d2
              go_region_held3 (fun w' => ((w'.cell? ⟨w.heap.size, 0, none⟩ = some (.bool false) ∧ w'.cell? ⟨w.heap.size, 1, none⟩ = some (.string s) ∧ w'.cell? ⟨w.heap.size, 2, none⟩ = some (.int .i64 e)) ∧ (w'.cell? ⟨w.heap.size + 1, 0, none⟩ = some (.bool false) ∧ w'.cell? ⟨w.heap.size + 1, 1, none⟩ = some (.string t) ∧ w'.cell? ⟨w.heap.size + 1, 2, none⟩ = some (.int .i64 f)) ∧ True) ∧ Hid (Kept3 w [(w.heap.size, .bool false, .string s, .int .i64 e), (w.heap.size + 1, .bool false, .string t, .int .i64 f)] w')) (assumption) ((go_at_call 37; refine (HL.out _).mono ?_; rintro r w1 ⟨rfl, rfl⟩))
              rename_i hHeld
              clear hHeld
              go_wp2
              go_ret
              exact ⟨ret_int (by rw [HV.out, HC.out]), HK.out.2.1.drew⟩
            · obtain rfl : m = true := hnm.symm
              have HC := Lib.hid (cmpZ_tt_gt h)
              clear h hnm
              go_wp2
              have hw2 : Sd w [(w.heap.size, .bool true, .string s, .int .i64 e), (w.heap.size + 1, .bool true, .string t, .int .i64 f)] w1.drew := .of HK.out.drew
              clear c0 c1 c2 d0 d1 d2
              go_region_held3 (fun w' => ((w'.cell? ⟨w.heap.size, 0, none⟩ = some (.bool true) ∧ w'.cell? ⟨w.heap.size, 1, none⟩ = some (.string s) ∧ w'.cell? ⟨w.heap.size, 2, none⟩ = some (.int .i64 e)) ∧ (w'.cell? ⟨w.heap.size + 1, 0, none⟩ = some (.bool true) ∧ w'.cell? ⟨w.heap.size + 1, 1, none⟩ = some (.string t) ∧ w'.cell? ⟨w.heap.size + 1, 2, none⟩ = some (.int .i64 f)) ∧ True) ∧ Hid (Kept3 w [(w.heap.size, .bool true, .string s, .int .i64 e), (w.heap.size + 1, .bool true, .string t, .int .i64 f)] w')) (assumption) ((go_at_call 37; refine (HL.out _).mono ?_; rintro r w1 ⟨rfl, rfl⟩))
              rename_i hHeld
              clear hHeld
              go_wp2
              go_ret
              exact ⟨ret_int (by rw [HV.out, HC.out]), HK.out.2.1.drew⟩
        · cases n
          · obtain rfl : m = true := by cases m <;> simp_all
            have HC := Lib.hid (cmpZ_ft hz)
            clear hz hnm
            go_wp2
            go_ret
            exact ⟨ret_int (by rw [HV.out, HC.out]), HK.out.2.1⟩
          · obtain rfl : m = false := by cases m <;> simp_all
            have HC := Lib.hid (cmpZ_tf hz)
            clear hz hnm
            go_wp2
            go_ret
            exact ⟨ret_int (by rw [HV.out, HC.out]), HK.out.2.1⟩
    · have hz : X ≠ 0 ∨ Y ≠ 0 := .inl hX
      rw [decide_eq_false hX] at hx
      clear hX hy
      by_cases hnm : n = m
      · rcases Nat.lt_trichotomy X Y with h | h | h
        · have hne := strD_ne (show X ≠ Y by omega)
          have HL := Lib.hid (less_t X Y h)
          cases n
          · obtain rfl : m = false := hnm.symm
            have HC := Lib.hid (cmpZ_ff_lt h)
            clear h hnm
            go_wp2
            have hw2 : Sd w [(w.heap.size, .bool false, .string s, .int .i64 e), (w.heap.size + 1, .bool false, .string t, .int .i64 f)] w1.drew := .of HK.out.drew
            clear c0 c1 c2 d0 d1 d2
            go_region_held3 (fun w' => ((w'.cell? ⟨w.heap.size, 0, none⟩ = some (.bool false) ∧ w'.cell? ⟨w.heap.size, 1, none⟩ = some (.string s) ∧ w'.cell? ⟨w.heap.size, 2, none⟩ = some (.int .i64 e)) ∧ (w'.cell? ⟨w.heap.size + 1, 0, none⟩ = some (.bool false) ∧ w'.cell? ⟨w.heap.size + 1, 1, none⟩ = some (.string t) ∧ w'.cell? ⟨w.heap.size + 1, 2, none⟩ = some (.int .i64 f)) ∧ True) ∧ Hid (Kept3 w [(w.heap.size, .bool false, .string s, .int .i64 e), (w.heap.size + 1, .bool false, .string t, .int .i64 f)] w')) (assumption) ((go_at_call 37; refine (HL.out _).mono ?_; rintro r w1 ⟨rfl, rfl⟩))
            rename_i hHeld
            clear hHeld
            go_wp2
            go_ret
            exact ⟨ret_int (by rw [HV.out, HC.out]), HK.out.2.1.drew⟩
          · obtain rfl : m = true := hnm.symm
            have HC := Lib.hid (cmpZ_tt_lt h)
            clear h hnm
            go_wp2
            have hw2 : Sd w [(w.heap.size, .bool true, .string s, .int .i64 e), (w.heap.size + 1, .bool true, .string t, .int .i64 f)] w1.drew := .of HK.out.drew
            clear c0 c1 c2 d0 d1 d2
            go_region_held3 (fun w' => ((w'.cell? ⟨w.heap.size, 0, none⟩ = some (.bool true) ∧ w'.cell? ⟨w.heap.size, 1, none⟩ = some (.string s) ∧ w'.cell? ⟨w.heap.size, 2, none⟩ = some (.int .i64 e)) ∧ (w'.cell? ⟨w.heap.size + 1, 0, none⟩ = some (.bool true) ∧ w'.cell? ⟨w.heap.size + 1, 1, none⟩ = some (.string t) ∧ w'.cell? ⟨w.heap.size + 1, 2, none⟩ = some (.int .i64 f)) ∧ True) ∧ Hid (Kept3 w [(w.heap.size, .bool true, .string s, .int .i64 e), (w.heap.size + 1, .bool true, .string t, .int .i64 f)] w')) (assumption) ((go_at_call 37; refine (HL.out _).mono ?_; rintro r w1 ⟨rfl, rfl⟩))
            rename_i hHeld
            clear hHeld
            go_wp2
            go_ret
            exact ⟨ret_int (by rw [HV.out, HC.out]), HK.out.2.1.drew⟩
        · subst h
          subst hnm
          have HC := Lib.hid (cmpZ_eq (rfl : sv n X = sv n X))
          go_wp2
          go_ret
          exact ⟨ret_int (by rw [HV.out, HC.out]), HK.out.2.1⟩
        · have hne := strD_ne (show X ≠ Y by omega)
          have HL := Lib.hid (less_f X Y h)
          cases n
          · obtain rfl : m = false := hnm.symm
            have HC := Lib.hid (cmpZ_ff_gt h)
            clear h hnm
            go_wp2
            have hw2 : Sd w [(w.heap.size, .bool false, .string s, .int .i64 e), (w.heap.size + 1, .bool false, .string t, .int .i64 f)] w1.drew := .of HK.out.drew
            clear c0 c1 c2 d0 d1 d2
            go_region_held3 (fun w' => ((w'.cell? ⟨w.heap.size, 0, none⟩ = some (.bool false) ∧ w'.cell? ⟨w.heap.size, 1, none⟩ = some (.string s) ∧ w'.cell? ⟨w.heap.size, 2, none⟩ = some (.int .i64 e)) ∧ (w'.cell? ⟨w.heap.size + 1, 0, none⟩ = some (.bool false) ∧ w'.cell? ⟨w.heap.size + 1, 1, none⟩ = some (.string t) ∧ w'.cell? ⟨w.heap.size + 1, 2, none⟩ = some (.int .i64 f)) ∧ True) ∧ Hid (Kept3 w [(w.heap.size, .bool false, .string s, .int .i64 e), (w.heap.size + 1, .bool false, .string t, .int .i64 f)] w')) (assumption) ((go_at_call 37; refine (HL.out _).mono ?_; rintro r w1 ⟨rfl, rfl⟩))
            rename_i hHeld
            clear hHeld
            go_wp2
            go_ret
            exact ⟨ret_int (by rw [HV.out, HC.out]), HK.out.2.1.drew⟩
          · obtain rfl : m = true := hnm.symm
            have HC := Lib.hid (cmpZ_tt_gt h)
            clear h hnm
            go_wp2
            have hw2 : Sd w [(w.heap.size, .bool true, .string s, .int .i64 e), (w.heap.size + 1, .bool true, .string t, .int .i64 f)] w1.drew := .of HK.out.drew
            clear c0 c1 c2 d0 d1 d2
            go_region_held3 (fun w' => ((w'.cell? ⟨w.heap.size, 0, none⟩ = some (.bool true) ∧ w'.cell? ⟨w.heap.size, 1, none⟩ = some (.string s) ∧ w'.cell? ⟨w.heap.size, 2, none⟩ = some (.int .i64 e)) ∧ (w'.cell? ⟨w.heap.size + 1, 0, none⟩ = some (.bool true) ∧ w'.cell? ⟨w.heap.size + 1, 1, none⟩ = some (.string t) ∧ w'.cell? ⟨w.heap.size + 1, 2, none⟩ = some (.int .i64 f)) ∧ True) ∧ Hid (Kept3 w [(w.heap.size, .bool true, .string s, .int .i64 e), (w.heap.size + 1, .bool true, .string t, .int .i64 f)] w')) (assumption) ((go_at_call 37; refine (HL.out _).mono ?_; rintro r w1 ⟨rfl, rfl⟩))
            rename_i hHeld
            clear hHeld
            go_wp2
            go_ret
            exact ⟨ret_int (by rw [HV.out, HC.out]), HK.out.2.1.drew⟩
      · cases n
        · obtain rfl : m = true := by cases m <;> simp_all
          have HC := Lib.hid (cmpZ_ft hz)
          clear hz hnm
          go_wp2
          go_ret
          exact ⟨ret_int (by rw [HV.out, HC.out]), HK.out.2.1⟩
        · obtain rfl : m = false := by cases m <;> simp_all
          have HC := Lib.hid (cmpZ_tf hz)
          clear hz hnm
          go_wp2
          go_ret
          exact ⟨ret_int (by rw [HV.out, HC.out]), HK.out.2.1⟩
end Go.Proofs.YtijalgngcbifgaaDoor
