/-
  Si9: layer 9: the contracts of sig, good, answers.
-/
import Derived.Test.YtkfjombeaidimaaDoorKJ
set_option maxRecDepth 100000
namespace Go.Proofs.YtkfjombeaidimaaDoor
open Go.RowKit
theorem dtop_same {N X : Nat} {e k : Int} (h1 : nstr N = nstr X) (h2 : nexp N e = nexp X k) : dtop N e = dtop X k := by
  rw [← top_all, ← top_all, h1, h2]
theorem DU.top {k : Int} {s : ByteArray} {e : Int} {X : Nat} (h : DU k s e X) : -20000 ≤ dtop X k ∧ dtop X k ≤ 30000 := by
  obtain ⟨N, hd, hX, h1, h2⟩ := h.norm
  have h3 := h.lo
  have h4 := h.len
  have h5 := h.le
  have h6 := hd.hi
  unfold dtop
  split <;> omega
theorem DU.top_ge {k : Int} {s : ByteArray} {e : Int} {X : Nat} (h : DU k s e X) (h0 : X ≠ 0) : e ≤ dtop X k := by
  obtain ⟨N, hd, hX, h1, h2⟩ := h.norm
  have hN : N ≠ 0 := by rintro rfl; exact h0 (by rw [← hX, Nat.zero_mul])
  rw [← dtop_same h1 h2, dtop, if_neg hN]
  have := decs_pos hN
  omega
theorem decTop_u {n : Bool} {s : ByteArray} {e k v : Int} {X : Nat} {w : World} (h : DU k s e X) (hv : dtop X k = v) (hP : Pw w) :
    Calls Tryd.prog 29 #[.agg #[.bool n, .string s, .int .i64 e]] w fun r w' => r = .returned (.int .i64 v) ∧ Below w.heap.size w w' := by
  obtain ⟨N, hd, -, h1, h2⟩ := h.norm
  exact decTop_v 20000 n s e N v w hd (by rw [← hv]; exact dtop_same h1 h2) (by omega) hP
theorem ref5Top_u {n : Bool} {s : ByteArray} {e k v : Int} {X : Nat} {w : World} (h : DU k s e X) (hv : dtop X k = v) (hP : Pw w) :
    Calls Tryd.prog 12 #[.agg #[.bool n, .string s, .int .i64 e]] w fun r w' => r = .returned (.int .i64 v) ∧ Below w.heap.size w w' := by
  obtain ⟨N, hd, -, h1, h2⟩ := h.norm
  exact ref5Top_v 20000 n s e N v w hd (by rw [← hv]; exact dtop_same h1 h2) (by omega) hP
theorem decNorm_u {n : Bool} {s : ByteArray} {e k : Int} {X : Nat} {S : ByteArray} {E : Int} {w : World} (h : DU k s e X) (hv : nstr X = S ∧ nexp X k = E) (hP : Pw w) :
    Calls Tryd.prog 28 #[.agg #[.bool n, .string s, .int .i64 e]] w fun r w' => r = .returned (.agg #[.bool n, .string S, .int .i64 E]) ∧ Below w.heap.size w w' := by
  obtain ⟨N, hd, -, h1, h2⟩ := h.norm
  rw [← hv.1, ← hv.2, ← h1, ← h2]
  exact decNorm_c 20000 n s e N w hd (by omega) hP

attribute [local go_sem] dec_field0 dec_field1 dec_field2 in
set_option maxHeartbeats 1600000 in
set_option maxRecDepth 100000 in
theorem sigPlace_u {n : Bool} {s : ByteArray} {e k a p j : Int} {X : Nat} {w : World} (h : DU k s e X) (hj : max a 1 = j) (hp : dtop X k - j + 1 = p) (ha1 : -9223372036854775808 ≤ a) (ha : a ≤ 1000000) (hP : Pw w) :
    Calls Tryd.prog 15 #[.agg #[.bool n, .string s, .int .i64 e], .int .i64 a] w fun r w' => r = .returned (.int .i64 p) ∧ Below w.heap.size w w' := by
  subst hp
  have HF := Lib.hid h
  have ht := h.top
  clear h
  obtain ⟨T, hT⟩ : ∃ T, dtop X k = T := ⟨_, rfl⟩
  rw [hT] at ht ⊢
  have HT := Lib.hid hT
  clear hT
  obtain ⟨ht1, ht2⟩ := ht
  have hj1 : 1 ≤ j ∧ j ≤ 1000000 := by omega
  obtain ⟨hj1, hj2⟩ := hj1
  have hw1 : IntKind.i64.wrap (T - j) = T - j := IntWalk.i64_in _ (by omega)
  have hw2 : IntKind.i64.wrap (T - j + 1) = T - j + 1 := IntWalk.i64_in _ (by omega)
  have HK := Lib.hid (kept_one w (.bool n) (.string s) (.int .i64 e) 23 hP)
  clear hP
  go_enter Tryd.func15, Tryd.ntmps15
  go_wp2_with fail
  refine (decTop_u HF.out HT.out HK.out.1).mono ?_
  rintro r w1 ⟨rfl, hb⟩
  replace HK := Lib.hid (HK.out.keep hb)
  clear hb
  go_wp2
  go_ret
  exact ⟨rfl, HK.out.2.1⟩

attribute [local go_sem] dec_field0 dec_field1 dec_field2 in
set_option maxHeartbeats 1600000 in
set_option maxRecDepth 100000 in
theorem sigCount_u {n : Bool} {s : ByteArray} {e k v : Int} {X : Nat} {w : World} (h : DU k s e X) (hv : ((nstr X).size : Int) = v) (hP : Pw w) :
    Calls Tryd.prog 13 #[.agg #[.bool n, .string s, .int .i64 e]] w fun r w' => r = .returned (.int .i64 v) ∧ Below w.heap.size w w' := by
  subst hv
  have HF := Lib.hid h
  have hsz := nstr_size X
  have hl := h.len
  clear h
  have hsz2 : (nstr X).size ≤ 5000 := by omega
  clear hsz hl
  have HK := Lib.hid (kept_one w (.bool n) (.string s) (.int .i64 e) 23 hP)
  clear hP
  go_enter Tryd.func13, Tryd.ntmps13
  go_wp2_with fail
  refine (decNorm_u HF.out ⟨rfl, rfl⟩ HK.out.1).mono ?_
  rintro r w1 ⟨rfl, hb⟩
  replace HK := Lib.hid (HK.out.keep hb)
  clear hb
  go_wp2
  go_ret
  exact ⟨rfl, HK.out.2.1⟩

attribute [local go_sem] dec_field0 dec_field1 dec_field2 in
set_option maxHeartbeats 1600000 in
set_option maxRecDepth 100000 in
theorem sigRound_low {m : Int} {n : Bool} {s : ByteArray} {e a : Int} {w : World} (ha : a < 1) :
    Calls Tryd.prog 10 #[.int .i64 m, .agg #[.bool n, .string s, .int .i64 e], .int .i64 a] w fun r w' => r = .returned (.tuple #[.agg #[.bool false, .string ⟨#[]⟩, .int .i64 0], .int .i64 1]) ∧ Below w.heap.size w w' := by
  go_enter Tryd.func10, Tryd.ntmps10
  go_wp2
  exact bodyPost_ret (v := .tuple #[.agg #[.bool false, .string ⟨#[]⟩, .int .i64 0], .int .i64 1]) (by simp [results, Tryd.results10, go_sem]) rfl ⟨rfl, ((Below.refl _ w).alloc (Nat.le_refl _) _).alloc (by simp) _⟩

attribute [local go_sem] dec_field0 dec_field1 dec_field2 in
set_option maxHeartbeats 1600000 in
set_option maxRecDepth 100000 in
theorem sigRound_no {m : Int} {n : Bool} {s : ByteArray} {e k a : Int} {X : Nat} {w : World} (hm : isWay m = false) (h : DU k s e X) (ha : 1 ≤ a) (ha2 : a ≤ 1000000) (hP : Pw w) :
    Calls Tryd.prog 10 #[.int .i64 m, .agg #[.bool n, .string s, .int .i64 e], .int .i64 a] w fun r w' => r = .returned (.tuple #[.agg #[.bool false, .string ⟨#[]⟩, .int .i64 0], .int .i64 1]) ∧ Below w.heap.size w w' := by
  have HF := Lib.hid h
  have HJ := Lib.hid (show max a 1 = a by omega)
  have HR := Lib.hid (fun p w => placeRound_no m n s e p w hm)
  clear h hm
  have HK := kept4_one w (.bool n) (.string s) (.int .i64 e) (.bool false) (.string ⟨#[]⟩) (.int .i64 0) 23 23 hP
  clear hP
  go_enter Tryd.func10, Tryd.ntmps10
  go_wp2
  have hS : Sd4 w [(w.heap.size, .bool n, .string s, .int .i64 (e))] ((w.heap.size + 1)) _ := .of (HK).drew
  go_region_held3 (fun w' => (((w'.cell? ⟨w.heap.size, 0, none⟩ = some (.bool n) ∧ w'.cell? ⟨w.heap.size, 1, none⟩ = some (.string s) ∧ w'.cell? ⟨w.heap.size, 2, none⟩ = some (.int .i64 (e))) ∧ True) ∧ (w'.cell? ⟨(w.heap.size + 1), 0, none⟩ = some (rd w' ((w.heap.size + 1)) 0) ∧ w'.cell? ⟨(w.heap.size + 1), 1, none⟩ = some (rd w' ((w.heap.size + 1)) 1) ∧ w'.cell? ⟨(w.heap.size + 1), 2, none⟩ = some (rd w' ((w.heap.size + 1)) 2) ∧ w'.frozen? ⟨(w.heap.size + 1), 0, none⟩ = false ∧ w'.frozen? ⟨(w.heap.size + 1), 1, none⟩ = false ∧ w'.frozen? ⟨(w.heap.size + 1), 2, none⟩ = false)) ∧ Hid (Kept4 w [(w.heap.size, .bool n, .string s, .int .i64 (e))] ((w.heap.size + 1)) w')) (first | exact hS | exact Sd4.store (w0 := w) (L := [(w.heap.size, .bool n, .string s, .int .i64 (e))]) (g := (w.heap.size + 1)) hS _ _ _)
    (first
      | (go_at_call 15; refine (sigPlace_u HF.out HJ.out rfl (by omega) (by omega) (Sd4.pw (w0 := w) (L := [(w.heap.size, .bool n, .string s, .int .i64 (e))]) (g := (w.heap.size + 1)) (by assumption))).mono ?_; rintro r w1 ⟨rfl, hb⟩; have hS := Sd4.keep (w0 := w) (L := [(w.heap.size, .bool n, .string s, .int .i64 (e))]) (g := (w.heap.size + 1)) (by assumption) hb; clear hb)
      | (go_at_call 18; refine (HR.out _ _).mono ?_; rintro r w1 ⟨rfl, hb⟩; have hS := Sd4.keep (w0 := w) (L := [(w.heap.size, .bool n, .string s, .int .i64 (e))]) (g := (w.heap.size + 1)) (by assumption) hb; clear hb))
  rename_i hHeld
  clear hHeld
  obtain ⟨⟨-, ⟨d0, d1, d2, f0, f1, f2⟩⟩, hk⟩ := hS
  go_wp2
  exact bodyPost_ret (by simp [results, Tryd.results10, go_sem, d0, d1, d2] <;> rfl) rfl ⟨rfl, (hk.out.store _ _ _).1.2.1⟩

attribute [local go_sem] dec_field0 dec_field1 dec_field2 in
set_option maxHeartbeats 1600000 in
set_option maxRecDepth 100000 in
theorem sigRound_u {m : Int} {n : Bool} {s : ByteArray} {e k a p : Int} {X W : Nat} {v : Value} {w : World} (hm : isWay m = true) (h : DU k s e X) (ha : 1 ≤ a) (ha2 : a ≤ 1000000) (hp : dtop X k - a + 1 = p) (hkp : k ≤ p) (hp2 : p ≤ 15000) (hW : 10 ^ (p - k).toNat = W) (hv : rndV m n X W k = v) (hP : Pw w) :
    Calls Tryd.prog 10 #[.int .i64 m, .agg #[.bool n, .string s, .int .i64 e], .int .i64 a] w fun r w' => r = .returned (v) ∧ Below w.heap.size w w' := by
  subst hp
  have HF := Lib.hid h
  have HJ := Lib.hid (show max a 1 = a by omega)
  have HR := Lib.hid (fun (w : World) (hP : Pw w) => placeRound_u (w := w) hm h hkp hp2 hW hv hP)
  obtain ⟨n', s', e', c, hv2⟩ := rndV_shape m n X W k
  rw [hv] at hv2
  subst hv2
  clear h hm hkp hp2 hW hv
  have HK := kept4_one w (.bool n) (.string s) (.int .i64 e) (.bool false) (.string ⟨#[]⟩) (.int .i64 0) 23 23 hP
  clear hP
  go_enter Tryd.func10, Tryd.ntmps10
  go_wp2
  have hS : Sd4 w [(w.heap.size, .bool n, .string s, .int .i64 (e))] ((w.heap.size + 1)) _ := .of (HK).drew
  go_region_held3 (fun w' => (((w'.cell? ⟨w.heap.size, 0, none⟩ = some (.bool n) ∧ w'.cell? ⟨w.heap.size, 1, none⟩ = some (.string s) ∧ w'.cell? ⟨w.heap.size, 2, none⟩ = some (.int .i64 (e))) ∧ True) ∧ (w'.cell? ⟨(w.heap.size + 1), 0, none⟩ = some (rd w' ((w.heap.size + 1)) 0) ∧ w'.cell? ⟨(w.heap.size + 1), 1, none⟩ = some (rd w' ((w.heap.size + 1)) 1) ∧ w'.cell? ⟨(w.heap.size + 1), 2, none⟩ = some (rd w' ((w.heap.size + 1)) 2) ∧ w'.frozen? ⟨(w.heap.size + 1), 0, none⟩ = false ∧ w'.frozen? ⟨(w.heap.size + 1), 1, none⟩ = false ∧ w'.frozen? ⟨(w.heap.size + 1), 2, none⟩ = false)) ∧ Hid (Kept4 w [(w.heap.size, .bool n, .string s, .int .i64 (e))] ((w.heap.size + 1)) w')) (first | exact hS | exact Sd4.store (w0 := w) (L := [(w.heap.size, .bool n, .string s, .int .i64 (e))]) (g := (w.heap.size + 1)) hS _ _ _)
    (first
      | (go_at_call 15; refine (sigPlace_u HF.out HJ.out rfl (by omega) (by omega) (Sd4.pw (w0 := w) (L := [(w.heap.size, .bool n, .string s, .int .i64 (e))]) (g := (w.heap.size + 1)) (by assumption))).mono ?_; rintro r w1 ⟨rfl, hb⟩; have hS := Sd4.keep (w0 := w) (L := [(w.heap.size, .bool n, .string s, .int .i64 (e))]) (g := (w.heap.size + 1)) (by assumption) hb; clear hb)
      | (go_at_call 18; refine (HR.out _ (Sd4.pw (w0 := w) (L := [(w.heap.size, .bool n, .string s, .int .i64 (e))]) (g := (w.heap.size + 1)) (by assumption))).mono ?_; rintro r w1 ⟨rfl, hb⟩; have hS := Sd4.keep (w0 := w) (L := [(w.heap.size, .bool n, .string s, .int .i64 (e))]) (g := (w.heap.size + 1)) (by assumption) hb; clear hb))
  rename_i hHeld
  clear hHeld
  obtain ⟨⟨-, ⟨d0, d1, d2, f0, f1, f2⟩⟩, hk⟩ := hS
  go_wp2
  exact bodyPost_ret (by simp [results, Tryd.results10, go_sem, d0, d1, d2] <;> rfl) rfl ⟨rfl, (hk.out.store _ _ _).1.2.1⟩
/-- May a decimal be handed in? -/
def g9 (s : ByteArray) (e : Int) : Bool := goodB s e && (decide (s.size ≤ 100) && (decide (-300 ≤ e) && decide (e ≤ 300)))
theorem g9_true {s : ByteArray} {e : Int} (h : g9 s e = true) : fineD 100 s e = true ∧ -300 ≤ e ∧ e ≤ 300 := by
  simp only [g9, Bool.and_eq_true, decide_eq_true_eq] at h
  obtain ⟨h1, h2, h5, h6⟩ := h
  exact ⟨by simp only [fineD, Bool.and_eq_true, decide_eq_true_eq]; exact ⟨h1, h2⟩, h5, h6⟩
attribute [local go_sem] dec_field0 dec_field1 dec_field2 in
set_option maxHeartbeats 4000000 in
set_option maxRecDepth 100000 in
theorem good09_c (n : Bool) (s : ByteArray) (e : Int) (w : World) (hs : s.size ≤ maxLen) (hP : Pw w) :
    Calls Tryd.prog 8 #[.agg #[.bool n, .string s, .int .i64 e]] w fun r w' => r = .returned (.bool (g9 s e)) ∧ Below w.heap.size w w' := by
  have HG := Lib.hid (fun w hP => ref5Good_c n s e w hs hP)
  have HK := Lib.hid (kept_one w (.bool n) (.string s) (.int .i64 e) 23 hP)
  clear hP
  rcases hg : goodB s e with _ | _
  · have HR := Lib.hid (show g9 s e = false by simp only [g9, hg]; rfl)
    rw [hg] at HG
    clear hg
    go_enter Tryd.func8, Tryd.ntmps8
    go_wp2_with fail
    refine (HG.out _ HK.out.1).mono ?_
    rintro r w1 ⟨rfl, hb⟩
    replace HK := Lib.hid (HK.out.keep hb)
    clear hb
    obtain ⟨c0, c1, c2, -, -, -, -⟩ := HK.out.one
    go_wp2
    go_ret
    exact ⟨ret_bool (by first | exact HR.out.symm | exact (decide_eq_false (by omega)).trans HR.out.symm | exact (decide_eq_true (by omega)).trans HR.out.symm), HK.out.2.1⟩
  · by_cases h0 : s.size ≤ 100
    · by_cases h1 : -300 ≤ e
      · by_cases h2 : e ≤ 300
        · have HR := Lib.hid (show g9 s e = true by simp only [g9, hg, decide_eq_true h0, decide_eq_true h1, decide_eq_true h2]; rfl)
          rw [hg] at HG
          clear hg
          go_enter Tryd.func8, Tryd.ntmps8
          go_wp2_with fail
          refine (HG.out _ HK.out.1).mono ?_
          rintro r w1 ⟨rfl, hb⟩
          replace HK := Lib.hid (HK.out.keep hb)
          clear hb
          obtain ⟨c0, c1, c2, -, -, -, -⟩ := HK.out.one
          go_wp2
          go_ret
          exact ⟨ret_bool (by first | exact HR.out.symm | exact (decide_eq_false (by omega)).trans HR.out.symm | exact (decide_eq_true (by omega)).trans HR.out.symm), HK.out.2.1⟩
        · have HR := Lib.hid (show g9 s e = false by simp only [g9, hg, decide_eq_true h0, decide_eq_true h1, decide_eq_false h2]; rfl)
          rw [hg] at HG
          clear hg
          go_enter Tryd.func8, Tryd.ntmps8
          go_wp2_with fail
          refine (HG.out _ HK.out.1).mono ?_
          rintro r w1 ⟨rfl, hb⟩
          replace HK := Lib.hid (HK.out.keep hb)
          clear hb
          obtain ⟨c0, c1, c2, -, -, -, -⟩ := HK.out.one
          go_wp2
          go_ret
          exact ⟨ret_bool (by first | exact HR.out.symm | exact (decide_eq_false (by omega)).trans HR.out.symm | exact (decide_eq_true (by omega)).trans HR.out.symm), HK.out.2.1⟩
      · have HR := Lib.hid (show g9 s e = false by simp only [g9, hg, decide_eq_true h0, decide_eq_false h1]; rfl)
        rw [hg] at HG
        clear hg
        go_enter Tryd.func8, Tryd.ntmps8
        go_wp2_with fail
        refine (HG.out _ HK.out.1).mono ?_
        rintro r w1 ⟨rfl, hb⟩
        replace HK := Lib.hid (HK.out.keep hb)
        clear hb
        obtain ⟨c0, c1, c2, -, -, -, -⟩ := HK.out.one
        go_wp2
        go_ret
        exact ⟨ret_bool (by first | exact HR.out.symm | exact (decide_eq_false (by omega)).trans HR.out.symm | exact (decide_eq_true (by omega)).trans HR.out.symm), HK.out.2.1⟩
    · have HR := Lib.hid (show g9 s e = false by simp only [g9, hg, decide_eq_false h0]; rfl)
      rw [hg] at HG
      clear hg
      go_enter Tryd.func8, Tryd.ntmps8
      go_wp2_with fail
      refine (HG.out _ HK.out.1).mono ?_
      rintro r w1 ⟨rfl, hb⟩
      replace HK := Lib.hid (HK.out.keep hb)
      clear hb
      obtain ⟨c0, c1, c2, -, -, -, -⟩ := HK.out.one
      go_wp2
      go_ret
      exact ⟨ret_bool (by first | exact HR.out.symm | exact (decide_eq_false (by omega)).trans HR.out.symm | exact (decide_eq_true (by omega)).trans HR.out.symm), HK.out.2.1⟩
end Go.Proofs.YtkfjombeaidimaaDoor
