/-
  InA: layer 10: the contracts of inc (odd, number, Round) and may.
-/
import Derived.Test.YtekanlcfgfllcaaDoorKI
import Derived.Test.YtekanlcfgfllcaaDoorMd7
set_option maxRecDepth 100000
namespace Go.Proofs.YtekanlcfgfllcaaDoor
open Go.RowKit
/-- Is there more than noughts among the first k bytes? -/
def anyP (s : ByteArray) (k : Nat) : Bool := decide (dval ((bdigs s).take k) ≠ 0)
theorem anyP_succ (s : ByteArray) (k : Nat) (h : k < s.size) : anyP s (k + 1) = (anyP s k || decide (48 < s[k].toNat)) := by
  have h' : k < (bdigs s).length := by rw [bdigs_length]; exact h
  have h2 : (bdigs s)[k] = s[k].toNat - 48 := by have := bdigs_get s k h; simpa [List.getD, List.getElem?_eq_getElem h'] using this
  unfold anyP
  rw [List.take_succ_eq_append_getElem h', dval_snoc, h2, Bool.eq_iff_iff]
  simp only [Bool.or_eq_true, decide_eq_true_eq]
  omega
/-- May a step be? -/
def stepB (t : ByteArray) : Bool := okD t t.size && (anyP t t.size && decide (t.size ≤ 40))
theorem anyP_full (t : ByteArray) : anyP t t.size = decide (dval (bdigs t) ≠ 0) := by
  unfold anyP; rw [List.take_of_length_le (by rw [bdigs_length]; exact Nat.le_refl _)]
theorem stepB_true {t : ByteArray} (h : stepB t = true) : t.size ≤ 40 ∧ 0 < t.size ∧ (∀ j (h : j < t.size), digB t[j] = true) ∧ dval (bdigs t) ≠ 0 := by
  simp only [stepB, Bool.and_eq_true, decide_eq_true_eq, anyP_full] at h
  obtain ⟨h1, h2, h3⟩ := h
  have h0 : 0 < t.size := by
    rcases Nat.eq_zero_or_pos t.size with h0 | h0
    · exfalso
      apply h2
      have : bdigs t = [] := List.eq_nil_of_length_eq_zero (by rw [bdigs_length]; exact h0)
      rw [this]; rfl
    · exact h0
  refine ⟨h3, h0, ?_, h2⟩
  have : allD t = true := by rw [allD, ← okD_full, h1, Bool.and_true]; exact decide_eq_true h0
  exact (allD_true this).2
theorem stepB_dval {t : ByteArray} (h : stepB t = true) : IsD t (bdigs t) ∧ 0 < dval (bdigs t) := by
  obtain ⟨-, -, h1, h2⟩ := stepB_true h
  exact ⟨isD_of_all h1, by omega⟩
theorem stepB_ne {t : ByteArray} (h1 : t.size ≤ 40) (h2 : ∀ j (h : j < t.size), digB t[j] = true) (h3 : dval (bdigs t) ≠ 0) : stepB t = true := by
  have : okD t t.size = true := by
    rw [okD_full, List.all_eq_true]
    intro x hx
    obtain ⟨j, hj, rfl⟩ := List.mem_iff_getElem.1 hx
    exact h2 j (by simpa using hj)
  simp [stepB, this, anyP_full, h1, h3]
theorem stepB_bad {t : ByteArray} (h : t.size = 0 ∨ ∃ j, ∃ h : j < t.size, digB t[j] = false) : stepB t = false := by
  rcases hb : stepB t with _ | _
  · rfl
  · obtain ⟨-, h1, h2, -⟩ := stepB_true hb
    rcases h with h | ⟨j, hj, hf⟩
    · omega
    · rw [h2 j hj] at hf; exact absurd hf (by simp)

set_option maxHeartbeats 800000 in
theorem may10_c (s : ByteArray) (w : World) (hs : s.size ≤ maxLen) :
    Calls Tryd.prog 11 #[.string s] w fun r w' => r = .returned (.bool (stepB s)) ∧ Below w.heap.size w w' := by
  unfold maxLen at hs
  go_enter Tryd.func11, Tryd.ntmps11
  go_wp2
  go_loop [4, 3] (fun i u => ∃ k : Nat, k ≤ s.size ∧ i = .int .i64 (k : Int) ∧ u = .bool (anyP s k) ∧ okD s k = true) (fun i _ => s.size - (intOf i).toNat)
  case atStart => exact ⟨0, Nat.zero_le _, rfl, by simp [anyP, dval_nil], rfl⟩
  case round =>
    obtain ⟨k, hk, rfl, rfl, hok⟩ := hrel
    have HOK := Lib.hid hok
    clear hok
    by_cases hlt : k < s.size
    · have hsucc := Lib.hid (okD_succ s k hlt)
      have hany := Lib.hid (anyP_succ s k hlt)
      rcases hdb : digB s[k] with _ | _
      · have HN := Lib.hid (show false = stepB s by rw [stepB, okD_full, okD_no hlt hdb]; rfl)
        rcases digB_false hdb with h1 | h1
        · have h2 : ((s[k].toNat : Nat) : Int) < 48 := by omega
          clear hdb
          go_wp2
          go_ret
          exact ⟨ret_bool HN.out, Below.refl _ _⟩
        · have h2 : ¬ ((s[k].toNat : Nat) : Int) < 48 := by omega
          have h3 : (57 : Int) < ((s[k].toNat : Nat) : Int) := by omega
          clear hdb
          go_wp2
          go_ret
          exact ⟨ret_bool HN.out, Below.refl _ _⟩
      · have HDB := Lib.hid hdb
        have h1 := digB_true hdb
        have h2 : ¬ ((s[k].toNat : Nat) : Int) < 48 := by omega
        have h3 : ¬ (57 : Int) < ((s[k].toNat : Nat) : Int) := by omega
        clear hdb
        obtain ⟨u, hu⟩ : ∃ u, anyP s k = u := ⟨_, rfl⟩
        rw [hu]
        have HU := Lib.hid hu
        clear hu
        cases u
        · obtain ⟨v, hv⟩ : ∃ v : Bool, decide (48 < ((s[k].toNat : Nat) : Int)) = v := ⟨_, rfl⟩
          have HV := Lib.hid (show anyP s (k + 1) = v by rw [hany.out, HU.out, ← hv, Bool.false_or, Bool.eq_iff_iff]; simp only [decide_eq_true_eq]; omega)
          go_wp2
          go_round
          case rel => exact ⟨k + 1, by omega, by go_num, by rw [HV.out], by rw [hsucc.out, HOK.out, HDB.out]; rfl⟩
          case measure => simp [intOf]; omega
        · have HV := Lib.hid (show anyP s (k + 1) = true by rw [hany.out, HU.out, Bool.true_or])
          go_wp2
          go_round
          case rel => exact ⟨k + 1, by omega, by go_num, by rw [HV.out], by rw [hsucc.out, HOK.out, HDB.out]; rfl⟩
          case measure => simp [intOf]; omega
    · obtain rfl : k = s.size := by omega
      obtain ⟨u, hu⟩ : ∃ u, anyP s s.size = u := ⟨_, rfl⟩
      rw [hu]
      cases u
      · have HR := Lib.hid (show false = stepB s by rw [stepB, HOK.out, hu]; rfl)
        clear hu
        go_wp2
        go_ret
        exact ⟨ret_bool HR.out, Below.refl _ _⟩
      · by_cases h40 : s.size ≤ 40
        · have HR := Lib.hid (show true = stepB s by rw [stepB, HOK.out, hu, decide_eq_true h40]; rfl)
          clear hu
          go_wp2
          go_ret
          exact ⟨ret_bool (by first | exact HR.out | exact (decide_eq_true (by omega)).trans HR.out), Below.refl _ _⟩
        · have HR := Lib.hid (show false = stepB s by rw [stepB, HOK.out, hu, decide_eq_false h40]; rfl)
          clear hu
          go_wp2
          go_ret
          exact ⟨ret_bool (by first | exact HR.out | exact (decide_eq_false (by omega)).trans HR.out), Below.refl _ _⟩

set_option maxHeartbeats 800000 in
theorem incOdd_c (A : Option Addr) (m c Q : Nat) (w : World) (h : Limbs w A m (digs 1000000000 Q)) :
    Calls Tryd.prog 27 #[.slice A m c] w fun r w' => r = .returned (.bool (decide (Q % 2 = 1))) ∧ Below w.heap.size w w' := by
  have hl := h.len
  by_cases h0 : Q = 0
  · subst h0
    rw [digs_zero] at hl
    obtain rfl : m = 0 := hl.symm
    clear h
    go_enter Tryd.func27, Tryd.ntmps27
    go_wp2
    go_ret
    exact ⟨rfl, Below.refl _ _⟩
  · have hd := digs_pos (b := 1000000000) (by omega) h0
    rw [hd] at h hl
    have hm0 : 0 < m := by rw [List.length_cons] at hl; omega
    have hm1 := h.2.1
    obtain ⟨ad, rfl, hb, hc⟩ := h.1.2 hm0
    have c0 := hc 0 (.int .u32 ((Q % 1000000000 : Nat) : Int)) rfl
    obtain ⟨x, hx⟩ : ∃ x : Int, ((Q % 1000000000 : Nat) : Int) = x := ⟨_, rfl⟩
    obtain ⟨r, hr⟩ : ∃ r : Int, x.tmod 2 = r := ⟨_, rfl⟩
    have hr2 : r = ((Q % 2 : Nat) : Int) := by rw [← hr, ← hx, Int.tmod_eq_emod_of_nonneg (by omega)]; omega
    have HR := Lib.hid (show (r == 1) = decide (Q % 2 = 1) by rw [hr2, Bool.eq_iff_iff]; simp; omega)
    rw [hx] at c0
    rw [show ad.add 0 = ad by simp [Addr.add]] at c0
    clear hc h hd hl hr2 hx h0
    go_enter Tryd.func27, Tryd.ntmps27
    go_wp2
    go_ret
    exact ⟨ret_bool HR.out, Below.refl _ _⟩

set_option maxHeartbeats 800000 in
theorem incNumber_c (t : ByteArray) (w : World) (hs : t.size ≤ maxLen) (hP : Pw w) :
    Calls Tryd.prog 18 #[.string t] w fun r w' => ∃ A m c, r = .returned (.tuple #[.slice A m c, .bool (stepB t)]) ∧
      (stepB t = true → OwnS w' w.heap.size A m c (digs 1000000000 (dval (bdigs t)))) ∧ Below w.heap.size w w' := by
  unfold maxLen at hs
  by_cases h40 : t.size ≤ 40
  · have HN := Lib.hid (tenNumber_c t w (by omega) hP)
    have H40 := Lib.hid h40
    clear hP
    go_enter Tryd.func18, Tryd.ntmps18
    go_wp2_with fail
    refine HN.out.mono ?_
    rintro r w1 ⟨hb, ⟨h0, hdig, A, m, c, rfl, ho⟩ | ⟨hbad, rfl⟩⟩
    · have HB := Lib.hid hb
      have HO := Lib.hid ho
      have hl := ho.limbs.len
      by_cases hz : dval (bdigs t) = 0
      · have HF := Lib.hid (show stepB t = false by simp [stepB, anyP_full, hz])
        rw [hz, digs_zero] at hl
        obtain rfl : m = 0 := hl.symm
        clear hb ho hz hdig HO
        go_wp2
        go_ret2
        exact ⟨_, _, _, (by rw [HF.out]; rfl), fun h => absurd (HF.out.symm.trans h) (by simp), HB.out⟩
      · have HF := Lib.hid (stepB_ne H40.out hdig hz)
        have hm0 : 0 < m := by rw [digs_pos (by omega) hz, List.length_cons] at hl; omega
        have hm1 := ho.limbs.2.1
        clear hb ho hz hdig hl
        go_wp2
        go_ret2
        exact ⟨_, _, _, (by rw [HF.out]; rfl), fun _ => HO.out, HB.out⟩
    · have HB := Lib.hid hb
      have HF := Lib.hid (stepB_bad hbad)
      clear hb hbad
      go_wp2
      go_ret2
      exact ⟨_, _, _, (by rw [HF.out]; rfl), fun h => absurd (HF.out.symm.trans h) (by simp), HB.out⟩
  · have HF := Lib.hid (show stepB t = false by simp [stepB, h40])
    clear hP
    go_enter Tryd.func18, Tryd.ntmps18
    go_wp2
    go_ret2
    exact ⟨_, _, _, (by rw [HF.out]; rfl), fun h => absurd (HF.out.symm.trans h) (by simp), Below.refl _ _⟩

theorem digs_one' : digs 1000000000 1 = [1] := by rw [digs_pos (by omega) (by omega), show 1 / 1000000000 = 0 by omega, digs_zero]
theorem divMod_n (A A' : Option Addr) (n c n' c' X Y Q R : Nat) (w : World) (h : Limbs w A n (digs 1000000000 X)) (h' : Limbs w A' n' (digs 1000000000 Y)) (hn : n ≤ 100000000) (hn' : n' ≤ 100000000) (hy : 0 < Y) (hq : X / Y = Q) (hr : X % Y = R) :
    Calls Tryd.prog 21 #[.slice A n c, .slice A' n' c'] w fun e w' => ∃ A1 m1 c1 A2 m2 c2, e = .returned (.tuple #[.slice A1 m1 c1, .slice A2 m2 c2, .bool true]) ∧
      OwnS w' w.heap.size A1 m1 c1 (digs 1000000000 Q) ∧ OwnS w' w.heap.size A2 m2 c2 (digs 1000000000 R) ∧ Below w.heap.size w w' := by
  have := divMod_c A A' n c n' c' _ _ w h h' (digs_lt _ (by omega) X) (digs_lt _ (by omega) Y) hn hn' (by rw [val_digs 1000000000 (by omega)]; exact hy)
  rwa [val_digs 1000000000 (by omega), val_digs 1000000000 (by omega), hq, hr] at this
theorem twice_n (A : Option Addr) (n c X : Nat) (w : World) (h : Limbs w A n (digs 1000000000 X)) (hn : n ≤ 100000000) :
    Calls Tryd.prog 25 #[.slice A n c, .int .u32 2, .int .u32 0] w fun e w' => ∃ A' m c', e = .returned (.slice A' m c') ∧ OwnS w' w.heap.size A' m c' (digs 1000000000 (2 * X)) ∧ Below w.heap.size w w' := by
  have := small_c A n c _ 2 0 w h (digs_lt _ (by omega) X) (by omega) (by omega) (by omega)
  rwa [val_digs 1000000000 (by omega), Nat.add_zero, Nat.mul_comm] at this
theorem cmp_n (A A' : Option Addr) (n c n' c' X Y : Nat) (w : World) (h : Limbs w A n (digs 1000000000 X)) (h' : Limbs w A' n' (digs 1000000000 Y)) :
    Calls Tryd.prog 24 #[.slice A n c, .slice A' n' c'] w fun e w' => e = .returned (.int .i64 (cmpZ (X : Int) (Y : Int))) ∧ Below w.heap.size w w' := by
  have := cmp_c A A' n c n' c' _ _ w h h' (digs_lt _ (by omega) X) (digs_lt _ (by omega) Y)
  rw [val_digs 1000000000 (by omega), val_digs 1000000000 (by omega)] at this
  rwa [show cmpI X Y = cmpZ (X : Int) (Y : Int) by unfold cmpI cmpZ; simp only [Int.ofNat_lt]] at this

attribute [local go_sem] dec_field0 dec_field1 dec_field2 in
set_option maxHeartbeats 1600000 in
set_option maxRecDepth 100000 in
theorem incRound_no (m : Int) (n : Bool) (s : ByteArray) (e : Int) (t : ByteArray) (p : Int) (w : World) (hbad : stepB t = false ∨ isWay m = false) (hts : t.size ≤ maxLen) (hP : Pw w) :
    Calls Tryd.prog 10 #[.int .i64 m, .agg #[.bool n, .string s, .int .i64 e], .string t, .int .i64 p] w fun r w' => r = .returned (.tuple #[.agg #[.bool false, .string ⟨#[]⟩, .int .i64 0], .int .i64 1]) ∧ Below w.heap.size w w' := by
  have HNU := Lib.hid (fun w hP => incNumber_c t w hts hP)
  have CG := Lib.hid (fun w => modeGood_c m w)
  rcases hst : stepB t with _ | _
  · rw [hst] at HNU
    clear hst hbad hts CG
    have HK := Lib.hid (kept4_one w (.bool n) (.string s) (.int .i64 e) (.bool false) (.string ⟨#[]⟩) (.int .i64 0) 23 23 hP)
    clear hP
    go_enter Tryd.func10, Tryd.ntmps10
    go_wp2_with fail
    refine (HNU.out _ HK.out.1.1).mono ?_
    rintro r w1 ⟨A0, m0, q0, rfl, -, hb⟩
    replace HK := Lib.hid (HK.out.keep hb)
    clear hb
    obtain ⟨c0, c1, c2, -, -, -, -⟩ := HK.out.1.one
    obtain ⟨d0, d1, d2, f0, f1, f2⟩ := HK.out.res
    go_wp2
    exact bodyPost_ret (v := .tuple #[.agg #[.bool false, .string ⟨#[]⟩, .int .i64 0], .int .i64 1]) (by simp [results, Tryd.results10, go_sem, d0, d1, d2]) rfl ⟨rfl, (HK.out.store _ _ _).1.2.1⟩
  · have hm : isWay m = false := hbad.resolve_left (by rw [hst]; simp)
    rw [hst] at HNU
    rw [hm] at CG
    clear hst hbad hts hm
    have HK := Lib.hid (kept4_one w (.bool n) (.string s) (.int .i64 e) (.bool false) (.string ⟨#[]⟩) (.int .i64 0) 23 23 hP)
    clear hP
    go_enter Tryd.func10, Tryd.ntmps10
    go_wp2_with fail
    refine (HNU.out _ HK.out.1.1).mono ?_
    rintro r w1 ⟨A0, m0, q0, rfl, -, hb⟩
    replace HK := Lib.hid (HK.out.keep hb)
    clear hb
    obtain ⟨c0, c1, c2, -, -, -, -⟩ := HK.out.1.one
    obtain ⟨d0, d1, d2, f0, f1, f2⟩ := HK.out.res
    go_wp2_with fail
    refine (CG.out _).mono ?_
    rintro r w1 ⟨rfl, rfl⟩
    go_wp2
    exact bodyPost_ret (v := .tuple #[.agg #[.bool false, .string ⟨#[]⟩, .int .i64 0], .int .i64 1]) (by simp [results, Tryd.results10, go_sem, d0, d1, d2]) rfl ⟨rfl, (HK.out.store _ _ _).1.2.1⟩

attribute [local go_sem] dec_field0 dec_field1 dec_field2 in
set_option maxHeartbeats 8000000 in
set_option maxRecDepth 100000 in
theorem incRound_c (B : Nat) (m : Int) (n : Bool) (s : ByteArray) (e : Int) (t : ByteArray) (p : Int) (N S X W : Nat) (l : Int) (w : World) (hm : isWay m = true) (h : DA B s e N) (ht : stepB t = true) (hS : dval (bdigs t) = S) (hts : t.size ≤ maxLen)
    (hl : min e p = l) (hX : N * 10 ^ (e - l).toNat = X) (hW : S * 10 ^ (p - l).toNat = W) (hXl : (decs X).length ≤ 4900) (hWl : (decs W).length ≤ 4900) (hB : B ≤ 30000) (hp1 : -30000 ≤ p) (hp2 : p ≤ 30000) (hP : Pw w) :
    Calls Tryd.prog 10 #[.int .i64 m, .agg #[.bool n, .string s, .int .i64 e], .string t, .int .i64 p] w fun r w' => r = .returned (rndV m n X W l) ∧ Below w.heap.size w w' := by
  have HNU := Lib.hid (fun w hP => incNumber_c t w hts hP)
  rw [ht, hS] at HNU
  have CG := Lib.hid (fun w => modeGood_c m w)
  rw [hm] at CG
  have HF := Lib.hid h
  have hlo := h.lo
  have hhi := h.hi
  have hB5 : B ≤ 1000000 := by omega
  have hB6 : 30000 ≤ 1000000 := by omega
  have hS0 : 0 < S := by rw [← hS]; exact (stepB_dval ht).2
  obtain ⟨J, hJ⟩ : ∃ J : Nat, (p - l).toNat = J := ⟨_, rfl⟩
  obtain ⟨I, hI⟩ : ∃ I : Nat, (e - l).toNat = I := ⟨_, rfl⟩
  rw [hJ] at hW
  rw [hI] at hX
  have HJ := Lib.hid (show max (p - l) 0 = (J : Int) by omega)
  have HI := Lib.hid (show max (e - l) 0 = (I : Int) by omega)
  have hJ1 : J ≤ 65536 := by omega
  have hI1 : I ≤ 65536 := by omega
  have hw1 : IntKind.i64.wrap (p - l) = p - l := IntWalk.i64_in _ (by omega)
  have hw2 : IntKind.i64.wrap (e - l) = e - l := IntWalk.i64_in _ (by omega)
  have hpj := pow_pos10 J
  have hpi := pow_pos10 I
  have hSW : S ≤ W := by rw [← hW]; exact Nat.le_mul_of_pos_right _ hpj
  have hNX : N ≤ X := by rw [← hX]; exact Nat.le_mul_of_pos_right _ hpi
  obtain ⟨Q, hQ⟩ : ∃ Q, X / W = Q := ⟨_, rfl⟩
  obtain ⟨R, hR⟩ : ∃ R, X % W = R := ⟨_, rfl⟩
  have hW0 : 0 < W := by omega
  obtain ⟨u, hu⟩ : ∃ u, upN m n X W = u := ⟨_, rfl⟩
  obtain ⟨T, hT⟩ : ∃ T, Q + (if u then 1 else 0) = T := ⟨_, rfl⟩
  obtain ⟨hv, hhv⟩ : ∃ hv : Int, cmpZ ((2 * R : Nat) : Int) (W : Int) = hv := ⟨_, rfl⟩
  have HH := Lib.hid hhv
  have HAW := Lib.hid (fun w => modeAway_c m n (decide (Q % 2 = 1)) hv w)
  rw [awayB_eq, show upB m n (decide (Q % 2 = 1)) hv = u by rw [← hu, upN, hQ, hR, hhv]] at HAW
  have HR0 := Lib.hid (show R = 0 → .returned (.tuple #[.agg #[.bool n, .string (nstr N), .int .i64 (nexp N e)], .int .i64 0]) = Ending.returned (rndV m n X W l) from fun hh => by
    have h1 := n_finer (k := e) (k' := l) hX.symm (by omega)
    rw [rndV_mult (by omega), h1.1, h1.2])
  have HR7 := Lib.hid (show m = 7 → R ≠ 0 → .returned (.tuple #[.agg #[.bool false, .string ⟨#[]⟩, .int .i64 0], .int .i64 11]) = Ending.returned (rndV m n X W l) from fun h1 h2 => by rw [h1, rndV_no (by omega)])
  have hTW : T * W = T * S * 10 ^ J := by rw [← hW, Nat.mul_assoc]
  have HRN := Lib.hid (show m ≠ 7 → R ≠ 0 → .returned (.tuple #[.agg #[.bool n, .string (nstr (T * S)), .int .i64 (nexp (T * S) p)], .int .i64 0]) = Ending.returned (rndV m n X W l) from fun h1 h2 => by
    rw [rndV_up h1 (by omega) T (by rw [hu, hQ]; exact hT), hTW, nstr_mul, nexp_mul, show l + (J : Int) = p by omega])
  have HM := Lib.hid (fun (Z : Nat) (hz : (decs Z).length ≤ 4910) m (hm : (digs 1000000000 Z).length = m) => (show m ≤ 100000000 by have := digs_len_decs hz; omega))
  have hTX : T * W ≤ X + W := by
    have h1 := Nat.div_add_mod X W
    have h2 : T * W ≤ (Q + 1) * W := Nat.mul_le_mul_right _ (by rw [← hT]; split <;> omega)
    rw [Nat.add_mul, Nat.one_mul, ← hQ, Nat.mul_comm (X / W)] at h2
    omega
  have hTWl : (decs (T * W)).length ≤ 4901 := Nat.le_trans (decs_length_le hTX) (decs_add hXl hWl)
  have hTS : T * S ≤ T * W := by rw [hTW]; exact Nat.le_mul_of_pos_right _ hpj
  have HTSl := Lib.hid (show (decs (T * S)).length ≤ 4910 from Nat.le_trans (decs_length_le hTS) (by omega))
  have HTl := Lib.hid (show (decs T).length ≤ 4910 from Nat.le_trans (decs_length_le (Nat.le_mul_of_pos_right T hS0)) HTSl.out)
  have HSl := Lib.hid (show (decs S).length ≤ 4910 from Nat.le_trans (decs_length_le hSW) (by omega))
  have HNl := Lib.hid (show (decs N).length ≤ 4910 from Nat.le_trans (decs_length_le hNX) (by omega))
  have HWl := Lib.hid (show (decs (S * 10 ^ J)).length ≤ 4910 by rw [hW]; omega)
  have HXl := Lib.hid (show (decs (N * 10 ^ I)).length ≤ 4910 by rw [hX]; omega)
  have HQl := Lib.hid (show (decs Q).length ≤ 4910 from Nat.le_trans (decs_length_le (by rw [← hQ]; exact Nat.div_le_self _ _)) (show (decs X).length ≤ 4910 by omega))
  have HRl := Lib.hid (show (decs R).length ≤ 4910 from Nat.le_trans (decs_length_le (by rw [← hR]; exact Nat.mod_le _ _)) (show (decs X).length ≤ 4910 by omega))
  have HA := Lib.hid (show DA 30000 (strD (orZero (decs (T * S)))) p (T * S) from da_orz (by have := Nat.le_trans (decs_length_le hTS) hTWl; omega) (by omega) (by omega))
  have HQ := Lib.hid (show N * 10 ^ I / (S * 10 ^ J) = Q by rw [hX, hW]; exact hQ)
  have HRM := Lib.hid (show N * 10 ^ I % (S * 10 ^ J) = R by rw [hX, hW]; exact hR)
  have HW0 := Lib.hid (show 0 < S * 10 ^ J by rw [hW]; exact hW0)
  rw [← hW] at HH
  clear hm h ht hS hts hX hW hXl hWl hB hp1 hp2 hlo hhi hS0 hJ hI hpj hpi hSW hNX hQ hR hW0 hu hhv hTX hTWl hTS hTW
  have HK := Lib.hid (kept4_one w (.bool n) (.string s) (.int .i64 e) (.bool false) (.string ⟨#[]⟩) (.int .i64 0) 23 23 hP)
  clear hP
  go_enter Tryd.func10, Tryd.ntmps10
  go_wp2_with fail
  refine (HNU.out _ HK.out.1.1).mono ?_
  rintro r w1 ⟨A0, m0, q0, rfl, ho, hb⟩
  replace HK := Lib.hid (HK.out.keep hb)
  have HU := Lib.hid (ho trivial).limbs
  have HUL := Lib.hid (HM.out _ HSl.out _ (ho trivial).len)
  clear ho
  clear hb
  obtain ⟨c0, c1, c2, -, -, -, -⟩ := HK.out.1.one
  obtain ⟨d0, d1, d2, f0, f1, f2⟩ := HK.out.res
  go_wp2_with fail
  refine (CG.out _).mono ?_
  rintro r w1 ⟨rfl, rfl⟩
  go_wp2_with fail
  refine (shift_n A0 m0 q0 S _ J _ HU.out HUL.out HJ.out hJ1 HK.out.1.1).mono ?_
  rintro r w1 ⟨A1, m1, q1, rfl, ho, hb⟩
  replace HK := Lib.hid (HK.out.keep hb)
  replace HU := Lib.hid (HU.out.below hb)
  have HW := Lib.hid ho.limbs
  have HWL := Lib.hid (HM.out _ HWl.out _ ho.len)
  clear ho
  clear hb
  clear c0 c1 c2 d0 d1 d2 f0 f1 f2
  obtain ⟨c0, c1, c2, -, -, -, -⟩ := HK.out.1.one
  obtain ⟨d0, d1, d2, f0, f1, f2⟩ := HK.out.res
  go_wp2
  clear c0 c1 c2 d0 d1 d2 f0 f1 f2
  replace HU := Lib.hid (HU.out.below ((Below.refl _ _).drew))
  replace HW := Lib.hid (HW.out.below ((Below.refl _ _).drew))
  have hS : Sd4 w [(w.heap.size, .bool n, .string s, .int .i64 (e))] ((w.heap.size + 1)) _ := .of (HK.out).drew
  go_region_held3 (fun w' => (((w'.cell? ⟨w.heap.size, 0, none⟩ = some (.bool n) ∧ w'.cell? ⟨w.heap.size, 1, none⟩ = some (.string s) ∧ w'.cell? ⟨w.heap.size, 2, none⟩ = some (.int .i64 (e))) ∧ True) ∧ (w'.cell? ⟨(w.heap.size + 1), 0, none⟩ = some (rd w' ((w.heap.size + 1)) 0) ∧ w'.cell? ⟨(w.heap.size + 1), 1, none⟩ = some (rd w' ((w.heap.size + 1)) 1) ∧ w'.cell? ⟨(w.heap.size + 1), 2, none⟩ = some (rd w' ((w.heap.size + 1)) 2) ∧ w'.frozen? ⟨(w.heap.size + 1), 0, none⟩ = false ∧ w'.frozen? ⟨(w.heap.size + 1), 1, none⟩ = false ∧ w'.frozen? ⟨(w.heap.size + 1), 2, none⟩ = false)) ∧ Hid (Kept4 w [(w.heap.size, .bool n, .string s, .int .i64 (e))] ((w.heap.size + 1)) w')) (first | exact hS | exact Sd4.store (w0 := w) (L := [(w.heap.size, .bool n, .string s, .int .i64 (e))]) (g := (w.heap.size + 1)) hS _ _ _)
    (first
      | (go_at_call 22; refine (decCoef_c _ _ _ _ _ _ HF.out (Sd4.pw (w0 := w) (L := [(w.heap.size, .bool n, .string s, .int .i64 (e))]) (g := (w.heap.size + 1)) (by assumption))).mono ?_; rintro r w1 ⟨A2, m2, q2, rfl, ho, hb⟩; replace hS := Sd4.keep (w0 := w) (L := [(w.heap.size, .bool n, .string s, .int .i64 (e))]) (g := (w.heap.size + 1)) (by assumption) hb; have HO := Lib.hid ho.limbs; have HOL := Lib.hid (HM.out _ HNl.out _ ho.len); clear ho; replace HU := Lib.hid (HU.out.below hb); replace HW := Lib.hid (HW.out.below hb); clear hb)
      | (go_at_call 20; refine (shift_n A2 m2 q2 N _ I _ HO.out HOL.out HI.out hI1 (Sd4.pw (w0 := w) (L := [(w.heap.size, .bool n, .string s, .int .i64 (e))]) (g := (w.heap.size + 1)) (by assumption))).mono ?_; rintro r w1 ⟨A3, m3, q3, rfl, ho, hb⟩; replace hS := Sd4.keep (w0 := w) (L := [(w.heap.size, .bool n, .string s, .int .i64 (e))]) (g := (w.heap.size + 1)) (by assumption) hb; have HX := Lib.hid ho.limbs; have HXL := Lib.hid (HM.out _ HXl.out _ ho.len); clear ho HO HOL; replace HU := Lib.hid (HU.out.below hb); replace HW := Lib.hid (HW.out.below hb); clear hb)
      | (go_at_call 21; refine (divMod_n A3 _ m3 q3 _ _ _ _ Q R _ HX.out HW.out HXL.out HWL.out HW0.out HQ.out HRM.out).mono ?_; rintro r w1 ⟨A4, m4, q4, A5, m5, q5, rfl, ho1, ho2, hb⟩; replace hS := Sd4.keep (w0 := w) (L := [(w.heap.size, .bool n, .string s, .int .i64 (e))]) (g := (w.heap.size + 1)) (by assumption) hb; have HT := Lib.hid ho1.limbs; have HTL := Lib.hid (HM.out _ HQl.out _ ho1.len); have HE := Lib.hid ho2.limbs; have HEL := Lib.hid (HM.out _ HRl.out _ ho2.len); have HEN := Lib.hid ho2.len; clear ho1 ho2 HX HXL; replace HU := Lib.hid (HU.out.below hb); replace HW := Lib.hid (HW.out.below hb); clear hb))
  rename_i hHeld
  clear hHeld
  obtain ⟨⟨⟨⟨c0, c1, c2⟩, -⟩, ⟨d0, d1, d2, f0, f1, f2⟩⟩, hk⟩ := hS
  have HK2 := hk
  clear HK hk
  have HK := HK2
  clear HK2
  clear hw2
  by_cases hr0 : R = 0
  · have HR := Lib.hid (HR0.out hr0)
    have hm5 : m5 = 0 := by have := HEN.out; rw [hr0, digs_zero] at this; exact this.symm
    subst hm5
    clear hr0
    go_wp2_with fail
    refine (decNorm_c _ _ _ _ _ _ HF.out hB5 HK.out.1.1).mono ?_
    rintro r w1 ⟨rfl, hb⟩
    replace HK := Lib.hid (HK.out.keep hb)
    clear hb
    clear c0 c1 c2 d0 d1 d2 f0 f1 f2
    obtain ⟨c0, c1, c2, -, -, -, -⟩ := HK.out.1.one
    obtain ⟨d0, d1, d2, f0, f1, f2⟩ := HK.out.res
    go_wp2
    exact bodyPost_ret (v := .tuple #[.agg #[.bool n, .string (nstr N), .int .i64 (nexp N e)], .int .i64 0]) (by simp [results, Tryd.results10, go_sem, d0, d1, d2]) rfl ⟨HR.out, (HK.out.store _ _ _).1.2.1⟩
  · have hm5 : 0 < m5 := by have := HEN.out; rw [digs_pos (by omega) hr0, List.length_cons] at this; omega
    have hm5b := HEL.out
    by_cases h7 : m = 7
    · have HR := Lib.hid (HR7.out h7 hr0)
      have h7b : (m == 7) = true := by simpa using h7
      clear hr0 h7
      go_wp2
      exact bodyPost_ret (v := .tuple #[.agg #[.bool false, .string ⟨#[]⟩, .int .i64 0], .int .i64 11]) (by simp [results, Tryd.results10, go_sem, d0, d1, d2]) rfl ⟨HR.out, (HK.out.store _ _ _).1.2.1⟩
    · have HR := Lib.hid (HRN.out h7 hr0)
      have h7b : (m == 7) = false := by simpa using h7
      clear hr0 h7
      go_wp2_with fail
      refine (twice_n A5 m5 q5 R _ HE.out HEL.out).mono ?_
      rintro r w1 ⟨A6, m6, q6, rfl, ho, hb⟩
      replace HK := Lib.hid (HK.out.keep hb)
      replace HU := Lib.hid (HU.out.below hb)
      replace HW := Lib.hid (HW.out.below hb)
      replace HT := Lib.hid (HT.out.below hb)
      replace HE := Lib.hid (HE.out.below hb)
      have HE2 := Lib.hid ho.limbs
      clear ho
      clear hb
      clear c0 c1 c2 d0 d1 d2 f0 f1 f2
      obtain ⟨c0, c1, c2, -, -, -, -⟩ := HK.out.1.one
      obtain ⟨d0, d1, d2, f0, f1, f2⟩ := HK.out.res
      go_wp2_with fail
      refine (cmp_n A6 _ m6 q6 _ _ _ _ _ HE2.out HW.out).mono ?_
      rintro r w1 ⟨rfl, hb⟩
      replace HK := Lib.hid (HK.out.keep hb)
      replace HU := Lib.hid (HU.out.below hb)
      replace HW := Lib.hid (HW.out.below hb)
      replace HT := Lib.hid (HT.out.below hb)
      replace HE2 := Lib.hid (HE2.out.below hb)
      clear hb
      rw [HH.out]
      clear HE2 HE HW hm5 hm5b HEN HEL HWL
      clear c0 c1 c2 d0 d1 d2 f0 f1 f2
      obtain ⟨c0, c1, c2, -, -, -, -⟩ := HK.out.1.one
      obtain ⟨d0, d1, d2, f0, f1, f2⟩ := HK.out.res
      go_wp2
      clear c0 c1 c2 d0 d1 d2 f0 f1 f2
      replace HU := Lib.hid (HU.out.below ((Below.refl _ _).drew))
      replace HT := Lib.hid (HT.out.below ((Below.refl _ _).drew))
      have hS : Sd4 w [(w.heap.size, .bool n, .string s, .int .i64 (e))] ((w.heap.size + 1)) _ := .of (HK.out).drew
      go_region_held3 (fun w' => (((w'.cell? ⟨w.heap.size, 0, none⟩ = some (.bool n) ∧ w'.cell? ⟨w.heap.size, 1, none⟩ = some (.string s) ∧ w'.cell? ⟨w.heap.size, 2, none⟩ = some (.int .i64 (e))) ∧ True) ∧ (w'.cell? ⟨(w.heap.size + 1), 0, none⟩ = some (rd w' ((w.heap.size + 1)) 0) ∧ w'.cell? ⟨(w.heap.size + 1), 1, none⟩ = some (rd w' ((w.heap.size + 1)) 1) ∧ w'.cell? ⟨(w.heap.size + 1), 2, none⟩ = some (rd w' ((w.heap.size + 1)) 2) ∧ w'.frozen? ⟨(w.heap.size + 1), 0, none⟩ = false ∧ w'.frozen? ⟨(w.heap.size + 1), 1, none⟩ = false ∧ w'.frozen? ⟨(w.heap.size + 1), 2, none⟩ = false)) ∧ Hid (Kept4 w [(w.heap.size, .bool n, .string s, .int .i64 (e))] ((w.heap.size + 1)) w')) (first | exact hS | exact Sd4.store (w0 := w) (L := [(w.heap.size, .bool n, .string s, .int .i64 (e))]) (g := (w.heap.size + 1)) hS _ _ _)
        (first
          | (go_at_call 27; refine (incOdd_c _ _ _ Q _ HT.out).mono ?_; rintro r w1 ⟨rfl, hb⟩; replace hS := Sd4.keep (w0 := w) (L := [(w.heap.size, .bool n, .string s, .int .i64 (e))]) (g := (w.heap.size + 1)) (by assumption) hb; replace HU := Lib.hid (HU.out.below hb); replace HT := Lib.hid (HT.out.below hb); clear hb)
          | (go_at_call 26; refine (HAW.out _).mono ?_; rintro r w1 ⟨rfl, hb⟩; replace hS := Sd4.keep (w0 := w) (L := [(w.heap.size, .bool n, .string s, .int .i64 (e))]) (g := (w.heap.size + 1)) (by assumption) hb; replace HU := Lib.hid (HU.out.below hb); replace HT := Lib.hid (HT.out.below hb); clear hb))
      rename_i hHeld
      clear hHeld
      obtain ⟨⟨⟨⟨c0, c1, c2⟩, -⟩, ⟨d0, d1, d2, f0, f1, f2⟩⟩, hk⟩ := hS
      have HK2 := hk
      clear HK hk
      have HK := HK2
      clear HK2
      cases u
      · simp only [Bool.false_eq_true, if_false, Nat.add_zero] at hT
        subst hT
        go_wp2
        clear c0 c1 c2 d0 d1 d2 f0 f1 f2
        replace HU := Lib.hid (HU.out.below ((Below.refl _ _).drew))
        replace HT := Lib.hid (HT.out.below ((Below.refl _ _).drew))
        have hS : Sd4 w [(w.heap.size, .bool n, .string s, .int .i64 (e))] ((w.heap.size + 1)) _ := .of (HK.out).drew
        go_region_held3 (fun w' => (((w'.cell? ⟨w.heap.size, 0, none⟩ = some (.bool n) ∧ w'.cell? ⟨w.heap.size, 1, none⟩ = some (.string s) ∧ w'.cell? ⟨w.heap.size, 2, none⟩ = some (.int .i64 (e))) ∧ True) ∧ (w'.cell? ⟨(w.heap.size + 1), 0, none⟩ = some (rd w' ((w.heap.size + 1)) 0) ∧ w'.cell? ⟨(w.heap.size + 1), 1, none⟩ = some (rd w' ((w.heap.size + 1)) 1) ∧ w'.cell? ⟨(w.heap.size + 1), 2, none⟩ = some (rd w' ((w.heap.size + 1)) 2) ∧ w'.frozen? ⟨(w.heap.size + 1), 0, none⟩ = false ∧ w'.frozen? ⟨(w.heap.size + 1), 1, none⟩ = false ∧ w'.frozen? ⟨(w.heap.size + 1), 2, none⟩ = false)) ∧ Hid (Kept4 w [(w.heap.size, .bool n, .string s, .int .i64 (e))] ((w.heap.size + 1)) w')) (first | exact hS | exact Sd4.store (w0 := w) (L := [(w.heap.size, .bool n, .string s, .int .i64 (e))]) (g := (w.heap.size + 1)) hS _ _ _)
          (first
            | (go_at_call 30; refine (natMul_n _ _ _ _ _ _ _ S _ HT.out HU.out HTL.out HUL.out).mono ?_; rintro r w1 ⟨A8, m8, q8, rfl, ho, hb⟩; replace hS := Sd4.keep (w0 := w) (L := [(w.heap.size, .bool n, .string s, .int .i64 (e))]) (g := (w.heap.size + 1)) (by assumption) hb; have HV := Lib.hid ho.limbs; have HVL := Lib.hid (HM.out _ HTSl.out _ ho.len); clear ho HT HU; clear hb)
            | (go_at_call 29; refine (digits_n _ _ _ _ _ HV.out HVL.out (Sd4.pw (w0 := w) (L := [(w.heap.size, .bool n, .string s, .int .i64 (e))]) (g := (w.heap.size + 1)) (by assumption))).mono ?_; rintro r w1 ⟨rfl, hb⟩; replace hS := Sd4.keep (w0 := w) (L := [(w.heap.size, .bool n, .string s, .int .i64 (e))]) (g := (w.heap.size + 1)) (by assumption) hb; clear HV; clear hb)
            | (go_at_call 23; refine (decNorm_c 30000 _ _ _ _ _ HA.out hB6 (Sd4.pw (w0 := w) (L := [(w.heap.size, .bool n, .string s, .int .i64 (e))]) (g := (w.heap.size + 1)) (by assumption))).mono ?_; rintro r w1 ⟨rfl, hb⟩; replace hS := Sd4.keep (w0 := w) (L := [(w.heap.size, .bool n, .string s, .int .i64 (e))]) (g := (w.heap.size + 1)) (by assumption) hb; clear hb))
        rename_i hHeld
        clear hHeld
        obtain ⟨⟨⟨⟨c0, c1, c2⟩, -⟩, ⟨d0, d1, d2, f0, f1, f2⟩⟩, hk⟩ := hS
        have HK2 := hk
        clear HK hk
        have HK := HK2
        clear HK2
        clear c0 c1 c2 hl hw1 h7b HF HM HSl HNl HWl HXl HQl HRl HQ HRM HW0 HNU CG HAW HRN HTSl HTl HA HR0 HR7 HUL HTL HVL
        go_wp2
        exact bodyPost_ret (v := .tuple #[.agg #[.bool n, .string (nstr (Q * S)), .int .i64 (nexp (Q * S) p)], .int .i64 0]) (by simp [results, Tryd.results10, go_sem, d0, d1, d2]) rfl ⟨HR.out, (HK.out.store _ _ _).1.2.1⟩
      · simp only [if_true] at hT
        subst hT
        go_wp2_with fail
        refine (natAdd_n _ _ _ _ _ _ _ 1 _ (HT.out.below ((Below.refl _ _).alloc (Nat.le_refl _) _)) (by rw [digs_one']; exact limbs_new _ 1 (by omega) 1 rfl) HTL.out (by omega)).mono ?_
        rintro r w1 ⟨A7, m7, q7, rfl, ho, hb⟩
        have hb2 := ((Below.refl _ _).alloc (Nat.le_refl _) _).trans (hb.mono (by simp))
        replace HK := Lib.hid (HK.out.keep hb2)
        replace HU := Lib.hid (HU.out.below hb2)
        replace HT := Lib.hid ho.limbs
        replace HTL := Lib.hid (HM.out _ HTl.out _ ho.len)
        clear ho hb hb2
        clear c0 c1 c2 d0 d1 d2 f0 f1 f2
        obtain ⟨c0, c1, c2, -, -, -, -⟩ := HK.out.1.one
        obtain ⟨d0, d1, d2, f0, f1, f2⟩ := HK.out.res
        go_wp2
        clear c0 c1 c2 d0 d1 d2 f0 f1 f2
        replace HU := Lib.hid (HU.out.below ((Below.refl _ _).drew))
        replace HT := Lib.hid (HT.out.below ((Below.refl _ _).drew))
        have hS : Sd4 w [(w.heap.size, .bool n, .string s, .int .i64 (e))] ((w.heap.size + 1)) _ := .of (HK.out).drew
        go_region_held3 (fun w' => (((w'.cell? ⟨w.heap.size, 0, none⟩ = some (.bool n) ∧ w'.cell? ⟨w.heap.size, 1, none⟩ = some (.string s) ∧ w'.cell? ⟨w.heap.size, 2, none⟩ = some (.int .i64 (e))) ∧ True) ∧ (w'.cell? ⟨(w.heap.size + 1), 0, none⟩ = some (rd w' ((w.heap.size + 1)) 0) ∧ w'.cell? ⟨(w.heap.size + 1), 1, none⟩ = some (rd w' ((w.heap.size + 1)) 1) ∧ w'.cell? ⟨(w.heap.size + 1), 2, none⟩ = some (rd w' ((w.heap.size + 1)) 2) ∧ w'.frozen? ⟨(w.heap.size + 1), 0, none⟩ = false ∧ w'.frozen? ⟨(w.heap.size + 1), 1, none⟩ = false ∧ w'.frozen? ⟨(w.heap.size + 1), 2, none⟩ = false)) ∧ Hid (Kept4 w [(w.heap.size, .bool n, .string s, .int .i64 (e))] ((w.heap.size + 1)) w')) (first | exact hS | exact Sd4.store (w0 := w) (L := [(w.heap.size, .bool n, .string s, .int .i64 (e))]) (g := (w.heap.size + 1)) hS _ _ _)
          (first
            | (go_at_call 30; refine (natMul_n _ _ _ _ _ _ _ S _ HT.out HU.out HTL.out HUL.out).mono ?_; rintro r w1 ⟨A8, m8, q8, rfl, ho, hb⟩; replace hS := Sd4.keep (w0 := w) (L := [(w.heap.size, .bool n, .string s, .int .i64 (e))]) (g := (w.heap.size + 1)) (by assumption) hb; have HV := Lib.hid ho.limbs; have HVL := Lib.hid (HM.out _ HTSl.out _ ho.len); clear ho HT HU; clear hb)
            | (go_at_call 29; refine (digits_n _ _ _ _ _ HV.out HVL.out (Sd4.pw (w0 := w) (L := [(w.heap.size, .bool n, .string s, .int .i64 (e))]) (g := (w.heap.size + 1)) (by assumption))).mono ?_; rintro r w1 ⟨rfl, hb⟩; replace hS := Sd4.keep (w0 := w) (L := [(w.heap.size, .bool n, .string s, .int .i64 (e))]) (g := (w.heap.size + 1)) (by assumption) hb; clear HV; clear hb)
            | (go_at_call 23; refine (decNorm_c 30000 _ _ _ _ _ HA.out hB6 (Sd4.pw (w0 := w) (L := [(w.heap.size, .bool n, .string s, .int .i64 (e))]) (g := (w.heap.size + 1)) (by assumption))).mono ?_; rintro r w1 ⟨rfl, hb⟩; replace hS := Sd4.keep (w0 := w) (L := [(w.heap.size, .bool n, .string s, .int .i64 (e))]) (g := (w.heap.size + 1)) (by assumption) hb; clear hb))
        rename_i hHeld
        clear hHeld
        obtain ⟨⟨⟨⟨c0, c1, c2⟩, -⟩, ⟨d0, d1, d2, f0, f1, f2⟩⟩, hk⟩ := hS
        have HK2 := hk
        clear HK hk
        have HK := HK2
        clear HK2
        clear c0 c1 c2 hl hw1 h7b HF HM HSl HNl HWl HXl HQl HRl HQ HRM HW0 HNU CG HAW HRN HTSl HTl HA HR0 HR7 HUL HTL HVL
        go_wp2
        exact bodyPost_ret (v := .tuple #[.agg #[.bool n, .string (nstr ((Q + 1) * S)), .int .i64 (nexp ((Q + 1) * S) p)], .int .i64 0]) (by simp [results, Tryd.results10, go_sem, d0, d1, d2]) rfl ⟨HR.out, (HK.out.store _ _ _).1.2.1⟩

end Go.Proofs.YtekanlcfgfllcaaDoor
