/-
  P8: the contracts of layer 8: Fits, half, neighbour, Round.
-/
import Derived.Test.YtonanpnacoegcaaDoorP8M
set_option maxRecDepth 100000
namespace Go.Proofs.YtonanpnacoegcaaDoor
open Go.RowKit
/-- Is a decimal a multiple of ten to the power p? -/
def fitsB (N : Nat) (e p : Int) : Bool := decide (N = 0) || decide (p ≤ nexp N e)
/-- What stands below p, held against half of ten to the power p, by the digit there. -/
def halfD (N : Nat) (e p : Int) : Int := if digAt N e (p - 1) = 5 ∧ e < p - 1 then 1 else cmpZ (digAt N e (p - 1) : Int) 5

attribute [local go_sem] dec_field0 dec_field1 dec_field2 in
set_option maxHeartbeats 1600000 in
set_option maxRecDepth 100000 in
theorem placeFits_c (B : Nat) (n : Bool) (s : ByteArray) (e : Int) (N : Nat) (p : Int) (w : World) (h : DA B s e N) (hB : B ≤ 1000000) (hP : Pw w) :
    Calls Tryd.prog 13 #[.agg #[.bool n, .string s, .int .i64 e], .int .i64 p] w fun r w' => r = .returned (.bool (fitsB N e p)) ∧ Below w.heap.size w w' := by
  have HF := Lib.hid h
  have HK := Lib.hid (kept_one w (.bool n) (.string s) (.int .i64 e) 23 hP)
  clear h hP
  by_cases h0 : N = 0
  · have HR := Lib.hid (show fitsB N e p = true by simp [fitsB, h0])
    have HZ := Lib.hid (show decide (N = 0) = true from decide_eq_true h0)
    clear h0
    go_enter Tryd.func13, Tryd.ntmps13
    go_wp2_with fail
    refine (decZero_v _ _ _ _ _ true _ HF.out HZ.out HK.out.1).mono ?_
    rintro r w1 ⟨rfl, hb⟩
    replace HK := Lib.hid (HK.out.keep hb)
    clear hb
    go_wp2
    go_ret
    exact ⟨ret_bool (by rw [HR.out]), HK.out.2.1⟩
  · have HR := Lib.hid (show fitsB N e p = decide (p ≤ nexp N e) by simp [fitsB, h0])
    have HZ := Lib.hid (show decide (N = 0) = false from decide_eq_false h0)
    clear h0
    by_cases hx : p ≤ nexp N e
    · rw [decide_eq_true hx] at HR
      go_enter Tryd.func13, Tryd.ntmps13
      go_wp2_with fail
      refine (decZero_v _ _ _ _ _ false _ HF.out HZ.out HK.out.1).mono ?_
      rintro r w1 ⟨rfl, hb⟩
      replace HK := Lib.hid (HK.out.keep hb)
      clear hb
      obtain ⟨c0, c1, c2, -, -, -, -⟩ := HK.out.one
      go_wp2_with fail
      refine (decNorm_c _ _ _ _ _ _ HF.out hB HK.out.1).mono ?_
      rintro r w2 ⟨rfl, hb⟩
      replace HK := Lib.hid (HK.out.keep hb)
      clear hb c0 c1 c2
      go_wp2
      go_ret
      exact ⟨ret_bool (by rw [HR.out]), HK.out.2.1⟩
    · rw [decide_eq_false hx] at HR
      go_enter Tryd.func13, Tryd.ntmps13
      go_wp2_with fail
      refine (decZero_v _ _ _ _ _ false _ HF.out HZ.out HK.out.1).mono ?_
      rintro r w1 ⟨rfl, hb⟩
      replace HK := Lib.hid (HK.out.keep hb)
      clear hb
      obtain ⟨c0, c1, c2, -, -, -, -⟩ := HK.out.one
      go_wp2_with fail
      refine (decNorm_c _ _ _ _ _ _ HF.out hB HK.out.1).mono ?_
      rintro r w2 ⟨rfl, hb⟩
      replace HK := Lib.hid (HK.out.keep hb)
      clear hb c0 c1 c2
      go_wp2
      go_ret
      exact ⟨ret_bool (by rw [HR.out]; exact decide_eq_false (by omega)), HK.out.2.1⟩

attribute [local go_sem] dec_field0 dec_field1 dec_field2 in
set_option maxHeartbeats 1600000 in
set_option maxRecDepth 100000 in
theorem placeHalf_c (B : Nat) (n : Bool) (s : ByteArray) (e : Int) (N : Nat) (p v : Int) (w : World) (h : DA B s e N) (hv : halfD N e p = v) (hB : B ≤ 100000) (hp1 : -100000 ≤ p) (hp2 : p ≤ 100000) (hP : Pw w) :
    Calls Tryd.prog 41 #[.agg #[.bool n, .string s, .int .i64 e], .int .i64 p] w fun r w' => r = .returned (.int .i64 v) ∧ Below w.heap.size w w' := by
  subst hv
  have HF := Lib.hid h
  have HK := Lib.hid (kept_one w (.bool n) (.string s) (.int .i64 e) 23 hP)
  have hlo := h.lo
  have hhi := h.hi
  have hB5 : B ≤ 1000000 := by omega
  clear h hP
  have hpw : IntKind.i64.wrap (p - 1) = p - 1 := IntWalk.i64_in _ (by omega)
  by_cases h5 : digAt N e (p - 1) = 5
  · have HD := Lib.hid (show ((digAt N e (p - 1) : Nat) : Int) = 5 by omega)
    by_cases hx : e < p - 1
    · have HR := Lib.hid (show 1 = halfD N e p by rw [halfD, if_pos ⟨h5, hx⟩])
      clear h5
      go_enter Tryd.func41, Tryd.ntmps41
      go_wp2_with fail
      refine (decDigit_v _ _ _ _ _ _ 5 _ HF.out HD.out hB5 HK.out.1).mono ?_
      rintro r w1 ⟨rfl, hb⟩
      replace HK := Lib.hid (HK.out.keep hb)
      clear hb
      obtain ⟨c0, c1, c2, -, -, -, -⟩ := HK.out.one
      go_wp2
      go_ret
      exact ⟨ret_int HR.out, HK.out.2.1⟩
    · have HR := Lib.hid (show 0 = halfD N e p by rw [halfD, if_neg (fun hh => hx hh.2), h5]; rfl)
      have HZ := Lib.hid (show ∀ w, _ from compareZ_c 5 5)
      rw [show cmpZ 5 5 = 0 from rfl] at HZ
      clear h5
      go_enter Tryd.func41, Tryd.ntmps41
      go_wp2_with fail
      refine (decDigit_v _ _ _ _ _ _ 5 _ HF.out HD.out hB5 HK.out.1).mono ?_
      rintro r w1 ⟨rfl, hb⟩
      replace HK := Lib.hid (HK.out.keep hb)
      clear hb
      obtain ⟨c0, c1, c2, -, -, -, -⟩ := HK.out.one
      go_wp2_with fail
      refine (HZ.out _).mono ?_
      rintro r w2 ⟨rfl, rfl⟩
      go_wp2
      go_ret
      exact ⟨ret_int HR.out, HK.out.2.1⟩
  · have HR := Lib.hid (show cmpZ (digAt N e (p - 1) : Int) 5 = halfD N e p by rw [halfD, if_neg (fun hh => h5 hh.1)])
    obtain ⟨v, hv⟩ : ∃ v : Int, v = (digAt N e (p - 1) : Int) := ⟨_, rfl⟩
    have h5v : (v == 5) = false := by simp; omega
    rw [← hv] at HR
    have HD := Lib.hid hv.symm
    clear h5 hv
    have HZ := Lib.hid (show ∀ w, _ from compareZ_c v 5)
    go_enter Tryd.func41, Tryd.ntmps41
    go_wp2_with fail
    refine (decDigit_v _ _ _ _ _ _ v _ HF.out HD.out hB5 HK.out.1).mono ?_
    rintro r w1 ⟨rfl, hb⟩
    replace HK := Lib.hid (HK.out.keep hb)
    clear hb
    obtain ⟨c0, c1, c2, -, -, -, -⟩ := HK.out.one
    go_wp2_with fail
    refine (HZ.out _).mono ?_
    rintro r w2 ⟨rfl, rfl⟩
    go_wp2
    go_ret
    exact ⟨ret_int HR.out, HK.out.2.1⟩

theorem cut_n (A : Option Addr) (m c N : Nat) (z : Int) (j : Nat) (w : World) (h : Limbs w A m (digs 1000000000 N)) (hm : m ≤ 100000000) (hc : m ≤ c) (hz : max z 0 = (j : Int)) (hj : j ≤ 65536) (hP : Pw w) :
    Calls Tryd.prog 38 #[.slice A m c, .int .i64 z] w fun e w' => ∃ A1 m1 c1 A2 m2 c2, e = .returned (.tuple #[.slice A1 m1 c1, .slice A2 m2 c2]) ∧
      OwnS w' w.heap.size A1 m1 c1 (digs 1000000000 (N / 10 ^ j)) ∧ OwnS w' w.heap.size A2 m2 c2 (digs 1000000000 (N % 10 ^ j)) ∧ Below w.heap.size w w' := by
  have := tenCut_c A m c _ z j w h (digs_lt _ (by omega) N) hm hc hz hj hP
  rwa [val_digs 1000000000 (by omega)] at this
theorem digs_one : digs 1000000000 1 = [1] := by rw [digs_pos (by omega) (by omega), show 1 / 1000000000 = 0 by omega, digs_zero]
/-- What neighbour answers: so many steps. -/
theorem quot_len {N D L : Nat} (h : (decs N).length ≤ L) : (decs (N / 10 ^ D + 1)).length ≤ L + 1 := by
  refine decs_len ?_
  have h1 := Nat.lt_of_lt_of_le (lt_pow_decs N) (Nat.pow_le_pow_right (by omega) h)
  have h2 := Nat.div_le_self N (10 ^ D)
  rw [Nat.pow_succ]
  have := pow_pos10 L
  omega

attribute [local go_sem] dec_field0 dec_field1 dec_field2 in
set_option maxHeartbeats 4000000 in
set_option maxRecDepth 100000 in
theorem placeNeighbour_c (B : Nat) (m : Int) (n : Bool) (s : ByteArray) (e : Int) (N D T : Nat) (p : Int) (u : Bool) (w : World) (h : DA B s e N) (hN : N % 10 ≠ 0) (hD : p - e = (D : Int)) (hD0 : 1 ≤ D)
    (hu : upN m n N (10 ^ D) = u) (hT : N / 10 ^ D + (if u then 1 else 0) = T) (hl : (decs N).length ≤ 4980) (hB : B ≤ 30000) (hp1 : -30000 ≤ p) (hp2 : p ≤ 30000) (hP : Pw w) :
    Calls Tryd.prog 21 #[.int .i64 m, .agg #[.bool n, .string s, .int .i64 e], .int .i64 p] w fun r w' => r = .returned (.agg #[.bool n, .string (nstr T), .int .i64 (nexp T p)]) ∧ Below w.heap.size w w' := by
  have HF := Lib.hid h
  have HK := Lib.hid (kept4_one w (.bool n) (.string s) (.int .i64 e) (.bool false) (.string ⟨#[]⟩) (.int .i64 0) 23 23 hP)
  have hlo := h.lo
  have hhi := h.hi
  have hB5 : 30000 ≤ 1000000 := by omega
  have hB7 : B ≤ 1000000 := by omega
  have hw : IntKind.i64.wrap (p - e) = p - e := IntWalk.i64_in _ (by omega)
  have hD1 : D ≤ 65536 := by omega
  have HJ := Lib.hid (show max (p - e) 0 = (D : Int) by omega)
  have HM := Lib.hid (fun m (hm : (digs 1000000000 N).length = m) => (show m ≤ 100000000 by have := digs_len_decs hl; omega))
  have HQL := Lib.hid (fun m (hm : (digs 1000000000 (N / 10 ^ D)).length = m) => (show m ≤ 100000000 by have := digs_len_decs (Nat.le_trans (decs_length_le (Nat.div_le_self N (10 ^ D))) hl); omega))
  have HTL2 := Lib.hid (fun m (hm : (digs 1000000000 (N / 10 ^ D + 1)).length = m) => (show m ≤ 100000000 by have := digs_len_decs (quot_len (D := D) hl); omega))
  obtain ⟨v, hvd⟩ : ∃ v : Int, v = (digAt N e p : Int) := ⟨_, rfl⟩
  have hdg : digAt N e p = N / 10 ^ D % 10 := by rw [digAt, if_neg (by omega), hD]; rfl
  obtain ⟨r, hr⟩ : ∃ r : Int, v.tmod 2 = r := ⟨_, rfl⟩
  obtain ⟨b, hb2⟩ : ∃ b : Bool, (r == 1) = b := ⟨_, rfl⟩
  have hbo : b = decide (N / 10 ^ D % 2 = 1) := by
    rw [← hb2, ← hr, hvd, hdg]
    have : ((N / 10 ^ D % 10 : Nat) : Int).tmod 2 = ((N / 10 ^ D % 2 : Nat) : Int) := by rw [Int.tmod_eq_emod_of_nonneg (by omega)]; omega
    rw [this, Bool.eq_iff_iff]
    simp only [beq_iff_eq, decide_eq_true_eq]
    omega
  have HDG := Lib.hid hvd.symm
  have hhalf : halfD N e p = cmpZ ((2 * (N % 10 ^ D) : Nat) : Int) ((10 ^ D : Nat) : Int) := by
    have hq : digAt N e (p - 1) = N / 10 ^ (D - 1) % 10 := by rw [digAt, if_neg (by omega), show (p - 1 - e).toNat = D - 1 by omega]
    rw [half_digit hN hD0, halfD, hq]
    by_cases hc : N / 10 ^ (D - 1) % 10 = 5 ∧ 1 < D
    · rw [if_pos hc, if_pos ⟨hc.1, by omega⟩]
    · rw [if_neg hc, if_neg (fun hh => hc ⟨hh.1, by omega⟩)]
  obtain ⟨hv, hhv⟩ : ∃ hv : Int, halfD N e p = hv := ⟨_, rfl⟩
  have HH := Lib.hid hhv
  have HAW := Lib.hid (fun w => modeAway_c m n b hv w)
  rw [awayB_eq, hbo, ← hhv, hhalf] at HAW
  rw [← hhalf, hhv, ← hbo] at HAW
  have hu2 : upB m n b hv = u := by rw [← hu, upN, hbo, ← hhv, hhalf]
  rw [hu2] at HAW
  have HA := Lib.hid (show DA 30000 (strD (orZero (decs T))) p T from da_orz (by
    have h1 := quot_len (D := D) hl
    have h2 : T ≤ N / 10 ^ D + 1 := by rw [← hT]; split <;> omega
    have := decs_length_le h2
    omega) (by omega) (by omega))
  have hB6 : B ≤ 100000 := by omega
  have hp1b : -100000 ≤ p := by omega
  have hp2b : p ≤ 100000 := by omega
  clear hvd hN hD hD0 hu hhalf hdg hbo hu2 hhv h hP hlo hhi hl
  cases u
  · simp only [Bool.false_eq_true, if_false, Nat.add_zero] at hT
    subst hT
    go_enter Tryd.func21, Tryd.ntmps21
    go_wp2
    have hS : Sd4 w [(w.heap.size, .bool n, .string s, .int .i64 (e))] ((w.heap.size + 1)) _ := .of (HK.out).drew
    go_region_held3 (fun w' => (((w'.cell? ⟨w.heap.size, 0, none⟩ = some (.bool n) ∧ w'.cell? ⟨w.heap.size, 1, none⟩ = some (.string s) ∧ w'.cell? ⟨w.heap.size, 2, none⟩ = some (.int .i64 (e))) ∧ True) ∧ (w'.cell? ⟨(w.heap.size + 1), 0, none⟩ = some (rd w' ((w.heap.size + 1)) 0) ∧ w'.cell? ⟨(w.heap.size + 1), 1, none⟩ = some (rd w' ((w.heap.size + 1)) 1) ∧ w'.cell? ⟨(w.heap.size + 1), 2, none⟩ = some (rd w' ((w.heap.size + 1)) 2) ∧ w'.frozen? ⟨(w.heap.size + 1), 0, none⟩ = false ∧ w'.frozen? ⟨(w.heap.size + 1), 1, none⟩ = false ∧ w'.frozen? ⟨(w.heap.size + 1), 2, none⟩ = false)) ∧ Hid (Kept4 w [(w.heap.size, .bool n, .string s, .int .i64 (e))] ((w.heap.size + 1)) w')) (first | exact hS | exact Sd4.store (w0 := w) (L := [(w.heap.size, .bool n, .string s, .int .i64 (e))]) (g := (w.heap.size + 1)) hS _ _ _)
      (first
        | (go_at_call 36; refine (decCoef_c _ _ _ _ _ _ HF.out (Sd4.pw (w0 := w) (L := [(w.heap.size, .bool n, .string s, .int .i64 (e))]) (g := (w.heap.size + 1)) (by assumption))).mono ?_; rintro r w1 ⟨A, m1, c, rfl, ho, hb⟩; have hS := Sd4.keep (w0 := w) (L := [(w.heap.size, .bool n, .string s, .int .i64 (e))]) (g := (w.heap.size + 1)) (by assumption) hb; have HO := Lib.hid ho.limbs; have HL := Lib.hid (HM.out _ ho.len); have HC := Lib.hid ho.cap; clear ho; clear hb)
        | (go_at_call 38; refine (cut_n A m1 c _ _ D _ HO.out HL.out HC.out HJ.out hD1 (Sd4.pw (w0 := w) (L := [(w.heap.size, .bool n, .string s, .int .i64 (e))]) (g := (w.heap.size + 1)) (by assumption))).mono ?_; rintro r w1 ⟨A1, m2, c3, A2, m3, c4, rfl, ho1, ho2, hb⟩; have hS := Sd4.keep (w0 := w) (L := [(w.heap.size, .bool n, .string s, .int .i64 (e))]) (g := (w.heap.size + 1)) (by assumption) hb; have HT := Lib.hid ho1.limbs; have HTL := Lib.hid (HQL.out _ ho1.len); clear ho1 ho2 HO HL HC; clear hb))
    rename_i hHeld
    clear hHeld
    clear hw
    obtain ⟨⟨⟨⟨c0, c1, c2⟩, -⟩, ⟨d0, d1, d2, f0, f1, f2⟩⟩, hk⟩ := hS
    have HK := hk.out
    clear hk
    go_wp2_with fail
    refine (decDigit_v _ _ _ _ _ _ v _ HF.out HDG.out hB7 HK.1.1).mono ?_
    rintro r w2 ⟨rfl, hb⟩
    replace HK := HK.keep hb
    replace HT := Lib.hid (HT.out.below hb)
    clear hb
    clear c0 c1 c2 d0 d1 d2 f0 f1 f2
    go_wp2
    replace HT := Lib.hid (HT.out.below ((Below.refl _ _).drew))
    have hS : Sd4 w [(w.heap.size, .bool n, .string s, .int .i64 (e))] ((w.heap.size + 1)) _ := .of (HK).drew
    go_region_held3 (fun w' => (((w'.cell? ⟨w.heap.size, 0, none⟩ = some (.bool n) ∧ w'.cell? ⟨w.heap.size, 1, none⟩ = some (.string s) ∧ w'.cell? ⟨w.heap.size, 2, none⟩ = some (.int .i64 (e))) ∧ True) ∧ (w'.cell? ⟨(w.heap.size + 1), 0, none⟩ = some (rd w' ((w.heap.size + 1)) 0) ∧ w'.cell? ⟨(w.heap.size + 1), 1, none⟩ = some (rd w' ((w.heap.size + 1)) 1) ∧ w'.cell? ⟨(w.heap.size + 1), 2, none⟩ = some (rd w' ((w.heap.size + 1)) 2) ∧ w'.frozen? ⟨(w.heap.size + 1), 0, none⟩ = false ∧ w'.frozen? ⟨(w.heap.size + 1), 1, none⟩ = false ∧ w'.frozen? ⟨(w.heap.size + 1), 2, none⟩ = false)) ∧ Hid (Kept4 w [(w.heap.size, .bool n, .string s, .int .i64 (e))] ((w.heap.size + 1)) w')) (first | exact hS | exact Sd4.store (w0 := w) (L := [(w.heap.size, .bool n, .string s, .int .i64 (e))]) (g := (w.heap.size + 1)) hS _ _ _)
      (first
        | (go_at_call 41; refine (placeHalf_c B _ _ _ N p hv _ HF.out HH.out hB6 hp1b hp2b (Sd4.pw (w0 := w) (L := [(w.heap.size, .bool n, .string s, .int .i64 (e))]) (g := (w.heap.size + 1)) (by assumption))).mono ?_; rintro r w1 ⟨rfl, hb⟩; have hS := Sd4.keep (w0 := w) (L := [(w.heap.size, .bool n, .string s, .int .i64 (e))]) (g := (w.heap.size + 1)) (by assumption) hb; have HT := Lib.hid (HT.out.below hb); clear hb)
        | (go_at_call 40; refine (HAW.out _).mono ?_; rintro r w1 ⟨rfl, hb⟩; have hS := Sd4.keep (w0 := w) (L := [(w.heap.size, .bool n, .string s, .int .i64 (e))]) (g := (w.heap.size + 1)) (by assumption) hb; have HT := Lib.hid (HT.out.below hb); clear hb))
    rename_i hHeld
    clear hHeld
    obtain ⟨⟨⟨⟨c0, c1, c2⟩, -⟩, ⟨d0, d1, d2, f0, f1, f2⟩⟩, hk⟩ := hS
    have HK := hk.out
    clear hk
    go_wp2
    clear c0 c1 c2 d0 d1 d2 f0 f1 f2
    replace HT := Lib.hid (HT.out.below ((Below.refl _ _).drew))
    have hS : Sd4 w [(w.heap.size, .bool n, .string s, .int .i64 (e))] ((w.heap.size + 1)) _ := .of (HK).drew
    go_region_held3 (fun w' => (((w'.cell? ⟨w.heap.size, 0, none⟩ = some (.bool n) ∧ w'.cell? ⟨w.heap.size, 1, none⟩ = some (.string s) ∧ w'.cell? ⟨w.heap.size, 2, none⟩ = some (.int .i64 (e))) ∧ True) ∧ (w'.cell? ⟨(w.heap.size + 1), 0, none⟩ = some (rd w' ((w.heap.size + 1)) 0) ∧ w'.cell? ⟨(w.heap.size + 1), 1, none⟩ = some (rd w' ((w.heap.size + 1)) 1) ∧ w'.cell? ⟨(w.heap.size + 1), 2, none⟩ = some (rd w' ((w.heap.size + 1)) 2) ∧ w'.frozen? ⟨(w.heap.size + 1), 0, none⟩ = false ∧ w'.frozen? ⟨(w.heap.size + 1), 1, none⟩ = false ∧ w'.frozen? ⟨(w.heap.size + 1), 2, none⟩ = false)) ∧ Hid (Kept4 w [(w.heap.size, .bool n, .string s, .int .i64 (e))] ((w.heap.size + 1)) w')) (first | exact hS | exact Sd4.store (w0 := w) (L := [(w.heap.size, .bool n, .string s, .int .i64 (e))]) (g := (w.heap.size + 1)) hS _ _ _)
      (first
        | (go_at_call 35; refine (digits_n _ _ _ _ _ HT.out HTL.out (Sd4.pw (w0 := w) (L := [(w.heap.size, .bool n, .string s, .int .i64 (e))]) (g := (w.heap.size + 1)) (by assumption))).mono ?_; rintro r w1 ⟨rfl, hb⟩; have hS := Sd4.keep (w0 := w) (L := [(w.heap.size, .bool n, .string s, .int .i64 (e))]) (g := (w.heap.size + 1)) (by assumption) hb; clear HT; clear hb)
        | (go_at_call 20; refine (decNorm_c 30000 _ _ _ _ _ HA.out hB5 (Sd4.pw (w0 := w) (L := [(w.heap.size, .bool n, .string s, .int .i64 (e))]) (g := (w.heap.size + 1)) (by assumption))).mono ?_; rintro r w1 ⟨rfl, hb⟩; have hS := Sd4.keep (w0 := w) (L := [(w.heap.size, .bool n, .string s, .int .i64 (e))]) (g := (w.heap.size + 1)) (by assumption) hb; clear hb))
    rename_i hHeld
    clear hHeld
    obtain ⟨⟨-, ⟨d0, d1, d2, f0, f1, f2⟩⟩, hk⟩ := hS
    go_wp2
    exact bodyPost_ret (by simp [results, Tryd.results21, go_sem, d0, d1, d2] <;> rfl) rfl
      ⟨rfl, (hk.out.store _ _ _).1.2.1⟩
  · simp only [if_true] at hT
    subst hT
    go_enter Tryd.func21, Tryd.ntmps21
    go_wp2
    have hS : Sd4 w [(w.heap.size, .bool n, .string s, .int .i64 (e))] ((w.heap.size + 1)) _ := .of (HK.out).drew
    go_region_held3 (fun w' => (((w'.cell? ⟨w.heap.size, 0, none⟩ = some (.bool n) ∧ w'.cell? ⟨w.heap.size, 1, none⟩ = some (.string s) ∧ w'.cell? ⟨w.heap.size, 2, none⟩ = some (.int .i64 (e))) ∧ True) ∧ (w'.cell? ⟨(w.heap.size + 1), 0, none⟩ = some (rd w' ((w.heap.size + 1)) 0) ∧ w'.cell? ⟨(w.heap.size + 1), 1, none⟩ = some (rd w' ((w.heap.size + 1)) 1) ∧ w'.cell? ⟨(w.heap.size + 1), 2, none⟩ = some (rd w' ((w.heap.size + 1)) 2) ∧ w'.frozen? ⟨(w.heap.size + 1), 0, none⟩ = false ∧ w'.frozen? ⟨(w.heap.size + 1), 1, none⟩ = false ∧ w'.frozen? ⟨(w.heap.size + 1), 2, none⟩ = false)) ∧ Hid (Kept4 w [(w.heap.size, .bool n, .string s, .int .i64 (e))] ((w.heap.size + 1)) w')) (first | exact hS | exact Sd4.store (w0 := w) (L := [(w.heap.size, .bool n, .string s, .int .i64 (e))]) (g := (w.heap.size + 1)) hS _ _ _)
      (first
        | (go_at_call 36; refine (decCoef_c _ _ _ _ _ _ HF.out (Sd4.pw (w0 := w) (L := [(w.heap.size, .bool n, .string s, .int .i64 (e))]) (g := (w.heap.size + 1)) (by assumption))).mono ?_; rintro r w1 ⟨A, m1, c, rfl, ho, hb⟩; have hS := Sd4.keep (w0 := w) (L := [(w.heap.size, .bool n, .string s, .int .i64 (e))]) (g := (w.heap.size + 1)) (by assumption) hb; have HO := Lib.hid ho.limbs; have HL := Lib.hid (HM.out _ ho.len); have HC := Lib.hid ho.cap; clear ho; clear hb)
        | (go_at_call 38; refine (cut_n A m1 c _ _ D _ HO.out HL.out HC.out HJ.out hD1 (Sd4.pw (w0 := w) (L := [(w.heap.size, .bool n, .string s, .int .i64 (e))]) (g := (w.heap.size + 1)) (by assumption))).mono ?_; rintro r w1 ⟨A1, m2, c3, A2, m3, c4, rfl, ho1, ho2, hb⟩; have hS := Sd4.keep (w0 := w) (L := [(w.heap.size, .bool n, .string s, .int .i64 (e))]) (g := (w.heap.size + 1)) (by assumption) hb; have HT := Lib.hid ho1.limbs; have HTL := Lib.hid (HQL.out _ ho1.len); clear ho1 ho2 HO HL HC; clear hb))
    rename_i hHeld
    clear hHeld
    clear hw
    obtain ⟨⟨⟨⟨c0, c1, c2⟩, -⟩, ⟨d0, d1, d2, f0, f1, f2⟩⟩, hk⟩ := hS
    have HK := hk.out
    clear hk
    go_wp2_with fail
    refine (decDigit_v _ _ _ _ _ _ v _ HF.out HDG.out hB7 HK.1.1).mono ?_
    rintro r w2 ⟨rfl, hb⟩
    replace HK := HK.keep hb
    replace HT := Lib.hid (HT.out.below hb)
    clear hb
    clear c0 c1 c2 d0 d1 d2 f0 f1 f2
    go_wp2
    replace HT := Lib.hid (HT.out.below ((Below.refl _ _).drew))
    have hS : Sd4 w [(w.heap.size, .bool n, .string s, .int .i64 (e))] ((w.heap.size + 1)) _ := .of (HK).drew
    go_region_held3 (fun w' => (((w'.cell? ⟨w.heap.size, 0, none⟩ = some (.bool n) ∧ w'.cell? ⟨w.heap.size, 1, none⟩ = some (.string s) ∧ w'.cell? ⟨w.heap.size, 2, none⟩ = some (.int .i64 (e))) ∧ True) ∧ (w'.cell? ⟨(w.heap.size + 1), 0, none⟩ = some (rd w' ((w.heap.size + 1)) 0) ∧ w'.cell? ⟨(w.heap.size + 1), 1, none⟩ = some (rd w' ((w.heap.size + 1)) 1) ∧ w'.cell? ⟨(w.heap.size + 1), 2, none⟩ = some (rd w' ((w.heap.size + 1)) 2) ∧ w'.frozen? ⟨(w.heap.size + 1), 0, none⟩ = false ∧ w'.frozen? ⟨(w.heap.size + 1), 1, none⟩ = false ∧ w'.frozen? ⟨(w.heap.size + 1), 2, none⟩ = false)) ∧ Hid (Kept4 w [(w.heap.size, .bool n, .string s, .int .i64 (e))] ((w.heap.size + 1)) w')) (first | exact hS | exact Sd4.store (w0 := w) (L := [(w.heap.size, .bool n, .string s, .int .i64 (e))]) (g := (w.heap.size + 1)) hS _ _ _)
      (first
        | (go_at_call 41; refine (placeHalf_c B _ _ _ N p hv _ HF.out HH.out hB6 hp1b hp2b (Sd4.pw (w0 := w) (L := [(w.heap.size, .bool n, .string s, .int .i64 (e))]) (g := (w.heap.size + 1)) (by assumption))).mono ?_; rintro r w1 ⟨rfl, hb⟩; have hS := Sd4.keep (w0 := w) (L := [(w.heap.size, .bool n, .string s, .int .i64 (e))]) (g := (w.heap.size + 1)) (by assumption) hb; have HT := Lib.hid (HT.out.below hb); clear hb)
        | (go_at_call 40; refine (HAW.out _).mono ?_; rintro r w1 ⟨rfl, hb⟩; have hS := Sd4.keep (w0 := w) (L := [(w.heap.size, .bool n, .string s, .int .i64 (e))]) (g := (w.heap.size + 1)) (by assumption) hb; have HT := Lib.hid (HT.out.below hb); clear hb))
    rename_i hHeld
    clear hHeld
    obtain ⟨⟨⟨⟨c0, c1, c2⟩, -⟩, ⟨d0, d1, d2, f0, f1, f2⟩⟩, hk⟩ := hS
    have HK := hk.out
    clear hk
    go_wp2_with fail
    refine (natAdd_n _ _ _ _ _ _ _ 1 _ (HT.out.below ((Below.refl _ _).alloc (Nat.le_refl _) _)) (by rw [digs_one]; exact limbs_new _ 1 (by omega) 1 rfl) HTL.out (by omega)).mono ?_
    rintro r w4 ⟨A5, m5, c5, rfl, ho, hb⟩
    replace HK := HK.keep (((Below.refl _ _).alloc (Nat.le_refl _) _).trans (hb.mono (by simp)))
    replace HT := Lib.hid ho.limbs
    replace HTL := Lib.hid (HTL2.out _ ho.len)
    clear ho hb
    clear c0 c1 c2 d0 d1 d2 f0 f1 f2
    go_wp2
    replace HT := Lib.hid (HT.out.below ((Below.refl _ _).drew))
    have hS : Sd4 w [(w.heap.size, .bool n, .string s, .int .i64 (e))] ((w.heap.size + 1)) _ := .of (HK).drew
    go_region_held3 (fun w' => (((w'.cell? ⟨w.heap.size, 0, none⟩ = some (.bool n) ∧ w'.cell? ⟨w.heap.size, 1, none⟩ = some (.string s) ∧ w'.cell? ⟨w.heap.size, 2, none⟩ = some (.int .i64 (e))) ∧ True) ∧ (w'.cell? ⟨(w.heap.size + 1), 0, none⟩ = some (rd w' ((w.heap.size + 1)) 0) ∧ w'.cell? ⟨(w.heap.size + 1), 1, none⟩ = some (rd w' ((w.heap.size + 1)) 1) ∧ w'.cell? ⟨(w.heap.size + 1), 2, none⟩ = some (rd w' ((w.heap.size + 1)) 2) ∧ w'.frozen? ⟨(w.heap.size + 1), 0, none⟩ = false ∧ w'.frozen? ⟨(w.heap.size + 1), 1, none⟩ = false ∧ w'.frozen? ⟨(w.heap.size + 1), 2, none⟩ = false)) ∧ Hid (Kept4 w [(w.heap.size, .bool n, .string s, .int .i64 (e))] ((w.heap.size + 1)) w')) (first | exact hS | exact Sd4.store (w0 := w) (L := [(w.heap.size, .bool n, .string s, .int .i64 (e))]) (g := (w.heap.size + 1)) hS _ _ _)
      (first
        | (go_at_call 35; refine (digits_n _ _ _ _ _ HT.out HTL.out (Sd4.pw (w0 := w) (L := [(w.heap.size, .bool n, .string s, .int .i64 (e))]) (g := (w.heap.size + 1)) (by assumption))).mono ?_; rintro r w1 ⟨rfl, hb⟩; have hS := Sd4.keep (w0 := w) (L := [(w.heap.size, .bool n, .string s, .int .i64 (e))]) (g := (w.heap.size + 1)) (by assumption) hb; clear HT; clear hb)
        | (go_at_call 20; refine (decNorm_c 30000 _ _ _ _ _ HA.out hB5 (Sd4.pw (w0 := w) (L := [(w.heap.size, .bool n, .string s, .int .i64 (e))]) (g := (w.heap.size + 1)) (by assumption))).mono ?_; rintro r w1 ⟨rfl, hb⟩; have hS := Sd4.keep (w0 := w) (L := [(w.heap.size, .bool n, .string s, .int .i64 (e))]) (g := (w.heap.size + 1)) (by assumption) hb; clear hb))
    rename_i hHeld
    clear hHeld
    obtain ⟨⟨-, ⟨d0, d1, d2, f0, f1, f2⟩⟩, hk⟩ := hS
    go_wp2
    exact bodyPost_ret (by simp [results, Tryd.results21, go_sem, d0, d1, d2] <;> rfl) rfl
      ⟨rfl, (hk.out.store _ _ _).1.2.1⟩
end Go.Proofs.YtonanpnacoegcaaDoor
