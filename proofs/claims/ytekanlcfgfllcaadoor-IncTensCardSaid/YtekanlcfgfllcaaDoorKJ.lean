/-
  KJ: P8, P8R, Rf8D, Gd8, An8, U8.
-/
import Derived.Test.YtekanlcfgfllcaaDoorKI
import Derived.Test.YtekanlcfgfllcaaDoorRf8B
import Derived.Test.YtekanlcfgfllcaaDoorRf8C
/- P8 -/
/-
  P8: the contracts of layer 8: Fits, half, neighbour, Round.
-/
set_option maxRecDepth 100000
namespace Go.Proofs.YtekanlcfgfllcaaDoor
open Go.RowKit
/-- Is a decimal a multiple of ten to the power p? -/
def fitsB (N : Nat) (e p : Int) : Bool := decide (N = 0) || decide (p ≤ nexp N e)
/-- What stands below p, held against half of ten to the power p, by the digit there. -/
def halfD (N : Nat) (e p : Int) : Int := if digAt N e (p - 1) = 5 ∧ e < p - 1 then 1 else cmpZ (digAt N e (p - 1) : Int) 5

attribute [local go_sem] dec_field0 dec_field1 dec_field2 in
set_option maxHeartbeats 1600000 in
set_option maxRecDepth 100000 in
theorem placeFits_c (B : Nat) (n : Bool) (s : ByteArray) (e : Int) (N : Nat) (p : Int) (w : World) (h : DA B s e N) (hB : B ≤ 1000000) (hP : Pw w) :
    Calls Tryd.prog 43 #[.agg #[.bool n, .string s, .int .i64 e], .int .i64 p] w fun r w' => r = .returned (.bool (fitsB N e p)) ∧ Below w.heap.size w w' := by
  have HF := Lib.hid h
  have HK := Lib.hid (kept_one w (.bool n) (.string s) (.int .i64 e) 23 hP)
  clear h hP
  by_cases h0 : N = 0
  · have HR := Lib.hid (show fitsB N e p = true by simp [fitsB, h0])
    have HZ := Lib.hid (show decide (N = 0) = true from decide_eq_true h0)
    clear h0
    go_enter Tryd.func43, Tryd.ntmps43
    go_wp2_with fail
    refine (decZero_v _ _ _ _ _ true _ HF.out HZ.out HK.out.1).mono ?_
    rintro r w1 ⟨rfl, hb⟩
    replace HK := Lib.hid (HK.out.keep hb)
    clear hb
    go_wp2
    go_ret
    exact ⟨ret_bool (by rw [HR.out]), HK.out.2.1⟩
  · have HR := Lib.hid (show fitsB N e p = decide (p ≤ nexp N e) by simp [fitsB, h0])
    have HZ := Lib.hid (show decide (N = 0) = false from decide_eq_false h0)
    clear h0
    by_cases hx : p ≤ nexp N e
    · rw [decide_eq_true hx] at HR
      go_enter Tryd.func43, Tryd.ntmps43
      go_wp2_with fail
      refine (decZero_v _ _ _ _ _ false _ HF.out HZ.out HK.out.1).mono ?_
      rintro r w1 ⟨rfl, hb⟩
      replace HK := Lib.hid (HK.out.keep hb)
      clear hb
      obtain ⟨c0, c1, c2, -, -, -, -⟩ := HK.out.one
      go_wp2_with fail
      refine (decNorm_c _ _ _ _ _ _ HF.out hB HK.out.1).mono ?_
      rintro r w2 ⟨rfl, hb⟩
      replace HK := Lib.hid (HK.out.keep hb)
      clear hb c0 c1 c2
      go_wp2
      go_ret
      exact ⟨ret_bool (by rw [HR.out]), HK.out.2.1⟩
    · rw [decide_eq_false hx] at HR
      go_enter Tryd.func43, Tryd.ntmps43
      go_wp2_with fail
      refine (decZero_v _ _ _ _ _ false _ HF.out HZ.out HK.out.1).mono ?_
      rintro r w1 ⟨rfl, hb⟩
      replace HK := Lib.hid (HK.out.keep hb)
      clear hb
      obtain ⟨c0, c1, c2, -, -, -, -⟩ := HK.out.one
      go_wp2_with fail
      refine (decNorm_c _ _ _ _ _ _ HF.out hB HK.out.1).mono ?_
      rintro r w2 ⟨rfl, hb⟩
      replace HK := Lib.hid (HK.out.keep hb)
      clear hb c0 c1 c2
      go_wp2
      go_ret
      exact ⟨ret_bool (by rw [HR.out]; exact decide_eq_false (by omega)), HK.out.2.1⟩

attribute [local go_sem] dec_field0 dec_field1 dec_field2 in
set_option maxHeartbeats 1600000 in
set_option maxRecDepth 100000 in
theorem placeHalf_c (B : Nat) (n : Bool) (s : ByteArray) (e : Int) (N : Nat) (p v : Int) (w : World) (h : DA B s e N) (hv : halfD N e p = v) (hB : B ≤ 100000) (hp1 : -100000 ≤ p) (hp2 : p ≤ 100000) (hP : Pw w) :
    Calls Tryd.prog 65 #[.agg #[.bool n, .string s, .int .i64 e], .int .i64 p] w fun r w' => r = .returned (.int .i64 v) ∧ Below w.heap.size w w' := by
  subst hv
  have HF := Lib.hid h
  have HK := Lib.hid (kept_one w (.bool n) (.string s) (.int .i64 e) 23 hP)
  have hlo := h.lo
  have hhi := h.hi
  have hB5 : B ≤ 1000000 := by omega
  clear h hP
  have hpw : IntKind.i64.wrap (p - 1) = p - 1 := IntWalk.i64_in _ (by omega)
  by_cases h5 : digAt N e (p - 1) = 5
  · have HD := Lib.hid (show ((digAt N e (p - 1) : Nat) : Int) = 5 by omega)
    by_cases hx : e < p - 1
    · have HR := Lib.hid (show 1 = halfD N e p by rw [halfD, if_pos ⟨h5, hx⟩])
      clear h5
      go_enter Tryd.func65, Tryd.ntmps65
      go_wp2_with fail
      refine (decDigit_v _ _ _ _ _ _ 5 _ HF.out HD.out hB5 HK.out.1).mono ?_
      rintro r w1 ⟨rfl, hb⟩
      replace HK := Lib.hid (HK.out.keep hb)
      clear hb
      obtain ⟨c0, c1, c2, -, -, -, -⟩ := HK.out.one
      go_wp2
      go_ret
      exact ⟨ret_int HR.out, HK.out.2.1⟩
    · have HR := Lib.hid (show 0 = halfD N e p by rw [halfD, if_neg (fun hh => hx hh.2), h5]; rfl)
      have HZ := Lib.hid (show ∀ w, _ from compareZ_c 5 5)
      rw [show cmpZ 5 5 = 0 from rfl] at HZ
      clear h5
      go_enter Tryd.func65, Tryd.ntmps65
      go_wp2_with fail
      refine (decDigit_v _ _ _ _ _ _ 5 _ HF.out HD.out hB5 HK.out.1).mono ?_
      rintro r w1 ⟨rfl, hb⟩
      replace HK := Lib.hid (HK.out.keep hb)
      clear hb
      obtain ⟨c0, c1, c2, -, -, -, -⟩ := HK.out.one
      go_wp2_with fail
      refine (HZ.out _).mono ?_
      rintro r w2 ⟨rfl, rfl⟩
      go_wp2
      go_ret
      exact ⟨ret_int HR.out, HK.out.2.1⟩
  · have HR := Lib.hid (show cmpZ (digAt N e (p - 1) : Int) 5 = halfD N e p by rw [halfD, if_neg (fun hh => h5 hh.1)])
    obtain ⟨v, hv⟩ : ∃ v : Int, v = (digAt N e (p - 1) : Int) := ⟨_, rfl⟩
    have h5v : (v == 5) = false := by simp; omega
    rw [← hv] at HR
    have HD := Lib.hid hv.symm
    clear h5 hv
    have HZ := Lib.hid (show ∀ w, _ from compareZ_c v 5)
    go_enter Tryd.func65, Tryd.ntmps65
    go_wp2_with fail
    refine (decDigit_v _ _ _ _ _ _ v _ HF.out HD.out hB5 HK.out.1).mono ?_
    rintro r w1 ⟨rfl, hb⟩
    replace HK := Lib.hid (HK.out.keep hb)
    clear hb
    obtain ⟨c0, c1, c2, -, -, -, -⟩ := HK.out.one
    go_wp2_with fail
    refine (HZ.out _).mono ?_
    rintro r w2 ⟨rfl, rfl⟩
    go_wp2
    go_ret
    exact ⟨ret_int HR.out, HK.out.2.1⟩

theorem cut_n (A : Option Addr) (m c N : Nat) (z : Int) (j : Nat) (w : World) (h : Limbs w A m (digs 1000000000 N)) (hm : m ≤ 100000000) (hc : m ≤ c) (hz : max z 0 = (j : Int)) (hj : j ≤ 65536) (hP : Pw w) :
    Calls Tryd.prog 63 #[.slice A m c, .int .i64 z] w fun e w' => ∃ A1 m1 c1 A2 m2 c2, e = .returned (.tuple #[.slice A1 m1 c1, .slice A2 m2 c2]) ∧
      OwnS w' w.heap.size A1 m1 c1 (digs 1000000000 (N / 10 ^ j)) ∧ OwnS w' w.heap.size A2 m2 c2 (digs 1000000000 (N % 10 ^ j)) ∧ Below w.heap.size w w' := by
  have := tenCut_c A m c _ z j w h (digs_lt _ (by omega) N) hm hc hz hj hP
  rwa [val_digs 1000000000 (by omega)] at this
theorem digs_one : digs 1000000000 1 = [1] := by rw [digs_pos (by omega) (by omega), show 1 / 1000000000 = 0 by omega, digs_zero]
/-- What neighbour answers: so many steps. -/
theorem quot_len {N D L : Nat} (h : (decs N).length ≤ L) : (decs (N / 10 ^ D + 1)).length ≤ L + 1 := by
  refine decs_len ?_
  have h1 := Nat.lt_of_lt_of_le (lt_pow_decs N) (Nat.pow_le_pow_right (by omega) h)
  have h2 := Nat.div_le_self N (10 ^ D)
  rw [Nat.pow_succ]
  have := pow_pos10 L
  omega

attribute [local go_sem] dec_field0 dec_field1 dec_field2 in
set_option maxHeartbeats 4000000 in
set_option maxRecDepth 100000 in
theorem placeNeighbour_c (B : Nat) (m : Int) (n : Bool) (s : ByteArray) (e : Int) (N D T : Nat) (p : Int) (u : Bool) (w : World) (h : DA B s e N) (hN : N % 10 ≠ 0) (hD : p - e = (D : Int)) (hD0 : 1 ≤ D)
    (hu : upN m n N (10 ^ D) = u) (hT : N / 10 ^ D + (if u then 1 else 0) = T) (hl : (decs N).length ≤ 4980) (hB : B ≤ 30000) (hp1 : -30000 ≤ p) (hp2 : p ≤ 30000) (hP : Pw w) :
    Calls Tryd.prog 44 #[.int .i64 m, .agg #[.bool n, .string s, .int .i64 e], .int .i64 p] w fun r w' => r = .returned (.agg #[.bool n, .string (nstr T), .int .i64 (nexp T p)]) ∧ Below w.heap.size w w' := by
  have HF := Lib.hid h
  have HK := Lib.hid (kept4_one w (.bool n) (.string s) (.int .i64 e) (.bool false) (.string ⟨#[]⟩) (.int .i64 0) 23 23 hP)
  have hlo := h.lo
  have hhi := h.hi
  have hB5 : 30000 ≤ 1000000 := by omega
  have hB7 : B ≤ 1000000 := by omega
  have hw : IntKind.i64.wrap (p - e) = p - e := IntWalk.i64_in _ (by omega)
  have hD1 : D ≤ 65536 := by omega
  have HJ := Lib.hid (show max (p - e) 0 = (D : Int) by omega)
  have HM := Lib.hid (fun m (hm : (digs 1000000000 N).length = m) => (show m ≤ 100000000 by have := digs_len_decs hl; omega))
  have HQL := Lib.hid (fun m (hm : (digs 1000000000 (N / 10 ^ D)).length = m) => (show m ≤ 100000000 by have := digs_len_decs (Nat.le_trans (decs_length_le (Nat.div_le_self N (10 ^ D))) hl); omega))
  have HTL2 := Lib.hid (fun m (hm : (digs 1000000000 (N / 10 ^ D + 1)).length = m) => (show m ≤ 100000000 by have := digs_len_decs (quot_len (D := D) hl); omega))
  obtain ⟨v, hvd⟩ : ∃ v : Int, v = (digAt N e p : Int) := ⟨_, rfl⟩
  have hdg : digAt N e p = N / 10 ^ D % 10 := by rw [digAt, if_neg (by omega), hD]; rfl
  obtain ⟨r, hr⟩ : ∃ r : Int, v.tmod 2 = r := ⟨_, rfl⟩
  obtain ⟨b, hb2⟩ : ∃ b : Bool, (r == 1) = b := ⟨_, rfl⟩
  have hbo : b = decide (N / 10 ^ D % 2 = 1) := by
    rw [← hb2, ← hr, hvd, hdg]
    have : ((N / 10 ^ D % 10 : Nat) : Int).tmod 2 = ((N / 10 ^ D % 2 : Nat) : Int) := by rw [Int.tmod_eq_emod_of_nonneg (by omega)]; omega
    rw [this, Bool.eq_iff_iff]
    simp only [beq_iff_eq, decide_eq_true_eq]
    omega
  have HDG := Lib.hid hvd.symm
  have hhalf : halfD N e p = cmpZ ((2 * (N % 10 ^ D) : Nat) : Int) ((10 ^ D : Nat) : Int) := by
    have hq : digAt N e (p - 1) = N / 10 ^ (D - 1) % 10 := by rw [digAt, if_neg (by omega), show (p - 1 - e).toNat = D - 1 by omega]
    rw [half_digit hN hD0, halfD, hq]
    by_cases hc : N / 10 ^ (D - 1) % 10 = 5 ∧ 1 < D
    · rw [if_pos hc, if_pos ⟨hc.1, by omega⟩]
    · rw [if_neg hc, if_neg (fun hh => hc ⟨hh.1, by omega⟩)]
  obtain ⟨hv, hhv⟩ : ∃ hv : Int, halfD N e p = hv := ⟨_, rfl⟩
  have HH := Lib.hid hhv
  have HAW := Lib.hid (fun w => modeAway_c m n b hv w)
  rw [awayB_eq, hbo, ← hhv, hhalf] at HAW
  rw [← hhalf, hhv, ← hbo] at HAW
  have hu2 : upB m n b hv = u := by rw [← hu, upN, hbo, ← hhv, hhalf]
  rw [hu2] at HAW
  have HA := Lib.hid (show DA 30000 (strD (orZero (decs T))) p T from da_orz (by
    have h1 := quot_len (D := D) hl
    have h2 : T ≤ N / 10 ^ D + 1 := by rw [← hT]; split <;> omega
    have := decs_length_le h2
    omega) (by omega) (by omega))
  have hB6 : B ≤ 100000 := by omega
  have hp1b : -100000 ≤ p := by omega
  have hp2b : p ≤ 100000 := by omega
  clear hvd hN hD hD0 hu hhalf hdg hbo hu2 hhv h hP hlo hhi hl
  cases u
  · simp only [Bool.false_eq_true, if_false, Nat.add_zero] at hT
    subst hT
    go_enter Tryd.func44, Tryd.ntmps44
    go_wp2
    have hS : Sd4 w [(w.heap.size, .bool n, .string s, .int .i64 (e))] ((w.heap.size + 1)) _ := .of (HK.out).drew
    go_region_held3 (fun w' => (((w'.cell? ⟨w.heap.size, 0, none⟩ = some (.bool n) ∧ w'.cell? ⟨w.heap.size, 1, none⟩ = some (.string s) ∧ w'.cell? ⟨w.heap.size, 2, none⟩ = some (.int .i64 (e))) ∧ True) ∧ (w'.cell? ⟨(w.heap.size + 1), 0, none⟩ = some (rd w' ((w.heap.size + 1)) 0) ∧ w'.cell? ⟨(w.heap.size + 1), 1, none⟩ = some (rd w' ((w.heap.size + 1)) 1) ∧ w'.cell? ⟨(w.heap.size + 1), 2, none⟩ = some (rd w' ((w.heap.size + 1)) 2) ∧ w'.frozen? ⟨(w.heap.size + 1), 0, none⟩ = false ∧ w'.frozen? ⟨(w.heap.size + 1), 1, none⟩ = false ∧ w'.frozen? ⟨(w.heap.size + 1), 2, none⟩ = false)) ∧ Hid (Kept4 w [(w.heap.size, .bool n, .string s, .int .i64 (e))] ((w.heap.size + 1)) w')) (first | exact hS | exact Sd4.store (w0 := w) (L := [(w.heap.size, .bool n, .string s, .int .i64 (e))]) (g := (w.heap.size + 1)) hS _ _ _)
      (first
        | (go_at_call 22; refine (decCoef_c _ _ _ _ _ _ HF.out (Sd4.pw (w0 := w) (L := [(w.heap.size, .bool n, .string s, .int .i64 (e))]) (g := (w.heap.size + 1)) (by assumption))).mono ?_; rintro r w1 ⟨A, m1, c, rfl, ho, hb⟩; have hS := Sd4.keep (w0 := w) (L := [(w.heap.size, .bool n, .string s, .int .i64 (e))]) (g := (w.heap.size + 1)) (by assumption) hb; have HO := Lib.hid ho.limbs; have HL := Lib.hid (HM.out _ ho.len); have HC := Lib.hid ho.cap; clear ho; clear hb)
        | (go_at_call 63; refine (cut_n A m1 c _ _ D _ HO.out HL.out HC.out HJ.out hD1 (Sd4.pw (w0 := w) (L := [(w.heap.size, .bool n, .string s, .int .i64 (e))]) (g := (w.heap.size + 1)) (by assumption))).mono ?_; rintro r w1 ⟨A1, m2, c3, A2, m3, c4, rfl, ho1, ho2, hb⟩; have hS := Sd4.keep (w0 := w) (L := [(w.heap.size, .bool n, .string s, .int .i64 (e))]) (g := (w.heap.size + 1)) (by assumption) hb; have HT := Lib.hid ho1.limbs; have HTL := Lib.hid (HQL.out _ ho1.len); clear ho1 ho2 HO HL HC; clear hb))
    rename_i hHeld
    clear hHeld
    clear hw
    obtain ⟨⟨⟨⟨c0, c1, c2⟩, -⟩, ⟨d0, d1, d2, f0, f1, f2⟩⟩, hk⟩ := hS
    have HK := hk.out
    clear hk
    go_wp2_with fail
    refine (decDigit_v _ _ _ _ _ _ v _ HF.out HDG.out hB7 HK.1.1).mono ?_
    rintro r w2 ⟨rfl, hb⟩
    replace HK := HK.keep hb
    replace HT := Lib.hid (HT.out.below hb)
    clear hb
    clear c0 c1 c2 d0 d1 d2 f0 f1 f2
    go_wp2
    replace HT := Lib.hid (HT.out.below ((Below.refl _ _).drew))
    have hS : Sd4 w [(w.heap.size, .bool n, .string s, .int .i64 (e))] ((w.heap.size + 1)) _ := .of (HK).drew
    go_region_held3 (fun w' => (((w'.cell? ⟨w.heap.size, 0, none⟩ = some (.bool n) ∧ w'.cell? ⟨w.heap.size, 1, none⟩ = some (.string s) ∧ w'.cell? ⟨w.heap.size, 2, none⟩ = some (.int .i64 (e))) ∧ True) ∧ (w'.cell? ⟨(w.heap.size + 1), 0, none⟩ = some (rd w' ((w.heap.size + 1)) 0) ∧ w'.cell? ⟨(w.heap.size + 1), 1, none⟩ = some (rd w' ((w.heap.size + 1)) 1) ∧ w'.cell? ⟨(w.heap.size + 1), 2, none⟩ = some (rd w' ((w.heap.size + 1)) 2) ∧ w'.frozen? ⟨(w.heap.size + 1), 0, none⟩ = false ∧ w'.frozen? ⟨(w.heap.size + 1), 1, none⟩ = false ∧ w'.frozen? ⟨(w.heap.size + 1), 2, none⟩ = false)) ∧ Hid (Kept4 w [(w.heap.size, .bool n, .string s, .int .i64 (e))] ((w.heap.size + 1)) w')) (first | exact hS | exact Sd4.store (w0 := w) (L := [(w.heap.size, .bool n, .string s, .int .i64 (e))]) (g := (w.heap.size + 1)) hS _ _ _)
      (first
        | (go_at_call 65; refine (placeHalf_c B _ _ _ N p hv _ HF.out HH.out hB6 hp1b hp2b (Sd4.pw (w0 := w) (L := [(w.heap.size, .bool n, .string s, .int .i64 (e))]) (g := (w.heap.size + 1)) (by assumption))).mono ?_; rintro r w1 ⟨rfl, hb⟩; have hS := Sd4.keep (w0 := w) (L := [(w.heap.size, .bool n, .string s, .int .i64 (e))]) (g := (w.heap.size + 1)) (by assumption) hb; have HT := Lib.hid (HT.out.below hb); clear hb)
        | (go_at_call 26; refine (HAW.out _).mono ?_; rintro r w1 ⟨rfl, hb⟩; have hS := Sd4.keep (w0 := w) (L := [(w.heap.size, .bool n, .string s, .int .i64 (e))]) (g := (w.heap.size + 1)) (by assumption) hb; have HT := Lib.hid (HT.out.below hb); clear hb))
    rename_i hHeld
    clear hHeld
    obtain ⟨⟨⟨⟨c0, c1, c2⟩, -⟩, ⟨d0, d1, d2, f0, f1, f2⟩⟩, hk⟩ := hS
    have HK := hk.out
    clear hk
    go_wp2
    clear c0 c1 c2 d0 d1 d2 f0 f1 f2
    replace HT := Lib.hid (HT.out.below ((Below.refl _ _).drew))
    have hS : Sd4 w [(w.heap.size, .bool n, .string s, .int .i64 (e))] ((w.heap.size + 1)) _ := .of (HK).drew
    go_region_held3 (fun w' => (((w'.cell? ⟨w.heap.size, 0, none⟩ = some (.bool n) ∧ w'.cell? ⟨w.heap.size, 1, none⟩ = some (.string s) ∧ w'.cell? ⟨w.heap.size, 2, none⟩ = some (.int .i64 (e))) ∧ True) ∧ (w'.cell? ⟨(w.heap.size + 1), 0, none⟩ = some (rd w' ((w.heap.size + 1)) 0) ∧ w'.cell? ⟨(w.heap.size + 1), 1, none⟩ = some (rd w' ((w.heap.size + 1)) 1) ∧ w'.cell? ⟨(w.heap.size + 1), 2, none⟩ = some (rd w' ((w.heap.size + 1)) 2) ∧ w'.frozen? ⟨(w.heap.size + 1), 0, none⟩ = false ∧ w'.frozen? ⟨(w.heap.size + 1), 1, none⟩ = false ∧ w'.frozen? ⟨(w.heap.size + 1), 2, none⟩ = false)) ∧ Hid (Kept4 w [(w.heap.size, .bool n, .string s, .int .i64 (e))] ((w.heap.size + 1)) w')) (first | exact hS | exact Sd4.store (w0 := w) (L := [(w.heap.size, .bool n, .string s, .int .i64 (e))]) (g := (w.heap.size + 1)) hS _ _ _)
      (first
        | (go_at_call 29; refine (digits_n _ _ _ _ _ HT.out HTL.out (Sd4.pw (w0 := w) (L := [(w.heap.size, .bool n, .string s, .int .i64 (e))]) (g := (w.heap.size + 1)) (by assumption))).mono ?_; rintro r w1 ⟨rfl, hb⟩; have hS := Sd4.keep (w0 := w) (L := [(w.heap.size, .bool n, .string s, .int .i64 (e))]) (g := (w.heap.size + 1)) (by assumption) hb; clear HT; clear hb)
        | (go_at_call 23; refine (decNorm_c 30000 _ _ _ _ _ HA.out hB5 (Sd4.pw (w0 := w) (L := [(w.heap.size, .bool n, .string s, .int .i64 (e))]) (g := (w.heap.size + 1)) (by assumption))).mono ?_; rintro r w1 ⟨rfl, hb⟩; have hS := Sd4.keep (w0 := w) (L := [(w.heap.size, .bool n, .string s, .int .i64 (e))]) (g := (w.heap.size + 1)) (by assumption) hb; clear hb))
    rename_i hHeld
    clear hHeld
    obtain ⟨⟨-, ⟨d0, d1, d2, f0, f1, f2⟩⟩, hk⟩ := hS
    go_wp2
    exact bodyPost_ret (by simp [results, Tryd.results44, go_sem, d0, d1, d2] <;> rfl) rfl
      ⟨rfl, (hk.out.store _ _ _).1.2.1⟩
  · simp only [if_true] at hT
    subst hT
    go_enter Tryd.func44, Tryd.ntmps44
    go_wp2
    have hS : Sd4 w [(w.heap.size, .bool n, .string s, .int .i64 (e))] ((w.heap.size + 1)) _ := .of (HK.out).drew
    go_region_held3 (fun w' => (((w'.cell? ⟨w.heap.size, 0, none⟩ = some (.bool n) ∧ w'.cell? ⟨w.heap.size, 1, none⟩ = some (.string s) ∧ w'.cell? ⟨w.heap.size, 2, none⟩ = some (.int .i64 (e))) ∧ True) ∧ (w'.cell? ⟨(w.heap.size + 1), 0, none⟩ = some (rd w' ((w.heap.size + 1)) 0) ∧ w'.cell? ⟨(w.heap.size + 1), 1, none⟩ = some (rd w' ((w.heap.size + 1)) 1) ∧ w'.cell? ⟨(w.heap.size + 1), 2, none⟩ = some (rd w' ((w.heap.size + 1)) 2) ∧ w'.frozen? ⟨(w.heap.size + 1), 0, none⟩ = false ∧ w'.frozen? ⟨(w.heap.size + 1), 1, none⟩ = false ∧ w'.frozen? ⟨(w.heap.size + 1), 2, none⟩ = false)) ∧ Hid (Kept4 w [(w.heap.size, .bool n, .string s, .int .i64 (e))] ((w.heap.size + 1)) w')) (first | exact hS | exact Sd4.store (w0 := w) (L := [(w.heap.size, .bool n, .string s, .int .i64 (e))]) (g := (w.heap.size + 1)) hS _ _ _)
      (first
        | (go_at_call 22; refine (decCoef_c _ _ _ _ _ _ HF.out (Sd4.pw (w0 := w) (L := [(w.heap.size, .bool n, .string s, .int .i64 (e))]) (g := (w.heap.size + 1)) (by assumption))).mono ?_; rintro r w1 ⟨A, m1, c, rfl, ho, hb⟩; have hS := Sd4.keep (w0 := w) (L := [(w.heap.size, .bool n, .string s, .int .i64 (e))]) (g := (w.heap.size + 1)) (by assumption) hb; have HO := Lib.hid ho.limbs; have HL := Lib.hid (HM.out _ ho.len); have HC := Lib.hid ho.cap; clear ho; clear hb)
        | (go_at_call 63; refine (cut_n A m1 c _ _ D _ HO.out HL.out HC.out HJ.out hD1 (Sd4.pw (w0 := w) (L := [(w.heap.size, .bool n, .string s, .int .i64 (e))]) (g := (w.heap.size + 1)) (by assumption))).mono ?_; rintro r w1 ⟨A1, m2, c3, A2, m3, c4, rfl, ho1, ho2, hb⟩; have hS := Sd4.keep (w0 := w) (L := [(w.heap.size, .bool n, .string s, .int .i64 (e))]) (g := (w.heap.size + 1)) (by assumption) hb; have HT := Lib.hid ho1.limbs; have HTL := Lib.hid (HQL.out _ ho1.len); clear ho1 ho2 HO HL HC; clear hb))
    rename_i hHeld
    clear hHeld
    clear hw
    obtain ⟨⟨⟨⟨c0, c1, c2⟩, -⟩, ⟨d0, d1, d2, f0, f1, f2⟩⟩, hk⟩ := hS
    have HK := hk.out
    clear hk
    go_wp2_with fail
    refine (decDigit_v _ _ _ _ _ _ v _ HF.out HDG.out hB7 HK.1.1).mono ?_
    rintro r w2 ⟨rfl, hb⟩
    replace HK := HK.keep hb
    replace HT := Lib.hid (HT.out.below hb)
    clear hb
    clear c0 c1 c2 d0 d1 d2 f0 f1 f2
    go_wp2
    replace HT := Lib.hid (HT.out.below ((Below.refl _ _).drew))
    have hS : Sd4 w [(w.heap.size, .bool n, .string s, .int .i64 (e))] ((w.heap.size + 1)) _ := .of (HK).drew
    go_region_held3 (fun w' => (((w'.cell? ⟨w.heap.size, 0, none⟩ = some (.bool n) ∧ w'.cell? ⟨w.heap.size, 1, none⟩ = some (.string s) ∧ w'.cell? ⟨w.heap.size, 2, none⟩ = some (.int .i64 (e))) ∧ True) ∧ (w'.cell? ⟨(w.heap.size + 1), 0, none⟩ = some (rd w' ((w.heap.size + 1)) 0) ∧ w'.cell? ⟨(w.heap.size + 1), 1, none⟩ = some (rd w' ((w.heap.size + 1)) 1) ∧ w'.cell? ⟨(w.heap.size + 1), 2, none⟩ = some (rd w' ((w.heap.size + 1)) 2) ∧ w'.frozen? ⟨(w.heap.size + 1), 0, none⟩ = false ∧ w'.frozen? ⟨(w.heap.size + 1), 1, none⟩ = false ∧ w'.frozen? ⟨(w.heap.size + 1), 2, none⟩ = false)) ∧ Hid (Kept4 w [(w.heap.size, .bool n, .string s, .int .i64 (e))] ((w.heap.size + 1)) w')) (first | exact hS | exact Sd4.store (w0 := w) (L := [(w.heap.size, .bool n, .string s, .int .i64 (e))]) (g := (w.heap.size + 1)) hS _ _ _)
      (first
        | (go_at_call 65; refine (placeHalf_c B _ _ _ N p hv _ HF.out HH.out hB6 hp1b hp2b (Sd4.pw (w0 := w) (L := [(w.heap.size, .bool n, .string s, .int .i64 (e))]) (g := (w.heap.size + 1)) (by assumption))).mono ?_; rintro r w1 ⟨rfl, hb⟩; have hS := Sd4.keep (w0 := w) (L := [(w.heap.size, .bool n, .string s, .int .i64 (e))]) (g := (w.heap.size + 1)) (by assumption) hb; have HT := Lib.hid (HT.out.below hb); clear hb)
        | (go_at_call 26; refine (HAW.out _).mono ?_; rintro r w1 ⟨rfl, hb⟩; have hS := Sd4.keep (w0 := w) (L := [(w.heap.size, .bool n, .string s, .int .i64 (e))]) (g := (w.heap.size + 1)) (by assumption) hb; have HT := Lib.hid (HT.out.below hb); clear hb))
    rename_i hHeld
    clear hHeld
    obtain ⟨⟨⟨⟨c0, c1, c2⟩, -⟩, ⟨d0, d1, d2, f0, f1, f2⟩⟩, hk⟩ := hS
    have HK := hk.out
    clear hk
    go_wp2_with fail
    refine (natAdd_n _ _ _ _ _ _ _ 1 _ (HT.out.below ((Below.refl _ _).alloc (Nat.le_refl _) _)) (by rw [digs_one]; exact limbs_new _ 1 (by omega) 1 rfl) HTL.out (by omega)).mono ?_
    rintro r w4 ⟨A5, m5, c5, rfl, ho, hb⟩
    replace HK := HK.keep (((Below.refl _ _).alloc (Nat.le_refl _) _).trans (hb.mono (by simp)))
    replace HT := Lib.hid ho.limbs
    replace HTL := Lib.hid (HTL2.out _ ho.len)
    clear ho hb
    clear c0 c1 c2 d0 d1 d2 f0 f1 f2
    go_wp2
    replace HT := Lib.hid (HT.out.below ((Below.refl _ _).drew))
    have hS : Sd4 w [(w.heap.size, .bool n, .string s, .int .i64 (e))] ((w.heap.size + 1)) _ := .of (HK).drew
    go_region_held3 (fun w' => (((w'.cell? ⟨w.heap.size, 0, none⟩ = some (.bool n) ∧ w'.cell? ⟨w.heap.size, 1, none⟩ = some (.string s) ∧ w'.cell? ⟨w.heap.size, 2, none⟩ = some (.int .i64 (e))) ∧ True) ∧ (w'.cell? ⟨(w.heap.size + 1), 0, none⟩ = some (rd w' ((w.heap.size + 1)) 0) ∧ w'.cell? ⟨(w.heap.size + 1), 1, none⟩ = some (rd w' ((w.heap.size + 1)) 1) ∧ w'.cell? ⟨(w.heap.size + 1), 2, none⟩ = some (rd w' ((w.heap.size + 1)) 2) ∧ w'.frozen? ⟨(w.heap.size + 1), 0, none⟩ = false ∧ w'.frozen? ⟨(w.heap.size + 1), 1, none⟩ = false ∧ w'.frozen? ⟨(w.heap.size + 1), 2, none⟩ = false)) ∧ Hid (Kept4 w [(w.heap.size, .bool n, .string s, .int .i64 (e))] ((w.heap.size + 1)) w')) (first | exact hS | exact Sd4.store (w0 := w) (L := [(w.heap.size, .bool n, .string s, .int .i64 (e))]) (g := (w.heap.size + 1)) hS _ _ _)
      (first
        | (go_at_call 29; refine (digits_n _ _ _ _ _ HT.out HTL.out (Sd4.pw (w0 := w) (L := [(w.heap.size, .bool n, .string s, .int .i64 (e))]) (g := (w.heap.size + 1)) (by assumption))).mono ?_; rintro r w1 ⟨rfl, hb⟩; have hS := Sd4.keep (w0 := w) (L := [(w.heap.size, .bool n, .string s, .int .i64 (e))]) (g := (w.heap.size + 1)) (by assumption) hb; clear HT; clear hb)
        | (go_at_call 23; refine (decNorm_c 30000 _ _ _ _ _ HA.out hB5 (Sd4.pw (w0 := w) (L := [(w.heap.size, .bool n, .string s, .int .i64 (e))]) (g := (w.heap.size + 1)) (by assumption))).mono ?_; rintro r w1 ⟨rfl, hb⟩; have hS := Sd4.keep (w0 := w) (L := [(w.heap.size, .bool n, .string s, .int .i64 (e))]) (g := (w.heap.size + 1)) (by assumption) hb; clear hb))
    rename_i hHeld
    clear hHeld
    obtain ⟨⟨-, ⟨d0, d1, d2, f0, f1, f2⟩⟩, hk⟩ := hS
    go_wp2
    exact bodyPost_ret (by simp [results, Tryd.results44, go_sem, d0, d1, d2] <;> rfl) rfl
      ⟨rfl, (hk.out.store _ _ _).1.2.1⟩
end Go.Proofs.YtekanlcfgfllcaaDoor
/- P8R -/
/-
  P8R: place.Round by value.
-/
set_option maxRecDepth 100000
namespace Go.Proofs.YtekanlcfgfllcaaDoor
open Go.RowKit
theorem upN_scale (m : Int) (n : Bool) (X W j : Nat) : upN m n (X * 10 ^ j) (W * 10 ^ j) = upN m n X W := by
  have hk := pow_pos10 j
  have h1 : X * 10 ^ j / (W * 10 ^ j) = X / W := Nat.mul_div_mul_right _ _ hk
  have h2 : X * 10 ^ j % (W * 10 ^ j) = X % W * 10 ^ j := Nat.mul_mod_mul_right _ _ _
  unfold upN
  rw [h1, h2, show ((2 * (X % W * 10 ^ j) : Nat) : Int) = ((2 * (X % W) : Nat) : Int) * ((10 ^ j : Nat) : Int) by push_cast; rw [Int.mul_assoc], show ((W * 10 ^ j : Nat) : Int) = (W : Int) * ((10 ^ j : Nat) : Int) by push_cast; rfl, cmpZ_mul _ _ _ hk]
theorem nexp_of {N : Nat} (h : N ≠ 0) (e : Int) : nexp N e = e + tz10 N := by rw [nexp, if_neg h]
/-- A decimal of few steps fits just if the step goes into it. -/
theorem fitsB_iff {N X : Nat} {e k p : Int} (hke : k ≤ e) (hkp : k ≤ p) (hX : N * 10 ^ (e - k).toNat = X) : fitsB N e p = decide (X % 10 ^ (p - k).toNat = 0) := by
  have h1 := n_finer (k := e) (k' := k) hX.symm (by omega)
  have hz : N = 0 ↔ X = 0 := by
    rw [← hX]
    constructor
    · rintro rfl; simp
    · intro h
      rcases Nat.mul_eq_zero.1 h with h | h
      · exact h
      · have := pow_pos10 (e - k).toNat; omega
  rw [fitsB, Bool.eq_iff_iff]
  simp only [Bool.or_eq_true, decide_eq_true_eq]
  rw [fits_iff, hz, ← h1.2]
  by_cases h0 : X = 0
  · simp [h0]
  · rw [nexp_of h0]
    constructor
    · rintro (h | h)
      · exact .inl h
      · exact .inr (by omega)
    · rintro (h | h)
      · exact .inl h
      · exact .inr (by omega)

attribute [local go_sem] dec_field0 dec_field1 dec_field2 in
set_option maxHeartbeats 1600000 in
set_option maxRecDepth 100000 in
theorem placeRound_no (m : Int) (n : Bool) (s : ByteArray) (e p : Int) (w : World) (hm : isWay m = false) :
    Calls Tryd.prog 16 #[.int .i64 m, .agg #[.bool n, .string s, .int .i64 e], .int .i64 p] w fun r w' => r = .returned (.tuple #[.agg #[.bool false, .string ⟨#[]⟩, .int .i64 0], .int .i64 1]) ∧ Below w.heap.size w w' := by
  have CG := Lib.hid (fun w => modeGood_c m w)
  rw [hm] at CG
  clear hm
  go_enter Tryd.func16, Tryd.ntmps16
  go_wp2_with fail
  refine (CG.out _).mono ?_
  rintro r w1 ⟨rfl, rfl⟩
  go_wp2
  exact bodyPost_ret (v := .tuple #[.agg #[.bool false, .string ⟨#[]⟩, .int .i64 0], .int .i64 1]) (by simp [results, Tryd.results16, go_sem]) rfl ⟨rfl, ((Below.refl _ w).alloc (Nat.le_refl _) _).alloc (by simp) _⟩

attribute [local go_sem] dec_field0 dec_field1 dec_field2 in
set_option maxHeartbeats 4000000 in
set_option maxRecDepth 100000 in
theorem placeRound_c (B : Nat) (m : Int) (n : Bool) (s : ByteArray) (e : Int) (N X W : Nat) (k p : Int) (w : World) (hm : isWay m = true) (h : DA B s e N) (hke : k ≤ e) (hkp : k ≤ p) (hX : N * 10 ^ (e - k).toNat = X) (hW : 10 ^ (p - k).toNat = W)
    (hl : (decs N).length ≤ 4980) (hB : B ≤ 25000) (hp1 : -30000 ≤ p) (hp2 : p ≤ 30000) (hP : Pw w) :
    Calls Tryd.prog 16 #[.int .i64 m, .agg #[.bool n, .string s, .int .i64 e], .int .i64 p] w fun r w' => r = .returned (rndV m n X W k) ∧ Below w.heap.size w w' := by
  have CG := Lib.hid (fun w => modeGood_c m w)
  rw [hm] at CG
  have HF := Lib.hid h
  have hB5 : B ≤ 1000000 := by omega
  have hB6 : B + 5000 ≤ 30000 := by omega
  have hp1b : -30000 ≤ p := hp1
  have hp2b : p ≤ 30000 := hp2
  have HQL := Lib.hid (Nat.le_trans (nq_len N) hl)
  have HFI := Lib.hid (show fitsB N e p = decide (X % W = 0) by rw [← hW]; exact fitsB_iff hke hkp hX)
  have h1 := n_finer (k := e) (k' := k) hX.symm (by omega)
  have HR0 := Lib.hid (show X % W = 0 → rndV m n X W k = .tuple #[.agg #[.bool n, .string (nstr N), .int .i64 (nexp N e)], .int .i64 0] from fun hh => by
    rw [rndV_mult hh, h1.1, h1.2])
  have HR7 := Lib.hid (show m = 7 → X % W ≠ 0 → rndV m n X W k = .tuple #[.agg #[.bool false, .string ⟨#[]⟩, .int .i64 0], .int .i64 11] from fun h1 h2 => by rw [h1]; exact rndV_no h2)
  have HRN := Lib.hid (show ∀ E, nexp N e = E → m ≠ 7 → X % W ≠ 0 → ∃ D T : Nat, p - E = (D : Int) ∧ 1 ≤ D ∧ nq N / 10 ^ D + (if upN m n (nq N) (10 ^ D) then 1 else 0) = T ∧ nq N % 10 ≠ 0 ∧ rndV m n X W k = .tuple #[.agg #[.bool n, .string (nstr T), .int .i64 (nexp T p)], .int .i64 0] from fun E hE h7 hx => by
    have hN : N ≠ 0 := by
      rintro rfl
      rw [Nat.zero_mul] at hX
      apply hx; rw [← hX]; exact Nat.zero_mod W
    have hne : ¬ (p ≤ nexp N e) := by
      intro hh
      have h2 := HFI.out
      rw [decide_eq_false hx, fitsB, decide_eq_false hN, Bool.false_or] at h2
      exact absurd hh (of_decide_eq_false h2)
    have hEe := nexp_of hN e
    obtain ⟨i, hi⟩ : ∃ i : Nat, E - k = (i : Int) := ⟨(E - k).toNat, by omega⟩
    have hXq : nq N * 10 ^ i = X := by
      rw [← hX, show i = tz10 N + (e - k).toNat by omega, Nat.pow_add, ← Nat.mul_assoc, (nq_spec N).1]
    have hWq : 10 ^ (p - E).toNat * 10 ^ i = W := by rw [← hW, ← Nat.pow_add]; congr 1; omega
    refine ⟨(p - E).toNat, _, by omega, by omega, rfl, (nq_spec N).2 hN, ?_⟩
    have hx2 : nq N % 10 ^ (p - E).toNat ≠ 0 := by
      intro hh
      apply hx
      rw [← hXq, ← hWq, Nat.mul_mod_mul_right, hh, Nat.zero_mul]
    rw [← hXq, ← hWq, rndV_finer, rndV_up h7 hx2 _ rfl, nstr_mul, nexp_mul, show k + (i : Int) + ((p - E).toNat : Int) = p by omega])
  have HK := kept4_one w (.bool n) (.string s) (.int .i64 e) (.bool false) (.string ⟨#[]⟩) (.int .i64 0) 23 23 hP
  clear hm h hke hkp hX hW hl hB hp1 hp2 hP h1
  go_enter Tryd.func16, Tryd.ntmps16
  go_wp2_with fail
  refine (CG.out _).mono ?_
  rintro r w1 ⟨rfl, rfl⟩
  go_wp2_with fail
  refine (placeFits_c _ _ _ _ _ _ _ HF.out hB5 HK.1.1).mono ?_
  rintro r w1 ⟨rfl, hb⟩
  replace HK := HK.keep hb
  clear hb
  obtain ⟨c0, c1, c2, -, -, -, -⟩ := HK.1.one
  obtain ⟨d0, d1, d2, f0, f1, f2⟩ := HK.res
  rw [HFI.out]
  by_cases hm : X % W = 0
  · have hdm : decide (X % W = 0) = true := decide_eq_true hm
    rw [hdm]
    have HR := Lib.hid (HR0.out hm)
    clear hm hdm
    go_wp2_with fail
    refine (decNorm_c _ _ _ _ _ _ HF.out hB5 HK.1.1).mono ?_
    rintro r w1 ⟨rfl, hb⟩
    replace HK := HK.keep hb
    clear hb
    clear c0 c1 c2 d0 d1 d2 f0 f1 f2
    obtain ⟨c0, c1, c2, -, -, -, -⟩ := HK.1.one
    obtain ⟨d0, d1, d2, f0, f1, f2⟩ := HK.res
    go_wp2
    exact bodyPost_ret (v := .tuple #[.agg #[.bool n, .string (nstr N), .int .i64 (nexp N e)], .int .i64 0]) (by simp [results, Tryd.results16, go_sem, d0, d1, d2]) rfl
      ⟨by rw [HR.out], (HK.store _ _ _).1.2.1⟩
  · have hdm : decide (X % W = 0) = false := decide_eq_false hm
    rw [hdm]
    clear hdm
    by_cases h7 : m = 7
    · have HR := Lib.hid (HR7.out h7 hm)
      have h7b : (m == 7) = true := by simpa using h7
      clear hm h7
      go_wp2
      exact bodyPost_ret (v := .tuple #[.agg #[.bool false, .string ⟨#[]⟩, .int .i64 0], .int .i64 11]) (by simp [results, Tryd.results16, go_sem, d0, d1, d2]) rfl
        ⟨by rw [HR.out], (HK.store _ _ _).1.2.1⟩
    · obtain ⟨E, hE⟩ : ∃ E, nexp N e = E := ⟨_, rfl⟩
      obtain ⟨D, T, hD, hD0, hT, hq10, hR⟩ := HRN.out E hE h7 hm
      have HR := Lib.hid hR
      have HT := Lib.hid hT
      have HD := Lib.hid hD
      have HE := Lib.hid hE
      have HQ := Lib.hid hq10
      have h7b : (m == 7) = false := by simpa using h7
      clear hm h7 hR hT hD hE hq10
      go_wp2_with fail
      refine (decNorm_c _ _ _ _ _ _ HF.out hB5 HK.1.1).mono ?_
      rintro r w1 ⟨rfl, hb⟩
      replace HK := HK.keep hb
      clear hb
      clear c0 c1 c2 d0 d1 d2 f0 f1 f2
      obtain ⟨c0, c1, c2, -, -, -, -⟩ := HK.1.one
      obtain ⟨d0, d1, d2, f0, f1, f2⟩ := HK.res
      rw [HE.out]
      go_wp2_with fail
      refine (placeNeighbour_c (B + 5000) m n _ E (nq N) D T p _ _ (by have := HF.out.norm; rwa [HE.out] at this) HQ.out HD.out hD0 rfl HT.out HQL.out hB6 hp1b hp2b HK.1.1).mono ?_
      rintro r w1 ⟨rfl, hb⟩
      replace HK := HK.keep hb
      clear hb
      clear c0 c1 c2 d0 d1 d2 f0 f1 f2
      obtain ⟨c0, c1, c2, -, -, -, -⟩ := HK.1.one
      obtain ⟨d0, d1, d2, f0, f1, f2⟩ := HK.res
      go_wp2
      exact bodyPost_ret (v := .tuple #[.agg #[.bool n, .string (nstr T), .int .i64 (nexp T p)], .int .i64 0]) (by simp [results, Tryd.results16, go_sem, d0, d1, d2]) rfl
        ⟨by rw [HR.out], (HK.store _ _ _).1.2.1⟩
end Go.Proofs.YtekanlcfgfllcaaDoor
/- Rf8D -/
/-
  Rf8D: the document's Round.
-/
set_option maxRecDepth 100000
namespace Go.Proofs.YtekanlcfgfllcaaDoor
open Go.RowKit
theorem ref5Round_c (B : Nat) (m : Int) (n : Bool) (s t : ByteArray) (e t0 : Int) (N S X W : Nat) (k p : Int) (w : World) (h : DA B s e N) (hst : DA 0 t t0 S) (hS : S ≠ 0) (hk : min e p = k)
    (hX : N * 10 ^ (e - k).toNat = X) (hW : S * 10 ^ (p - k).toNat = W) (hB : B ≤ 30000) (hp1 : -30000 ≤ p) (hp2 : p ≤ 30000) (hx : (decs X).length ≤ 4950) (hw : (decs W).length ≤ 4950) (hP : Pw w) :
    Calls Tryd.prog 12 #[.int .i64 m, .agg #[.bool n, .string s, .int .i64 e], .string t, .int .i64 p] w fun r w' => r = .returned (rndV m n X W k) ∧ Below w.heap.size w w' := by
  by_cases hpe : p < e
  · exact ref5Round_lt_c B m n s t e t0 N S X W k p w h hst hS hk hX hW hB hp1 hp2 hx hw hP hpe
  · exact ref5Round_ge_c B m n s t e t0 N S X W k p w h hst hS hk hX hW hB hp1 hp2 hx hw hP hpe
end Go.Proofs.YtekanlcfgfllcaaDoor
/- Gd8 -/
/-
  Gd8: layer 8's good.
-/
set_option maxRecDepth 100000
namespace Go.Proofs.YtekanlcfgfllcaaDoor
open Go.RowKit
/-- May a decimal and a place be handed in? -/
def g8 (s : ByteArray) (e a : Int) : Bool := goodB s e && (decide (s.size ≤ 100) && (decide (-300 ≤ a) && (decide (a ≤ 300) && (decide (-300 ≤ e) && decide (e ≤ 300)))))
theorem g8_true {s : ByteArray} {e a : Int} (h : g8 s e a = true) : fineD 100 s e = true ∧ -300 ≤ a ∧ a ≤ 300 ∧ -300 ≤ e ∧ e ≤ 300 := by
  simp only [g8, Bool.and_eq_true, decide_eq_true_eq] at h
  obtain ⟨h1, h2, h3, h4, h5, h6⟩ := h
  exact ⟨by simp only [fineD, Bool.and_eq_true, decide_eq_true_eq]; exact ⟨h1, h2⟩, h3, h4, h5, h6⟩
end Go.Proofs.YtekanlcfgfllcaaDoor
/- An8 -/
/-
  An8: what a program that does nothing does not answer (layer 8).
-/
set_option maxRecDepth 100000
namespace Go.Proofs.YtekanlcfgfllcaaDoor
open Go.RowKit
theorem da25_8 : DA 1000 ⟨#[50, 53]⟩ (-1) 25 := ⟨⟨[2, 5], ⟨rfl, by decide⟩, rfl⟩, by decide, by decide, by omega, by omega⟩
theorem da20_8 : DA 1000 ⟨#[50, 48]⟩ (-1) 20 := ⟨⟨[2, 0], ⟨rfl, by decide⟩, rfl⟩, by decide, by decide, by omega, by omega⟩
theorem len25 : (decs 25).length ≤ 4980 := by rw [decs_snoc (by omega), decs_snoc (show 25 / 10 ≠ 0 by omega), decs_zero]; decide
theorem tz20 : tz10 20 = 1 := by rw [tz10_step (by omega) rfl, tz10_none (by omega)]
theorem n20 : nstr 20 = ⟨#[50]⟩ ∧ nexp 20 (-1) = 0 := by
  refine ⟨?_, ?_⟩
  · rw [nstr, nq, tz20, show 20 / 10 ^ 1 = 2 by omega, decs_snoc (by omega), decs_zero]; rfl
  · rw [nexp_of (by omega), tz20]; rfl
theorem rnd25 : rndV 4 false 25 10 (-1) = .tuple #[.agg #[.bool false, .string ⟨#[50]⟩, .int .i64 0], .int .i64 0] := by
  have h : rndN 4 false 25 10 = 20 := by decide
  rw [rndV_of (by omega), h, n20.1, n20.2]
theorem rnd25x : rndV 7 false 25 10 (-1) = .tuple #[.agg #[.bool false, .string ⟨#[]⟩, .int .i64 0], .int .i64 11] := rndV_no (by omega)
theorem fits20 : fitsB 20 (-1) 0 = true := by rw [fitsB, n20.2]; rfl
end Go.Proofs.YtekanlcfgfllcaaDoor
/- U8 -/
/-
  U8: layer 8's contracts for decimals counted in small steps.
-/
set_option maxRecDepth 100000
namespace Go.Proofs.YtekanlcfgfllcaaDoor
open Go.RowKit
theorem DU.len_of {k : Int} {s : ByteArray} {e : Int} {X N : Nat} (h : DU k s e X) (hX : N * 10 ^ (e - k).toNat = X) : (decs N).length ≤ 4900 := by
  have h1 := decs_length_le (show N ≤ X by rw [← hX]; exact Nat.le_mul_of_pos_right _ (pow_pos10 _))
  have := h.len
  omega
theorem placeRound_u {m : Int} {n : Bool} {s : ByteArray} {e k p : Int} {X W : Nat} {v : Value} {w : World} (hm : isWay m = true) (h : DU k s e X) (hkp : k ≤ p) (hp : p ≤ 15000) (hW : 10 ^ (p - k).toNat = W) (hv : rndV m n X W k = v) (hP : Pw w) :
    Calls Tryd.prog 16 #[.int .i64 m, .agg #[.bool n, .string s, .int .i64 e], .int .i64 p] w fun r w' => r = .returned v ∧ Below w.heap.size w w' := by
  obtain ⟨N, hd, hX, -, -⟩ := h.norm
  have hl := h.len_of hX
  have := h.lo
  subst hv
  exact placeRound_c 20000 m n s e N X W k p w hm hd h.le hkp hX hW (by omega) (by omega) (by omega) (by omega) hP
theorem placeFits_u {n : Bool} {s : ByteArray} {e k p : Int} {X W : Nat} {v : Bool} {w : World} (h : DU k s e X) (hkp : k ≤ p) (hW : 10 ^ (p - k).toNat = W) (hv : decide (X % W = 0) = v) (hP : Pw w) :
    Calls Tryd.prog 43 #[.agg #[.bool n, .string s, .int .i64 e], .int .i64 p] w fun r w' => r = .returned (.bool v) ∧ Below w.heap.size w w' := by
  obtain ⟨N, hd, hX, -, -⟩ := h.norm
  have := placeFits_c 20000 n s e N p w hd (by omega) hP
  rwa [fitsB_iff h.le hkp hX, hW, hv] at this
theorem ref5Round_u {m : Int} {n : Bool} {s t : ByteArray} {e t0 k p : Int} {X S W : Nat} {v : Value} {w : World} (h : DU k s e X) (hst : DA 0 t t0 S) (hS : S ≠ 0) (hkp : k ≤ p) (hp : p ≤ 15000) (hW : S * 10 ^ (p - k).toNat = W) (hw : (decs W).length ≤ 4900) (hv : rndV m n X W k = v) (hP : Pw w) :
    Calls Tryd.prog 12 #[.int .i64 m, .agg #[.bool n, .string s, .int .i64 e], .string t, .int .i64 p] w fun r w' => r = .returned v ∧ Below w.heap.size w w' := by
  obtain ⟨N, hd, hX, -, -⟩ := h.norm
  have hlo := h.lo
  have hle := h.le
  have hl := h.len
  obtain ⟨k0, hk0⟩ : ∃ k0, min e p = k0 := ⟨_, rfl⟩
  have e1 : X = N * 10 ^ (e - k0).toNat * 10 ^ (k0 - k).toNat := by rw [← hX, Nat.mul_assoc, ← Nat.pow_add]; congr 2; omega
  have e2 : W = S * 10 ^ (p - k0).toNat * 10 ^ (k0 - k).toNat := by rw [← hW, Nat.mul_assoc, ← Nat.pow_add]; congr 2; omega
  have l1 := decs_length_le (show N * 10 ^ (e - k0).toNat ≤ X by rw [e1]; exact Nat.le_mul_of_pos_right _ (pow_pos10 _))
  have l2 := decs_length_le (show S * 10 ^ (p - k0).toNat ≤ W by rw [e2]; exact Nat.le_mul_of_pos_right _ (pow_pos10 _))
  have := ref5Round_c 20000 m n s t e t0 N S _ _ k0 p w hd hst hS hk0 rfl rfl (by omega) (by omega) (by omega) (by omega) (by omega) hP
  rw [e1, e2, rndV_finer, show k + ((k0 - k).toNat : Int) = k0 by omega] at hv
  rwa [hv] at this
theorem da_one : DA 0 ⟨#[49]⟩ 0 1 := ⟨⟨[1], ⟨rfl, by decide⟩, rfl⟩, by decide, by decide, by omega, by omega⟩
theorem ref5Norm_u {n : Bool} {s : ByteArray} {e k : Int} {X : Nat} {S : ByteArray} {E : Int} {w : World} (h : DU k s e X) (hv : nstr X = S ∧ nexp X k = E) (hP : Pw w) :
    Calls Tryd.prog 35 #[.agg #[.bool n, .string s, .int .i64 e]] w fun r w' => r = .returned (.agg #[.bool n, .string S, .int .i64 E]) ∧ Below w.heap.size w w' := by
  obtain ⟨N, hd, -, h1, h2⟩ := h.norm
  rw [← hv.1, ← hv.2, ← h1, ← h2]
  exact ref5Norm_c 20000 n s e N w hd (by omega) hP
/-- What rounding answers is one decimal, or a fault. -/
theorem rndV_shape (m : Int) (n : Bool) (X W : Nat) (k : Int) : ∃ n' s' e' c, rndV m n X W k = .tuple #[.agg #[.bool n', .string s', .int .i64 e'], .int .i64 c] := by
  unfold rndV
  split
  · exact ⟨_, _, _, _, rfl⟩
  · exact ⟨_, _, _, _, rfl⟩
theorem fits_exp {X : Nat} {k p : Int} (hX : X ≠ 0) (hkp : k ≤ p) : X % 10 ^ (p - k).toNat = 0 ↔ p ≤ nexp X k := by
  rw [fits_iff, nexp_of hX]
  constructor
  · rintro (h | h)
    · exact absurd h hX
    · omega
  · intro h
    exact .inr (by omega)
theorem rnd_len (m : Int) (n : Bool) {X W L : Nat} (hX : (decs X).length ≤ L) (hW : (decs W).length ≤ L) (hW0 : 0 < W) : (decs (rndN m n X W)).length ≤ L + 1 := by
  have h1 := (rndN_near m n X W hW0).1
  have h2 := decs_add hX hW
  have h3 := decs_length_le (Nat.le_of_lt h1)
  omega
theorem pow_len (j : Nat) : (decs (10 ^ j)).length ≤ j + 1 := decs_len (Nat.pow_lt_pow_right (by omega) (by omega))
theorem sv_ne {n : Bool} {X Y : Nat} (h : X ≠ Y) : sv n X ≠ sv n Y := fun hh => h (sv_inj hh)
theorem cmpZ_ne {a b : Int} (h : a ≠ b) : cmpZ a b ≠ 0 := by rcases cmpZ_cases a b with hh | hh | hh <;> omega
theorem DU.up {k : Int} {s : ByteArray} {e : Int} {X : Nat} (h : DU k s e X) (u : Nat) (he : e + u ≤ 20000) (hl : (decs (X * 10 ^ u)).length ≤ 4900) : DU k s (e + u) (X * 10 ^ u) := by
  obtain ⟨⟨N, hd, hv⟩, h1, h2, -⟩ := h
  refine ⟨⟨N, ⟨hd.isD, hd.pos, hd.len, by have := hd.lo; omega, by omega⟩, ?_⟩, by omega, h2, hl⟩
  rw [← hv, Nat.mul_assoc, ← Nat.pow_add]
  congr 2
  omega
theorem nexp_nq_up (R u : Nat) (k : Int) : nexp (nq R) (nexp R k + u) = nexp R (k + u) := by
  by_cases h : R = 0
  · subst h; rw [nq_zero]; simp [nexp]
  · rw [nexp_of (nq_pos h), nexp_of h, nexp_of h, tz10_none ((nq_spec R).2 h)]; omega
/-- A rounded value's exponent made greater: as it should be. -/
theorem ref5Norm_up {n : Bool} {k : Int} {R u : Nat} {w : World} (hl : (decs R).length ≤ 4900) (h1 : -10000 ≤ k) (h2 : k ≤ 5000) (hu : u ≤ 5000) (hP : Pw w) :
    Calls Tryd.prog 35 #[.agg #[.bool n, .string (nstr R), .int .i64 (nexp R k + u)]] w fun r w' => r = .returned (.agg #[.bool n, .string (nstr R), .int .i64 (nexp R (k + u))]) ∧ Below w.heap.size w w' := by
  have hd := DA.of_num (B := 10000) (N := R) (e := k) (by omega) (by omega) (by omega)
  have hd2 : DA 20000 (nstr R) (nexp R k + u) (nq R) := ⟨hd.isD, hd.pos, hd.len, by have := hd.lo; omega, by have := hd.hi; omega⟩
  have := ref5Norm_c 20000 n _ _ _ w hd2 (by omega) hP
  rwa [nexp_nq_up, (norm_norm R k).1] at this
theorem nexp_bound (R : Nat) (k : Int) (hl : (decs R).length ≤ 4900) (h1 : -10000 ≤ k) (h2 : k ≤ 5000) : -15000 ≤ nexp R k ∧ nexp R k ≤ 15000 := by
  have := tz_len R
  unfold nexp
  split <;> omega
/-- One decimal of one digit, counted in small steps. -/
theorem DU.one {k a : Int} {s : ByteArray} {S W : Nat} (h : DA 0 s 0 S) (hk : k ≤ a) (hlo : -15000 ≤ k) (hhi : a ≤ 15000) (hW : S * 10 ^ (a - k).toNat = W) (hl : (decs W).length ≤ 4900) : DU k s a W :=
  ⟨⟨S, ⟨h.isD, h.pos, h.len, by omega, by omega⟩, hW⟩, hk, hlo, hl⟩
theorem da_five : DA 0 ⟨#[53]⟩ 0 5 := ⟨⟨[5], ⟨rfl, by decide⟩, rfl⟩, by decide, by decide, by omega, by omega⟩
/-- How far what is rounded is off. -/
theorem rnd_off (m : Int) (n : Bool) (X W : Nat) (hW : 0 < W) : (sv n (rndN m n X W) - sv n X).natAbs < W := by
  obtain ⟨h1, h2⟩ := rndN_near m n X W hW
  cases n <;> simp only [sv, if_true, Bool.false_eq_true, if_false] <;> omega
theorem rnd_half {m : Int} (hm : m = 4 ∨ m = 5 ∨ m = 6) (n : Bool) (X W : Nat) (hW : 0 < W) : 2 * (sv n (rndN m n X W) - sv n X).natAbs ≤ W := by
  obtain ⟨h1, h2⟩ := rndN_half hm n X W hW
  cases n <;> simp only [sv, if_true, Bool.false_eq_true, if_false] <;> omega
/-- Behind a region that makes one box. -/
def OneMid (w0 : World) (L : List (Nat × Value × Value × Value)) (X : Value × Value × Value) (v : Value) (W : World) : Prop :=
  ∃ g, v = .pointer (some ⟨g, 0, none⟩) ∧ Kept3 w0 (L ++ [(g, X)]) W
theorem oneMid_of {w0 W : World} {L : List (Nat × Value × Value × Value)} {x0 x1 x2 : Value} {g : Nat} (hk : Sd w0 L W) (hx : Box3 W g x0 x1 x2) : OneMid w0 L (x0, x1, x2) (.pointer (some ⟨g, 0, none⟩)) W :=
  ⟨g, rfl, hk.2.out.1, hk.2.out.2.1, fun u hu => by
    rcases List.mem_append.1 hu with hu | hu
    · exact hk.2.out.2.2 u hu
    · simp only [List.mem_cons, List.not_mem_nil, or_false] at hu
      subst hu
      exact hx⟩
/-- A box among others whose third cell is written. -/
theorem Kept3.set2 {w0 w : World} {L1 L2 : List (Nat × Value × Value × Value)} {g : Nat} {x y z : Value} (h : Kept3 w0 (L1 ++ (g, x, y, z) :: L2) w) (hg : w0.heap.size ≤ g) (hp : 0 < g) (hne : ∀ t ∈ L1 ++ L2, t.1 ≠ g) (u : Value) :
    Kept3 w0 (L1 ++ (g, x, y, u) :: L2) (w.setCell ⟨g, 2, none⟩ u) := by
  have hb2 : Below g w _ := (Below.refl g w).setCell (p := ⟨g, 2, none⟩) (Nat.le_refl _) u
  refine ⟨h.1.below' hb2 hp, h.2.1.setCell (p := ⟨g, 2, none⟩) hg u, fun t ht => ?_⟩
  rcases List.mem_append.1 ht with ht | ht
  · exact (h.2.2 t (List.mem_append.2 (.inl ht))).other (hne t (List.mem_append.2 (.inl ht))) u
  · rcases List.mem_cons.1 ht with rfl | ht
    · exact (h.2.2 (g, x, y, z) (by simp)).set2 u
    · exact (h.2.2 t (List.mem_append.2 (.inr (List.mem_cons.2 (.inr ht))))).other (hne t (List.mem_append.2 (.inr ht))) u
end Go.Proofs.YtekanlcfgfllcaaDoor
