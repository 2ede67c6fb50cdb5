/-
  NumberBounds, walked.
-/
import Derived.Test.YtogipbgfnjbakaaDoorNZ
set_option maxRecDepth 100000
namespace Go.Proofs.YtogipbgfnjbakaaDoor
open Go.RowKit
set_option maxHeartbeats 16000000 in
theorem walk_numberBounds (s : ByteArray) (w : World) (hs : s.size ≤ 1048576) (hM : Mw w) :
    Calls Tryd.prog 5 #[.string s] w fun e w' => e = .returned (.bool true) ∧ Below w.heap.size w w' := by
  have P1 := Lib.hid (fun W (h : Mw W) => parse_c s W h (by omega))
  have HN := Lib.hid (show numZ (bts s) = ((numZ (bts s)).1, (numZ (bts s)).2) from rfl)
  have HE := Lib.hid (num_err (bts s))
  generalize (numZ (bts s)).1 = p at *
  generalize (numZ (bts s)).2 = e at *
  have HA := Lib.hid (fun W (h : Mw W) => answers15_c W h)
  have HM := Lib.hid hM
  clear hM
  go_enter Tryd.func5, Tryd.ntmps5
  go_upto_region 2 with (first
    | (go_at_call 7; refine (P1.out _ HM.out).mono ?_; rintro e w1 ⟨rfl, hb⟩; have HB := Lib.hid hb; clear hb)
    | (refine wpList_store_row rfl 24 _ _ rfl w1.heap.size (patN p) rfl rfl 24 patZ (BX.new w1 patZ _) (pat_size ..) rfl (pat_cells _) ?_)
    | fail)
  have hbx : BX ((w1.alloc (.cells patZ 24)).setRow w1.heap.size (patN p)) w1.heap.size (patN p) 24 := st_new
  have HB : Hid (Below w.heap.size w ((w1.alloc (.cells patZ 24)).setRow w1.heap.size (patN p))) := Lib.hid (st_below HB.out HB.out.size)
  change Code.wp _ _ _ _ ((w1.alloc (.cells patZ 24)).setRow w1.heap.size (patN p))
  generalize (w1.alloc (.cells patZ 24)).setRow w1.heap.size (patN p) = W1 at *
  generalize w1.heap.size = a at *
  clear P1
  by_cases he : e = 0
  · subst he
    have hok := okN_of HN.out
    clear HN HE
    obtain ⟨b1, b2, b3, b4, b5, b6, b7, b8, b9, b10⟩ := hok.small
    have hin : p.inc.length ≤ 40 := by
      have hb := hok.big
      simp only [bigN, Bool.or_eq_false_iff, decide_eq_false_iff_not] at hb
      omega
    have hlt : ∀ c ∈ p.inc, c < 256 := fun c hc => by have := dg_iff.1 (List.all_eq_true.1 hok.incs.2 c hc); omega
    obtain ⟨hexp, hgrp, -, hkind⟩ := hok
    have HV : Hid ((patN p)[5]? = some (.int .i64 (p.minInt : Int)) ∧ (patN p)[6]? = some (.int .i64 (p.maxInt : Int)) ∧ (patN p)[7]? = some (.int .i64 (p.minFrac : Int)) ∧ (patN p)[8]? = some (.int .i64 (p.maxFrac : Int)) ∧ (patN p)[9]? = some (.int .i64 (p.minSig : Int)) ∧ (patN p)[10]? = some (.int .i64 (p.maxSig : Int)) ∧ (patN p)[11]? = some (.int .i64 (p.prim : Int)) ∧ (patN p)[12]? = some (.int .i64 (p.sec : Int)) ∧ (patN p)[13]? = some (.string (stz p.inc)) ∧ (patN p)[14]? = some (.bool p.sci) ∧ (patN p)[15]? = some (.int .i64 (p.minExp : Int)) ∧ (patN p)[16]? = some (.bool p.plus)) := Lib.hid ⟨rfl, rfl, rfl, rfl, rfl, rfl, rfl, rfl, rfl, rfl, rfl, rfl⟩
    generalize patN p = PV at *
    have hI : (stz p.inc).size = p.inc.length := stz_size _
    have HIB := Lib.hid (bts_stz hlt)
    clear hlt
    generalize stz p.inc = I at *
    obtain ⟨mI, xI, mF, xF, mS, xS, pr, se, inc, sc, mE, pl⟩ := p
    dsimp only at *
    have HI0 : Hid (∀ h : 0 < I.size, inc.head? ≠ some 48 → (((I[0].toNat : Nat) : Int) == 48) = false) := Lib.hid (fun h hh => by
      have e := bts_drop h
      rw [List.drop_zero, HIB.out] at e
      rw [e] at hh
      simp only [beq_eq_false_iff_ne, ne_eq]
      intro h48
      exact hh (by rw [List.head?_cons, show I[0].toNat = 48 by omega]))
    clear HIB
    have c5 := (hbx.c 5).trans HV.out.1
    have c6 := (hbx.c 6).trans HV.out.2.1
    have c7 := (hbx.c 7).trans HV.out.2.2.1
    have c8 := (hbx.c 8).trans HV.out.2.2.2.1
    have c9 := (hbx.c 9).trans HV.out.2.2.2.2.1
    have c10 := (hbx.c 10).trans HV.out.2.2.2.2.2.1
    have c11 := (hbx.c 11).trans HV.out.2.2.2.2.2.2.1
    have c12 := (hbx.c 12).trans HV.out.2.2.2.2.2.2.2.1
    have c13 := (hbx.c 13).trans HV.out.2.2.2.2.2.2.2.2.1
    have c14 := (hbx.c 14).trans HV.out.2.2.2.2.2.2.2.2.2.1
    have c15 := (hbx.c 15).trans HV.out.2.2.2.2.2.2.2.2.2.2.1
    have c16 := (hbx.c 16).trans HV.out.2.2.2.2.2.2.2.2.2.2.2
    have f1 : decide ((xF : Int) < (mF : Int)) = false := decide_eq_false (by omega)
    have f2 : decide ((xS : Int) < (mS : Int)) = false := decide_eq_false (by omega)
    have f3 : decide ((40 : Int) < (xF : Int)) = false := decide_eq_false (by omega)
    have f4 : decide ((40 : Int) < (xS : Int)) = false := decide_eq_false (by omega)
    have f5 : decide ((40 : Int) < (mI : Int)) = false := decide_eq_false (by omega)
    have f6 : decide ((40 : Int) < (xI : Int)) = false := decide_eq_false (by omega)
    have f7 : decide ((40 : Int) < (I.size : Int)) = false := decide_eq_false (by omega)
    have f8 : decide ((9 : Int) < (mE : Int)) = false := decide_eq_false (by omega)
    have f9 : decide ((40 : Int) < (pr : Int)) = false := decide_eq_false (by omega)
    have f10 : decide ((40 : Int) < (se : Int)) = false := decide_eq_false (by omega)
    go_upto_region 4 with fail
    rcases hkind with ⟨⟨k1, k2⟩, k3, k4, k5, k6, k7⟩ | ⟨⟨k1, k2⟩, k3, k4, k5⟩
    · have hi0 : inc.length = 0 := by rw [k7]; rfl
      clear k7 HI0
      rcases hexp with ⟨rfl, e1, e2⟩ | ⟨rfl, e1, rfl⟩
      · have hp0 : pr = 0 ∧ se = 0 := by rcases hgrp with h | ⟨_, _, h⟩; exact h; cases h
        clear hgrp
        obtain ⟨p1, p2⟩ := hp0
        have z1 : decide ((0 : Int) < (mS : Int)) = true := decide_eq_true (by omega)
        go_upto_region 7 with fail
        have z2 : decide ((0 : Int) < (mI : Int) + (xI : Int) + (xF : Int) + (I.size : Int)) = false := decide_eq_false (by omega)
        have z3 : decide ((0 : Int) < (I.size : Int)) = false := decide_eq_false (by omega)
        have z4 : decide ((0 : Int) < (pr : Int)) = false := decide_eq_false (by omega)
        have z5 : ((pr : Int) == 0) = true := by simp only [beq_iff_eq]; omega
        have z6 : ((se : Int) == 0) = true := by simp only [beq_iff_eq]; omega
        go_upto_region 9 with (first | go_skip | fail)
        clear c5 c6 c7 c8 c9 c10 c11 c12 c13 c14 c15 c16
        have z7 : decide ((0 : Int) < (mE : Int)) = true := decide_eq_true (by omega)
        have z8 : decide ((0 : Int) ≤ (xI : Int)) = true := decide_eq_true (by omega)
        go_wp2_with (first
          | go_skip
          | (go_at_call 8; refine (HA.out _ (HM.out.below HB.out)).mono ?_; rintro e w6 ⟨rfl, hb⟩; have HB := Lib.hid (HB.out.trans (hb.mono HB.out.size)); have hbx := hbx.below hb hbx.lt; have c5 := (hbx.c 5).trans HV.out.1; have c6 := (hbx.c 6).trans HV.out.2.1; have c7 := (hbx.c 7).trans HV.out.2.2.1; have c8 := (hbx.c 8).trans HV.out.2.2.2.1; have c9 := (hbx.c 9).trans HV.out.2.2.2.2.1; have c10 := (hbx.c 10).trans HV.out.2.2.2.2.2.1; have c11 := (hbx.c 11).trans HV.out.2.2.2.2.2.2.1; have c12 := (hbx.c 12).trans HV.out.2.2.2.2.2.2.2.1; have c13 := (hbx.c 13).trans HV.out.2.2.2.2.2.2.2.2.1; have c14 := (hbx.c 14).trans HV.out.2.2.2.2.2.2.2.2.2.1; have c15 := (hbx.c 15).trans HV.out.2.2.2.2.2.2.2.2.2.2.1; have c16 := (hbx.c 16).trans HV.out.2.2.2.2.2.2.2.2.2.2.2; clear hb)
          | fail)
        go_ret
        exact ⟨rfl, HB.out⟩
      · have hg2 : (pr = 0 ∧ se = 0) ∨ (1 ≤ pr ∧ 1 ≤ se) := by rcases hgrp with h | ⟨h1, h2, _⟩; exact .inl h; exact .inr ⟨h1, h2⟩
        clear hgrp
        rcases hg2 with ⟨p1, p2⟩ | ⟨p1, p2⟩
        · skip
          have z1 : decide ((0 : Int) < (mS : Int)) = true := decide_eq_true (by omega)
          go_upto_region 7 with fail
          have z2 : decide ((0 : Int) < (mI : Int) + (xI : Int) + (xF : Int) + (I.size : Int)) = false := decide_eq_false (by omega)
          have z3 : decide ((0 : Int) < (I.size : Int)) = false := decide_eq_false (by omega)
          have z4 : decide ((0 : Int) < (pr : Int)) = false := decide_eq_false (by omega)
          have z5 : ((pr : Int) == 0) = true := by simp only [beq_iff_eq]; omega
          have z6 : ((se : Int) == 0) = true := by simp only [beq_iff_eq]; omega
          go_upto_region 9 with (first | go_skip | fail)
          clear c5 c6 c7 c8 c9 c10 c11 c12 c13 c14 c15 c16
          have z7 : decide ((0 : Int) < (mE : Int)) = false := decide_eq_false (by omega)
          have z8 : ((xI : Int) == 0) = true := by simp only [beq_iff_eq]; omega
          have z9 : decide ((0 : Int) ≤ (xI : Int)) = true := decide_eq_true (by omega)
          go_wp2_with (first
            | go_skip
            | (go_at_call 8; refine (HA.out _ (HM.out.below HB.out)).mono ?_; rintro e w6 ⟨rfl, hb⟩; have HB := Lib.hid (HB.out.trans (hb.mono HB.out.size)); have hbx := hbx.below hb hbx.lt; have c5 := (hbx.c 5).trans HV.out.1; have c6 := (hbx.c 6).trans HV.out.2.1; have c7 := (hbx.c 7).trans HV.out.2.2.1; have c8 := (hbx.c 8).trans HV.out.2.2.2.1; have c9 := (hbx.c 9).trans HV.out.2.2.2.2.1; have c10 := (hbx.c 10).trans HV.out.2.2.2.2.2.1; have c11 := (hbx.c 11).trans HV.out.2.2.2.2.2.2.1; have c12 := (hbx.c 12).trans HV.out.2.2.2.2.2.2.2.1; have c13 := (hbx.c 13).trans HV.out.2.2.2.2.2.2.2.2.1; have c14 := (hbx.c 14).trans HV.out.2.2.2.2.2.2.2.2.2.1; have c15 := (hbx.c 15).trans HV.out.2.2.2.2.2.2.2.2.2.2.1; have c16 := (hbx.c 16).trans HV.out.2.2.2.2.2.2.2.2.2.2.2; clear hb)
            | fail)
          go_ret
          exact ⟨rfl, HB.out⟩
        · skip
          have z1 : decide ((0 : Int) < (mS : Int)) = true := decide_eq_true (by omega)
          go_upto_region 7 with fail
          have z2 : decide ((0 : Int) < (mI : Int) + (xI : Int) + (xF : Int) + (I.size : Int)) = false := decide_eq_false (by omega)
          have z3 : decide ((0 : Int) < (I.size : Int)) = false := decide_eq_false (by omega)
          have z4 : decide ((0 : Int) < (pr : Int)) = true := decide_eq_true (by omega)
          have z5 : ((pr : Int) == 0) = false := by simp only [beq_eq_false_iff_ne, ne_eq]; omega
          have z6 : ((se : Int) == 0) = false := by simp only [beq_eq_false_iff_ne, ne_eq]; omega
          go_upto_region 9 with (first | go_skip | fail)
          clear c5 c6 c7 c8 c9 c10 c11 c12 c13 c14 c15 c16
          have z7 : decide ((0 : Int) < (mE : Int)) = false := decide_eq_false (by omega)
          have z8 : ((xI : Int) == 0) = true := by simp only [beq_iff_eq]; omega
          have z9 : decide ((0 : Int) ≤ (xI : Int)) = true := decide_eq_true (by omega)
          go_wp2_with (first
            | go_skip
            | (go_at_call 8; refine (HA.out _ (HM.out.below HB.out)).mono ?_; rintro e w6 ⟨rfl, hb⟩; have HB := Lib.hid (HB.out.trans (hb.mono HB.out.size)); have hbx := hbx.below hb hbx.lt; have c5 := (hbx.c 5).trans HV.out.1; have c6 := (hbx.c 6).trans HV.out.2.1; have c7 := (hbx.c 7).trans HV.out.2.2.1; have c8 := (hbx.c 8).trans HV.out.2.2.2.1; have c9 := (hbx.c 9).trans HV.out.2.2.2.2.1; have c10 := (hbx.c 10).trans HV.out.2.2.2.2.2.1; have c11 := (hbx.c 11).trans HV.out.2.2.2.2.2.2.1; have c12 := (hbx.c 12).trans HV.out.2.2.2.2.2.2.2.1; have c13 := (hbx.c 13).trans HV.out.2.2.2.2.2.2.2.2.1; have c14 := (hbx.c 14).trans HV.out.2.2.2.2.2.2.2.2.2.1; have c15 := (hbx.c 15).trans HV.out.2.2.2.2.2.2.2.2.2.2.1; have c16 := (hbx.c 16).trans HV.out.2.2.2.2.2.2.2.2.2.2.2; clear hb)
            | fail)
          go_ret
          exact ⟨rfl, HB.out⟩
    · rcases hexp with ⟨rfl, e1, e2⟩ | ⟨rfl, e1, rfl⟩
      · have hp0 : pr = 0 ∧ se = 0 := by rcases hgrp with h | ⟨_, _, h⟩; exact h; cases h
        have hi0 : inc.length = 0 := by rcases k5 with h | ⟨_, _, _, _, h⟩; rw [h]; rfl; cases h
        have hk4 : mI ≤ xI ∧ 0 < xI + xF := by rcases k4 with ⟨_, h⟩ | ⟨h, _⟩; exact h; cases h
        clear hgrp k4 k5 HI0
        obtain ⟨p1, p2⟩ := hp0
        obtain ⟨q1, q2⟩ := hk4
        have z1 : decide ((0 : Int) < (mS : Int)) = false := decide_eq_false (by omega)
        go_upto_region 7 with fail
        have z2 : decide ((0 : Int) < (I.size : Int)) = false := decide_eq_false (by omega)
        have z3 : decide ((0 : Int) < (pr : Int)) = false := decide_eq_false (by omega)
        have z4 : ((pr : Int) == 0) = true := by simp only [beq_iff_eq]; omega
        have z5 : ((se : Int) == 0) = true := by simp only [beq_iff_eq]; omega
        go_upto_region 9 with (first | go_skip | fail)
        clear c5 c6 c7 c8 c9 c10 c11 c12 c13 c14 c15 c16
        have z6 : decide ((0 : Int) < (mE : Int)) = true := decide_eq_true (by omega)
        have z7 : decide ((0 : Int) ≤ (xI : Int)) = true := decide_eq_true (by omega)
        have z8 : decide ((mI : Int) ≤ (xI : Int)) = true := decide_eq_true (by omega)
        have z9 : decide ((0 : Int) < (xI : Int) + (xF : Int)) = true := decide_eq_true (by omega)
        go_wp2_with (first
          | go_skip
          | (go_at_call 8; refine (HA.out _ (HM.out.below HB.out)).mono ?_; rintro e w6 ⟨rfl, hb⟩; have HB := Lib.hid (HB.out.trans (hb.mono HB.out.size)); have hbx := hbx.below hb hbx.lt; have c5 := (hbx.c 5).trans HV.out.1; have c6 := (hbx.c 6).trans HV.out.2.1; have c7 := (hbx.c 7).trans HV.out.2.2.1; have c8 := (hbx.c 8).trans HV.out.2.2.2.1; have c9 := (hbx.c 9).trans HV.out.2.2.2.2.1; have c10 := (hbx.c 10).trans HV.out.2.2.2.2.2.1; have c11 := (hbx.c 11).trans HV.out.2.2.2.2.2.2.1; have c12 := (hbx.c 12).trans HV.out.2.2.2.2.2.2.2.1; have c13 := (hbx.c 13).trans HV.out.2.2.2.2.2.2.2.2.1; have c14 := (hbx.c 14).trans HV.out.2.2.2.2.2.2.2.2.2.1; have c15 := (hbx.c 15).trans HV.out.2.2.2.2.2.2.2.2.2.2.1; have c16 := (hbx.c 16).trans HV.out.2.2.2.2.2.2.2.2.2.2.2; clear hb)
          | fail)
        go_ret
        exact ⟨rfl, HB.out⟩
      · have hg2 : (pr = 0 ∧ se = 0) ∨ (1 ≤ pr ∧ 1 ≤ se) := by rcases hgrp with h | ⟨h1, h2, _⟩; exact .inl h; exact .inr ⟨h1, h2⟩
        have hk4 : xI = 0 := by rcases k4 with ⟨h, _⟩ | ⟨_, h⟩; cases h; exact h
        have hi : inc.length = 0 ∨ (0 < inc.length ∧ mF = xF ∧ inc.head? ≠ some 48) := by
          rcases k5 with h | ⟨_, _, h1, h2, _⟩
          · rw [h]; exact .inl rfl
          · rcases Nat.eq_zero_or_pos inc.length with h0 | h0
            · exact .inl h0
            · exact .inr ⟨h0, h2, h1⟩
        clear hgrp k4 k5
        rcases hi with hi | ⟨hi, hmf, hhd⟩
        · clear HI0
          rcases hg2 with ⟨p1, p2⟩ | ⟨p1, p2⟩
          · skip
            have z1 : decide ((0 : Int) < (mS : Int)) = false := decide_eq_false (by omega)
            go_upto_region 7 with fail
            have z2 : decide ((0 : Int) < (I.size : Int)) = false := decide_eq_false (by omega)
            have z3 : decide ((0 : Int) < (pr : Int)) = false := decide_eq_false (by omega)
            have z4 : ((pr : Int) == 0) = true := by simp only [beq_iff_eq]; omega
            have z5 : ((se : Int) == 0) = true := by simp only [beq_iff_eq]; omega
            go_upto_region 9 with (first | go_skip | fail)
            clear c5 c6 c7 c8 c9 c10 c11 c12 c13 c14 c15 c16
            have z6 : decide ((0 : Int) < (mE : Int)) = false := decide_eq_false (by omega)
            have z7 : ((xI : Int) == 0) = true := by simp only [beq_iff_eq]; omega
            have z8 : decide ((0 : Int) ≤ (xI : Int)) = true := decide_eq_true (by omega)
            go_wp2_with (first
              | go_skip
              | (go_at_call 8; refine (HA.out _ (HM.out.below HB.out)).mono ?_; rintro e w6 ⟨rfl, hb⟩; have HB := Lib.hid (HB.out.trans (hb.mono HB.out.size)); have hbx := hbx.below hb hbx.lt; have c5 := (hbx.c 5).trans HV.out.1; have c6 := (hbx.c 6).trans HV.out.2.1; have c7 := (hbx.c 7).trans HV.out.2.2.1; have c8 := (hbx.c 8).trans HV.out.2.2.2.1; have c9 := (hbx.c 9).trans HV.out.2.2.2.2.1; have c10 := (hbx.c 10).trans HV.out.2.2.2.2.2.1; have c11 := (hbx.c 11).trans HV.out.2.2.2.2.2.2.1; have c12 := (hbx.c 12).trans HV.out.2.2.2.2.2.2.2.1; have c13 := (hbx.c 13).trans HV.out.2.2.2.2.2.2.2.2.1; have c14 := (hbx.c 14).trans HV.out.2.2.2.2.2.2.2.2.2.1; have c15 := (hbx.c 15).trans HV.out.2.2.2.2.2.2.2.2.2.2.1; have c16 := (hbx.c 16).trans HV.out.2.2.2.2.2.2.2.2.2.2.2; clear hb)
              | fail)
            go_ret
            exact ⟨rfl, HB.out⟩
          · skip
            have z1 : decide ((0 : Int) < (mS : Int)) = false := decide_eq_false (by omega)
            go_upto_region 7 with fail
            have z2 : decide ((0 : Int) < (I.size : Int)) = false := decide_eq_false (by omega)
            have z3 : decide ((0 : Int) < (pr : Int)) = true := decide_eq_true (by omega)
            have z4 : ((pr : Int) == 0) = false := by simp only [beq_eq_false_iff_ne, ne_eq]; omega
            have z5 : ((se : Int) == 0) = false := by simp only [beq_eq_false_iff_ne, ne_eq]; omega
            go_upto_region 9 with (first | go_skip | fail)
            clear c5 c6 c7 c8 c9 c10 c11 c12 c13 c14 c15 c16
            have z6 : decide ((0 : Int) < (mE : Int)) = false := decide_eq_false (by omega)
            have z7 : ((xI : Int) == 0) = true := by simp only [beq_iff_eq]; omega
            have z8 : decide ((0 : Int) ≤ (xI : Int)) = true := decide_eq_true (by omega)
            go_wp2_with (first
              | go_skip
              | (go_at_call 8; refine (HA.out _ (HM.out.below HB.out)).mono ?_; rintro e w6 ⟨rfl, hb⟩; have HB := Lib.hid (HB.out.trans (hb.mono HB.out.size)); have hbx := hbx.below hb hbx.lt; have c5 := (hbx.c 5).trans HV.out.1; have c6 := (hbx.c 6).trans HV.out.2.1; have c7 := (hbx.c 7).trans HV.out.2.2.1; have c8 := (hbx.c 8).trans HV.out.2.2.2.1; have c9 := (hbx.c 9).trans HV.out.2.2.2.2.1; have c10 := (hbx.c 10).trans HV.out.2.2.2.2.2.1; have c11 := (hbx.c 11).trans HV.out.2.2.2.2.2.2.1; have c12 := (hbx.c 12).trans HV.out.2.2.2.2.2.2.2.1; have c13 := (hbx.c 13).trans HV.out.2.2.2.2.2.2.2.2.1; have c14 := (hbx.c 14).trans HV.out.2.2.2.2.2.2.2.2.2.1; have c15 := (hbx.c 15).trans HV.out.2.2.2.2.2.2.2.2.2.2.1; have c16 := (hbx.c 16).trans HV.out.2.2.2.2.2.2.2.2.2.2.2; clear hb)
              | fail)
            go_ret
            exact ⟨rfl, HB.out⟩
        · have HI0 := Lib.hid (fun h => HI0.out h hhd)
          clear hhd
          rcases hg2 with ⟨p1, p2⟩ | ⟨p1, p2⟩
          · skip
            have z1 : decide ((0 : Int) < (mS : Int)) = false := decide_eq_false (by omega)
            go_upto_region 7 with fail
            have z2 : decide ((0 : Int) < (I.size : Int)) = true := decide_eq_true (by omega)
            have z3 : decide ((mF : Int) < (xF : Int)) = false := decide_eq_false (by omega)
            have hI0 : 0 < I.size := by omega
            have z4 : (((I[0].toNat : Nat) : Int) == 48) = false := HI0.out hI0
            have z5 : decide ((0 : Int) < (pr : Int)) = false := decide_eq_false (by omega)
            have z6 : ((pr : Int) == 0) = true := by simp only [beq_iff_eq]; omega
            have z7 : ((se : Int) == 0) = true := by simp only [beq_iff_eq]; omega
            go_upto_region 9 with (first | go_skip | fail)
            clear c5 c6 c7 c8 c9 c10 c11 c12 c13 c14 c15 c16
            have z8 : decide ((0 : Int) < (mE : Int)) = false := decide_eq_false (by omega)
            have z9 : ((xI : Int) == 0) = true := by simp only [beq_iff_eq]; omega
            have z10 : decide ((0 : Int) ≤ (xI : Int)) = true := decide_eq_true (by omega)
            go_wp2_with (first
              | go_skip
              | (go_at_call 8; refine (HA.out _ (HM.out.below HB.out)).mono ?_; rintro e w6 ⟨rfl, hb⟩; have HB := Lib.hid (HB.out.trans (hb.mono HB.out.size)); have hbx := hbx.below hb hbx.lt; have c5 := (hbx.c 5).trans HV.out.1; have c6 := (hbx.c 6).trans HV.out.2.1; have c7 := (hbx.c 7).trans HV.out.2.2.1; have c8 := (hbx.c 8).trans HV.out.2.2.2.1; have c9 := (hbx.c 9).trans HV.out.2.2.2.2.1; have c10 := (hbx.c 10).trans HV.out.2.2.2.2.2.1; have c11 := (hbx.c 11).trans HV.out.2.2.2.2.2.2.1; have c12 := (hbx.c 12).trans HV.out.2.2.2.2.2.2.2.1; have c13 := (hbx.c 13).trans HV.out.2.2.2.2.2.2.2.2.1; have c14 := (hbx.c 14).trans HV.out.2.2.2.2.2.2.2.2.2.1; have c15 := (hbx.c 15).trans HV.out.2.2.2.2.2.2.2.2.2.2.1; have c16 := (hbx.c 16).trans HV.out.2.2.2.2.2.2.2.2.2.2.2; clear hb)
              | fail)
            go_ret
            exact ⟨rfl, HB.out⟩
          · skip
            have z1 : decide ((0 : Int) < (mS : Int)) = false := decide_eq_false (by omega)
            go_upto_region 7 with fail
            have z2 : decide ((0 : Int) < (I.size : Int)) = true := decide_eq_true (by omega)
            have z3 : decide ((mF : Int) < (xF : Int)) = false := decide_eq_false (by omega)
            have hI0 : 0 < I.size := by omega
            have z4 : (((I[0].toNat : Nat) : Int) == 48) = false := HI0.out hI0
            have z5 : decide ((0 : Int) < (pr : Int)) = true := decide_eq_true (by omega)
            have z6 : ((pr : Int) == 0) = false := by simp only [beq_eq_false_iff_ne, ne_eq]; omega
            have z7 : ((se : Int) == 0) = false := by simp only [beq_eq_false_iff_ne, ne_eq]; omega
            go_upto_region 9 with (first | go_skip | fail)
            clear c5 c6 c7 c8 c9 c10 c11 c12 c13 c14 c15 c16
            have z8 : decide ((0 : Int) < (mE : Int)) = false := decide_eq_false (by omega)
            have z9 : ((xI : Int) == 0) = true := by simp only [beq_iff_eq]; omega
            have z10 : decide ((0 : Int) ≤ (xI : Int)) = true := decide_eq_true (by omega)
            go_wp2_with (first
              | go_skip
              | (go_at_call 8; refine (HA.out _ (HM.out.below HB.out)).mono ?_; rintro e w6 ⟨rfl, hb⟩; have HB := Lib.hid (HB.out.trans (hb.mono HB.out.size)); have hbx := hbx.below hb hbx.lt; have c5 := (hbx.c 5).trans HV.out.1; have c6 := (hbx.c 6).trans HV.out.2.1; have c7 := (hbx.c 7).trans HV.out.2.2.1; have c8 := (hbx.c 8).trans HV.out.2.2.2.1; have c9 := (hbx.c 9).trans HV.out.2.2.2.2.1; have c10 := (hbx.c 10).trans HV.out.2.2.2.2.2.1; have c11 := (hbx.c 11).trans HV.out.2.2.2.2.2.2.1; have c12 := (hbx.c 12).trans HV.out.2.2.2.2.2.2.2.1; have c13 := (hbx.c 13).trans HV.out.2.2.2.2.2.2.2.2.1; have c14 := (hbx.c 14).trans HV.out.2.2.2.2.2.2.2.2.2.1; have c15 := (hbx.c 15).trans HV.out.2.2.2.2.2.2.2.2.2.2.1; have c16 := (hbx.c 16).trans HV.out.2.2.2.2.2.2.2.2.2.2.2; clear hb)
              | fail)
            go_ret
            exact ⟨rfl, HB.out⟩
  · obtain ⟨j, rfl⟩ : ∃ j, e = j + 1 := ⟨e - 1, by omega⟩
    have hne : (((j + 1 : Nat) : Int) != 0) = true := by simp only [bne_iff_ne, ne_eq]; omega
    obtain rfl : p = {} := by
      rcases HE.out with h | h
      · cases h
      · exact h
    have HSP : Hid (∀ W, Calls Tryd.prog 10 #[.agg (patN {}), .agg #[.slice none 0 0, .slice none 0 0, .bool false, .slice none 0 0, .slice none 0 0, .int .i64 0, .int .i64 0, .int .i64 0, .int .i64 0, .int .i64 0, .int .i64 0, .int .i64 0, .int .i64 0, .string ⟨#[]⟩, .bool false, .int .i64 0, .bool false, .int .i64 0, .int .i32 0, .int .i64 0]] W fun e w' => e = .returned (.bool true) ∧ Below W.heap.size W w') := Lib.hid (fun W => sameP_c {} W)
    have hsz : (Tryd.prog.info? 24).map (·.size) = some (patN {}).size := pat_size ..
    clear HN HE
    generalize patN {} = PV at *
    go_wp2_with (first
      | go_skip
      | (go_at_call 8; refine (HA.out _ (HM.out.below HB.out)).mono ?_; rintro e w2 ⟨rfl, hb⟩; have HB := Lib.hid (HB.out.trans (hb.mono HB.out.size)); have hbx := hbx.below hb hbx.lt; clear hb)
      | (refine wpList_load_row_g 24 (Operand.tmp 3) rfl a rfl 24 PV (0, 0) _ hbx Tryd.underlying24 rfl hsz rfl rfl rfl rfl ?_)
      | (go_at_call 10; refine (HSP.out _).mono ?_; rintro e w7 ⟨rfl, hb⟩; have HB := Lib.hid (HB.out.trans (hb.mono HB.out.size)); clear hb)
      | fail)
    go_ret
    exact ⟨rfl, HB.out⟩
end Go.Proofs.YtogipbgfnjbakaaDoor
