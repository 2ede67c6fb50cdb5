/-
  TokenPlain: the walk.
-/
import Derived.Test.YtglmcbdekmjlkaaTJ
set_option maxRecDepth 100000
namespace Go.Proofs.Ytglmcbdekmjlkaa
open Go.RowKit
/-- Plain tokens, one behind the other. -/
def plainT : List Nat → Nat → List Tok
  | [], _ => []
  | c :: cs, a => ((c : Int), false, (a : Int)) :: plainT cs (a + (encN c).length)
theorem scn_plain {cs : List Nat} : ∀ (a : Nat), 39 ∉ cs → scn cs a (-1) = (plainT cs a, -1) := by
  induction cs with
  | nil => intro a _; rfl
  | cons c cs ih =>
    intro a h
    rw [List.mem_cons, not_or] at h
    rw [scn_else (Ne.symm h.1), ih _ h.2]; rfl
theorem plainT_len (cs : List Nat) : ∀ a, (plainT cs a).length = cs.length := by
  induction cs with
  | nil => intro a; rfl
  | cons c cs ih => intro a; rw [plainT, List.length_cons, List.length_cons, ih]
theorem plainT_tk (cs : List Nat) : ∀ (a k : Nat), k < cs.length → tk (plainT cs a) k = (((cs.getD k 0 : Nat) : Int), false, ((a + (encs (cs.take k)).length : Nat) : Int)) := by
  induction cs with
  | nil => intro a k h; simp at h
  | cons c cs ih =>
    intro a k h
    cases k with
    | zero => rfl
    | succ k =>
      rw [plainT, List.take_succ_cons, encs_cons, List.length_append, ← Nat.add_assoc]
      exact ih _ k (by simpa using h)
theorem prt_plain (cs : List Nat) : ∀ a, prt (plainT cs a) [] = ints cs := by
  induction cs with
  | nil => intro a; rfl
  | cons c cs ih =>
    intro a
    rw [plainT, prt_p rfl, ih]; rfl
theorem may_plain {cs : List Nat} : ∀ a, allC cs = true → 39 ∉ cs → (plainT cs a).all mayT = true := by
  induction cs with
  | nil => intro a _ _; rfl
  | cons c cs ih =>
    intro a h h'
    obtain ⟨h1, h2⟩ := allC_cons.1 h
    rw [List.mem_cons, not_or] at h'
    rw [plainT, List.all_cons, ih _ h2 h'.2, mayT, isZ_nat, h1]
    simp only [Bool.true_and, Bool.false_or, Bool.and_true, Bool.not_eq_true', decide_eq_false_iff_not]
    omega
/-- A code point, but no '. -/
def okZ (r : Int) : Bool := isZ r && !decide (r = 39)
theorem okZ_all {zs : List Int} (h : zs.all okZ = true) : zs.all isZ = true ∧ allC (nats zs) = true ∧ 39 ∉ nats zs := by
  have h1 : zs.all isZ = true := List.all_eq_true.2 fun z hz => by
    have := List.all_eq_true.1 h z hz
    simp only [okZ, Bool.and_eq_true] at this
    exact this.1
  refine ⟨h1, allC_nats h1, fun hm => ?_⟩
  obtain ⟨z, hz, e⟩ := List.mem_map.1 hm
  have := List.all_eq_true.1 h z hz
  simp only [okZ, Bool.and_eq_true, Bool.not_eq_true', decide_eq_false_iff_not] at this
  exact this.2 ((isZ_39 this.1).1 e)
theorem toks_plain {zs : List Int} (h : zs.all okZ = true) (hn : zs.length ≤ 400) :
    toks (bts (stz (encs (nats zs)))) = (plainT (nats zs) 0, 0, 0) ∧ prtZ (plainT (nats zs) 0) = stz (encs (nats zs)) := by
  obtain ⟨h1, h2, h3⟩ := okZ_all h
  have hs := scn_plain 0 h3
  constructor
  · rw [bts_stz (encs_lt h2), toks_right h2 (by rw [hs]; show (-1 : Int) < 0; decide) (by rw [hs, plainT_len, nats_length]; exact hn), hs]
  · rw [(prtZ_may (may_plain 0 h2 h3)).1, prt_plain, nats_ints]
set_option maxHeartbeats 4000000 in
theorem walk_tokenPlain (A : Option Addr) (n c : Nat) (zs : List Int) (w : World) (h : Rns w A n zs) :
    Calls Try.prog 7 #[.slice A n c] w fun e w' => e = .returned (.bool true) ∧ Below w.heap.size w w' := by
  have HL := Lib.hid h.len
  have hn := h.2.1
  have H := Lib.hid h
  clear h
  generalize hg : w.heap.size = g at *
  have Hg := Lib.hid hg
  clear hg
  have B0 := Lib.hid (show Below g w w by rw [← Hg.out]; exact Below.refl _ _)
  go_enter Try.func7, Try.ntmps7
  go_wp2
  go_loopw [3, 4] (fun sv iv wr => ∃ (k : Nat), k ≤ n ∧ iv = .int .i64 (k : Int) ∧ (zs.take k).all okZ = true ∧ sv = .string (stz (encs (nats (zs.take k)))) ∧ (k = 0 ∨ n ≤ 400) ∧ Below g w wr) (fun _ iv _ => n - (intOf iv).toNat)
  case atStart => exact ⟨0, Nat.zero_le _, rfl, rfl, rfl, .inl rfl, B0.out⟩
  case round =>
    obtain ⟨k, hk, rfl, hok0, rfl, hkn, hb0⟩ := hrel
    have HOK := Lib.hid hok0
    have HB := Lib.hid hb0
    have hgs : g ≤ wr.heap.size := by have := hb0.size; have := Hg.out; omega
    have HR := Lib.hid (H.out.below (w' := wr) (by rw [Hg.out]; exact hb0))
    have hsz : (stz (encs (nats (zs.take k)))).size ≤ 1600 := by
      have h1 := encs_nats_len (zs.take k)
      rw [List.length_take] at h1
      omega
    clear hok0 hb0
    by_cases hlt : k < n
    · obtain ⟨ad, rfl, hab, hc, hr1, hr2⟩ := HR.out.at_ hlt
      by_cases h400 : 400 < n
      · have g1 : decide ((400 : Int) < (n : Int)) = true := decide_eq_true (by omega)
        go_wp2_with fail
        refine (answers13_c _).mono ?_
        rintro e w1 ⟨rfl, hb1⟩
        have HB1 := Lib.hid (HB.out.trans (hb1.mono hgs))
        clear hb1
        go_wp2
        go_ret
        exact ⟨rfl, HB1.out⟩
      · have g1 : decide ((400 : Int) < (n : Int)) = false := decide_eq_false (by omega)
        have HST := Lib.hid (take_getD_succ zs (k := k) (by rw [HL.out]; exact hlt))
        generalize zs.getD k 0 = r at *
        have CZ := Lib.hid (refScalar_c r wr)
        rcases hz : isZ r with _ | _
        · rw [hz] at CZ
          go_wp2_with fail
          refine CZ.out.mono ?_
          rintro e w0 ⟨rfl, rfl⟩
          go_wp2_with fail
          refine (answers13_c _).mono ?_
          rintro e w1 ⟨rfl, hb1⟩
          have HB1 := Lib.hid (HB.out.trans (hb1.mono hgs))
          clear hb1
          go_wp2
          go_ret
          exact ⟨rfl, HB1.out⟩
        · rw [hz] at CZ
          have HZ := Lib.hid hz
          clear hz
          by_cases h39 : r = 39
          · subst h39
            go_wp2_with fail
            refine CZ.out.mono ?_
            rintro e w0 ⟨rfl, rfl⟩
            go_wp2_with fail
            refine (answers13_c _).mono ?_
            rintro e w1 ⟨rfl, hb1⟩
            have HB1 := Lib.hid (HB.out.trans (hb1.mono hgs))
            clear hb1
            go_wp2
            go_ret
            exact ⟨rfl, HB1.out⟩
          · have hnn := (isZ_iff.1 HZ.out).1
            obtain ⟨x, rfl⟩ : ∃ x : Nat, r = (x : Int) := ⟨r.toNat, by omega⟩
            have HXC := Lib.hid (show isC x = true by rw [← isZ_nat]; exact HZ.out)
            have HX39 := Lib.hid h39
            have g2 : ((x : Int) == 39) = false := by simpa using h39
            clear hnn h39
            go_wp2_with fail
            refine CZ.out.mono ?_
            rintro e w0 ⟨rfl, rfl⟩
            go_wp2_with fail
            refine (refBytes_c x _ HXC.out).mono ?_
            rintro e w1 ⟨A1, m1, c1, rfl, ho1, hm1, hb1⟩
            have HB1 := Lib.hid (HB.out.trans (hb1.mono hgs))
            have hcv := conv_own_stz ho1 (encN_lt HXC.out)
            have hs1 : (stz (encN x)).size ≤ 4 := by rw [stz_size]; exact encN_le x
            clear hb1 ho1 hm1
            go_wp2
            go_roundw
            case rel =>
              refine ⟨k + 1, by omega, by go_num, ?_, ?_, .inr (by omega), HB1.out⟩
              · rw [HST.out, List.all_append, HOK.out]
                simp [okZ, HZ.out, HX39.out]
              · rw [HST.out, nats_append, encs_append, stz_append]
                show _ = Value.string (_ ++ stz (encs [x]))
                rw [encs_one]
            case measure => simp [intOf]; omega
    · have hkn' : k = n := by omega
      subst hkn'
      have h400 : k ≤ 400 := by omega
      rw [List.take_of_length_le (by rw [HL.out]; exact Nat.le_refl _)] at HOK hsz
      rw [List.take_of_length_le (by rw [HL.out]; exact Nat.le_refl _)]
      obtain ⟨hT, hP⟩ := toks_plain HOK.out (by rw [HL.out]; exact h400)
      have HP := Lib.hid hP
      have C1 := Lib.hid (fun W => tokScan_c (stz (encs (nats zs))) W (by omega))
      rw [hT] at C1
      dsimp only at C1
      have HTK := Lib.hid (fun j (hj : j < k) => plainT_tk (nats zs) 0 j (by rw [nats_length, HL.out]; exact hj))
      have HPL := Lib.hid (plainT_len (nats zs) 0)
      generalize plainT (nats zs) 0 = ts at *
      clear hT hP
      go_wp2_with fail
      refine (C1.out _).mono ?_
      rintro e w1 ⟨Aa, ma, ca, rfl, hoa, hbx1⟩
      have hb1 := hbx1.out
      have Ta := Lib.hid hoa.out.tks
      have La := Lib.hid hoa.out.len
      clear hoa hbx1
      have HR_1 := Lib.hid (HR.out.below hb1)
      clear HR
      have HB_1 := Lib.hid hb1
      clear hb1
      have ba2 := (Below.refl _ w1).alloc (Nat.le_refl _) (.cells #[(.int .i64 0), (.int .i64 0)] 26)
      have HR_2 := Lib.hid (HR_1.out.below ba2)
      clear HR_1
      have Ta_1 := Lib.hid (Ta.out.below ba2)
      clear Ta
      have HB_2 := Lib.hid (HB_1.out.trans (ba2.mono HB_1.out.size))
      clear HB_1
      clear ba2
      have Fa_0 := Lib.hid (FB.new w1 (.int .i64 0) (.int .i64 0))
      obtain rfl : k = ma := by rw [← La.out, HPL.out, nats_length, HL.out]
      have f0 := Fa_0.out.c0
      go_wp2
      have HBW := Lib.hid (HB.out.trans (HB_2.out.mono hgs))
      have HAC := Lib.hid (okZ_all HOK.out).2.1
      have HAZ := Lib.hid (okZ_all HOK.out).1
      clear HB_2 HOK hsz f0 La HPL
      generalize (w1.alloc (.cells #[(.int .i64 0), (.int .i64 0)] 26)) = W2 at *
      have BQ := Lib.hid (Below.refl W2.heap.size W2)
      generalize hq2 : W2.heap.size = q at *
      have Hq := Lib.hid hq2
      clear hq2
      go_loopw [7, 8] (fun av iv wv => ∃ (j : Nat), j ≤ k ∧ iv = .int .i64 (j : Int) ∧ av = .int .i64 (((encs ((nats zs).take j)).length : Nat) : Int) ∧ Below q W2 wv) (fun _ iv _ => k - (intOf iv).toNat)
      case atStart => exact ⟨0, Nat.zero_le _, rfl, rfl, BQ.out⟩
      case round =>
        obtain ⟨j, hj, rfl, rfl, hbw⟩ := hrel
        have HBV := Lib.hid hbw
        have hqv : q ≤ wr.heap.size := by have := hbw.size; have := Hq.out; omega
        have HRV := Lib.hid (HR_2.out.below (w' := wr) (by rw [Hq.out]; exact hbw))
        have HTV := Lib.hid (Ta_1.out.below (w' := wr) (by rw [Hq.out]; exact hbw))
        clear hbw
        by_cases hjk : j < k
        · obtain ⟨ad, rfl, _, y0, _, _⟩ := HRV.out.at_ hjk
          obtain ⟨ad', rfl, _, x0, x1, x2, _⟩ := HTV.out.at_ hjk
          rw [HTK.out j hjk] at x0 x1 x2
          dsimp only at x0 x1 x2
          rw [Nat.zero_add] at x2
          have hzj : isZ (zs.getD j 0) = true := List.all_eq_true.1 HAZ.out _ (getD_mem (by rw [HL.out]; exact hjk))
          have hxe : zs.getD j 0 = (((nats zs).getD j 0 : Nat) : Int) := by
            have h1 := ints_getD (nats zs) j
            rw [ints_nats HAZ.out] at h1
            exact h1
          rw [hxe] at y0 hzj
          rw [isZ_nat] at hzj
          have HXC := Lib.hid hzj
          have hjl : j < (nats zs).length := by rw [nats_length, HL.out]; exact hjk
          have HST := Lib.hid (show (nats zs).take (j + 1) = (nats zs).take j ++ [(nats zs).getD j 0] by
            rw [List.take_succ_eq_append_getElem hjl, List.getD, List.getElem?_eq_getElem hjl]; rfl)
          have hal : (encs ((nats zs).take j)).length ≤ 1600 := by
            have h1 := encs_len4 ((nats zs).take j)
            rw [List.length_take] at h1
            omega
          clear hxe hzj hjl
          generalize (nats zs).getD j 0 = x at *
          have HST2 := Lib.hid (show (encs ((nats zs).take (j + 1))).length = (encs ((nats zs).take j)).length + (encN x).length by rw [HST.out, encs_append, encs_one, List.length_append])
          generalize (encs ((nats zs).take j)).length = a at *
          go_wp2
          go_quiet (fail)
          go_wp2_with fail
          refine (refBytes_c x _ HXC.out).mono ?_
          rintro e w3 ⟨A1, m1, c1, rfl, _, hm1, hb3⟩
          have hm4 : m1 ≤ 4 := by rw [hm1]; exact encN_le x
          have HM := Lib.hid hm1
          have HB3 := Lib.hid (HBV.out.trans ((((Below.refl _ _).of_drewN _).trans hb3).mono hqv))
          clear hb3 hm1
          go_wp2
          go_roundw
          case rel =>
            refine ⟨j + 1, by omega, by go_num, ?_, HB3.out⟩
            rw [HST2.out, ← HM.out]
            go_num
          case measure => simp [intOf]; omega
        · go_wp2_with fail
          refine (answers13_c _).mono ?_
          rintro e w4 ⟨rfl, hb4⟩
          have HP4 := Lib.hid (tokPrint_c Aa k ca ts w4 (HTV.out.below hb4) (by omega))
          rw [HP.out] at HP4
          have HB4 := Lib.hid (HBV.out.trans (hb4.mono hqv))
          have hq4 : q ≤ w4.heap.size := by have := hb4.size; omega
          clear hb4
          go_wp2_with fail
          refine HP4.out.mono ?_
          rintro e w5 ⟨rfl, hb5⟩
          have HB5 := Lib.hid (HBW.out.trans ((HB4.out.trans (hb5.out.mono hq4)).mono (show g ≤ q by have := HBW.out.size; have := Hq.out; have := Hg.out; omega)))
          clear hb5
          go_wp2
          go_ret
          exact ⟨rfl, HB5.out⟩
end Go.Proofs.Ytglmcbdekmjlkaa
