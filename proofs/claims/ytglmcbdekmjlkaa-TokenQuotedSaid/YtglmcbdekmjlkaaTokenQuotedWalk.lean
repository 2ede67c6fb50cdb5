/-
  TokenQuoted: the walk.
-/
import Derived.Test.YtglmcbdekmjlkaaTJ
set_option maxRecDepth 100000
namespace Go.Proofs.Ytglmcbdekmjlkaa
open Go.RowKit
theorem toks_quoted {zs : List Int} (hz : zs.all isZ = true) (h0 : 0 < zs.length) (h1 : zs.getD 0 0 ≠ 39) (hn : zs.length ≤ 400) :
    ∃ ts, toks (bts (stz (encs (nats (39 :: (dbl zs ++ [39])))))) = (ts, 0, 0) ∧ ts.map er = zs.map fun r => (r, true) := by
  have hall : (39 :: (dbl zs ++ [39])).all isZ = true := by
    rw [List.all_cons, List.all_append, dbl_isZ, hz]; rfl
  have hc := allC_nats hall
  have hne : zs.all (fun r => decide (r = 39)) = false := by
    cases zs with
    | nil => simp at h0
    | cons r zs =>
      have : r ≠ 39 := h1
      simp [this]
  have hk := sck_row hz hne (rest := []) (by simp)
  rw [sck_nil, List.append_nil] at hk
  obtain ⟨e1, e2⟩ := scn_sck (nats (39 :: (dbl zs ++ [39]))) 0 (-1)
  rw [show decide (0 ≤ (-1 : Int)) = false from rfl, show nats (39 :: (dbl zs ++ [39])) = 39 :: (nats (dbl zs) ++ [39]) by rw [nats_cons, nats_append]; rfl, hk] at e1 e2
  rw [show nats (39 :: (dbl zs ++ [39])) = 39 :: (nats (dbl zs) ++ [39]) by rw [nats_cons, nats_append]; rfl] at hc ⊢
  refine ⟨_, ?_, e1⟩
  rw [bts_stz (encs_lt hc), toks_right hc (by simpa using e2)]
  have := congrArg List.length e1
  simp only [List.length_map] at this
  omega
theorem er_tk {ts : List Tok} {zs : List Int} (h : ts.map er = zs.map fun r => (r, true)) (j : Nat) (hj : j < zs.length) : (tk ts j).1 = zs.getD j 0 ∧ (tk ts j).2.1 = true := by
  have hl := congrArg List.length h
  rw [List.length_map, List.length_map] at hl
  have hjt : j < ts.length := by omega
  have : (ts.map er)[j]? = (zs.map fun r => (r, true))[j]? := by rw [h]
  rw [List.getElem?_map, List.getElem?_map, List.getElem?_eq_getElem hjt, List.getElem?_eq_getElem hj] at this
  simp only [Option.map_some, Option.some.injEq, er, Prod.mk.injEq] at this
  rw [tk_eq hjt, List.getD, List.getElem?_eq_getElem hj]
  exact this
set_option maxHeartbeats 4000000 in
theorem walk_tokenQuoted (A : Option Addr) (n c : Nat) (zs : List Int) (w : World) (h : Rns w A n zs) :
    Calls Try.prog 6 #[.slice A n c] w fun e w' => e = .returned (.bool true) ∧ Below w.heap.size w w' := by
  have HL := Lib.hid h.len
  have hn := h.2.1
  have H := Lib.hid h
  clear h
  by_cases hbig : 100 < n
  · have g1 : decide ((100 : Int) < (n : Int)) = true := decide_eq_true (by omega)
    go_enter Try.func6, Try.ntmps6
    go_wp2_with fail
    refine (answers13_c _).mono ?_
    rintro e w1 ⟨rfl, hb1⟩
    have HB_1 := Lib.hid hb1
    clear hb1
    go_wp2
    go_ret
    exact ⟨rfl, HB_1.out⟩
  · have g1 : decide ((100 : Int) < (n : Int)) = false := decide_eq_false (by omega)
    by_cases hzero : n = 0
    · subst hzero
      go_enter Try.func6, Try.ntmps6
      go_wp2_with fail
      refine (answers13_c _).mono ?_
      rintro e w1 ⟨rfl, hb1⟩
      have HB_1 := Lib.hid hb1
      clear hb1
      go_wp2
      go_ret
      exact ⟨rfl, HB_1.out⟩
    · have g2 : ((n : Int) == 0) = false := by simpa using hzero
      generalize hg : w.heap.size = g at *
      have Hg := Lib.hid hg
      clear hg
      have B0 := Lib.hid (show Below g w w by rw [← Hg.out]; exact Below.refl _ _)
      go_enter Try.func6, Try.ntmps6
      go_wp2
      go_loopw [3, 4] (fun sv iv wr => ∃ (k : Nat), k ≤ n ∧ iv = .int .i64 (k : Int) ∧ (zs.take k).all isZ = true ∧ sv = .string (stz (encs (nats (39 :: dbl (zs.take k))))) ∧ Below g w wr) (fun _ iv _ => n - (intOf iv).toNat)
      case atStart => exact ⟨0, Nat.zero_le _, rfl, rfl, rfl, B0.out⟩
      case round =>
        obtain ⟨k, hk, rfl, hok0, rfl, hb0⟩ := hrel
        have HOK := Lib.hid hok0
        have HB := Lib.hid hb0
        have hgs : g ≤ wr.heap.size := by have := hb0.size; have := Hg.out; omega
        have HR := Lib.hid (H.out.below (w' := wr) (by rw [Hg.out]; exact hb0))
        have hsz : (stz (encs (nats (39 :: dbl (zs.take k))))).size ≤ 1000 := by
          have h1 := encs_nats_len (39 :: dbl (zs.take k))
          have h2 := dbl_len (zs.take k)
          rw [List.length_take] at h2
          simp only [List.length_cons] at h1
          omega
        clear hok0 hb0
        by_cases hlt : k < n
        · obtain ⟨ad, rfl, hab, hc, hr1, hr2⟩ := HR.out.at_ hlt
          have HST := Lib.hid (take_getD_succ zs (k := k) (by rw [HL.out]; exact hlt))
          generalize zs.getD k 0 = r at *
          have CZ := Lib.hid (refScalar_c r wr)
          rcases hz : isZ r with _ | _
          · rw [hz] at CZ
            go_wp2_with fail
            refine CZ.out.mono ?_
            rintro e w0 ⟨rfl, rfl⟩
            go_wp2_with fail
            refine (answers13_c _).mono ?_
            rintro e w1 ⟨rfl, hb1⟩
            have HB1 := Lib.hid (HB.out.trans (hb1.mono hgs))
            clear hb1
            go_wp2
            go_ret
            exact ⟨rfl, HB1.out⟩
          · rw [hz] at CZ
            have HZ := Lib.hid hz
            have hnn := (isZ_iff.1 hz).1
            obtain ⟨x, rfl⟩ : ∃ x : Nat, r = (x : Int) := ⟨r.toNat, by omega⟩
            have HXC := Lib.hid (show isC x = true by rw [← isZ_nat]; exact HZ.out)
            clear hz hnn
            go_wp2_with fail
            refine CZ.out.mono ?_
            rintro e w0 ⟨rfl, rfl⟩
            go_wp2_with fail
            refine (refBytes_c x _ HXC.out).mono ?_
            rintro e w1 ⟨A1, m1, c1, rfl, ho1, hm1, hb1⟩
            have HB1 := Lib.hid (HB.out.trans (hb1.mono hgs))
            have hcv := conv_own_stz ho1 (encN_lt HXC.out)
            have hs1 : (stz (encN x)).size ≤ 4 := by rw [stz_size]; exact encN_le x
            have hc1 : w1.cell? (ad.add k) = some (.int .i32 (x : Int)) := (hb1.cell (p := ad.add k) (by rw [block_of_add]; exact hab)).trans hc
            clear hb1 ho1 hm1 hc
            by_cases h39 : x = 39
            · subst h39
              rw [show ((39 : Nat) : Int) = 39 from rfl] at hc1 HST HZ
              go_wp2
              go_roundw
              case rel =>
                refine ⟨k + 1, by omega, by go_num, ?_, ?_, HB1.out⟩
                · rw [HST.out, List.all_append, HOK.out]; simp [HZ.out]
                · rw [HST.out, dbl_append, dbl_one, if_pos rfl, ← List.cons_append, nats_append, encs_append, stz_append, ByteArray.append_assoc]; rfl
              case measure => simp [intOf]; omega
            · have hx39 : ((x : Int) == 39) = false := by simp; omega
              have HX := Lib.hid (show ¬ ((x : Int) = 39) by omega)
              go_wp2
              go_roundw
              case rel =>
                refine ⟨k + 1, by omega, by go_num, ?_, ?_, HB1.out⟩
                · rw [HST.out, List.all_append, HOK.out]; simp [HZ.out]
                · rw [HST.out, dbl_append, dbl_one, if_neg HX.out, ← List.cons_append, nats_append, encs_append, stz_append]
                  show _ = Value.string (_ ++ stz (encs [x]))
                  rw [encs_one]
              case measure => simp [intOf]; omega
        · have hkn' : k = n := by omega
          subst hkn'
          rw [List.take_of_length_le (by rw [HL.out]; exact Nat.le_refl _)] at HOK hsz
          rw [List.take_of_length_le (by rw [HL.out]; exact Nat.le_refl _)]
          obtain ⟨ad, rfl, hab, hc, hr1, hr2⟩ := HR.out.at_ (show 0 < k by omega)
          rw [show ad.add 0 = ad by simp [Addr.add]] at hc
          obtain ⟨Z0, hZ0⟩ : ∃ Z0, zs.getD 0 0 = Z0 := ⟨_, rfl⟩
          rw [hZ0] at hc
          have HZ0 := Lib.hid (fun h : Z0 ≠ 39 => show zs.getD 0 0 ≠ 39 by rw [hZ0]; exact h)
          clear hZ0
          by_cases h39 : Z0 = 39
          · subst h39
            go_wp2_with fail
            refine (answers13_c _).mono ?_
            rintro e w1 ⟨rfl, hb1⟩
            have HB1 := Lib.hid (HB.out.trans (hb1.mono hgs))
            clear hb1
            go_wp2
            go_ret
            exact ⟨rfl, HB1.out⟩
          · have hb39 : (Z0 == 39) = false := by simpa using h39
            obtain ⟨ts, hT, her⟩ := toks_quoted HOK.out (by rw [HL.out]; omega) (HZ0.out h39) (by rw [HL.out]; omega)
            have hcc : stz (encs (nats (39 :: dbl zs))) ++ ⟨#[39]⟩ = stz (encs (nats (39 :: (dbl zs ++ [39])))) := by
              rw [← List.cons_append, nats_append, encs_append, stz_append]; rfl
            have C1 := Lib.hid (fun W => tokScan_c (stz (encs (nats (39 :: dbl zs))) ++ ⟨#[39]⟩) W (by rw [ByteArray.size_append]; show _ + 1 ≤ _; omega))
            rw [hcc, hT, ← hcc] at C1
            dsimp only at C1
            have hel := congrArg List.length her
            rw [List.length_map, List.length_map] at hel
            have HEL := Lib.hid hel
            have HER := Lib.hid (fun j (hj : j < k) => er_tk her j (by rw [HL.out]; exact hj))
            clear hT her hcc h39 hel
            go_wp2_with fail
            refine (C1.out _).mono ?_
            rintro e w1 ⟨Aa, ma, ca, rfl, hoa, hbx1⟩
            have hb1 := hbx1.out
            have Ta := Lib.hid hoa.out.tks
            have La := Lib.hid hoa.out.len
            clear hoa hbx1
            have HR_1 := Lib.hid (HR.out.below hb1)
            clear HR
            have HB_1 := Lib.hid hb1
            clear hb1
            have ba2 := (Below.refl _ w1).alloc (Nat.le_refl _) (.cells #[(.int .i64 0), (.int .i64 0)] 26)
            have HR_2 := Lib.hid (HR_1.out.below ba2)
            clear HR_1
            have Ta_1 := Lib.hid (Ta.out.below ba2)
            clear Ta
            have HB_2 := Lib.hid (HB_1.out.trans (ba2.mono HB_1.out.size))
            clear HB_1
            clear ba2
            have Fa_0 := Lib.hid (FB.new w1 (.int .i64 0) (.int .i64 0))
            obtain rfl : k = ma := by rw [← La.out, HEL.out, HL.out]
            have f0 := Fa_0.out.c0
            go_wp2
            have HBW := Lib.hid (HB.out.trans (HB_2.out.mono hgs))
            have hgw : g ≤ (w1.alloc (.cells #[(.int .i64 0), (.int .i64 0)] 26)).heap.size := by have := HBW.out.size; have := Hg.out; omega
            clear HB_2 HOK hsz f0 La HEL hb39 hc
            generalize (w1.alloc (.cells #[(.int .i64 0), (.int .i64 0)] 26)) = W2 at *
            go_loopw [7] (fun iv wv => ∃ (j i : Nat), j ≤ k ∧ iv = .int .i64 (j : Int) ∧ wv = W2.drewN i) (fun iv _ => k - (intOf iv).toNat)
            case atStart => exact ⟨0, 0, Nat.zero_le _, rfl, rfl⟩
            case round =>
              obtain ⟨j, i, hj, rfl, rfl⟩ := hrel
              by_cases hjk : j < k
              · obtain ⟨ad1, e1, _, y0, _, _⟩ := HR_2.out.at_ hjk
                cases e1
                obtain ⟨ad', rfl, _, x0, x1, _, _⟩ := Ta_1.out.at_ hjk
                rw [(HER.out j hjk).1] at x0
                rw [(HER.out j hjk).2] at x1
                generalize zs.getD j 0 = X at *
                go_wp2
                go_quiet (fail)
                go_wp2
                go_roundw
                case rel => exact ⟨j + 1, _, by omega, by go_num, rfl⟩
                case measure => simp [intOf]; omega
              · go_wp2_with fail
                refine (answers13_c _).mono ?_
                rintro e wz ⟨rfl, hbz⟩
                have HZ := Lib.hid (HBW.out.trans ((((Below.refl _ _).of_drewN i).trans hbz).mono hgw))
                clear hbz
                go_wp2
                go_ret
                exact ⟨rfl, HZ.out⟩
end Go.Proofs.Ytglmcbdekmjlkaa
