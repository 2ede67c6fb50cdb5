/-
  TH: the document's Same, Row and Print; answers.
-/
import Derived.Test.YtbmgdheljnbmpaaTF
import Derived.Test.YtbmgdheljnbmpaaTG
set_option maxRecDepth 100000
namespace Go.Proofs.Ytbmgdheljnbmpaa
open Go.RowKit
theorem er_ext {ts us : List Tok} (hl : ts.length = us.length) (h : ∀ j, j < ts.length → er (tk ts j) = er (tk us j)) : ts.map er = us.map er := by
  apply List.ext_getElem (by rw [List.length_map, List.length_map, hl])
  intro i h1 h2
  rw [List.length_map] at h1
  have := h i h1
  rw [tk_eq h1, tk_eq (by omega)] at this
  rw [List.getElem_map, List.getElem_map, this]
theorem er_at {ts us : List Tok} (h : ts.map er = us.map er) (j : Nat) : er (tk ts j) = er (tk us j) := by
  have hl := congrArg List.length h
  rw [List.length_map, List.length_map] at hl
  rcases Nat.lt_or_ge j ts.length with hj | hj
  · have : (ts.map er)[j]? = (us.map er)[j]? := by rw [h]
    rw [List.getElem?_map, List.getElem?_map, List.getElem?_eq_getElem hj, List.getElem?_eq_getElem (by omega)] at this
    rw [tk_eq hj, tk_eq (by omega)]
    simpa using this
  · rw [tk, tk, List.getD, List.getD, List.getElem?_eq_none hj, List.getElem?_eq_none (by omega)]
set_option maxHeartbeats 1000000 in
theorem sameT_c (A A' : Option Addr) (n c n' c' : Nat) (ts us : List Tok) (w : World) (h : Tks w A n ts) (h' : Tks w A' n' us) :
    Calls Try.prog 16 #[.slice A n c, .slice A' n' c'] w fun e w' => e = .returned (.bool (decide (ts.map er = us.map er))) ∧ Below w.heap.size w w' := by
  have hn := h.2.1
  have hn' := h'.2.1
  have hl := Lib.hid h.len
  have hl' := Lib.hid h'.len
  have H := Lib.hid h
  have H' := Lib.hid h'
  clear h h'
  by_cases hne : n = n'
  · subst hne
    go_enter Try.func16, Try.ntmps16
    go_wp2
    go_loopw [5] (fun i wr => ∃ k m : Nat, k ≤ n ∧ i = .int .i64 k ∧ wr = w.drewN m ∧ ∀ j, j < k → er (tk ts j) = er (tk us j)) (fun i _ => n - (intOf i).toNat)
    case atStart => exact ⟨0, 0, Nat.zero_le _, rfl, rfl, fun j hj => absurd hj (by omega)⟩
    case round =>
      obtain ⟨k, m, hk, rfl, rfl, hall0⟩ := hrel
      have hall := Lib.hid hall0
      clear hall0
      by_cases hlt : k < n
      · obtain ⟨ad, rfl, hb, c0, c1, _, _⟩ := H.out.at_ hlt
        obtain ⟨ad', rfl, hb', d0, d1, _, _⟩ := H'.out.at_ hlt
        have HE : Hid (er (tk ts k) = er (tk us k) ↔ ((tk ts k).1 = (tk us k).1 ∧ (tk ts k).2.1 = (tk us k).2.1)) := Lib.hid (by simp [er])
        generalize (tk ts k).1 = X at c0 HE
        generalize (tk ts k).2.1 = P at c1 HE
        generalize (tk us k).1 = Y at d0 HE
        generalize (tk us k).2.1 = Q at d1 HE
        by_cases hXY : X = Y
        · have g1 : (X != Y) = false := by simpa using hXY
          by_cases hPQ : P = Q
          · have g2 : (!(P == Q)) = false := by simpa using hPQ
            have HE2 := Lib.hid (HE.out.2 ⟨hXY, hPQ⟩)
            clear hXY hPQ HE
            go_wp2
            go_quiet (fail)
            go_wp2
            go_roundw
            case rel =>
              refine ⟨k + 1, _, by omega, by go_num, rfl, fun j hj => ?_⟩
              rcases Nat.lt_or_ge j k with hjk | hjk
              · exact hall.out j hjk
              · obtain rfl : j = k := by omega
                exact HE2.out
            case measure => simp [intOf]; omega
          · have g2 : (!(P == Q)) = true := by simpa using hPQ
            have HE2 : Hid (¬ er (tk ts k) = er (tk us k)) := Lib.hid fun e => hPQ (HE.out.1 e).2
            clear hXY hPQ HE
            go_wp2
            go_quiet (fail)
            go_wp2
            go_ret
            exact ⟨congrArg _ (congrArg _ (decide_eq_false fun e => HE2.out (er_at e k)).symm), ((Below.refl _ _).of_drewN _).of_drewN _⟩
        · have g1 : (X != Y) = true := by simpa using hXY
          have HE2 : Hid (¬ er (tk ts k) = er (tk us k)) := Lib.hid fun e => hXY (HE.out.1 e).1
          clear hXY HE
          go_wp2
          go_quiet (fail)
          go_wp2
          go_ret
          exact ⟨congrArg _ (congrArg _ (decide_eq_false fun e => HE2.out (er_at e k)).symm), ((Below.refl _ _).of_drewN _).of_drewN _⟩
      · go_wp2
        go_ret
        refine ⟨?_, (Below.refl _ _).of_drewN _⟩
        have : decide (ts.map er = us.map er) = true := decide_eq_true (er_ext (by rw [hl.out, hl'.out]) fun j hj => hall.out j (by rw [hl.out] at hj; omega))
        rw [this]; rfl
  · have hb : (((n : Nat) : Int) != (n' : Int)) = true := by simp; omega
    go_enter Try.func16, Try.ntmps16
    go_wp2
    go_ret
    refine ⟨?_, Below.refl _ _⟩
    have : decide (ts.map er = us.map er) = false := by
      simp only [decide_eq_false_iff_not]
      intro e; apply hne
      have := congrArg List.length e
      rw [List.length_map, List.length_map, hl.out, hl'.out] at this
      exact this
    rw [this]; rfl
set_option maxHeartbeats 1000000 in
theorem refRow_c (A : Option Addr) (n c : Nat) (zs : List Int) (w : World) (h : Rns w A n zs) (hn : n ≤ 1000000000) (hz : zs.all isZ = true) : Calls Try.prog 28 #[.slice A n c] w fun e w' =>
    e = .returned (.string (stz (encs (nats (inQ zs))))) ∧ Below w.heap.size w w' := by
  have HL := Lib.hid h.len
  have H := Lib.hid h
  have HZ := Lib.hid hz
  clear h hz
  generalize hg : w.heap.size = g at *
  have Hg := Lib.hid hg
  clear hg
  have B0 := Lib.hid (show Below g w w by rw [← Hg.out]; exact Below.refl _ _)
  go_enter Try.func28, Try.ntmps28
  go_wp2
  go_loopw [3, 4, 5] (fun sv av iv wr => ∃ (k : Nat) (bs : List Nat), k ≤ n ∧ iv = .int .i64 (k : Int) ∧ bs = encs (nats (dbl (zs.take k))) ∧ sv = .string (stz bs) ∧ av = .bool ((zs.take k).all (fun r => decide (r = 39))) ∧ Below g w wr) (fun _ _ iv _ => n - (intOf iv).toNat)
  case atStart => exact ⟨0, [], Nat.zero_le _, rfl, rfl, rfl, rfl, B0.out⟩
  case round =>
    obtain ⟨k, bs, hk, rfl, hbs0, rfl, rfl, hb0⟩ := hrel
    have HBS := Lib.hid hbs0
    have HB := Lib.hid hb0
    have hgs : g ≤ wr.heap.size := by have := hb0.size; have := Hg.out; omega
    have HR := Lib.hid (H.out.below (w' := wr) (by rw [Hg.out]; exact hb0))
    have hsz : (stz bs).size ≤ 8 * k := by
      rw [stz_size, hbs0]
      have h1 := encs_len4 (nats (dbl (zs.take k)))
      rw [nats_length] at h1
      have h2 := dbl_len (zs.take k)
      rw [List.length_take] at h2
      omega
    clear hbs0 hb0
    by_cases hlt : k < n
    · obtain ⟨ad, rfl, _, hc, _, _⟩ := HR.out.at_ hlt
      have hzk : isZ (zs.getD k 0) = true := List.all_eq_true.1 HZ.out _ (getD_mem (by rw [HL.out]; exact hlt))
      have HST := Lib.hid (take_getD_succ zs (k := k) (by rw [HL.out]; exact hlt))
      have hnn := (isZ_iff.1 hzk).1
      obtain ⟨x, hx⟩ : ∃ x : Nat, zs.getD k 0 = (x : Int) := ⟨(zs.getD k 0).toNat, by omega⟩
      rw [hx] at hc hzk HST
      rw [isZ_nat] at hzk
      have HXC := Lib.hid hzk
      clear hx hzk hnn
      go_wp2_with fail
      refine (refBytes_c x _ HXC.out).mono ?_
      rintro e w1 ⟨A1, m1, c1, rfl, ho1, hm1, hb1⟩
      have HB1 := Lib.hid (HB.out.trans (hb1.mono hgs))
      have HR1 := Lib.hid (HR.out.below hb1)
      have hm14 : m1 ≤ 4 := by rw [hm1]; exact encN_le x
      have hcv := conv_own_stz ho1 (encN_lt HXC.out)
      have hs1 : (stz (encN x)).size ≤ 4 := by rw [stz_size]; exact encN_le x
      have hc1 : w1.cell? (ad.add k) = some (.int .i32 (x : Int)) := (hb1.cell (p := ad.add k) (by rw [block_of_add]; assumption)).trans hc
      clear hb1 ho1 hc hm1
      by_cases hx : x = 39
      · subst hx
        rw [show ((39 : Nat) : Int) = 39 from rfl] at hc1 HST
        go_wp2
        go_roundw
        case rel =>
          refine ⟨k + 1, bs ++ encN 39 ++ [39], by omega, by go_num, ?_, ?_, ?_, HB1.out⟩
          · rw [HST.out, dbl_append, dbl_one, if_pos rfl, nats_append, encs_append, ← HBS.out, List.append_assoc]; rfl
          · rw [stz_append, stz_append]; rfl
          · rw [HST.out, List.all_append]; simp
        case measure => simp [intOf]; omega
      · have hx39 : ((x : Int) == 39) = false := by simp; omega
        have hx40 : ¬ ((x : Int) = 39) := by omega
        have HX := Lib.hid hx40
        clear hx40
        go_wp2
        go_roundw
        case rel =>
          refine ⟨k + 1, bs ++ encN x, by omega, by go_num, ?_, ?_, ?_, HB1.out⟩
          · rw [HST.out, dbl_append, dbl_one, if_neg HX.out, nats_append, encs_append, ← HBS.out]
            show _ = bs ++ encs [x]
            rw [encs_one]
          · rw [stz_append]
          · rw [HST.out, List.all_append]; simp [HX.out]
        case measure => simp [intOf]; omega
    · have hT : zs.take k = zs := List.take_of_length_le (by rw [HL.out]; omega)
      rw [hT] at HBS
      rw [hT]
      clear hT
      have hbb := HBS.out
      rcases ha : zs.all (fun r => decide (r = 39)) with _ | _
      · have HQ := Lib.hid (show stz (encs (nats (inQ zs))) = ⟨#[39]⟩ ++ stz bs ++ ⟨#[39]⟩ by
          rw [inQ, ha, hbb]
          show stz (encs (39 :: nats (dbl zs ++ [39]))) = _
          rw [encs_cons, nats_append, encs_append, stz_append, stz_append, ← ByteArray.append_assoc]; rfl)
        clear ha hbb
        go_wp2
        go_ret
        rw [HQ.out]
        exact ⟨rfl, HB.out⟩
      · have HQ := Lib.hid (show stz (encs (nats (inQ zs))) = stz bs by rw [inQ, ha, hbb]; rfl)
        clear ha hbb
        go_wp2
        go_ret
        rw [HQ.out]
        exact ⟨rfl, HB.out⟩
end Go.Proofs.Ytbmgdheljnbmpaa
