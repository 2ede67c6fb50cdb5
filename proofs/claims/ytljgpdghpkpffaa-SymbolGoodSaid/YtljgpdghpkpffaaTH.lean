/-
  TH: the document's Same, Row and Print; answers.
-/
import Derived.Test.YtljgpdghpkpffaaMB
import Derived.Test.YtljgpdghpkpffaaTG
set_option maxRecDepth 100000
namespace Go.Proofs.Ytljgpdghpkpffaa
open Go.RowKit
theorem er_ext {ts us : List Tok} (hl : ts.length = us.length) (h : ∀ j, j < ts.length → er (tk ts j) = er (tk us j)) : ts.map er = us.map er := by
  apply List.ext_getElem (by rw [List.length_map, List.length_map, hl])
  intro i h1 h2
  rw [List.length_map] at h1
  have := h i h1
  rw [tk_eq h1, tk_eq (by omega)] at this
  rw [List.getElem_map, List.getElem_map, this]
theorem er_at {ts us : List Tok} (h : ts.map er = us.map er) (j : Nat) : er (tk ts j) = er (tk us j) := by
  have hl := congrArg List.length h
  rw [List.length_map, List.length_map] at hl
  rcases Nat.lt_or_ge j ts.length with hj | hj
  · have : (ts.map er)[j]? = (us.map er)[j]? := by rw [h]
    rw [List.getElem?_map, List.getElem?_map, List.getElem?_eq_getElem hj, List.getElem?_eq_getElem (by omega)] at this
    rw [tk_eq hj, tk_eq (by omega)]
    simpa using this
  · rw [tk, tk, List.getD, List.getD, List.getElem?_eq_none hj, List.getElem?_eq_none (by omega)]
set_option maxHeartbeats 1000000 in
theorem refRow_c (A : Option Addr) (n c : Nat) (zs : List Int) (w : World) (h : Rns w A n zs) (hn : n ≤ 1000000000) (hz : zs.all isZ = true) : Calls Try.prog 36 #[.slice A n c] w fun e w' =>
    e = .returned (.string (stz (encs (nats (inQ zs))))) ∧ Below w.heap.size w w' := by
  have HL := Lib.hid h.len
  have H := Lib.hid h
  have HZ := Lib.hid hz
  clear h hz
  generalize hg : w.heap.size = g at *
  have Hg := Lib.hid hg
  clear hg
  have B0 := Lib.hid (show Below g w w by rw [← Hg.out]; exact Below.refl _ _)
  go_enter Try.func36, Try.ntmps36
  go_wp2
  go_loopw [3, 4, 5] (fun sv av iv wr => ∃ (k : Nat) (bs : List Nat), k ≤ n ∧ iv = .int .i64 (k : Int) ∧ bs = encs (nats (dbl (zs.take k))) ∧ sv = .string (stz bs) ∧ av = .bool ((zs.take k).all (fun r => decide (r = 39))) ∧ Below g w wr) (fun _ _ iv _ => n - (intOf iv).toNat)
  case atStart => exact ⟨0, [], Nat.zero_le _, rfl, rfl, rfl, rfl, B0.out⟩
  case round =>
    obtain ⟨k, bs, hk, rfl, hbs0, rfl, rfl, hb0⟩ := hrel
    have HBS := Lib.hid hbs0
    have HB := Lib.hid hb0
    have hgs : g ≤ wr.heap.size := by have := hb0.size; have := Hg.out; omega
    have HR := Lib.hid (H.out.below (w' := wr) (by rw [Hg.out]; exact hb0))
    have hsz : (stz bs).size ≤ 8 * k := by
      rw [stz_size, hbs0]
      have h1 := encs_len4 (nats (dbl (zs.take k)))
      rw [nats_length] at h1
      have h2 := dbl_len (zs.take k)
      rw [List.length_take] at h2
      omega
    clear hbs0 hb0
    by_cases hlt : k < n
    · obtain ⟨ad, rfl, _, hc, _, _⟩ := HR.out.at_ hlt
      have hzk : isZ (zs.getD k 0) = true := List.all_eq_true.1 HZ.out _ (getD_mem (by rw [HL.out]; exact hlt))
      have HST := Lib.hid (take_getD_succ zs (k := k) (by rw [HL.out]; exact hlt))
      have hnn := (isZ_iff.1 hzk).1
      obtain ⟨x, hx⟩ : ∃ x : Nat, zs.getD k 0 = (x : Int) := ⟨(zs.getD k 0).toNat, by omega⟩
      rw [hx] at hc hzk HST
      rw [isZ_nat] at hzk
      have HXC := Lib.hid hzk
      clear hx hzk hnn
      go_wp2_with fail
      refine (refBytes_c x _ HXC.out).mono ?_
      rintro e w1 ⟨A1, m1, c1, rfl, ho1, hm1, hb1⟩
      have HB1 := Lib.hid (HB.out.trans (hb1.mono hgs))
      have HR1 := Lib.hid (HR.out.below hb1)
      have hm14 : m1 ≤ 4 := by rw [hm1]; exact encN_le x
      have hcv := conv_own_stz ho1 (encN_lt HXC.out)
      have hs1 : (stz (encN x)).size ≤ 4 := by rw [stz_size]; exact encN_le x
      have hc1 : w1.cell? (ad.add k) = some (.int .i32 (x : Int)) := (hb1.cell (p := ad.add k) (by rw [block_of_add]; assumption)).trans hc
      clear hb1 ho1 hc hm1
      by_cases hx : x = 39
      · subst hx
        rw [show ((39 : Nat) : Int) = 39 from rfl] at hc1 HST
        go_wp2
        go_roundw
        case rel =>
          refine ⟨k + 1, bs ++ encN 39 ++ [39], by omega, by go_num, ?_, ?_, ?_, HB1.out⟩
          · rw [HST.out, dbl_append, dbl_one, if_pos rfl, nats_append, encs_append, ← HBS.out, List.append_assoc]; rfl
          · rw [stz_append, stz_append]; rfl
          · rw [HST.out, List.all_append]; simp
        case measure => simp [intOf]; omega
      · have hx39 : ((x : Int) == 39) = false := by simp; omega
        have hx40 : ¬ ((x : Int) = 39) := by omega
        have HX := Lib.hid hx40
        clear hx40
        go_wp2
        go_roundw
        case rel =>
          refine ⟨k + 1, bs ++ encN x, by omega, by go_num, ?_, ?_, ?_, HB1.out⟩
          · rw [HST.out, dbl_append, dbl_one, if_neg HX.out, nats_append, encs_append, ← HBS.out]
            show _ = bs ++ encs [x]
            rw [encs_one]
          · rw [stz_append]
          · rw [HST.out, List.all_append]; simp [HX.out]
        case measure => simp [intOf]; omega
    · have hT : zs.take k = zs := List.take_of_length_le (by rw [HL.out]; omega)
      rw [hT] at HBS
      rw [hT]
      clear hT
      have hbb := HBS.out
      rcases ha : zs.all (fun r => decide (r = 39)) with _ | _
      · have HQ := Lib.hid (show stz (encs (nats (inQ zs))) = ⟨#[39]⟩ ++ stz bs ++ ⟨#[39]⟩ by
          rw [inQ, ha, hbb]
          show stz (encs (39 :: nats (dbl zs ++ [39]))) = _
          rw [encs_cons, nats_append, encs_append, stz_append, stz_append, ← ByteArray.append_assoc]; rfl)
        clear ha hbb
        go_wp2
        go_ret
        rw [HQ.out]
        exact ⟨rfl, HB.out⟩
      · have HQ := Lib.hid (show stz (encs (nats (inQ zs))) = stz bs by rw [inQ, ha, hbb]; rfl)
        clear ha hbb
        go_wp2
        go_ret
        rw [HQ.out]
        exact ⟨rfl, HB.out⟩
end Go.Proofs.Ytljgpdghpkpffaa
