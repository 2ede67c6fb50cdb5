/-
  UtfCuts: the walk.
-/
import Derived.Test.YtibmohnpgpbjoaaUE
set_option maxRecDepth 100000
namespace Go.Proofs.Ytibmohnpgpbjoaa
open Go.RowKit
/-- Does one of the first j code points begin at k? -/
def cutB (cs : List Nat) (k j : Nat) : Bool := (List.range j).any fun i => decide ((encs (cs.take i)).length = k)
theorem cutB_succ (cs : List Nat) (k j : Nat) : cutB cs k (j + 1) = (cutB cs k j || decide ((encs (cs.take j)).length = k)) := by
  simp [cutB, List.range_succ]
theorem cutB_all (cs : List Nat) (k : Nat) : cutB cs k (cs.length + 1) = true ↔ ∃ j, j ≤ cs.length ∧ k = (encs (cs.take j)).length := by
  simp only [cutB, List.any_eq_true, List.mem_range, decide_eq_true_eq]
  exact ⟨fun ⟨j, h1, h2⟩ => ⟨j, by omega, h2.symm⟩, fun ⟨j, h1, h2⟩ => ⟨j, by omega, h2.symm⟩⟩
theorem encs_take_succ {cs : List Nat} {j : Nat} (h : j < cs.length) : (encs (cs.take (j + 1))).length = (encs (cs.take j)).length + (encN (cs.getD j 0)).length := by
  rw [List.take_succ_eq_append_getElem h, encs_append, encs_one, List.length_append, List.getD, List.getElem?_eq_getElem h]
  rfl
set_option maxHeartbeats 4000000 in
theorem walk_utfCuts (s : ByteArray) (at_ : Int) (w : World) (hs : s.size ≤ 1048576) (ha : 0 ≤ at_ ∧ at_ ≤ 65535) :
    Calls Try.prog 7 #[.string s, .int .u16 at_] w fun e w' => e = .returned (.bool true) ∧ Below w.heap.size w w' := by
  have hc1 := Lib.hid (refRunes_c s w (by omega))
  by_cases hr : rst (bts s) = []
  · rw [badZ_right hr, (rgt_true hr).2] at hc1
    by_cases h5 : 500 < s.size
    · clear hr
      go_enter Try.func7, Try.ntmps7
      go_wp2_with fail
      refine hc1.out.mono ?_
      rintro e w1 ⟨A1, m1, c1, rfl, ho1, hb1⟩
      have B1 := Lib.hid hb1
      clear ho1 hb1
      go_wp2_with fail
      refine (answers11_c _).mono ?_
      rintro e w3 ⟨rfl, hb3⟩
      have B3 := Lib.hid (B1.out.trans (hb3.mono B1.out.size))
      clear hb3
      go_wp2
      go_ret
      exact ⟨rfl, B3.out⟩
    · have HR := Lib.hid hr
      have HS := Lib.hid (scan_right (bts_lt s) hr)
      have HA := Lib.hid (scan_spec (bts s) (bts_lt s)).2.1
      have hcl := cps_len (bts s) (bts_lt s)
      rw [bts_length] at hcl
      clear hr
      generalize hcs : cps (bts s) = cs at *
      clear hcs
      obtain ⟨k, hk⟩ : ∃ k : Nat, at_ % ((s.size : Int) + 1) = (k : Int) := ⟨(at_ % ((s.size : Int) + 1)).toNat, (Int.toNat_of_nonneg (Int.emod_nonneg at_ (by omega))).symm⟩
      have hks : k ≤ s.size := by
        have := Int.emod_lt_of_pos at_ (show (0 : Int) < (s.size : Int) + 1 by omega)
        omega
      have hk2 : at_.tmod ((s.size : Int) + 1) = (k : Int) := by rw [Int.tmod_eq_emod_of_nonneg (by omega)]; exact hk
      have hkl : k ≤ (encs cs).length := by rw [← HS.out, bts_length]; exact hks
      have HQ := Lib.hid (cut_iff HA.out hkl)
      clear hkl
      have hc3 := Lib.hid (fun W => utfBad_c (s.extract 0 k) W (by rw [ByteArray.size_extract]; omega))
      have hc4 := Lib.hid (fun W => utfBad_c (s.extract k s.size) W (by rw [ByteArray.size_extract]; omega))
      rw [bts_upto, HS.out] at hc3
      rw [bts_from, HS.out] at hc4
      have hall : ∀ j, (encs (cs.take j)).length ≤ 4 * cs.length := fun j => Nat.le_trans (encs_len4 _) (by rw [List.length_take]; omega)
      have HALL := Lib.hid hall
      clear hall
      go_enter Try.func7, Try.ntmps7
      go_wp2_with fail
      refine hc1.out.mono ?_
      rintro e w1 ⟨A1, m1, c1, rfl, ho1, hb1⟩
      have hm1 : m1 = cs.length := by rw [← ho1.len, ints_length]
      subst hm1
      have B1 := Lib.hid hb1
      have R1 := Lib.hid ho1.rns
      clear ho1 hb1 hc1
      go_wp2
      go_loopw [8, 9, 10] (fun bv nv iv wr => ∃ (j N : Nat), j ≤ cs.length + 1 ∧ bv = .bool (cutB cs k j) ∧ nv = .int .i64 (N : Int) ∧ iv = .int .i64 (j : Int) ∧ N = (encs (cs.take j)).length ∧ Below w.heap.size w wr ∧ Rns wr A1 cs.length (ints cs)) (fun _ _ iv _ => cs.length + 1 - (intOf iv).toNat)
      case atStart => exact ⟨0, 0, by omega, rfl, rfl, rfl, rfl, B1.out, R1.out⟩
      case round =>
        obtain ⟨j, N, hj, rfl, rfl, rfl, hN0, hb0, hr0⟩ := hrel
        have HN := Lib.hid hN0
        have HB := Lib.hid hb0
        have HRR := Lib.hid hr0
        have hNl : N ≤ 4 * cs.length := by rw [hN0]; exact HALL.out j
        have HCB := Lib.hid (cutB_succ cs k j)
        rw [← hN0] at HCB
        clear hN0 hb0 hr0
        by_cases hlt : j < cs.length
        · obtain ⟨ad, rfl, _, hcell, _, _⟩ := HRR.out.at_ (k := j) hlt
          rw [ints_getD] at hcell
          have HST := Lib.hid (encs_take_succ hlt)
          rw [← HN.out] at HST
          have HXC := Lib.hid (show isC (cs.getD j 0) = true by
            rw [List.getD, List.getElem?_eq_getElem hlt]
            exact List.all_eq_true.1 HA.out _ (List.getElem_mem hlt))
          generalize cs.getD j 0 = x at *
          have hxp := encN_pos x
          have hx4 := encN_le x
          rcases hcb : cutB cs k j with _ | _
          · rw [hcb, Bool.false_or] at HCB
            clear hcb
            have HCI := Lib.hid (show ((N : Int) == (k : Int)) = decide (N = k) by rw [Bool.eq_iff_iff, beq_iff_eq, decide_eq_true_eq]; omega)
            go_wp2_with fail
            refine (refBytes_c x _ HXC.out).mono ?_
            rintro e w2 ⟨A2, m2, c2, rfl, _, hm2, hb2⟩
            have B2 := Lib.hid (HB.out.trans (hb2.mono HB.out.size))
            have R2 := Lib.hid (HRR.out.below hb2)
            have hm4 : m2 ≤ 4 := by omega
            have HM2 := Lib.hid hm2
            clear hb2 hm2
            go_wp2
            go_roundw
            case rel =>
              refine ⟨j + 1, N + m2, by omega, ?_, by go_num, by go_num, by rw [HST.out, HM2.out], B2.out, R2.out⟩
              rw [HCB.out, ← HCI.out]
            case measure => simp [intOf]; omega
          · rw [hcb, Bool.true_or] at HCB
            clear hcb
            go_wp2_with fail
            refine (refBytes_c x _ HXC.out).mono ?_
            rintro e w2 ⟨A2, m2, c2, rfl, _, hm2, hb2⟩
            have B2 := Lib.hid (HB.out.trans (hb2.mono HB.out.size))
            have R2 := Lib.hid (HRR.out.below hb2)
            have hm4 : m2 ≤ 4 := by omega
            have HM2 := Lib.hid hm2
            clear hb2 hm2
            go_wp2
            go_roundw
            case rel => exact ⟨j + 1, N + m2, by omega, by rw [HCB.out], by go_num, by go_num, by rw [HST.out, HM2.out], B2.out, R2.out⟩
            case measure => simp [intOf]; omega
        · by_cases hje : j = cs.length
          · have HST := Lib.hid (show N = (encs (cs.take (j + 1))).length by rw [HN.out, List.take_of_length_le (by omega), List.take_of_length_le (by omega)])
            rcases hcb : cutB cs k j with _ | _
            · rw [hcb, Bool.false_or] at HCB
              clear hcb
              have HCI := Lib.hid (show ((N : Int) == (k : Int)) = decide (N = k) by rw [Bool.eq_iff_iff, beq_iff_eq, decide_eq_true_eq]; omega)
              go_wp2
              go_roundw
              case rel =>
                refine ⟨j + 1, N, by omega, ?_, rfl, by go_num, HST.out, HB.out, HRR.out⟩
                rw [HCB.out, ← HCI.out]
              case measure => simp [intOf]; omega
            · rw [hcb, Bool.true_or] at HCB
              clear hcb
              go_wp2
              go_roundw
              case rel => exact ⟨j + 1, N, by omega, by rw [HCB.out], rfl, by go_num, HST.out, HB.out, HRR.out⟩
              case measure => simp [intOf]; omega
          · obtain rfl : j = cs.length + 1 := by omega
            have hcb := cutB_all cs k
            rw [← HQ.out.1, ← badZ_neg] at hcb
            have hcb2 := cutB_all cs k
            rw [← HQ.out.2, ← badZ_neg] at hcb2
            generalize badZ ((encs cs).take k) = Z1 at *
            generalize badZ ((encs cs).drop k) = Z2 at *
            go_wp2_with fail
            refine (answers11_c _).mono ?_
            rintro e w3 ⟨rfl, hb3⟩
            have B3 := Lib.hid (HB.out.trans (hb3.mono HB.out.size))
            clear hb3
            go_wp2_with fail
            refine (hc3.out _).mono ?_
            rintro e w4 ⟨rfl, hb4⟩
            have B4 := Lib.hid (B3.out.trans (hb4.mono B3.out.size))
            clear hb4
            rcases hcc : cutB cs k (cs.length + 1) with _ | _
            · rw [hcc] at hcb hcb2
              have hz1 : ¬ Z1 < 0 := fun h => by simp [h] at hcb
              have hz2 : ¬ Z2 < 0 := fun h => by simp [h] at hcb2
              clear hcb hcb2 hcc
              go_wp2_with fail
              refine (hc4.out _).mono ?_
              rintro e w5 ⟨rfl, hb5⟩
              have B5 := Lib.hid (B4.out.trans (hb5.mono B4.out.size))
              clear hb5
              go_wp2
              go_ret
              refine ⟨?_, B5.out⟩
              rw [decide_eq_false (show ¬ Z1 < 0 by omega), decide_eq_false (show ¬ Z2 < 0 by omega)]
              rfl
            · rw [hcc] at hcb hcb2
              have hz1 : Z1 < 0 := by simpa using hcb
              have hz2 : Z2 < 0 := by simpa using hcb2
              clear hcb hcb2 hcc
              go_wp2_with fail
              refine (hc4.out _).mono ?_
              rintro e w5 ⟨rfl, hb5⟩
              have B5 := Lib.hid (B4.out.trans (hb5.mono B4.out.size))
              clear hb5
              go_wp2
              go_ret
              exact ⟨rfl, B5.out⟩
  · rw [badZ_wrong hr] at hc1
    clear hr
    go_enter Try.func7, Try.ntmps7
    go_wp2_with fail
    refine hc1.out.mono ?_
    rintro e w1 ⟨A1, m1, c1, rfl, ho1, hb1⟩
    have B1 := Lib.hid hb1
    clear ho1 hb1
    go_wp2_with fail
    refine (answers11_c _).mono ?_
    rintro e w3 ⟨rfl, hb3⟩
    have B3 := Lib.hid (B1.out.trans (hb3.mono B1.out.size))
    clear hb3
    go_wp2
    go_ret
    exact ⟨rfl, B3.out⟩
end Go.Proofs.Ytibmohnpgpbjoaa
