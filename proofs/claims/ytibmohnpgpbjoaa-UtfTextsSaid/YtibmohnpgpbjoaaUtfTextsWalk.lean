/-
  UtfTexts: the walk.
-/
import Derived.Test.YtibmohnpgpbjoaaUE
set_option maxRecDepth 100000
namespace Go.Proofs.Ytibmohnpgpbjoaa
open Go.RowKit
theorem all_take_succ (zs : List Int) (k : Nat) (hk : k < zs.length) : (zs.take (k + 1)).all isZ = ((zs.take k).all isZ && isZ (zs.getD k 0)) := by
  rw [List.take_succ_eq_append_getElem hk, List.all_append, List.getD, List.getElem?_eq_getElem hk]
  simp
set_option maxHeartbeats 4000000 in
theorem walk_utfTexts (A : Option Addr) (n c : Nat) (zs : List Int) (w : World) (h : Rns w A n zs) :
    Calls Try.prog 4 #[.slice A n c] w fun e w' => e = .returned (.bool true) ∧ Below w.heap.size w w' := by
  have hn := h.2.1
  have HL := Lib.hid h.len
  have H := Lib.hid h
  clear h
  by_cases hbig : 1000 < n
  · go_enter Try.func4, Try.ntmps4
    go_wp2_with fail
    refine (answers11_c _).mono ?_
    rintro e w1 ⟨rfl, hb⟩
    go_wp2
    go_ret
    exact ⟨rfl, hb⟩
  go_enter Try.func4, Try.ntmps4
  go_wp2
  go_loopw [3, 4] (fun gv iv wr => ∃ j m : Nat, j ≤ n ∧ gv = .bool ((zs.take j).all isZ) ∧ iv = .int .i64 (j : Int) ∧ wr = w.drewN m) (fun _ iv _ => n - (intOf iv).toNat)
  case atStart => exact ⟨0, 0, Nat.zero_le _, rfl, rfl, rfl⟩
  case round =>
    obtain ⟨j, m, hj, rfl, rfl, rfl⟩ := hrel
    have B0 := Lib.hid ((Below.refl w.heap.size w).of_drewN m)
    by_cases hlt : j < n
    · obtain ⟨ad, rfl, _, hc, _, _⟩ := H.out.at_ hlt
      have HST := Lib.hid (all_take_succ zs j (by rw [HL.out]; exact hlt))
      generalize zs.getD j 0 = x at *
      have C1 := Lib.hid (fun W => utfScalar_c x W)
      have C2 := Lib.hid (fun W => refScalar_c x W)
      generalize isZ x = X at *
      generalize (zs.take j).all isZ = G at *
      go_wp2
      go_quiet (first
        | (go_at_call 14; exact quiet_add_left (C1.out _))
        | (go_at_call 15; exact quiet_add_left (C2.out _)))
      rcases X with _ | _
      · rcases G with _ | _
        · rw [Bool.false_and] at HST
          go_wp2_with fail
          go_wp2
          go_roundw
          case rel => exact ⟨j + 1, _, by omega, by rw [HST.out], by go_num, rfl⟩
          case measure => simp [intOf]; omega
        · rw [Bool.true_and] at HST
          go_wp2_with fail
          refine (C2.out _).mono ?_
          rintro e w' ⟨rfl, rfl⟩
          go_wp2
          go_roundw
          case rel => exact ⟨j + 1, _, by omega, by rw [HST.out], by go_num, rfl⟩
          case measure => simp [intOf]; omega
      · rcases G with _ | _
        · rw [Bool.false_and] at HST
          go_wp2_with fail
          go_wp2
          go_roundw
          case rel => exact ⟨j + 1, _, by omega, by rw [HST.out], by go_num, rfl⟩
          case measure => simp [intOf]; omega
        · rw [Bool.true_and] at HST
          go_wp2_with fail
          refine (C2.out _).mono ?_
          rintro e w' ⟨rfl, rfl⟩
          go_wp2
          go_roundw
          case rel => exact ⟨j + 1, _, by omega, by rw [HST.out], by go_num, rfl⟩
          case measure => simp [intOf]; omega
    · obtain rfl : j = n := by omega
      rw [List.take_of_length_le (by rw [HL.out]; omega)]
      have HR := Lib.hid (H.out.below B0.out)
      have hCT := utfText_c A j c zs _ HR.out
      rcases hg : zs.all isZ with _ | _
      · rw [hg, txtZ_no hg] at hCT
        have CT := Lib.hid hCT
        clear hCT hg
        go_wp2_with fail
        refine CT.out.mono ?_
        rintro e w' ⟨rfl, rfl⟩
        go_wp2_with fail
        refine (answers11_c _).mono ?_
        rintro e w1 ⟨rfl, hb1⟩
        have B1 := Lib.hid (B0.out.trans (hb1.mono B0.out.size))
        clear hb1
        go_wp2
        go_ret
        exact ⟨rfl, B1.out⟩
      · rw [hg, txtZ_ok hg] at hCT
        have CT := Lib.hid hCT
        have HG := Lib.hid hg
        have hal := allC_nats hg
        have hen := encs_lt hal
        have hle : (encs (nats zs)).length ≤ 4000 := by
          refine Nat.le_trans (encs_len4 _) ?_
          rw [nats, List.length_map, HL.out]; omega
        have hc1 := fun W => utfRunes_c (stz (encs (nats zs))) W (by rw [stz_size]; omega)
        rw [bts_stz hen, (rgt_true (rst_encs hal)).1, (rgt_true (rst_encs hal)).2, cps_encs hal, ints_nats hg] at hc1
        have C1 := Lib.hid hc1
        have C2 := Lib.hid (fun W (hW : Rns W A j zs) => refText_c A j c zs W hW (by omega) hg)
        clear hCT hg hal hen hle hc1
        generalize stz (encs (nats zs)) = s at *
        go_wp2_with fail
        refine CT.out.mono ?_
        rintro e w' ⟨rfl, rfl⟩
        go_wp2_with fail
        refine (C1.out _).mono ?_
        rintro e w1 ⟨A1, m1, c1, rfl, ho1, hb1⟩
        have B1 := Lib.hid (B0.out.trans (hb1.mono B0.out.size))
        have R1 := Lib.hid (HR.out.below hb1)
        have Q1 := Lib.hid ho1.rns
        clear ho1 hb1
        go_wp2_with fail
        refine (answers11_c _).mono ?_
        rintro e w2 ⟨rfl, hb2⟩
        have B2 := Lib.hid (B1.out.trans (hb2.mono B1.out.size))
        have R2 := Lib.hid (R1.out.below hb2)
        have Q2 := Lib.hid (Q1.out.below hb2)
        clear hb2
        go_wp2_with fail
        refine (C2.out _ R2.out).mono ?_
        rintro e w3 ⟨rfl, hb3⟩
        have B3 := Lib.hid (B2.out.trans (hb3.mono B2.out.size))
        have R3 := Lib.hid (R2.out.below hb3)
        have Q3 := Lib.hid (Q2.out.below hb3)
        clear hb3
        go_wp2_with fail
        refine (sameR_c A1 A m1 c1 j c _ _ _ Q3.out R3.out).mono ?_
        rw [decide_eq_true rfl]
        rintro e w4 ⟨rfl, hb4⟩
        have B4 := Lib.hid (B3.out.trans (hb4.mono B3.out.size))
        clear hb4
        go_wp2
        go_ret
        exact ⟨rfl, B4.out⟩
end Go.Proofs.Ytibmohnpgpbjoaa
