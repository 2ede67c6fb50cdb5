/-
  AffixTokens: the walk.
-/
import Derived.Test.YtbmgdheljnbmpaaVG
set_option maxRecDepth 100000
namespace Go.Proofs.Ytbmgdheljnbmpaa
open Go.RowKit
theorem tkI_at0 (i : Itm) : (tkI i).2.2 = 0 := by unfold tkI; split <;> rfl
theorem tksI_at0 {is : List Itm} (h : is.all mayI = true) (k : Nat) : (tk (tksI is) k).2.2 = 0 := by
  rw [tksI_may h, tk, List.getD, List.getElem?_map]
  cases is[k]? with
  | none => rfl
  | some i => exact tkI_at0 i
set_option maxHeartbeats 4000000 in
theorem walk_affixTokens (A : Option Addr) (n c : Nat) (is : List Itm) (w : World) (h : Its w A n is) :
    Calls Try.prog 4 #[.slice A n c] w fun e w' => e = .returned (.bool true) ∧ Below w.heap.size w w' := by
  have hn := h.2.1
  have HL := Lib.hid h.len
  have H := Lib.hid h
  clear h
  by_cases hbig : 200 < n
  · have g1 : decide ((200 : Int) < (n : Int)) = true := decide_eq_true (by omega)
    go_enter Try.func4, Try.ntmps4
    go_wp2_with fail
    refine (answers14_c _).mono ?_
    rintro e w1 ⟨rfl, hb1⟩
    have HB_1 := Lib.hid hb1
    clear hb1
    go_wp2
    go_ret
    exact ⟨rfl, HB_1.out⟩
  · have g1 : decide ((200 : Int) < (n : Int)) = false := decide_eq_false (by omega)
    have C1 := Lib.hid (fun W hW => affTokens_c A n c is W hW (by omega))
    have C2 := Lib.hid (fun W hW => refMay_c A n c is W hW)
    have C3 := Lib.hid (fun W hW => affPrint_c A n c is W hW (by omega))
    rcases hm : is.all mayI with _ | _
    · rw [hm] at C2
      rw [tksI_no hm] at C1 C3
      have t3 : prtZ [] = ⟨#[]⟩ := by decide +kernel
      rw [t3] at C3
      clear hm t3
      go_enter Try.func4, Try.ntmps4
      go_wp2_with fail
      refine (C1.out _ H.out).mono ?_
      rintro e w1 ⟨Aa, ma, ca, rfl, hoa, hbx1⟩
      have hb1 := hbx1.out
      have Ta := Lib.hid hoa.out.tks
      have La := Lib.hid hoa.out.len
      clear hoa hbx1
      have H_1 := Lib.hid (H.out.below hb1)
      clear H
      have HB_1 := Lib.hid hb1
      clear hb1
      obtain rfl : 0 = ma := La.out
      go_wp2_with fail
      refine (C2.out _ H_1.out).mono ?_
      rintro e w2 ⟨rfl, rfl⟩
      go_wp2_with fail
      refine (answers14_c _).mono ?_
      rintro e w2 ⟨rfl, hb2⟩
      have H_2 := Lib.hid (H_1.out.below hb2)
      clear H_1
      have Ta_1 := Lib.hid (Ta.out.below hb2)
      clear Ta
      have HB_2 := Lib.hid (HB_1.out.trans (hb2.mono HB_1.out.size))
      clear HB_1
      clear hb2
      go_wp2_with fail
      refine (C3.out _ H_2.out).mono ?_
      rintro e w3 ⟨rfl, hbx3⟩
      have hb3 := hbx3.out
      clear hbx3
      have H_3 := Lib.hid (H_2.out.below hb3)
      clear H_2
      have Ta_2 := Lib.hid (Ta_1.out.below hb3)
      clear Ta_1
      have HB_3 := Lib.hid (HB_2.out.trans (hb3.mono HB_2.out.size))
      clear HB_2
      clear hb3
      go_wp2
      go_ret
      exact ⟨rfl, HB_3.out⟩
    · rw [hm] at C2
      have C4 := Lib.hid (fun W hW => refTokens_c A n c is W hW (by omega) hm)
      rw [← tksI_may hm] at C4
      have hmay := tksI_mayT is
      have hlen := tksI_len is
      rw [HL.out] at hlen
      have C5 := Lib.hid (fun (B : Option Addr) (m d : Nat) W (hW : Tks W B m (tksI is)) hh => refPrint_c B m d (tksI is) W hW hh hmay)
      have HAT := Lib.hid (tksI_at0 hm)
      clear hm hmay
      generalize tksI is = ts at *
      go_enter Try.func4, Try.ntmps4
      go_wp2_with fail
      refine (C1.out _ H.out).mono ?_
      rintro e w1 ⟨Aa, ma, ca, rfl, hoa, hbx1⟩
      have hb1 := hbx1.out
      have Ta := Lib.hid hoa.out.tks
      have La := Lib.hid hoa.out.len
      clear hoa hbx1
      have H_1 := Lib.hid (H.out.below hb1)
      clear H
      have HB_1 := Lib.hid hb1
      clear hb1
      go_wp2_with fail
      refine (C2.out _ H_1.out).mono ?_
      rintro e w2 ⟨rfl, rfl⟩
      go_wp2_with fail
      refine (C4.out _ H_1.out).mono ?_
      rintro e w2 ⟨Ab, mb, cb, rfl, hob, hbx2⟩
      have hb2 := hbx2.out
      have Tb := Lib.hid hob.out.tks
      have Lb := Lib.hid hob.out.len
      clear hob hbx2
      have H_2 := Lib.hid (H_1.out.below hb2)
      clear H_1
      have Ta_1 := Lib.hid (Ta.out.below hb2)
      clear Ta
      have HB_2 := Lib.hid (HB_1.out.trans (hb2.mono HB_1.out.size))
      clear HB_1
      clear hb2
      obtain rfl : mb = ma := Lb.out.symm.trans La.out
      have hmb : mb ≤ 200 := by have := La.out; omega
      go_wp2
      go_loopw [5] (fun iv wr => ∃ k : Nat, k ≤ mb ∧ iv = .int .i64 (k : Int) ∧ wr = w2) (fun iv _ => mb - (intOf iv).toNat)
      case atStart => exact ⟨0, Nat.zero_le _, rfl, rfl⟩
      case round =>
        obtain ⟨k, hk, rfl, rfl⟩ := hrel
        by_cases hlt : k < mb
        · obtain ⟨ad, rfl, _, _, _, x2, _⟩ := Ta_1.out.at_ hlt
          rw [HAT.out] at x2
          go_wp2
          go_roundw
          case rel => exact ⟨k + 1, by omega, by go_num, by first | trivial | rfl⟩
          case measure => simp [intOf]; omega
        · skip
          go_wp2_with fail
          refine (answers14_c _).mono ?_
          rintro e w3 ⟨rfl, hb3⟩
          have H_3 := Lib.hid (H_2.out.below hb3)
          clear H_2
          have Ta_2 := Lib.hid (Ta_1.out.below hb3)
          clear Ta_1
          have Tb_1 := Lib.hid (Tb.out.below hb3)
          clear Tb
          have HB_3 := Lib.hid (HB_2.out.trans (hb3.mono HB_2.out.size))
          clear HB_2
          clear hb3
          have CS := Lib.hid (sameT_c Aa Ab mb ca mb cb ts ts _ Ta_2.out Tb_1.out)
          rw [decide_eq_true rfl] at CS
          go_wp2_with fail
          refine (CS.out).mono ?_
          rintro e w4 ⟨rfl, hb4⟩
          have H_4 := Lib.hid (H_3.out.below hb4)
          clear H_3
          have Ta_3 := Lib.hid (Ta_2.out.below hb4)
          clear Ta_2
          have Tb_2 := Lib.hid (Tb_1.out.below hb4)
          clear Tb_1
          have HB_4 := Lib.hid (HB_3.out.trans (hb4.mono HB_3.out.size))
          clear HB_3
          clear hb4
          go_wp2_with fail
          refine (C3.out _ H_4.out).mono ?_
          rintro e w5 ⟨rfl, hbx5⟩
          have hb5 := hbx5.out
          clear hbx5
          have H_5 := Lib.hid (H_4.out.below hb5)
          clear H_4
          have Ta_4 := Lib.hid (Ta_3.out.below hb5)
          clear Ta_3
          have Tb_3 := Lib.hid (Tb_2.out.below hb5)
          clear Tb_2
          have HB_5 := Lib.hid (HB_4.out.trans (hb5.mono HB_4.out.size))
          clear HB_4
          clear hb5
          go_wp2_with fail
          refine (C5.out Ab mb cb _ Tb_3.out (by omega)).mono ?_
          rintro e w6 ⟨rfl, hb6⟩
          have H_6 := Lib.hid (H_5.out.below hb6)
          clear H_5
          have Ta_5 := Lib.hid (Ta_4.out.below hb6)
          clear Ta_4
          have Tb_4 := Lib.hid (Tb_3.out.below hb6)
          clear Tb_3
          have HB_6 := Lib.hid (HB_5.out.trans (hb6.mono HB_5.out.size))
          clear HB_5
          clear hb6
          go_wp2
          go_ret
          exact ⟨rfl, HB_6.out⟩
end Go.Proofs.Ytbmgdheljnbmpaa
