/-
  NatGrows: the walk.
-/
import Derived.Test.YtimpjodbfflakaaAns2
namespace Go.Proofs.Ytimpjodbfflakaa
open Go.RowKit
set_option maxHeartbeats 1000000 in
set_option maxRecDepth 100000 in
theorem walk_natGrows (a0 : Option Addr) (n0 c0 : Nat) (x0 : List Nat) (a1 : Option Addr) (n1 c1 : Nat) (x1 : List Nat) (w : World) (h0 : Limbs w a0 n0 x0) (h1 : Limbs w a1 n1 x1) :
    Calls Try.prog 9 #[.slice a0 n0 c0, .slice a1 n1 c1] w fun e w' => e = .returned (.bool true) ∧ Below w.heap.size w w' := by
  have CG := good2_c a0 a1 n0 c0 n1 c1 x0 x1 w h0 h1
  have B := Lib.hid ((Below.refl w.heap.size w).alloc (Nat.le_refl _) (.cells #[.slice a0 n0 c0, .slice a1 n1 c1] 22))
  have H0 := Lib.hid h0
  have H1 := Lib.hid h1
  clear h0 h1
  rcases hg : (Arg.mk a0 n0 c0 x0).fine && (Arg.mk a1 n1 c1 x1).fine with _ | _
  · rw [hg] at CG
    have HCG := Lib.hid CG
    clear CG hg
    go_enter Try.func9, Try.ntmps9
    go_wp2_with fail
    refine (HCG.out).mono ?_
    rintro e W ⟨rfl, rfl⟩
    clear HCG
    go_wp2_with fail
    refine (answers_c _).mono ?_
    rintro e w1 ⟨rfl, hb⟩
    replace B := Lib.hid (B.out.trans (hb.mono B.out.size))
    clear hb 
    go_wp2
    go_ret
    exact ⟨rfl, B.out⟩
  · rw [hg] at CG
    have HCG := Lib.hid CG
    simp only [Bool.and_eq_true] at hg
    have F0 := Arg.fine_true hg.1
    have F1 := Arg.fine_true hg.2
    simp only at F0 F1
    have hn0 := F0.1
    have G0 := Lib.hid F0.2
    have V0 := Lib.hid (limbs_lt F0.2 (m := 60) (by rw [H0.out.len]; exact hn0))
    have hn1 := F1.1
    have G1 := Lib.hid F1.2
    have V1 := Lib.hid (limbs_lt F1.2 (m := 60) (by rw [H1.out.len]; exact hn1))
    clear CG hg F0 F1
    have W01 := Lib.hid (sum_lt V0.out V1.out)
    rcases Nat.lt_or_ge (val 1000000000 x0) (val 1000000000 x1) with ho | ho
    · have HO := Lib.hid (show val 1000000000 x0 ≤ val 1000000000 x1 by omega)
      have HC := Lib.hid (show ∃ r : Int, r < 0 ∧ cmpI (val 1000000000 x0) (val 1000000000 x1) = r by refine ⟨_, ?_, rfl⟩; rw [cmpI]; rw [if_pos ho]; omega)
      clear ho
      obtain ⟨r, hr, hcr⟩ := HC.out
      have HR := Lib.hid hcr
      clear HC hcr
      have HZ := Lib.hid (show (val 1000000000 x0 = 0 ∧ cmpI (val 1000000000 x0 + val 1000000000 x1) (val 1000000000 x1) = 0) ∨ (val 1000000000 x0 ≠ 0 ∧ cmpI (val 1000000000 x0 + val 1000000000 x1) (val 1000000000 x1) = 1) by
        rcases Nat.eq_zero_or_pos (val 1000000000 x0) with h | h
        · exact .inl ⟨h, cmpI_of_eq (by omega)⟩
        · exact .inr ⟨by omega, cmpI_of_gt (by omega)⟩)
      go_enter Try.func9, Try.ntmps9
      go_wp2_with fail
      refine HCG.out.mono ?_
      rintro e W ⟨rfl, rfl⟩
      clear HCG
      go_wp2_with fail
      refine (add_c a0 a1 n0 c0 n1 c1 _ _ _ (H0.out.below B.out) (H1.out.below B.out) G0.out G1.out (by omega) (by omega)).mono ?_
      rintro e w2 ⟨As, ms, cs, rfl, ho, hb⟩
      try simp only [val_digs 1000000000 (by omega)] at ho
      have Os := Lib.hid (ho.limbs)
      have Ls := Lib.hid (ho.len)
      replace B := Lib.hid (B.out.trans (hb.mono B.out.size))
      clear hb ho
      have Ks : ms ≤ 1000 := by rw [← Ls.out]; exact Nat.le_trans (digs_len9 (W01.out)) (by omega)
      have E1 := cmp_c a0 a1 n0 c0 n1 c1 x0 x1 _ (H0.out.below B.out) (H1.out.below B.out) G0.out G1.out
      rw [HR.out] at E1
      have HE1 := Lib.hid E1
      clear E1
      go_wp2_with fail
      refine (HE1.out).mono ?_
      rintro e w3 ⟨rfl, hb⟩
      replace Os := Lib.hid (Os.out.below hb)
      replace B := Lib.hid (B.out.trans (hb.mono B.out.size))
      clear hb HE1
      go_wp2_with fail
      refine (sub_geq a1 a0 n1 c1 n0 c0 x1 x0 _ (H1.out.below B.out) (H0.out.below B.out) G1.out G0.out HO.out (by omega)).mono ?_
      rintro e w4 ⟨Ad, md, cd, rfl, ho, hb⟩
      have Od := Lib.hid (ho.limbs)
      have Ld := Lib.hid (ho.len)
      replace Os := Lib.hid (Os.out.below hb)
      replace B := Lib.hid (B.out.trans (hb.mono B.out.size))
      clear hb ho
      have Kd : md ≤ 1000 := by rw [← Ld.out]; exact Nat.le_trans (digs_len9 (Nat.lt_of_le_of_lt (Nat.sub_le _ _) V1.out)) (by omega)
      go_wp2_with fail
      refine (answers_c _).mono ?_
      rintro e w5 ⟨rfl, hb⟩
      replace Os := Lib.hid (Os.out.below hb)
      replace Od := Lib.hid (Od.out.below hb)
      replace B := Lib.hid (B.out.trans (hb.mono B.out.size))
      clear hb 
      rcases HZ.out with ⟨hz, hq⟩ | ⟨hz, hq⟩
      · have E2 := cmp_c As a1 ms cs n1 c1 _ x1 _ Os.out (H1.out.below B.out) (digs_lt 1000000000 (by omega) _) G1.out
        rw [val_digs 1000000000 (by omega), hq] at E2
        have HE2 := Lib.hid E2
        have HZ2 := Lib.hid hz
        clear E2 hq hz HZ
        go_wp2_with fail
        refine (HE2.out).mono ?_
        rintro e w6 ⟨rfl, hb⟩
        replace Os := Lib.hid (Os.out.below hb)
        replace Od := Lib.hid (Od.out.below hb)
        replace B := Lib.hid (B.out.trans (hb.mono B.out.size))
        clear hb HE2
        go_wp2_with fail
        refine (text_c a0 n0 c0 x0 _ (H0.out.below B.out) G0.out (by omega)).mono ?_
        rintro e w7 ⟨st, rfl, hs, hb⟩
        have Sst := Lib.hid (hs)
        replace Os := Lib.hid (Os.out.below hb)
        replace Od := Lib.hid (Od.out.below hb)
        replace B := Lib.hid (B.out.trans (hb.mono B.out.size))
        clear hb hs
        have he : st.toList = [] := by rw [ByteArray.toList_eq]; exact List.eq_nil_of_length_eq_zero (by have h := Sst.out.size; rw [HZ2.out, decs_zero] at h; simpa using h)
        have E3 := cmp_c As a1 ms cs n1 c1 _ x1 _ Os.out (H1.out.below B.out) (digs_lt 1000000000 (by omega) _) G1.out
        rw [val_digs 1000000000 (by omega)] at E3
        rw [cmpI_of_eq (by have := HZ2.out; omega)] at E3
        have HE3 := Lib.hid E3
        clear E3
        go_wp2_with fail
        refine (HE3.out).mono ?_
        rintro e w8 ⟨rfl, hb⟩
        replace Od := Lib.hid (Od.out.below hb)
        replace B := Lib.hid (B.out.trans (hb.mono B.out.size))
        clear hb HE3
        go_wp2_with fail
        refine (add_c Ad a0 md cd n0 c0 _ x0 _ Od.out (H0.out.below B.out) (digs_lt 1000000000 (by omega) _) G0.out (by have := Kd; omega) (by omega)).mono ?_
        rintro e w9 ⟨Ae, me, ce, rfl, ho, hb⟩
        rw [val_digs 1000000000 (by omega), Nat.sub_add_cancel HO.out] at ho
        have Oe := Lib.hid (ho.limbs)
        replace B := Lib.hid (B.out.trans (hb.mono B.out.size))
        clear hb ho
        go_wp2_with fail
        refine (trim_c a1 n1 c1 x1 _ (H1.out.below B.out) (by omega)).mono ?_
        rintro e w10 ⟨Az, mz, cz, rfl, ho, hb⟩
        rw [trim_eq_digs 1000000000 (by omega) _ G1.out] at ho
        have Oz := Lib.hid (ho.limbs)
        replace Oe := Lib.hid (Oe.out.below hb)
        replace B := Lib.hid (B.out.trans (hb.mono B.out.size))
        clear hb ho
        go_wp2_with fail
        refine (same_c Ae Az me ce mz cz _ _ _ Oe.out Oz.out).mono ?_
        rw [decide_eq_true rfl]
        rintro e w11 ⟨rfl, hb⟩
        replace B := Lib.hid (B.out.trans (hb.mono B.out.size))
        clear hb 
        go_wp2
        go_ret
        exact ⟨rfl, B.out⟩
      · have E2 := cmp_c As a1 ms cs n1 c1 _ x1 _ Os.out (H1.out.below B.out) (digs_lt 1000000000 (by omega) _) G1.out
        rw [val_digs 1000000000 (by omega), hq] at E2
        have HE2 := Lib.hid E2
        have HZ2 := Lib.hid hz
        clear E2 hq hz HZ
        go_wp2_with fail
        refine (HE2.out).mono ?_
        rintro e w6 ⟨rfl, hb⟩
        replace Os := Lib.hid (Os.out.below hb)
        replace Od := Lib.hid (Od.out.below hb)
        replace B := Lib.hid (B.out.trans (hb.mono B.out.size))
        clear hb HE2
        go_wp2_with fail
        refine (text_c a0 n0 c0 x0 _ (H0.out.below B.out) G0.out (by omega)).mono ?_
        rintro e w7 ⟨st, rfl, hs, hb⟩
        have Sst := Lib.hid (hs)
        replace Os := Lib.hid (Os.out.below hb)
        replace Od := Lib.hid (Od.out.below hb)
        replace B := Lib.hid (B.out.trans (hb.mono B.out.size))
        clear hb hs
        have he : (!st.toList.isEmpty) = true := by
          have h := Sst.out.size
          have h2 := (decs_length_zero (val 1000000000 x0)).1
          have h3 := HZ2.out
          rw [ByteArray.toList_eq]
          rcases hl : st.data.toList with _ | ⟨b, l⟩
          · exact absurd (h2 (by rw [← h, ← ByteArray.size_data, ← Array.length_toList, hl]; rfl)) h3
          · rfl
        have E3 := cmp_c As a1 ms cs n1 c1 _ x1 _ Os.out (H1.out.below B.out) (digs_lt 1000000000 (by omega) _) G1.out
        rw [val_digs 1000000000 (by omega)] at E3
        rw [cmpI_of_gt (by have := HZ2.out; omega)] at E3
        have HE3 := Lib.hid E3
        clear E3
        go_wp2_with fail
        refine (HE3.out).mono ?_
        rintro e w8 ⟨rfl, hb⟩
        replace Od := Lib.hid (Od.out.below hb)
        replace B := Lib.hid (B.out.trans (hb.mono B.out.size))
        clear hb HE3
        go_wp2_with fail
        refine (add_c Ad a0 md cd n0 c0 _ x0 _ Od.out (H0.out.below B.out) (digs_lt 1000000000 (by omega) _) G0.out (by have := Kd; omega) (by omega)).mono ?_
        rintro e w9 ⟨Ae, me, ce, rfl, ho, hb⟩
        rw [val_digs 1000000000 (by omega), Nat.sub_add_cancel HO.out] at ho
        have Oe := Lib.hid (ho.limbs)
        replace B := Lib.hid (B.out.trans (hb.mono B.out.size))
        clear hb ho
        go_wp2_with fail
        refine (trim_c a1 n1 c1 x1 _ (H1.out.below B.out) (by omega)).mono ?_
        rintro e w10 ⟨Az, mz, cz, rfl, ho, hb⟩
        rw [trim_eq_digs 1000000000 (by omega) _ G1.out] at ho
        have Oz := Lib.hid (ho.limbs)
        replace Oe := Lib.hid (Oe.out.below hb)
        replace B := Lib.hid (B.out.trans (hb.mono B.out.size))
        clear hb ho
        go_wp2_with fail
        refine (same_c Ae Az me ce mz cz _ _ _ Oe.out Oz.out).mono ?_
        rw [decide_eq_true rfl]
        rintro e w11 ⟨rfl, hb⟩
        replace B := Lib.hid (B.out.trans (hb.mono B.out.size))
        clear hb 
        go_wp2
        go_ret
        exact ⟨rfl, B.out⟩
    · have HO := Lib.hid (show val 1000000000 x1 ≤ val 1000000000 x0 by omega)
      have HC := Lib.hid (show ∃ r : Int, r ≥ 0 ∧ cmpI (val 1000000000 x0) (val 1000000000 x1) = r by refine ⟨_, ?_, rfl⟩; rw [cmpI]; rw [if_neg (by omega)]; split <;> omega)
      clear ho
      obtain ⟨r, hr, hcr⟩ := HC.out
      have HR := Lib.hid hcr
      clear HC hcr
      have HZ := Lib.hid (show (val 1000000000 x1 = 0 ∧ cmpI (val 1000000000 x0 + val 1000000000 x1) (val 1000000000 x0) = 0) ∨ (val 1000000000 x1 ≠ 0 ∧ cmpI (val 1000000000 x0 + val 1000000000 x1) (val 1000000000 x0) = 1) by
        rcases Nat.eq_zero_or_pos (val 1000000000 x1) with h | h
        · exact .inl ⟨h, cmpI_of_eq (by omega)⟩
        · exact .inr ⟨by omega, cmpI_of_gt (by omega)⟩)
      go_enter Try.func9, Try.ntmps9
      go_wp2_with fail
      refine HCG.out.mono ?_
      rintro e W ⟨rfl, rfl⟩
      clear HCG
      go_wp2_with fail
      refine (add_c a0 a1 n0 c0 n1 c1 _ _ _ (H0.out.below B.out) (H1.out.below B.out) G0.out G1.out (by omega) (by omega)).mono ?_
      rintro e w2 ⟨As, ms, cs, rfl, ho, hb⟩
      try simp only [val_digs 1000000000 (by omega)] at ho
      have Os := Lib.hid (ho.limbs)
      have Ls := Lib.hid (ho.len)
      replace B := Lib.hid (B.out.trans (hb.mono B.out.size))
      clear hb ho
      have Ks : ms ≤ 1000 := by rw [← Ls.out]; exact Nat.le_trans (digs_len9 (W01.out)) (by omega)
      have E1 := cmp_c a0 a1 n0 c0 n1 c1 x0 x1 _ (H0.out.below B.out) (H1.out.below B.out) G0.out G1.out
      rw [HR.out] at E1
      have HE1 := Lib.hid E1
      clear E1
      go_wp2_with fail
      refine (HE1.out).mono ?_
      rintro e w3 ⟨rfl, hb⟩
      replace Os := Lib.hid (Os.out.below hb)
      replace B := Lib.hid (B.out.trans (hb.mono B.out.size))
      clear hb HE1
      go_wp2_with fail
      refine (sub_geq a0 a1 n0 c0 n1 c1 x0 x1 _ (H0.out.below B.out) (H1.out.below B.out) G0.out G1.out HO.out (by omega)).mono ?_
      rintro e w4 ⟨Ad, md, cd, rfl, ho, hb⟩
      have Od := Lib.hid (ho.limbs)
      have Ld := Lib.hid (ho.len)
      replace Os := Lib.hid (Os.out.below hb)
      replace B := Lib.hid (B.out.trans (hb.mono B.out.size))
      clear hb ho
      have Kd : md ≤ 1000 := by rw [← Ld.out]; exact Nat.le_trans (digs_len9 (Nat.lt_of_le_of_lt (Nat.sub_le _ _) V0.out)) (by omega)
      go_wp2_with fail
      refine (answers_c _).mono ?_
      rintro e w5 ⟨rfl, hb⟩
      replace Os := Lib.hid (Os.out.below hb)
      replace Od := Lib.hid (Od.out.below hb)
      replace B := Lib.hid (B.out.trans (hb.mono B.out.size))
      clear hb 
      rcases HZ.out with ⟨hz, hq⟩ | ⟨hz, hq⟩
      · have E2 := cmp_c As a0 ms cs n0 c0 _ x0 _ Os.out (H0.out.below B.out) (digs_lt 1000000000 (by omega) _) G0.out
        rw [val_digs 1000000000 (by omega), hq] at E2
        have HE2 := Lib.hid E2
        have HZ2 := Lib.hid hz
        clear E2 hq hz HZ
        go_wp2_with fail
        refine (HE2.out).mono ?_
        rintro e w6 ⟨rfl, hb⟩
        replace Os := Lib.hid (Os.out.below hb)
        replace Od := Lib.hid (Od.out.below hb)
        replace B := Lib.hid (B.out.trans (hb.mono B.out.size))
        clear hb HE2
        go_wp2_with fail
        refine (text_c a1 n1 c1 x1 _ (H1.out.below B.out) G1.out (by omega)).mono ?_
        rintro e w7 ⟨st, rfl, hs, hb⟩
        have Sst := Lib.hid (hs)
        replace Os := Lib.hid (Os.out.below hb)
        replace Od := Lib.hid (Od.out.below hb)
        replace B := Lib.hid (B.out.trans (hb.mono B.out.size))
        clear hb hs
        have he : st.toList = [] := by rw [ByteArray.toList_eq]; exact List.eq_nil_of_length_eq_zero (by have h := Sst.out.size; rw [HZ2.out, decs_zero] at h; simpa using h)
        have E3 := cmp_c As a0 ms cs n0 c0 _ x0 _ Os.out (H0.out.below B.out) (digs_lt 1000000000 (by omega) _) G0.out
        rw [val_digs 1000000000 (by omega)] at E3
        rw [cmpI_of_eq (by have := HZ2.out; omega)] at E3
        have HE3 := Lib.hid E3
        clear E3
        go_wp2_with fail
        refine (HE3.out).mono ?_
        rintro e w8 ⟨rfl, hb⟩
        replace Od := Lib.hid (Od.out.below hb)
        replace B := Lib.hid (B.out.trans (hb.mono B.out.size))
        clear hb HE3
        go_wp2_with fail
        refine (add_c Ad a1 md cd n1 c1 _ x1 _ Od.out (H1.out.below B.out) (digs_lt 1000000000 (by omega) _) G1.out (by have := Kd; omega) (by omega)).mono ?_
        rintro e w9 ⟨Ae, me, ce, rfl, ho, hb⟩
        rw [val_digs 1000000000 (by omega), Nat.sub_add_cancel HO.out] at ho
        have Oe := Lib.hid (ho.limbs)
        replace B := Lib.hid (B.out.trans (hb.mono B.out.size))
        clear hb ho
        go_wp2_with fail
        refine (trim_c a0 n0 c0 x0 _ (H0.out.below B.out) (by omega)).mono ?_
        rintro e w10 ⟨Az, mz, cz, rfl, ho, hb⟩
        rw [trim_eq_digs 1000000000 (by omega) _ G0.out] at ho
        have Oz := Lib.hid (ho.limbs)
        replace Oe := Lib.hid (Oe.out.below hb)
        replace B := Lib.hid (B.out.trans (hb.mono B.out.size))
        clear hb ho
        go_wp2_with fail
        refine (same_c Ae Az me ce mz cz _ _ _ Oe.out Oz.out).mono ?_
        rw [decide_eq_true rfl]
        rintro e w11 ⟨rfl, hb⟩
        replace B := Lib.hid (B.out.trans (hb.mono B.out.size))
        clear hb 
        go_wp2
        go_ret
        exact ⟨rfl, B.out⟩
      · have E2 := cmp_c As a0 ms cs n0 c0 _ x0 _ Os.out (H0.out.below B.out) (digs_lt 1000000000 (by omega) _) G0.out
        rw [val_digs 1000000000 (by omega), hq] at E2
        have HE2 := Lib.hid E2
        have HZ2 := Lib.hid hz
        clear E2 hq hz HZ
        go_wp2_with fail
        refine (HE2.out).mono ?_
        rintro e w6 ⟨rfl, hb⟩
        replace Os := Lib.hid (Os.out.below hb)
        replace Od := Lib.hid (Od.out.below hb)
        replace B := Lib.hid (B.out.trans (hb.mono B.out.size))
        clear hb HE2
        go_wp2_with fail
        refine (text_c a1 n1 c1 x1 _ (H1.out.below B.out) G1.out (by omega)).mono ?_
        rintro e w7 ⟨st, rfl, hs, hb⟩
        have Sst := Lib.hid (hs)
        replace Os := Lib.hid (Os.out.below hb)
        replace Od := Lib.hid (Od.out.below hb)
        replace B := Lib.hid (B.out.trans (hb.mono B.out.size))
        clear hb hs
        have he : (!st.toList.isEmpty) = true := by
          have h := Sst.out.size
          have h2 := (decs_length_zero (val 1000000000 x1)).1
          have h3 := HZ2.out
          rw [ByteArray.toList_eq]
          rcases hl : st.data.toList with _ | ⟨b, l⟩
          · exact absurd (h2 (by rw [← h, ← ByteArray.size_data, ← Array.length_toList, hl]; rfl)) h3
          · rfl
        have E3 := cmp_c As a0 ms cs n0 c0 _ x0 _ Os.out (H0.out.below B.out) (digs_lt 1000000000 (by omega) _) G0.out
        rw [val_digs 1000000000 (by omega)] at E3
        rw [cmpI_of_gt (by have := HZ2.out; omega)] at E3
        have HE3 := Lib.hid E3
        clear E3
        go_wp2_with fail
        refine (HE3.out).mono ?_
        rintro e w8 ⟨rfl, hb⟩
        replace Od := Lib.hid (Od.out.below hb)
        replace B := Lib.hid (B.out.trans (hb.mono B.out.size))
        clear hb HE3
        go_wp2_with fail
        refine (add_c Ad a1 md cd n1 c1 _ x1 _ Od.out (H1.out.below B.out) (digs_lt 1000000000 (by omega) _) G1.out (by have := Kd; omega) (by omega)).mono ?_
        rintro e w9 ⟨Ae, me, ce, rfl, ho, hb⟩
        rw [val_digs 1000000000 (by omega), Nat.sub_add_cancel HO.out] at ho
        have Oe := Lib.hid (ho.limbs)
        replace B := Lib.hid (B.out.trans (hb.mono B.out.size))
        clear hb ho
        go_wp2_with fail
        refine (trim_c a0 n0 c0 x0 _ (H0.out.below B.out) (by omega)).mono ?_
        rintro e w10 ⟨Az, mz, cz, rfl, ho, hb⟩
        rw [trim_eq_digs 1000000000 (by omega) _ G0.out] at ho
        have Oz := Lib.hid (ho.limbs)
        replace Oe := Lib.hid (Oe.out.below hb)
        replace B := Lib.hid (B.out.trans (hb.mono B.out.size))
        clear hb ho
        go_wp2_with fail
        refine (same_c Ae Az me ce mz cz _ _ _ Oe.out Oz.out).mono ?_
        rw [decide_eq_true rfl]
        rintro e w11 ⟨rfl, hb⟩
        replace B := Lib.hid (B.out.trans (hb.mono B.out.size))
        clear hb 
        go_wp2
        go_ret
        exact ⟨rfl, B.out⟩
end Go.Proofs.Ytimpjodbfflakaa
