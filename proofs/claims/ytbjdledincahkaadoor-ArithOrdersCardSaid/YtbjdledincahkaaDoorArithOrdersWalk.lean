/-
  ArithOrders: the walk.
-/
import Derived.Test.YtbjdledincahkaaDoorAn6
namespace Go.Proofs.YtbjdledincahkaaDoor
open Go.RowKit
set_option maxHeartbeats 8000000 in
set_option maxRecDepth 100000 in
theorem walk_arithOrders (n0 : Bool) (s0 : ByteArray) (e0 : Int) (n1 : Bool) (s1 : ByteArray) (e1 : Int) (w : World) (h0 : s0.size ≤ maxLen) (h1 : s1.size ≤ maxLen) (hP : Pw w) :
    Calls Tryd.prog 6 #[.agg #[.bool n0, .string s0, .int .i64 e0], .agg #[.bool n1, .string s1, .int .i64 e1]] w fun e w' => e = .returned (.bool true) ∧ Below w.heap.size w w' := by
  have HK := Lib.hid (kept_two w (.bool n0) (.string s0) (.int .i64 e0) (.bool n1) (.string s1) (.int .i64 e1) 23 hP)
  clear hP
  have HG := Lib.hid (fun b w hg hP => good06_2 n0 n1 s0 s1 e0 e1 b w hg h0 h1 hP)
  rcases hgg : (fineD 200 s0 e0 && fineD 200 s1 e1) with _ | _
  · rw [hgg] at HG
    clear hgg
    go_enter Tryd.func6, Tryd.ntmps6
    go_wp2_with fail
    refine (HG.out _ _ (by simp) HK.out.1).mono ?_
    rintro r w1 ⟨rfl, hb⟩
    have hk := HK.out.keep hb
    replace HK := Lib.hid hk
    clear hk hb
    obtain ⟨⟨⟨c00, c01, c02⟩, ⟨c10, c11, c12⟩, -⟩, -⟩ := Sd.of HK.out
    go_wp2_with fail
    refine (answers06_c _ HK.out.1).mono ?_
    rintro r w2 ⟨rfl, hb⟩
    clear c00 c01 c02 c10 c11 c12
    have hk := HK.out.keep hb
    replace HK := Lib.hid hk
    clear hk hb
    obtain ⟨⟨⟨c00, c01, c02⟩, ⟨c10, c11, c12⟩, -⟩, -⟩ := Sd.of HK.out
    go_wp2
    go_ret
    exact ⟨rfl, HK.out.2.1⟩
  · rw [hgg] at HG
    simp only [Bool.and_eq_true] at hgg
    obtain ⟨hf0, hf1⟩ := hgg
    obtain ⟨V0, hv0, hl0⟩ := DV.fine n0 hf0 (by omega)
    have HV0 := Lib.hid hv0
    clear hv0 hf0
    obtain ⟨V1, hv1, hl1⟩ := DV.fine n1 hf1 (by omega)
    have HV1 := Lib.hid hv1
    clear hv1 hf1
    obtain ⟨Z, hZ⟩ : ∃ Z, V0 - V1 = Z := ⟨_, rfl⟩
    have HSUB := Lib.hid (fun (w : World) (hP : Pw w) => sub_d (w := w) HV0.out HV1.out hZ hP)
    have hzs := zstr_is0 Z
    clear hl0 hl1
    rcases Int.lt_trichotomy V0 V1 with hc | hc | hc
    · have HC := Lib.hid (show cmpZ V0 V1 = -1 by exact cmpZ_lt hc)
      rw [show zneg Z = true by unfold zneg; exact decide_eq_true (by omega)] at HSUB
      rw [decide_eq_false (by omega)] at hzs
      clear hc hZ
      go_enter Tryd.func6, Tryd.ntmps6
      go_wp2_with fail
      refine (HG.out _ _ (by simp) HK.out.1).mono ?_
      rintro r w1 ⟨rfl, hb⟩
      have hk := HK.out.keep hb
      replace HK := Lib.hid hk
      clear hk hb
      obtain ⟨⟨⟨c00, c01, c02⟩, ⟨c10, c11, c12⟩, -⟩, -⟩ := Sd.of HK.out
      go_wp2_with fail
      refine (HSUB.out _ HK.out.1).mono ?_
      rintro r w2 ⟨rfl, hb⟩
      clear c00 c01 c02 c10 c11 c12
      have hk := HK.out.keep hb
      replace HK := Lib.hid hk
      clear hk hb
      obtain ⟨⟨⟨c00, c01, c02⟩, ⟨c10, c11, c12⟩, -⟩, -⟩ := Sd.of HK.out
      clear c00 c01 c02 c10 c11 c12
      have HK2 := Lib.hid (show Kept3 w [(w.heap.size, .bool n0, .string s0, .int .i64 (e0)), (w.heap.size + 1, .bool n1, .string s1, .int .i64 (e1)), (w2.heap.size, .bool true, .string (zstr Z), .int .i64 (zexp Z (-1000)))] _ from HK.out.grow (.bool true) (.string (zstr Z)) (.int .i64 (zexp Z (-1000))) 23)
      clear HK
      have HK := Lib.hid HK2.out
      clear HK2
      go_wp2
      have hS : Sd w [(w.heap.size, .bool n0, .string s0, .int .i64 (e0)), (w.heap.size + 1, .bool n1, .string s1, .int .i64 (e1)), (w2.heap.size, .bool true, .string (zstr Z), .int .i64 (zexp Z (-1000)))] _ := .of HK.out.drew
      go_region_held3 (fun w' => ((w'.cell? ⟨w.heap.size, 0, none⟩ = some (.bool n0) ∧ w'.cell? ⟨w.heap.size, 1, none⟩ = some (.string s0) ∧ w'.cell? ⟨w.heap.size, 2, none⟩ = some (.int .i64 (e0))) ∧ (w'.cell? ⟨w.heap.size + 1, 0, none⟩ = some (.bool n1) ∧ w'.cell? ⟨w.heap.size + 1, 1, none⟩ = some (.string s1) ∧ w'.cell? ⟨w.heap.size + 1, 2, none⟩ = some (.int .i64 (e1))) ∧ (w'.cell? ⟨w2.heap.size, 0, none⟩ = some (.bool true) ∧ w'.cell? ⟨w2.heap.size, 1, none⟩ = some (.string (zstr Z)) ∧ w'.cell? ⟨w2.heap.size, 2, none⟩ = some (.int .i64 (zexp Z (-1000)))) ∧ True) ∧ Hid (Kept3 w [(w.heap.size, .bool n0, .string s0, .int .i64 (e0)), (w.heap.size + 1, .bool n1, .string s1, .int .i64 (e1)), (w2.heap.size, .bool true, .string (zstr Z), .int .i64 (zexp Z (-1000)))] w')) (assumption)
        (first
          | (go_at_call 9; refine (answers06_c _ (Sd.pw (w0 := w) (L := [(w.heap.size, .bool n0, .string s0, .int .i64 (e0)), (w.heap.size + 1, .bool n1, .string s1, .int .i64 (e1)), (w2.heap.size, .bool true, .string (zstr Z), .int .i64 (zexp Z (-1000)))]) (by assumption))).mono ?_; rintro r w1 ⟨rfl, hb⟩; have hS := Sd.keep (w0 := w) (L := [(w.heap.size, .bool n0, .string s0, .int .i64 (e0)), (w.heap.size + 1, .bool n1, .string s1, .int .i64 (e1)), (w2.heap.size, .bool true, .string (zstr Z), .int .i64 (zexp Z (-1000)))]) (by assumption) hb; clear hb)
          | (go_at_call 16; refine (refCmp_d HV0.out HV1.out HC.out (Sd.pw (w0 := w) (L := [(w.heap.size, .bool n0, .string s0, .int .i64 (e0)), (w.heap.size + 1, .bool n1, .string s1, .int .i64 (e1)), (w2.heap.size, .bool true, .string (zstr Z), .int .i64 (zexp Z (-1000)))]) (by assumption))).mono ?_; rintro r w1 ⟨rfl, hb⟩; have hS := Sd.keep (w0 := w) (L := [(w.heap.size, .bool n0, .string s0, .int .i64 (e0)), (w.heap.size + 1, .bool n1, .string s1, .int .i64 (e1)), (w2.heap.size, .bool true, .string (zstr Z), .int .i64 (zexp Z (-1000)))]) (by assumption) hb; clear hb))
      rename_i hHeld
      clear hHeld
      have HB := Lib.hid hS.bel
      clear hS
      go_wp2
      go_ret
      exact ⟨rfl, HB.out⟩
    · have HC := Lib.hid (show cmpZ V0 V1 = 0 by exact cmpZ_eq hc)
      rw [show zneg Z = false by unfold zneg; exact decide_eq_false (by omega)] at HSUB
      rw [decide_eq_true (by omega)] at hzs
      clear hc hZ
      go_enter Tryd.func6, Tryd.ntmps6
      go_wp2_with fail
      refine (HG.out _ _ (by simp) HK.out.1).mono ?_
      rintro r w1 ⟨rfl, hb⟩
      have hk := HK.out.keep hb
      replace HK := Lib.hid hk
      clear hk hb
      obtain ⟨⟨⟨c00, c01, c02⟩, ⟨c10, c11, c12⟩, -⟩, -⟩ := Sd.of HK.out
      go_wp2_with fail
      refine (HSUB.out _ HK.out.1).mono ?_
      rintro r w2 ⟨rfl, hb⟩
      clear c00 c01 c02 c10 c11 c12
      have hk := HK.out.keep hb
      replace HK := Lib.hid hk
      clear hk hb
      obtain ⟨⟨⟨c00, c01, c02⟩, ⟨c10, c11, c12⟩, -⟩, -⟩ := Sd.of HK.out
      clear c00 c01 c02 c10 c11 c12
      have HK2 := Lib.hid (show Kept3 w [(w.heap.size, .bool n0, .string s0, .int .i64 (e0)), (w.heap.size + 1, .bool n1, .string s1, .int .i64 (e1)), (w2.heap.size, .bool false, .string (zstr Z), .int .i64 (zexp Z (-1000)))] _ from HK.out.grow (.bool false) (.string (zstr Z)) (.int .i64 (zexp Z (-1000))) 23)
      clear HK
      have HK := Lib.hid HK2.out
      clear HK2
      go_wp2
      have hS : Sd w [(w.heap.size, .bool n0, .string s0, .int .i64 (e0)), (w.heap.size + 1, .bool n1, .string s1, .int .i64 (e1)), (w2.heap.size, .bool false, .string (zstr Z), .int .i64 (zexp Z (-1000)))] _ := .of HK.out.drew
      go_region_held3 (fun w' => ((w'.cell? ⟨w.heap.size, 0, none⟩ = some (.bool n0) ∧ w'.cell? ⟨w.heap.size, 1, none⟩ = some (.string s0) ∧ w'.cell? ⟨w.heap.size, 2, none⟩ = some (.int .i64 (e0))) ∧ (w'.cell? ⟨w.heap.size + 1, 0, none⟩ = some (.bool n1) ∧ w'.cell? ⟨w.heap.size + 1, 1, none⟩ = some (.string s1) ∧ w'.cell? ⟨w.heap.size + 1, 2, none⟩ = some (.int .i64 (e1))) ∧ (w'.cell? ⟨w2.heap.size, 0, none⟩ = some (.bool false) ∧ w'.cell? ⟨w2.heap.size, 1, none⟩ = some (.string (zstr Z)) ∧ w'.cell? ⟨w2.heap.size, 2, none⟩ = some (.int .i64 (zexp Z (-1000)))) ∧ True) ∧ Hid (Kept3 w [(w.heap.size, .bool n0, .string s0, .int .i64 (e0)), (w.heap.size + 1, .bool n1, .string s1, .int .i64 (e1)), (w2.heap.size, .bool false, .string (zstr Z), .int .i64 (zexp Z (-1000)))] w')) (assumption)
        (first
          | (go_at_call 9; refine (answers06_c _ (Sd.pw (w0 := w) (L := [(w.heap.size, .bool n0, .string s0, .int .i64 (e0)), (w.heap.size + 1, .bool n1, .string s1, .int .i64 (e1)), (w2.heap.size, .bool false, .string (zstr Z), .int .i64 (zexp Z (-1000)))]) (by assumption))).mono ?_; rintro r w1 ⟨rfl, hb⟩; have hS := Sd.keep (w0 := w) (L := [(w.heap.size, .bool n0, .string s0, .int .i64 (e0)), (w.heap.size + 1, .bool n1, .string s1, .int .i64 (e1)), (w2.heap.size, .bool false, .string (zstr Z), .int .i64 (zexp Z (-1000)))]) (by assumption) hb; clear hb)
          | (go_at_call 16; refine (refCmp_d HV0.out HV1.out HC.out (Sd.pw (w0 := w) (L := [(w.heap.size, .bool n0, .string s0, .int .i64 (e0)), (w.heap.size + 1, .bool n1, .string s1, .int .i64 (e1)), (w2.heap.size, .bool false, .string (zstr Z), .int .i64 (zexp Z (-1000)))]) (by assumption))).mono ?_; rintro r w1 ⟨rfl, hb⟩; have hS := Sd.keep (w0 := w) (L := [(w.heap.size, .bool n0, .string s0, .int .i64 (e0)), (w.heap.size + 1, .bool n1, .string s1, .int .i64 (e1)), (w2.heap.size, .bool false, .string (zstr Z), .int .i64 (zexp Z (-1000)))]) (by assumption) hb; clear hb))
      rename_i hHeld
      clear hHeld
      have HB := Lib.hid hS.bel
      clear hS
      go_wp2
      go_ret
      exact ⟨rfl, HB.out⟩
    · have HC := Lib.hid (show cmpZ V0 V1 = 1 by exact cmpZ_gt hc)
      rw [show zneg Z = false by unfold zneg; exact decide_eq_false (by omega)] at HSUB
      rw [decide_eq_false (by omega)] at hzs
      clear hc hZ
      go_enter Tryd.func6, Tryd.ntmps6
      go_wp2_with fail
      refine (HG.out _ _ (by simp) HK.out.1).mono ?_
      rintro r w1 ⟨rfl, hb⟩
      have hk := HK.out.keep hb
      replace HK := Lib.hid hk
      clear hk hb
      obtain ⟨⟨⟨c00, c01, c02⟩, ⟨c10, c11, c12⟩, -⟩, -⟩ := Sd.of HK.out
      go_wp2_with fail
      refine (HSUB.out _ HK.out.1).mono ?_
      rintro r w2 ⟨rfl, hb⟩
      clear c00 c01 c02 c10 c11 c12
      have hk := HK.out.keep hb
      replace HK := Lib.hid hk
      clear hk hb
      obtain ⟨⟨⟨c00, c01, c02⟩, ⟨c10, c11, c12⟩, -⟩, -⟩ := Sd.of HK.out
      clear c00 c01 c02 c10 c11 c12
      have HK2 := Lib.hid (show Kept3 w [(w.heap.size, .bool n0, .string s0, .int .i64 (e0)), (w.heap.size + 1, .bool n1, .string s1, .int .i64 (e1)), (w2.heap.size, .bool false, .string (zstr Z), .int .i64 (zexp Z (-1000)))] _ from HK.out.grow (.bool false) (.string (zstr Z)) (.int .i64 (zexp Z (-1000))) 23)
      clear HK
      have HK := Lib.hid HK2.out
      clear HK2
      go_wp2
      have hS : Sd w [(w.heap.size, .bool n0, .string s0, .int .i64 (e0)), (w.heap.size + 1, .bool n1, .string s1, .int .i64 (e1)), (w2.heap.size, .bool false, .string (zstr Z), .int .i64 (zexp Z (-1000)))] _ := .of HK.out.drew
      go_region_held3 (fun w' => ((w'.cell? ⟨w.heap.size, 0, none⟩ = some (.bool n0) ∧ w'.cell? ⟨w.heap.size, 1, none⟩ = some (.string s0) ∧ w'.cell? ⟨w.heap.size, 2, none⟩ = some (.int .i64 (e0))) ∧ (w'.cell? ⟨w.heap.size + 1, 0, none⟩ = some (.bool n1) ∧ w'.cell? ⟨w.heap.size + 1, 1, none⟩ = some (.string s1) ∧ w'.cell? ⟨w.heap.size + 1, 2, none⟩ = some (.int .i64 (e1))) ∧ (w'.cell? ⟨w2.heap.size, 0, none⟩ = some (.bool false) ∧ w'.cell? ⟨w2.heap.size, 1, none⟩ = some (.string (zstr Z)) ∧ w'.cell? ⟨w2.heap.size, 2, none⟩ = some (.int .i64 (zexp Z (-1000)))) ∧ True) ∧ Hid (Kept3 w [(w.heap.size, .bool n0, .string s0, .int .i64 (e0)), (w.heap.size + 1, .bool n1, .string s1, .int .i64 (e1)), (w2.heap.size, .bool false, .string (zstr Z), .int .i64 (zexp Z (-1000)))] w')) (assumption)
        (first
          | (go_at_call 9; refine (answers06_c _ (Sd.pw (w0 := w) (L := [(w.heap.size, .bool n0, .string s0, .int .i64 (e0)), (w.heap.size + 1, .bool n1, .string s1, .int .i64 (e1)), (w2.heap.size, .bool false, .string (zstr Z), .int .i64 (zexp Z (-1000)))]) (by assumption))).mono ?_; rintro r w1 ⟨rfl, hb⟩; have hS := Sd.keep (w0 := w) (L := [(w.heap.size, .bool n0, .string s0, .int .i64 (e0)), (w.heap.size + 1, .bool n1, .string s1, .int .i64 (e1)), (w2.heap.size, .bool false, .string (zstr Z), .int .i64 (zexp Z (-1000)))]) (by assumption) hb; clear hb)
          | (go_at_call 16; refine (refCmp_d HV0.out HV1.out HC.out (Sd.pw (w0 := w) (L := [(w.heap.size, .bool n0, .string s0, .int .i64 (e0)), (w.heap.size + 1, .bool n1, .string s1, .int .i64 (e1)), (w2.heap.size, .bool false, .string (zstr Z), .int .i64 (zexp Z (-1000)))]) (by assumption))).mono ?_; rintro r w1 ⟨rfl, hb⟩; have hS := Sd.keep (w0 := w) (L := [(w.heap.size, .bool n0, .string s0, .int .i64 (e0)), (w.heap.size + 1, .bool n1, .string s1, .int .i64 (e1)), (w2.heap.size, .bool false, .string (zstr Z), .int .i64 (zexp Z (-1000)))]) (by assumption) hb; clear hb))
      rename_i hHeld
      clear hHeld
      have HB := Lib.hid hS.bel
      clear hS
      go_wp2
      go_ret
      exact ⟨rfl, HB.out⟩
end Go.Proofs.YtbjdledincahkaaDoor
