/-
  ArithMuls: the walk.
-/
import Derived.Test.YtbjdledincahkaaDoorAn6
namespace Go.Proofs.YtbjdledincahkaaDoor
open Go.RowKit
set_option maxHeartbeats 4000000 in
set_option maxRecDepth 100000 in
theorem walk_arithMuls (n0 : Bool) (s0 : ByteArray) (e0 : Int) (n1 : Bool) (s1 : ByteArray) (e1 : Int) (w : World) (h0 : s0.size ≤ maxLen) (h1 : s1.size ≤ maxLen) (hP : Pw w) :
    Calls Tryd.prog 4 #[.agg #[.bool n0, .string s0, .int .i64 e0], .agg #[.bool n1, .string s1, .int .i64 e1]] w fun e w' => e = .returned (.bool true) ∧ Below w.heap.size w w' := by
  have HK := Lib.hid (kept_two w (.bool n0) (.string s0) (.int .i64 e0) (.bool n1) (.string s1) (.int .i64 e1) 23 hP)
  clear hP
  have HG := Lib.hid (fun b w hg hP => good06_2 n0 n1 s0 s1 e0 e1 b w hg h0 h1 hP)
  rcases hgg : (fineD 200 s0 e0 && fineD 200 s1 e1) with _ | _
  · rw [hgg] at HG
    clear hgg
    go_enter Tryd.func4, Tryd.ntmps4
    go_wp2_with fail
    refine (HG.out _ _ (by simp) HK.out.1).mono ?_
    rintro r w1 ⟨rfl, hb⟩
    have hk := HK.out.keep hb
    replace HK := Lib.hid hk
    clear hk hb
    obtain ⟨⟨⟨c00, c01, c02⟩, ⟨c10, c11, c12⟩, -⟩, -⟩ := Sd.of HK.out
    go_wp2_with fail
    refine (answers06_c _ HK.out.1).mono ?_
    rintro r w2 ⟨rfl, hb⟩
    clear c00 c01 c02 c10 c11 c12
    have hk := HK.out.keep hb
    replace HK := Lib.hid hk
    clear hk hb
    obtain ⟨⟨⟨c00, c01, c02⟩, ⟨c10, c11, c12⟩, -⟩, -⟩ := Sd.of HK.out
    go_wp2
    go_ret
    exact ⟨rfl, HK.out.2.1⟩
  · rw [hgg] at HG
    simp only [Bool.and_eq_true] at hgg
    obtain ⟨hf0, hf1⟩ := hgg
    obtain ⟨V0, hv0, hl0⟩ := DV.fine n0 hf0 (by omega)
    have HV0 := Lib.hid hv0
    clear hv0 hf0
    obtain ⟨V1, hv1, hl1⟩ := DV.fine n1 hf1 (by omega)
    have HV1 := Lib.hid hv1
    clear hv1 hf1
    obtain ⟨S, hS1⟩ : ∃ S, V0 * V1 = S := ⟨_, rfl⟩
    have HL := Lib.hid (show (decs S.natAbs).length ≤ 4900 by have := len_mul hl0 hl1; rw [hS1] at this; omega)
    have HE1 := Lib.hid hS1
    clear hS1 hl0 hl1
    go_enter Tryd.func4, Tryd.ntmps4
    go_wp2_with fail
    refine (HG.out _ _ (by simp) HK.out.1).mono ?_
    rintro r w1 ⟨rfl, hb⟩
    have hk := HK.out.keep hb
    replace HK := Lib.hid hk
    clear hk hb
    obtain ⟨⟨⟨c00, c01, c02⟩, ⟨c10, c11, c12⟩, -⟩, -⟩ := Sd.of HK.out
    go_wp2
    clear c00 c01 c02 c10 c11 c12
    have hS : Sd w [(w.heap.size, .bool n0, .string s0, .int .i64 (e0)), (w.heap.size + 1, .bool n1, .string s1, .int .i64 (e1))] _ := .of HK.out.drew
    go_region_held3 (fun w' => ((w'.cell? ⟨w.heap.size, 0, none⟩ = some (.bool n0) ∧ w'.cell? ⟨w.heap.size, 1, none⟩ = some (.string s0) ∧ w'.cell? ⟨w.heap.size, 2, none⟩ = some (.int .i64 (e0))) ∧ (w'.cell? ⟨w.heap.size + 1, 0, none⟩ = some (.bool n1) ∧ w'.cell? ⟨w.heap.size + 1, 1, none⟩ = some (.string s1) ∧ w'.cell? ⟨w.heap.size + 1, 2, none⟩ = some (.int .i64 (e1))) ∧ True) ∧ Hid (Kept3 w [(w.heap.size, .bool n0, .string s0, .int .i64 (e0)), (w.heap.size + 1, .bool n1, .string s1, .int .i64 (e1))] w')) (assumption)
      (first
        | (go_at_call 9; refine (answers06_c _ (Sd.pw (w0 := w) (L := [(w.heap.size, .bool n0, .string s0, .int .i64 (e0)), (w.heap.size + 1, .bool n1, .string s1, .int .i64 (e1))]) (by assumption))).mono ?_; rintro r w1 ⟨rfl, hb⟩; have hS := Sd.keep (w0 := w) (L := [(w.heap.size, .bool n0, .string s0, .int .i64 (e0)), (w.heap.size + 1, .bool n1, .string s1, .int .i64 (e1))]) (by assumption) hb; clear hb)
        | (go_at_call 14; refine (mul_d (K := -2000) HV0.out HV1.out HE1.out (by omega) HL.out (Sd.pw (w0 := w) (L := [(w.heap.size, .bool n0, .string s0, .int .i64 (e0)), (w.heap.size + 1, .bool n1, .string s1, .int .i64 (e1))]) (by assumption))).mono ?_; rintro r w1 ⟨rfl, hb⟩; have hS := Sd.keep (w0 := w) (L := [(w.heap.size, .bool n0, .string s0, .int .i64 (e0)), (w.heap.size + 1, .bool n1, .string s1, .int .i64 (e1))]) (by assumption) hb; clear hb)
        | (go_at_call 15; refine (refProduct_d (K := -2000) HV0.out HV1.out HE1.out (by omega) HL.out (Sd.pw (w0 := w) (L := [(w.heap.size, .bool n0, .string s0, .int .i64 (e0)), (w.heap.size + 1, .bool n1, .string s1, .int .i64 (e1))]) (by assumption))).mono ?_; rintro r w1 ⟨rfl, hb⟩; have hS := Sd.keep (w0 := w) (L := [(w.heap.size, .bool n0, .string s0, .int .i64 (e0)), (w.heap.size + 1, .bool n1, .string s1, .int .i64 (e1))]) (by assumption) hb; clear hb))
    rename_i hHeld
    clear hHeld
    have HB := Lib.hid hS.bel
    clear hS
    go_wp2
    go_ret
    exact ⟨rfl, HB.out⟩
end Go.Proofs.YtbjdledincahkaaDoor
