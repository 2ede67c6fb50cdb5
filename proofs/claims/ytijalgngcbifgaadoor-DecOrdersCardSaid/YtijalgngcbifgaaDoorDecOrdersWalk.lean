/-
  DecOrders: the walk.
-/
import Derived.Test.YtijalgngcbifgaaDoorDec8
namespace Go.Proofs.YtijalgngcbifgaaDoor
open Go.RowKit
set_option maxHeartbeats 4000000 in
set_option maxRecDepth 100000 in
theorem walk_decOrders (n0 : Bool) (s0 : ByteArray) (e0 : Int) (n1 : Bool) (s1 : ByteArray) (e1 : Int) (w : World) (h0 : s0.size ≤ maxLen) (h1 : s1.size ≤ maxLen) (hP : Pw w) :
    Calls Tryd.prog 5 #[.agg #[.bool n0, .string s0, .int .i64 e0], .agg #[.bool n1, .string s1, .int .i64 e1]] w fun e w' => e = .returned (.bool true) ∧ Below w.heap.size w w' := by
  have HK := Lib.hid (kept_two w (.bool n0) (.string s0) (.int .i64 e0) (.bool n1) (.string s1) (.int .i64 e1) 23 hP)
  clear hP
  have HG0 := Lib.hid (fun w hP => ref5Good_c n0 s0 e0 w h0 hP)
  have HG1 := Lib.hid (fun w hP => ref5Good_c n1 s1 e1 w h1 hP)
  rcases hg0 : goodB s0 e0 with _ | _
  · rw [hg0] at HG0
    have HN0 := Lib.hid hg0
    clear hg0
    go_enter Tryd.func5, Tryd.ntmps5
    go_wp2_with fail
    refine (HG0.out _ HK.out.1).mono ?_
    rintro r w1 ⟨rfl, hb⟩
    have hk := HK.out.keep hb
    replace HK := Lib.hid hk
    clear hk hb
    obtain ⟨⟨⟨c00, c01, c02⟩, ⟨c10, c11, c12⟩, -⟩, -⟩ := Sd.of HK.out
    go_wp2_with fail
    refine (answers05_c _ HK.out.1).mono ?_
    rintro r w2 ⟨rfl, hb⟩
    clear c00 c01 c02 c10 c11 c12
    have hk := HK.out.keep hb
    replace HK := Lib.hid hk
    clear hk hb
    obtain ⟨⟨⟨c00, c01, c02⟩, ⟨c10, c11, c12⟩, -⟩, -⟩ := Sd.of HK.out
    go_wp2
    go_ret
    exact ⟨rfl, HK.out.2.1⟩
  · rw [hg0] at HG0
    have HD0 := Lib.hid (DA.of_good hg0)
    have HY0 := Lib.hid hg0
    clear hg0
    generalize dval (bdigs s0) = N0 at *
    rcases hg1 : goodB s1 e1 with _ | _
    · rw [hg1] at HG1
      have HN1 := Lib.hid hg1
      clear hg1
      go_enter Tryd.func5, Tryd.ntmps5
      go_wp2_with fail
      refine (HG0.out _ HK.out.1).mono ?_
      rintro r w1 ⟨rfl, hb⟩
      have hk := HK.out.keep hb
      replace HK := Lib.hid hk
      clear hk hb
      obtain ⟨⟨⟨c00, c01, c02⟩, ⟨c10, c11, c12⟩, -⟩, -⟩ := Sd.of HK.out
      go_wp2_with fail
      refine (HG1.out _ HK.out.1).mono ?_
      rintro r w2 ⟨rfl, hb⟩
      clear c00 c01 c02 c10 c11 c12
      have hk := HK.out.keep hb
      replace HK := Lib.hid hk
      clear hk hb
      obtain ⟨⟨⟨c00, c01, c02⟩, ⟨c10, c11, c12⟩, -⟩, -⟩ := Sd.of HK.out
      go_wp2_with fail
      refine (answers05_c _ HK.out.1).mono ?_
      rintro r w3 ⟨rfl, hb⟩
      clear c00 c01 c02 c10 c11 c12
      have hk := HK.out.keep hb
      replace HK := Lib.hid hk
      clear hk hb
      obtain ⟨⟨⟨c00, c01, c02⟩, ⟨c10, c11, c12⟩, -⟩, -⟩ := Sd.of HK.out
      go_wp2
      go_ret
      exact ⟨rfl, HK.out.2.1⟩
    · rw [hg1] at HG1
      have HD1 := Lib.hid (DA.of_good hg1)
      have HY1 := Lib.hid hg1
      clear hg1
      generalize dval (bdigs s1) = N1 at *
      go_enter Tryd.func5, Tryd.ntmps5
      go_wp2_with fail
      refine (HG0.out _ HK.out.1).mono ?_
      rintro r w1 ⟨rfl, hb⟩
      have hk := HK.out.keep hb
      replace HK := Lib.hid hk
      clear hk hb
      obtain ⟨⟨⟨c00, c01, c02⟩, ⟨c10, c11, c12⟩, -⟩, -⟩ := Sd.of HK.out
      go_wp2_with fail
      refine (HG1.out _ HK.out.1).mono ?_
      rintro r w2 ⟨rfl, hb⟩
      clear c00 c01 c02 c10 c11 c12
      have hk := HK.out.keep hb
      replace HK := Lib.hid hk
      clear hk hb
      obtain ⟨⟨⟨c00, c01, c02⟩, ⟨c10, c11, c12⟩, -⟩, -⟩ := Sd.of HK.out
      obtain ⟨C, hC⟩ : ∃ C, cmpV n0 N0 e0 n1 N1 e1 = C := ⟨_, rfl⟩
      have HC1 := Lib.hid hC
      have hcb := cmpV_bound n0 N0 e0 n1 N1 e1
      rw [hC] at hcb
      obtain ⟨hc1, hc2⟩ := hcb
      have HC2 := Lib.hid (show cmpV n1 N1 e1 n0 N0 e0 = -C by rw [cmpV_turn, hC])
      clear hC
      have hwn : IntKind.i64.wrap (-C) = -C := IntWalk.i64_in _ (by omega)
      go_wp2
      clear c00 c01 c02 c10 c11 c12
      have hS : Sd w [(w.heap.size, .bool n0, .string s0, .int .i64 (e0)), (w.heap.size + 1, .bool n1, .string s1, .int .i64 (e1))] _ := .of HK.out.drew
      go_region_held3 (fun w' => ((w'.cell? ⟨w.heap.size, 0, none⟩ = some (.bool n0) ∧ w'.cell? ⟨w.heap.size, 1, none⟩ = some (.string s0) ∧ w'.cell? ⟨w.heap.size, 2, none⟩ = some (.int .i64 (e0))) ∧ (w'.cell? ⟨w.heap.size + 1, 0, none⟩ = some (.bool n1) ∧ w'.cell? ⟨w.heap.size + 1, 1, none⟩ = some (.string s1) ∧ w'.cell? ⟨w.heap.size + 1, 2, none⟩ = some (.int .i64 (e1))) ∧ True) ∧ Hid (Kept3 w [(w.heap.size, .bool n0, .string s0, .int .i64 (e0)), (w.heap.size + 1, .bool n1, .string s1, .int .i64 (e1))] w')) (assumption)
        (first
          | (go_at_call 11; refine (answers05_c _ (Sd.pw (w0 := w) (L := [(w.heap.size, .bool n0, .string s0, .int .i64 (e0)), (w.heap.size + 1, .bool n1, .string s1, .int .i64 (e1))]) (by assumption))).mono ?_; rintro r w1 ⟨rfl, hb⟩; have hS := Sd.keep (w0 := w) (L := [(w.heap.size, .bool n0, .string s0, .int .i64 (e0)), (w.heap.size + 1, .bool n1, .string s1, .int .i64 (e1))]) (by assumption) hb; clear hb)
          | (go_at_call 23; refine (decCmp_v _ _ _ _ _ _ _ _ _ _ _ (by first | exact HD0.out | exact HD1.out) (by first | exact HD0.out | exact HD1.out) (by first | exact HC1.out | exact HC2.out) (by omega) (Sd.pw (w0 := w) (L := [(w.heap.size, .bool n0, .string s0, .int .i64 (e0)), (w.heap.size + 1, .bool n1, .string s1, .int .i64 (e1))]) (by assumption))).mono ?_; rintro r w1 ⟨rfl, hb⟩; have hS := Sd.keep (w0 := w) (L := [(w.heap.size, .bool n0, .string s0, .int .i64 (e0)), (w.heap.size + 1, .bool n1, .string s1, .int .i64 (e1))]) (by assumption) hb; clear hb)
          | (go_at_call 24; refine (ref5Cmp_v _ _ _ _ _ _ _ _ _ _ _ (by first | exact HD0.out | exact HD1.out) (by first | exact HD0.out | exact HD1.out) (by first | exact HC1.out | exact HC2.out) (by omega) (Sd.pw (w0 := w) (L := [(w.heap.size, .bool n0, .string s0, .int .i64 (e0)), (w.heap.size + 1, .bool n1, .string s1, .int .i64 (e1))]) (by assumption))).mono ?_; rintro r w1 ⟨rfl, hb⟩; have hS := Sd.keep (w0 := w) (L := [(w.heap.size, .bool n0, .string s0, .int .i64 (e0)), (w.heap.size + 1, .bool n1, .string s1, .int .i64 (e1))]) (by assumption) hb; clear hb))
      rename_i hHeld
      clear hHeld
      have HB := Lib.hid hS.bel
      clear hS
      go_wp2
      go_ret
      exact ⟨rfl, HB.out⟩
end Go.Proofs.YtijalgngcbifgaaDoor
