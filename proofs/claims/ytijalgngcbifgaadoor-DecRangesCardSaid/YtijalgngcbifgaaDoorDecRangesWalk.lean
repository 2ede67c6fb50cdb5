/-
  DecRanges: the walk.
-/
import Derived.Test.YtijalgngcbifgaaDoorDec8
namespace Go.Proofs.YtijalgngcbifgaaDoor
open Go.RowKit
set_option maxHeartbeats 4000000 in
set_option maxRecDepth 100000 in
theorem walk_decRanges (n0 : Bool) (s0 : ByteArray) (e0 : Int) (w : World) (h0 : s0.size ≤ maxLen) (hP : Pw w) :
    Calls Tryd.prog 6 #[.agg #[.bool n0, .string s0, .int .i64 e0]] w fun e w' => e = .returned (.bool true) ∧ Below w.heap.size w w' := by
  have HK := Lib.hid (kept_one w (.bool n0) (.string s0) (.int .i64 e0) 23 hP)
  clear hP
  have HG0 := Lib.hid (fun w hP => ref5Good_c n0 s0 e0 w h0 hP)
  rcases hg0 : goodB s0 e0 with _ | _
  · rw [hg0] at HG0
    have HN0 := Lib.hid hg0
    clear hg0
    go_enter Tryd.func6, Tryd.ntmps6
    go_wp2_with fail
    refine (HG0.out _ HK.out.1).mono ?_
    rintro r w1 ⟨rfl, hb⟩
    have hk := HK.out.keep hb
    replace HK := Lib.hid hk
    clear hk hb
    obtain ⟨⟨⟨c00, c01, c02⟩, -⟩, -⟩ := Sd.of HK.out
    go_wp2_with fail
    refine (answers05_c _ HK.out.1).mono ?_
    rintro r w2 ⟨rfl, hb⟩
    clear c00 c01 c02
    have hk := HK.out.keep hb
    replace HK := Lib.hid hk
    clear hk hb
    obtain ⟨⟨⟨c00, c01, c02⟩, -⟩, -⟩ := Sd.of HK.out
    go_wp2
    go_ret
    exact ⟨rfl, HK.out.2.1⟩
  · rw [hg0] at HG0
    have HD0 := Lib.hid (DA.of_good hg0)
    have HY0 := Lib.hid hg0
    clear hg0
    generalize dval (bdigs s0) = N0 at *
    go_enter Tryd.func6, Tryd.ntmps6
    go_wp2_with fail
    refine (HG0.out _ HK.out.1).mono ?_
    rintro r w1 ⟨rfl, hb⟩
    have hk := HK.out.keep hb
    replace HK := Lib.hid hk
    clear hk hb
    obtain ⟨⟨⟨c00, c01, c02⟩, -⟩, -⟩ := Sd.of HK.out
    go_wp2
    clear c00 c01 c02
    have hS : Sd w [(w.heap.size, .bool n0, .string s0, .int .i64 (e0))] _ := .of HK.out.drew
    go_region_held3 (fun w' => ((w'.cell? ⟨w.heap.size, 0, none⟩ = some (.bool n0) ∧ w'.cell? ⟨w.heap.size, 1, none⟩ = some (.string s0) ∧ w'.cell? ⟨w.heap.size, 2, none⟩ = some (.int .i64 (e0))) ∧ True) ∧ Hid (Kept3 w [(w.heap.size, .bool n0, .string s0, .int .i64 (e0))] w')) (assumption)
      (first
        | (go_at_call 11; refine (answers05_c _ (Sd.pw (w0 := w) (L := [(w.heap.size, .bool n0, .string s0, .int .i64 (e0))]) (by assumption))).mono ?_; rintro r w1 ⟨rfl, hb⟩; have hS := Sd.keep (w0 := w) (L := [(w.heap.size, .bool n0, .string s0, .int .i64 (e0))]) (by assumption) hb; clear hb)
        | (go_at_call 25; refine (decRanged_v _ _ _ _ _ (rangedB N0 e0) _ (by first | exact HD0.out | exact HD0.out.norm) (by first | exact rangedB_norm _ _ | rfl) (by omega) (Sd.pw (w0 := w) (L := [(w.heap.size, .bool n0, .string s0, .int .i64 (e0))]) (by assumption))).mono ?_; rintro r w1 ⟨rfl, hb⟩; have hS := Sd.keep (w0 := w) (L := [(w.heap.size, .bool n0, .string s0, .int .i64 (e0))]) (by assumption) hb; clear hb)
        | (go_at_call 26; refine (ref5Ranged_c _ _ _ _ _ _ HD0.out (by omega) (Sd.pw (w0 := w) (L := [(w.heap.size, .bool n0, .string s0, .int .i64 (e0))]) (by assumption))).mono ?_; rintro r w1 ⟨rfl, hb⟩; have hS := Sd.keep (w0 := w) (L := [(w.heap.size, .bool n0, .string s0, .int .i64 (e0))]) (by assumption) hb; clear hb)
        | (go_at_call 13; refine (decNorm_c _ _ _ _ _ _ HD0.out (by omega) (Sd.pw (w0 := w) (L := [(w.heap.size, .bool n0, .string s0, .int .i64 (e0))]) (by assumption))).mono ?_; rintro r w1 ⟨rfl, hb⟩; have hS := Sd.keep (w0 := w) (L := [(w.heap.size, .bool n0, .string s0, .int .i64 (e0))]) (by assumption) hb; clear hb))
    rename_i hHeld
    clear hHeld
    have HB := Lib.hid hS.bel
    clear hS
    go_wp2
    go_ret
    exact ⟨rfl, HB.out⟩
end Go.Proofs.YtijalgngcbifgaaDoor
