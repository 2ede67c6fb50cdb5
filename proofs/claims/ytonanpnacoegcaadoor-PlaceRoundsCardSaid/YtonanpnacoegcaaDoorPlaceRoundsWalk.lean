/-
  PlaceRounds: the walk.
-/
import Derived.Test.YtonanpnacoegcaaDoorU8
set_option maxRecDepth 100000
namespace Go.Proofs.YtonanpnacoegcaaDoor
open Go.RowKit
attribute [local go_sem] dec_field0 dec_field1 dec_field2 in
set_option maxHeartbeats 16000000 in
set_option maxRecDepth 100000 in
theorem walk_placeRounds (m : Int) (nd : Bool) (sd : ByteArray) (ed : Int) (a : Int) (w : World) (hm : -9223372036854775808 ≤ m ∧ m ≤ 9223372036854775807) (hd : sd.size ≤ maxLen) (ha : -9223372036854775808 ≤ a ∧ a ≤ 9223372036854775807) (hP : Pw w) :
    Calls Tryd.prog 3 #[.int .i64 m, .agg #[.bool nd, .string sd, .int .i64 ed], .int .i64 a] w fun e w' => e = .returned (.bool true) ∧ Below w.heap.size w w' := by
  have HK := Lib.hid (kept_one w (.bool nd) (.string sd) (.int .i64 ed) 23 hP)
  clear hP
  have HG := Lib.hid (fun w hP => good08_c nd sd ed a w hd hP)
  rcases hg : g8 sd ed a with _ | _
  · rw [hg] at HG
    clear hg
    go_enter Tryd.func3, Tryd.ntmps3
    go_wp2_with fail
    refine (HG.out _ HK.out.1).mono ?_
    rintro r w1 ⟨rfl, hb⟩
    have hk := HK.out.keep hb
    replace HK := Lib.hid hk
    clear hk hb
    obtain ⟨⟨⟨c00, c01, c02⟩, -⟩, -⟩ := Sd.of HK.out
    go_wp2_with fail
    refine (answers08_c _ HK.out.1).mono ?_
    rintro r w2 ⟨rfl, hb⟩
    clear c00 c01 c02
    have hk := HK.out.keep hb
    replace HK := Lib.hid hk
    clear hk hb
    obtain ⟨⟨⟨c00, c01, c02⟩, -⟩, -⟩ := Sd.of HK.out
    go_wp2
    go_ret
    exact ⟨rfl, HK.out.2.1⟩
  · rw [hg] at HG
    obtain ⟨hf, ha1, ha2, he1, he2⟩ := g8_true hg
    obtain ⟨X, hu, hl⟩ := DU.of_fine (k := -400) hf (by omega) (by omega) (by omega)
    have HU := Lib.hid hu
    clear hg hf hu
    by_cases hm1 : m < 0
    · have HR := Lib.hid (fun w => placeRound_no m nd sd ed a w (isWay_false (by omega)))
      go_enter Tryd.func3, Tryd.ntmps3
      go_wp2_with fail
      refine (HG.out _ HK.out.1).mono ?_
      rintro r w1 ⟨rfl, hb⟩
      have hk := HK.out.keep hb
      replace HK := Lib.hid hk
      clear hk hb
      obtain ⟨⟨⟨c00, c01, c02⟩, -⟩, -⟩ := Sd.of HK.out
      go_wp2_with fail
      refine (HR.out _).mono ?_
      rintro r w2 ⟨rfl, hb⟩
      clear c00 c01 c02
      have hk := HK.out.keep hb
      replace HK := Lib.hid hk
      clear hk hb
      replace HK := Lib.hid (show Kept3 w [(w.heap.size, .bool nd, .string sd, .int .i64 (ed)), (w2.heap.size, .bool false, .string ⟨#[]⟩, .int .i64 (0))] (w2.alloc (.cells #[.bool false, .string ⟨#[]⟩, .int .i64 (0)] 23)) from HK.out.grow _ _ _ _)
      obtain ⟨⟨⟨c00, c01, c02⟩, ⟨c10, c11, c12⟩, -⟩, -⟩ := Sd.of HK.out
      go_wp2_with fail
      refine (answers08_c _ HK.out.1).mono ?_
      rintro r w3 ⟨rfl, hb⟩
      clear c00 c01 c02 c10 c11 c12
      have hk := HK.out.keep hb
      replace HK := Lib.hid hk
      clear hk hb
      obtain ⟨⟨⟨c00, c01, c02⟩, ⟨c10, c11, c12⟩, -⟩, -⟩ := Sd.of HK.out
      go_wp2
      go_ret
      exact ⟨rfl, HK.out.2.1⟩
    · by_cases hm2 : 7 < m
      · have HR := Lib.hid (fun w => placeRound_no m nd sd ed a w (isWay_false (by omega)))
        go_enter Tryd.func3, Tryd.ntmps3
        go_wp2_with fail
        refine (HG.out _ HK.out.1).mono ?_
        rintro r w1 ⟨rfl, hb⟩
        have hk := HK.out.keep hb
        replace HK := Lib.hid hk
        clear hk hb
        obtain ⟨⟨⟨c00, c01, c02⟩, -⟩, -⟩ := Sd.of HK.out
        go_wp2_with fail
        refine (HR.out _).mono ?_
        rintro r w2 ⟨rfl, hb⟩
        clear c00 c01 c02
        have hk := HK.out.keep hb
        replace HK := Lib.hid hk
        clear hk hb
        replace HK := Lib.hid (show Kept3 w [(w.heap.size, .bool nd, .string sd, .int .i64 (ed)), (w2.heap.size, .bool false, .string ⟨#[]⟩, .int .i64 (0))] (w2.alloc (.cells #[.bool false, .string ⟨#[]⟩, .int .i64 (0)] 23)) from HK.out.grow _ _ _ _)
        obtain ⟨⟨⟨c00, c01, c02⟩, ⟨c10, c11, c12⟩, -⟩, -⟩ := Sd.of HK.out
        go_wp2_with fail
        refine (answers08_c _ HK.out.1).mono ?_
        rintro r w3 ⟨rfl, hb⟩
        clear c00 c01 c02 c10 c11 c12
        have hk := HK.out.keep hb
        replace HK := Lib.hid hk
        clear hk hb
        obtain ⟨⟨⟨c00, c01, c02⟩, ⟨c10, c11, c12⟩, -⟩, -⟩ := Sd.of HK.out
        go_wp2
        go_ret
        exact ⟨rfl, HK.out.2.1⟩
      · obtain ⟨n', s', e', c, hv⟩ := rndV_shape m nd X (10 ^ (a - -400).toNat) (-400)
        have HR := Lib.hid (fun (w : World) (hP : Pw w) => placeRound_u (w := w) (isWay_true (by omega) (by omega)) HU.out (by omega) (by omega) rfl hv hP)
        have HQ := Lib.hid (fun (w : World) (hP : Pw w) => ref5Round_u (p := a) (w := w) HU.out da_one (by omega) (by omega) (by omega) (Nat.one_mul _) (by have := pow_len (a - -400).toNat; omega) hv hP)
        clear hv
        go_enter Tryd.func3, Tryd.ntmps3
        go_wp2_with fail
        refine (HG.out _ HK.out.1).mono ?_
        rintro r w1 ⟨rfl, hb⟩
        have hk := HK.out.keep hb
        replace HK := Lib.hid hk
        clear hk hb
        obtain ⟨⟨⟨c00, c01, c02⟩, -⟩, -⟩ := Sd.of HK.out
        go_wp2_with fail
        refine (HR.out _ HK.out.1).mono ?_
        rintro r w2 ⟨rfl, hb⟩
        clear c00 c01 c02
        have hk := HK.out.keep hb
        replace HK := Lib.hid hk
        clear hk hb
        replace HK := Lib.hid (show Kept3 w [(w.heap.size, .bool nd, .string sd, .int .i64 (ed)), (w2.heap.size, .bool n', .string s', .int .i64 (e'))] (w2.alloc (.cells #[.bool n', .string s', .int .i64 (e')] 23)) from HK.out.grow _ _ _ _)
        obtain ⟨⟨⟨c00, c01, c02⟩, ⟨c10, c11, c12⟩, -⟩, -⟩ := Sd.of HK.out
        go_wp2_with fail
        refine (HQ.out _ HK.out.1).mono ?_
        rintro r w3 ⟨rfl, hb⟩
        clear c00 c01 c02 c10 c11 c12
        have hk := HK.out.keep hb
        replace HK := Lib.hid hk
        clear hk hb
        replace HK := Lib.hid (show Kept3 w [(w.heap.size, .bool nd, .string sd, .int .i64 (ed)), (w2.heap.size, .bool n', .string s', .int .i64 (e')), (w3.heap.size, .bool n', .string s', .int .i64 (e'))] (w3.alloc (.cells #[.bool n', .string s', .int .i64 (e')] 23)) from HK.out.grow _ _ _ _)
        obtain ⟨⟨⟨c00, c01, c02⟩, ⟨c10, c11, c12⟩, ⟨c20, c21, c22⟩, -⟩, -⟩ := Sd.of HK.out
        go_wp2_with fail
        refine (answers08_c _ HK.out.1).mono ?_
        rintro r w4 ⟨rfl, hb⟩
        clear c00 c01 c02 c10 c11 c12 c20 c21 c22
        have hk := HK.out.keep hb
        replace HK := Lib.hid hk
        clear hk hb
        obtain ⟨⟨⟨c00, c01, c02⟩, ⟨c10, c11, c12⟩, ⟨c20, c21, c22⟩, -⟩, -⟩ := Sd.of HK.out
        go_wp2
        go_ret
        exact ⟨rfl, HK.out.2.1⟩
end Go.Proofs.YtonanpnacoegcaaDoor
