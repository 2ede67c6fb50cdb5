/-
  Gd8: layer 8's good.
-/
import Derived.Test.YtonanpnacoegcaaDoorP8M
set_option maxRecDepth 100000
namespace Go.Proofs.YtonanpnacoegcaaDoor
open Go.RowKit
/-- May a decimal and a place be handed in? -/
def g8 (s : ByteArray) (e a : Int) : Bool := goodB s e && (decide (s.size ≤ 100) && (decide (-300 ≤ a) && (decide (a ≤ 300) && (decide (-300 ≤ e) && decide (e ≤ 300)))))
theorem g8_true {s : ByteArray} {e a : Int} (h : g8 s e a = true) : fineD 100 s e = true ∧ -300 ≤ a ∧ a ≤ 300 ∧ -300 ≤ e ∧ e ≤ 300 := by
  simp only [g8, Bool.and_eq_true, decide_eq_true_eq] at h
  obtain ⟨h1, h2, h3, h4, h5, h6⟩ := h
  exact ⟨by simp only [fineD, Bool.and_eq_true, decide_eq_true_eq]; exact ⟨h1, h2⟩, h3, h4, h5, h6⟩
attribute [local go_sem] dec_field0 dec_field1 dec_field2 in
set_option maxHeartbeats 4000000 in
set_option maxRecDepth 100000 in
theorem good08_c (n : Bool) (s : ByteArray) (e a : Int) (w : World) (hs : s.size ≤ maxLen) (hP : Pw w) :
    Calls Tryd.prog 9 #[.agg #[.bool n, .string s, .int .i64 e], .int .i64 a] w fun r w' => r = .returned (.bool (g8 s e a)) ∧ Below w.heap.size w w' := by
  have HG := Lib.hid (fun w hP => ref5Good_c n s e w hs hP)
  have HK := Lib.hid (kept_one w (.bool n) (.string s) (.int .i64 e) 23 hP)
  clear hP
  rcases hg : goodB s e with _ | _
  · have HR := Lib.hid (show g8 s e a = false by simp only [g8, hg]; rfl)
    rw [hg] at HG
    clear hg
    go_enter Tryd.func9, Tryd.ntmps9
    go_wp2_with fail
    refine (HG.out _ HK.out.1).mono ?_
    rintro r w1 ⟨rfl, hb⟩
    replace HK := Lib.hid (HK.out.keep hb)
    clear hb
    obtain ⟨c0, c1, c2, -, -, -, -⟩ := HK.out.one
    go_wp2
    go_ret
    exact ⟨ret_bool (by first | exact HR.out.symm | exact (decide_eq_false (by omega)).trans HR.out.symm), HK.out.2.1⟩
  · by_cases h0 : s.size ≤ 100
    · by_cases h1 : -300 ≤ a
      · by_cases h2 : a ≤ 300
        · by_cases h3 : -300 ≤ e
          · by_cases h4 : e ≤ 300
            · have HR := Lib.hid (show g8 s e a = true by simp only [g8, hg, decide_eq_true h0, decide_eq_true h1, decide_eq_true h2, decide_eq_true h3, decide_eq_true h4]; rfl)
              rw [hg] at HG
              clear hg
              go_enter Tryd.func9, Tryd.ntmps9
              go_wp2_with fail
              refine (HG.out _ HK.out.1).mono ?_
              rintro r w1 ⟨rfl, hb⟩
              replace HK := Lib.hid (HK.out.keep hb)
              clear hb
              obtain ⟨c0, c1, c2, -, -, -, -⟩ := HK.out.one
              go_wp2
              go_ret
              exact ⟨ret_bool (by first | exact HR.out.symm | exact (decide_eq_false (by omega)).trans HR.out.symm), HK.out.2.1⟩
            · have HR := Lib.hid (show g8 s e a = false by simp only [g8, hg, decide_eq_true h0, decide_eq_true h1, decide_eq_true h2, decide_eq_true h3, decide_eq_false h4]; rfl)
              rw [hg] at HG
              clear hg
              go_enter Tryd.func9, Tryd.ntmps9
              go_wp2_with fail
              refine (HG.out _ HK.out.1).mono ?_
              rintro r w1 ⟨rfl, hb⟩
              replace HK := Lib.hid (HK.out.keep hb)
              clear hb
              obtain ⟨c0, c1, c2, -, -, -, -⟩ := HK.out.one
              go_wp2
              go_ret
              exact ⟨ret_bool (by first | exact HR.out.symm | exact (decide_eq_false (by omega)).trans HR.out.symm), HK.out.2.1⟩
          · have HR := Lib.hid (show g8 s e a = false by simp only [g8, hg, decide_eq_true h0, decide_eq_true h1, decide_eq_true h2, decide_eq_false h3]; rfl)
            rw [hg] at HG
            clear hg
            go_enter Tryd.func9, Tryd.ntmps9
            go_wp2_with fail
            refine (HG.out _ HK.out.1).mono ?_
            rintro r w1 ⟨rfl, hb⟩
            replace HK := Lib.hid (HK.out.keep hb)
            clear hb
            obtain ⟨c0, c1, c2, -, -, -, -⟩ := HK.out.one
            go_wp2
            go_ret
            exact ⟨ret_bool (by first | exact HR.out.symm | exact (decide_eq_false (by omega)).trans HR.out.symm), HK.out.2.1⟩
        · have HR := Lib.hid (show g8 s e a = false by simp only [g8, hg, decide_eq_true h0, decide_eq_true h1, decide_eq_false h2]; rfl)
          rw [hg] at HG
          clear hg
          go_enter Tryd.func9, Tryd.ntmps9
          go_wp2_with fail
          refine (HG.out _ HK.out.1).mono ?_
          rintro r w1 ⟨rfl, hb⟩
          replace HK := Lib.hid (HK.out.keep hb)
          clear hb
          obtain ⟨c0, c1, c2, -, -, -, -⟩ := HK.out.one
          go_wp2
          go_ret
          exact ⟨ret_bool (by first | exact HR.out.symm | exact (decide_eq_false (by omega)).trans HR.out.symm), HK.out.2.1⟩
      · have HR := Lib.hid (show g8 s e a = false by simp only [g8, hg, decide_eq_true h0, decide_eq_false h1]; rfl)
        rw [hg] at HG
        clear hg
        go_enter Tryd.func9, Tryd.ntmps9
        go_wp2_with fail
        refine (HG.out _ HK.out.1).mono ?_
        rintro r w1 ⟨rfl, hb⟩
        replace HK := Lib.hid (HK.out.keep hb)
        clear hb
        obtain ⟨c0, c1, c2, -, -, -, -⟩ := HK.out.one
        go_wp2
        go_ret
        exact ⟨ret_bool (by first | exact HR.out.symm | exact (decide_eq_false (by omega)).trans HR.out.symm), HK.out.2.1⟩
    · have HR := Lib.hid (show g8 s e a = false by simp only [g8, hg, decide_eq_false h0]; rfl)
      rw [hg] at HG
      clear hg
      go_enter Tryd.func9, Tryd.ntmps9
      go_wp2_with fail
      refine (HG.out _ HK.out.1).mono ?_
      rintro r w1 ⟨rfl, hb⟩
      replace HK := Lib.hid (HK.out.keep hb)
      clear hb
      obtain ⟨c0, c1, c2, -, -, -, -⟩ := HK.out.one
      go_wp2
      go_ret
      exact ⟨ret_bool (by first | exact HR.out.symm | exact (decide_eq_false (by omega)).trans HR.out.symm), HK.out.2.1⟩
end Go.Proofs.YtonanpnacoegcaaDoor
