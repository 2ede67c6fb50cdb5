/-
  SigCounts: the walk.
-/
import Derived.Test.YtkfjombeaidimaaDoorAn9
set_option maxRecDepth 100000
namespace Go.Proofs.YtkfjombeaidimaaDoor
open Go.RowKit
attribute [local go_sem] dec_field0 dec_field1 dec_field2 in
set_option maxHeartbeats 16000000 in
set_option maxRecDepth 100000 in
theorem walk_sigCounts (nd : Bool) (sd : ByteArray) (ed : Int) (n : Int) (w : World) (hd : sd.size ≤ maxLen) (hn : 0 ≤ n ∧ n ≤ 255) (hP : Pw w) :
    Calls Tryd.prog 4 #[.agg #[.bool nd, .string sd, .int .i64 ed], .int .u8 n] w fun e w' => e = .returned (.bool true) ∧ Below w.heap.size w w' := by
  have HK := Lib.hid (kept_one w (.bool nd) (.string sd) (.int .i64 ed) 23 hP)
  clear hP
  have HG := Lib.hid (fun w hP => good09_c nd sd ed w hd hP)
  rcases hg : g9 sd ed with _ | _
  · rw [hg] at HG
    clear hg
    go_enter Tryd.func4, Tryd.ntmps4
    go_wp2_with fail
    refine (HG.out _ HK.out.1).mono ?_
    rintro r w1 ⟨rfl, hb⟩
    have hk := HK.out.keep hb
    replace HK := Lib.hid hk
    clear hk hb
    obtain ⟨⟨⟨c00, c01, c02⟩, -⟩, -⟩ := Sd.of HK.out
    go_wp2_with fail
    refine (answers09_c _ HK.out.1).mono ?_
    rintro r w2 ⟨rfl, hb⟩
    clear c00 c01 c02
    have hk := HK.out.keep hb
    replace HK := Lib.hid hk
    clear hk hb
    obtain ⟨⟨⟨c00, c01, c02⟩, -⟩, -⟩ := Sd.of HK.out
    go_wp2
    go_ret
    exact ⟨rfl, HK.out.2.1⟩
  · rw [hg] at HG
    obtain ⟨hf, he1, he2⟩ := g9_true hg
    obtain ⟨X, hu, hl⟩ := DU.of_fine (k := -1000) hf (by omega) (by omega) (by omega)
    have HU := Lib.hid hu
    have HDG := Lib.hid hu.digits
    clear hg hf hu
    obtain ⟨T, hT⟩ : ∃ T, dtop X (-1000) = T := ⟨_, rfl⟩
    have HT := Lib.hid hT
    have htb := HU.out.top
    rw [hT] at htb
    clear hT
    obtain ⟨ht1, ht2⟩ := htb
    obtain ⟨j, hj⟩ : ∃ j, max n 1 = j := ⟨_, rfl⟩
    have HJ1 := Lib.hid hj
    have HJ2 := Lib.hid (show max (-5 : Int) 1 = 1 by omega)
    have hj1 : 1 ≤ j ∧ j ≤ 255 := by omega
    obtain ⟨hj1, hj2⟩ := hj1
    have hw1 : IntKind.i64.wrap (T - j) = T - j := IntWalk.i64_in _ (by omega)
    have hw2 : IntKind.i64.wrap (T - j + 1) = T - j + 1 := IntWalk.i64_in _ (by omega)
    have HP1 := Lib.hid (show dtop X (-1000) - j + 1 = T - j + 1 by rw [HT.out])
    have HP2 := Lib.hid (show dtop X (-1000) - 1 + 1 = T by rw [HT.out]; omega)
    have hsz := nstr_size X
    have hwn : IntKind.i64.wrap n = n := IntWalk.i64_in _ (by omega)
    go_enter Tryd.func4, Tryd.ntmps4
    go_wp2_with fail
    refine (HG.out _ HK.out.1).mono ?_
    rintro r w1 ⟨rfl, hb⟩
    have hk := HK.out.keep hb
    replace HK := Lib.hid hk
    clear hk hb
    obtain ⟨⟨⟨c00, c01, c02⟩, -⟩, -⟩ := Sd.of HK.out
    go_wp2
    clear c00 c01 c02
    have hS : Sd w [(w.heap.size, .bool nd, .string sd, .int .i64 (ed))] _ := .of HK.out.drew
    go_region_held3 (fun w' => ((w'.cell? ⟨w.heap.size, 0, none⟩ = some (.bool nd) ∧ w'.cell? ⟨w.heap.size, 1, none⟩ = some (.string sd) ∧ w'.cell? ⟨w.heap.size, 2, none⟩ = some (.int .i64 (ed))) ∧ True) ∧ Hid (Kept3 w [(w.heap.size, .bool nd, .string sd, .int .i64 (ed))] w')) (assumption)
      (first
        | (go_at_call 9; refine (answers09_c _ (Sd.pw (w0 := w) (L := [(w.heap.size, .bool nd, .string sd, .int .i64 (ed))]) (by assumption))).mono ?_; rintro r wr ⟨rfl, hb⟩; have hS := Sd.keep (w0 := w) (L := [(w.heap.size, .bool nd, .string sd, .int .i64 (ed))]) (by assumption) hb; clear hb)
        | (go_at_call 13; refine (sigCount_u HU.out rfl (Sd.pw (w0 := w) (L := [(w.heap.size, .bool nd, .string sd, .int .i64 (ed))]) (by assumption))).mono ?_; rintro r wr ⟨rfl, hb⟩; have hS := Sd.keep (w0 := w) (L := [(w.heap.size, .bool nd, .string sd, .int .i64 (ed))]) (by assumption) hb; clear hb)
        | (go_at_call 14; refine (ref5Norm_u HU.out ⟨rfl, rfl⟩ (Sd.pw (w0 := w) (L := [(w.heap.size, .bool nd, .string sd, .int .i64 (ed))]) (by assumption))).mono ?_; rintro r wr ⟨rfl, hb⟩; have hS := Sd.keep (w0 := w) (L := [(w.heap.size, .bool nd, .string sd, .int .i64 (ed))]) (by assumption) hb; clear hb)
        | (go_at_call 12; refine (ref5Top_u HU.out HT.out (Sd.pw (w0 := w) (L := [(w.heap.size, .bool nd, .string sd, .int .i64 (ed))]) (by assumption))).mono ?_; rintro r wr ⟨rfl, hb⟩; have hS := Sd.keep (w0 := w) (L := [(w.heap.size, .bool nd, .string sd, .int .i64 (ed))]) (by assumption) hb; clear hb)
        | (go_at_call 15; refine (sigPlace_u HU.out (by first | exact HJ1.out | exact HJ2.out) (by first | exact HP1.out | exact HP2.out) (by omega) (by omega) (Sd.pw (w0 := w) (L := [(w.heap.size, .bool nd, .string sd, .int .i64 (ed))]) (by assumption))).mono ?_; rintro r wr ⟨rfl, hb⟩; have hS := Sd.keep (w0 := w) (L := [(w.heap.size, .bool nd, .string sd, .int .i64 (ed))]) (by assumption) hb; clear hb))
    rename_i hHeld
    clear hHeld
    have HB := Lib.hid hS.bel
    clear hS
    go_wp2
    go_ret
    exact ⟨rfl, HB.out⟩
end Go.Proofs.YtkfjombeaidimaaDoor
