/-
  TC: token's contracts: point, place, tell, take, keep, inQuotes.
-/
import Derived.Laws.Cover4
import Derived.Handy
import Derived.Test.YtbmgdheljnbmpaaTB
import Derived.Test.YtbmgdheljnbmpaaUC
set_option maxRecDepth 100000
namespace Go.Proofs.Ytbmgdheljnbmpaa
open Go.RowKit
theorem point_c (r a : Int) (w : World) : Calls Try.prog 35 #[.agg #[.int .i32 r, .int .i64 a]] w fun e w' => e = .returned (.int .i32 r) ∧ Below w.heap.size w w' := by
  go_enter Try.func35, Try.ntmps35
  go_wp2
  go_ret
  exact ⟨rfl, (Below.refl _ _).alloc (Nat.le_refl _) _⟩
/-- A token as a value. -/
def tokG (t : Tok) : Value := .agg #[.int .i32 t.1, .bool t.2.1, .int .i64 t.2.2]
theorem isQ_yes (W : World) (v : Value) : (Instr.typeAssert (.iface 65 v) 59 65 true).run Try.prog W = .ok (.tuple #[v, .bool true]) W := by kernel_rfl
theorem isQ_no (W : World) (v : Value) : (Instr.typeAssert (.iface 63 v) 59 65 true).run Try.prog W = .ok (.tuple #[.agg #[.int .i32 0, .int .i64 0], .bool false]) W := by kernel_rfl
theorem isP_yes (W : World) (v : Value) : (Instr.typeAssert (.iface 63 v) 59 63 true).run Try.prog W = .ok (.tuple #[v, .bool true]) W := by kernel_rfl
theorem take_plain (h : 63 < Try.prog.types.size) (x y : Value) : List.take (Try.prog.types[63]'h).size [x, y] = [x, y] := by kernel_rfl
attribute [local go_sem] take_plain
theorem tell_p (r a : Int) (w : World) : Calls Try.prog 32 #[.iface 63 (.agg #[.int .i32 r, .int .i64 a])] w fun e w' => e = .returned (tokG (r, false, a)) ∧ Below w.heap.size w w' := by
  have h1 := isQ_no
  go_enter Try.func32, Try.ntmps32
  go_wp2
  exact bodyPost_ret (v := tokG (r, false, a)) (by simp [results, Try.results32, go_sem, tokG]) rfl ⟨rfl, by go_grown⟩
theorem tell_q (r a : Int) (w : World) : Calls Try.prog 32 #[.iface 65 (.agg #[.int .i32 r, .int .i64 a])] w fun e w' => e = .returned (tokG (r, true, a)) ∧ Below w.heap.size w w' := by
  have h1 := isQ_yes
  go_enter Try.func32, Try.ntmps32
  go_wp2
  exact bodyPost_ret (v := tokG (r, true, a)) (by simp [results, Try.results32, go_sem, tokG]) rfl ⟨rfl, by go_grown⟩
theorem tell_c (t : Tok) (w : World) : Calls Try.prog 32 #[pcV t] w fun e w' => e = .returned (.agg #[.int .i32 t.1, .bool t.2.1, .int .i64 t.2.2]) ∧ Below w.heap.size w w' := by
  obtain ⟨r, q, a⟩ := t
  cases q
  · exact tell_p r a w
  · exact tell_q r a w
theorem take_p (r a : Int) (w : World) : Calls Try.prog 34 #[.agg #[.int .i32 r, .bool false, .int .i64 a]] w fun e w' => e = .returned (.iface 63 (.agg #[.int .i32 r, .int .i64 a])) ∧ Below w.heap.size w w' := by
  go_enter Try.func34, Try.ntmps34
  go_wp2
  go_ret
  exact ⟨rfl, by go_grown⟩
theorem take_q (r a : Int) (w : World) : Calls Try.prog 34 #[.agg #[.int .i32 r, .bool true, .int .i64 a]] w fun e w' => e = .returned (.iface 65 (.agg #[.int .i32 r, .int .i64 a])) ∧ Below w.heap.size w w' := by
  go_enter Try.func34, Try.ntmps34
  go_wp2
  go_ret
  exact ⟨rfl, by go_grown⟩
theorem keep_c (W w0 : World) (base : Nat) (v : Value) (m : Nat) (L : List Tok) (t : Tok) (T : TypeId) (y : Value) (ht : pcV t = .iface T y) (h : W.ownsRow base 59 1 v m ((L.take 401).map pcV)) (hbase : base ≤ W.heap.size) (hb : Below base w0 W) :
    Calls Try.prog 39 #[v, .iface T y] W fun e w' => ∃ v' m', e = .returned v' ∧ Hid (w'.ownsRow base 59 1 v' m' (((L ++ [t]).take 401).map pcV)) ∧ Hid (Below base w0 w') ∧ Hid (∀ k, k < W.heap.size → v.ownBlock ≠ some k → w'.heap[k]? = W.heap[k]?) := by
  have hl : (L.take 401).length = m := by have := h.1; simpa using this
  obtain ⟨A, c, hA⟩ := own_form h
  rw [List.length_take] at hl
  by_cases hm : m ≤ 400
  · have hL : L.take 401 = L := List.take_of_length_le (by omega)
    have hL' : (L ++ [t]).take 401 = L ++ [t] := List.take_of_length_le (by rw [List.length_append]; simp; omega)
    rw [hL']
    rw [hL] at h
    have H := Lib.hid h
    have HB := Lib.hid hb
    have HT := Lib.hid ht
    subst hA
    clear h hb hL hL' hl ht
    go_enter Try.func39, Try.ntmps39
    go_wp2_with (at_builtin; go_must (refine wpList_app_piece rfl (.tmp 9) (.tmp 11) _ rfl Try.underlying55 base (.slice A m c) m L rfl H.out t rfl _ _ HT.out (by omega) HB.out hbase ?_))
    intro v' w' h1 h2 h3
    go_wp2
    go_ret
    have h4 := Lib.hid (show w'.ownsRow base 59 1 v' (m + 1) ((L ++ [t]).map pcV) by rw [List.map_append]; exact h1.out)
    exact ⟨v', m + 1, rfl, h4, h2, h3⟩
  · have hL' : (L ++ [t]).take 401 = L.take 401 := by
      rw [List.take_append_of_le_length (by omega)]
    rw [hL']
    have H := Lib.hid h
    have HB := Lib.hid hb
    have hgt : decide ((400 : Int) < (m : Int)) = true := decide_eq_true (by omega)
    subst hA
    clear h hb hL' hl ht
    go_enter Try.func39, Try.ntmps39
    go_wp2
    go_ret
    exact ⟨_, _, rfl, H, HB, Lib.hid fun _ _ _ => rfl⟩
theorem take_getD_succ (zs : List Int) {k : Nat} (h : k < zs.length) : zs.take (k + 1) = zs.take k ++ [zs.getD k 0] := by
  rw [List.take_succ_eq_append_getElem h, List.getD, List.getElem?_eq_getElem h]; rfl
set_option maxHeartbeats 1000000 in
theorem inQuotes_c (A : Option Addr) (n c : Nat) (zs : List Int) (w : World) (h : Rns w A n zs) (hn : n ≤ 1000000000) : Calls Try.prog 36 #[.slice A n c] w fun e w' =>
    ∃ v m, e = .returned v ∧ Hid (w'.ownsRow w.heap.size 21 1 v m (i32s (inQ zs))) ∧ m ≤ 2 * n + 2 ∧ Hid (Below w.heap.size w w') := by
  have HL := Lib.hid h.len
  have H := Lib.hid h
  clear h
  generalize hg : w.heap.size = g at *
  have Hg := Lib.hid hg
  clear hg
  have B0 := Lib.hid (show Below g w w by rw [← Hg.out]; exact Below.refl _ _)
  go_enter Try.func36, Try.ntmps36
  go_wp2
  go_loopw [3, 4, 9] (fun v ov iv wr => ∃ (k m : Nat), k ≤ n ∧ iv = .int .i64 (k : Int) ∧ ov = .bool (!(zs.take k).all (fun r => decide (r = 39))) ∧ m ≤ 2 * k ∧ wr.ownsRow g 21 1 v m (i32s (dbl (zs.take k))) ∧ Below g w wr) (fun _ _ iv _ => n - (intOf iv).toNat)
  case atStart => exact ⟨0, 0, Nat.zero_le _, rfl, rfl, by omega, World.ownsRow_nil _ _ _ _, B0.out⟩
  case round =>
    obtain ⟨k, m, hk, rfl, rfl, hm, ho0, hb0⟩ := hrel
    have HO := Lib.hid ho0
    have HB := Lib.hid hb0
    have hgs : g ≤ wr.heap.size := by have := hb0.size; have := Hg.out; omega
    have HR := Lib.hid (H.out.below (w' := wr) (by rw [Hg.out]; exact hb0))
    clear ho0 hb0
    by_cases hlt : k < n
    · obtain ⟨ad, rfl, _, hc, _, _⟩ := HR.out.at_ hlt
      have HS := Lib.hid (take_getD_succ zs (by rw [HL.out]; exact hlt))
      generalize zs.getD k 0 = r at hc HS
      by_cases hr : r = 39
      · subst hr
        go_wp2_with (at_builtin; go_must (refine wpList_app_i32 rfl (.tmp 15) (.tmp 16) _ rfl Try.underlying45 g u3 m _ rfl HO.out _ rfl 39 rfl (by omega) HB.out hgs ?_))
        intro v1 w1 ho1 hb1 _
        have hgs1 : g ≤ w1.heap.size := by have := hb1.out.size; have := Hg.out; omega
        go_wp2_with (at_builtin; go_must (refine wpList_app_i32 rfl (.tmp 18) (.tmp 20) _ rfl Try.underlying45 g v1 (m + 1) _ rfl ho1.out _ rfl 39 rfl (by omega) hb1.out hgs1 ?_))
        intro v2 w2 ho2 hb2 _
        go_wp2
        go_roundw
        case rel =>
          refine ⟨k + 1, m + 1 + 1, by omega, by go_num, ?_, by omega, ?_, hb2.out⟩
          · rw [HS.out, List.all_append]; simp
          · rw [HS.out, dbl_append, dbl_one, if_pos rfl]
            exact ho2.out
        case measure => simp [intOf]; omega
      · go_wp2_with (at_builtin; go_must (refine wpList_app_i32 rfl (.tmp 18) (.tmp 20) _ rfl Try.underlying45 g u3 m _ rfl HO.out _ rfl r rfl (by omega) HB.out hgs ?_))
        intro v2 w2 ho2 hb2 _
        go_wp2
        go_roundw
        case rel =>
          refine ⟨k + 1, m + 1, by omega, by go_num, ?_, by omega, ?_, hb2.out⟩
          · rw [HS.out, List.all_append]; simp [hr]
          · rw [HS.out, dbl_append, dbl_one, if_neg hr]
            exact ho2.out
        case measure => simp [intOf]; omega
    · have hT : zs.take k = zs := List.take_of_length_le (by rw [HL.out]; omega)
      rw [hT] at HO
      rw [hT]
      clear hT
      rcases ha : zs.all (fun r => decide (r = 39)) with _ | _
      · have HQ := Lib.hid (show inQ zs = [39] ++ dbl zs ++ [39] by rw [inQ, ha]; rfl)
        clear ha
        have hgw : g ≤ (wr.alloc (.cells #[.int .i32 39] 21)).heap.size := by simp; omega
        have HB1 := Lib.hid (HB.out.alloc hgs (.cells #[.int .i32 39] 21))
        have HO1 := Lib.hid (HO.out.alloc (.cells #[.int .i32 39] 21))
        have HE1 := Lib.hid (own_lit_i32 wr g hgs 39)
        go_wp2_with (at_builtin; go_must (refine wpList_app_runes rfl (.tmp 26) (.tmp 27) _ rfl Try.underlying45 g _ 1 [39] rfl HE1.out u3 m g _ rfl HO1.out (by omega) HB1.out hgw ?_))
        intro v1 w1 ho1 hb1 _
        have hgs1 : g ≤ w1.heap.size := by have := hb1.out.size; have := Hg.out; omega
        go_wp2_with (at_builtin; go_must (refine wpList_app_i32 rfl (.tmp 28) (.tmp 29) _ rfl Try.underlying45 g v1 (1 + m) _ rfl ho1.out _ rfl 39 rfl (by omega) hb1.out hgs1 ?_))
        intro v2 w2 ho2 hb2 _
        go_wp2
        go_ret
        rw [HQ.out]
        exact ⟨_, _, rfl, ho2, by omega, hb2⟩
      · have HQ := Lib.hid (show inQ zs = dbl zs by rw [inQ, ha]; rfl)
        clear ha
        go_wp2
        go_ret
        rw [HQ.out]
        exact ⟨_, _, rfl, HO, by omega, HB⟩
end Go.Proofs.Ytbmgdheljnbmpaa
