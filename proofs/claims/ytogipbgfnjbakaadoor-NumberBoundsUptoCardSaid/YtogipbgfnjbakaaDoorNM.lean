/-
  NM: what the program asks of a number part, walked: exponent.
-/
import Derived.Test.YtogipbgfnjbakaaDoorNL
import Derived.Test.YtogipbgfnjbakaaDoorVB
import Derived.Test.YtogipbgfnjbakaaDoorMV
set_option maxRecDepth 100000
namespace Go.Proofs.YtogipbgfnjbakaaDoor
open Go.RowKit
/-- A part's cells. -/
def ptV (m : ByteArray) (sc : Bool) (ex wh fr : ByteArray) (pt : Bool) (ba : ByteArray) : Array Value := #[.string m, .bool sc, .string ex, .string wh, .string fr, .bool pt, .string ba]
/-- A box with a part, made when the call began. -/
structure PX (w0 W : World) (g : Nat) (m : ByteArray) (sc : Bool) (ex wh fr : ByteArray) (pt : Bool) (ba : ByteArray) : Prop where
  b : Below w0.heap.size w0 W
  m0 : Mw w0
  bx : BX W g (ptV m sc ex wh fr pt ba) 36
section
variable {w0 W : World} {g : Nat} {m : ByteArray} {sc : Bool} {ex wh fr : ByteArray} {pt : Bool} {ba : ByteArray}
theorem PX.mw (h : PX w0 W g m sc ex wh fr pt ba) : Mw W := h.m0.below h.b
theorem PX.below {W' : World} (h : PX w0 W g m sc ex wh fr pt ba) (hb : Below W.heap.size W W') : PX w0 W' g m sc ex wh fr pt ba :=
  ⟨h.b.trans (hb.mono h.b.size), h.m0, h.bx.below hb h.bx.lt⟩
theorem PX.new (h : Mw w0) : PX w0 (w0.alloc (.cells (ptV m sc ex wh fr pt ba) 36)) w0.heap.size m sc ex wh fr pt ba :=
  ⟨(Below.refl _ _).alloc (Nat.le_refl _) _, h, BX.new _ _ _⟩
theorem PX.cells (h : PX w0 W g m sc ex wh fr pt ba) : W.cell? ⟨g, 0, none⟩ = some (.string m) ∧ W.cell? ⟨g, 1, none⟩ = some (.bool sc) ∧ W.cell? ⟨g, 2, none⟩ = some (.string ex) ∧ W.cell? ⟨g, 3, none⟩ = some (.string wh) ∧
    W.cell? ⟨g, 4, none⟩ = some (.string fr) ∧ W.cell? ⟨g, 5, none⟩ = some (.bool pt) ∧ W.cell? ⟨g, 6, none⟩ = some (.string ba) := ⟨h.bx.c 0, h.bx.c 1, h.bx.c 2, h.bx.c 3, h.bx.c 4, h.bx.c 5, h.bx.c 6⟩
theorem PX.drew (h : PX w0 W g m sc ex wh fr pt ba) : PX w0 W.drew g m sc ex wh fr pt ba := ⟨h.b.drew, h.m0, h.bx⟩
theorem PX.S (h : PX w0 W g m sc ex wh fr pt ba) : Hid (PX w0 W g m sc ex wh fr pt ba) ∧ W.cell? ⟨g, 0, none⟩ = some (.string m) ∧ W.cell? ⟨g, 1, none⟩ = some (.bool sc) ∧ W.cell? ⟨g, 2, none⟩ = some (.string ex) ∧ W.cell? ⟨g, 3, none⟩ = some (.string wh) ∧
    W.cell? ⟨g, 4, none⟩ = some (.string fr) ∧ W.cell? ⟨g, 5, none⟩ = some (.bool pt) ∧ W.cell? ⟨g, 6, none⟩ = some (.string ba) := ⟨Lib.hid h, h.cells⟩
end
/-- Below a block that is made. -/
theorem below_new (w : World) (o : Obj) : Below w.heap.size w (w.alloc o) := (Below.refl _ _).alloc (Nat.le_refl _) _
theorem Sorts.one {w : World} {s : ByteArray} {v : Value} {T : TypeId} (h : SortV s v w) (ha : ∀ b ∈ bts s, b < 128) (hs : s.size ≤ 1000) : Sorts (w.alloc (.cells #[v] T)) w.heap.size [s] :=
  ⟨by simp, fun k hk => by
    have : k = 0 := by simpa using hk
    subst this; exact ⟨ha, hs⟩, fun k hk => by
    have : k = 0 := by simpa using hk
    subst this
    exact ⟨v, by rw [cell_of_row _ w.heap.size _ _ _ _ (heap_alloc_new w _)]; rfl, h.below (below_new w _)⟩⟩
theorem Sorts.two {w : World} {s t : ByteArray} {v u : Value} {T : TypeId} (h : SortV s v w) (h' : SortV t u w) (ha : ∀ b ∈ bts s, b < 128) (ha' : ∀ b ∈ bts t, b < 128) (hs : s.size ≤ 1000) (hs' : t.size ≤ 1000) : Sorts (w.alloc (.cells #[v, u] T)) w.heap.size [s, t] :=
  ⟨by simp, fun k hk => by
    have : k = 0 ∨ k = 1 := by simp at hk; omega
    rcases this with rfl | rfl
    · exact ⟨ha, hs⟩
    · exact ⟨ha', hs'⟩, fun k hk => by
    have : k = 0 ∨ k = 1 := by simp at hk; omega
    rcases this with rfl | rfl
    · exact ⟨v, by rw [cell_of_row _ w.heap.size _ _ _ _ (heap_alloc_new w _)]; rfl, h.below (below_new w _)⟩
    · exact ⟨u, by rw [cell_of_row _ w.heap.size _ _ _ _ (heap_alloc_new w _)]; rfl, h'.below (below_new w _)⟩⟩
theorem Sorts.three {w : World} {s t r : ByteArray} {v u x : Value} {T : TypeId} (h : SortV s v w) (h' : SortV t u w) (h'' : SortV r x w) (ha : ∀ b ∈ bts s, b < 128) (ha' : ∀ b ∈ bts t, b < 128) (ha'' : ∀ b ∈ bts r, b < 128)
    (hs : s.size ≤ 1000) (hs' : t.size ≤ 1000) (hs'' : r.size ≤ 1000) : Sorts (w.alloc (.cells #[v, u, x] T)) w.heap.size [s, t, r] :=
  ⟨by simp, fun k hk => by
    have : k = 0 ∨ k = 1 ∨ k = 2 := by simp at hk; omega
    rcases this with rfl | rfl | rfl
    · exact ⟨ha, hs⟩
    · exact ⟨ha', hs'⟩
    · exact ⟨ha'', hs''⟩, fun k hk => by
    have : k = 0 ∨ k = 1 ∨ k = 2 := by simp at hk; omega
    rcases this with rfl | rfl | rfl
    · exact ⟨v, by rw [cell_of_row _ w.heap.size _ _ _ _ (heap_alloc_new w _)]; rfl, h.below (below_new w _)⟩
    · exact ⟨u, by rw [cell_of_row _ w.heap.size _ _ _ _ (heap_alloc_new w _)]; rfl, h'.below (below_new w _)⟩
    · exact ⟨x, by rw [cell_of_row _ w.heap.size _ _ _ _ (heap_alloc_new w _)]; rfl, h''.below (below_new w _)⟩⟩
/- The program's sorts. -/
def sHash : ByteArray := ⟨#[35]⟩
theorem in_one (c : UInt8) (x : Nat) : inS8 ⟨#[c]⟩ x = (x == c.toNat) := by
  show ([c].map UInt8.toNat).any (· == x) = _
  simp only [List.map_cons, List.map_nil, List.any_cons, List.any_nil, Bool.or_false]
  exact Bool.beq_comm ..
theorem in_one_fun (c : UInt8) : inS8 ⟨#[c]⟩ = fun x => x == c.toNat := funext (in_one c)
theorem in_z48 : inS8 ⟨#[48]⟩ = z48 := in_one_fun 48
theorem in_h35 : inS8 ⟨#[35]⟩ = h35 := in_one_fun 35
theorem in_a64 : inS8 ⟨#[64]⟩ = a64 := in_one_fun 64
theorem in_44 : inS8 ⟨#[44]⟩ = fun x => x == 44 := in_one_fun 44
theorem in_46 : inS8 ⟨#[46]⟩ = fun x => x == 46 := in_one_fun 46
theorem in_dg : inS8 ⟨#[48, 49, 50, 51, 52, 53, 54, 55, 56, 57]⟩ = dg := by
  funext x
  show [48, 49, 50, 51, 52, 53, 54, 55, 56, 57].any (· == x) = dg x
  rw [Bool.eq_iff_iff]
  simp only [List.any_cons, List.any_nil, Bool.or_false, Bool.or_eq_true, beq_iff_eq, dg, Bool.and_eq_true, decide_eq_true_iff]
  omega
theorem in_ab : inS8 ⟨#[49, 50, 51, 52, 53, 54, 55, 56, 57]⟩ = ab := by
  funext x
  show [49, 50, 51, 52, 53, 54, 55, 56, 57].any (· == x) = ab x
  rw [Bool.eq_iff_iff]
  simp only [List.any_cons, List.any_nil, Bool.or_false, Bool.or_eq_true, beq_iff_eq, ab, Bool.and_eq_true, decide_eq_true_iff]
  omega
theorem in_okB : inS8 ⟨#[35, 48, 49, 50, 51, 52, 53, 54, 55, 56, 57, 64, 44, 46]⟩ = okB := by
  funext x
  show [35, 48, 49, 50, 51, 52, 53, 54, 55, 56, 57, 64, 44, 46].any (· == x) = okB x
  rw [Bool.eq_iff_iff]
  simp only [List.any_cons, List.any_nil, Bool.or_false, Bool.or_eq_true, beq_iff_eq, okB, h35, a64, dg, Bool.and_eq_true, decide_eq_true_iff]
  omega
theorem lo_lit {s : ByteArray} (h : (bts s).all (fun b => decide (b < 128)) = true) : ∀ b ∈ bts s, b < 128 := fun b hb => by simpa using List.all_eq_true.1 h b hb
theorem trimPlus_c (s : ByteArray) (w : World) : Calls Tryd.prog 52 #[.string s, .string ⟨#[43]⟩] w fun e w' => e = .returned (.string (stz (expT (bts s)))) ∧ w = w' := trimPrefix_c s 43 w
theorem bts_expT (s : ByteArray) : bts (stz (expT (bts s))) = expT (bts s) := bts_stz fun b hb => bts_lt s b (List.mem_of_mem_drop hb)
theorem emp_list (s : ByteArray) : s.toList.isEmpty = (bts s).isEmpty := by
  rw [isEmpty_bts, ← bts_length]
  cases bts s <;> rfl
/-- Rows of one sort: made, put into a slice, asked. -/
theorem inRows1_c (s t : ByteArray) (v : Value) (T : TypeId) (w : World) (hv : SortV s v w) (ha : (bts s).all (fun b => decide (b < 128)) = true) (hs : s.size ≤ 1000) :
    Calls Tryd.prog 53 #[.string t, .slice (some ⟨w.heap.size, 0, none⟩) 1 1] (w.alloc (.cells #[v] T)) fun e w' => e = .returned (.bool ((bts t).dropWhile (inS8 s)).isEmpty) ∧ Below w.heap.size w w' := by
  refine (inRows_c [s] t w.heap.size 1 _ (by simp) (Sorts.one hv (lo_lit ha) hs)).mono ?_
  rintro e w' ⟨rfl, hb⟩
  exact ⟨rfl, (below_new w _).trans (hb.mono (by simp))⟩
theorem inRows1a_c (s t : ByteArray) (v : Value) (T : TypeId) (w : World) (hv : SortV s v w) (ha : (bts s).all (fun b => decide (b < 128)) = true) (hs : s.size ≤ 1000) :
    Calls Tryd.prog 53 #[.string t, .slice (some ⟨w.heap.size, 0, none⟩) 1 1] (w.alloc (.cells #[v] T)) fun e w' => e = .returned (.bool ((bts t).dropWhile (inS8 s)).isEmpty) ∧ Below (w.alloc (.cells #[v] T)).heap.size (w.alloc (.cells #[v] T)) w' :=
  inRows_c [s] t w.heap.size 1 _ (by simp) (Sorts.one hv (lo_lit ha) hs)
theorem inRows2a_c (s s' t : ByteArray) (v v' : Value) (T : TypeId) (w : World) (hv : SortV s v w) (hv' : SortV s' v' w) (ha : (bts s).all (fun b => decide (b < 128)) = true) (ha' : (bts s').all (fun b => decide (b < 128)) = true) (hs : s.size ≤ 1000) (hs' : s'.size ≤ 1000) :
    Calls Tryd.prog 53 #[.string t, .slice (some ⟨w.heap.size, 0, none⟩) 2 2] (w.alloc (.cells #[v, v'] T)) fun e w' => e = .returned (.bool (((bts t).dropWhile (inS8 s)).dropWhile (inS8 s')).isEmpty) ∧ Below (w.alloc (.cells #[v, v'] T)).heap.size (w.alloc (.cells #[v, v'] T)) w' :=
  inRows_c [s, s'] t w.heap.size 2 _ (by simp) (Sorts.two hv hv' (lo_lit ha) (lo_lit ha') hs hs')
theorem inRows3a_c (s s' s'' t : ByteArray) (v v' v'' : Value) (T : TypeId) (w : World) (hv : SortV s v w) (hv' : SortV s' v' w) (hv'' : SortV s'' v'' w) (ha : (bts s).all (fun b => decide (b < 128)) = true) (ha' : (bts s').all (fun b => decide (b < 128)) = true)
    (ha'' : (bts s'').all (fun b => decide (b < 128)) = true) (hs : s.size ≤ 1000) (hs' : s'.size ≤ 1000) (hs'' : s''.size ≤ 1000) :
    Calls Tryd.prog 53 #[.string t, .slice (some ⟨w.heap.size, 0, none⟩) 3 3] (w.alloc (.cells #[v, v', v''] T)) fun e w' => e = .returned (.bool ((((bts t).dropWhile (inS8 s)).dropWhile (inS8 s')).dropWhile (inS8 s'')).isEmpty) ∧ Below (w.alloc (.cells #[v, v', v''] T)).heap.size (w.alloc (.cells #[v, v', v''] T)) w' :=
  inRows_c [s, s', s''] t w.heap.size 3 _ (by simp) (Sorts.three hv hv' hv'' (lo_lit ha) (lo_lit ha') (lo_lit ha'') hs hs' hs'')
set_option maxHeartbeats 1000000 in
theorem er1_c (m : ByteArray) (sc : Bool) (ex wh fr : ByteArray) (pt : Bool) (ba : ByteArray) (w : World) (hM : Mw w) (_hs : ex.size < 4294967281) :
    Calls Tryd.prog 28 #[.agg (ptV m sc ex wh fr pt ba)] w fun e w' => e = .returned (.int .i64 ((er1 ⟨bts m, sc, bts ex, bts wh, bts fr, pt, bts ba⟩ : Nat) : Int)) ∧ Below w.heap.size w w' := by
  have HX := Lib.hid (PX.new (m := m) (sc := sc) (ex := ex) (wh := wh) (fr := fr) (pt := pt) (ba := ba) hM)
  obtain ⟨c0, c1, c2, c3, c4, c5, c6⟩ := HX.out.cells
  clear hM
  generalize hW : w.alloc (.cells (ptV m sc ex wh fr pt ba) 36) = W at *
  have HW := Lib.hid hW
  clear hW
  generalize hg : w.heap.size = g at *
  have Hg := Lib.hid hg
  clear hg
  have hsz : (stz (expT (bts ex))).size ≤ ex.size := by
    have := expT_len (bts ex)
    rw [bts_length] at this
    rw [stz_size]; omega
  have HER := Lib.hid (show er1 ⟨bts m, sc, bts ex, bts wh, bts fr, pt, bts ba⟩ = if sc then (if (stz (expT (bts ex))).toList.isEmpty || !((bts (stz (expT (bts ex)))).dropWhile (inS8 ⟨#[48]⟩)).isEmpty then 4 else if 9 < (stz (expT (bts ex))).size then 8 else 0) else 0 by
    rw [emp_list, bts_expT, stz_size, in_z48]; rfl)
  have HT := Lib.hid (fun W => trimPlus_c ex W)
  generalize er1 ⟨bts m, sc, bts ex, bts wh, bts fr, pt, bts ba⟩ = E at *
  generalize stz (expT (bts ex)) = T at *
  have HR := Lib.hid (fun w v hv => inRows1_c ⟨#[48]⟩ T v 68 w hv rfl (by decide))
  generalize ((bts T).dropWhile (inS8 ⟨#[48]⟩)).isEmpty = b2 at *
  go_enter Tryd.func28, Tryd.ntmps28
  go_upto_region 1 with fail
  rw [HW.out, Hg.out]
  cases sc
  · go_wp2_with (first
      | (go_at_call 52; refine (HT.out _).mono ?_; rintro e w' ⟨rfl, rfl⟩)
      | fail)
    go_ret
    rw [HER.out]
    exact ⟨rfl, Hg.out ▸ HX.out.b⟩
  · rcases hb1 : T.toList.isEmpty with _ | _
    · rw [hb1] at HER
      rcases b2 with _ | _
      · go_wp2_with (first
          | (go_at_call 52; refine (HT.out _).mono ?_; rintro e w' ⟨rfl, rfl⟩)
          | (go_at_call 54; refine (of_c _ _).mono ?_; rintro e w1 ⟨B1, rfl, hv1, hbx⟩; have HX := Lib.hid (HX.out.below hbx); have HV1 := Lib.hid hv1; clear hbx hv1)
          | (go_at_call 53; refine (HR.out _ _ HV1.out).mono ?_; rintro e w2 ⟨rfl, hbx⟩; have HX := Lib.hid (HX.out.below hbx); clear hbx)
          | fail)
        go_ret
        rw [HER.out]
        exact ⟨rfl, Hg.out ▸ HX.out.b⟩
      · by_cases h9 : 9 < T.size
        · have h9' : (9 : Int) < (T.size : Int) := by omega
          rw [if_pos h9] at HER
          go_wp2_with (first
            | (go_at_call 52; refine (HT.out _).mono ?_; rintro e w' ⟨rfl, rfl⟩)
            | (go_at_call 54; refine (of_c _ _).mono ?_; rintro e w1 ⟨B1, rfl, hv1, hbx⟩; have HX := Lib.hid (HX.out.below hbx); have HV1 := Lib.hid hv1; clear hbx hv1)
            | (go_at_call 53; refine (HR.out _ _ HV1.out).mono ?_; rintro e w2 ⟨rfl, hbx⟩; have HX := Lib.hid (HX.out.below hbx); clear hbx)
            | fail)
          go_ret
          rw [HER.out]
          exact ⟨rfl, Hg.out ▸ HX.out.b⟩
        · have h9' : ¬ (9 : Int) < (T.size : Int) := by omega
          rw [if_neg h9] at HER
          go_wp2_with (first
            | (go_at_call 52; refine (HT.out _).mono ?_; rintro e w' ⟨rfl, rfl⟩)
            | (go_at_call 54; refine (of_c _ _).mono ?_; rintro e w1 ⟨B1, rfl, hv1, hbx⟩; have HX := Lib.hid (HX.out.below hbx); have HV1 := Lib.hid hv1; clear hbx hv1)
            | (go_at_call 53; refine (HR.out _ _ HV1.out).mono ?_; rintro e w2 ⟨rfl, hbx⟩; have HX := Lib.hid (HX.out.below hbx); clear hbx)
            | fail)
          go_ret
          rw [HER.out]
          exact ⟨rfl, Hg.out ▸ HX.out.b⟩
    · rw [hb1] at HER
      go_wp2_with (first
        | (go_at_call 52; refine (HT.out _).mono ?_; rintro e w' ⟨rfl, rfl⟩)
        | fail)
      go_ret
      rw [HER.out]
      exact ⟨rfl, Hg.out ▸ HX.out.b⟩
end Go.Proofs.YtogipbgfnjbakaaDoor
