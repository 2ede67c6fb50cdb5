/-
  TE: token's Scan.
-/
import Derived.Test.YtbmgdheljnbmpaaTD
set_option maxRecDepth 100000
namespace Go.Proofs.Ytbmgdheljnbmpaa
open Go.RowKit
/-- A fault in a box of its own. -/
def FB (w : World) (g : Nat) (x y : Value) : Prop := w.heap[g]? = some (.cells #[x, y] 27 (0, 0))
section
variable {w w' : World} {g : Nat} {x y : Value}
theorem FB.c0 (h : FB w g x y) : w.cell? ⟨g, 0, none⟩ = some x := by rw [cell_of_row w g 0 _ _ _ h]; rfl
theorem FB.c1 (h : FB w g x y) : w.cell? ⟨g, 1, none⟩ = some y := by rw [cell_of_row w g 1 _ _ _ h]; rfl
theorem FB.fr (h : FB w g x y) (k : Nat) : w.frozen? ⟨g, k, none⟩ = false := by simp [World.frozen?, show w.heap[g]? = _ from h]
theorem FB.below {B : Nat} (h : FB w g x y) (hb : Below B w w') (hg : g < B) : FB w' g x y := (hb.block g hg).trans h
theorem FB.new (w : World) (x y : Value) : FB (w.alloc (.cells #[x, y] 27)) w.heap.size x y := heap_alloc_new w _
theorem FB.lt (h : FB w g x y) : g < w.heap.size := (Array.getElem?_eq_some_iff.1 h).1
theorem FB.alloc (h : FB w g x y) (o : Obj) : FB (w.alloc o) g x y := by
  have hg : g < w.heap.size := (Array.getElem?_eq_some_iff.1 h).1
  exact (heap_alloc_old w o hg).trans h
theorem FB.set (h : FB w g x y) (x' y' : Value) : FB ((w.setCell ⟨g, 0, none⟩ x').setCell ⟨g, 1, none⟩ y') g x' y' :=
  heap_setCell_same _ g 1 _ _ y' (heap_setCell_same w g 0 _ _ x' h)
theorem Below.set2 {B : Nat} (h : Below B w w') (hg : B ≤ g) (x' y' : Value) : Below B w ((w'.setCell ⟨g, 0, none⟩ x').setCell ⟨g, 1, none⟩ y') :=
  (h.setCell (p := ⟨g, 0, none⟩) hg _).setCell (p := ⟨g, 1, none⟩) hg _
end
/-- A store below a row turns it not. -/
theorem own_setCell {w : World} {base : Nat} {e : TypeId} {size n : Nat} {v : Value} {xs : List Value} (h : w.ownsRow base e size v n xs) {p : Addr} (hp : p.block < base) (u : Value) : (w.setCell p u).ownsRow base e size v n xs := by
  refine h.kept (row := some p.block) ⟨rfl, rfl, rfl, by simp, fun k _ hk => heap_setCell_other w p k u (fun e => hk (by rw [e]))⟩ ?_
  rcases hv : v.ownBlock with _ | k
  · exact .inl rfl
  · right
    intro e
    have := (h.lt k hv).1
    cases e
    omega
theorem pcV_form (t : Tok) : ∃ T y, pcV t = .iface T y := ⟨_, _, rfl⟩
theorem scn_isZ {cs : List Nat} (h : allC cs = true) (a : Nat) (o : Int) : ∀ t ∈ (scn cs a o).1, R32 t := fun t ht => r32_may (List.all_eq_true.1 (scn_may cs a o h) t ht)
theorem tk_take_succ (ts : List Tok) {k : Nat} (h : k < ts.length) : ts.take (k + 1) = ts.take k ++ [tk ts k] := by
  rw [List.take_succ_eq_append_getElem h, tk_eq h]
set_option maxHeartbeats 2000000 in
theorem tokScan_c (s : ByteArray) (w : World) (hs : s.size ≤ 10000000000) : Calls Try.prog 18 #[.string s] w fun e w' =>
    ∃ A m c, e = .returned (.tuple #[.slice A m c, .agg #[.int .i64 (toks (bts s)).2.1, .int .i64 (toks (bts s)).2.2]]) ∧ Hid (OwnT w' w.heap.size A m c (toks (bts s)).1) ∧ Hid (Below w.heap.size w w') := by
  generalize hg : w.heap.size = g at *
  have Hg := Lib.hid hg
  clear hg
  have hgl : g ≤ w.heap.size := by rw [Hg.out]; exact Nat.le_refl _
  have FB0 := FB.new w (.int .i64 0) (.int .i64 0)
  rw [Hg.out] at FB0
  have BW := Lib.hid ((Below.refl g w).alloc hgl (.cells #[.int .i64 0, .int .i64 0] 27))
  generalize hW0 : w.alloc (.cells #[.int .i64 0, .int .i64 0] 27) = W0 at *
  have hs0 : W0.heap.size = g + 1 := by rw [← hW0, World.size_alloc, Hg.out]
  have HW0 := Lib.hid hW0
  clear hW0
  go_enter Try.func18, Try.ntmps18
  go_wp2_with fail
  rw [HW0.out]
  refine (utfBad_c s W0 (by omega)).mono ?_
  rintro e w1 ⟨rfl, hb1⟩
  rw [hs0] at hb1
  have FB1 := FB0.below hb1 (Nat.lt_succ_self g)
  have B1 := Lib.hid (BW.out.trans (hb1.mono (Nat.le_succ g)))
  have hs1 : g + 1 ≤ w1.heap.size := by have := hb1.size; omega
  clear hb1 FB0 BW
  rw [Hg.out]
  by_cases hr : rst (bts s) = []
  · rw [badZ_right hr]
    have hRZ := Rem.zero hr
    have hT : toks (bts s) = if 0 ≤ (scn (cps (bts s)) 0 (-1)).2 then ([], 3, (scn (cps (bts s)) 0 (-1)).2) else if 400 < (scn (cps (bts s)) 0 (-1)).1.length then ([], 8, 0) else ((scn (cps (bts s)) 0 (-1)).1, 0, 0) := by
      rw [toks, if_neg (by simp [hr])]
    have HR32 := Lib.hid (scn_isZ hRZ.2.2 0 (-1))
    have HC := Lib.hid (split_c s w1 hs hr)
    generalize scn (cps (bts s)) 0 (-1) = F at *
    clear hr hRZ
    go_wp2_with fail
    refine HC.out.mono ?_
    rintro e w2 ⟨A, m, c, rfl, ho2, hb2⟩
    clear HC
    have FB2 := FB1.below hb2.out hs1
    have B2 := Lib.hid (B1.out.trans (hb2.out.mono (Nat.le_trans (Nat.le_succ g) hs1)))
    have hs2 : g + 1 ≤ w2.heap.size := by have := hb2.out.size; omega
    have hl2 : (F.1.take 401).length = m := by have := ho2.out.1; simpa using this
    rw [List.length_take] at hl2
    clear hb2 FB1
    by_cases ho : 0 ≤ F.2
    · rw [if_pos ho] at hT
      have HT := Lib.hid hT
      have hdo : decide (0 ≤ F.2) = true := decide_eq_true ho
      generalize F.2 = o at *
      have f0 := FB2.c0
      have f1 := FB2.c1
      have f2 := FB2.fr 0
      have f3 := FB2.fr 1
      clear hT
      have FE := FB2.set (.int .i64 3) (.int .i64 o)
      have e0 := FE.c0
      have e1 := FE.c1
      have BE := Lib.hid (Below.set2 B2.out (Nat.le_refl g) (.int .i64 3) (.int .i64 o))
      have OE := Lib.hid (ownT_nil ((w2.setCell ⟨g, 0, none⟩ (.int .i64 3)).setCell ⟨g, 1, none⟩ (.int .i64 o)) g)
      clear FE FB2
      go_wp2
      generalize hWE : (w2.setCell ⟨g, 0, none⟩ (.int .i64 3)).setCell ⟨g, 1, none⟩ (.int .i64 o) = WE at *
      rw [HT.out]
      exact bodyPost_ret (v := .tuple #[.slice none 0 0, .agg #[(.int .i64 3), (.int .i64 o)]]) (by simp [results, Try.results18, go_sem, e0, e1]) rfl ⟨_, _, _, rfl, OE, BE⟩
    · rw [if_neg ho] at hT
      have hdo : decide (0 ≤ F.2) = false := decide_eq_false ho
      by_cases hm : 400 < F.1.length
      · rw [if_pos hm] at hT
        have HT := Lib.hid hT
        have hm1 : m = 401 := by omega
        subst hm1
        clear hl2
        have f0 := FB2.c0
        have f1 := FB2.c1
        have f2 := FB2.fr 0
        have f3 := FB2.fr 1
        clear hT
        have FE := FB2.set (.int .i64 8) (.int .i64 0)
        have e0 := FE.c0
        have e1 := FE.c1
        have BE := Lib.hid (Below.set2 B2.out (Nat.le_refl g) (.int .i64 8) (.int .i64 0))
        have OE := Lib.hid (ownT_nil ((w2.setCell ⟨g, 0, none⟩ (.int .i64 8)).setCell ⟨g, 1, none⟩ (.int .i64 0)) g)
        clear FE FB2
        go_wp2
        generalize hWE : (w2.setCell ⟨g, 0, none⟩ (.int .i64 8)).setCell ⟨g, 1, none⟩ (.int .i64 0) = WE at *
        rw [HT.out]
        exact bodyPost_ret (v := .tuple #[.slice none 0 0, .agg #[(.int .i64 8), (.int .i64 0)]]) (by simp [results, Try.results18, go_sem, e0, e1]) rfl ⟨_, _, _, rfl, OE, BE⟩
      · rw [if_neg hm] at hT
        have HT := Lib.hid hT
        have hm1 : F.1.length = m := by omega
        have hm400 : m ≤ 400 := by omega
        rw [List.take_of_length_le (by omega)] at ho2
        obtain ⟨L, o⟩ := F
        dsimp only at *
        have HL := Lib.hid hm1
        have HP := Lib.hid (Reads.of_own ho2.out)
        generalize hq2 : w2.heap.size = q at *
        have Hq := Lib.hid hq2
        have BQ := Lib.hid (Below.refl q w2)
        clear hT hl2 hm ho hm1 ho2 hq2
        go_wp2
        go_loopw [7, 31] (fun v iv wr => ∃ (k : Nat), k ≤ m ∧ iv = .int .i64 (k : Int) ∧ wr.ownsRow q 36 3 v k (toksV (L.take k)) ∧ Below q w2 wr) (fun _ iv _ => m - (intOf iv).toNat)
        case atStart => exact ⟨0, Nat.zero_le _, rfl, World.ownsRow_nil _ _ _ _, BQ.out⟩
        case round =>
          obtain ⟨k, hk, rfl, ho0, hb0⟩ := hrel
          have HO := Lib.hid ho0
          have HB := Lib.hid hb0
          have hqs : q ≤ wr.heap.size := by have := hb0.size; have := Hq.out; omega
          have FB3 := FB2.below hb0 (by omega)
          clear hb0 ho0
          by_cases hlt : k < m
          · obtain ⟨ad, u, rfl, _, hu, hc⟩ := (HP.out.below HB.out).at_ hlt
            have hu' : u = pcV (tk L k) := by
              rw [List.getElem?_map, List.getElem?_eq_getElem (by rw [HL.out]; exact hlt)] at hu
              rw [tk_eq (by rw [HL.out]; exact hlt)]
              simpa using hu.symm
            have HS := Lib.hid (tk_take_succ L (k := k) (by rw [HL.out]; exact hlt))
            rw [hu'] at hc
            have HC := Lib.hid (tell_c (tk L k) wr)
            generalize tk L k = t at *
            obtain ⟨T, y, hT⟩ := pcV_form t
            rw [hT] at hc HC
            clear hu' hu hT FB3
            go_wp2_with fail
            refine HC.out.mono ?_
            rintro e w3 ⟨rfl, hb3⟩
            have HO3 := Lib.hid (own_keptN HO.out hb3 rfl)
            have HB3 := Lib.hid (HB.out.trans (hb3.mono hqs))
            have hqs3 : q ≤ w3.heap.size := by have := hb3.size; omega
            clear hb3 HC
            go_wp2_with (at_builtin; go_must (refine wpList_app_tok rfl (.tmp 35) (.tmp 38) _ rfl Try.underlying22 q u7 k (L.take k) rfl HO3.out t rfl t.1 t.2.1 t.2.2 rfl (by omega) HB3.out hqs3 ?_))
            intro v' w' ho4 hb4 _
            go_wp2
            go_roundw
            case rel =>
              refine ⟨k + 1, by omega, by go_num, ?_, hb4.out⟩
              rw [HS.out, toksV_append]; simpa [toksV_append] using ho4.out
            case measure => simp [intOf]; omega
          · have hkm : k = m := by omega
            subst hkm
            rw [List.take_of_length_le (by rw [HL.out]; exact Nat.le_refl _)] at HO
            obtain ⟨A7, c7, hA⟩ := own_form HO.out
            subst hA
            have f0 := FB3.c0
            have f1 := FB3.c1
            have f2 := FB3.fr 0
            have f3 := FB3.fr 1
            have FE := FB3.set (.int .i64 0) (.int .i64 0)
            have e0 := FE.c0
            have e1 := FE.c1
            have BE := Lib.hid (Below.set2 (B2.out.trans (HB.out.mono (by omega))) (Nat.le_refl g) (.int .i64 0) (.int .i64 0))
            have OE := Lib.hid (show OwnT ((wr.setCell ⟨g, 0, none⟩ (.int .i64 0)).setCell ⟨g, 1, none⟩ (.int .i64 0)) g A7 k c7 L from
              ⟨own_weaken (own_setCell (own_setCell HO.out (p := ⟨g, 0, none⟩) hs2 _) (p := ⟨g, 1, none⟩) hs2 _) (Nat.le_of_succ_le hs2), by omega, HR32.out⟩)
            clear FE FB3
            go_wp2
            generalize hWE : (wr.setCell ⟨g, 0, none⟩ (.int .i64 0)).setCell ⟨g, 1, none⟩ (.int .i64 0) = WE at *
            rw [HT.out]
            exact bodyPost_ret (v := .tuple #[.slice A7 k c7, .agg #[(.int .i64 0), (.int .i64 0)]]) (by simp [results, Try.results18, go_sem, e0, e1]) rfl ⟨_, _, _, rfl, OE, BE⟩
  · have hz : 0 ≤ badZ (bts s) := by rcases Int.lt_or_le (badZ (bts s)) 0 with h | h
                                     · exact absurd (badZ_neg.1 h) hr
                                     · exact h
    have HT := Lib.hid (show toks (bts s) = ([], 2, badZ (bts s)) by rw [toks, if_pos hr])
    generalize badZ (bts s) = Z at *
    clear hr
    have f0 := FB1.c0
    have f1 := FB1.c1
    have f2 := FB1.fr 0
    have f3 := FB1.fr 1
    have FE := FB1.set (.int .i64 2) (.int .i64 Z)
    have e0 := FE.c0
    have e1 := FE.c1
    have BE := Lib.hid (Below.set2 B1.out (Nat.le_refl g) (.int .i64 2) (.int .i64 Z))
    have OE := Lib.hid (ownT_nil ((w1.setCell ⟨g, 0, none⟩ (.int .i64 2)).setCell ⟨g, 1, none⟩ (.int .i64 Z)) g)
    clear FE FB1
    go_wp2
    generalize hWE : (w1.setCell ⟨g, 0, none⟩ (.int .i64 2)).setCell ⟨g, 1, none⟩ (.int .i64 Z) = WE at *
    rw [HT.out]
    exact bodyPost_ret (v := .tuple #[.slice none 0 0, .agg #[(.int .i64 2), (.int .i64 Z)]]) (by simp [results, Try.results18, go_sem, e0, e1]) rfl ⟨_, _, _, rfl, OE, BE⟩
end Go.Proofs.Ytbmgdheljnbmpaa
