/-
  Gd6: which decimals layer 6's laws take (good), for a list of decimals.
-/
import Derived.Test.YtbjdledincahkaaDoorRf6
namespace Go.Proofs.YtbjdledincahkaaDoor
open Go.RowKit
theorem Kept3.grow {w0 w : World} {L : List (Nat × Value × Value × Value)} (h : Kept3 w0 L w) (x y z : Value) (t : TypeId) : Kept3 w0 (L ++ [(w.heap.size, x, y, z)]) (w.alloc (.cells #[x, y, z] t)) := by
  have hk := h.keep ((Below.refl _ _).alloc (Nat.le_refl _) (.cells #[x, y, z] t))
  refine ⟨hk.1, hk.2.1, fun u hu => ?_⟩
  rcases List.mem_append.1 hu with hu | hu
  · exact hk.2.2 u hu
  · simp only [List.mem_cons, List.not_mem_nil, or_false] at hu
    subst hu
    exact Box3.new w x y z t
/-- Good, and of at most so many digits. -/
def fineD (k : Nat) (s : ByteArray) (e : Int) : Bool := goodB s e && decide (s.size ≤ k)
theorem fineD_good {k : Nat} {s : ByteArray} {e : Int} (h : fineD k s e = true) : goodB s e = true ∧ s.size ≤ k := by
  simpa [fineD] using h
def fineT (k : Nat) (t : Bool × ByteArray × Int) : Bool := fineD k t.2.1 t.2.2
set_option maxHeartbeats 1600000 in
set_option maxRecDepth 100000 in
theorem good06_c (b : Nat) (L : List (Bool × ByteArray × Int)) (w : World) (hL : L.length ≤ 100) (hb0 : b < w.heap.size)
    (hc : ∀ j t, L[j]? = some t → w.cell? ⟨b, j * 3, none⟩ = some (.bool t.1) ∧ w.cell? ⟨b, j * 3 + 1, none⟩ = some (.string t.2.1) ∧ w.cell? ⟨b, j * 3 + 2, none⟩ = some (.int .i64 t.2.2))
    (hx : ∀ t ∈ L, t.2.1.size ≤ maxLen) (hP : Pw w) :
    Calls Tryd.prog 8 #[.slice (some ⟨b, 0, none⟩) L.length L.length] w fun e w' => e = .returned (.bool (L.all (fineT 200))) ∧ Below w.heap.size w w' := by
  have HC := Lib.hid hc
  have HX := Lib.hid hx
  have HP := Lib.hid hP
  have HB0 := Lib.hid hb0
  clear hc hx hP hb0
  generalize hm : L.length = m at hL
  have HM := Lib.hid hm
  clear hm
  go_enter Tryd.func8, Tryd.ntmps8
  go_wp2
  go_loopw [3] (fun i wr => ∃ k : Nat, k ≤ m ∧ i = .int .i64 k ∧ (∀ j t, j < k → L[j]? = some t → fineT 200 t = true) ∧ Below w.heap.size w wr) (fun i _ => m - (intOf i).toNat)
  case atStart => exact ⟨0, Nat.zero_le _, rfl, fun j _ hj => absurd hj (by omega), Below.refl _ _⟩
  case round =>
    obtain ⟨k, hk, rfl, hall0, hb1⟩ := hrel
    have hall := Lib.hid hall0
    have HB := Lib.hid hb1
    clear hall0 hb1
    by_cases hlt : k < m
    · obtain ⟨t, ht⟩ : ∃ t, L[k]? = some t := ⟨L[k]'(by rw [HM.out]; exact hlt), List.getElem?_eq_getElem _⟩
      have hcell := HC.out k t ht
      have hsz := HX.out t (List.mem_of_getElem? ht)
      have HT := Lib.hid ht
      clear ht
      rcases t with ⟨n, s, e⟩
      dsimp only at hcell hsz
      have c0 : wr.cell? ⟨b, k * 3, none⟩ = some (.bool n) := (HB.out.cell (p := ⟨b, k * 3, none⟩) HB0.out).trans hcell.1
      have c1 : wr.cell? ⟨b, k * 3 + 1, none⟩ = some (.string s) := (HB.out.cell (p := ⟨b, k * 3 + 1, none⟩) HB0.out).trans hcell.2.1
      have c2 : wr.cell? ⟨b, k * 3 + 2, none⟩ = some (.int .i64 e) := (HB.out.cell (p := ⟨b, k * 3 + 2, none⟩) HB0.out).trans hcell.2.2
      clear hcell
      have HG := Lib.hid (ref5Good_c n s e wr hsz (HP.out.below HB.out))
      clear hsz
      rcases hg : goodB s e with _ | _
      · rw [hg] at HG
        have HGF := Lib.hid hg
        clear hg
        go_wp2_with fail
        refine HG.out.mono ?_
        rintro r w1 ⟨rfl, hb⟩
        have HB1 := Lib.hid (HB.out.trans (hb.mono HB.out.size))
        clear hb HB HG
        go_wp2
        go_ret
        refine ⟨?_, HB1.out⟩
        have e : L.all (fineT 200) = false := by
          rw [List.all_eq_false]
          refine ⟨_, List.mem_of_getElem? HT.out, ?_⟩
          simp [fineT, fineD, HGF.out]
        rw [e]; rfl
      · rw [hg] at HG
        have HGT := Lib.hid hg
        clear hg
        by_cases hbig : 200 < s.size
        · go_wp2_with fail
          refine HG.out.mono ?_
          rintro r w1 ⟨rfl, hb⟩
          have HB1 := Lib.hid (HB.out.trans (hb.mono HB.out.size))
          have d1 : w1.cell? ⟨b, k * 3 + 1, none⟩ = some (.string s) := (hb.cell (p := ⟨b, k * 3 + 1, none⟩) (Nat.lt_of_lt_of_le HB0.out HB.out.size)).trans c1
          clear hb HB HG c0 c1 c2
          go_wp2
          go_ret
          refine ⟨?_, HB1.out⟩
          have e : L.all (fineT 200) = false := by
            rw [List.all_eq_false]
            refine ⟨_, List.mem_of_getElem? HT.out, ?_⟩
            simp [fineT, fineD]; omega
          rw [e]; rfl
        · go_wp2_with fail
          refine HG.out.mono ?_
          rintro r w1 ⟨rfl, hb⟩
          have HB1 := Lib.hid (HB.out.trans (hb.mono HB.out.size))
          have d1 : w1.cell? ⟨b, k * 3 + 1, none⟩ = some (.string s) := (hb.cell (p := ⟨b, k * 3 + 1, none⟩) (Nat.lt_of_lt_of_le HB0.out HB.out.size)).trans c1
          clear hb HB HG c0 c1 c2
          go_wp2
          go_roundw
          case rel =>
            refine ⟨k + 1, by omega, by go_num, fun j t hj ht => ?_, HB1.out⟩
            rcases Nat.lt_or_ge j k with hjk | hjk
            · exact hall.out j t hjk ht
            · obtain rfl : j = k := by omega
              rw [HT.out] at ht
              simp only [Option.some.injEq] at ht
              subst ht
              simp [fineT, fineD, HGT.out]; omega
          case measure => simp [intOf]; omega
    · obtain rfl : k = m := by omega
      go_wp2
      go_ret
      refine ⟨?_, HB.out⟩
      have e : L.all (fineT 200) = true := by
        rw [List.all_eq_true]
        intro t ht
        obtain ⟨j, hj⟩ := List.getElem?_of_mem ht
        refine hall.out j t ?_ hj
        have := (List.getElem?_eq_some_iff.1 hj).1
        rw [HM.out] at this; exact this
      rw [e]; rfl
theorem good06_2 (n m : Bool) (s t : ByteArray) (e f : Int) (b : Nat) (w : World) (hg : w.heap.size = b) (h : s.size ≤ maxLen) (h' : t.size ≤ maxLen) (hP : Pw w) :
    Calls Tryd.prog 8 #[.slice (some ⟨b, 0, none⟩) 2 2] (w.alloc (.cells #[.bool n, .string s, .int .i64 e, .bool m, .string t, .int .i64 f] 23))
      fun r w' => r = .returned (.bool (fineD 200 s e && fineD 200 t f)) ∧ Below w.heap.size w w' := by
  subst hg
  have hb := (Below.refl w.heap.size w).alloc (Nat.le_refl _) (.cells #[.bool n, .string s, .int .i64 e, .bool m, .string t, .int .i64 f] 23)
  have hg := good06_c w.heap.size [(n, s, e), (m, t, f)] (w.alloc (.cells #[.bool n, .string s, .int .i64 e, .bool m, .string t, .int .i64 f] 23)) (by simp) (by simp)
    (fun j t ht => by
      rw [World.cell?_alloc_at _ _ _ _ rfl, World.cell?_alloc_at _ _ _ _ rfl, World.cell?_alloc_at _ _ _ _ rfl]
      match j, ht with
      | 0, ht => simp at ht; subst ht; exact ⟨rfl, rfl, rfl⟩
      | 1, ht => simp at ht; subst ht; exact ⟨rfl, rfl, rfl⟩
      | (k + 2), ht => simp at ht)
    (fun t ht => by
      rcases List.mem_cons.1 ht with rfl | ht
      · exact h
      · rcases List.mem_cons.1 ht with rfl | ht
        · exact h'
        · simp at ht) (hP.below hb)
  refine hg.mono ?_
  rintro r w' ⟨rfl, hb2⟩
  exact ⟨by simp [List.all_cons, fineT], hb.trans (hb2.mono (by simp))⟩
theorem good06_3 (n m l : Bool) (s t u : ByteArray) (e f g : Int) (b : Nat) (w : World) (hg : w.heap.size = b) (h : s.size ≤ maxLen) (h' : t.size ≤ maxLen) (h'' : u.size ≤ maxLen) (hP : Pw w) :
    Calls Tryd.prog 8 #[.slice (some ⟨b, 0, none⟩) 3 3] (w.alloc (.cells #[.bool n, .string s, .int .i64 e, .bool m, .string t, .int .i64 f, .bool l, .string u, .int .i64 g] 23))
      fun r w' => r = .returned (.bool (fineD 200 s e && (fineD 200 t f && fineD 200 u g))) ∧ Below w.heap.size w w' := by
  subst hg
  have hb := (Below.refl w.heap.size w).alloc (Nat.le_refl _) (.cells #[.bool n, .string s, .int .i64 e, .bool m, .string t, .int .i64 f, .bool l, .string u, .int .i64 g] 23)
  have hg := good06_c w.heap.size [(n, s, e), (m, t, f), (l, u, g)] (w.alloc (.cells #[.bool n, .string s, .int .i64 e, .bool m, .string t, .int .i64 f, .bool l, .string u, .int .i64 g] 23)) (by simp) (by simp)
    (fun j t ht => by
      rw [World.cell?_alloc_at _ _ _ _ rfl, World.cell?_alloc_at _ _ _ _ rfl, World.cell?_alloc_at _ _ _ _ rfl]
      match j, ht with
      | 0, ht => simp at ht; subst ht; exact ⟨rfl, rfl, rfl⟩
      | 1, ht => simp at ht; subst ht; exact ⟨rfl, rfl, rfl⟩
      | 2, ht => simp at ht; subst ht; exact ⟨rfl, rfl, rfl⟩
      | (k + 3), ht => simp at ht)
    (fun t ht => by
      rcases List.mem_cons.1 ht with rfl | ht
      · exact h
      · rcases List.mem_cons.1 ht with rfl | ht
        · exact h'
        · rcases List.mem_cons.1 ht with rfl | ht
          · exact h''
          · simp at ht) (hP.below hb)
  refine hg.mono ?_
  rintro r w' ⟨rfl, hb2⟩
  exact ⟨by simp [List.all_cons, fineT], hb.trans (hb2.mono (by simp))⟩
end Go.Proofs.YtbjdledincahkaaDoor
