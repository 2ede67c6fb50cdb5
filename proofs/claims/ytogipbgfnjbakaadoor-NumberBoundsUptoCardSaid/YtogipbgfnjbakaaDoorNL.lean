/-
  NL: the program's sorts of characters, and what asks them.
-/
import Derived.WalkMore
import Derived.Deep.Strs
import Derived.Test.YtogipbgfnjbakaaDoorNK
set_option maxRecDepth 100000
namespace Go.Proofs.YtogipbgfnjbakaaDoor
open Go.RowKit
theorem ascii_at {s : ByteArray} (h : ∀ b ∈ bts s, b < 128) {k : Nat} (hk : k < s.size) : s[k].toNat < 128 := by
  obtain ⟨hl, e⟩ := bts_at hk
  rw [← e]
  exact h _ (List.getElem_mem hl)
set_option maxHeartbeats 1000000 in
theorem indexRune_hi (s : ByteArray) (r : Nat) (w : World) (ha : ∀ b ∈ bts s, b < 128) (hr : 128 ≤ r) (hr2 : r ≤ 1114111) (_hs : s.size ≤ 1000) : Calls Tryd.prog 98 #[.string s, .int .i32 (r : Int)] w fun e w' =>
    e = .returned (.int .i64 (-1)) ∧ Below w.heap.size w w' := by
  have HA := Lib.hid ha
  clear ha
  have g0 : decide ((0 : Int) ≤ (r : Int)) = true := decide_eq_true (by omega)
  have g1 : decide ((r : Int) < 128) = false := decide_eq_false (by omega)
  go_enter Tryd.func98, Tryd.ntmps98
  by_cases h : r = 65533
  · subst h
    go_wp2
    go_loopg [] s.size (fun gf wx => ∃ pos : Nat, wx.heap[w.heap.size]? = some (.stringIter s pos) ∧ Below w.heap.size w wx ∧ s.size ≤ pos + gf)
    case atStart => exact ⟨0, World.iter_heap w s 0, (Below.refl _ w).alloc (Nat.le_refl _) _, by omega⟩
    case round =>
      obtain ⟨pos, hit, hbw, hfu⟩ := hrel
      by_cases hps : pos < s.size
      · obtain ⟨g', rfl⟩ : ∃ g', gk = g' + 1 := ⟨gk - 1, by omega⟩
        have hlt := ascii_at HA.out hps
        have hnx : ∀ ty, (Instr.next (.pointer (some ⟨w.heap.size, 0, none⟩)) true ty).run Tryd.prog wr = _ := fun ty => Lib.run_next_ascii_at wr w.heap.size s pos ty hit hps hlt
        have hne : (((s[pos].toNat : Nat) : Int) == 65533) = false := by simp only [beq_eq_false_iff_ne, ne_eq]; omega
        have hit2 := Lib.iterAt_heap wr w.heap.size s pos (pos + 1) hit
        have hbw2 := Lib.below_iterAt hbw (k := w.heap.size) (Nat.le_refl _) s (pos + 1)
        clear hlt
        go_wp2
        go_roundg g'
        case measure => omega
        case rel => exact ⟨pos + 1, hit2, hbw2, by omega⟩
      · have hnx : ∀ ty, (Instr.next (.pointer (some ⟨w.heap.size, 0, none⟩)) true ty).run Tryd.prog wr = _ := fun ty => Lib.run_next_end_at wr w.heap.size s pos ty hit hps
        go_wp2
        go_ret
        exact ⟨rfl, hbw⟩
  · have g2 : ((r : Int) == 65533) = false := by simp only [beq_eq_false_iff_ne, ne_eq]; omega
    have HV := Lib.hid (fun W => Tryd.utf8_ValidRune (r : Int) W)
    cases hv : Lib.validRune (r : Int)
    · rw [hv] at HV
      clear hv h
      go_wp2_with (go_at_call 107; refine (HV.out _).mono ?_; rintro e w' ⟨rfl, rfl⟩)
      go_ret
      exact ⟨rfl, Below.refl _ _⟩
    · rw [hv] at HV
      have hV : Utf8.valid (r : Int) = true := by
        rw [← hv, Bool.eq_iff_iff]
        simp [Utf8.valid, Lib.validRune]
        omega
      have hef := encode_facts (r : Int) hV (by omega)
      have hcv : ∀ W, (convert 21 9 (.int .i32 (r : Int))).run Tryd.prog W = .ok (.string (Utf8.encode (r : Int))) W := fun W =>
        run_convert_int_string W 21 9 .i32 (r : Int) (by rw [Tryd.underlying21]; rfl) Tryd.underlying9
      clear h hV hv
      generalize hE : Utf8.encode (r : Int) = E at *
      obtain ⟨e1, e2, e3⟩ := hef
      obtain ⟨k, hk⟩ : ∃ k, E.size = k + 1 := ⟨E.size - 1, by omega⟩
      have hkE : k < E.size := by omega
      have hlast : 128 ≤ E[k].toNat := by
        have := e3 (by omega)
        simp only [hk, Nat.add_sub_cancel] at this
        exact this
      have hsub : (E.size : Int) - 1 = (k : Int) := by omega
      clear e3
      by_cases hks : k < s.size
      · have hlo := ascii_at HA.out hks
        have hne : (((s[k].toNat : Nat) : Int) != ((E[k].toNat : Nat) : Int)) = true := by simp only [bne_iff_ne, ne_eq]; omega
        have HI : Hid (∀ W, Calls Tryd.prog 106 #[.string (s.extract (k + 1) s.size), .int .u8 ((E[k].toNat : Nat) : Int)] W fun e w' => e = .returned (.int .i64 (-1)) ∧ W = w') := Lib.hid fun W => by
          refine (Tryd.strings_IndexByte (s.extract (k + 1) s.size) ((E[k].toNat : Nat) : Int) W).mono ?_
          rintro e w' ⟨rfl, rfl⟩
          refine ⟨?_, rfl⟩
          have hn : (s.extract (k + 1) s.size).data.toList.any (· == (((E[k].toNat : Nat) : Int)).toNat.toUInt8) = false := by
            rw [← mp_any]
            refine any_false fun b hb => ?_
            have hb' : b ∈ bts (s.extract (k + 1) s.size) := hb
            rw [bts_from] at hb'
            have := HA.out b (List.mem_of_mem_drop hb')
            rw [Int.toNat_natCast, Nat.toUInt8, UInt8.ofNat_toNat]
            simp only [beq_eq_false_iff_ne, ne_eq]
            omega
          have := has_index (s.extract (k + 1) s.size).data.toList (((E[k].toNat : Nat) : Int)).toNat.toUInt8
          rw [hn, decide_eq_false_iff_not] at this
          have hge := Lib.indexByte_ge (s.extract (k + 1) s.size).data.toList (((E[k].toNat : Nat) : Int)).toNat.toUInt8
          rw [show Lib.indexByte (s.extract (k + 1) s.size).data.toList (((E[k].toNat : Nat) : Int)).toNat.toUInt8 = -1 by omega]
        clear hlo hlast hk
        go_wp2_with (first
          | (go_at_call 107; refine (HV.out _).mono ?_; rintro e w' ⟨rfl, rfl⟩)
          | fail)
        go_step3
        go_wp2
        go_loopw [9] (fun iv wr => iv = .int .i64 (k : Int) ∧ wr = w') (fun _ _ => 0)
        case atStart => exact ⟨rfl, rfl⟩
        case round =>
          obtain ⟨rfl, rfl⟩ := hrel
          go_wp2
          go_step3
          go_wp2
          go_quiet (fail)
          go_wp2
          go_quiet ((go_at_call 106; exact quiet_add_left (HI.out _)))
          go_wp2
          rw [Exit.noGoto_ret]
          go_wp2
          rw [Exit.noGoto_ret]
          go_ret
          exact ⟨rfl, (Below.refl _ _).of_drewN _⟩
      · have hlt : decide ((k : Int) < (s.size : Int)) = false := decide_eq_false (by omega)
        go_wp2_with (first
          | (go_at_call 107; refine (HV.out _).mono ?_; rintro e w' ⟨rfl, rfl⟩)
          | fail)
        go_step3
        go_wp2
        go_loopw [9] (fun iv wr => iv = .int .i64 (k : Int) ∧ wr = w') (fun _ _ => 0)
        case atStart => exact ⟨rfl, rfl⟩
        case round =>
          obtain ⟨rfl, rfl⟩ := hrel
          go_wp2
          rw [Exit.noGoto_ret]
          go_ret
          exact ⟨rfl, Below.refl _ _⟩
/-- The sort of the characters that s has. -/
def inS8 (s : ByteArray) (r : Nat) : Bool := (bts s).any (· == r)
theorem inS8_lo {s : ByteArray} (ha : ∀ b ∈ bts s, b < 128) : LoA (inS8 s) := by
  intro c hc
  obtain ⟨b, hb, e⟩ := List.any_eq_true.1 hc
  rw [beq_iff_eq] at e
  subst e
  exact ha b hb
set_option maxHeartbeats 1000000 in
theorem containsRune_c (s : ByteArray) (r : Nat) (w : World) (ha : ∀ b ∈ bts s, b < 128) (hr2 : r ≤ 1114111) (hs : s.size ≤ 1000) : Calls Tryd.prog 81 #[.string s, .int .i32 (r : Int)] w fun e w' =>
    e = .returned (.bool (inS8 s r)) ∧ Below w.heap.size w w' := by
  by_cases hr : r < 128
  · refine (Tryd.strings_ContainsRune_ascii s (r : Int) w (by omega) (by omega)).mono ?_
    rintro e w' ⟨rfl, rfl⟩
    refine ⟨?_, Below.refl _ _⟩
    rw [has_index, ← mp_any]
    have : (((r : Nat) : Int).toNat.toUInt8).toNat = r := by
      rw [Int.toNat_natCast]
      show (UInt8.ofNat r).toNat = r
      simp
      omega
    rw [this]; rfl
  · have hf : inS8 s r = false := (inS8_lo ha).hi (by omega)
    have HI := Lib.hid (fun W => indexRune_hi s r W ha (by omega) hr2 hs)
    rw [hf]
    clear ha hr hf
    go_enter Tryd.func81, Tryd.ntmps81
    go_wp2_with (first
      | (go_at_call 98; refine (HI.out _).mono ?_; rintro e w' ⟨rfl, hb⟩)
      | fail)
    go_ret
    exact ⟨rfl, hb⟩
/-- A sort: the function value of 'of', over a box that holds its characters. -/
def SortV (s : ByteArray) (v : Value) (w : World) : Prop := ∃ B, v = .func (.func 80) #[] #[.pointer (some ⟨B, 0, none⟩)] ∧ B < w.heap.size ∧ w.cell? ⟨B, 0, none⟩ = some (.string s)
theorem SortV.below {s : ByteArray} {v : Value} {w w' : World} (h : SortV s v w) (hb : Below w.heap.size w w') : SortV s v w' := by
  obtain ⟨B, e, h1, h2⟩ := h
  exact ⟨B, e, Nat.lt_of_lt_of_le h1 hb.size, (hb.cell (p := ⟨B, 0, none⟩) h1).trans h2⟩
set_option maxHeartbeats 1000000 in
theorem of_c (s : ByteArray) (w : World) : Calls Tryd.prog 54 #[.string s] w fun e w' => ∃ B, e = .returned (.func (.func 80) #[] #[.pointer (some ⟨B, 0, none⟩)]) ∧ SortV s (.func (.func 80) #[] #[.pointer (some ⟨B, 0, none⟩)]) w' ∧ Below w.heap.size w w' := by
  go_enter Tryd.func54, Tryd.ntmps54
  go_wp2
  go_ret
  refine ⟨_, rfl, ⟨w.heap.size, rfl, by simp, by simp⟩, (Below.refl _ w).alloc (Nat.le_refl _) _⟩
set_option maxHeartbeats 1000000 in
/-- What the library asks of a sort. -/
theorem sort_grows {s : ByteArray} {B : Nat} {w : World} (ha : ∀ b ∈ bts s, b < 128) (hs : s.size ≤ 1000) (h1 : B < w.heap.size) (h2 : w.cell? ⟨B, 0, none⟩ = some (.string s)) :
    PredGrows Tryd.prog 80 #[.pointer (some ⟨B, 0, none⟩)] (inS8 s) w := by
  intro W x hx hb
  have hc : W.cell? ⟨B, 0, none⟩ = some (.string s) := (hb.cell (p := ⟨B, 0, none⟩) h1).trans h2
  have HC := Lib.hid (fun W => containsRune_c s x W ha hx hs)
  show Calls _ _ #[.int .i32 (x : Int), .pointer (some ⟨B, 0, none⟩)] W _
  clear hb h2 ha
  go_enter Tryd.func80, Tryd.ntmps80
  go_wp2_with (first
    | (go_at_call 81; refine (HC.out _).mono ?_; rintro e w' ⟨rfl, hb⟩)
    | fail)
  go_ret
  exact ⟨rfl, hb⟩
theorem enters_of1 : ∀ args w, (callFunc 80 args).run Tryd.prog w = .ok (.enter 80 args) w := enters_of Tryd.func80 (by kernel_rfl) rfl
theorem containsFunc_c (s t : ByteArray) (v : Value) (w : World) (ha : ∀ b ∈ bts s, b < 128) (hs : s.size ≤ 1000) (hv : SortV s v w) : Calls Tryd.prog 82 #[.string t, v] w fun e w' =>
    e = .returned (.bool ((bts t).any (inS8 s))) ∧ Below w.heap.size w w' := by
  obtain ⟨B, rfl, h1, h2⟩ := hv
  have := Tryd.strings_ContainsFunc_grows 80 #[.pointer (some ⟨B, 0, none⟩)] enters_of1 (inS8 s) t w (sort_grows ha hs h1 h2)
  rwa [idxF_any (inS8_lo ha)] at this
theorem trimFunc_c (s t : ByteArray) (v : Value) (w : World) (ha : ∀ b ∈ bts s, b < 128) (hs : s.size ≤ 1000) (hv : SortV s v w) : Calls Tryd.prog 79 #[.string t, v] w fun e w' =>
    e = .returned (.string (stz ((bts t).dropWhile (inS8 s)))) ∧ Below w.heap.size w w' := by
  obtain ⟨B, rfl, h1, h2⟩ := hv
  have := Tryd.strings_TrimLeftFunc_grows 80 #[.pointer (some ⟨B, 0, none⟩)] enters_of1 (inS8 s) t w (sort_grows ha hs h1 h2)
  rwa [trimF_lo (inS8_lo ha)] at this
set_option maxHeartbeats 1000000 in
theorem has15_c (s t : ByteArray) (v : Value) (w : World) (ha : ∀ b ∈ bts s, b < 128) (hs : s.size ≤ 1000) (hv : SortV s v w) : Calls Tryd.prog 56 #[.string t, v] w fun e w' =>
    e = .returned (.bool ((bts t).any (inS8 s))) ∧ Below w.heap.size w w' := by
  have HC := Lib.hid (containsFunc_c s t v w ha hs hv)
  clear ha hv
  go_enter Tryd.func56, Tryd.ntmps56
  go_wp2_with (first
    | (go_at_call 82; refine HC.out.mono ?_; rintro e w' ⟨rfl, hb⟩)
    | fail)
  go_ret
  exact ⟨rfl, hb⟩
/-- Rows of sorts, one behind the other, taken away. -/
def dws (ss : List ByteArray) (l : List Nat) : List Nat := ss.foldl (fun l s => l.dropWhile (inS8 s)) l
theorem dws_take {ss : List ByteArray} {k : Nat} (h : k < ss.length) (l : List Nat) : dws (ss.take (k + 1)) l = (dws (ss.take k) l).dropWhile (inS8 ss[k]) := by
  unfold dws
  rw [List.take_succ_eq_append_getElem h, List.foldl_append]; rfl
/-- A row of cells that hold sorts. -/
structure Sorts (w : World) (g : Nat) (ss : List ByteArray) : Prop where
  lt : g < w.heap.size
  lo : ∀ k (h : k < ss.length), (∀ b ∈ bts ss[k], b < 128) ∧ ss[k].size ≤ 1000
  at_ : ∀ k (h : k < ss.length), ∃ v, w.cell? ⟨g, k, none⟩ = some v ∧ SortV ss[k] v w
theorem Sorts.below {w w' : World} {g : Nat} {ss : List ByteArray} (h : Sorts w g ss) (hb : Below w.heap.size w w') : Sorts w' g ss :=
  ⟨Nat.lt_of_lt_of_le h.lt hb.size, h.lo, fun k hk => by
    obtain ⟨v, h1, h2⟩ := h.at_ k hk
    exact ⟨v, (hb.cell (p := ⟨g, k, none⟩) h.lt).trans h1, h2.below hb⟩⟩
set_option maxHeartbeats 1000000 in
theorem inRows_c (ss : List ByteArray) (t : ByteArray) (g c : Nat) (w : World) (hl : ss.length ≤ 1000) (h : Sorts w g ss) : Calls Tryd.prog 53 #[.string t, .slice (some ⟨g, 0, none⟩) ss.length c] w fun e w' =>
    e = .returned (.bool (dws ss (bts t)).isEmpty) ∧ Below w.heap.size w w' := by
  have HS := Lib.hid h
  clear h
  obtain ⟨n, hn⟩ : ∃ n, ss.length = n := ⟨_, rfl⟩
  rw [hn] at hl ⊢
  have HN := Lib.hid hn
  clear hn
  go_enter Tryd.func53, Tryd.ntmps53
  go_wp2
  go_loopw [0, 9] (fun sv iv wr => ∃ (k : Nat) (u : ByteArray), k ≤ n ∧ iv = .int .i64 (k : Int) ∧ sv = .string u ∧ bts u = dws (ss.take k) (bts t) ∧ Below w.heap.size w wr) (fun _ iv _ => n - (intOf iv).toNat)
  case atStart => exact ⟨0, t, Nat.zero_le _, rfl, rfl, by rw [List.take_zero]; rfl, Below.refl _ _⟩
  case round =>
    obtain ⟨k, u, hk, rfl, rfl, hu0, hb0⟩ := hrel
    have HU := Lib.hid hu0
    have HB := Lib.hid hb0
    have HSW := Lib.hid (HS.out.below hb0)
    clear hu0 hb0
    by_cases hlt : k < n
    · have hks : k < ss.length := by rw [HN.out]; exact hlt
      obtain ⟨v, hc, hv0⟩ := HSW.out.at_ k hks
      have HC := Lib.hid (trimFunc_c ss[k] u v wr (HSW.out.lo k hks).1 (HSW.out.lo k hks).2 hv0)
      have HDT := Lib.hid (dws_take hks (bts t))
      clear hv0
      go_wp2_with (first
        | (go_at_call 79; refine HC.out.mono ?_; rintro e w' ⟨rfl, hb⟩)
        | fail)
      go_roundw
      case rel =>
        refine ⟨k + 1, _, by omega, by go_num, rfl, ?_, HB.out.trans (hb.mono HB.out.size)⟩
        rw [bts_stz fun b hb => bts_lt u b ((List.dropWhile_sublist _).subset hb), HU.out, HDT.out]
      case measure => simp [intOf]; omega
    · have hke : k = n := by omega
      subst hke
      go_wp2
      go_ret
      have e : ss.take k = ss := List.take_of_length_le (by rw [HN.out]; exact Nat.le_refl _)
      refine ⟨?_, HB.out⟩
      show Ending.returned (.bool u.toList.isEmpty) = _
      rw [isEmpty_bts, ← bts_length, HU.out, e]
      cases dws ss (bts t) <;> rfl
end Go.Proofs.YtogipbgfnjbakaaDoor
